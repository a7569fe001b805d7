/- The law's own world: keep, walked. -/
import Derived.Test.YticbbncdcannlaaG04
import Derived.Test.YticbbncdcannlaaG02
import Derived.Deep.QuietTactic
import Derived.BigQuiet

namespace Go.Proofs.Yticbbncdcannlaa
open Go.RowKit

def WS.lower (S : WS) : WS := { S with last := S.last - 1 }

/-- No list of the world lies in that block. -/
def Apart (S : WS) (l : Value) : Prop := (∀ (i : Nat) (v : Value), S.lists[i]? = some v → ∀ b, v.ownBlock = some b → l.ownBlock ≠ some b) ∧ (∀ (i : Nat) (v : Value), S.turned[i]? = some v → ∀ b, v.ownBlock = some b → l.ownBlock ≠ some b)

theorem OwI.store {w : World} {ao : Option Addr} {n c : Nat} {xs : List Int} (h : OwI w (.slice ao n c) xs) (k : Nat) (m : Int) (hk : k < xs.length) :
    ∃ g, ao = some ⟨g, 0, none⟩ ∧ OwI (w.setCell ⟨g, k, none⟩ (.int .i64 m)) (.slice ao n c) (xs.set k m) ∧ w.cell? ⟨g, k, none⟩ = some (.int .i64 (nth xs k)) ∧ w.frozen? ⟨g, k, none⟩ = false := by
  obtain ⟨g, cap, hv, hcap, hg, hc⟩ := h.slice (by omega)
  simp at hv
  obtain ⟨rfl, rfl, rfl⟩ := hv
  refine ⟨g, rfl, ?_, hc k hk, World.ownsRow.frozenAt h k⟩
  have := (World.ownsRow.stored h k (.int .i64 m)).1
  unfold OwI
  rw [List.length_set]
  have e : (ints xs).set k (.int .i64 m) = ints (xs.set k m) := by simp [ints, List.map_set]
  rw [← e]
  exact this

theorem RdI.one' (w : World) (x : Int) (h : Nat) (e : w.heap.size = h) : RdI (w.alloc (.cells #[.int .i64 x] 3)) (.slice (some ⟨h, 0, none⟩) 1 1) [x] := by
  subst e
  exact RdI.one w x

theorem Same.tags {w : World} {v : Value} {m : Int} {T T' : Tags} {t : Nat × Nat} (hs : Same w v m) (hv : Tagged T v t) (k : TagsTo w T T') : Tagged T' v t := fun b e => by
  obtain ⟨_, _, _, hb⟩ := hs
  rw [k b (hb b e)]; exact hv b e

end Go.Proofs.Yticbbncdcannlaa

/- What the law asks of a program's space: its contracts, as one notion; the state of the law's world with its spaces. -/
namespace Go.Proofs.Yticbbncdcannlaa
open Go.RowKit

/-- The space of owner o is σ' behind the call; all that is not his is as it was. -/
def Step (R : Tags → Nat → World → Nat → Sp → Prop) (T : Tags) (o : Nat) (w : World) (p : Nat) (σ' : Sp) (w' : World) : Prop :=
  ∃ T', TagsTo w T T' ∧ R T' o w' p σ' ∧ Kp (fun b => (T b).1 = o) w w'

/-- Likewise; and a list came out, in new memory, which bears the tag t. -/
def StepL (R : Tags → Nat → World → Nat → Sp → Prop) (T : Tags) (o : Nat) (w : World) (p : Nat) (σ' : Sp) (w' : World) (t : Nat × Nat) (v : Value) (xs : List Int) : Prop :=
  ∃ T', TagsTo w T T' ∧ R T' o w' p σ' ∧ Kp (fun b => (T b).1 = o) w w' ∧ ∃ ao c, v = .slice ao xs.length c ∧ OwI w' (.slice ao xs.length c) xs ∧ Tagged T' (.slice ao xs.length c) t ∧ ∀ b, (Value.slice ao xs.length c).ownBlock = some b → w.heap.size ≤ b

theorem retag_small {w : World} {T : Tags} {t : Nat × Nat} : TagsTo w T (retag w T t) := retag_to w T t

/-- A side: its block, the two spaces' blocks, what they are. -/
structure SD where
  sb : Nat
  px : Nat
  py : Nat
  σx : Sp
  σy : Sp

theorem set_same {α : Type} (l : List α) (i : Nat) (a : α) (h : l[i]? = some a) : l.set i a = l := by
  apply List.ext_getElem?
  intro j
  rw [List.getElem?_set]
  split
  · rename_i e
    subst e
    split
    · exact h.symm
    · rename_i hn
      rw [List.getElem?_eq_none (by omega)]
  · rfl

theorem set_get (L : List SD) (i j : Nat) (d e : SD) (h : (L.set i d)[j]? = some e) : (j = i ∧ e = d) ∨ (j ≠ i ∧ L[j]? = some e) := by
  rw [List.getElem?_set] at h
  split at h
  · rename_i hij
    split at h
    · simp at h; exact .inl ⟨hij.symm, h.symm⟩
    · simp at h
  · rename_i hij
    exact .inr ⟨fun e => hij e.symm, h⟩

end Go.Proofs.Yticbbncdcannlaa

/- The document's answer, walked: Index. -/
namespace Go.Proofs.Yticbbncdcannlaa
open Go.RowKit

/-- What is left of a rank behind the last m axes. -/
def remTo (s : List Int) (r : Int) : Nat → Int
  | 0 => r
  | m + 1 => remTo s r m / nth s (s.length - 1 - m)

/-- The index of a rank. -/
def idx (s : List Int) (r : Int) : List Int := (List.range s.length).map fun k => remTo s r (s.length - 1 - k) % nth s k

theorem idx_length (s : List Int) (r : Int) : (idx s r).length = s.length := by simp [idx]
theorem idx_nth (s : List Int) (r : Int) (k : Nat) (h : k < s.length) : nth (idx s r) k = remTo s r (s.length - 1 - k) % nth s k := by
  rw [nth_lt (by rw [idx_length]; exact h)]
  simp [idx]

theorem remTo_bd (s : List Int) (r : Int) (hr : 0 ≤ r) (hs : sized s) (m : Nat) (hm : m ≤ s.length) : 0 ≤ remTo s r m ∧ remTo s r m ≤ r := by
  induction m with
  | zero => simp [remTo, hr]
  | succ m ih =>
    obtain ⟨a, b⟩ := ih (by omega)
    obtain ⟨s1, -⟩ := hs (s.length - 1 - m) (by omega)
    simp only [remTo]
    refine ⟨Int.ediv_nonneg a (by omega), Int.le_trans (Int.ediv_le_self _ a) b⟩

/-- An index is one of its shape. -/
theorem idx_in (s : List Int) (r : Int) (hs : sized s) : inB s (idx s r) := by
  refine ⟨(idx_length s r).symm, fun j hj => ?_⟩
  obtain ⟨s1, -⟩ := hs j hj
  rw [idx_nth s r j hj]
  exact ⟨Int.emod_nonneg _ (by omega), Int.emod_lt_of_pos _ (by omega)⟩

theorem rankTo_congr (s i i' : List Int) (k : Nat) (h : ∀ j, j < k → nth i j = nth i' j) : rankTo s i k = rankTo s i' k := by
  induction k with
  | zero => rfl
  | succ k ih => simp only [rankTo]; rw [ih (fun j hj => h j (by omega)), h k (by omega)]

theorem remTo_vol (s : List Int) (r : Int) (hs : sized s) (h1 : r < vol s) (m : Nat) (hm : m ≤ s.length) : remTo s r m < vol (s.take (s.length - m)) := by
  induction m with
  | zero => simpa [remTo] using h1
  | succ m ih =>
    have := ih (by omega)
    obtain ⟨s1, -⟩ := hs (s.length - 1 - m) (by omega)
    rw [show s.length - m = (s.length - 1 - m) + 1 by omega, vol_take s _ (by omega)] at this
    simp only [remTo]
    rw [show s.length - (m + 1) = s.length - 1 - m by omega]
    exact Int.ediv_lt_of_lt_mul (by omega) this

theorem rankTo_idx (s : List Int) (r : Int) (hs : sized s) (h0 : 0 ≤ r) (h1 : r < vol s) (m : Nat) (hm : m ≤ s.length) : rankTo s (idx s r) (s.length - m) = remTo s r m := by
  have key : ∀ k, k ≤ s.length → rankTo s (idx s r) k = remTo s r (s.length - k) := by
    intro k
    induction k with
    | zero =>
      intro _
      have a := remTo_vol s r hs h1 s.length (Nat.le_refl _)
      have b := remTo_bd s r h0 hs s.length (Nat.le_refl _)
      simp [vol] at a
      simp only [rankTo, Nat.sub_zero]
      omega
    | succ k ih =>
      intro hk
      have e := ih (by omega)
      simp only [rankTo]
      rw [e, idx_nth s r k (by omega)]
      have : remTo s r (s.length - k) = remTo s r (s.length - 1 - k) / nth s k := by
        rw [show s.length - k = (s.length - 1 - k) + 1 by omega]
        simp only [remTo]
        rw [show s.length - 1 - (s.length - 1 - k) = k by omega]
      rw [this, show s.length - (k + 1) = s.length - 1 - k by omega, Int.mul_comm]
      exact Int.mul_ediv_add_emod _ _
  have := key (s.length - m) (by omega)
  rwa [show s.length - (s.length - m) = m by omega] at this

/-- The rank of the index of a rank is that rank. -/
theorem rank_idx (s : List Int) (r : Int) (hs : sized s) (h0 : 0 ≤ r) (h1 : r < vol s) : rank s (idx s r) = r := by
  unfold rank
  rw [if_pos ((inBb_iff _ _).2 (idx_in s r hs))]
  exact rankTo_idx s r hs h0 h1 0 (by omega)

/-- The index of the rank of an index is that index. -/
theorem idx_rank (s i : List Int) (hs : sized s) (hi : inB s i) : idx s (rankTo s i s.length) = i := by
  have key : ∀ m, m ≤ s.length → remTo s (rankTo s i s.length) m = rankTo s i (s.length - m) := by
    intro m
    induction m with
    | zero => intro _; rfl
    | succ m ih =>
      intro hm
      simp only [remTo]
      rw [ih (by omega)]
      obtain ⟨k, hk⟩ : ∃ k, s.length - m = k + 1 := ⟨s.length - m - 1, by omega⟩
      obtain ⟨s1, -⟩ := hs k (by omega)
      obtain ⟨i1, i2⟩ := hi.2 k (by omega)
      rw [hk, show s.length - 1 - m = k by omega, show s.length - (m + 1) = k by omega]
      simp only [rankTo]
      rw [Int.add_comm, Int.add_mul_ediv_right _ _ (by omega), Int.ediv_eq_zero_of_lt i1 i2, Int.zero_add]
  refine ext_nth (by rw [idx_length]; exact hi.1) (fun j hj => ?_)
  rw [idx_length] at hj
  rw [idx_nth s _ j hj, key _ (by omega), show s.length - (s.length - 1 - j) = j + 1 by omega]
  obtain ⟨s1, -⟩ := hs j hj
  obtain ⟨i1, i2⟩ := hi.2 j hj
  simp only [rankTo]
  rw [Int.add_comm, Int.add_mul_emod_self_right]
  exact Int.emod_eq_of_lt i1 i2

/-- The numbers from the k-th on, 0 ahead of them. -/
def tailFrom (l : List Int) (k : Nat) : List Int := (List.range l.length).map fun j => if k ≤ j then nth l j else 0

theorem tailFrom_length (l : List Int) (k : Nat) : (tailFrom l k).length = l.length := by simp [tailFrom]
theorem tailFrom_zero (l : List Int) : tailFrom l 0 = l := by
  refine ext_nth (tailFrom_length l 0) (fun j hj => ?_)
  rw [nth_lt hj]
  simp [tailFrom]
theorem tailFrom_all (l : List Int) (n : Nat) (hn : l.length = n) : (ints (tailFrom l n)).toArray = rep n (.int .i64 0) := by
  unfold rep
  congr 1
  apply List.ext_getElem
  · simp [ints, tailFrom, hn]
  · intro i h1 h2
    simp [ints, tailFrom, hn] at h1 ⊢
    omega
theorem tailFrom_set (l : List Int) (k : Nat) (hk : k < l.length) : (ints (tailFrom l (k + 1))).toArray.setIfInBounds k (.int .i64 (nth l k)) = (ints (tailFrom l k)).toArray := by
  apply Array.ext_getElem?
  intro i
  by_cases hi : i < l.length
  · by_cases hik : i = k
    · subst hik
      rw [Array.getElem?_setIfInBounds_self_of_lt (by simp [ints, tailFrom]; exact hi)]
      simp [ints, tailFrom, hi]
    · rw [Array.getElem?_setIfInBounds_ne (by omega)]
      simp [ints, tailFrom, hi]
      by_cases h : k ≤ i
      · rw [if_pos h, if_pos (by omega)]
      · rw [if_neg h, if_neg (by omega)]
  · rw [Array.getElem?_eq_none (by simp [ints, tailFrom]; omega), Array.getElem?_eq_none (by simp [ints, tailFrom]; omega)]

end Go.Proofs.Yticbbncdcannlaa

/- The document's answer, walked: Index whole. -/
namespace Go.Proofs.Yticbbncdcannlaa
open Go.RowKit

end Go.Proofs.Yticbbncdcannlaa

/- The document's answer, walked: Meant. -/
namespace Go.Proofs.Yticbbncdcannlaa
open Go.RowKit

/-- Can a shape be stretched to another, as far as its first k axes say? -/
def fitsTo (s t : List Int) (k : Nat) : Prop := ∀ j, j < k → nth s j = nth t (t.length - s.length + j) ∨ nth s j = 1

/-- Can a shape be stretched to another? -/
def stretchB (s t : List Int) : Bool := decide (s.length ≤ t.length) && (List.range s.length).all fun j => decide (nth s j = nth t (t.length - s.length + j)) || decide (nth s j = 1)
theorem stretchB_iff (s t : List Int) : stretchB s t = true ↔ s.length ≤ t.length ∧ fitsTo s t s.length := by
  simp [stretchB, fitsTo]

/-- The index that one of a stretched shape means. -/
def meantOf (s t l : List Int) : List Int := (List.range s.length).map fun k => if 1 < nth s k then nth l (t.length - s.length + k) else 0
theorem meantOf_length (s t l : List Int) : (meantOf s t l).length = s.length := by simp [meantOf]
theorem meantOf_nth (s t l : List Int) (k : Nat) (h : k < s.length) : nth (meantOf s t l) k = if 1 < nth s k then nth l (t.length - s.length + k) else 0 := by
  rw [nth_lt (by rw [meantOf_length]; exact h)]
  simp [meantOf]

/-- For each index of a shape the rank of the one that it means. -/
def meant (s t : List Int) : List Int := (List.range (vol t).toNat).map fun r : Nat => rank s (meantOf s t (idx t r))

/-- The first k numbers, 0 behind them. -/
def headTo (l : List Int) (k : Nat) : List Int := (List.range l.length).map fun j => if j < k then nth l j else 0
theorem headTo_length (l : List Int) (k : Nat) : (headTo l k).length = l.length := by simp [headTo]
theorem headTo_all (l : List Int) (n : Nat) (hn : l.length = n) : headTo l n = l := by
  refine ext_nth (headTo_length l n) (fun j hj => ?_)
  rw [nth_lt hj]
  rw [headTo_length] at hj
  simp [headTo, hn ▸ hj]
theorem headTo_zero (l : List Int) (n : Nat) (hn : l.length = n) : (ints (headTo l 0)).toArray = rep n (.int .i64 0) := by
  unfold rep
  congr 1
  apply List.ext_getElem
  · simp [ints, headTo, hn]
  · intro i h1 h2
    simp [ints, headTo]
theorem headTo_set (l : List Int) (k : Nat) (hk : k < l.length) : (ints (headTo l k)).toArray.setIfInBounds k (.int .i64 (nth l k)) = (ints (headTo l (k + 1))).toArray := by
  apply Array.ext_getElem?
  intro i
  by_cases hi : i < l.length
  · by_cases hik : i = k
    · subst hik
      rw [Array.getElem?_setIfInBounds_self_of_lt (by simp [ints, headTo]; exact hi)]
      simp [ints, headTo, hi]
    · rw [Array.getElem?_setIfInBounds_ne (by omega)]
      simp [ints, headTo, hi]
      by_cases h : i < k
      · rw [if_pos h, if_pos (by omega)]
      · rw [if_neg h, if_neg (by omega)]
  · rw [Array.getElem?_eq_none (by simp [ints, headTo]; omega), Array.getElem?_eq_none (by simp [ints, headTo]; omega)]
theorem headTo_same (l : List Int) (k : Nat) (h0 : nth l k = 0) : headTo l k = headTo l (k + 1) := by
  unfold headTo
  refine List.map_congr_left (fun i _ => ?_)
  by_cases h : i < k
  · rw [if_pos h, if_pos (by omega)]
  · by_cases hik : i = k
    · subst hik; rw [if_neg h, if_pos (by omega), h0]
    · rw [if_neg h, if_neg (by omega)]

end Go.Proofs.Yticbbncdcannlaa

/- The document's answer, walked: Meant, where it can be. -/
namespace Go.Proofs.Yticbbncdcannlaa
open Go.RowKit

theorem meant_length (s t : List Int) : (meant s t).length = (vol t).toNat := by simp [meant]
theorem meant_take (s t : List Int) (k : Nat) (h : k < (vol t).toNat) : (meant s t).take (k + 1) = (meant s t).take k ++ [rank s (meantOf s t (idx t k))] := by
  rw [List.take_succ_eq_append_getElem (by rw [meant_length]; exact h)]
  congr 1
  simp [meant]

theorem meantOf_small (s t l : List Int) (k : Nat) (h : k < s.length) (hk : ¬ 1 < nth s k) : nth (meantOf s t l) k = 0 := by rw [meantOf_nth s t l k h, if_neg hk]
theorem meantOf_big (s t l : List Int) (k : Nat) (h : k < s.length) (hk : 1 < nth s k) : nth (meantOf s t l) k = nth l (t.length - s.length + k) := by rw [meantOf_nth s t l k h, if_pos hk]

theorem rd_of_blk {w : World} {b n : Nat} {xs : List Int} {t : TypeId} (h : w.heap[b]? = some (.cells (ints xs).toArray t (0, 0))) (hn : xs.length = n) : RdI w (.slice (some ⟨b, 0, none⟩) n n) xs :=
  ⟨_, _, by rw [hn], fun _ => ⟨b, 0, rfl, fun j hj => by
    rw [Nat.zero_add, cell_of_row _ b j _ _ _ h]
    simpa using ints_get hj⟩⟩

end Go.Proofs.Yticbbncdcannlaa

/- The document's answer, walked: Meant, whole. -/
namespace Go.Proofs.Yticbbncdcannlaa
open Go.RowKit

theorem rd_parts {w : World} {v : Value} {xs : List Int} (h : RdI w v xs) : ∃ a c, v = .slice a xs.length c ∧ (0 < xs.length → ∃ g o, a = some ⟨g, o, none⟩ ∧ ∀ j, j < xs.length → w.cell? ⟨g, o + j, none⟩ = some (.int .i64 (nth xs j))) := by
  obtain ⟨a, c, e, h⟩ := h
  exact ⟨a, c, e, fun hp => h (fun e' => by rw [e'] at hp; simp at hp)⟩

/-- What is meant is an index: its rank is one of the stretched shape's own. -/
theorem meantOf_in (s t l : List Int) (hs : sized s) (hst : s.length ≤ t.length) (hf : fitsTo s t s.length) (hl : inB t l) : inB s (meantOf s t l) := by
  refine ⟨(meantOf_length s t l).symm, fun j hj => ?_⟩
  obtain ⟨s1, -⟩ := hs j hj
  by_cases hb : 1 < nth s j
  · rw [meantOf_big s t l j hj hb]
    have := hl.2 (t.length - s.length + j) (by omega)
    rcases hf j hj with e | e
    · rw [e]; exact this
    · omega
  · rw [meantOf_small s t l j hj hb]
    omega

theorem meant_bd (s t : List Int) (hs : okShape s) (ht : okShape t) (h : stretchB s t = true) (j : Nat) (hj : j < (vol t).toNat) : 0 ≤ nth (meant s t) j ∧ nth (meant s t) j < vol s := by
  obtain ⟨hst, hf⟩ := (stretchB_iff s t).1 h
  rw [nth_lt (by rw [meant_length]; exact hj)]
  simp only [meant, List.getElem_map, List.getElem_range]
  have hin := meantOf_in s t (idx t j) hs.2.1 hst hf (idx_in t j ht.2.1)
  unfold rank
  rw [if_pos ((inBb_iff _ _).2 hin)]
  have := rank_bd s (meantOf s t (idx t j)) hs.2.1 hin.2 s.length (Nat.le_refl _)
  rwa [List.take_length] at this

end Go.Proofs.Yticbbncdcannlaa
