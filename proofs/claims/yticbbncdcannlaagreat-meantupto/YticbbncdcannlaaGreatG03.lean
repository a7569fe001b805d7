/- The document's answer, walked: Set. -/
import Derived.Deep.RegionHeld3
import Derived.Test.YticbbncdcannlaaGreatG02
import Derived.Test.YticbbncdcannlaaGreatRows
import Derived.Test.YticbbncdcannlaaGreatG01
import Derived.Deep.QuietTactic
import Derived.BigQuiet

namespace Go.Proofs.YticbbncdcannlaaGreat
open Go.RowKit

/-- Set: the state behind it, the error. -/
def Sp.set (σ : Sp) (h v : Int) (i : List Int) : Sp × Int := match σ.find h with
  | none => (σ, 2)
  | some a => if a.ro = true then (σ, 6) else if rank a.shape i < 0 then (σ, 5) else (σ.put a.kind (nth a.cells (rank a.shape i).toNat).toNat (asK a.kind v), 0)

theorem put_ok {σ : Sp} (h : σ.ok) (kind : Int) (c : Nat) (v : Int) : (σ.put kind c v).ok := by
  have := puts_ok h kind (c : Int) (fun _ => v) 1
  simpa [Sp.puts] using this

end Go.Proofs.YticbbncdcannlaaGreat

/- The document's answer, walked: Fill. -/
namespace Go.Proofs.YticbbncdcannlaaGreat
open Go.RowKit

/-- The first k cells of a list written. -/
def Sp.writes (σ : Sp) (kind : Int) (cs : List Int) (f : Nat → Int) : Nat → Sp
  | 0 => σ
  | k + 1 => (σ.writes kind cs f k).put kind (nth cs k).toNat (f k)

theorem put_same (σ : Sp) (kind : Int) (c : Nat) (v : Int) : (σ.put kind c v).arrs = σ.arrs ∧ (σ.put kind c v).bufs = σ.bufs ∧ (σ.put kind c v).n1 = σ.n1 ∧ (σ.put kind c v).n2 = σ.n2 ∧ (∀ j, (σ.put kind c v).cap j = σ.cap j) := by
  unfold Sp.put
  split <;> exact ⟨rfl, rfl, rfl, rfl, fun _ => rfl⟩

theorem writes_ok {σ : Sp} (h : σ.ok) (kind : Int) (cs : List Int) (f : Nat → Int) (k : Nat) : (σ.writes kind cs f k).ok := by
  induction k with
  | zero => exact h
  | succ k ih => exact put_ok ih _ _ _

theorem writes_same (σ : Sp) (kind : Int) (cs : List Int) (f : Nat → Int) (k : Nat) : (σ.writes kind cs f k).arrs = σ.arrs ∧ (σ.writes kind cs f k).bufs = σ.bufs ∧ (∀ j, (σ.writes kind cs f k).cap j = σ.cap j) := by
  induction k with
  | zero => exact ⟨rfl, rfl, fun _ => rfl⟩
  | succ k ih =>
    obtain ⟨h1, h2, h3⟩ := ih
    obtain ⟨e1, e2, -, -, e5⟩ := put_same (σ.writes kind cs f k) kind (nth cs k).toNat (f k)
    exact ⟨e1.trans h1, e2.trans h2, fun j => (e5 j).trans (h3 j)⟩

end Go.Proofs.YticbbncdcannlaaGreat

/- The document's answer, walked: values, Values. -/
namespace Go.Proofs.YticbbncdcannlaaGreat
open Go.RowKit

/-- The values of an array. -/
def Sp.valuesOf (σ : Sp) (a : Arr) : List Int := a.cells.map fun c => nth (σ.vals a.kind) c.toNat

end Go.Proofs.YticbbncdcannlaaGreat

/- The document's answer, walked: Values, Look. -/
namespace Go.Proofs.YticbbncdcannlaaGreat
open Go.RowKit

/-- Values: the list, the error. -/
def Sp.values (σ : Sp) (h : Int) : List Int × Int := match σ.find h with
  | none => ([], 2)
  | some a => (σ.valuesOf a, 0)

/-- A list that comes out: in a block that is new. -/
def NewI (w w' : World) (v : Value) (xs : List Int) : Prop := ∃ ao c, v = .slice ao xs.length c ∧ OwI w' (.slice ao xs.length c) xs ∧ Kp0 w w' ∧ ∀ b, (Value.slice ao xs.length c).ownBlock = some b → w.heap.size ≤ b

theorem NewI.nil {w w' : World} (k : Kp0 w w') : NewI w w' (.slice none 0 0) [] := ⟨none, 0, rfl, OwI.nil _, k, fun b hb => by simp [Value.ownBlock] at hb⟩

/-- Look: kind, shape, read-only, the error. -/
def Sp.look (σ : Sp) (h : Int) : Int × List Int × Bool × Int := match σ.find h with
  | none => (0, [], false, 2)
  | some a => (a.kind, a.shape, a.ro, 0)

end Go.Proofs.YticbbncdcannlaaGreat

/- A list of ints that is made whole and filled place by place. No program but its types. -/
namespace Go.Proofs.YticbbncdcannlaaGreat
open Go.RowKit

/-- The list as it is behind k of its n places. -/
def fillI (xs : List Int) (k n : Nat) : List Int := xs.take k ++ List.replicate (n - k) 0

theorem fillI_length (xs : List Int) (k n : Nat) (h : xs.length = n) (hk : k ≤ n) : (fillI xs k n).length = n := by
  simp [fillI]; omega
theorem fillI_zero (xs : List Int) (n : Nat) : fillI xs 0 n = List.replicate n 0 := by simp [fillI]
theorem fillI_end (xs : List Int) (n : Nat) (h : xs.length = n) : fillI xs n n = xs := by simp [fillI, ← h]

theorem rep_ints (n : Nat) : rep n (.int .i64 0) = (ints (List.replicate n 0)).toArray := by simp [rep, ints]

theorem fillI_set (xs : List Int) (k n : Nat) (h : xs.length = n) (hk : k < n) : (ints (fillI xs k n)).set k (.int .i64 (nth xs k)) = ints (fillI xs (k + 1) n) := by
  have e : n - k = (n - (k + 1)) + 1 := by omega
  have hl : (xs.take k).length = k := by simp; omega
  unfold fillI
  rw [take_snoc xs k (by omega), e, List.replicate_succ]
  simp only [ints, List.map_append, List.map_cons, List.map_nil]
  rw [List.set_append_right _ _ (by simp; omega)]
  simp [show min k xs.length = k by omega]

theorem fillI_step (w : World) (b : Nat) (xs : List Int) (k n : Nat) (h : xs.length = n) (hk : k < n) (hb : w.heap[b]? = some (.cells (ints (fillI xs k n)).toArray 3 (0, 0))) :
    (w.setCell ⟨b, k, none⟩ (.int .i64 (nth xs k))).heap[b]? = some (.cells (ints (fillI xs (k + 1) n)).toArray 3 (0, 0)) := by
  rw [heap_setCell_same w b k _ _ _ hb, ← fillI_set xs k n h hk]
  simp

theorem fillI_cell (w : World) (b : Nat) (xs : List Int) (k n : Nat) (h : xs.length = n) (hk : k < n) (hb : w.heap[b]? = some (.cells (ints (fillI xs k n)).toArray 3 (0, 0))) :
    ∃ v, w.cell? ⟨b, k, none⟩ = some v := by
  rw [cell_of_row w b k _ _ _ hb]
  have : k < (ints (fillI xs k n)).length := by rw [ints_length, fillI_length xs k n h (by omega)]; exact hk
  exact ⟨_, by rw [List.getElem?_toArray, List.getElem?_eq_getElem this]⟩

theorem OwI.made {w : World} {b : Nat} {xs : List Int} {n : Nat} (h : xs.length = n) (hn : n ≤ 1000000000000) (hb : w.heap[b]? = some (.cells (ints xs).toArray 3 (0, 0))) : OwI w (.slice (some ⟨b, 0, none⟩) n n) xs := by
  refine ⟨by rw [ints_length, Nat.mul_one], .inr ⟨b, n, _, by rw [h], Nat.zero_le _, hb, Nat.le_of_eq h, by unfold maxLen; omega, by simp [ints_length, h], ?_⟩⟩
  rw [Nat.mul_one, ← ints_length]
  simp

/-- A list in a block that has come since. -/
theorem NewI.made {w w' : World} {b : Nat} {xs : List Int} {n : Nat} (h : xs.length = n) (hn : n ≤ 1000000000000) (hb : w'.heap[b]? = some (.cells (ints xs).toArray 3 (0, 0))) (hk : Kp0 w w') (hnew : w.heap.size ≤ b) : NewI w w' (.slice (some ⟨b, 0, none⟩) n n) xs := by
  refine ⟨some ⟨b, 0, none⟩, n, by rw [h], ?_, hk, fun b' e => ?_⟩
  · have := OwI.made h hn hb
    rw [← h] at this ⊢
    exact this
  · simp [Value.ownBlock] at e
    omega

end Go.Proofs.YticbbncdcannlaaGreat

/- The document's answer, walked: Store. -/
namespace Go.Proofs.YticbbncdcannlaaGreat
open Go.RowKit

def cntTo (t : Int → Bool) : Nat → Nat
  | 0 => 0
  | k + 1 => cntTo t k + if t k then 1 else 0
def topTo (t : Int → Bool) : Nat → Nat
  | 0 => 0
  | k + 1 => if t k then k + 1 else topTo t k
/-- Store: cells, used, top, the error. -/
def Sp.store (σ : Sp) (kind : Int) : Int × Int × Int × Int :=
  if kind ≠ 1 ∧ kind ≠ 2 then (0, 0, 0, 3)
  else ((σ.cap kind : Int), (cntTo (σ.taken kind) (σ.cap kind) : Int), (topTo (σ.taken kind) (σ.cap kind) : Int), 0)

end Go.Proofs.YticbbncdcannlaaGreat

/- The document's answer, walked: New. -/
namespace Go.Proofs.YticbbncdcannlaaGreat
open Go.RowKit

/-- A space without arrays. -/
def Sp.new (b i : Nat) : Sp := { n1 := b, n2 := i, v1 := List.replicate b 0, v2 := List.replicate i 0, arrs := [], bufs := [] }

theorem new_ok (b i : Nat) (hb : b ≤ 10000) (hi : i ≤ 10000) : (Sp.new b i).ok :=
  ⟨hb, hi, by simp [Sp.new], by simp [Sp.new], fun j a ha => by simp [Sp.new] at ha, fun j a ha => by simp [Sp.new] at ha, by simp [Sp.new], by simp [Sp.new]⟩

end Go.Proofs.YticbbncdcannlaaGreat

/- The law's own world: returned, walked. -/
namespace Go.Proofs.YticbbncdcannlaaGreat
open Go.RowKit

theorem Tryz.infoSl : (Tryz.prog.info? 26).map (fun i => (i.zero, i.size, i.bytes)) = some (some (.slice none 0 0), 1, 24) := by kernel_rfl

/-- What is written over a list, to its k-th number. -/
def over (m : Int) (k : Nat) (xs : List Int) : List Int := List.replicate k m ++ xs.drop k
end Go.Proofs.YticbbncdcannlaaGreat

/- The law's own world: keep, walked. -/
namespace Go.Proofs.YticbbncdcannlaaGreat
open Go.RowKit

theorem OwI.store {w : World} {ao : Option Addr} {n c : Nat} {xs : List Int} (h : OwI w (.slice ao n c) xs) (k : Nat) (m : Int) (hk : k < xs.length) :
    ∃ g, ao = some ⟨g, 0, none⟩ ∧ OwI (w.setCell ⟨g, k, none⟩ (.int .i64 m)) (.slice ao n c) (xs.set k m) ∧ w.cell? ⟨g, k, none⟩ = some (.int .i64 (nth xs k)) ∧ w.frozen? ⟨g, k, none⟩ = false := by
  obtain ⟨g, cap, hv, hcap, hg, hc⟩ := h.slice (by omega)
  simp at hv
  obtain ⟨rfl, rfl, rfl⟩ := hv
  refine ⟨g, rfl, ?_, hc k hk, World.ownsRow.frozenAt h k⟩
  have := (World.ownsRow.stored h k (.int .i64 m)).1
  unfold OwI
  rw [List.length_set]
  have e : (ints xs).set k (.int .i64 m) = ints (xs.set k m) := by simp [ints, List.map_set]
  rw [← e]
  exact this

end Go.Proofs.YticbbncdcannlaaGreat

/- What the law asks of a program's space: its contracts, as one notion; the state of the law's world with its spaces. -/
namespace Go.Proofs.YticbbncdcannlaaGreat
open Go.RowKit

/-- The space of owner o is σ' behind the call; all that is not his is as it was. -/
def Step (R : Tags → Nat → World → Nat → Sp → Prop) (T : Tags) (o : Nat) (w : World) (p : Nat) (σ' : Sp) (w' : World) : Prop :=
  ∃ T', TagsTo w T T' ∧ R T' o w' p σ' ∧ Kp (fun b => (T b).1 = o) w w'

/-- Likewise; and a list came out, in new memory, which bears the tag t. -/
def StepL (R : Tags → Nat → World → Nat → Sp → Prop) (T : Tags) (o : Nat) (w : World) (p : Nat) (σ' : Sp) (w' : World) (t : Nat × Nat) (v : Value) (xs : List Int) : Prop :=
  ∃ T', TagsTo w T T' ∧ R T' o w' p σ' ∧ Kp (fun b => (T b).1 = o) w w' ∧ ∃ ao c, v = .slice ao xs.length c ∧ OwI w' (.slice ao xs.length c) xs ∧ Tagged T' (.slice ao xs.length c) t ∧ ∀ b, (Value.slice ao xs.length c).ownBlock = some b → w.heap.size ≤ b

end Go.Proofs.YticbbncdcannlaaGreat

/- The document's answer, walked: Index. -/
namespace Go.Proofs.YticbbncdcannlaaGreat
open Go.RowKit

/-- What is left of a rank behind the last m axes. -/
def remTo (s : List Int) (r : Int) : Nat → Int
  | 0 => r
  | m + 1 => remTo s r m / nth s (s.length - 1 - m)

/-- The index of a rank. -/
def idx (s : List Int) (r : Int) : List Int := (List.range s.length).map fun k => remTo s r (s.length - 1 - k) % nth s k

theorem idx_length (s : List Int) (r : Int) : (idx s r).length = s.length := by simp [idx]
theorem idx_nth (s : List Int) (r : Int) (k : Nat) (h : k < s.length) : nth (idx s r) k = remTo s r (s.length - 1 - k) % nth s k := by
  rw [nth_lt (by rw [idx_length]; exact h)]
  simp [idx]

theorem remTo_bd (s : List Int) (r : Int) (hr : 0 ≤ r) (hs : sized s) (m : Nat) (hm : m ≤ s.length) : 0 ≤ remTo s r m ∧ remTo s r m ≤ r := by
  induction m with
  | zero => simp [remTo, hr]
  | succ m ih =>
    obtain ⟨a, b⟩ := ih (by omega)
    obtain ⟨s1, -⟩ := hs (s.length - 1 - m) (by omega)
    simp only [remTo]
    refine ⟨Int.ediv_nonneg a (by omega), Int.le_trans (Int.ediv_le_self _ a) b⟩

/-- An index is one of its shape. -/
theorem idx_in (s : List Int) (r : Int) (hs : sized s) : inB s (idx s r) := by
  refine ⟨(idx_length s r).symm, fun j hj => ?_⟩
  obtain ⟨s1, -⟩ := hs j hj
  rw [idx_nth s r j hj]
  exact ⟨Int.emod_nonneg _ (by omega), Int.emod_lt_of_pos _ (by omega)⟩

theorem remTo_vol (s : List Int) (r : Int) (hs : sized s) (h1 : r < vol s) (m : Nat) (hm : m ≤ s.length) : remTo s r m < vol (s.take (s.length - m)) := by
  induction m with
  | zero => simpa [remTo] using h1
  | succ m ih =>
    have := ih (by omega)
    obtain ⟨s1, -⟩ := hs (s.length - 1 - m) (by omega)
    rw [show s.length - m = (s.length - 1 - m) + 1 by omega, vol_take s _ (by omega)] at this
    simp only [remTo]
    rw [show s.length - (m + 1) = s.length - 1 - m by omega]
    exact Int.ediv_lt_of_lt_mul (by omega) this

theorem rankTo_idx (s : List Int) (r : Int) (hs : sized s) (h0 : 0 ≤ r) (h1 : r < vol s) (m : Nat) (hm : m ≤ s.length) : rankTo s (idx s r) (s.length - m) = remTo s r m := by
  have key : ∀ k, k ≤ s.length → rankTo s (idx s r) k = remTo s r (s.length - k) := by
    intro k
    induction k with
    | zero =>
      intro _
      have a := remTo_vol s r hs h1 s.length (Nat.le_refl _)
      have b := remTo_bd s r h0 hs s.length (Nat.le_refl _)
      simp [vol] at a
      simp only [rankTo, Nat.sub_zero]
      omega
    | succ k ih =>
      intro hk
      have e := ih (by omega)
      simp only [rankTo]
      rw [e, idx_nth s r k (by omega)]
      have : remTo s r (s.length - k) = remTo s r (s.length - 1 - k) / nth s k := by
        rw [show s.length - k = (s.length - 1 - k) + 1 by omega]
        simp only [remTo]
        rw [show s.length - 1 - (s.length - 1 - k) = k by omega]
      rw [this, show s.length - (k + 1) = s.length - 1 - k by omega, Int.mul_comm]
      exact Int.mul_ediv_add_emod _ _
  have := key (s.length - m) (by omega)
  rwa [show s.length - (s.length - m) = m by omega] at this

/-- The rank of the index of a rank is that rank. -/
theorem rank_idx (s : List Int) (r : Int) (hs : sized s) (h0 : 0 ≤ r) (h1 : r < vol s) : rank s (idx s r) = r := by
  unfold rank
  rw [if_pos ((inBb_iff _ _).2 (idx_in s r hs))]
  exact rankTo_idx s r hs h0 h1 0 (by omega)

/-- The numbers from the k-th on, 0 ahead of them. -/
def tailFrom (l : List Int) (k : Nat) : List Int := (List.range l.length).map fun j => if k ≤ j then nth l j else 0

theorem tailFrom_length (l : List Int) (k : Nat) : (tailFrom l k).length = l.length := by simp [tailFrom]
theorem tailFrom_zero (l : List Int) : tailFrom l 0 = l := by
  refine ext_nth (tailFrom_length l 0) (fun j hj => ?_)
  rw [nth_lt hj]
  simp [tailFrom]
theorem tailFrom_all (l : List Int) (n : Nat) (hn : l.length = n) : (ints (tailFrom l n)).toArray = rep n (.int .i64 0) := by
  unfold rep
  congr 1
  apply List.ext_getElem
  · simp [ints, tailFrom, hn]
  · intro i h1 h2
    simp [ints, tailFrom, hn] at h1 ⊢
    omega
theorem tailFrom_set (l : List Int) (k : Nat) (hk : k < l.length) : (ints (tailFrom l (k + 1))).toArray.setIfInBounds k (.int .i64 (nth l k)) = (ints (tailFrom l k)).toArray := by
  apply Array.ext_getElem?
  intro i
  by_cases hi : i < l.length
  · by_cases hik : i = k
    · subst hik
      rw [Array.getElem?_setIfInBounds_self_of_lt (by simp [ints, tailFrom]; exact hi)]
      simp [ints, tailFrom, hi]
    · rw [Array.getElem?_setIfInBounds_ne (by omega)]
      simp [ints, tailFrom, hi]
      by_cases h : k ≤ i
      · rw [if_pos h, if_pos (by omega)]
      · rw [if_neg h, if_neg (by omega)]
  · rw [Array.getElem?_eq_none (by simp [ints, tailFrom]; omega), Array.getElem?_eq_none (by simp [ints, tailFrom]; omega)]

end Go.Proofs.YticbbncdcannlaaGreat

/- The document's answer, walked: Meant. -/
namespace Go.Proofs.YticbbncdcannlaaGreat
open Go.RowKit

/-- Can a shape be stretched to another, as far as its first k axes say? -/
def fitsTo (s t : List Int) (k : Nat) : Prop := ∀ j, j < k → nth s j = nth t (t.length - s.length + j) ∨ nth s j = 1

/-- Can a shape be stretched to another? -/
def stretchB (s t : List Int) : Bool := decide (s.length ≤ t.length) && (List.range s.length).all fun j => decide (nth s j = nth t (t.length - s.length + j)) || decide (nth s j = 1)
theorem stretchB_iff (s t : List Int) : stretchB s t = true ↔ s.length ≤ t.length ∧ fitsTo s t s.length := by
  simp [stretchB, fitsTo]

/-- The index that one of a stretched shape means. -/
def meantOf (s t l : List Int) : List Int := (List.range s.length).map fun k => if 1 < nth s k then nth l (t.length - s.length + k) else 0
theorem meantOf_length (s t l : List Int) : (meantOf s t l).length = s.length := by simp [meantOf]
theorem meantOf_nth (s t l : List Int) (k : Nat) (h : k < s.length) : nth (meantOf s t l) k = if 1 < nth s k then nth l (t.length - s.length + k) else 0 := by
  rw [nth_lt (by rw [meantOf_length]; exact h)]
  simp [meantOf]

/-- For each index of a shape the rank of the one that it means. -/
def meant (s t : List Int) : List Int := (List.range (vol t).toNat).map fun r : Nat => rank s (meantOf s t (idx t r))

/-- The first k numbers, 0 behind them. -/
def headTo (l : List Int) (k : Nat) : List Int := (List.range l.length).map fun j => if j < k then nth l j else 0
theorem headTo_length (l : List Int) (k : Nat) : (headTo l k).length = l.length := by simp [headTo]
theorem headTo_all (l : List Int) (n : Nat) (hn : l.length = n) : headTo l n = l := by
  refine ext_nth (headTo_length l n) (fun j hj => ?_)
  rw [nth_lt hj]
  rw [headTo_length] at hj
  simp [headTo, hn ▸ hj]
theorem headTo_zero (l : List Int) (n : Nat) (hn : l.length = n) : (ints (headTo l 0)).toArray = rep n (.int .i64 0) := by
  unfold rep
  congr 1
  apply List.ext_getElem
  · simp [ints, headTo, hn]
  · intro i h1 h2
    simp [ints, headTo]
theorem headTo_set (l : List Int) (k : Nat) (hk : k < l.length) : (ints (headTo l k)).toArray.setIfInBounds k (.int .i64 (nth l k)) = (ints (headTo l (k + 1))).toArray := by
  apply Array.ext_getElem?
  intro i
  by_cases hi : i < l.length
  · by_cases hik : i = k
    · subst hik
      rw [Array.getElem?_setIfInBounds_self_of_lt (by simp [ints, headTo]; exact hi)]
      simp [ints, headTo, hi]
    · rw [Array.getElem?_setIfInBounds_ne (by omega)]
      simp [ints, headTo, hi]
      by_cases h : i < k
      · rw [if_pos h, if_pos (by omega)]
      · rw [if_neg h, if_neg (by omega)]
  · rw [Array.getElem?_eq_none (by simp [ints, headTo]; omega), Array.getElem?_eq_none (by simp [ints, headTo]; omega)]
theorem headTo_same (l : List Int) (k : Nat) (h0 : nth l k = 0) : headTo l k = headTo l (k + 1) := by
  unfold headTo
  refine List.map_congr_left (fun i _ => ?_)
  by_cases h : i < k
  · rw [if_pos h, if_pos (by omega)]
  · by_cases hik : i = k
    · subst hik; rw [if_neg h, if_pos (by omega), h0]
    · rw [if_neg h, if_neg (by omega)]

end Go.Proofs.YticbbncdcannlaaGreat
