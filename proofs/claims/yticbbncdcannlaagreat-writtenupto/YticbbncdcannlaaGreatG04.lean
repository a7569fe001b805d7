/- The document's answer, walked: Meant. -/
import Derived.Deep.QuietTactic
import Derived.BigQuiet
import Derived.Test.YticbbncdcannlaaGreatG03

namespace Go.Proofs.YticbbncdcannlaaGreat
open Go.RowKit

/-- Can a shape be stretched to another, as far as its first k axes say? -/
def fitsTo (s t : List Int) (k : Nat) : Prop := ∀ j, j < k → nth s j = nth t (t.length - s.length + j) ∨ nth s j = 1

/-- Can a shape be stretched to another? -/
def stretchB (s t : List Int) : Bool := decide (s.length ≤ t.length) && (List.range s.length).all fun j => decide (nth s j = nth t (t.length - s.length + j)) || decide (nth s j = 1)
theorem stretchB_iff (s t : List Int) : stretchB s t = true ↔ s.length ≤ t.length ∧ fitsTo s t s.length := by
  simp [stretchB, fitsTo]

/-- The index that one of a stretched shape means. -/
def meantOf (s t l : List Int) : List Int := (List.range s.length).map fun k => if 1 < nth s k then nth l (t.length - s.length + k) else 0
theorem meantOf_length (s t l : List Int) : (meantOf s t l).length = s.length := by simp [meantOf]
theorem meantOf_nth (s t l : List Int) (k : Nat) (h : k < s.length) : nth (meantOf s t l) k = if 1 < nth s k then nth l (t.length - s.length + k) else 0 := by
  rw [nth_lt (by rw [meantOf_length]; exact h)]
  simp [meantOf]

/-- For each index of a shape the rank of the one that it means. -/
def meant (s t : List Int) : List Int := (List.range (vol t).toNat).map fun r : Nat => rank s (meantOf s t (idx t r))

/-- The first k numbers, 0 behind them. -/
def headTo (l : List Int) (k : Nat) : List Int := (List.range l.length).map fun j => if j < k then nth l j else 0
theorem headTo_length (l : List Int) (k : Nat) : (headTo l k).length = l.length := by simp [headTo]
theorem headTo_all (l : List Int) (n : Nat) (hn : l.length = n) : headTo l n = l := by
  refine ext_nth (headTo_length l n) (fun j hj => ?_)
  rw [nth_lt hj]
  rw [headTo_length] at hj
  simp [headTo, hn ▸ hj]
theorem headTo_zero (l : List Int) (n : Nat) (hn : l.length = n) : (ints (headTo l 0)).toArray = rep n (.int .i64 0) := by
  unfold rep
  congr 1
  apply List.ext_getElem
  · simp [ints, headTo, hn]
  · intro i h1 h2
    simp [ints, headTo]
theorem headTo_set (l : List Int) (k : Nat) (hk : k < l.length) : (ints (headTo l k)).toArray.setIfInBounds k (.int .i64 (nth l k)) = (ints (headTo l (k + 1))).toArray := by
  apply Array.ext_getElem?
  intro i
  by_cases hi : i < l.length
  · by_cases hik : i = k
    · subst hik
      rw [Array.getElem?_setIfInBounds_self_of_lt (by simp [ints, headTo]; exact hi)]
      simp [ints, headTo, hi]
    · rw [Array.getElem?_setIfInBounds_ne (by omega)]
      simp [ints, headTo, hi]
      by_cases h : i < k
      · rw [if_pos h, if_pos (by omega)]
      · rw [if_neg h, if_neg (by omega)]
  · rw [Array.getElem?_eq_none (by simp [ints, headTo]; omega), Array.getElem?_eq_none (by simp [ints, headTo]; omega)]
theorem headTo_same (l : List Int) (k : Nat) (h0 : nth l k = 0) : headTo l k = headTo l (k + 1) := by
  unfold headTo
  refine List.map_congr_left (fun i _ => ?_)
  by_cases h : i < k
  · rw [if_pos h, if_pos (by omega)]
  · by_cases hik : i = k
    · subst hik; rw [if_neg h, if_pos (by omega), h0]
    · rw [if_neg h, if_neg (by omega)]

end Go.Proofs.YticbbncdcannlaaGreat

/- The document's answer, walked: Meant, where it can be. -/
namespace Go.Proofs.YticbbncdcannlaaGreat
open Go.RowKit

theorem meant_length (s t : List Int) : (meant s t).length = (vol t).toNat := by simp [meant]
theorem meant_take (s t : List Int) (k : Nat) (h : k < (vol t).toNat) : (meant s t).take (k + 1) = (meant s t).take k ++ [rank s (meantOf s t (idx t k))] := by
  rw [List.take_succ_eq_append_getElem (by rw [meant_length]; exact h)]
  congr 1
  simp [meant]

theorem meantOf_small (s t l : List Int) (k : Nat) (h : k < s.length) (hk : ¬ 1 < nth s k) : nth (meantOf s t l) k = 0 := by rw [meantOf_nth s t l k h, if_neg hk]
theorem meantOf_big (s t l : List Int) (k : Nat) (h : k < s.length) (hk : 1 < nth s k) : nth (meantOf s t l) k = nth l (t.length - s.length + k) := by rw [meantOf_nth s t l k h, if_pos hk]

theorem rd_of_blk {w : World} {b n : Nat} {xs : List Int} {t : TypeId} (h : w.heap[b]? = some (.cells (ints xs).toArray t (0, 0))) (hn : xs.length = n) : RdI w (.slice (some ⟨b, 0, none⟩) n n) xs :=
  ⟨_, _, by rw [hn], fun _ => ⟨b, 0, rfl, fun j hj => by
    rw [Nat.zero_add, cell_of_row _ b j _ _ _ h]
    simpa using ints_get hj⟩⟩

end Go.Proofs.YticbbncdcannlaaGreat

/- The document's answer, walked: Meant, whole. -/
namespace Go.Proofs.YticbbncdcannlaaGreat
open Go.RowKit

theorem rd_parts {w : World} {v : Value} {xs : List Int} (h : RdI w v xs) : ∃ a c, v = .slice a xs.length c ∧ (0 < xs.length → ∃ g o, a = some ⟨g, o, none⟩ ∧ ∀ j, j < xs.length → w.cell? ⟨g, o + j, none⟩ = some (.int .i64 (nth xs j))) := by
  obtain ⟨a, c, e, h⟩ := h
  exact ⟨a, c, e, fun hp => h (fun e' => by rw [e'] at hp; simp at hp)⟩

/-- What is meant is an index: its rank is one of the stretched shape's own. -/
theorem meantOf_in (s t l : List Int) (hs : sized s) (hst : s.length ≤ t.length) (hf : fitsTo s t s.length) (hl : inB t l) : inB s (meantOf s t l) := by
  refine ⟨(meantOf_length s t l).symm, fun j hj => ?_⟩
  obtain ⟨s1, -⟩ := hs j hj
  by_cases hb : 1 < nth s j
  · rw [meantOf_big s t l j hj hb]
    have := hl.2 (t.length - s.length + j) (by omega)
    rcases hf j hj with e | e
    · rw [e]; exact this
    · omega
  · rw [meantOf_small s t l j hj hb]
    omega

theorem meant_bd (s t : List Int) (hs : okShape s) (ht : okShape t) (h : stretchB s t = true) (j : Nat) (hj : j < (vol t).toNat) : 0 ≤ nth (meant s t) j ∧ nth (meant s t) j < vol s := by
  obtain ⟨hst, hf⟩ := (stretchB_iff s t).1 h
  rw [nth_lt (by rw [meant_length]; exact hj)]
  simp only [meant, List.getElem_map, List.getElem_range]
  have hin := meantOf_in s t (idx t j) hs.2.1 hst hf (idx_in t j ht.2.1)
  unfold rank
  rw [if_pos ((inBb_iff _ _).2 hin)]
  have := rank_bd s (meantOf s t (idx t j)) hs.2.1 hin.2 s.length (Nat.le_refl _)
  rwa [List.take_length] at this

end Go.Proofs.YticbbncdcannlaaGreat

/- The document's answer, walked: Shared. -/
namespace Go.Proofs.YticbbncdcannlaaGreat
open Go.RowKit

/-- Have two arrays a cell in common? -/
def Arr.shares (x y : Arr) : Bool := (List.range x.cells.length).any fun i => (List.range y.cells.length).any fun j => decide (x.kind = y.kind) && decide (nth x.cells i = nth y.cells j)
theorem shares_iff (x y : Arr) : x.shares y = true ↔ ∃ i j, i < x.cells.length ∧ j < y.cells.length ∧ x.kind = y.kind ∧ nth x.cells i = nth y.cells j := by
  simp only [Arr.shares, List.any_eq_true, List.mem_range, Bool.and_eq_true, decide_eq_true_eq]
  exact ⟨fun ⟨i, hi, j, hj, h⟩ => ⟨i, j, hi, hj, h⟩, fun ⟨i, j, hi, hj, h⟩ => ⟨i, hi, j, hj, h⟩⟩

/-- Shared: the answer, the error. -/
def Sp.shared (σ : Sp) (a b : Int) : Bool × Int := match σ.find a, σ.find b with
  | some x, some y => (x.shares y, 0)
  | _, _ => (false, 2)

end Go.Proofs.YticbbncdcannlaaGreat
