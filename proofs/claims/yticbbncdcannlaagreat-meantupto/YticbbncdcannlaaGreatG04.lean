/- The document's answer, walked: Meant, where it can be. -/
import Derived.Test.YticbbncdcannlaaGreatG03
import Derived.Deep.QuietTactic
import Derived.BigQuiet

namespace Go.Proofs.YticbbncdcannlaaGreat
open Go.RowKit

theorem meant_length (s t : List Int) : (meant s t).length = (vol t).toNat := by simp [meant]
theorem meantOf_small (s t l : List Int) (k : Nat) (h : k < s.length) (hk : ¬ 1 < nth s k) : nth (meantOf s t l) k = 0 := by rw [meantOf_nth s t l k h, if_neg hk]
theorem meantOf_big (s t l : List Int) (k : Nat) (h : k < s.length) (hk : 1 < nth s k) : nth (meantOf s t l) k = nth l (t.length - s.length + k) := by rw [meantOf_nth s t l k h, if_pos hk]

theorem rd_of_blk {w : World} {b n : Nat} {xs : List Int} {t : TypeId} (h : w.heap[b]? = some (.cells (ints xs).toArray t (0, 0))) (hn : xs.length = n) : RdI w (.slice (some ⟨b, 0, none⟩) n n) xs :=
  ⟨_, _, by rw [hn], fun _ => ⟨b, 0, rfl, fun j hj => by
    rw [Nat.zero_add, cell_of_row _ b j _ _ _ h]
    simpa using ints_get hj⟩⟩

end Go.Proofs.YticbbncdcannlaaGreat

/- The document's answer, walked: Meant, whole. -/
namespace Go.Proofs.YticbbncdcannlaaGreat
open Go.RowKit

theorem rd_parts {w : World} {v : Value} {xs : List Int} (h : RdI w v xs) : ∃ a c, v = .slice a xs.length c ∧ (0 < xs.length → ∃ g o, a = some ⟨g, o, none⟩ ∧ ∀ j, j < xs.length → w.cell? ⟨g, o + j, none⟩ = some (.int .i64 (nth xs j))) := by
  obtain ⟨a, c, e, h⟩ := h
  exact ⟨a, c, e, fun hp => h (fun e' => by rw [e'] at hp; simp at hp)⟩

/-- What is meant is an index: its rank is one of the stretched shape's own. -/
theorem meantOf_in (s t l : List Int) (hs : sized s) (hst : s.length ≤ t.length) (hf : fitsTo s t s.length) (hl : inB t l) : inB s (meantOf s t l) := by
  refine ⟨(meantOf_length s t l).symm, fun j hj => ?_⟩
  obtain ⟨s1, -⟩ := hs j hj
  by_cases hb : 1 < nth s j
  · rw [meantOf_big s t l j hj hb]
    have := hl.2 (t.length - s.length + j) (by omega)
    rcases hf j hj with e | e
    · rw [e]; exact this
    · omega
  · rw [meantOf_small s t l j hj hb]
    omega

theorem meant_bd (s t : List Int) (hs : okShape s) (ht : okShape t) (h : stretchB s t = true) (j : Nat) (hj : j < (vol t).toNat) : 0 ≤ nth (meant s t) j ∧ nth (meant s t) j < vol s := by
  obtain ⟨hst, hf⟩ := (stretchB_iff s t).1 h
  rw [nth_lt (by rw [meant_length]; exact hj)]
  simp only [meant, List.getElem_map, List.getElem_range]
  have hin := meantOf_in s t (idx t j) hs.2.1 hst hf (idx_in t j ht.2.1)
  unfold rank
  rw [if_pos ((inBb_iff _ _).2 hin)]
  have := rank_bd s (meantOf s t (idx t j)) hs.2.1 hin.2 s.length (Nat.le_refl _)
  rwa [List.take_length] at this

end Go.Proofs.YticbbncdcannlaaGreat

/- The document's answer, walked: Shared. -/
namespace Go.Proofs.YticbbncdcannlaaGreat
open Go.RowKit

/-- Have two arrays a cell in common? -/
def Arr.shares (x y : Arr) : Bool := (List.range x.cells.length).any fun i => (List.range y.cells.length).any fun j => decide (x.kind = y.kind) && decide (nth x.cells i = nth y.cells j)
theorem shares_iff (x y : Arr) : x.shares y = true ↔ ∃ i j, i < x.cells.length ∧ j < y.cells.length ∧ x.kind = y.kind ∧ nth x.cells i = nth y.cells j := by
  simp only [Arr.shares, List.any_eq_true, List.mem_range, Bool.and_eq_true, decide_eq_true_eq]
  exact ⟨fun ⟨i, hi, j, hj, h⟩ => ⟨i, j, hi, hj, h⟩, fun ⟨i, j, hi, hj, h⟩ => ⟨i, hi, j, hj, h⟩⟩

/-- Shared: the answer, the error. -/
def Sp.shared (σ : Sp) (a b : Int) : Bool × Int := match σ.find a, σ.find b with
  | some x, some y => (x.shares y, 0)
  | _, _ => (false, 2)

end Go.Proofs.YticbbncdcannlaaGreat
