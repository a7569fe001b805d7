/- The document's answer, walked: Stretch. -/
import Derived.Test.YticbbncdcannlaaGreatG27
import Derived.Test.YticbbncdcannlaaGreatG04

namespace Go.Proofs.YticbbncdcannlaaGreat
open Go.RowKit

theorem picked_nth (ce rk : List Int) (j : Nat) (h : j < rk.length) : nth (picked ce rk) j = nth ce (nth rk j).toNat := by
  rw [nth_lt (by simpa [picked] using h)]
  simp [picked, nth_lt h]

theorem derive_ok {σ : Sp} (h : σ.ok) {a : Arr} (ha : a.ok σ) (s rk : List Int) (hs : okShape s) (hl : (rk.length : Int) = vol s) (hb : ∀ j, j < rk.length → 0 ≤ nth rk j ∧ nth rk j < a.cells.length) (read : Bool) (hm : σ.arrs.length + 1 ≤ 100000000) : (σ.derive a s rk read).1.ok := by
  unfold Sp.derive
  split
  · exact h
  · refine lay_ok h _ ⟨ha.kind, hs, by simpa [picked] using hl, fun j hj => ?_, ha.buf⟩ hm
    have hj' : j < rk.length := by simpa [picked] using hj
    show 0 ≤ nth (picked a.cells rk) j ∧ nth (picked a.cells rk) j < σ.cap a.kind
    rw [picked_nth _ _ _ hj']
    exact ha.inside _ (by have := hb j hj'; omega)

/-- Stretch: the state, the handle, the error. -/
def Sp.stretch (σ : Sp) (h : Int) (s : List Int) : Sp × Int × Int := match σ.find h with
  | none => (σ, 0, 2)
  | some a => if shapeB s = false then (σ, 0, 4) else if stretchB a.shape s = false then (σ, 0, 4) else σ.derive a s (meant a.shape s) true

end Go.Proofs.YticbbncdcannlaaGreat

/- The document's answer, walked: Cut, its first half: what it refuses. -/
namespace Go.Proofs.YticbbncdcannlaaGreat
open Go.RowKit

/-- Are a cut's arguments numbers that may be? -/
def cutA (n : Nat) (axis count step : Int) : Bool := decide (0 ≤ axis) && decide (axis < (n : Int)) && decide (1 ≤ count) && decide (count ≤ 60) && !decide (step = 0)

/-- Does a cut stay within its axis? -/
def cutR (size start count step : Int) : Bool := (decide (count ≤ 1) || (decide (-60 ≤ step) && decide (step ≤ 60))) && (List.range count.toNat).all fun i : Nat => decide (0 ≤ start + (i : Int) * step) && decide (start + (i : Int) * step < size)

theorem cutR_iff (size start count step : Int) : cutR size start count step = true ↔ (count ≤ 1 ∨ (-60 ≤ step ∧ step ≤ 60)) ∧ ∀ i : Nat, i < count.toNat → 0 ≤ start + (i : Int) * step ∧ start + (i : Int) * step < size := by
  unfold cutR
  simp [List.all_eq_true]

def cutB (s : List Int) (axis start count step : Int) : Bool := cutA s.length axis count step && cutR (nth s axis.toNat) start count step

/-- An index of a cut in the array that is cut. -/
def cutL (l : List Int) (k : Nat) (start count step : Int) : List Int := l.set k (if 1 < count then start + nth l k * step else start)
def cutRk (s : List Int) (k : Nat) (start count step : Int) : List Int := (List.range (vol (s.set k count)).toNat).map fun r : Nat => rank s (cutL (idx (s.set k count) r) k start count step)

def Sp.cut (σ : Sp) (h axis start count step : Int) : Sp × Int × Int := match σ.find h with
  | none => (σ, 0, 2)
  | some a => if cutB a.shape axis start count step = false then (σ, 0, 5) else σ.derive a (a.shape.set axis.toNat count) (cutRk a.shape axis.toNat start count step) false

end Go.Proofs.YticbbncdcannlaaGreat

/- The document's answer, walked: Cut, out of its axis. -/
namespace Go.Proofs.YticbbncdcannlaaGreat
open Go.RowKit

theorem cutA_iff (n : Nat) (axis count step : Int) : cutA n axis count step = true ↔ 0 ≤ axis ∧ axis < (n : Int) ∧ 1 ≤ count ∧ count ≤ 60 ∧ step ≠ 0 := by
  unfold cutA
  simp [and_assoc]

end Go.Proofs.YticbbncdcannlaaGreat

/- Cuts, reckoned. No program. -/
namespace Go.Proofs.YticbbncdcannlaaGreat
open Go.RowKit

theorem nth_setN (l : List Int) (k j : Nat) (x : Int) (hk : k < l.length) : nth (l.set k x) j = if j = k then x else nth l j := by
  unfold nth List.getD
  rw [List.getElem?_set]
  by_cases h : j = k
  · subst h; simp [hk]
  · rw [if_neg h, if_neg (fun e => h e.symm)]

theorem vol_mono (s t : List Int) (hl : t.length = s.length) (h : ∀ j, j < s.length → 1 ≤ nth t j ∧ nth t j ≤ nth s j) (k : Nat) (hk : k ≤ s.length) : 1 ≤ vol (t.take k) ∧ vol (t.take k) ≤ vol (s.take k) := by
  induction k with
  | zero => simp [vol]
  | succ k ih =>
    obtain ⟨h1, h2⟩ := ih (by omega)
    obtain ⟨h3, h4⟩ := h k (by omega)
    rw [vol_take t k (by omega), vol_take s k (by omega)]
    exact mul_bd h1 h2 h3 h4

/-- A cut has no more than its axis. -/
theorem cut_le {size start step : Int} {cn : Nat} (hc : 1 ≤ cn) (hst : step ≠ 0) (h : ∀ i : Nat, i < cn → 0 ≤ start + (i : Int) * step ∧ start + (i : Int) * step < size) : (cn : Int) ≤ size := by
  have h0 := h 0 (by omega)
  have h1 := h (cn - 1) (by omega)
  have e : (((cn - 1 : Nat)) : Int) = (cn : Int) - 1 := by omega
  simp only [Int.natCast_zero, Int.zero_mul, Int.add_zero] at h0
  rw [e] at h1
  have hn : (0 : Int) ≤ (cn : Int) - 1 := by omega
  rcases Int.lt_or_le 0 step with hs | hs
  · have := Int.mul_le_mul_of_nonneg_left (show (1 : Int) ≤ step by omega) hn
    rw [Int.mul_one] at this
    omega
  · have := Int.mul_le_mul_of_nonneg_left (show step ≤ (-1 : Int) by omega) hn
    rw [Int.mul_neg_one] at this
    omega

theorem cut_shape {s : List Int} (hs : okShape s) {k cn : Nat} {start step : Int} (hk : k < s.length) (hc : 1 ≤ cn) (hst : step ≠ 0) (h : ∀ i : Nat, i < cn → 0 ≤ start + (i : Int) * step ∧ start + (i : Int) * step < nth s k) : okShape (s.set k (cn : Int)) := by
  have hle := cut_le hc hst h
  have hlen : (s.set k (cn : Int)).length = s.length := by simp
  have hall : ∀ j, j < s.length → 1 ≤ nth (s.set k (cn : Int)) j ∧ nth (s.set k (cn : Int)) j ≤ nth s j := fun j hj => by
    rw [nth_setN s k j _ hk]
    split
    · rename_i e; subst e; omega
    · exact ⟨(hs.2.1 j hj).1, Int.le_refl _⟩
  refine ⟨by rw [hlen]; exact hs.1, fun j hj => ?_, ?_⟩
  · rw [hlen] at hj
    have := hall j hj
    have := hs.2.1 j hj
    omega
  · have := (vol_mono s _ hlen hall s.length (Nat.le_refl _)).2
    rw [List.take_length, List.take_of_length_le (by rw [hlen]; exact Nat.le_refl _)] at this
    exact Int.le_trans this hs.2.2

theorem cutL_length (l : List Int) (k : Nat) (start count step : Int) : (cutL l k start count step).length = l.length := by simp [cutL]

theorem cutL_in {s l : List Int} (_hs : okShape s) {k cn : Nat} {start step : Int} (hk : k < s.length) (hc : 1 ≤ cn) (h : ∀ i : Nat, i < cn → 0 ≤ start + (i : Int) * step ∧ start + (i : Int) * step < nth s k) (hl : inB (s.set k (cn : Int)) l) : inB s (cutL l k start cn step) := by
  have hll : l.length = s.length := by rw [← hl.1]; simp
  refine ⟨by rw [cutL_length, hll], fun j hj => ?_⟩
  have hlj := hl.2 j (by simpa using hj)
  rw [nth_setN s k j _ hk] at hlj
  unfold cutL
  rw [nth_setN l k j _ (by omega)]
  by_cases e : j = k
  · rw [if_pos e]
    subst e
    rw [if_pos rfl] at hlj
    by_cases h1 : (1 : Int) < (cn : Int)
    · rw [if_pos h1]
      have := h (nth l j).toNat (by omega)
      rw [show (((nth l j).toNat : Nat) : Int) = nth l j by omega] at this
      exact this
    · rw [if_neg h1]
      have := h 0 (by omega)
      simpa using this
  · rw [if_neg e]
    rw [if_neg e] at hlj
    exact hlj

theorem cutRk_length (s : List Int) (k : Nat) (start count step : Int) : (cutRk s k start count step).length = (vol (s.set k count)).toNat := by simp [cutRk]

theorem cutRk_bd {s : List Int} (hs : okShape s) {k cn : Nat} {start step : Int} (hk : k < s.length) (hc : 1 ≤ cn) (hst : step ≠ 0) (h : ∀ i : Nat, i < cn → 0 ≤ start + (i : Int) * step ∧ start + (i : Int) * step < nth s k) (j : Nat) (hj : j < (vol (s.set k (cn : Int))).toNat) : 0 ≤ nth (cutRk s k start cn step) j ∧ nth (cutRk s k start cn step) j < vol s := by
  rw [nth_lt (by rw [cutRk_length]; exact hj)]
  simp only [cutRk, List.getElem_map, List.getElem_range]
  have hin := cutL_in hs hk hc h (idx_in (s.set k (cn : Int)) j (cut_shape hs hk hc hst h).2.1)
  unfold rank
  rw [if_pos ((inBb_iff _ _).2 hin)]
  have := rank_bd s _ hs.2.1 hin.2 s.length (Nat.le_refl _)
  rwa [List.take_length] at this

end Go.Proofs.YticbbncdcannlaaGreat

/- The document's answer, walked: Turn, its first half: what it refuses at once; turns, reckoned. -/
namespace Go.Proofs.YticbbncdcannlaaGreat
open Go.RowKit

/-- The first k numbers are axes of n, no two the same. -/
def axesTo (n : Nat) (ax : List Int) (k : Nat) : Prop := ∀ i, i < k → (0 ≤ nth ax i ∧ nth ax i < (n : Int)) ∧ ∀ j, j < i → nth ax j ≠ nth ax i

/-- Each of n axes once. -/
def turnB (n : Nat) (ax : List Int) : Bool := decide (ax.length = n) && (List.range n).all fun i => (decide (0 ≤ nth ax i) && decide (nth ax i < (n : Int))) && (List.range i).all fun j => !decide (nth ax j = nth ax i)
theorem turnB_iff (n : Nat) (ax : List Int) : turnB n ax = true ↔ ax.length = n ∧ axesTo n ax n := by
  unfold turnB axesTo
  simp [List.all_eq_true]

/-- The sizes, turned. -/
def turnS (s ax : List Int) : List Int := ax.map fun x => nth s x.toNat
theorem turnS_length (s ax : List Int) : (turnS s ax).length = ax.length := by simp [turnS]
theorem turnS_nth (s ax : List Int) (k : Nat) (h : k < ax.length) : nth (turnS s ax) k = nth s (nth ax k).toNat := by
  rw [nth_lt (by rw [turnS_length]; exact h)]
  simp [turnS, nth_lt h]
theorem turnS_take (s ax : List Int) (k : Nat) (h : k < ax.length) : (turnS s ax).take (k + 1) = (turnS s ax).take k ++ [nth s (nth ax k).toNat] := by
  rw [take_snoc _ k (by rw [turnS_length]; exact h), turnS_nth s ax k h]

/-- The index in the array that is turned, after k numbers. -/
def turnTo (n : Nat) (ax l : List Int) : Nat → List Int
  | 0 => List.replicate n 0
  | k + 1 => (turnTo n ax l k).set (nth ax k).toNat (nth l k)
theorem turnTo_length (n : Nat) (ax l : List Int) (k : Nat) : (turnTo n ax l k).length = n := by
  induction k with
  | zero => simp [turnTo]
  | succ k ih => simp [turnTo, ih]

def turnRk (s ax : List Int) : List Int := (List.range (vol (turnS s ax)).toNat).map fun r : Nat => rank s (turnTo s.length ax (idx (turnS s ax) r) s.length)
theorem turnRk_length (s ax : List Int) : (turnRk s ax).length = (vol (turnS s ax)).toNat := by simp [turnRk]
/-- What stands at an axis that was named. -/
theorem turnTo_nth {n : Nat} {ax l : List Int} {k : Nat} (h : axesTo n ax k) (j : Nat) (hj : j < k) : nth (turnTo n ax l k) (nth ax j).toNat = nth l j := by
  induction k with
  | zero => omega
  | succ k ih =>
    obtain ⟨⟨a0, a1⟩, a2⟩ := h k (by omega)
    rw [turnTo, nth_setN _ _ _ _ (by rw [turnTo_length]; omega)]
    by_cases e : j = k
    · rw [e, if_pos rfl]
    · obtain ⟨⟨b0, b1⟩, -⟩ := h j hj
      rw [if_neg (fun x => a2 j (by omega) (by omega))]
      exact ih (fun i hi => h i (by omega)) (by omega)

def Sp.turn (σ : Sp) (h : Int) (ax : List Int) : Sp × Int × Int := match σ.find h with
  | none => (σ, 0, 2)
  | some a => if turnB a.shape.length ax = false then (σ, 0, 4) else σ.derive a (turnS a.shape ax) (turnRk a.shape ax) false

end Go.Proofs.YticbbncdcannlaaGreat

/- Turns, reckoned: as many cells, each within. No program. -/
namespace Go.Proofs.YticbbncdcannlaaGreat

theorem turn_vol4 (a b c d x y z u : Int) (hx : 0 ≤ x ∧ x < 4) (hy : 0 ≤ y ∧ y < 4) (hz : 0 ≤ z ∧ z < 4) (hu : 0 ≤ u ∧ u < 4) (h1 : x ≠ y) (h2 : x ≠ z) (h3 : y ≠ z) (h4 : x ≠ u) (h5 : y ≠ u) (h6 : z ≠ u) : vol (turnS [a, b, c, d] [x, y, z, u]) = vol [a, b, c, d] := by
  rcases (by omega : x = 0 ∨ x = 1 ∨ x = 2 ∨ x = 3) with rfl | rfl | rfl | rfl <;>
  rcases (by omega : y = 0 ∨ y = 1 ∨ y = 2 ∨ y = 3) with rfl | rfl | rfl | rfl <;>
  (try exact absurd rfl h1) <;>
  rcases (by omega : z = 0 ∨ z = 1 ∨ z = 2 ∨ z = 3) with rfl | rfl | rfl | rfl <;>
  (try exact absurd rfl h2) <;> (try exact absurd rfl h3) <;>
  rcases (by omega : u = 0 ∨ u = 1 ∨ u = 2 ∨ u = 3) with rfl | rfl | rfl | rfl <;>
  first
    | exact absurd rfl h4
    | exact absurd rfl h5
    | exact absurd rfl h6
    | (simp [vol, turnS, nth]; try ac_rfl)

theorem turn_vol3 (a b c x y z : Int) (hx : 0 ≤ x ∧ x < 3) (hy : 0 ≤ y ∧ y < 3) (hz : 0 ≤ z ∧ z < 3) (h1 : x ≠ y) (h2 : x ≠ z) (h3 : y ≠ z) : vol (turnS [a, b, c] [x, y, z]) = vol [a, b, c] := by
  rcases (by omega : x = 0 ∨ x = 1 ∨ x = 2) with rfl | rfl | rfl <;>
  rcases (by omega : y = 0 ∨ y = 1 ∨ y = 2) with rfl | rfl | rfl <;>
  (try exact absurd rfl h1) <;>
  rcases (by omega : z = 0 ∨ z = 1 ∨ z = 2) with rfl | rfl | rfl <;>
  first
    | exact absurd rfl h2
    | exact absurd rfl h3
    | (simp [vol, turnS, nth]; try ac_rfl)

theorem turn_vol2 (a b x y : Int) (hx : 0 ≤ x ∧ x < 2) (hy : 0 ≤ y ∧ y < 2) (h1 : x ≠ y) : vol (turnS [a, b] [x, y]) = vol [a, b] := by
  rcases (by omega : x = 0 ∨ x = 1) with rfl | rfl <;>
  rcases (by omega : y = 0 ∨ y = 1) with rfl | rfl <;>
  first
    | exact absurd rfl h1
    | (simp [vol, turnS, nth]; try ac_rfl)

theorem turn_vol (s ax : List Int) (hl : s.length ≤ 4) (h : ax.length = s.length) (ha : axesTo s.length ax s.length) : vol (turnS s ax) = vol s := by
  match s, ax, h with
  | [], [], _ => rfl
  | [a], [x], _ =>
    have h0 := (ha 0 (by simp)).1
    simp [nth] at h0
    obtain rfl : x = 0 := by omega
    simp [vol, turnS, nth]
  | [a, b], [x, y], _ =>
    have h0 := (ha 0 (by simp)).1
    have h1 := ha 1 (by simp)
    have h10 := h1.2 0 (by omega)
    simp [nth] at h0 h1 h10
    exact turn_vol2 a b x y (by omega) (by omega) h10
  | [a, b, c], [x, y, z], _ =>
    have h0 := (ha 0 (by simp)).1
    have h1 := ha 1 (by simp)
    have h2 := ha 2 (by simp)
    have h10 := h1.2 0 (by omega)
    have h20 := h2.2 0 (by omega)
    have h21 := h2.2 1 (by omega)
    have h1' := h1.1
    have h2' := h2.1
    simp [nth] at h0 h1' h2' h10 h20 h21
    exact turn_vol3 a b c x y z (by omega) (by omega) (by omega) h10 h20 h21
  | [a, b, c, d], [x, y, z, u], _ =>
    have h0 := (ha 0 (by simp)).1
    have h1 := ha 1 (by simp)
    have h2 := ha 2 (by simp)
    have h3 := ha 3 (by simp)
    have h10 := h1.2 0 (by omega)
    have h20 := h2.2 0 (by omega)
    have h21 := h2.2 1 (by omega)
    have h30 := h3.2 0 (by omega)
    have h31 := h3.2 1 (by omega)
    have h32 := h3.2 2 (by omega)
    have h1' := h1.1
    have h2' := h2.1
    have h3' := h3.1
    simp [nth] at h0 h1' h2' h3' h10 h20 h21 h30 h31 h32
    exact turn_vol4 a b c d x y z u (by omega) (by omega) (by omega) (by omega) h10 h20 h21 h30 h31 h32
  | _ :: _ :: _ :: _ :: _ :: _, _, _ => simp at hl

theorem turn_shape {s ax : List Int} (hs : okShape s) (h : ax.length = s.length) (ha : axesTo s.length ax s.length) : okShape (turnS s ax) := by
  refine ⟨by rw [turnS_length, h]; exact hs.1, fun j hj => ?_, by rw [turn_vol s ax hs.1 h ha]; exact hs.2.2⟩
  rw [turnS_length] at hj
  rw [turnS_nth s ax j hj]
  have := (ha j (by omega)).1
  exact hs.2.1 _ (by omega)

theorem turnTo_in {s ax l : List Int} (hs : okShape s) (h : ax.length = s.length) (ha : axesTo s.length ax s.length) (hl : inB (turnS s ax) l) (k : Nat) (hk : k ≤ s.length) : ∀ j, j < s.length → 0 ≤ nth (turnTo s.length ax l k) j ∧ nth (turnTo s.length ax l k) j < nth s j := by
  induction k with
  | zero =>
    intro j hj
    have h1 := (hs.2.1 j hj).1
    have : nth (turnTo s.length ax l 0) j = 0 := by simp [turnTo, nth, List.getD, hj]
    rw [this]
    omega
  | succ k ih =>
    intro j hj
    have a1 := (ha k (by omega)).1
    rw [turnTo, nth_setN _ _ _ _ (by rw [turnTo_length]; omega)]
    split
    · rename_i e
      have h2 := hl.2 k (by rw [turnS_length]; omega)
      rw [turnS_nth s ax k (by omega)] at h2
      rw [e]
      exact h2
    · exact ih (by omega) j hj

theorem turnRk_bd {s ax : List Int} (hs : okShape s) (h : ax.length = s.length) (ha : axesTo s.length ax s.length) (j : Nat) (hj : j < (vol (turnS s ax)).toNat) : 0 ≤ nth (turnRk s ax) j ∧ nth (turnRk s ax) j < vol s := by
  rw [nth_lt (by rw [turnRk_length]; exact hj)]
  simp only [turnRk, List.getElem_map, List.getElem_range]
  have hin : inB s (turnTo s.length ax (idx (turnS s ax) j) s.length) := ⟨(turnTo_length _ _ _ _).symm, turnTo_in hs h ha (idx_in _ _ (turn_shape hs h ha).2.1) s.length (Nat.le_refl _)⟩
  unfold rank
  rw [if_pos ((inBb_iff _ _).2 hin)]
  have := rank_bd s _ hs.2.1 hin.2 s.length (Nat.le_refl _)
  rwa [List.take_length] at this

end Go.Proofs.YticbbncdcannlaaGreat
