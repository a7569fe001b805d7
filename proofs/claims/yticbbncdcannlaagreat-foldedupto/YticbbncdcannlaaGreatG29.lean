/- Views of a view that is given by a first cell and steps. No program. -/
import Derived.Test.YticbbncdcannlaaGreatG09
import Derived.Test.YticbbncdcannlaaGreatG28
import Derived.Test.YticbbncdcannlaaGreatG04

namespace Go.Proofs.YticbbncdcannlaaGreat

/-- n numbers, told by their places. -/
def mkL (n : Nat) (F : Nat → Int) : List Int := (List.range n).map F
theorem mkL_length (n : Nat) (F : Nat → Int) : (mkL n F).length = n := by simp [mkL]
theorem mkL_nth (n : Nat) (F : Nat → Int) (j : Nat) : nth (mkL n F) j = if j < n then F j else 0 := by
  unfold mkL
  by_cases h : j < n
  · rw [if_pos h, nth_lt (by simpa using h)]; simp
  · rw [if_neg h, nth_out (by simp; omega)]

theorem rank_in {s i : List Int} (h : inB s i) : rank s i = rankTo s i s.length := by
  unfold rank
  rw [if_pos ((inBb_iff s i).2 h)]

/-- What a view's cells are where each of its indices means one of the other's. -/
theorem gc_view {l t s t' : List Int} {f f' : Int} (hl : sized l) (hs : sized s) (φ : List Int → List Int) (hin : ∀ i, inB s i → inB l (φ i)) (hd : ∀ i, inB s i → f' + dotTo i t' s.length = f + dotTo (φ i) t l.length) :
    gc s t' f' s.length = picked (gc l t f l.length) ((List.range (vol s).toNat).map fun r : Nat => rank l (φ (idx s r))) := by
  have hlen := gc_length s t' f' hs s.length (Nat.le_refl _)
  rw [List.take_length] at hlen
  refine ext_nth (by simp [picked]; omega) (fun r hr => ?_)
  have hr' : (r : Int) < vol s := by omega
  have hi := idx_in s r hs
  have h1 := (nth_gc s t' (idx s r) f' hs s.length (Nat.le_refl _) (fun j hj => hi.2 j hj)).2.2
  have h2 := rank_idx s r hs (by omega) hr'
  rw [rank_in hi] at h2
  rw [h2] at h1
  have h3 := hin _ hi
  have h4 := (nth_gc l t (φ (idx s r)) f hl l.length (Nat.le_refl _) (fun j hj => h3.2 j hj)).2.2
  have hrl : r < ((List.range (vol s).toNat).map fun r : Nat => rank l (φ (idx s r))).length := by simp; omega
  rw [picked_nth _ _ _ hrl, nth_lt hrl]
  have e : ((List.range (vol s).toNat).map fun r : Nat => rank l (φ (idx s r)))[r] = rank l (φ (idx s r)) := by simp
  rw [e, rank_in h3, h4, ← hd _ hi, ← h1]
  simp

theorem gc_rank {l t s : List Int} {f : Int} (hl : sized l) (φ : List Int → List Int) (hin : ∀ i, inB s i → inB l (φ i)) (hs : sized s) (j : Nat) (hj : j < ((List.range (vol s).toNat).map fun r : Nat => rank l (φ (idx s r))).length) :
    0 ≤ nth ((List.range (vol s).toNat).map fun r : Nat => rank l (φ (idx s r))) j ∧ (nth ((List.range (vol s).toNat).map fun r : Nat => rank l (φ (idx s r))) j).toNat < (gc l t f l.length).length := by
  have e : nth ((List.range (vol s).toNat).map fun r : Nat => rank l (φ (idx s r))) j = rank l (φ (idx s j)) := by rw [nth_lt hj]; simp
  have h3 := hin _ (idx_in s j hs)
  have h4 := nth_gc l t (φ (idx s j)) f hl l.length (Nat.le_refl _) (fun j hj => h3.2 j hj)
  rw [e, rank_in h3]
  exact ⟨h4.1, by omega⟩

theorem GOk.view {l t s t' : List Int} {f f' M : Int} (hg : GOk l t f M) (hs : okShape s) (ht : t'.length ≤ s.length) (hu : ∀ k, k < s.length → nth s k = 1 → nth t' k = 0) (φ : List Int → List Int) (hin : ∀ i, inB s i → inB l (φ i)) (hd : ∀ i, inB s i → f' + dotTo i t' s.length = f + dotTo (φ i) t l.length) : GOk s t' f' M := by
  refine ⟨hs, ht, hu, fun j hj => ?_, hg.small⟩
  rw [gc_view hg.shape.2.1 hs.2.1 φ hin hd] at hj ⊢
  have hj' : j < ((List.range (vol s).toNat).map fun r : Nat => rank l (φ (idx s r))).length := by simpa [picked] using hj
  rw [picked_nth _ _ _ hj']
  exact hg.inside _ (gc_rank hg.shape.2.1 φ hin hs.2.1 j hj').2

theorem dot_one (a b c d : List Int) (k : Nat) (n : Nat) (h : ∀ j, j < n → j ≠ k → nth a j * nth b j = nth c j * nth d j) :
    dotTo a b n + (if k < n then nth c k * nth d k else 0) = dotTo c d n + (if k < n then nth a k * nth b k else 0) := by
  induction n with
  | zero => simp [dotTo]
  | succ n ih =>
    have := ih (fun j hj => h j (by omega))
    simp only [dotTo]
    by_cases hk : k < n
    · rw [if_pos hk, if_pos hk] at this
      rw [if_pos (by omega), if_pos (by omega), h n (by omega) (by omega)]
      omega
    · rw [if_neg hk, if_neg hk] at this
      by_cases hk2 : k = n
      · subst hk2
        rw [if_pos (by omega), if_pos (by omega)]
        omega
      · rw [if_neg (by omega), if_neg (by omega), h n (by omega) (by omega)]
        omega

/-- A cut's steps. -/
def cutT (l t : List Int) (k : Nat) (count step : Int) : List Int := mkL l.length (upd (nth t) k (stepOf count (step * nth t k)))

theorem cut_dot {l t : List Int} {f start step : Int} {k cn : Nat} (hk : k < l.length) (hc : 1 ≤ cn) (i : List Int) (hi : inB (l.set k (cn : Int)) i) :
    (f + start * nth t k) + dotTo i (cutT l t k cn step) (l.set k (cn : Int)).length = f + dotTo (cutL i k start cn step) t l.length := by
  have hil : i.length = l.length := by have := hi.1; simp at this; omega
  have ht : ∀ j, j < l.length → nth (cutT l t k cn step) j = if j = k then stepOf cn (step * nth t k) else nth t j := fun j hj => by
    unfold cutT
    rw [mkL_nth, if_pos hj]
    rfl
  have hcl : ∀ j, nth (cutL i k start cn step) j = if j = k then (if 1 < (cn : Int) then start + nth i k * step else start) else nth i j := fun j => by
    unfold cutL
    rw [nth_setN _ _ _ _ (by omega)]
  have h := dot_one i (cutT l t k cn step) (cutL i k start cn step) t k l.length (fun j hj hne => by rw [ht j hj, if_neg hne, hcl, if_neg hne])
  rw [if_pos hk, if_pos hk, ht k hk, if_pos rfl, hcl, if_pos rfl] at h
  rw [List.length_set]
  have hik := hi.2 k (by simpa using hk)
  rw [nth_setN _ _ _ _ hk, if_pos rfl] at hik
  have key : start * nth t k + nth i k * stepOf cn (step * nth t k) = (if 1 < (cn : Int) then start + nth i k * step else start) * nth t k := by
    by_cases h1 : 1 < (cn : Int)
    · rw [if_pos h1, stepOf, if_neg (by omega), Int.add_mul, Int.mul_assoc]
    · rw [if_neg h1, stepOf, if_pos (by omega), Int.mul_zero, Int.add_zero]
  omega

theorem turnTo_zero {n : Nat} {ax l : List Int} {k : Nat} (p : Nat) (h : ∀ j, j < k → (nth ax j).toNat ≠ p) : nth (turnTo n ax l k) p = 0 := by
  induction k with
  | zero =>
    unfold turnTo nth List.getD
    rw [List.getElem?_replicate]
    split <;> rfl
  | succ k ih =>
    rw [turnTo]
    have h1 := h k (by omega)
    have e : ∀ (L : List Int) (q : Nat) (x : Int), q ≠ p → nth (L.set q x) p = nth L p := fun L q x hq => by
      unfold nth List.getD
      rw [List.getElem?_set_ne hq]
    rw [e _ _ _ h1]
    exact ih (fun j hj => h j (by omega))

theorem turn_dot {n : Nat} {ax t : List Int} (hl : ax.length = n) (ha : axesTo n ax n) (i : List Int) (k : Nat) (hk : k ≤ n) : dotTo (turnTo n ax i k) t n = dotTo i (turnS t ax) k := by
  induction k with
  | zero =>
    have key : ∀ m, dotTo (turnTo n ax i 0) t m = 0 := fun m => by
      induction m with
      | zero => rfl
      | succ m ih => rw [dotTo, ih, turnTo_zero m (fun j hj => by omega)]; simp
    rw [key]; rfl
  | succ k ih =>
    have h0 := ih (by omega)
    obtain ⟨⟨a1, a2⟩, a3⟩ := ha k (by omega)
    have hp : (nth ax k).toNat < n := by omega
    have hz : nth (turnTo n ax i k) (nth ax k).toNat = 0 := turnTo_zero _ (fun j hj e => by
      have b := (ha j (by omega)).1
      exact a3 j hj (by omega))
    have e : ∀ j, nth (turnTo n ax i (k + 1)) j = if j = (nth ax k).toNat then nth i k else nth (turnTo n ax i k) j := fun j => by
      rw [turnTo, nth_setN _ _ _ _ (by rw [turnTo_length]; exact hp)]
    have h := dot_one (turnTo n ax i (k + 1)) t (turnTo n ax i k) t (nth ax k).toNat n (fun j hj hne => by rw [e, if_neg hne])
    rw [if_pos hp, if_pos hp, hz, e, if_pos rfl, Int.zero_mul] at h
    rw [dotTo, turnS_nth _ _ _ (by omega), ← h0]
    omega

/-- A stretch's steps. -/
def strT (l t s : List Int) : List Int := mkL s.length fun j => if s.length - l.length ≤ j then nth t (j - (s.length - l.length)) else 0

theorem str_dot {l t s : List Int} (hls : l.length ≤ s.length) (hu : ∀ k, k < l.length → nth l k = 1 → nth t k = 0) (hs : sized l) (i : List Int) : dotTo i (strT l t s) s.length = dotTo (meantOf l s i) t l.length := by
  have hn : ∀ j, j < s.length → nth (strT l t s) j = if s.length - l.length ≤ j then nth t (j - (s.length - l.length)) else 0 := fun j hj => by
    unfold strT
    rw [mkL_nth, if_pos hj]
  have z : ∀ m, m ≤ s.length - l.length → dotTo i (strT l t s) m = 0 := fun m => by
    induction m with
    | zero => intro _; rfl
    | succ m ih =>
      intro hm
      rw [dotTo, ih (by omega), hn m (by omega), if_neg (by omega)]
      simp
  have key : ∀ k, k ≤ l.length → dotTo i (strT l t s) (s.length - l.length + k) = dotTo (meantOf l s i) t k := fun k => by
    induction k with
    | zero => intro _; exact z _ (Nat.le_refl _)
    | succ k ih =>
      intro hk
      rw [← Nat.add_assoc, dotTo, dotTo, ih (by omega), hn _ (by omega), if_pos (by omega), meantOf_nth l s i k (by omega), show s.length - l.length + k - (s.length - l.length) = k by omega]
      by_cases h1 : 1 < nth l k
      · rw [if_pos h1]
      · have := hs k (by omega)
        rw [if_neg h1, hu k (by omega) (by omega)]
        simp
  have := key l.length (Nat.le_refl _)
  rwa [show s.length - l.length + l.length = s.length by omega] at this

end Go.Proofs.YticbbncdcannlaaGreat

/- Axes that go on evenly are one: the cells of a grid, and the grid of the fewest axes with the same cells. No program. -/
namespace Go.Proofs.YticbbncdcannlaaGreat

/-- The place of the r-th cell behind the first: axes as pairs of size and step, the fastest first. -/
def roff : List (Int × Int) → Int → Int
  | [], _ => 0
  | (z, t) :: rest, r => (r % z) * t + roff rest (r / z)

def svol : List (Int × Int) → Int
  | [] => 1
  | (z, _) :: rest => z * svol rest

/-- One more axis, joined with the last one where they go on evenly. -/
def mstep (acc : List (Int × Int)) (z t : Int) : List (Int × Int) :=
  if z = 1 then acc else
  match acc with
  | [] => [(z, t)]
  | (z0, t0) :: rest => if t0 = z * t then (z0 * z, t) :: rest else (z, t) :: (z0, t0) :: rest

def bigs (A : List (Int × Int)) : Prop := ∀ x ∈ A, 2 ≤ x.1

def canonS : List (Int × Int) → Prop
  | [] => True
  | [_] => True
  | (z, t) :: (z0, t0) :: rest => t0 ≠ z * t ∧ canonS ((z0, t0) :: rest)

theorem roff_zero (A : List (Int × Int)) (h : ∀ x ∈ A, 1 ≤ x.1) : roff A 0 = 0 := by
  induction A with
  | nil => rfl
  | cons x A ih =>
    obtain ⟨z, t⟩ := x
    simp only [roff, Int.zero_emod, Int.zero_mul, Int.zero_ediv, Int.zero_add]
    exact ih (fun y hy => h y (List.mem_cons_of_mem _ hy))

theorem svol_pos (A : List (Int × Int)) (h : bigs A) : 1 ≤ svol A := by
  induction A with
  | nil => exact Int.le_refl _
  | cons x A ih =>
    obtain ⟨z, t⟩ := x
    have h1 := ih (fun y hy => h y (List.mem_cons_of_mem _ hy))
    have h2 : 2 ≤ z := h (z, t) (List.mem_cons_self ..)
    simp only [svol]
    have := Int.mul_le_mul (show (1 : Int) ≤ z by omega) h1 (by omega) (by omega)
    omega

theorem bigs_mstep {A : List (Int × Int)} (h : bigs A) {z : Int} (hz : 1 ≤ z) (t : Int) : bigs (mstep A z t) := by
  unfold mstep
  split
  · exact h
  · rename_i hz1
    split
    · intro x hx
      simp at hx
      rw [hx]; show 2 ≤ z; omega
    · rename_i z0 t0 rest
      have h0 : 2 ≤ z0 := h (z0, t0) (List.mem_cons_self ..)
      split
      · intro x hx
        rcases List.mem_cons.1 hx with rfl | hx
        · show 2 ≤ z0 * z
          have := Int.mul_le_mul h0 (show (1 : Int) ≤ z by omega) (by omega) (by omega)
          omega
        · exact h x (List.mem_cons_of_mem _ hx)
      · intro x hx
        rcases List.mem_cons.1 hx with rfl | hx
        · show 2 ≤ z; omega
        · exact h x hx

theorem canonS_mstep {A : List (Int × Int)} (hc : canonS A) (z t : Int) : canonS (mstep A z t) := by
  unfold mstep
  split
  · exact hc
  · split
    · trivial
    · rename_i z0 t0 rest
      split
      · rename_i e
        cases rest with
        | nil => trivial
        | cons y rest =>
          obtain ⟨z1, t1⟩ := y
          refine ⟨?_, hc.2⟩
          have := hc.1
          rw [e] at this
          rw [Int.mul_assoc]; exact this
      · rename_i e
        exact ⟨e, hc⟩

theorem svol_mstep (A : List (Int × Int)) (z t : Int) : svol (mstep A z t) = z * svol A := by
  unfold mstep
  split
  · rename_i e; rw [e]; omega
  · split
    · rfl
    · rename_i z0 t0 rest
      split
      · simp only [svol]
        rw [Int.mul_comm z0 z, Int.mul_assoc]
      · rfl

theorem roff_mstep (A : List (Int × Int)) {z : Int} (hz : 1 ≤ z) (h : ∀ x ∈ A, 1 ≤ x.1) (t : Int) (ht : z = 1 → t = 0) (r : Int) : roff (mstep A z t) r = (r % z) * t + roff A (r / z) := by
  unfold mstep
  split
  · rename_i e; subst e; simp [ht rfl]
  · split
    · rfl
    · rename_i z0 t0 rest
      split
      · rename_i e
        have h0 : 1 ≤ z0 := h (z0, t0) (List.mem_cons_self ..)
        simp only [roff]
        rw [e]
        have e1 : r / (z0 * z) = r / z / z0 := by
          rw [Int.mul_comm, Int.ediv_ediv_of_nonneg (by omega)]
        have e2 : r % (z0 * z) = r % z + z * (r / z % z0) := by
          have a1 := Int.mul_ediv_add_emod r (z0 * z)
          have a2 := Int.mul_ediv_add_emod r z
          have a3 := Int.mul_ediv_add_emod (r / z) z0
          rw [e1] at a1
          have a4 : z * (r / z) = z0 * z * (r / z / z0) + z * (r / z % z0) := by
            conv => lhs; rw [← a3]
            rw [Int.mul_add]
            congr 1
            rw [← Int.mul_assoc, Int.mul_comm z z0]
          omega
        rw [e1, e2, Int.add_mul, Int.add_assoc]
        congr 2
        rw [Int.mul_comm z, Int.mul_assoc]
      · rfl

theorem roff_small {z t : Int} {A : List (Int × Int)} (h : ∀ x ∈ A, 1 ≤ x.1) (r : Int) (h0 : 0 ≤ r) (h1 : r < z) : roff ((z, t) :: A) r = r * t := by
  simp only [roff]
  rw [Int.emod_eq_of_lt h0 h1, Int.ediv_eq_zero_of_lt h0 h1, roff_zero A h, Int.add_zero]

theorem bigs_one {A : List (Int × Int)} (h : bigs A) : ∀ x ∈ A, 1 ≤ x.1 := fun x hx => by have := h x hx; omega

theorem roff_next {z t : Int} {A : List (Int × Int)} (hz : 1 ≤ z) (q : Int) : roff ((z, t) :: A) (q * z) = roff A q := by
  simp only [roff]
  rw [Int.mul_emod_left, Int.zero_mul, Int.zero_add, Int.mul_ediv_cancel _ (by omega)]

theorem head_lt {z t y u : Int} {A B : List (Int × Int)} (hA : bigs ((z, t) :: A)) (hB : bigs ((y, u) :: B)) (cA : canonS ((z, t) :: A)) (hv : svol ((z, t) :: A) = svol ((y, u) :: B)) (he : ∀ r, 0 ≤ r → r < svol ((z, t) :: A) → roff ((z, t) :: A) r = roff ((y, u) :: B) r) (htu : t = u) : ¬ z < y := by
  intro hlt
  have hz : 2 ≤ z := hA (z, t) (List.mem_cons_self ..)
  have bA : bigs A := fun x hx => hA x (List.mem_cons_of_mem _ hx)
  have bB : bigs B := fun x hx => hB x (List.mem_cons_of_mem _ hx)
  have vB := svol_pos B bB
  have hyv : y ≤ svol ((y, u) :: B) := by
    simp only [svol]
    have := Int.mul_le_mul_of_nonneg_left vB (show (0 : Int) ≤ y by omega)
    omega
  have e := he z (by omega) (by omega)
  rw [roff_small (bigs_one bB) z (by omega) hlt] at e
  have e2 : roff ((z, t) :: A) z = roff A 1 := by have := roff_next (t := t) (A := A) (show 1 ≤ z by omega) 1; rwa [Int.one_mul] at this
  rw [e2] at e
  cases A with
  | nil => simp only [svol] at hv hyv; omega
  | cons x A =>
    obtain ⟨z0, t0⟩ := x
    have hz0 : 2 ≤ z0 := bA (z0, t0) (List.mem_cons_self ..)
    rw [roff_small (fun x hx => bigs_one bA x (List.mem_cons_of_mem _ hx)) 1 (by omega) (by omega), Int.one_mul] at e
    exact cA.1 (by rw [e, htu])

theorem canonS_unique : ∀ (A B : List (Int × Int)), bigs A → bigs B → canonS A → canonS B → svol A = svol B → (∀ r, 0 ≤ r → r < svol A → roff A r = roff B r) → A = B := by
  intro A
  induction A with
  | nil =>
    intro B _ hB _ _ hv _
    cases B with
    | nil => rfl
    | cons y B =>
      exfalso
      obtain ⟨y, u⟩ := y
      have h1 : 2 ≤ y := hB (y, u) (List.mem_cons_self ..)
      have h2 := svol_pos B (fun x hx => hB x (List.mem_cons_of_mem _ hx))
      simp only [svol] at hv
      have := Int.mul_le_mul h1 h2 (by omega) (by omega)
      omega
  | cons x A ih =>
    obtain ⟨z, t⟩ := x
    intro B hA hB cA cB hv he
    have bA : bigs A := fun x hx => hA x (List.mem_cons_of_mem _ hx)
    have vA := svol_pos A bA
    have hz : 2 ≤ z := hA (z, t) (List.mem_cons_self ..)
    have hzv : z ≤ svol ((z, t) :: A) := by
      simp only [svol]
      have := Int.mul_le_mul_of_nonneg_left vA (show (0 : Int) ≤ z by omega)
      omega
    cases B with
    | nil => exfalso; simp only [svol] at hv hzv; omega
    | cons y B =>
      obtain ⟨y, u⟩ := y
      have bB : bigs B := fun x hx => hB x (List.mem_cons_of_mem _ hx)
      have hy : 2 ≤ y := hB (y, u) (List.mem_cons_self ..)
      have htu : t = u := by
        have e := he 1 (by omega) (by omega)
        rw [roff_small (bigs_one bA) 1 (by omega) (by omega), roff_small (bigs_one bB) 1 (by omega) (by omega)] at e
        omega
      have h1 := head_lt hA hB cA hv he htu
      have h2 := head_lt hB hA cB hv.symm (fun r h0 h1 => (he r h0 (by omega)).symm) htu.symm
      have hzy : z = y := by omega
      subst hzy
      subst htu
      have hv' : svol A = svol B := by
        simp only [svol] at hv
        exact Int.eq_of_mul_eq_mul_left (by omega) hv
      have := ih B bA bB (by cases A with | nil => trivial | cons a A => exact cA.2) (by cases B with | nil => trivial | cons b B => exact cB.2) hv' (fun q h0 h1 => by
        have e := he (q * z) (Int.mul_nonneg h0 (by omega)) (by
          simp only [svol]
          rw [Int.mul_comm z]
          exact Int.mul_lt_mul_of_pos_right h1 (by omega))
        rwa [roff_next (by omega), roff_next (by omega)] at e)
      rw [this]

theorem vol_pos_of {l : List Int} (hs : sized l) : 1 ≤ vol l := by
  have := gc_length l [] 0 hs l.length (Nat.le_refl _)
  have h2 := gc_pos l [] 0 hs l.length (Nat.le_refl _)
  rw [List.take_length] at this
  omega

/-- The axes of a grid, the fastest first. -/
def stk (l t : List Int) : Nat → List (Int × Int)
  | 0 => []
  | k + 1 => (nth l k, nth t k) :: stk l t k

/-- Likewise, joined. -/
def mstk (l t : List Int) : Nat → List (Int × Int)
  | 0 => []
  | k + 1 => mstep (mstk l t k) (nth l k) (nth t k)

theorem gc_roff (l t : List Int) (f : Int) (hs : sized l) (k : Nat) (hk : k ≤ l.length) (r : Nat) (hr : (r : Int) < vol (l.take k)) : nth (gc l t f k) r = f + roff (stk l t k) r := by
  induction k generalizing r with
  | zero =>
    simp [vol] at hr
    have : r = 0 := by omega
    subst this
    simp [gc, stk, roff, nth]
  | succ k ih =>
    have h1 := hs k (by omega)
    rw [vol_take l k (by omega)] at hr
    have hn : (((nth l k).toNat : Nat) : Int) = nth l k := by omega
    have hq : ((r / (nth l k).toNat : Nat) : Int) < vol (l.take k) := by
      rw [Int.natCast_ediv, hn]
      exact Int.ediv_lt_of_lt_mul (by omega) hr
    have hlen := gc_length l t f hs k (by omega)
    have e : r = r / (nth l k).toNat * (nth l k).toNat + r % (nth l k).toNat := by rw [Nat.mul_comm]; exact (Nat.div_add_mod _ _).symm
    conv => lhs; rw [e]
    rw [gc, nth_spread _ _ _ _ _ (by omega) (Nat.mod_lt _ (by omega)), ih (by omega) _ hq]
    simp only [stk, roff]
    rw [Int.natCast_ediv, Int.natCast_emod, hn]
    omega

theorem mstk_ok (l t : List Int) (hs : sized l) (hu : ∀ k, k < l.length → nth l k = 1 → nth t k = 0) (k : Nat) (hk : k ≤ l.length) : bigs (mstk l t k) ∧ canonS (mstk l t k) ∧ svol (mstk l t k) = vol (l.take k) ∧ ∀ r, roff (mstk l t k) r = roff (stk l t k) r := by
  induction k with
  | zero => exact ⟨fun x hx => (by cases hx), trivial, by simp [mstk, svol, vol], fun _ => rfl⟩
  | succ k ih =>
    obtain ⟨i1, i2, i3, i4⟩ := ih (by omega)
    have h1 := hs k (by omega)
    refine ⟨bigs_mstep i1 h1.1 _, canonS_mstep i2 _ _, ?_, fun r => ?_⟩
    · rw [mstk, svol_mstep, i3, vol_take l k (by omega), Int.mul_comm]
    · rw [mstk, roff_mstep _ h1.1 (bigs_one i1) _ (hu k (by omega)), i4]
      rfl

/-- Two grids have the same cells in the same order if, and only if, they are the same when joined. -/
theorem same_cells {l t s u : List Int} {f : Int} (hl : sized l) (hs : sized s) (hlu : ∀ k, k < l.length → nth l k = 1 → nth t k = 0) (hsu : ∀ k, k < s.length → nth s k = 1 → nth u k = 0) (hv : vol s = vol l) :
    gc s u f s.length = gc l t f l.length ↔ mstk s u s.length = mstk l t l.length := by
  obtain ⟨a1, a2, a3, a4⟩ := mstk_ok l t hl hlu l.length (Nat.le_refl _)
  obtain ⟨b1, b2, b3, b4⟩ := mstk_ok s u hs hsu s.length (Nat.le_refl _)
  have ll := gc_length l t f hl l.length (Nat.le_refl _)
  have ls := gc_length s u f hs s.length (Nat.le_refl _)
  have hvs := vol_pos_of hs
  rw [List.take_length] at a3 b3 ll ls
  have key : ∀ r : Nat, (r : Int) < vol l → nth (gc s u f s.length) r = f + roff (mstk s u s.length) r ∧ nth (gc l t f l.length) r = f + roff (mstk l t l.length) r := fun r hr => by
    rw [a4, b4]
    exact ⟨gc_roff s u f hs s.length (Nat.le_refl _) r (by rw [List.take_length]; omega), gc_roff l t f hl l.length (Nat.le_refl _) r (by rw [List.take_length]; omega)⟩
  constructor
  · intro e
    refine canonS_unique _ _ b1 a1 b2 a2 (by rw [b3, a3, hv]) (fun r h0 h1 => ?_)
    rw [b3, hv] at h1
    have h2 := key r.toNat (by omega)
    rw [e] at h2
    rw [show ((r.toNat : Nat) : Int) = r by omega] at h2
    omega
  · intro e
    refine ext_nth (by omega) (fun r hr => ?_)
    obtain ⟨k1, k2⟩ := key r (by omega)
    rw [k1, k2, e]

end Go.Proofs.YticbbncdcannlaaGreat

/- The document's further calls on its state: Assign, Work, Fold, Reshape. No program. -/
namespace Go.Proofs.YticbbncdcannlaaGreat
open Go.RowKit

/-- The values that an array has at the indices that a shape's mean. -/
def Sp.seen (σ : Sp) (a : Arr) (s : List Int) : List Int := picked (σ.valuesOf a) (meant a.shape s)

/-- Assign: the state behind it, the error. -/
def Sp.assign (σ : Sp) (to fr : Int) : Sp × Int := match σ.find to, σ.find fr with
  | some a, some b =>
    if a.ro = true then (σ, 6) else if stretchB b.shape a.shape = true then (σ.writes a.kind a.cells (fun i => asK a.kind (nth (σ.seen b a.shape) i)) a.cells.length, 0) else (σ, 4)
  | _, _ => (σ, 2)

/-- A sum taken as a number of a kind. -/
def wrapK (k v : Int) : Int := if k = 1 then v % 256 else IntKind.i64.wrap v

/-- What an op makes of two numbers of a kind. -/
def opK (op k a b : Int) : Int :=
  if op = 1 then wrapK k (a + b) else if op = 2 then wrapK k (a - b) else if op = 3 then wrapK k (a * b) else if op = 4 then (if b < a then b else a) else (if a < b then b else a)

/-- A new array with a buffer of its own and these values: the state, the handle, the error. -/
def Sp.fresh (σ : Sp) (kind : Int) (s : List Int) (f : Nat → Int) : Sp × Int × Int :=
  if 40 ≤ σ.live then (σ, 0, 7)
  else if σ.place kind (vol s).toNat < 0 then (σ, 0, 8)
  else (σ.made kind (σ.place kind (vol s).toNat) s (vol s).toNat f, (σ.arrs.length : Int) + 1, 0)

/-- A shape without an axis; an index with one more number. -/
def foldS (s : List Int) (k : Nat) : List Int := s.take k ++ s.drop (k + 1)
def foldL (i : List Int) (k : Nat) (x : Int) : List Int := i.take k ++ [x] ++ i.drop k

/-- The first n + 1 numbers folded. -/
def foldV (op kind : Int) (f : Nat → Int) : Nat → Int
  | 0 => f 0
  | n + 1 => opK op kind (foldV op kind f n) (f (n + 1))

/-- What a fold makes of the values along an axis, behind the r-th index of the others. -/
def Sp.folded (σ : Sp) (op : Int) (a : Arr) (k : Nat) (r : Nat) : Int :=
  foldV op a.kind (fun x => nth (σ.valuesOf a) (rank a.shape (foldL (idx (foldS a.shape k) r) k x)).toNat) ((nth a.shape k).toNat - 1)

/-- Fold: the state, the handle, the error. -/
def Sp.fold (σ : Sp) (op h axis : Int) : Sp × Int × Int :=
  if op < 1 ∨ 5 < op ∨ op = 2 then (σ, 0, 1) else match σ.find h with
  | none => (σ, 0, 2)
  | some a => if axis < 0 ∨ (a.shape.length : Int) ≤ axis then (σ, 0, 5) else σ.fresh a.kind (foldS a.shape axis.toNat) (fun r => asK a.kind (σ.folded op a axis.toNat r))

/-- The steps that would tell cells from the first one. -/
def evenT (s at' : List Int) : List Int := mkL s.length fun k => if 1 < nth s k then nth at' (vol (s.drop (k + 1))).toNat - nth at' 0 else 0

/-- Do they? -/
def evenB (s at' : List Int) : Bool := decide (gc s (evenT s at') (nth at' 0) s.length = at')

/-- Reshape: the state, the handle, whether it is a view, the error. -/
def Sp.reshape (σ : Sp) (h : Int) (s : List Int) : Sp × Int × Bool × Int := match σ.find h with
  | none => (σ, 0, false, 2)
  | some a =>
    if shapeB s = false ∨ vol s ≠ vol a.shape then (σ, 0, false, 4)
    else if evenB s a.cells = true then
      (if 40 ≤ σ.live then (σ, 0, false, 7) else (σ.lay ⟨a.kind, s, a.cells, a.ro, a.buf⟩, (σ.arrs.length : Int) + 1, true, 0))
    else ((σ.fresh a.kind s (fun i => asK a.kind (nth (σ.valuesOf a) i))).1, (σ.fresh a.kind s (fun i => asK a.kind (nth (σ.valuesOf a) i))).2.1, false, (σ.fresh a.kind s (fun i => asK a.kind (nth (σ.valuesOf a) i))).2.2)

end Go.Proofs.YticbbncdcannlaaGreat
