/- The program's package grid, walked: merged. -/
import Derived.Test.YticbbncdcannlaaGreatG31
import Derived.Test.YticbbncdcannlaaGreatG30

namespace Go.Proofs.YticbbncdcannlaaGreat
open Go.RowKit

/-- Joined axes as numbers by their places. -/
def sS (A : List (Int × Int)) (j : Nat) : Int := (A.reverse.getD j (0, 0)).1
def sT (A : List (Int × Int)) (j : Nat) : Int := (A.reverse.getD j (0, 0)).2

theorem getD_snoc {α : Type} (l : List α) (x d : α) (j : Nat) : (l ++ [x]).getD j d = if j = l.length then x else l.getD j d := by
  unfold List.getD
  rw [List.getElem?_append]
  by_cases h : j < l.length
  · rw [if_pos h, if_neg (by omega)]
  · rw [if_neg h]
    by_cases e : j = l.length
    · rw [if_pos e, e]; simp
    · rw [if_neg e, List.getElem?_eq_none (by simp; omega), List.getElem?_eq_none (by omega)]

theorem sS_push (A : List (Int × Int)) (z t : Int) : sS ((z, t) :: A) = upd (sS A) A.length z ∧ sT ((z, t) :: A) = upd (sT A) A.length t := by
  constructor <;> funext j
  · unfold sS upd
    rw [List.reverse_cons, getD_snoc, List.length_reverse]
    split <;> rfl
  · unfold sT upd
    rw [List.reverse_cons, getD_snoc, List.length_reverse]
    split <;> rfl

theorem upd_upd (S : Nat → Int) (k : Nat) (a b : Int) : upd (upd S k a) k b = upd S k b := by
  funext j
  unfold upd
  split <;> rfl

theorem sS_top (A : List (Int × Int)) (z t : Int) : sS ((z, t) :: A) A.length = z ∧ sT ((z, t) :: A) A.length = t := by
  rw [(sS_push A z t).1, (sS_push A z t).2]
  simp [upd]

/-- Joined axes are told by their numbers. -/
theorem sST_eq {A B : List (Int × Int)} (hl : A.length = B.length) (h : ∀ j, j < A.length → sS A j = sS B j ∧ sT A j = sT B j) : A = B := by
  have : A.reverse = B.reverse := by
    refine List.ext_getElem (by simp [hl]) (fun j h1 h2 => ?_)
    have hj := h j (by simpa using h1)
    unfold sS sT List.getD at hj
    rw [List.getElem?_eq_getElem h1, List.getElem?_eq_getElem h2] at hj
    exact Prod.ext hj.1 hj.2
  simpa using this

theorem mstep_length (A : List (Int × Int)) (z t : Int) : (mstep A z t).length ≤ A.length + 1 := by
  unfold mstep
  split
  · omega
  · split
    · simp
    · split <;> simp
theorem mstk_length (l t : List Int) (k : Nat) : (mstk l t k).length ≤ k := by
  induction k with
  | zero => simp [mstk]
  | succ k ih => have := mstep_length (mstk l t k) (nth l k) (nth t k); rw [mstk]; omega

/-- What bounds the joined axes' numbers. -/
theorem mstk_bd (l t : List Int) (hs : sized l) (ht : ∀ k, k < l.length → -1000000 ≤ nth t k ∧ nth t k ≤ 1000000) (k : Nat) (hk : k ≤ l.length) : ∀ x ∈ mstk l t k, 2 ≤ x.1 ∧ x.1 ≤ (60 : Int) ^ k ∧ -1000000 ≤ x.2 ∧ x.2 ≤ 1000000 := by
  induction k with
  | zero => intro x hx; cases hx
  | succ k ih =>
    have i0 := ih (by omega)
    have h1 := hs k (by omega)
    have h2 := ht k (by omega)
    have p60 : (60 : Int) ^ (k + 1) = 60 ^ k * 60 := Int.pow_succ 60 k
    have pos : (1 : Int) ≤ 60 ^ k := by
      have : (0 : Int) < 60 ^ k := Int.pow_pos (by omega)
      omega
    have up : ∀ x ∈ mstk l t k, 2 ≤ x.1 ∧ x.1 ≤ (60 : Int) ^ (k + 1) ∧ -1000000 ≤ x.2 ∧ x.2 ≤ 1000000 := fun x hx => by
      have := i0 x hx
      omega
    rw [mstk]
    unfold mstep
    split
    · exact up
    · split
      · intro x hx
        simp at hx
        rw [hx]
        refine ⟨by show 2 ≤ nth l k; omega, by show nth l k ≤ _; omega, h2.1, h2.2⟩
      · rename_i z0 t0 rest hA
        rw [hA] at up i0
        split
        · intro x hx
          rcases List.mem_cons.1 hx with rfl | hx
          · have j0 := i0 (z0, t0) (List.mem_cons_self ..)
            have hm := Int.mul_le_mul j0.2.1 h1.2 (by omega) (by omega)
            have hm2 := Int.mul_le_mul j0.1 h1.1 (by omega) (by have := j0.1; omega)
            refine ⟨by show 2 ≤ z0 * nth l k; simp only at hm2; omega, by show z0 * nth l k ≤ _; rw [p60]; exact hm, h2.1, h2.2⟩
          · exact up x (List.mem_cons_of_mem _ hx)
        · intro x hx
          rcases List.mem_cons.1 hx with rfl | hx
          · refine ⟨by show 2 ≤ nth l k; omega, by show nth l k ≤ _; omega, h2.1, h2.2⟩
          · exact up x hx

/-- A joined grid's cells. -/
def stC (A : List (Int × Int)) (f : Int) : Array Value := #[.int .i64 (sS A 0), .int .i64 (sS A 1), .int .i64 (sS A 2), .int .i64 (sS A 3), .int .i64 (A.length : Int), .int .i64 f, .int .i64 (sT A 0), .int .i64 (sT A 1), .int .i64 (sT A 2), .int .i64 (sT A 3)]

theorem mul_in {z y : Int} (h1 : 1 ≤ z) (h2 : z ≤ 60) (h3 : -1000000 ≤ y ∧ y ≤ 1000000) : IntKind.i64.wrap (z * y) = z * y := by
  have a : z * y ≤ z * 1000000 := Int.mul_le_mul_of_nonneg_left h3.2 (by omega)
  have b : z * (-1000000) ≤ z * y := Int.mul_le_mul_of_nonneg_left h3.1 (by omega)
  simp [IntKind.wrap, IntKind.signed, IntKind.bits]
  omega

set_option maxRecDepth 100000 in
set_option maxHeartbeats 4000000 in
theorem xmerged_calls (l t : List Int) (f : Int) (w : World) (hs : sized l) (hl : l.length ≤ 4) (ht : ∀ k, k < l.length → -1000000 ≤ nth t k ∧ nth t k ≤ 1000000) :
    Calls Tryz.prog 96 #[.agg (grC l t f).toArray] w fun e w' => e = .returned (.agg (stC (mstk l t l.length) f)) ∧ Kp0 w w' := by
  have HBD := hid (mstk_bd l t hs ht)
  have HLE := hid (mstk_length l t)
  have HS := hid hs
  have HT := hid ht
  unfold grC
  obtain ⟨n, hn⟩ : ∃ n, l.length = n := ⟨_, rfl⟩
  rw [hn]
  have HN := hid hn
  have hn4 : n ≤ 4 := by omega
  obtain ⟨hB0, hB1, hB2⟩ := three_heap w (grB l t f n) zGB (grG (fun _ => 0) (fun _ => 0) f 0)
  have HB0 := hid hB0
  have HB1 := hid hB1
  have HB2 : Hid ((((w.alloc (grB l t f n)).alloc zGB).alloc (grG (fun _ => 0) (fun _ => 0) f 0)).heap[w.heap.size + 1 + 1]? = some (grG (sS []) (sT []) f 0)) := hid hB2
  have HK : Hid (Kp0 w (((w.alloc (grB l t f n)).alloc zGB).alloc (grG (fun _ => 0) (fun _ => 0) f 0))) := (((Kp.refl _ w).alloc _).alloc _).alloc _
  clear hs hl ht hn hB0 hB1 hB2
  go_enter Tryz.func96, Tryz.ntmps96
  go_wp2
  obtain ⟨b0, hb0⟩ : ∃ b0, w.heap.size = b0 := ⟨_, rfl⟩
  rw [hb0] at HB0 HB1 HB2 ⊢
  have HBB := hid hb0
  clear hb0
  generalize ((w.alloc (grB l t f n)).alloc zGB).alloc (grG (fun _ => 0) (fun _ => 0) f 0) = W at HB0 HB1 HB2 HK ⊢
  go_loopw [4, 5, 6, 7, 14] (fun _ _ _ _ i w' => ∃ k : Nat, k ≤ n ∧ i = .int .i64 k ∧ Hid (Kp0 w w') ∧ Hid (w'.heap[b0]? = some (grB l t f n)) ∧ Hid (w'.heap[b0 + 1]? = some zGB) ∧ Hid (w'.heap[b0 + 1 + 1]? = some (grG (sS (mstk l t k)) (sT (mstk l t k)) f (mstk l t k).length))) (fun _ _ _ _ i _ => n - (intOf i).toNat)
  case atStart => exact ⟨0, Nat.zero_le _, rfl, HK, HB0, HB1, HB2⟩
  case round =>
    clear HB0 HB1 HB2 HK
    obtain ⟨k, hk, rfl, HK, HB0, HB1, HB2⟩ := hrel
    by_cases hlt : k < n
    · have y1 := gr_sizes HB0.out k (by omega)
      have y2 := gr_steps HB0.out k (by omega)
      obtain ⟨s1, s2⟩ := HS.out k (by have := HN.out; omega)
      have HTK := hid (HT.out k (by have := HN.out; omega))
      have HAB := hid (HBD.out k (by have := HN.out; omega))
      have HAL := hid (HLE.out k)
      have HNX : Hid (mstk l t (k + 1) = mstep (mstk l t k) (nth l k) (nth t k)) := rfl
      have k1 : (k : Int) < 4 := by omega
      have em := mul_in s1 s2 HTK.out
      have HKD : Hid (∀ j : Nat, Kp0 wr (wr.drewN j)) := hid (fun j => (Kp.refl (fun _ => False) wr).drewN j)
      generalize nth l k = z at *
      generalize nth t k = y at *
      generalize mstk l t k = A at *
      by_cases hz1 : z = 1
      · have d1 : (z == 1) = true := by simp [hz1]
        have HE : Hid (mstk l t (k + 1) = A) := hid (by rw [HNX.out]; unfold mstep; rw [if_pos hz1])
        clear hz1
        go_wp2
        go_quiet (fail)
        go_wp2
        go_roundw
        case rel => exact ⟨k + 1, by omega, by go_num, hid (HK.out.trans (HKD.out _)), hid ((HKD.out _).heap HB0.out), hid ((HKD.out _).heap HB1.out), hid (by rw [HE.out]; exact (HKD.out _).heap HB2.out)⟩
        case measure => simp [intOf]; omega
      · have d1 : (z == 1) = false := by simp [hz1]
        go_wp2
        go_quiet (fail)
        have HB0' := hid ((HKD.out nq).heap HB0.out)
        have HB1' := hid ((HKD.out nq).heap HB1.out)
        have HB2' := hid ((HKD.out nq).heap HB2.out)
        have HK' := hid (HK.out.trans (HKD.out nq))
        generalize wr.drewN nq = W2 at HB0' HB1' HB2' HK' ⊢
        clear HB0 HB1 HB2 HK HKD y1 y2
        cases A with
        | nil =>
          have y4 : W2.cell? ⟨b0 + 1 + 1, 4, none⟩ = some (.int .i64 0) := (cells10 HB2'.out).2.2.2.2.1
          have HE : Hid (mstk l t (k + 1) = [(z, y)]) := hid (by rw [HNX.out]; unfold mstep; rw [if_neg hz1])
          have HP := hid (xpush_calls (b0 + 1 + 1) z y (sS []) (sT []) f 0 W2 (by omega) HB2'.out)
          have HST : Hid (stepOf z y = y) := hid (by unfold stepOf; rw [if_neg hz1])
          rw [HST.out] at HP
          clear hz1
          go_wp2_with fail
          refine HP.out.mono ?_
          rintro e w3 ⟨rfl, hk3, hb3⟩
          have HB3 : Hid (w3.heap[b0 + 1 + 1]? = some (grG (sS [(z, y)]) (sT [(z, y)]) f 1)) := hid (by rw [(sS_push [] z y).1, (sS_push [] z y).2]; exact hb3)
          have HB03 := hid (hk3.heap HB0'.out (by omega))
          have HB13 := hid (hk3.heap HB1'.out (by omega))
          have HK3 : Hid (Kp0 w w3) := hid (Kp.trans HK'.out hk3 (fun i hi e => by have := HBB.out; omega))
          clear hk3 hb3
          go_wp2
          go_roundw
          case rel => exact ⟨k + 1, by omega, by go_num, HK3, HB03, HB13, hid (by rw [HE.out]; exact HB3.out)⟩
          case measure => simp [intOf]; omega
        | cons x R =>
          obtain ⟨z0, t0⟩ := x
          have hRl : R.length + 1 ≤ k := by have := HAL.out; simpa using this
          have y4 : W2.cell? ⟨b0 + 1 + 1, 4, none⟩ = some (.int .i64 ((R.length : Int) + 1)) := (cells10 HB2'.out).2.2.2.2.1
          have y5 := grG_step HB2'.out R.length (by omega)
          have y6 := grG_cell HB2'.out R.length (by omega)
          rw [(sS_top R z0 t0).2] at y5
          rw [(sS_top R z0 t0).1] at y6
          obtain ⟨b1, b2, -, -⟩ := HAB.out (z0, t0) (List.mem_cons_self ..)
          simp only at b1 b2
          have b3 : z0 ≤ 12960000 := by
            have : (60 : Int) ^ k ≤ 12960000 := by
              have hk4 : k ≤ 4 := by omega
              match k, hk4 with
              | 0, _ => decide
              | 1, _ => decide
              | 2, _ => decide
              | 3, _ => decide
              | 4, _ => decide
            omega
          have ez : IntKind.i64.wrap (z0 * z) = z0 * z := by
            have h1 := Int.mul_le_mul b3 s2 (by omega) (by omega)
            have h2 := Int.mul_nonneg (show (0 : Int) ≤ z0 by omega) (show (0 : Int) ≤ z by omega)
            simp [IntKind.wrap, IntKind.signed, IntKind.bits]
            omega
          have e1 : (R.length : Int) + 1 - 1 = (R.length : Int) := by omega
          have e2 : IntKind.i64.wrap (R.length : Int) = (R.length : Int) := by simp [IntKind.wrap, IntKind.signed, IntKind.bits]; omega
          have r4 : (R.length : Int) < 4 := by omega
          by_cases ht0 : t0 = z * y
          · have d2 : (t0 == z * y) = true := by simp [ht0]
            have HE : Hid (mstk l t (k + 1) = (z0 * z, y) :: R) := hid (by rw [HNX.out]; unfold mstep; rw [if_neg hz1]; simp only; rw [if_pos ht0])
            have HP := hid (xput_calls (b0 + 1 + 1) R.length (z0 * z) y (sS ((z0, t0) :: R)) (sT ((z0, t0) :: R)) f (R.length + 1) W2 (by omega) HB2'.out)
            have HST : Hid (stepOf (z0 * z) y = y) := hid (by
              have := Int.mul_le_mul b1 s1 (by omega) (by omega)
              unfold stepOf
              rw [if_neg (by omega)])
            rw [HST.out] at HP
            clear hz1 ht0 b1 b2 b3
            generalize hr : R.length = r at *
            have HRL := hid hr
            clear hr
            go_wp2_with fail
            refine HP.out.mono ?_
            rintro e w3 ⟨rfl, hk3, hb3⟩
            have HB3 : Hid (w3.heap[b0 + 1 + 1]? = some (grG (sS ((z0 * z, y) :: R)) (sT ((z0 * z, y) :: R)) f (R.length + 1))) := hid (by
              rw [(sS_push R (z0 * z) y).1, (sS_push R (z0 * z) y).2]
              rw [(sS_push R z0 t0).1, (sS_push R z0 t0).2, HRL.out, upd_upd, upd_upd] at hb3
              rw [HRL.out]
              exact hb3)
            have HB03 := hid (hk3.heap HB0'.out (by omega))
            have HB13 := hid (hk3.heap HB1'.out (by omega))
            have HK3 : Hid (Kp0 w w3) := hid (Kp.trans HK'.out hk3 (fun i hi e => by have := HBB.out; omega))
            clear hk3 hb3
            go_wp2
            go_roundw
            case rel => exact ⟨k + 1, by omega, by go_num, HK3, HB03, HB13, hid (by rw [HE.out]; exact HB3.out)⟩
            case measure => simp [intOf]; omega
          · have d2 : (t0 == z * y) = false := by simp [ht0]
            have HE : Hid (mstk l t (k + 1) = (z, y) :: (z0, t0) :: R) := hid (by rw [HNX.out]; unfold mstep; rw [if_neg hz1]; simp only; rw [if_neg ht0])
            have HP := hid (xpush_calls (b0 + 1 + 1) z y (sS ((z0, t0) :: R)) (sT ((z0, t0) :: R)) f (R.length + 1) W2 (by omega) HB2'.out)
            have HST : Hid (stepOf z y = y) := hid (by unfold stepOf; rw [if_neg hz1])
            rw [HST.out] at HP
            clear hz1 ht0 b1 b2 b3
            generalize hr : R.length = r at *
            have HRL := hid hr
            clear hr
            go_wp2_with fail
            refine HP.out.mono ?_
            rintro e w3 ⟨rfl, hk3, hb3⟩
            have HB3 : Hid (w3.heap[b0 + 1 + 1]? = some (grG (sS ((z, y) :: (z0, t0) :: R)) (sT ((z, y) :: (z0, t0) :: R)) f ((z0, t0) :: R).length.succ)) := hid (by
              rw [(sS_push ((z0, t0) :: R) z y).1, (sS_push ((z0, t0) :: R) z y).2]
              simp only [List.length_cons, HRL.out]
              exact hb3)
            have HB03 := hid (hk3.heap HB0'.out (by omega))
            have HB13 := hid (hk3.heap HB1'.out (by omega))
            have HK3 : Hid (Kp0 w w3) := hid (Kp.trans HK'.out hk3 (fun i hi e => by have := HBB.out; omega))
            clear hk3 hb3
            go_wp2
            go_roundw
            case rel => exact ⟨k + 1, by omega, by go_num, HK3, HB03, HB13, hid (by rw [HE.out]; exact HB3.out)⟩
            case measure => simp [intOf]; omega
    · obtain rfl : k = n := by omega
      obtain ⟨c0, c1, c2, c3, c4, c5, c6, c7, c8, c9⟩ := cells10 HB2.out
      go_wp2_with (refine wpList_storeRow _ rfl 107 (.tmp 2) _ rfl (b0 + 1) _ _ rfl rfl HB1.out Tryz.szGrid rfl (all10 rfl rfl rfl rfl rfl rfl rfl rfl rfl rfl) ?_; intro w5 hB5 hK5)
      (try simp only [Exit.inBlock, Exit.then])
      refine bodyPost_ret (res_cell rfl _ _ (b0 + 1) _ _ _ _ rfl hB5 Tryz.underlying107 rfl Tryz.szGrid) rfl ?_
      exact ⟨rfl, Kp.trans HK.out hK5 (fun i hi e => by have := HBB.out; omega)⟩

end Go.Proofs.YticbbncdcannlaaGreat

/- The program's package grid, walked: Layers. -/
namespace Go.Proofs.YticbbncdcannlaaGreat
open Go.RowKit

theorem laidAt_get (cur : Array Value) (o : Nat) (cs : List Value) (h : o + cs.length ≤ cur.size) (j : Nat) : (laidAt cur o cs)[j]? = if o ≤ j ∧ j < o + cs.length then cs[j - o]? else cur[j]? := by
  unfold laidAt
  rw [List.getElem?_toArray]
  have h1 : (cur.toList.take o).length = o := by simp; omega
  by_cases ha : j < o
  · rw [if_neg (by omega), List.append_assoc, List.getElem?_append_left (by omega), List.getElem?_take_of_lt ha, Array.getElem?_toList]
  · by_cases hb : j < o + cs.length
    · rw [if_pos (by omega), List.append_assoc, List.getElem?_append_right (by omega), h1, List.getElem?_append_left (by omega)]
    · rw [if_neg (by omega), List.getElem?_append_right (by rw [List.length_append]; omega), List.length_append, h1, List.getElem?_drop, show o + cs.length + (j - (o + cs.length)) = j by omega, Array.getElem?_toList]

/-- Rows of ten cells: the first N. -/
def TenRows (cur : Array Value) (R : Nat → List Value) (N : Nat) : Prop := ∀ q, q < N → ∀ c, c < 10 → cur[q * 10 + c]? = (R q)[c]?

theorem TenRows.more {cur : Array Value} {R : Nat → List Value} {N : Nat} (h : TenRows cur R N) (hs : N * 10 + 10 ≤ cur.size) (hl : (R N).length = 10) : TenRows (laidAt cur (N * 10) (R N)) R (N + 1) := fun q hq c hc => by
  rw [laidAt_get _ _ _ (by omega)]
  by_cases e : q = N
  · subst e
    rw [if_pos (by omega), show q * 10 + c - q * 10 = c by omega]
  · rw [if_neg (by omega)]
    exact h q (by omega) c hc

theorem info_grid : ∃ i z, Tryz.prog.info? 107 = some i ∧ i.zero = some z ∧ i.size = 10 ∧ i.bytes ≤ 100 := by
  have h : (Tryz.prog.info? 107).map (fun i => (i.zero.isSome, i.size, decide (i.bytes ≤ 100))) = some (true, 10, true) := by kernel_rfl
  cases hi : Tryz.prog.info? 107 with
  | none => rw [hi] at h; simp at h
  | some i =>
    rw [hi] at h
    simp at h
    obtain ⟨h1, h2, h3⟩ := h
    obtain ⟨z, hz⟩ := Option.isSome_iff_exists.1 h1
    exact ⟨i, z, rfl, hz, h2, h3⟩

theorem mk_grids (N : Nat) (hN : N ≤ 60) (W : World) : ∃ cur : Array Value, cur.size = N * 10 ∧ (Instr.makeSlice 140 (.int .i64 (N : Int)) (.int .i64 (N : Int))).run Tryz.prog W = .ok (.slice (some ⟨W.heap.size, 0, none⟩) N N) (W.alloc (.cells cur 107)) := by
  obtain ⟨i, z, h1, h2, h3, h4⟩ := info_grid
  have hb : (i.bytes : Int) * (N : Int) ≤ 281474976710656 := by
    have : i.bytes * N ≤ 100 * 60 := Nat.mul_le_mul h4 hN
    omega
  have := run_make (P := Tryz.prog) W 140 107 i z Tryz.underlying140 h1 h2 .i64 .i64 N N (by omega) (Int.le_refl _) hb (by omega)
  rw [h3] at this
  exact ⟨_, size_madeCells _ _, this⟩

set_option maxRecDepth 100000 in
set_option maxHeartbeats 4000000 in
theorem xLayers_no (l t : List Int) (f axis : Int) (w : World) (_hl : l.length ≤ 4) (h : axis < 0 ∨ (l.length : Int) ≤ axis) :
    Calls Tryz.prog 69 #[.agg (grC l t f).toArray, .int .i64 axis] w fun e w' => e = .returned (.tuple #[.slice none 0 0, .bool false]) ∧ Kp0 w w' := by
  have HA : Hid (∀ W, Calls Tryz.prog 93 #[.agg (shC l).toArray, .int .i64 axis] W fun e w' => e = .returned (.bool false) ∧ Kp0 W w') := hid (fun W => by
    have := xhasAxis_calls l axis W
    rw [show (decide (0 ≤ axis) && decide (axis < (l.length : Int))) = false by simp; omega] at this
    exact this)
  unfold shC at HA
  unfold grC
  generalize l.length = n at *
  clear h
  go_enter Tryz.func69, Tryz.ntmps69
  go_wp2_with fail
  refine (HA.out _).mono ?_
  rintro e w2 ⟨rfl, hw⟩
  have HK : Hid (Kp0 w w2) := Kp0.trans ((Kp.refl _ w).alloc _) hw
  clear hw
  go_wp2
  go_ret2
  exact ⟨rfl, HK.out⟩

set_option maxRecDepth 100000 in
set_option maxHeartbeats 4000000 in
theorem xLayers_yes (l t : List Int) (f : Int) (k N : Nat) (w : World) (M : Int) (hg : GOk l t f M) (hk : k < l.length) (hN : nth l k = (N : Int)) (hf : 0 ≤ f ∧ f ≤ 1000000) (ht : -1000000 ≤ nth t k ∧ nth t k ≤ 1000000) :
    Calls Tryz.prog 69 #[.agg (grC l t f).toArray, .int .i64 (k : Int)] w fun e w' => ∃ g, e = .returned (.tuple #[.slice (some ⟨g, 0, none⟩) N N, .bool true]) ∧ Kp0 w w' ∧ w.heap.size ≤ g ∧ ∃ cur, w'.heap[g]? = some (.cells cur 107 (0, 0)) ∧ cur.size = N * 10 ∧ TenRows cur (fun q => grC (foldS l k) (foldS t k) (f + (q : Int) * nth t k)) N := by
  have h6 := hg.shape.2.1 k hk
  have hN6 : 1 ≤ N ∧ N ≤ 60 := by omega
  have HA : Hid (∀ W, Calls Tryz.prog 93 #[.agg (shC l).toArray, .int .i64 (k : Int)] W fun e w' => e = .returned (.bool true) ∧ Kp0 W w') := hid (fun W => by
    have := xhasAxis_calls l (k : Int) W
    rw [show (decide (0 ≤ (k : Int)) && decide ((k : Int) < (l.length : Int))) = true by simp; omega] at this
    exact this)
  obtain ⟨R, hR⟩ : ∃ R : Nat → List Value, R = fun q : Nat => grC (foldS l k) (foldS t k) (f + (q : Int) * nth t k) := ⟨_, rfl⟩
  have HLY : Hid (∀ W (q : Nat), q < N → Calls Tryz.prog 100 #[.agg (grC l t f).toArray, .int .i64 (k : Int), .int .i64 (q : Int)] W fun e w' => e = .returned (.agg (R q).toArray) ∧ Kp0 W w') := hid (fun W q hq => by
    rw [hR]
    exact xlayer_calls l t f M k q W hg hk (by omega) hf ht)
  have HRL : Hid (∀ q, (R q).length = 10 ∧ (R q).toArray.all (·.oneCell') = true) := hid (fun q => by
    rw [hR]
    exact ⟨rfl, all10 rfl rfl rfl rfl rfl rfl rfl rfl rfl rfl⟩)
  rw [← hR]
  have hk4 : k < 4 := by have := hg.shape.1; omega
  have k4 : (k : Int) < 4 := by omega
  have HNK := hid hN
  unfold shC at HA
  unfold grC at HLY ⊢
  generalize l.length = n at *
  have HB0 : Hid ((w.alloc (grB l t f n)).heap[w.heap.size]? = some (grB l t f n)) := heap_alloc_new w _
  have HK0 : Hid (Kp0 w (w.alloc (grB l t f n))) := (Kp.refl _ w).alloc _
  clear hg hk hN h6 hR hf ht
  go_enter Tryz.func69, Tryz.ntmps69
  go_wp2_with fail
  refine (HA.out _).mono ?_
  rintro e w2 ⟨rfl, hw⟩
  have HK : Hid (Kp0 w w2) := HK0.out.trans hw
  have HB2 := hid (hw.heap HB0.out)
  have HSZ : Hid (w.heap.size < w2.heap.size) := hid (lt_of_heap HB2.out)
  clear hw HK0 HB0
  obtain ⟨b0, hb0⟩ : ∃ b0, w.heap.size = b0 := ⟨_, rfl⟩
  have HW0 := hid hb0
  rw [hb0] at HB2 HSZ ⊢
  clear hb0
  obtain ⟨cur0, hc0, hmk⟩ := mk_grids N hN6.2 w2
  have s1 := gr_sizes HB2.out k hk4
  rw [HNK.out] at s1
  go_wp2
  obtain ⟨g, hgz⟩ : ∃ g, w2.heap.size = g := ⟨_, rfl⟩
  have HG0 : Hid ((w2.alloc (.cells cur0 107)).heap[g]? = some (.cells cur0 107 (0, 0))) := hid (by rw [← hgz]; exact heap_alloc_new w2 _)
  have HB3 : Hid ((w2.alloc (.cells cur0 107)).heap[b0]? = some (grB l t f n)) := heap_alloc_keeps HB2.out _
  have HK3 : Hid (Kp0 w (w2.alloc (.cells cur0 107))) := HK.out.alloc _
  have hgb : b0 < g := by have := HSZ.out; omega
  rw [hgz]
  have HC0 := hid hc0
  clear hmk s1 hgz hc0 HB2 HK HSZ
  generalize w2.alloc (.cells cur0 107) = W at *
  go_loopw [7, 21] (fun _ a w' => ∃ q : Nat, q ≤ N ∧ a = .int .i64 q ∧ Hid (Kp0 w w') ∧ Hid (w'.heap[b0]? = some (grB l t f n)) ∧ ∃ cur, Hid (w'.heap[g]? = some (.cells cur 107 (0, 0))) ∧ Hid (cur.size = N * 10 ∧ TenRows cur R q)) (fun _ a _ => N - (intOf a).toNat)
  case atStart => exact ⟨0, Nat.zero_le _, rfl, HK3, HB3, cur0, HG0, hid ⟨HC0.out, fun q hq => by omega⟩⟩
  case round =>
    clear HG0 HB3 HK3
    obtain ⟨q, hq, rfl, HK, HB, cur, HG, HC⟩ := hrel
    by_cases hlt : q < N
    · have q1 : (q : Int) < (N : Int) := by omega
      have q0 : (0 : Int) ≤ (q : Int) := by omega
      obtain ⟨y0, y1, y2, y3, y4, y5, y6, y7, y8, y9⟩ := cells10 HB.out
      go_wp2_with fail
      refine (HLY.out _ q hlt).mono ?_
      rintro e w5 ⟨rfl, hw⟩
      have HK5 : Hid (Kp0 w w5) := HK.out.trans hw
      have HB5 := hid (hw.heap HB.out)
      have HG5 := hid (hw.heap HG.out)
      clear hw y0 y1 y2 y3 y4 y5 y6 y7 y8 y9
      have HSS : Hid (q * 10 + (R q).toArray.size ≤ cur.size) := hid (by rw [HC.out.1]; simp [(HRL.out q).1]; omega)
      have HSI : Hid ((Tryz.prog.info? 107).map (·.size) = some (R q).toArray.size) := hid (by rw [Tryz.szGrid]; simp [(HRL.out q).1])
      go_wp2_with (refine wpList_storeMid _ rfl 107 107 (.tmp 30) _ rfl g (q * 10) cur (R q).toArray rfl rfl HG5.out HSI.out HSS.out (HRL.out q).2 ?_; intro w6 hB6 hK6)
      have HK6 : Hid (Kp0 w w6) := Kp.trans HK5.out hK6 (fun i hi e => by have := HW0.out; omega)
      have HB6 := hid (hK6.heap HB5.out (by omega))
      refine ⟨⟨q + 1, by omega, by go_num, HK6, HB6, _, hid hB6, hid ⟨?_, ?_⟩⟩, by simp [intOf]; omega⟩
      · rw [laidAt_size (by rw [HC.out.1]; simp [(HRL.out q).1]; omega)]
        exact HC.out.1
      · exact HC.out.2.more (by rw [HC.out.1]; omega) (HRL.out q).1
    · obtain rfl : q = N := by omega
      have q1 : ¬ (q : Int) < (q : Int) := by omega
      go_wp2
      go_ret2
      exact ⟨g, rfl, HK.out, by have := HW0.out; omega, cur, HG.out, HC.out.1, HC.out.2⟩

end Go.Proofs.YticbbncdcannlaaGreat
