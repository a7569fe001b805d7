/- The cast: cut, walked. -/
import Derived.Deep.Cut
import Derived.Deep.RegionHeld3
import Derived.Test.YticbbncdcannlaaGreatG36
import Derived.Deep.RegionLaw
import Derived.BigRegion
import Derived.Test.YticbbncdcannlaaGreatG34
import Derived.Test.YticbbncdcannlaaGreatG32
import Derived.Test.YticbbncdcannlaaGreatG35
import Derived.Test.YticbbncdcannlaaGreatG30

namespace Go.Proofs.YticbbncdcannlaaGreat
open Go.RowKit

theorem grown_keep' {w w7 : World} {O : Obj} {row : Option Nat} {a : Addr} {v : Value} (hG : (w.alloc O).grownBy w7 row) (hc : w.cell? a = some v) (hr : some a.block ≠ row) : w7.cell? a = some v :=
  hG.cell (by rw [World.cell?_alloc_lt _ _ _ (World.block_lt_of_cell? w a hc)]; exact hc) hr

/-- What a view that is made one by one leaves of the cast. -/
def Viewed (w0 w : World) (T : Tags) (pc ps : Nat) (n : Nat) (V : List Int) (E : List CE) (B : Nat) (w' : World) : Prop :=
  ∃ T' σ' E', TagsTo w T T' ∧ KI w0 w' T' pc ps σ' E' ∧ KM σ' E' n V (B + 1) ∧ E.length ≤ E'.length ∧ E'.length ≤ E.length + 1

set_option maxRecDepth 100000 in
set_option maxHeartbeats 8000000 in
theorem kcut_calls {w0 w : World} {T : Tags} {pc ps : Nat} {σ : Sp} {E : List CE} {n : Nat} {V : List Int} {B : Nat} (h : KI w0 w T pc ps σ E) (hM : KM σ E n V B) (hlt : E.length < 40) (hB : B + 1 ≤ 100000000) (k : Nat) (e : CE) (he : E[k]? = some e) (vK vO vA vB vC vD : Int) (wA : IntKind.i64.wrap vA = vA) (wB : IntKind.i64.wrap vB = vB) (wC : IntKind.i64.wrap vC = vC) (wD : IntKind.i64.wrap vD = vD) :
    Calls Tryz.prog 45 #[.pointer (some ⟨pc, 0, none⟩), .agg #[.int .i64 vK, .int .i64 vO, .int .i64 vA, .int .i64 vB, .int .i64 vC, .int .i64 vD], .int .i64 (k : Int)] w fun e w' => e = .returned (.bool true) ∧ Viewed w0 w T pc ps n V E B w' := by
  obtain ⟨q0, g1, g2, g3, g4, c1, c2, c3, c4, hq, ht, hg⟩ := h.cells
  have hkE : k < E.length := (List.getElem?_eq_some_iff.1 he).1
  obtain ⟨q1, q2, q3, q4⟩ := hq (by omega)
  have HTG := hid (ht (by omega))
  obtain ⟨u1, u4, a1, d1, a2, d2, u2, u3, r1, r2⟩ := hg k e he
  have hs : okShape e.shape := (hM.aok he).shape
  have hpc : pc < w.heap.size := block_lt_of_cell q0
  have hg1 : g1 < w.heap.size := block_lt_of_cell u1
  have hg2 : g2 < w.heap.size := block_lt_of_cell u2
  have hg3 : g3 < w.heap.size := block_lt_of_cell u3
  have hg4 : g4 < w.heap.size := block_lt_of_cell u4
  have k0 : (0 : Int) ≤ (k : Int) := by omega
  have HI := hid h
  have HM := hid hM
  have HE := hid he
  have HR1 := hid r1
  have HR2 := hid r2
  have HSH := hid hs
  have HWA := hid wA
  have HWB := hid wB
  have HWC := hid wC
  have HWD := hid wD
  obtain ⟨EL, hEL⟩ : ∃ EL, E.length = EL := ⟨_, rfl⟩
  have HEL := hid hEL
  rw [hEL] at q1 q2 q3 q4 hkE hlt
  have k1 : (k : Int) < (EL : Int) := by omega
  clear h hM he hq hg r1 r2 hs hEL ht wA wB wC wD
  by_cases hm0 : e.shape.length = 0
  · rw [hm0] at u2
    go_enter Tryz.func45, Tryz.ntmps45
    go_wp2
    go_ret
    exact ⟨rfl, T, σ, E, fun _ _ => rfl, HI.out.kp0 (fun _ _ => rfl) (Kp.alloc (Kp.refl _ _) _), HM.out.more (by omega), Nat.le_refl _, by omega⟩
  · obtain ⟨m, hm⟩ : ∃ m, e.shape.length = m := ⟨_, rfl⟩
    rw [hm] at u2 hm0
    have HMM := hid hm
    have hm4 : m ≤ 4 := by have := HSH.out.1; omega
    have hm1 : ¬ (m : Int) = 0 := by omega
    have hmb : ((m : Int) == 0) = false := by simp; omega
    obtain ⟨ga, oa, rfl, hca⟩ : ∃ ga oa, a1 = some ⟨ga, oa, none⟩ ∧ ∀ j, j < m → w.cell? ⟨ga, oa + j, none⟩ = some (.int .i64 (nth e.shape j)) := by
      obtain ⟨a, c, ev, hh⟩ := rd_parts HR1.out.1
      obtain ⟨g, o, rfl, hc⟩ := hh (by omega)
      simp at ev
      exact ⟨g, o, by rw [ev.1], fun j hj => hc j (by omega)⟩
    have hax := pick_small (c := vA) (n := (m : Int)) (by omega)
    obtain ⟨ax, hax'⟩ : ∃ ax : Nat, pickN vA (m : Int) = (ax : Int) := ⟨(pickN vA (m : Int)).toNat, by omega⟩
    have HAX := hid hax'
    rw [hax'] at hax
    have haxm : ax < m := by omega
    have hax0 : (0 : Int) ≤ (ax : Int) := by omega
    have hax1 : (ax : Int) < (m : Int) := by omega
    have xs := hca ax haxm
    obtain ⟨sz, hsz⟩ : ∃ sz, nth e.shape ax = sz := ⟨_, rfl⟩
    have HSZ := hid hsz
    have hszb : 1 ≤ sz ∧ sz ≤ 60 := by have := HSH.out.2.1 ax (by omega); omega
    rw [hsz] at xs
    have hga : ga < w.heap.size := block_lt_of_cell xs
    obtain ⟨st, hst⟩ : ∃ st, pickN vB sz = st := ⟨_, rfl⟩
    have HST := hid hst
    have hstb : 0 ≤ st ∧ st < sz := by rw [← hst]; exact pick_small (by omega)
    obtain ⟨sp, hsp⟩ : ∃ sp, 1 + pickN vD 2 = sp := ⟨_, rfl⟩
    have hp2 := pick_small (c := vD) (n := 2) (by omega)
    have hspb : 1 ≤ sp ∧ sp ≤ 2 := by omega
    have HSP := hid hsp
    have hz : (sp == 0) = false := by simp; omega
    have hz2 : ¬ sp = 0 := by omega
    have hm1' : ¬ sp = -1 := by omega
    have HS12 : Hid (sp = 1 ∨ sp = 2) := hid (by omega)
    have hp4 := pick_small (c := vD) (n := 4) (by omega)
    have hd1 : 0 ≤ (sz - 1 - st).tdiv sp ∧ (sz - 1 - st).tdiv sp < 60 := by
      rw [Int.tdiv_eq_ediv_of_nonneg (by omega)]
      have := cut_room false hstb.1 hstb.2 hszb.2 HS12.out
      simpa [cutRoom] using this
    have hd2 : 0 ≤ st.tdiv sp ∧ st.tdiv sp < 60 := by
      rw [Int.tdiv_eq_ediv_of_nonneg (by omega)]
      have := cut_room true hstb.1 hstb.2 hszb.2 HS12.out
      simpa [cutRoom] using this
    obtain ⟨bk, hbk⟩ : ∃ bk, decide (1 < pickN vD 4) = bk := ⟨_, rfl⟩
    have HBK := hid hbk
    obtain ⟨room, hroom⟩ : ∃ room, cutRoom sz st sp bk = room := ⟨_, rfl⟩
    have HROOM := hid hroom
    have hrb : 0 ≤ room ∧ room < 60 := by rw [← hroom]; exact cut_room bk hstb.1 hstb.2 hszb.2 HS12.out
    obtain ⟨stp, hstp⟩ : ∃ stp, cutStep sp bk = stp := ⟨_, rfl⟩
    have HSTP := hid hstp
    have hpc' := pick_small (c := vC) (n := room + 1) (by omega)
    obtain ⟨cn, hcn⟩ : ∃ cn : Nat, 1 + pickN vC (room + 1) = (cn : Int) := ⟨(1 + pickN vC (room + 1)).toNat, by omega⟩
    have HCN := hid hcn
    have hcn1 : 1 ≤ cn := by omega
    have hcn2 : (cn : Int) ≤ 60 := by omega
    have HFIT : Hid (∀ i : Nat, i < cn → 0 ≤ st + (i : Int) * stp ∧ st + (i : Int) * stp < nth e.shape ax) := hid (fun i hi => by
      rw [hsz, ← hstp]
      exact cut_fits bk hstb.1 hstb.2 HS12.out cn (by rw [hroom]; omega) i hi)
    have hstpb : stp ≠ 0 ∧ -2 ≤ stp ∧ stp ≤ 2 := by
      rw [← hstp]
      unfold cutStep
      split <;> omega
    have HC := hid (HM.out.cut HE.out (by have := HEL.out; omega) ax (by omega) cn hcn1 st stp hstpb.1 (by omega) HFIT.out (by have := HM.out.many; omega))
    have HP4 : Hid (∃ x, pickN vD 4 = x ∧ decide (1 < x) = bk) := hid ⟨_, rfl, hbk⟩
    obtain ⟨W1, hW1⟩ : ∃ W1, w.alloc (.cells #[.int .i64 vK, .int .i64 vO, .int .i64 vA, .int .i64 vB, .int .i64 vC, .int .i64 vD] 93) = W1 := ⟨_, rfl⟩
    have HW1 := hid hW1
    have HKW1 : Hid (Kp0 w W1) := hid (by rw [← hW1]; exact Kp.alloc (Kp.refl _ _) _)
    have y2 : W1.cell? ⟨w.heap.size, 2, none⟩ = some (.int .i64 vA) := by rw [← hW1]; simp
    have y3 : W1.cell? ⟨w.heap.size, 3, none⟩ = some (.int .i64 vB) := by rw [← hW1]; simp
    have y4 : W1.cell? ⟨w.heap.size, 4, none⟩ = some (.int .i64 vC) := by rw [← hW1]; simp
    have y5 : W1.cell? ⟨w.heap.size, 5, none⟩ = some (.int .i64 vD) := by rw [← hW1]; simp
    have xs1 := HKW1.out.cell xs
    clear hW1 hst hsp hroom hstp hcn hsz hax' hm hbk
    go_enter Tryz.func45, Tryz.ntmps45
    go_wp2_with fail
    rw [HW1.out]
    refine (pick_calls vA (m : Int) W1 HWA.out (by omega)).mono ?_
    rintro e' w' ⟨rfl, hw⟩
    obtain rfl := hw.symm
    rw [HAX.out]
    have HP5 : Hid (∀ n, Calls Tryz.prog 19 #[.int .i64 vB, .int .i64 sz] (W1.drewN n) fun e w' => e = .returned (.int .i64 st) ∧ w' = W1.drewN n) := hid (fun n => by
      rw [← HST.out]
      exact pick_calls vB sz _ HWB.out (by omega))
    go_wp2
    go_quiet ((go_at_call 19; exact Calls.quiet_of_same (HP5.out _)))
    have HK2 : Hid (Kp0 W1 (W1.drewN nq)) := hid ((Kp.refl _ _).drewN _)
    have z4 := HK2.out.cell y4
    have z5 := HK2.out.cell y5
    have xs2 := HK2.out.cell xs1
    have HKW2 : Hid (Kp0 w (W1.drewN nq)) := hid (HKW1.out.trans HK2.out)
    generalize W1.drewN nq = W2 at *
    clear y2 y3 y4 y5 xs1 HP5
    go_wp2_with fail
    refine (pick_calls vD 2 W2 HWD.out (by omega)).mono ?_
    rintro e' w' ⟨rfl, hw⟩
    obtain rfl := hw.symm
    have hw1 : IntKind.i64.wrap (1 + pickN vD 2) = sp := by rw [HSP.out]; exact bd_wf (by omega)
    go_wp2_with fail
    refine (pick_calls vD 4 W2 HWD.out (by omega)).mono ?_
    rintro e' w' ⟨rfl, hw⟩
    obtain rfl := hw.symm
    go_upto_if 57 with (fail)
    go_cut [10, 11] from 57 (fun s10 s11 W => s10 = .int .i64 stp ∧ s11 = .int .i64 room ∧ W = W2)
    case first =>
      by_cases hb4 : 1 < pickN vD 4
      · have HE1 : Hid (-sp = stp) := hid (by rw [← HSTP.out, ← HBK.out]; simp [cutStep, hb4])
        have HE2 : Hid (st.tdiv sp = room) := hid (by rw [← HROOM.out, ← HBK.out, Int.tdiv_eq_ediv_of_nonneg (by omega)]; simp [cutRoom, hb4])
        have db : decide (1 < pickN vD 4) = true := by simp [hb4]
        go_wp2_with fail
        go_meet
        case rel => exact ⟨by rw [HE1.out], by rw [HE2.out], rfl⟩
      · have HE1 : Hid (sp = stp) := hid (by rw [← HSTP.out, ← HBK.out]; simp [cutStep, hb4])
        have HE2 : Hid ((sz - 1 - st).tdiv sp = room) := hid (by rw [← HROOM.out, ← HBK.out, Int.tdiv_eq_ediv_of_nonneg (by omega)]; simp [cutRoom, hb4])
        have db : decide (1 < pickN vD 4) = false := by simp; omega
        go_wp2_with fail
        go_meet
        case rel => exact ⟨by rw [HE1.out], by rw [HE2.out], rfl⟩
    case rest =>
      obtain ⟨rfl, rfl, hwc⟩ := hcut
      obtain rfl := hwc.symm
      clear hd1 hd2 hp2 hp4 hw1 z5 hz hz2 hm1' HP4
      go_wp2_with fail
      refine (pick_calls vC (room + 1) W2 HWC.out (by omega)).mono ?_
      rintro e' w' ⟨rfl, hw⟩
      obtain rfl := hw.symm
      have hwn : IntKind.i64.wrap (1 + pickN vC (room + 1)) = (cn : Int) := by rw [HCN.out]; exact bd_wf (by omega)
      have tg1 := retag_to w T (0, 16)
      obtain ⟨T1, hT1⟩ : ∃ T1, retag w T (0, 16) = T1 := ⟨_, rfl⟩
      rw [hT1] at tg1
      have HT1 := hid tg1
      have HNW : Hid (∀ b, w.heap.size ≤ b → T1 b = (0, 16)) := hid (fun b hb => by rw [← hT1]; exact retag_new hb)
      clear tg1 hT1
      have HI2 := hid (HI.out.kp0 HT1.out HKW2.out)
      have HXC : Hid (∀ W, Kp0 W2 W → Calls Tryz.prog 21 #[.pointer (some ⟨ps, 0, none⟩), .int .i64 e.h, .int .i64 (ax : Int), .int .i64 st, .int .i64 (cn : Int), .int .i64 stp] W fun e' w3 => e' = .returned (.tuple #[.int .i64 ((σ.arrs.length : Int) + 1), .int .i64 0]) ∧ ∃ T3, TagsTo W2 T1 T3 ∧ KI w0 w3 T3 pc ps (σ.cut e.h ax st cn stp).1 E ∧ Kp (fun b => (T1 b).1 = 1) W2 w3) := hid (fun W kW => by
        have hIW := HI2.out.kp0 (fun _ _ => rfl) kW
        refine (xc_cut e.h ax st cn stp hIW.rep (by have := HM.out.many; omega)).mono ?_
        rintro e' w3 ⟨rfl, hst⟩
        obtain ⟨T3, ht3, hI3, hk3⟩ := hIW.step hst
        rw [HC.out.1]
        exact ⟨rfl, T3, fun b hb => ht3 b (Nat.lt_of_lt_of_le hb kW.size), hI3, (Kp.of0 kW).trans hk3 (fun _ _ e => e)⟩)
      have no1 : Hid (∀ b, b < w.heap.size → (T b).1 = 0 → ¬ (T1 b).1 = 1) := hid (fun b hb h0 e => by rw [HT1.out b hb, h0] at e; cases e)
      have s0 := HKW2.out.cell q0
      have s1 := HKW2.out.cell q1
      have v1 := HKW2.out.cell u1
      have HQ3 := hid (And.intro (HKW2.out.cell q3) (HKW2.out.cell u3))
      have HQ4 := hid (And.intro (HKW2.out.cell q4) (HKW2.out.cell u4))
      clear q0 q1 q2 q3 q4 u1 u2 u3 u4 z4
      go_wp2
      go_region_held3 (fun W => W.cell? ⟨pc, 0, none⟩ = some (.pointer (some ⟨ps, 0, none⟩)) ∧ W.cell? ⟨pc, 1, none⟩ = some (.slice (some ⟨g1, 0, none⟩) EL c1) ∧ W.cell? ⟨g1, k, none⟩ = some (.int .i64 e.h)) (first | go_keep | (go_split_ands; exact ⟨hk3.cell s0 (no1.out _ hpc HTG.out.1), hk3.cell s1 (no1.out _ hpc HTG.out.1), hk3.cell v1 (no1.out _ hg1 HTG.out.2.1)⟩))
        ((go_at_call 21; refine (HXC.out _ ?_).mono ?_; (first | exact Kp0.refl _ | exact Kp0.drew (Kp0.refl _)); rintro e' w3 ⟨rfl, T3, ht3, hI3, hk3⟩))
      have HI3 := hid hI3
      have HT3 := hid ht3
      have HK3 := hid hk3
      have HR13 := hid (HR1.out.1.kp (Kp.trans (Kp.of0 HKW2.out) hk3 (fun _ _ e => e)) (fun b hb e => by
        obtain ⟨x1, x2, _, x3⟩ := HR1.out.2 b hb
        rw [HT1.out b x1, x3] at e
        simp at e))
      have HR23 := hid (HR2.out.1.kp (Kp.trans (Kp.of0 HKW2.out) hk3 (fun _ _ e => e)) (fun b hb e => by
        obtain ⟨x1, x2, _, x3⟩ := HR2.out.2 b hb
        rw [HT1.out b x1, x3] at e
        simp at e))
      rw [HMM.out] at HR13
      have hsz3 : w.heap.size ≤ w3.heap.size := Nat.le_trans HKW2.out.size hk3.size
      have HQ33 := hid (And.intro (hk3.cell HQ3.out.1 (no1.out _ hpc HTG.out.1)) (hk3.cell HQ3.out.2 (no1.out _ hg3 HTG.out.2.2.2.1)))
      have HQ43 := hid (And.intro (hk3.cell HQ4.out.1 (no1.out _ hpc HTG.out.1)) (hk3.cell HQ4.out.2 (no1.out _ hg4 HTG.out.2.2.2.2)))
      clear ht3 hI3 hk3 HXC s0 s1 v1 xs2 xs hca HQ3 HQ4
      have HAL : Hid (0 + e.shape.length ≤ 1000000000000) := hid (by rw [HMM.out]; omega)
      go_wp2_with (at_builtin; refine wpList_app (by rfl) _ _ (by rfl) none 0 0 [] e.shape _ (by rfl) (by rfl) (OwI.nil _) HR13.out HAL.out w3.heap.size (by rfl) ?_)
      intro ash cs w4 hO4 hG4 hB4
      have hK4 : Kp0 w3 w4 := (Kp.refl _ w3).grown hG4 (by simp [Value.ownBlock])
      have hO4' : OwI w4 (.slice ash m cs) e.shape := by rw [← HMM.out]; exact hO4
      obtain ⟨gs, rfl, hO5, hc5, hf5⟩ := hO4'.store ax (cn : Int) (by have := HMM.out; omega)
      have hgs : gs = w3.heap.size := (hB4 gs (by rw [HMM.out]; rfl)).resolve_left (by simp [Value.ownBlock])
      subst hgs
      rw [HMM.out]
      have hK5 : Kp0 w3 (w4.setCell ⟨w3.heap.size, ax, none⟩ (.int .i64 (cn : Int))) := Kp.setCell hK4 _ _ (fun h => by simp at h)
      have hs5 : w3.heap.size < w4.heap.size := hO5.lt rfl |> fun h => by simpa using h
      have HO5 := hid hO5
      have HK5 := hid hK5
      generalize nth e.shape ax = old at hc5
      clear hO4 hO4' hG4 hB4 hK4 hO5 hK5
      go_wp2
      generalize w4.setCell ⟨w3.heap.size, ax, none⟩ (.int .i64 (cn : Int)) = w5 at *
      clear hc5 hf5 hs5
      obtain ⟨s', hs'⟩ : ∃ s', e.shape.set ax (cn : Int) = s' := ⟨_, rfl⟩
      have HS' := hid hs'
      have HSH' : Hid (okShape s') := hid (by rw [← hs']; exact cut_shape HSH.out (by have := HMM.out; omega) hcn1 hstpb.1 HFIT.out)
      have HSL' : Hid (s'.length = m) := hid (by rw [← hs']; simp [HMM.out])
      obtain ⟨N, hN⟩ : ∃ N : Nat, vol s' = (N : Int) := ⟨(vol s').toNat, by have := vol_whole HSH'.out; omega⟩
      have HVOL := hid hN
      have hN36 : N ≤ 3600 := by have := HSH'.out.2.2; omega
      obtain ⟨rk, hrk⟩ : ∃ rk, cutRk e.shape ax st cn stp = rk := ⟨_, rfl⟩
      have HRL : Hid (rk.length = N) := hid (by rw [← hrk, cutRk_length, hs', hN]; rfl)
      have HRN : Hid (∀ j, j < N → nth rk j = rank e.shape (cutL (idx s' j) ax st cn stp) ∧ inB e.shape (cutL (idx s' j) ax st cn stp) ∧ 0 ≤ nth rk j ∧ nth rk j < e.ranks.length) := hid (fun j hj => by
        have h1 := cutL_in HSH.out (by have := HMM.out; omega) hcn1 HFIT.out (idx_in (e.shape.set ax (cn : Int)) j (by rw [hs']; exact HSH'.out.2.1))
        have h2 := cutRk_bd HSH.out (by have := HMM.out; omega) hcn1 hstpb.1 HFIT.out j (by rw [hs', hN]; omega)
        rw [hs'] at h1
        rw [hrk, ← HM.out.rlen HE.out] at h2
        refine ⟨?_, h1, h2⟩
        rw [← hrk, nth_lt (by rw [cutRk_length, hs', hN]; omega)]
        simp [cutRk, hs'])
      have HRK := hid hrk
      rw [hs'] at HO5
      clear hs' hN hrk
      obtain ⟨RL, hRL⟩ : ∃ RL, e.ranks.length = RL := ⟨_, rfl⟩
      have HRLL := hid hRL
      rw [hRL] at HQ33 HR23 HRN
      have hRLb : RL ≤ 400 := by have := HM.out.rlen HE.out; have := (HM.out.ent _ _ HE.out).2.2.1; omega
      clear hRL
      go_loopw [16, 17] (fun l t w' => ∃ j : Nat, j ≤ N ∧ t = .int .i64 j ∧ ∃ ao c, l = .slice ao j c ∧ OwI w' (.slice ao j c) (picked e.ranks (rk.take j)) ∧ Kp0 w5 w' ∧ (∀ b, (Value.slice ao j c).ownBlock = some b → w5.heap.size ≤ b)) (fun _ t _ => N - (intOf t).toNat)
      case atStart => exact ⟨0, Nat.zero_le _, rfl, none, 0, rfl, OwI.nil _, Kp0.refl _, fun b hb => by simp [Value.ownBlock] at hb⟩
      case round =>
        obtain ⟨j, hj, rfl, ao, cc, rfl, hO, hK, hB⟩ := hrel
        have HO := hid hO
        have HK := hid hK
        have HB := hid hB
        clear hO hK hB
        go_wp2_with fail
        refine (kvolume_calls _ s' _ (HO5.out.rd.kp0 HK.out) HSH'.out.2.1 HSH'.out.1).mono ?_
        rintro e' w' ⟨rfl, hw⟩
        obtain rfl := hw.symm
        rw [HVOL.out]
        by_cases hjN : j < N
        · have j1 : (j : Int) < (N : Int) := by omega
          go_wp2_with fail
          refine (kindex_calls _ s' j wr (HO5.out.rd.kp0 HK.out) HSH'.out.2.1 HSH'.out.1 (by omega) (by omega)).mono ?_
          rintro e' w6 ⟨rfl, hk6, hg6⟩
          rw [HSL'.out]
          obtain ⟨il, hil⟩ : ∃ il, idx s' j = il := ⟨_, rfl⟩
          have hin := idx_in s' j HSH'.out.2.1
          rw [hil] at hin hg6
          have hlen : il.length = m := by rw [← hin.1]; exact HSL'.out
          have HRj := hid (HRN.out j hjN)
          rw [hil] at HRj
          have hxb : 0 ≤ nth il ax ∧ nth il ax < cn := by
            have := hin.2 ax (by rw [HSL'.out]; exact haxm)
            rw [← HS'.out, nth_setN _ _ _ _ (by rw [HMM.out]; exact haxm), if_pos rfl] at this
            exact this
          have HCL : Hid (il.set ax (st + nth il ax * stp) = cutL il ax st cn stp) := hid (cutL_eq (s := e.shape) (by rw [HMM.out]; exact haxm) hcn1 (by rw [HS'.out]; exact hin))
          have hcell : w6.cell? ⟨wr.heap.size, ax, none⟩ = some (.int .i64 (nth il ax)) := by
            rw [cell_of_row _ _ _ _ _ _ hg6]
            simpa using ints_get (xs := il) (j := ax) (by omega)
          have hfz : w6.frozen? ⟨wr.heap.size, ax, none⟩ = false := frozen_blk hg6
          have hg7 := heap_setCell_same w6 wr.heap.size ax _ _ (.int .i64 (st + nth il ax * stp)) hg6
          rw [ints_set, HCL.out] at hg7
          have HG7 := hid hg7
          have HK7 : Hid (Kp0 wr (w6.setCell ⟨wr.heap.size, ax, none⟩ (.int .i64 (st + nth il ax * stp)))) := hid (Kp.setCell hk6 _ _ (fun h => by simp at h))
          have hmul : -120 ≤ nth il ax * stp ∧ nth il ax * stp ≤ 120 := by
            have m1 : nth il ax * stp ≤ nth il ax * 2 := Int.mul_le_mul_of_nonneg_left hstpb.2.2 hxb.1
            have m2 : nth il ax * (-2) ≤ nth il ax * stp := Int.mul_le_mul_of_nonneg_left hstpb.2.1 hxb.1
            omega
          have hib : wr.heap.size < w6.heap.size := lt_of_heap hg6
          have hlcl : (cutL il ax st cn stp).length = m := by rw [← HCL.out]; simp [hlen]
          have HLC := hid hlcl
          clear hg6 hg7 hk6 hin hil
          generalize nth il ax = xi at *
          go_wp2
          generalize w6.setCell ⟨wr.heap.size, ax, none⟩ (.int .i64 (st + xi * stp)) = w7 at *
          obtain ⟨own, hown⟩ : ∃ own, cutL il ax st cn stp = own := ⟨_, rfl⟩
          rw [hown] at HG7 HRj HLC
          clear hown HCL
          have HKW := hid ((HK5.out.trans HK.out).trans HK7.out)
          obtain ⟨rj, hrj⟩ : ∃ rj : Nat, nth rk j = (rj : Int) := ⟨(nth rk j).toNat, by have := HRj.out.2.2.1; omega⟩
          have hrjb : rj < RL := by have := HRj.out.2.2.2; omega
          obtain ⟨gr, og, rfl, hcr⟩ : ∃ gr og, a2 = some ⟨gr, og, none⟩ ∧ ∀ j, j < RL → w3.cell? ⟨gr, og + j, none⟩ = some (.int .i64 (nth e.ranks j)) := by
            obtain ⟨a, c, ev, hh⟩ := rd_parts HR23.out
            obtain ⟨g, o, rfl, hc⟩ := hh (by have := HRLL.out; omega)
            simp at ev
            exact ⟨g, o, by rw [ev.1], fun j hj => hc j (by have := HRLL.out; omega)⟩
          have t0 := HKW.out.cell HQ33.out.1
          have t1 := HKW.out.cell HQ33.out.2
          have t2 := HKW.out.cell (hcr rj hrjb)
          have hl3 : pc < w5.heap.size := Nat.lt_of_lt_of_le (block_lt_of_cell HQ33.out.1) HK5.out.size
          have hl4 : g3 < w5.heap.size := Nat.lt_of_lt_of_le (block_lt_of_cell HQ33.out.2) HK5.out.size
          have hl5 : gr < w5.heap.size := Nat.lt_of_lt_of_le (block_lt_of_cell (hcr rj hrjb)) HK5.out.size
          have HRKC : Hid (∀ W, Kp0 w7 W → Calls Tryz.prog 33 #[.slice (some ⟨ga, oa, none⟩) m d1, .slice (some ⟨wr.heap.size, 0, none⟩) m m] W fun e w' => ∃ v, e = .returned v ∧ (v = .int .i64 (rj : Int) ∧ Kp0 W w')) := hid (fun W kW => (krank_calls _ _ e.shape own W ((HR13.out.kp0 HKW.out).kp0 kW) ((rd_of_blk HG7.out HLC.out).kp0 kW) HSH.out HRj.out.2.1).mono (by
            rintro e' w' ⟨rfl, hk⟩
            exact ⟨_, rfl, by rw [← HRj.out.1, hrj], hk⟩))
          have HPT := hid (picked_take e.ranks rk j (by rw [HRL.out]; exact hjN))
          rw [hrj, Int.toNat_natCast] at HPT
          have HOW7 := hid (HO.out.kp HK7.out (fun _ _ e => e))
          have HBN : Hid (j + [nth e.ranks rj].length ≤ 1000000000000) := hid (by simp; omega)
          have HK57 := hid (HK.out.trans HK7.out)
          have r0 : (0 : Int) ≤ (rj : Int) := by omega
          have r1 : (rj : Int) < (RL : Int) := by omega
          generalize nth e.ranks rj = x at *
          have HKc : Hid (Kp0 w7 w7.drew) := hid (Kp0.refl w7).drew
          clear hcr hrj HG7 HRj HLC hlen hxb hmul hib hcell hfz HKW HK7 hlcl
          go_region_held3 (fun W => W.cell? ⟨pc, 3, none⟩ = some (.slice (some ⟨g3, 0, none⟩) EL c3) ∧ W.cell? ⟨g3, k, none⟩ = some (.slice (some ⟨gr, og, none⟩) RL d2) ∧ W.cell? ⟨gr, og + rj, none⟩ = some (.int .i64 x)) (go_keep)
            ((first
            | (refine step_call2 (by rfl) 33 (.tmp 123) (.tmp 124) _ (by rfl) _ Tryz.func33 (by kernel_rfl) (by kernel_rfl) _ _ (by rfl) (by rfl) (HRKC.out _ HKc.out) ?_; intro v8 w8 hR8; obtain ⟨rfl, hk8⟩ := hR8; have hk78 := Kp0.trans HKc.out hk8; have t0 := hk8.cell t0; have t1 := hk8.cell t1; have t2 := hk8.cell t2)
            | (refine step_app (by rfl) _ _ (by rfl) ao j cc (picked e.ranks (rk.take j)) [x] _ (by rfl) (by rfl) (by first | exact (HOW7.out.kp hk78 (fun _ _ e => e)).alloc _ | exact OwI.drew ((HOW7.out.kp hk78 (fun _ _ e => e)).alloc _)) (by first | exact RdI.one _ _ | exact RdI.drew (RdI.one _ _)) HBN.out (w8.heap.size + 1) (by simp) ?_; intro ao' cc' w9 hC9 hG9 hB9; have t0 := grown_keep' hG9 t0 (fun e => Nat.not_le_of_lt hl3 (HB.out _ e.symm)); have t1 := grown_keep' hG9 t1 (fun e => Nat.not_le_of_lt hl4 (HB.out _ e.symm)); have t2 := grown_keep' hG9 t2 (fun e => Nat.not_le_of_lt hl5 (HB.out _ e.symm)))))
          all_goals (
            have hK9 : Kp0 w5 w9 := Kp.grown (Kp.alloc (HK57.out.trans hk78) _) hG9 (fun b hb h => by have := HB.out b hb; omega)
            have hB9' : ∀ b, (Value.slice ao' (j + 1) cc').ownBlock = some b → w5.heap.size ≤ b := by
              intro b hb
              rcases hB9 b hb with h | h
              · exact HB.out b h
              · have := (HK57.out.trans hk78).size; omega
            have HC9 := hid hC9
            have HK9 := hid hK9
            have HB9 := hid hB9'
            clear hC9 hK9 hB9 hB9' hG9 hk8 hk78 t0 t1 t2
            go_wp2
            go_roundw
            case rel => exact ⟨j + 1, by omega, by go_num, ao', cc', rfl, by rw [HPT.out]; exact HC9.out, HK9.out, HB9.out⟩
            case measure => simp [intOf]; omega)
        · have hjn : j = N := by omega
          have j1 : ¬ (j : Int) < (N : Int) := by omega
          have HTK : Hid (rk.take j = rk) := hid (List.take_of_length_le (by rw [HRL.out]; omega))
          have HKW := hid (HK5.out.trans HK.out)
          have t0 := HKW.out.cell HQ43.out.1
          have t1 := HKW.out.cell HQ43.out.2
          have tg6 := retag_to w3 T3 (0, 16)
          have HI6 := hid (HI3.out.kp0 tg6 HKW.out)
          have HRA : Hid (RdT (retag w3 T3 (0, 16)) wr (.slice (some ⟨w3.heap.size, 0, none⟩) m cs) s') := hid ⟨HO5.out.rd.kp0 HK.out, fun b hb => ⟨Nat.lt_of_lt_of_le (own_lt HO5.out hb) HK.out.size, 16, ⟨Nat.le_refl _, HO5.out.cap⟩, by
            simp [Value.ownBlock] at hb
            subst hb
            exact retag_new (Nat.le_refl _)⟩⟩
          have HRB : Hid (RdT (retag w3 T3 (0, 16)) wr (.slice ao j cc) (picked e.ranks rk)) := hid ⟨by have := HO.out.rd; rw [HTK.out] at this; exact this, fun b hb => ⟨own_lt HO.out hb, 16, ⟨Nat.le_refl _, HO.out.cap⟩, retag_new (Nat.le_trans HK5.out.size (HB.out b hb))⟩⟩
          have HKM : Hid (KM (σ.cut e.h ax st cn stp).1 (E ++ [⟨(σ.arrs.length : Int) + 1, s', picked e.ranks rk, e.ro⟩]) n V (B + 1)) := hid (by
            have := HC.out.2
            rw [HS'.out, HRK.out] at this
            exact this)
          have s3w : w3.heap.size ≤ wr.heap.size := HKW.out.size
          clear tg6 hjn
          go_wp2_with fail
          refine (put_calls HI6.out ((σ.arrs.length : Int) + 1) _ _ s' (picked e.ranks rk) e.ro HRA.out HRB.out (by have := HEL.out; omega)).mono ?_
          rintro e' w9 ⟨rfl, T9, ht9, hI9, -⟩
          have HI9 := hid hI9
          have HT9 := hid ht9
          clear ht9 hI9
          go_wp2
          go_ret
          refine ⟨rfl, T9, _, _, fun b hb => ?_, HI9.out, HKM.out, by simp, by simp⟩
          have hw2 := HKW2.out.size
          rw [HT9.out b (by omega), retag_to w3 T3 _ b (by omega), HT3.out b (by omega), HT1.out b hb]

end Go.Proofs.YticbbncdcannlaaGreat

/- Views of one array: what a reshape is, as the law sees it. No program. -/
namespace Go.Proofs.YticbbncdcannlaaGreat

section
variable {σ : Sp} {E : List CE} {n : Nat} {V : List Int} {B : Nat}

theorem KM.reshaped (h : KM σ E n V B) {i : Nat} {e : CE} (he : E[i]? = some e) (hlt : E.length < 40) (s : List Int) (hs : okShape s) (hv : vol s = vol e.shape) (hm : σ.arrs.length + 1 ≤ 100000000) (hok : (σ.reshape e.h s).1.ok) :
    ∃ vw, (σ.reshape e.h s).2 = ((σ.arrs.length : Int) + 1, vw, 0) ∧ (σ.reshape e.h s).1.values ((σ.arrs.length : Int) + 1) = (e.told V, 0) ∧ (σ.reshape e.h s).1.shared ((σ.arrs.length : Int) + 1) e.h = (vw, 0) ∧
      (vw = true → KM (σ.reshape e.h s).1 (E ++ [⟨(σ.arrs.length : Int) + 1, s, e.ranks, e.ro⟩]) n V (B + 1)) ∧
      (vw = false → ((σ.reshape e.h s).1.free ((σ.arrs.length : Int) + 1)).2 = 0 ∧ KM ((σ.reshape e.h s).1.free ((σ.arrs.length : Int) + 1)).1 E n V (B + 1)) := by
  rcases h.reshape he hlt s hs hv hm with ⟨-, h1, h2⟩ | ⟨-, f, hf, h1, h2⟩
  · have hi := (List.getElem?_eq_some_iff.1 he).1
    have hN : (E ++ [⟨(σ.arrs.length : Int) + 1, s, e.ranks, e.ro⟩] : List CE)[E.length]? = some ⟨(σ.arrs.length : Int) + 1, s, e.ranks, e.ro⟩ := by simp
    have hO : (E ++ [⟨(σ.arrs.length : Int) + 1, s, e.ranks, e.ro⟩] : List CE)[i]? = some e := by rw [List.getElem?_append_left hi]; exact he
    have fN := h2.find hN
    have fO := h2.find hO
    refine ⟨true, h1, ?_, ?_, fun _ => h2, (by intro h; cases h)⟩
    · unfold Sp.values
      rw [show (σ.reshape e.h s).1.find ((σ.arrs.length : Int) + 1) = _ from fN]
      have := h2.told hN
      simp only
      rw [this]
      rfl
    · unfold Sp.shared
      rw [show (σ.reshape e.h s).1.find ((σ.arrs.length : Int) + 1) = _ from fN, fO]
      simp only
      congr 1
      rw [shares_iff]
      have hp : 0 < e.ranks.length := by have h1 := h.rlen he; have h2 : 1 ≤ vol e.shape := vol_whole (h.aok he).shape; omega
      exact ⟨0, 0, hp, hp, rfl, rfl⟩
  · rw [h1] at hok
    obtain ⟨c1, c2, c3, c4, c5⟩ := h.copy he hlt s hv f hf hok
    refine ⟨false, ?_, by rw [h1]; exact c2, by rw [h1]; exact c3, (by intro h; cases h), fun _ => ⟨by rw [h1]; exact c4, by rw [h1]; exact c5⟩⟩
    rw [h2, c1]

end

/-- The shape that a reshape takes: of a volume, in two axes if it may be. -/
def rsS (v d : Int) : List Int := if v % d = 0 then [d, v / d] else [v]
theorem rsS_vol {v d : Int} (_hv : 1 ≤ v) (_hd : 1 ≤ d) : vol (rsS v d) = v := by
  unfold rsS
  split
  · rename_i h
    show 1 * d * (v / d) = v
    rw [Int.one_mul]
    exact Int.mul_ediv_cancel_of_emod_eq_zero h
  · show 1 * v = v
    omega
theorem rsS_ok {v d : Int} (hv : 1 ≤ v) (hv4 : v ≤ 400) (hd : 1 ≤ d) (hd6 : d ≤ 6) (h1 : v / d ≤ 60) (h2 : ¬ (60 < v ∧ (rsS v d).length = 1)) : okShape (rsS v d) := by
  refine ⟨?_, ?_, by rw [rsS_vol hv hd]; omega⟩
  · unfold rsS; split <;> simp
  · have hv' := rsS_vol hv hd
    unfold rsS at hv' h2 ⊢
    split at hv'
    · rename_i h
      rw [if_pos h] at h2 ⊢
      have hm := Int.mul_ediv_cancel_of_emod_eq_zero h
      have hpos : 1 ≤ v / d := by
        rcases Int.lt_or_le (v / d) 1 with h' | h'
        · have : d * (v / d) ≤ d * 0 := Int.mul_le_mul_of_nonneg_left (by omega) (by omega)
          omega
        · exact h'
      intro j hj
      have : j = 0 ∨ j = 1 := by simp at hj; omega
      rcases this with rfl | rfl
      · show 1 ≤ d ∧ d ≤ 60; omega
      · show 1 ≤ v / d ∧ v / d ≤ 60; omega
    · rename_i h
      rw [if_neg h] at h2 ⊢
      intro j hj
      have : j = 0 := by simpa using hj
      subst this
      show 1 ≤ v ∧ v ≤ 60
      simp at h2
      omega

end Go.Proofs.YticbbncdcannlaaGreat

/- The program's space at int64, walked: makeOf. -/
namespace Go.Proofs.YticbbncdcannlaaGreat
open Go.RowKit Go.Maps Go.ChangeMaps Go.MapKept

set_option maxRecDepth 100000 in
set_option maxHeartbeats 4000000 in
theorem xmakeOfOkI (p q : Nat) (kind hn : Int) (s : List Int) (vv : Value) (w : World) (mc : Nat) (P : List Int) {R Q : World → Prop}
    (HW : Hid (∀ W, Kp0 w W → Calls Tryz.prog 63 #[.pointer (some ⟨p, 0, none⟩), .int .i64 kind, .iface 127 (.pointer (some ⟨q, 0, none⟩)), .agg (shC s).toArray] W fun e w' => e = .returned (.tuple #[.int .i64 hn, .int .i64 0]) ∧ R w'))
    (HL : Hid (∀ w', R w' → ∃ (x : XA) (bm : Nat) (c0 c1 c3 : Value), w'.heap[p]? = some (.cells #[c0, c1, .map (some bm), c3] 130 (0, 0)) ∧ (Instr.lookup 128 (.map (some bm)) (.int .i64 hn) false).run Tryz.prog w'.drew = .ok (.agg x.cs) w'.drew ∧ ∀ W, Calls Tryz.prog 60 #[.agg (grC x.l x.t x.f).toArray] W fun e w' => ∃ ao c, e = .returned (.slice ao mc c) ∧ Kp0 W w' ∧ Fr W.heap.size w' (.slice ao mc c) P))
    (HX : Hid (∀ w' W vp, R w' → Kp0 w' W → Fr w'.heap.size W vp P → Calls Tryz.prog 218 #[.pointer (some ⟨q, 0, none⟩), vp, vv] W fun e w2 => ∃ u, e = .returned u ∧ Q w2)) :
    Calls Tryz.prog 59 #[.pointer (some ⟨p, 0, none⟩), .int .i64 kind, .iface 127 (.pointer (some ⟨q, 0, none⟩)), .agg (shC s).toArray, vv] w fun e w' => e = .returned (.tuple #[.int .i64 hn, .int .i64 0]) ∧ Q w' := by
  unfold shC at HW ⊢
  generalize s.length = m at *
  have HMR := hid (Tryz.mWriteI ⟨q, 0, none⟩)
  have hna := Tryz.nWriteI ⟨q, 0, none⟩
  go_enter Tryz.func59, Tryz.ntmps59
  go_wp2_with fail
  refine (HW.out _ ((Kp.refl _ w).alloc _)).mono ?_
  rintro e w2 ⟨rfl, hR⟩
  have HR := hid hR
  obtain ⟨x, bm, c0, c1, c3, hb, hlk, hC⟩ := HL.out w2 hR
  have HC2 : Hid (∀ W, Calls Tryz.prog 60 #[.agg (grC x.l x.t x.f).toArray] W fun e w' => ∃ v, e = .returned v ∧ ∃ ao c, v = .slice ao mc c ∧ Kp0 W w' ∧ Fr W.heap.size w' (.slice ao mc c) P) := hid (fun W => (hC W).mono (fun e w' ⟨ao, c, h1, h2, h3⟩ => ⟨_, h1, ao, c, rfl, h2, h3⟩))
  unfold XA.cs at hlk
  unfold grC at HC2
  clear hC
  generalize x.l.length = n at *
  have y2 : w2.cell? ⟨p, 2, none⟩ = some (.map (some bm)) := cell_of_row _ p 2 _ _ _ hb
  have hfd := Tryz.fieldGrid (.int .i64 x.kind) (.int .i64 x.buf) (.int .i64 (nth x.l 0)) (.int .i64 (nth x.l 1)) (.int .i64 (nth x.l 2)) (.int .i64 (nth x.l 3)) (.int .i64 (n : Int)) (.int .i64 x.f) (.int .i64 (nth x.t 0)) (.int .i64 (nth x.t 1)) (.int .i64 (nth x.t 2)) (.int .i64 (nth x.t 3)) (.bool x.ro)
  clear hR hb HL HW
  go_wp2
  go_region_law ((first
    | (refine step_call1 (by rfl) 60 (.tmp 32) _ (by rfl) _ Tryz.func60 (by kernel_rfl) (by kernel_rfl) _ (by rfl) (HC2.out _) ?_; intro v7 w7 hR7; obtain ⟨ao, c7, rfl, hk7, hf7⟩ := hR7)
    | (refine step_invoke2 (by rfl) (.tmp 37) "Write" (.tmp 33) (.tmp 34) _ (by rfl) _ (.slice ao mc c7) vv (by rfl) (by rfl) (by rfl) _ _ (HMR.out _ _ _) (HX.out _ _ _ HR.out (Kp0.trans (Kp0.refl w2).drew hk7) hf7) ?_; intro v8 w8 hR8)))
  all_goals
    have HR8 := hid hR8
    clear hR8 hk7 hf7
    go_wp2
    go_ret2
    exact ⟨rfl, HR8.out⟩

end Go.Proofs.YticbbncdcannlaaGreat

/- makeOf in the document's words. -/
namespace Go.Proofs.YticbbncdcannlaaGreat
open Go.RowKit

theorem xc_writeB2 {T : Tags} {o : Nat} {w : World} {p : Nat} {σ : Sp} {L : XL} {X : XS} (hok : σ.ok) (hX : XAt T o w p L X) (hT : Tie X (Maps.size L.D) σ) {h : Int} {a : Arr} {x : XA} (hf : σ.find h = some a) (hx : ATie σ a x) (hk : a.kind = 1) (V : List Int) (hl : V.length = a.cells.length) (hV : ∀ j, IntKind.i64.wrap (nth V j) = nth V j)
    (W : World) (vp vv : Value) (k : Kp0 w W) (hp : Fr w.heap.size W vp a.cells) (hv : RdI W vv V) (hne : vv.ownBlock ≠ some L.g1) :
    Calls Tryz.prog 198 #[.pointer (some ⟨L.q1, 0, none⟩), vp, vv] W fun e w' => ∃ u, e = .returned u ∧ Step XRep T o w p (σ.writes 1 a.cells (fun i => asK 1 (nth V i)) a.cells.length) w' := by
  have ha := kind_of hok hf
  have hlt : L.g1 < w.heap.size := lt_of_heap hX.s1.cells
  have hP : ∀ j, j < a.cells.length → 0 ≤ nth a.cells j ∧ nth a.cells j < σ.cap 1 ∧ σ.taken 1 (nth a.cells j) = true := fun j hj => by
    have h1 := ha.inside j hj
    have h2 := hx.taken hf j hj
    rw [hk] at h1 h2
    exact ⟨h1.1, h1.2, h2⟩
  have h36 : a.cells.length ≤ 1000000 := by have := ha.length; have := ha.shape.2.2; omega
  refine (xWriteB_calls (hX.kp0 k).s1 a.cells V vp vv hp.1 (fun _ e => by have := hp.2 _ e; omega) hv (fun _ e => hne e) hl (fun j _ => hV j) (fun j hj => by rw [hT.k1.len]; exact ⟨(hP j hj).1, (hP j hj).2.1⟩) h36).mono ?_
  rintro e w' ⟨rfl, hk', hb⟩
  have hX' := (hX.kp0 k).putB hk' hb (wrTo_length _ _ _ _)
  have hw1 : (fun j => IntKind.wrap .u8 (nth V j)) = fun j => asK 1 (nth V j) := by funext j; rw [wrap_u8]; simp [asK]
  rw [hw1] at hX'
  have hn := (hT.writesFB hok a.cells hP (fun j => asK 1 (nth V j)) (fun j _ => by simp only [asK, if_true]; omega) a.cells.length (Nat.le_refl _)).1
  exact ⟨_, rfl, T, fun _ _ => rfl, ⟨writes_ok hok _ _ _ _, L, _, hX', hn⟩, (Kp.of0 k).trans hk' (fun b _ e => by rw [e, hX.tg1])⟩

theorem xc_writeI2 {T : Tags} {o : Nat} {w : World} {p : Nat} {σ : Sp} {L : XL} {X : XS} (hok : σ.ok) (hX : XAt T o w p L X) (hT : Tie X (Maps.size L.D) σ) {h : Int} {a : Arr} {x : XA} (hf : σ.find h = some a) (hx : ATie σ a x) (hk : a.kind = 2) (V : List Int) (hl : V.length = a.cells.length) (hV : ∀ j, IntKind.i64.wrap (nth V j) = nth V j)
    (W : World) (vp vv : Value) (k : Kp0 w W) (hp : Fr w.heap.size W vp a.cells) (hv : RdI W vv V) (hne : vv.ownBlock ≠ some L.g2) :
    Calls Tryz.prog 218 #[.pointer (some ⟨L.q2, 0, none⟩), vp, vv] W fun e w' => ∃ u, e = .returned u ∧ Step XRep T o w p (σ.writes 2 a.cells (fun i => asK 2 (nth V i)) a.cells.length) w' := by
  have ha := kind_of hok hf
  have hlt : L.g2 < w.heap.size := lt_of_heap hX.s2.cells
  have hP : ∀ j, j < a.cells.length → 0 ≤ nth a.cells j ∧ nth a.cells j < σ.cap 2 ∧ σ.taken 2 (nth a.cells j) = true := fun j hj => by
    have h1 := ha.inside j hj
    have h2 := hx.taken hf j hj
    rw [hk] at h1 h2
    exact ⟨h1.1, h1.2, h2⟩
  have h36 : a.cells.length ≤ 1000000 := by have := ha.length; have := ha.shape.2.2; omega
  refine (xWriteI_calls (hX.kp0 k).s2 a.cells V vp vv hp.1 (fun _ e => by have := hp.2 _ e; omega) hv (fun _ e => hne e) hl (fun j _ => hV j) (fun j hj => by rw [hT.k2.len]; exact ⟨(hP j hj).1, (hP j hj).2.1⟩) h36).mono ?_
  rintro e w' ⟨rfl, hk', hb⟩
  have hX' := (hX.kp0 k).putI hk' hb (wrTo_length _ _ _ _)
  have hw1 : (fun j => IntKind.wrap .i64 (nth V j)) = fun j => asK 2 (nth V j) := by funext j; rw [hV]; simp [asK]
  rw [hw1] at hX'
  have hn := (hT.writesFI hok a.cells hP (fun j => asK 2 (nth V j)) (fun j _ => by simp only [asK]; exact hV j) a.cells.length (Nat.le_refl _)).1
  exact ⟨_, rfl, T, fun _ _ => rfl, ⟨writes_ok hok _ _ _ _, L, _, hX', hn⟩, (Kp.of0 k).trans hk' (fun b _ e => by rw [e, hX.tg2])⟩

theorem xc_makeOfB {T : Tags} {o : Nat} {w : World} {p : Nat} {σ : Sp} {L : XL} {X : XS} (s : List Int) (hok : σ.ok) (hX : XAt T o w p L X) (hT : Tie X (Maps.size L.D) σ) (hs : shapeB s = true) (hm : σ.arrs.length + 1 ≤ 100000000) (hb : σ.bufs.length + 1 ≤ 100000000)
    (V : List Int) (hVl : V.length = (vol s).toNat) (hV : ∀ j, IntKind.i64.wrap (nth V j) = nth V j) (vv : Value) (hv : RdI w vv V) (hvo : ∀ b, vv.ownBlock = some b → (T b).1 ≠ o ∧ b < w.heap.size) :
    Calls Tryz.prog 59 #[.pointer (some ⟨p, 0, none⟩), .int .i64 1, .iface 126 (.pointer (some ⟨L.q1, 0, none⟩)), .agg (shC s).toArray, vv] w fun e w' => ∃ a b, e = .returned (.tuple #[.int .i64 a, .int .i64 b]) ∧ ((a = (σ.fresh 1 s fun i => asK 1 (nth V i)).2.1 ∧ b = (σ.fresh 1 s fun i => asK 1 (nth V i)).2.2) ∧ Step XRep T o w p (σ.fresh 1 s fun i => asK 1 (nth V i)).1 w') := by
  have hW := xc_whole 1 s hok hX hT (by omega) hs hm hb
  have hsh := (shapeB_iff s).1 hs
  rw [inVB] at hW
  have toStep : ∀ {σ' w'}, StepQ T o w p L σ' w' → Step XRep T o w p σ' w' := fun ⟨T', L', X', h1, h2, h3, h4, h5, _⟩ => ⟨T', h1, ⟨h2, L', X', h3, h4⟩, h5⟩
  by_cases hl : 40 ≤ σ.live
  · have h1 : σ.make 1 s = (σ, 0, 7) := make_many (by omega) hs hl
    have h2 : (σ.fresh 1 s fun i => asK 1 (nth V i)) = (σ, 0, 7) := by unfold Sp.fresh; rw [if_pos hl]
    rw [h1] at hW
    rw [h2]
    refine (xmakeOf_no p 1 _ s vv w 7 (by omega) (hid (fun W k => (hW W k).mono (fun e w' ⟨h1, h2⟩ => ⟨_, h1, h2⟩)))).mono ?_
    rintro e w' ⟨rfl, hq⟩
    exact ⟨_, _, rfl, ⟨rfl, rfl⟩, toStep hq⟩
  · by_cases hp : σ.place 1 (vol s).toNat < 0
    · have h1 : σ.make 1 s = (σ, 0, 8) := by unfold Sp.make; rw [if_neg (by omega), if_neg (by simp [hs]), if_neg hl, if_pos hp]
      have h2 : (σ.fresh 1 s fun i => asK 1 (nth V i)) = (σ, 0, 8) := by unfold Sp.fresh; rw [if_neg hl, if_pos hp]
      rw [h1] at hW
      rw [h2]
      refine (xmakeOf_no p 1 _ s vv w 8 (by omega) (hid (fun W k => (hW W k).mono (fun e w' ⟨h1, h2⟩ => ⟨_, h1, h2⟩)))).mono ?_
      rintro e w' ⟨rfl, hq⟩
      exact ⟨_, _, rfl, ⟨rfl, rfl⟩, toStep hq⟩
    · obtain ⟨a, ha⟩ : ∃ a, σ.place 1 (vol s).toNat = a := ⟨_, rfl⟩
      rw [ha] at hp
      have h1 : σ.make 1 s = (σ.made 1 a s (vol s).toNat fun _ => 0, (σ.arrs.length : Int) + 1, 0) := by unfold Sp.make; rw [if_neg (by omega), if_neg (by simp [hs]), if_neg hl, ha, if_neg hp]
      have h2 : (σ.fresh 1 s fun i => asK 1 (nth V i)) = (σ.made 1 a s (vol s).toNat fun i => asK 1 (nth V i), (σ.arrs.length : Int) + 1, 0) := by unfold Sp.fresh; rw [if_neg hl, ha, if_neg hp]
      rw [h1] at hW
      rw [h2]
      have hfd : (σ.made 1 a s (vol s).toNat fun _ => 0).find ((σ.arrs.length : Int) + 1) = some ⟨1, s, rng a (vol s).toNat, false, σ.bufs.length⟩ := by
        unfold Sp.find
        rw [if_pos (by omega)]
        have : (σ.made 1 a s (vol s).toNat fun _ => 0).arrs = σ.arrs ++ [some ⟨1, s, rng a (vol s).toNat, false, σ.bufs.length⟩] := by
          show ((σ.more ⟨1, a, (vol s).toNat⟩).puts 1 a (fun _ => 0) (vol s).toNat).arrs ++ _ = _
          rw [(puts_arrs _ _ _ _ _).1]; rfl
        rw [this, show ix ((σ.arrs.length : Int) + 1) = σ.arrs.length by unfold ix; omega]
        simp [List.getD]
      refine (xmakeOfOkB p L.q1 1 ((σ.arrs.length : Int) + 1) s vv w (vol s).toNat (rng a (vol s).toNat) (R := StepQ T o w p L (σ.made 1 a s (vol s).toNat fun _ => 0)) (Q := Step XRep T o w p (σ.made 1 a s (vol s).toNat fun i => asK 1 (nth V i))) (hid hW) (hid ?_) (hid ?_)).mono ?_
      · rintro w' ⟨T', L', X', t1, t2, t3, t4, t5, t6, t7⟩
        obtain ⟨x, hA, hx⟩ := t4.som _ _ hfd
        refine ⟨x, L'.bm, _, _, _, t3.blk, look_run1 t3.map.drew t3.ent _ x hA, fun W => ?_⟩
        have := xc_cells hx W
        simp only [rng_length] at this
        exact this
      · rintro w' W vp ⟨T', L', X', t1, t2, t3, t4, t5, t6, t7⟩ k hp'
        obtain ⟨x, hA, hx⟩ := t4.som _ _ hfd
        have hrd : RdI w' vv V := hv.kp t5 (fun b e => (hvo b e).1)
        have hne : vv.ownBlock ≠ some L'.g1 := fun e => by
          have h3 := hvo _ e
          have h4 := t3.tg1
          rw [t1 _ h3.2] at h4
          exact h3.1 (by rw [h4])
        have hc := xc_writeB2 t2 t3 t4 hfd hx rfl V (by rw [hVl]; exact (rng_length _ _).symm) hV W vp vv k hp' (hrd.kp0 k) hne
        rw [t6] at hc
        refine hc.mono ?_
        rintro e w2 ⟨u, rfl, T2, u1, u2, u3⟩
        refine ⟨u, rfl, T2, fun b hb2 => (u1 b (Nat.lt_of_lt_of_le hb2 t5.size)).trans (t1 b hb2), ?_, t5.trans u3 (fun b hb2 e => by rw [t1 b hb2] at e; exact e)⟩
        have e2 := made_writes σ 1 a s (vol s).toNat (fun i => asK 1 (nth V i)) (by omega)
        rw [← e2]
        simpa [rng_length] using u2
      · rintro e w' ⟨rfl, hq⟩
        exact ⟨_, _, rfl, ⟨rfl, rfl⟩, hq⟩

theorem xc_makeOfI {T : Tags} {o : Nat} {w : World} {p : Nat} {σ : Sp} {L : XL} {X : XS} (s : List Int) (hok : σ.ok) (hX : XAt T o w p L X) (hT : Tie X (Maps.size L.D) σ) (hs : shapeB s = true) (hm : σ.arrs.length + 1 ≤ 100000000) (hb : σ.bufs.length + 1 ≤ 100000000)
    (V : List Int) (hVl : V.length = (vol s).toNat) (hV : ∀ j, IntKind.i64.wrap (nth V j) = nth V j) (vv : Value) (hv : RdI w vv V) (hvo : ∀ b, vv.ownBlock = some b → (T b).1 ≠ o ∧ b < w.heap.size) :
    Calls Tryz.prog 59 #[.pointer (some ⟨p, 0, none⟩), .int .i64 2, .iface 127 (.pointer (some ⟨L.q2, 0, none⟩)), .agg (shC s).toArray, vv] w fun e w' => ∃ a b, e = .returned (.tuple #[.int .i64 a, .int .i64 b]) ∧ ((a = (σ.fresh 2 s fun i => asK 2 (nth V i)).2.1 ∧ b = (σ.fresh 2 s fun i => asK 2 (nth V i)).2.2) ∧ Step XRep T o w p (σ.fresh 2 s fun i => asK 2 (nth V i)).1 w') := by
  have hW := xc_whole 2 s hok hX hT (by omega) hs hm hb
  have hsh := (shapeB_iff s).1 hs
  rw [inVI] at hW
  have toStep : ∀ {σ' w'}, StepQ T o w p L σ' w' → Step XRep T o w p σ' w' := fun ⟨T', L', X', h1, h2, h3, h4, h5, _⟩ => ⟨T', h1, ⟨h2, L', X', h3, h4⟩, h5⟩
  by_cases hl : 40 ≤ σ.live
  · have h1 : σ.make 2 s = (σ, 0, 7) := make_many (by omega) hs hl
    have h2 : (σ.fresh 2 s fun i => asK 2 (nth V i)) = (σ, 0, 7) := by unfold Sp.fresh; rw [if_pos hl]
    rw [h1] at hW
    rw [h2]
    refine (xmakeOf_no p 2 _ s vv w 7 (by omega) (hid (fun W k => (hW W k).mono (fun e w' ⟨h1, h2⟩ => ⟨_, h1, h2⟩)))).mono ?_
    rintro e w' ⟨rfl, hq⟩
    exact ⟨_, _, rfl, ⟨rfl, rfl⟩, toStep hq⟩
  · by_cases hp : σ.place 2 (vol s).toNat < 0
    · have h1 : σ.make 2 s = (σ, 0, 8) := by unfold Sp.make; rw [if_neg (by omega), if_neg (by simp [hs]), if_neg hl, if_pos hp]
      have h2 : (σ.fresh 2 s fun i => asK 2 (nth V i)) = (σ, 0, 8) := by unfold Sp.fresh; rw [if_neg hl, if_pos hp]
      rw [h1] at hW
      rw [h2]
      refine (xmakeOf_no p 2 _ s vv w 8 (by omega) (hid (fun W k => (hW W k).mono (fun e w' ⟨h1, h2⟩ => ⟨_, h1, h2⟩)))).mono ?_
      rintro e w' ⟨rfl, hq⟩
      exact ⟨_, _, rfl, ⟨rfl, rfl⟩, toStep hq⟩
    · obtain ⟨a, ha⟩ : ∃ a, σ.place 2 (vol s).toNat = a := ⟨_, rfl⟩
      rw [ha] at hp
      have h1 : σ.make 2 s = (σ.made 2 a s (vol s).toNat fun _ => 0, (σ.arrs.length : Int) + 1, 0) := by unfold Sp.make; rw [if_neg (by omega), if_neg (by simp [hs]), if_neg hl, ha, if_neg hp]
      have h2 : (σ.fresh 2 s fun i => asK 2 (nth V i)) = (σ.made 2 a s (vol s).toNat fun i => asK 2 (nth V i), (σ.arrs.length : Int) + 1, 0) := by unfold Sp.fresh; rw [if_neg hl, ha, if_neg hp]
      rw [h1] at hW
      rw [h2]
      have hfd : (σ.made 2 a s (vol s).toNat fun _ => 0).find ((σ.arrs.length : Int) + 1) = some ⟨2, s, rng a (vol s).toNat, false, σ.bufs.length⟩ := by
        unfold Sp.find
        rw [if_pos (by omega)]
        have : (σ.made 2 a s (vol s).toNat fun _ => 0).arrs = σ.arrs ++ [some ⟨2, s, rng a (vol s).toNat, false, σ.bufs.length⟩] := by
          show ((σ.more ⟨2, a, (vol s).toNat⟩).puts 2 a (fun _ => 0) (vol s).toNat).arrs ++ _ = _
          rw [(puts_arrs _ _ _ _ _).1]; rfl
        rw [this, show ix ((σ.arrs.length : Int) + 1) = σ.arrs.length by unfold ix; omega]
        simp [List.getD]
      refine (xmakeOfOkI p L.q2 2 ((σ.arrs.length : Int) + 1) s vv w (vol s).toNat (rng a (vol s).toNat) (R := StepQ T o w p L (σ.made 2 a s (vol s).toNat fun _ => 0)) (Q := Step XRep T o w p (σ.made 2 a s (vol s).toNat fun i => asK 2 (nth V i))) (hid hW) (hid ?_) (hid ?_)).mono ?_
      · rintro w' ⟨T', L', X', t1, t2, t3, t4, t5, t6, t7⟩
        obtain ⟨x, hA, hx⟩ := t4.som _ _ hfd
        refine ⟨x, L'.bm, _, _, _, t3.blk, look_run1 t3.map.drew t3.ent _ x hA, fun W => ?_⟩
        have := xc_cells hx W
        simp only [rng_length] at this
        exact this
      · rintro w' W vp ⟨T', L', X', t1, t2, t3, t4, t5, t6, t7⟩ k hp'
        obtain ⟨x, hA, hx⟩ := t4.som _ _ hfd
        have hrd : RdI w' vv V := hv.kp t5 (fun b e => (hvo b e).1)
        have hne : vv.ownBlock ≠ some L'.g2 := fun e => by
          have h3 := hvo _ e
          have h4 := t3.tg2
          rw [t1 _ h3.2] at h4
          exact h3.1 (by rw [h4])
        have hc := xc_writeI2 t2 t3 t4 hfd hx rfl V (by rw [hVl]; exact (rng_length _ _).symm) hV W vp vv k hp' (hrd.kp0 k) hne
        rw [t7] at hc
        refine hc.mono ?_
        rintro e w2 ⟨u, rfl, T2, u1, u2, u3⟩
        refine ⟨u, rfl, T2, fun b hb2 => (u1 b (Nat.lt_of_lt_of_le hb2 t5.size)).trans (t1 b hb2), ?_, t5.trans u3 (fun b hb2 e => by rw [t1 b hb2] at e; exact e)⟩
        have e2 := made_writes σ 2 a s (vol s).toNat (fun i => asK 2 (nth V i)) (by omega)
        rw [← e2]
        simpa [rng_length] using u2
      · rintro e w' ⟨rfl, hq⟩
        exact ⟨_, _, rfl, ⟨rfl, rfl⟩, hq⟩

end Go.Proofs.YticbbncdcannlaaGreat

/- What writes through views of the cast leave of it. No program. -/
namespace Go.Proofs.YticbbncdcannlaaGreat

section
variable {σ : Sp} {E : List CE} {n : Nat} {V : List Int} {B : Nat}

theorem KM.put (h : KM σ E n V B) (c : Nat) (hc : c < n) (v : Int) : KM (σ.put 2 c v) E n (V.set c v) B := by
  obtain ⟨e1, e2, -, e4, -⟩ := put_same σ 2 c v
  have hv : (σ.put 2 c v).v2 = σ.v2.set c v := by simp [Sp.put]
  have hl2 : σ.v2.length = 2000 := by rw [h.ok.v2, h.cap]
  have hn := h.n2
  refine { ok := put_ok h.ok 2 c v, cap := e4.trans h.cap, n1 := h.n1, n2 := h.n2, ent := fun i e he => ?_, live := ?_, buf := by rw [e2]; exact h.buf, one := fun i a ha => h.one i a (by rw [← e1]; exact ha), vals := fun j hj => ?_, len := by simp [h.len], inc := h.inc, fst := h.fst, many := by rw [e1]; exact h.many, bufs := by rw [e2]; exact h.bufs, inj := h.inj }
  · rw [e1]
    exact h.ent i e he
  · rw [live_arrs e1]
    exact h.live
  · rw [hv, nth_set, nth_set, h.vals j hj, hl2, h.len]
    by_cases hj' : j = c
    · rw [if_pos ⟨hj', by omega⟩, if_pos ⟨hj', hc⟩]
    · rw [if_neg (fun e => hj' e.1), if_neg (fun e => hj' e.1)]

theorem KM.writes (h : KM σ E n V B) {i : Nat} {e : CE} (he : E[i]? = some e) (f : Nat → Int) (k : Nat) (hk : k ≤ e.ranks.length) : KM (σ.writes 2 e.ranks f k) E n (wrTo V e.ranks f k) B := by
  induction k with
  | zero => exact h
  | succ k ih =>
    have hr := h.rk he k (by omega)
    exact (ih (by omega)).put (nth e.ranks k).toNat (by omega) (f k)

end

end Go.Proofs.YticbbncdcannlaaGreat
