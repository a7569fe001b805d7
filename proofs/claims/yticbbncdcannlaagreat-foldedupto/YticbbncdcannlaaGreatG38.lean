/- The cast: turn, walked. -/
import Derived.Deep.CutRange
import Derived.Deep.RegionLaw
import Derived.BigRegion
import Derived.Test.YticbbncdcannlaaGreatG37
import Derived.Test.YticbbncdcannlaaGreatG36

namespace Go.Proofs.YticbbncdcannlaaGreat
open Go.RowKit

theorem turnTo_rep (n : Nat) (ax l : List Int) : (ints (turnTo n ax l 0)).toArray = rep n (.int .i64 0) := by
  simp [turnTo, ints, rep]

set_option maxRecDepth 100000 in
set_option maxHeartbeats 8000000 in
theorem kturn_calls {w0 w : World} {T : Tags} {pc ps : Nat} {σ : Sp} {E : List CE} {n : Nat} {V : List Int} {B : Nat} (h : KI w0 w T pc ps σ E) (hM : KM σ E n V B) (hlt : E.length < 40) (hB : B + 1 ≤ 100000000) (k : Nat) (e : CE) (he : E[k]? = some e) (hne : 1 ≤ e.shape.length) (vK vO vA vB vC vD : Int) (wA : IntKind.i64.wrap vA = vA) (wB : IntKind.i64.wrap vB = vB) :
    Calls Tryz.prog 46 #[.pointer (some ⟨pc, 0, none⟩), .agg #[.int .i64 vK, .int .i64 vO, .int .i64 vA, .int .i64 vB, .int .i64 vC, .int .i64 vD], .int .i64 (k : Int)] w fun e w' => e = .returned (.bool true) ∧ Viewed w0 w T pc ps n V E B w' := by
  obtain ⟨q0, g1, g2, g3, g4, c1, c2, c3, c4, hq, ht, hg⟩ := h.cells
  have hkE : k < E.length := (List.getElem?_eq_some_iff.1 he).1
  obtain ⟨q1, q2, q3, q4⟩ := hq (by omega)
  have HTG := hid (ht (by omega))
  obtain ⟨u1, u4, a1, d1, a2, d2, u2, u3, r1, r2⟩ := hg k e he
  have hs : okShape e.shape := (hM.aok he).shape
  have hpc : pc < w.heap.size := block_lt_of_cell q0
  have hg1 : g1 < w.heap.size := block_lt_of_cell u1
  have hg2 : g2 < w.heap.size := block_lt_of_cell u2
  have hg3 : g3 < w.heap.size := block_lt_of_cell u3
  have hg4 : g4 < w.heap.size := block_lt_of_cell u4
  have k0 : (0 : Int) ≤ (k : Int) := by omega
  have HI := hid h
  have HM := hid hM
  have HE := hid he
  have HR1 := hid r1
  have HR2 := hid r2
  have HSH := hid hs
  have HWA := hid wA
  have HWB := hid wB
  obtain ⟨EL, hEL⟩ : ∃ EL, E.length = EL := ⟨_, rfl⟩
  have HEL := hid hEL
  rw [hEL] at q1 q2 q3 q4 hkE hlt
  have k1 : (k : Int) < (EL : Int) := by omega
  clear h hM he hq hg r1 r2 hs hEL ht wA wB
  obtain ⟨m, hm⟩ : ∃ m, e.shape.length = m := ⟨_, rfl⟩
  rw [hm] at u2 hne
  have HMM := hid hm
  have hm4 : m ≤ 4 := by have := HSH.out.1; omega
  have hm1 : ¬ (m : Int) = 0 := by omega
  have hmb : ((m : Int) == 0) = false := by simp; omega
  have hmn : ¬ (m : Int) = -1 := by omega
  obtain ⟨ga, oa, rfl, hca⟩ : ∃ ga oa, a1 = some ⟨ga, oa, none⟩ ∧ ∀ j, j < m → w.cell? ⟨ga, oa + j, none⟩ = some (.int .i64 (nth e.shape j)) := by
    obtain ⟨a, c, ev, hh⟩ := rd_parts HR1.out.1
    obtain ⟨g, o, rfl, hc⟩ := hh (by omega)
    simp at ev
    exact ⟨g, o, by rw [ev.1], fun j hj => hc j (by omega)⟩
  have hax := pick_small (c := vA) (n := (m : Int)) (by omega)
  obtain ⟨bn, hbn⟩ : ∃ bn : Nat, pickN vA (m : Int) = (bn : Int) := ⟨(pickN vA (m : Int)).toNat, by omega⟩
  have HBY := hid hbn
  have hbnm : bn < m := by omega
  obtain ⟨odd, hodd⟩ : ∃ odd, (vB.tmod 2 != 0) = odd := ⟨_, rfl⟩
  have HODD := hid hodd
  obtain ⟨ax, hax'⟩ : ∃ ax, axT m bn odd = ax := ⟨_, rfl⟩
  have HAXL : Hid (ax.length = m) := hid (by rw [← hax', axT_length])
  have HAXT : Hid (∀ i, i < m → ax.take (i + 1) = ax.take i ++ [axAt m bn odd i]) := hid (fun i hi => by rw [← hax']; exact axT_take m bn odd i hi)
  have HAXN : Hid (∀ i, i < m → nth ax i = axAt m bn odd i) := hid (fun i hi => by rw [← hax']; exact axT_nth m bn odd i hi)
  have HAXO : Hid (axesTo m ax m) := hid (by rw [← hax']; exact axT_ok m bn odd hne hm4 hbnm)
  have HAXB : Hid (∀ i, i < m → 0 ≤ axAt m bn odd i ∧ axAt m bn odd i < m) := hid (fun i hi => axAt_bd m bn odd hne hm4 hbnm i hi)
  obtain ⟨s', hs'⟩ : ∃ s', turnS e.shape ax = s' := ⟨_, rfl⟩
  have HS' := hid hs'
  have HST : Hid (∀ i, i < m → s'.take (i + 1) = s'.take i ++ [nth e.shape (axAt m bn odd i).toNat]) := hid (fun i hi => by
    rw [← hs', turnS_take e.shape ax i (by rw [HAXL.out]; exact hi), HAXN.out i hi])
  have hHX : ax.length = e.shape.length := by rw [HAXL.out, hm]
  have hHO : axesTo e.shape.length ax e.shape.length := by rw [hm]; exact HAXO.out
  have HC := hid (HM.out.turn HE.out (by have := HEL.out; omega) ax hHX hHO (by have := HM.out.many; omega))
  have HSH' : Hid (okShape s') := hid (by rw [← hs']; exact turn_shape HSH.out hHX hHO)
  have HSL' : Hid (s'.length = m) := hid (by rw [← hs', turnS_length, HAXL.out])
  obtain ⟨N, hN⟩ : ∃ N : Nat, vol s' = (N : Int) := ⟨(vol s').toNat, by have := vol_whole HSH'.out; omega⟩
  have HVOL := hid hN
  have hN36 : N ≤ 3600 := by have := HSH'.out.2.2; omega
  obtain ⟨rk, hrk⟩ : ∃ rk, turnRk e.shape ax = rk := ⟨_, rfl⟩
  have HRL : Hid (rk.length = N) := hid (by rw [← hrk, turnRk_length, hs', hN]; rfl)
  have HRN : Hid (∀ j, j < N → nth rk j = rank e.shape (turnTo m ax (idx s' j) m) ∧ inB e.shape (turnTo m ax (idx s' j) m) ∧ 0 ≤ nth rk j ∧ nth rk j < e.ranks.length) := hid (fun j hj => by
    have h1 : inB e.shape (turnTo e.shape.length ax (idx (turnS e.shape ax) j) e.shape.length) := ⟨(turnTo_length _ _ _ _).symm, turnTo_in HSH.out hHX hHO (idx_in _ _ (by rw [hs']; exact HSH'.out.2.1)) e.shape.length (Nat.le_refl _)⟩
    have h2 := turnRk_bd HSH.out hHX hHO j (by rw [hs', hN]; omega)
    rw [hs', hm] at h1
    rw [hrk, ← HM.out.rlen HE.out] at h2
    refine ⟨?_, h1, h2⟩
    rw [← hrk, nth_lt (by rw [turnRk_length, hs', hN]; omega)]
    simp [turnRk, hs', hm])
  have HRK := hid hrk
  have HMK : Hid (∀ W, _) := hid (fun W => run_mk (P := Tryz.prog) 26 3 (.int .i64 0) 8 Tryz.underlying26 Tryz.infoInt rfl (by omega) m (by omega) W)
  obtain ⟨W1, hW1⟩ : ∃ W1, w.alloc (.cells #[.int .i64 vK, .int .i64 vO, .int .i64 vA, .int .i64 vB, .int .i64 vC, .int .i64 vD] 93) = W1 := ⟨_, rfl⟩
  have HW1 := hid hW1
  have HKW1 : Hid (Kp0 w W1) := hid (by rw [← hW1]; exact Kp.alloc (Kp.refl _ _) _)
  have HY2 : Hid (W1.cell? ⟨w.heap.size, 2, none⟩ = some (.int .i64 vA)) := hid (by rw [← hW1]; simp)
  have HY3 : Hid (W1.cell? ⟨w.heap.size, 3, none⟩ = some (.int .i64 vB)) := hid (by rw [← hW1]; simp)
  have hsW : w.heap.size < W1.heap.size := by rw [← hW1]; simp
  have HCA := hid hca
  have hgaW : ga < W1.heap.size := Nat.lt_of_lt_of_le (block_lt_of_cell (hca 0 (by omega))) HKW1.out.size
  clear hW1 hax' hm hs' hHX hHO hN hrk hbn hodd hax hca
  go_enter Tryz.func46, Tryz.ntmps46
  go_wp2
  rw [HW1.out]
  go_loopw [9, 10, 11] (fun la ls t w' => ∃ i : Nat, i ≤ m ∧ t = .int .i64 i ∧ ∃ aa ca ab cb, la = .slice aa i ca ∧ ls = .slice ab i cb ∧ OwI w' (.slice aa i ca) (ax.take i) ∧ OwI w' (.slice ab i cb) (s'.take i) ∧ Kp0 W1 w' ∧ (∀ b, (Value.slice aa i ca).ownBlock = some b → W1.heap.size ≤ b ∧ (Value.slice ab i cb).ownBlock ≠ some b) ∧ (∀ b, (Value.slice ab i cb).ownBlock = some b → W1.heap.size ≤ b)) (fun _ _ t _ => m - (intOf t).toNat)
  case atStart => exact ⟨0, Nat.zero_le _, rfl, none, 0, none, 0, rfl, rfl, OwI.nil _, OwI.nil _, Kp0.refl _, fun b hb => by simp [Value.ownBlock] at hb, fun b hb => by simp [Value.ownBlock] at hb⟩
  case round =>
    obtain ⟨i, hi, rfl, aa, ca, ab, cb, rfl, rfl, hOa, hOb, hK, hBa, hBb⟩ := hrel
    have HOa := hid hOa
    have HOb := hid hOb
    have HK := hid hK
    have HBa := hid hBa
    have HBb := hid hBb
    clear hOa hOb hK hBa hBb
    by_cases him : i < m
    · have i1 : (i : Int) < (m : Int) := by omega
      have y2 := HK.out.cell HY2.out
      have y3 := HK.out.cell HY3.out
      obtain ⟨av, hav⟩ : ∃ av, axAt m bn odd i = av := ⟨_, rfl⟩
      have hab := HAXB.out i him
      have HTA := hid (HAXT.out i him)
      have HTS := hid (HST.out i him)
      rw [hav] at hab
      rw [hav] at HTA
      rw [hav] at HTS
      have HAV := hid hav
      have xs := (HKW1.out.trans HK.out).cell (HCA.out av.toNat (by omega))
      have hmd : 0 ≤ ((i : Int) + (bn : Int)) % (m : Int) ∧ ((i : Int) + (bn : Int)) % (m : Int) < m := ⟨Int.emod_nonneg _ (by omega), Int.emod_lt_of_pos _ (by omega)⟩
      have HE1 : Hid (odd = true → (m : Int) - 1 - ((i : Int) + (bn : Int)) % (m : Int) = av) := hid (fun h => by rw [← HAV.out]; simp [axAt, h])
      have HE2 : Hid (odd = false → ((i : Int) + (bn : Int)) % (m : Int) = av) := hid (fun h => by rw [← HAV.out]; simp [axAt, h])
      clear hav
      go_wp2_with fail
      refine (pick_calls vA (m : Int) wr HWA.out (by omega)).mono ?_
      rintro e' w' ⟨rfl, hw⟩
      obtain rfl := hw.symm
      rw [HBY.out]
      go_upto_if 45 with (fail)
      go_cut [12] from 45 to 49 (fun s12 W => s12 = .int .i64 av ∧ W = wr)
      case first =>
        by_cases ho : odd = true
        · have hb2 : (vB.tmod 2 != 0) = true := by rw [HODD.out]; exact ho
          have HE := hid (HE1.out ho)
          go_wp2_with fail
          go_meet
          case rel => exact ⟨by rw [HE.out], rfl⟩
        · have hb2 : (vB.tmod 2 != 0) = false := by rw [HODD.out]; simpa using ho
          have HE := hid (HE2.out (by simpa using ho))
          go_wp2_with fail
          go_meet
          case rel => exact ⟨by rw [HE.out], rfl⟩
      case rest =>
        obtain ⟨rfl, hwc⟩ := hcut
        obtain rfl := hwc.symm
        have HBN1 : Hid (i + [av].length ≤ 1000000000000) := hid (by simp; omega)
        clear hmd HE1 HE2
        go_wp2_with (at_builtin; refine wpList_app (by rfl) _ _ (by rfl) aa i ca (ax.take i) [av] _ (by rfl) (by rfl) (HOa.out.alloc _) (RdI.one _ _) HBN1.out (wr.heap.size + 1) (by simp) ?_)
        intro aa' ca' w6 hC6 hG6 hB6
        have hK6 : Kp0 W1 w6 := Kp.grown (Kp.alloc HK.out _) hG6 (fun b hb h => by have := (HBa.out b hb).1; omega)
        have hOb6 : OwI w6 (.slice ab i cb) (s'.take i) := (HOb.out.alloc _).grown hG6 (fun b hb e => (HBa.out b e.symm).2 hb)
        have hB6' : ∀ b, (Value.slice aa' (i + 1) ca').ownBlock = some b → W1.heap.size ≤ b ∧ (Value.slice ab i cb).ownBlock ≠ some b := by
          intro b hb
          rcases hB6 b hb with h | h
          · exact HBa.out b h
          · refine ⟨by have := HK.out.size; omega, fun e => ?_⟩
            have := HOb.out.lt e
            omega
        have xs6 := hG6.cell (a := ⟨ga, oa + av.toNat, none⟩) (by rw [World.cell?_alloc_lt _ _ _ (block_lt_of_cell xs)]; exact xs) (fun e => Nat.not_le_of_lt hgaW (HBa.out _ e.symm).1)
        have hs6 : wr.heap.size + 1 ≤ w6.heap.size := by have := hG6.size; simpa using this
        have HC6 := hid hC6
        have HK6 := hid hK6
        have HOb6 := hid hOb6
        have HB6 := hid hB6'
        have HBN2 : Hid (i + [nth e.shape av.toNat].length ≤ 1000000000000) := hid (by simp; omega)
        have av0 : (0 : Int) ≤ av := hab.1
        have av1 : av < (m : Int) := hab.2
        generalize nth e.shape av.toNat = y at *
        clear hC6 hK6 hOb6 hB6 hB6' hG6 xs y2 y3
        go_wp2_with (at_builtin; refine wpList_app (by rfl) _ _ (by rfl) ab i cb (s'.take i) [y] _ (by rfl) (by rfl) (HOb6.out.alloc _) (RdI.one _ _) HBN2.out (w6.heap.size + 1) (by simp) ?_)
        intro ab' cb' w7 hC7 hG7 hB7
        have hK7 : Kp0 W1 w7 := Kp.grown (Kp.alloc HK6.out _) hG7 (fun b hb h => by have := HBb.out b hb; omega)
        have hOa7 : OwI w7 (.slice aa' (i + 1) ca') (ax.take (i + 1)) := by
          rw [HTA.out]
          exact (HC6.out.alloc _).grown hG7 (fun b hb e => (HB6.out b hb).2 e.symm)
        have hB7' : ∀ b, (Value.slice ab' (i + 1) cb').ownBlock = some b → W1.heap.size ≤ b := by
          intro b hb
          rcases hB7 b hb with h | h
          · exact HBb.out b h
          · have := HK6.out.size; omega
        have hA7' : ∀ b, (Value.slice aa' (i + 1) ca').ownBlock = some b → W1.heap.size ≤ b ∧ (Value.slice ab' (i + 1) cb').ownBlock ≠ some b := by
          intro b hb
          refine ⟨(HB6.out b hb).1, fun e => ?_⟩
          rcases hB7 b e with h | h
          · exact (HB6.out b hb).2 h
          · have := HC6.out.lt hb
            omega
        have HC7 : Hid (OwI w7 (.slice ab' (i + 1) cb') (s'.take (i + 1))) := hid (by rw [HTS.out]; exact hC7)
        have HK7 := hid hK7
        have HOa7 := hid hOa7
        have HB7 := hid hB7'
        have HA7 := hid hA7'
        clear hC7 hK7 hOa7 hB7 hB7' hA7' hG7 xs6
        go_wp2
        go_roundw
        case rel => exact ⟨i + 1, by omega, by go_num, aa', ca', ab', cb', rfl, rfl, HOa7.out, HC7.out, HK7.out, HA7.out, HB7.out⟩
        case measure => simp [intOf]; omega
    · have hin : i = m := by omega
      have i1 : ¬ (i : Int) < (m : Int) := by omega
      have HOA : Hid (OwI wr (.slice aa i ca) ax) := hid (by have := HOa.out; rw [List.take_of_length_le (by rw [HAXL.out]; omega)] at this; exact this)
      have HOS : Hid (OwI wr (.slice ab i cb) s') := hid (by have := HOb.out; rw [List.take_of_length_le (by rw [HSL'.out]; omega)] at this; exact this)
      have HIM : Hid (i = m) := hid hin
      clear hin HOa HOb
      obtain ⟨T1, hT1⟩ : ∃ T1, retag w T (0, 16) = T1 := ⟨_, rfl⟩
      have HT1 : Hid (TagsTo w T T1) := hid (by rw [← hT1]; exact retag_to w T _)
      have HNW : Hid (∀ b, w.heap.size ≤ b → T1 b = (0, 16)) := hid (fun b hb => by rw [← hT1]; exact retag_new hb)
      clear hT1
      have HKW2 := hid (HKW1.out.trans HK.out)
      have HI2 := hid (HI.out.kp0 HT1.out HKW2.out)
      obtain ⟨W2, hW2⟩ : ∃ W2, wr = W2 := ⟨_, rfl⟩
      have HXC : Hid (∀ W, Kp0 wr W → Calls Tryz.prog 20 #[.pointer (some ⟨ps, 0, none⟩), .int .i64 e.h, .slice aa i ca] W fun e' w3 => e' = .returned (.tuple #[.int .i64 ((σ.arrs.length : Int) + 1), .int .i64 0]) ∧ ∃ T3, TagsTo wr T1 T3 ∧ KI w0 w3 T3 pc ps (σ.turn e.h ax).1 E ∧ Kp (fun b => (T1 b).1 = 1) wr w3) := hid (fun W kW => by
        have hIW := HI2.out.kp0 (fun _ _ => rfl) kW
        refine (xc_turn e.h _ ax (HOA.out.rd.kp0 kW) hIW.rep (by have := HM.out.many; omega)).mono ?_
        rintro e' w3 ⟨rfl, hst⟩
        obtain ⟨T3, ht3, hI3, hk3⟩ := hIW.step hst
        rw [HC.out.1]
        exact ⟨rfl, T3, fun b hb => ht3 b (Nat.lt_of_lt_of_le hb kW.size), hI3, (Kp.of0 kW).trans hk3 (fun _ _ e => e)⟩)
      have no1 : Hid (∀ b, b < w.heap.size → (T b).1 = 0 → ¬ (T1 b).1 = 1) := hid (fun b hb h0 e => by rw [HT1.out b hb, h0] at e; cases e)
      have s0 := HKW2.out.cell q0
      have s1 := HKW2.out.cell q1
      have v1 := HKW2.out.cell u1
      have HQ3 := hid (And.intro (HKW2.out.cell q3) (HKW2.out.cell u3))
      have HQ4 := hid (And.intro (HKW2.out.cell q4) (HKW2.out.cell u4))
      clear q0 q1 q2 q3 q4 u1 u2 u3 u4 hW2
      go_wp2
      go_region_held3 (fun W => W.cell? ⟨pc, 0, none⟩ = some (.pointer (some ⟨ps, 0, none⟩)) ∧ W.cell? ⟨pc, 1, none⟩ = some (.slice (some ⟨g1, 0, none⟩) EL c1) ∧ W.cell? ⟨g1, k, none⟩ = some (.int .i64 e.h)) (first | go_keep | (go_split_ands; exact ⟨hk3.cell s0 (no1.out _ hpc HTG.out.1), hk3.cell s1 (no1.out _ hpc HTG.out.1), hk3.cell v1 (no1.out _ hg1 HTG.out.2.1)⟩))
        ((go_at_call 20; refine (HXC.out _ ?_).mono ?_; (first | exact Kp0.refl _ | exact Kp0.drew (Kp0.refl _)); rintro e' w3 ⟨rfl, T3, ht3, hI3, hk3⟩))
      have HI3 := hid hI3
      have HT3 := hid ht3
      have HK3 := hid hk3
      have HR13 := hid (HR1.out.1.kp (Kp.trans (Kp.of0 HKW2.out) hk3 (fun _ _ e => e)) (fun b hb e => by
        obtain ⟨x1, x2, _, x3⟩ := HR1.out.2 b hb
        rw [HT1.out b x1, x3] at e
        simp at e))
      have HR23 := hid (HR2.out.1.kp (Kp.trans (Kp.of0 HKW2.out) hk3 (fun _ _ e => e)) (fun b hb e => by
        obtain ⟨x1, x2, _, x3⟩ := HR2.out.2 b hb
        rw [HT1.out b x1, x3] at e
        simp at e))
      rw [HMM.out] at HR13
      have HNX : Hid (∀ b, W1.heap.size ≤ b → ¬ (T1 b).1 = 1) := hid (fun b hb e => by rw [HNW.out b (by have := HKW1.out.size; omega)] at e; simp at e)
      have HOA3 := hid (HOA.out.kp hk3 (fun b hb => HNX.out b (HBa.out b hb).1))
      have HOS3 := hid (HOS.out.kp hk3 (fun b hb => HNX.out b (HBb.out b hb)))
      have HOSB : Hid (∀ b, (Value.slice ab i cb).ownBlock = some b → b < w3.heap.size ∧ T3 b = (0, 16)) := hid (fun b hb => by
        have h1 := own_lt HOS.out hb
        refine ⟨Nat.lt_of_lt_of_le h1 hk3.size, ?_⟩
        rw [ht3 b h1]
        exact HNW.out b (by have := HBb.out b hb; have := HKW1.out.size; omega))
      have hsz3 : w.heap.size ≤ w3.heap.size := Nat.le_trans HKW2.out.size hk3.size
      have hszr : w.heap.size ≤ wr.heap.size := HKW2.out.size
      have HSR := hid hk3.size
      have HQ33 := hid (And.intro (hk3.cell HQ3.out.1 (no1.out _ hpc HTG.out.1)) (hk3.cell HQ3.out.2 (no1.out _ hg3 HTG.out.2.2.2.1)))
      have HQ43 := hid (And.intro (hk3.cell HQ4.out.1 (no1.out _ hpc HTG.out.1)) (hk3.cell HQ4.out.2 (no1.out _ hg4 HTG.out.2.2.2.2)))
      have HT31 : Hid (∀ b, b < w.heap.size → T3 b = T b) := hid (fun b hb => by rw [ht3 b (by omega), HT1.out b hb])
      clear ht3 hI3 hk3 HXC s0 s1 v1 HQ3 HQ4 HOA HOS HT3 HK3
      rw [HIM.out] at HOA3 HOS3 HOSB
      rw [HIM.out]
      clear i1 him hi HIM HBa HBb HK HKW2 HI2
      obtain ⟨RL, hRL⟩ : ∃ RL, e.ranks.length = RL := ⟨_, rfl⟩
      have HRLL := hid hRL
      rw [hRL] at HQ33 HR23 HRN
      have hRLb : RL ≤ 400 := by have := HM.out.rlen HE.out; have := (HM.out.ent _ _ HE.out).2.2.1; omega
      clear hRL
      obtain ⟨gx, hgx, hcx⟩ : ∃ gx, aa = some ⟨gx, 0, none⟩ ∧ ∀ j, j < m → w3.cell? ⟨gx, j, none⟩ = some (.int .i64 (nth ax j)) := by
        obtain ⟨g, cap, hv, _, _, hc⟩ := HOA3.out.slice (by rw [HAXL.out]; omega)
        simp at hv
        exact ⟨g, hv.1, fun j hj => hc j (by rw [HAXL.out]; exact hj)⟩
      subst hgx
      have HCX := hid hcx
      have hgxl : gx < w3.heap.size := block_lt_of_cell (hcx 0 (by omega))
      clear hcx HOA3
      go_wp2
      go_loopw [15, 16] (fun l t w' => ∃ j : Nat, j ≤ N ∧ t = .int .i64 j ∧ ∃ ao c, l = .slice ao j c ∧ OwI w' (.slice ao j c) (picked e.ranks (rk.take j)) ∧ Kp0 w3 w' ∧ (∀ b, (Value.slice ao j c).ownBlock = some b → w3.heap.size ≤ b)) (fun _ t _ => N - (intOf t).toNat)
      case atStart => exact ⟨0, Nat.zero_le _, rfl, none, 0, rfl, OwI.nil _, by first | exact Kp0.refl _ | exact Kp.drewN (Kp0.refl _) _, fun b hb => by simp [Value.ownBlock] at hb⟩
      case round =>
        obtain ⟨j, hj, rfl, ao, cc, rfl, hO, hK, hB⟩ := hrel
        have HO := hid hO
        have HK := hid hK
        have HB := hid hB
        clear hO hK hB
        go_wp2_with fail
        refine (kvolume_calls _ s' _ (HOS3.out.rd.kp0 HK.out) HSH'.out.2.1 HSH'.out.1).mono ?_
        rintro e' w' ⟨rfl, hw⟩
        obtain rfl := hw.symm
        rw [HVOL.out]
        by_cases hjN : j < N
        · have j1 : (j : Int) < (N : Int) := by omega
          go_wp2_with fail
          refine (kindex_calls _ s' j wr (HOS3.out.rd.kp0 HK.out) HSH'.out.2.1 HSH'.out.1 (by omega) (by omega)).mono ?_
          rintro e' w6 ⟨rfl, hk6, hg6⟩
          rw [HSL'.out]
          obtain ⟨il, hil⟩ : ∃ il, idx s' j = il := ⟨_, rfl⟩
          have hin := idx_in s' j HSH'.out.2.1
          rw [hil] at hin hg6
          have HLL : Hid (il.length = m) := hid (by rw [← hin.1]; exact HSL'.out)
          have HRj := hid (HRN.out j hjN)
          rw [hil] at HRj
          have HK6 := hid hk6
          have HG6 := hid hg6
          have hs6 : wr.heap.size < w6.heap.size := lt_of_heap hg6
          have hs3 : w3.heap.size ≤ wr.heap.size := HK.out.size
          clear hk6 hg6 hin hil
          have hmk := HMK.out
          go_wp2
          clear hmk
          generalize wr.heap.size = ib at *
          go_loopw [19] (fun t' w' => ∃ q : Nat, q ≤ m ∧ t' = .int .i64 q ∧ Kp0 w6 w' ∧ w'.heap[w6.heap.size]? = some (.cells (ints (turnTo m ax il q)).toArray 3 (0, 0))) (fun t _ => m - (intOf t).toNat)
          case atStart => exact ⟨0, Nat.zero_le _, rfl, (Kp.refl _ _).alloc _, by rw [heap_alloc_new, turnTo_rep]⟩
          case round =>
            obtain ⟨q, hq, rfl, hK7, hG7⟩ := hrel
            have HK7 := hid hK7
            have HG7 := hid hG7
            have HKW := hid ((HK.out.trans HK6.out).trans hK7)
            by_cases hqm : q < m
            · have c2 := HKW.out.cell (HCX.out q hqm)
              have c3 : wr.cell? ⟨ib, q, none⟩ = some (.int .i64 (nth il q)) := by
                rw [cell_of_row _ _ _ _ _ _ (hK7.heap HG6.out)]
                simpa using ints_get (xs := il) (j := q) (by rw [HLL.out]; exact hqm)
              obtain ⟨⟨x0, x1⟩, -⟩ := HAXO.out q hqm
              have hcell : wr.cell? ⟨w6.heap.size, (nth ax q).toNat, none⟩ = some (.int .i64 (nth (turnTo m ax il q) (nth ax q).toNat)) := by
                rw [cell_of_row wr _ _ _ _ _ hG7]
                simpa using ints_get (xs := turnTo m ax il q) (j := (nth ax q).toNat) (by rw [turnTo_length]; omega)
              have hfz : wr.frozen? ⟨w6.heap.size, (nth ax q).toNat, none⟩ = false := frozen_blk hG7
              have HTT : Hid ((ints (turnTo m ax il q)).toArray.setIfInBounds (nth ax q).toNat (.int .i64 (nth il q)) = (ints (turnTo m ax il (q + 1))).toArray) := hid (by rw [ints_set]; rfl)
              have z1 : (0 : Int) ≤ (q : Int) := by omega
              have z2 : (q : Int) < (m : Int) := by omega
              generalize nth (turnTo m ax il q) (nth ax q).toNat = old at *
              generalize nth ax q = xj at *
              generalize nth il q = yj at *
              clear hK7 hG7
              go_wp2
              first
                | go_region_law (fail)
                | go_region
              all_goals (
                go_wp2
                go_roundw
                case rel =>
                  refine ⟨q + 1, by omega, by go_num, ?_, ?_⟩
                  · repeat' (first | exact HK7.out | refine Kp.drewN ?_ _ | refine Kp.drew ?_ | refine Kp.setCell ?_ _ _ (fun h => absurd h (Nat.lt_irrefl _)))
                  · refine (heap_setCell_same _ _ _ _ _ _ HG7.out).trans ?_
                    rw [HTT.out]
                case measure => simp [intOf]; omega)
            · have z2 : ¬ (q : Int) < (m : Int) := by omega
              have HQM : Hid (q = m) := hid (by omega)
              rw [HQM.out] at HG7
              clear hK7 hG7 HKW
              obtain ⟨w7, hw7⟩ : ∃ w7, wr = w7 := ⟨_, rfl⟩
              subst hw7
              go_wp2
              obtain ⟨own, hown⟩ : ∃ own, turnTo m ax il m = own := ⟨_, rfl⟩
              have HLC : Hid (own.length = m) := hid (by rw [← hown]; exact turnTo_length _ _ _ _)
              rw [hown] at HG7 HRj
              clear hown
              have HKW := hid ((HK.out.trans HK6.out).trans HK7.out)
              obtain ⟨rj, hrj⟩ : ∃ rj : Nat, nth rk j = (rj : Int) := ⟨(nth rk j).toNat, by have := HRj.out.2.2.1; omega⟩
              have hrjb : rj < RL := by have := HRj.out.2.2.2; omega
              obtain ⟨gr, og, rfl, hcr⟩ : ∃ gr og, a2 = some ⟨gr, og, none⟩ ∧ ∀ j, j < RL → w3.cell? ⟨gr, og + j, none⟩ = some (.int .i64 (nth e.ranks j)) := by
                obtain ⟨a, c, ev, hh⟩ := rd_parts HR23.out
                obtain ⟨g, o, rfl, hc⟩ := hh (by have := HRLL.out; omega)
                simp at ev
                exact ⟨g, o, by rw [ev.1], fun j hj => hc j (by have := HRLL.out; omega)⟩
              have t0 := HKW.out.cell HQ33.out.1
              have t1 := HKW.out.cell HQ33.out.2
              have t2 := HKW.out.cell (hcr rj hrjb)
              have hl3 : pc < w3.heap.size := block_lt_of_cell HQ33.out.1
              have hl4 : g3 < w3.heap.size := block_lt_of_cell HQ33.out.2
              have hl5 : gr < w3.heap.size := block_lt_of_cell (hcr rj hrjb)
              have HRKC : Hid (∀ W, Kp0 wr W → Calls Tryz.prog 33 #[.slice (some ⟨ga, oa, none⟩) m d1, .slice (some ⟨w6.heap.size, 0, none⟩) m m] W fun e w' => ∃ v, e = .returned v ∧ (v = .int .i64 (rj : Int) ∧ Kp0 W w')) := hid (fun W kW => (krank_calls _ _ e.shape own W ((HR13.out.kp0 HKW.out).kp0 kW) ((rd_of_blk HG7.out HLC.out).kp0 kW) HSH.out HRj.out.2.1).mono (by
                rintro e' w' ⟨rfl, hk⟩
                exact ⟨_, rfl, by rw [← HRj.out.1, hrj], hk⟩))
              have HPT := hid (picked_take e.ranks rk j (by rw [HRL.out]; exact hjN))
              rw [hrj, Int.toNat_natCast] at HPT
              have HOW7 := hid (HO.out.kp (HK6.out.trans HK7.out) (fun _ _ e => e))
              have HBN : Hid (j + [nth e.ranks rj].length ≤ 1000000000000) := hid (by simp; omega)
              have HK57 := HKW
              have r0 : (0 : Int) ≤ (rj : Int) := by omega
              have r1 : (rj : Int) < (RL : Int) := by omega
              generalize nth e.ranks rj = x at *
              have HKc : Hid (Kp0 wr wr.drew) := hid (Kp0.refl wr).drew
              clear hcr hrj HG7 HRj HLC HKW HK7
              go_region_held3 (fun W => W.cell? ⟨pc, 3, none⟩ = some (.slice (some ⟨g3, 0, none⟩) EL c3) ∧ W.cell? ⟨g3, k, none⟩ = some (.slice (some ⟨gr, og, none⟩) RL d2) ∧ W.cell? ⟨gr, og + rj, none⟩ = some (.int .i64 x)) (go_keep)
                ((first
                | (refine step_call2 (by rfl) 33 (.tmp 111) (.tmp 112) _ (by rfl) _ Tryz.func33 (by kernel_rfl) (by kernel_rfl) _ _ (by rfl) (by rfl) (HRKC.out _ HKc.out) ?_; intro v8 w8 hR8; obtain ⟨rfl, hk8⟩ := hR8; have hk78 := Kp0.trans HKc.out hk8; have t0 := hk8.cell t0; have t1 := hk8.cell t1; have t2 := hk8.cell t2)
                | (refine step_app (by rfl) _ _ (by rfl) ao j cc (picked e.ranks (rk.take j)) [x] _ (by rfl) (by rfl) (by first | exact (HOW7.out.kp hk78 (fun _ _ e => e)).alloc _ | exact OwI.drew ((HOW7.out.kp hk78 (fun _ _ e => e)).alloc _)) (by first | exact RdI.one _ _ | exact RdI.drew (RdI.one _ _)) HBN.out (w8.heap.size + 1) (by simp) ?_; intro ao' cc' w9 hC9 hG9 hB9; have t0 := grown_keep' hG9 t0 (fun e => Nat.not_le_of_lt hl3 (HB.out _ e.symm)); have t1 := grown_keep' hG9 t1 (fun e => Nat.not_le_of_lt hl4 (HB.out _ e.symm)); have t2 := grown_keep' hG9 t2 (fun e => Nat.not_le_of_lt hl5 (HB.out _ e.symm)))))
              all_goals (
                have hK9 : Kp0 w3 w9 := Kp.grown (Kp.alloc (HK57.out.trans hk78) _) hG9 (fun b hb h => by have := HB.out b hb; omega)
                have hB9' : ∀ b, (Value.slice ao' (j + 1) cc').ownBlock = some b → w3.heap.size ≤ b := by
                  intro b hb
                  rcases hB9 b hb with h | h
                  · exact HB.out b h
                  · have := (HK57.out.trans hk78).size; omega
                have HC9 := hid hC9
                have HK9 := hid hK9
                have HB9 := hid hB9'
                clear hC9 hK9 hB9 hB9' hG9 hk8 hk78 t0 t1 t2
                go_wp2
                go_roundw
                case rel => exact ⟨j + 1, by omega, by go_num, ao', cc', rfl, by rw [HPT.out]; exact HC9.out, HK9.out, HB9.out⟩
                case measure => simp [intOf]; omega)
        · have hjn : j = N := by omega
          have j1 : ¬ (j : Int) < (N : Int) := by omega
          have HTK : Hid (rk.take j = rk) := hid (List.take_of_length_le (by rw [HRL.out]; omega))
          have HKW := HK
          have t0 := HKW.out.cell HQ43.out.1
          have t1 := HKW.out.cell HQ43.out.2
          have tg6 := retag_to w3 T3 (0, 16)
          have HI6 := hid (HI3.out.kp0 tg6 HKW.out)
          have HRA : Hid (RdT (retag w3 T3 (0, 16)) wr (.slice ab m cb) s') := hid ⟨HOS3.out.rd.kp0 HK.out, fun b hb => ⟨Nat.lt_of_lt_of_le (own_lt HOS3.out hb) HK.out.size, 16, ⟨Nat.le_refl _, HOS3.out.cap⟩, by
            rw [tg6 b (HOSB.out b hb).1]
            exact (HOSB.out b hb).2⟩⟩
          have HRB : Hid (RdT (retag w3 T3 (0, 16)) wr (.slice ao j cc) (picked e.ranks rk)) := hid ⟨by have := HO.out.rd; rw [HTK.out] at this; exact this, fun b hb => ⟨own_lt HO.out hb, 16, ⟨Nat.le_refl _, HO.out.cap⟩, retag_new (HB.out b hb)⟩⟩
          have HKM : Hid (KM (σ.turn e.h ax).1 (E ++ [⟨(σ.arrs.length : Int) + 1, s', picked e.ranks rk, e.ro⟩]) n V (B + 1)) := hid (by
            have := HC.out.2
            rw [HS'.out, HRK.out] at this
            exact this)
          have s3w : w3.heap.size ≤ wr.heap.size := HKW.out.size
          clear tg6 hjn
          go_wp2_with fail
          refine (put_calls HI6.out ((σ.arrs.length : Int) + 1) _ _ s' (picked e.ranks rk) e.ro HRA.out HRB.out (by have := HEL.out; omega)).mono ?_
          rintro e' w9 ⟨rfl, T9, ht9, hI9, -⟩
          have HI9 := hid hI9
          have HT9 := hid ht9
          clear ht9 hI9
          go_wp2
          go_ret
          refine ⟨rfl, T9, _, _, fun b hb => ?_, HI9.out, HKM.out, by simp, by simp⟩
          rw [HT9.out b (by omega), retag_to w3 T3 _ b (by omega), HT31.out b hb]

end Go.Proofs.YticbbncdcannlaaGreat

/- The cast: stretch, walked. -/
namespace Go.Proofs.YticbbncdcannlaaGreat
open Go.RowKit

set_option maxRecDepth 100000 in
set_option maxHeartbeats 8000000 in
theorem kstretch_calls {w0 w : World} {T : Tags} {pc ps : Nat} {σ : Sp} {E : List CE} {n : Nat} {V : List Int} {B : Nat} (h : KI w0 w T pc ps σ E) (hM : KM σ E n V B) (hlt : E.length < 40) (hB : B + 1 ≤ 100000000) (k : Nat) (e : CE) (he : E[k]? = some e) (vK vO vA vB vC vD : Int) (wA : IntKind.i64.wrap vA = vA) (wB : IntKind.i64.wrap vB = vB) (wC : IntKind.i64.wrap vC = vC) :
    Calls Tryz.prog 47 #[.pointer (some ⟨pc, 0, none⟩), .agg #[.int .i64 vK, .int .i64 vO, .int .i64 vA, .int .i64 vB, .int .i64 vC, .int .i64 vD], .int .i64 (k : Int)] w fun e w' => e = .returned (.bool true) ∧ Viewed w0 w T pc ps n V E B w' := by
  obtain ⟨q0, g1, g2, g3, g4, c1, c2, c3, c4, hq, ht, hg⟩ := h.cells
  have hkE : k < E.length := (List.getElem?_eq_some_iff.1 he).1
  obtain ⟨q1, q2, q3, q4⟩ := hq (by omega)
  have HTG := hid (ht (by omega))
  obtain ⟨u1, u4, a1, d1, a2, d2, u2, u3, r1, r2⟩ := hg k e he
  have hs : okShape e.shape := (hM.aok he).shape
  have hpc : pc < w.heap.size := block_lt_of_cell q0
  have hg1 : g1 < w.heap.size := block_lt_of_cell u1
  have hg2 : g2 < w.heap.size := block_lt_of_cell u2
  have hg3 : g3 < w.heap.size := block_lt_of_cell u3
  have hg4 : g4 < w.heap.size := block_lt_of_cell u4
  have k0 : (0 : Int) ≤ (k : Int) := by omega
  have HI := hid h
  have HM := hid hM
  have HE := hid he
  have HR1 := hid r1
  have HR2 := hid r2
  have HSH := hid hs
  have HWA := hid wA
  have HWB := hid wB
  have HWC := hid wC
  obtain ⟨EL, hEL⟩ : ∃ EL, E.length = EL := ⟨_, rfl⟩
  have HEL := hid hEL
  rw [hEL] at q1 q2 q3 q4 hkE hlt
  have k1 : (k : Int) < (EL : Int) := by omega
  clear h hM he hq hg r1 r2 hs hEL ht wA wB wC
  obtain ⟨m, hm⟩ : ∃ m, e.shape.length = m := ⟨_, rfl⟩
  rw [hm] at u2
  have HMM := hid hm
  have hm4 : m ≤ 4 := by have := HSH.out.1; omega
  have HCA : Hid (0 < m → ∃ ga oa, a1 = some ⟨ga, oa, none⟩ ∧ ∀ j, j < m → w.cell? ⟨ga, oa + j, none⟩ = some (.int .i64 (nth e.shape j))) := hid (fun hpos => by
    obtain ⟨a, c, ev, hh⟩ := rd_parts HR1.out.1
    obtain ⟨g, o, rfl, hc⟩ := hh (by omega)
    simp at ev
    exact ⟨g, o, by rw [ev.1], fun j hj => hc j (by omega)⟩)
  have hpA := pick_small (c := vA) (n := 2) (by omega)
  have hpB := pick_small (c := vB) (n := 3) (by omega)
  have hpC := pick_small (c := vC) (n := 3) (by omega)
  obtain ⟨bq, hbq⟩ : ∃ bq, 1 + pickN vB 3 = bq := ⟨_, rfl⟩
  have HBQ := hid hbq
  have hbqb : 1 ≤ bq ∧ bq ≤ 3 := by omega
  obtain ⟨cq, hcq⟩ : ∃ cq, 1 + pickN vC 3 = cq := ⟨_, rfl⟩
  have HCQ := hid hcq
  have hcqb : 1 ≤ cq ∧ cq ≤ 3 := by omega
  obtain ⟨gap, hgap⟩ : ∃ gap, (decide (m < 4) && (pickN vA 2 == 0)) = gap := ⟨_, rfl⟩
  have HGAP := hid hgap
  obtain ⟨g, hgg⟩ : ∃ g, strG gap = g := ⟨_, rfl⟩
  have HG := hid hgg
  have hg1' : g ≤ 1 := by rw [← hgg]; cases gap <;> simp [strG]
  have hgm : g + m ≤ 4 := by
    rw [← hgg]
    cases hb : gap
    · simp [strG]; exact hm4
    · rw [hb] at hgap
      simp at hgap
      simp [strG]
      omega
  obtain ⟨s', hs'⟩ : ∃ s', strS e.shape gap bq cq = s' := ⟨_, rfl⟩
  have HS' := hid hs'
  have HSL' : Hid (s'.length = g + m) := hid (by rw [← hs', strS_length, hgg, hm])
  have HSZ' : Hid (sized s') := hid (by rw [← hs']; exact strS_sized HSH.out hbqb hcqb)
  have HST : Hid (∀ i, i < m → s'.take (g + (i + 1)) = s'.take (g + i) ++ [strN (nth e.shape i) cq]) := hid (fun i hi => by
    rw [← hs', ← hgg]
    exact strS_take e.shape gap bq cq i (by rw [hm]; exact hi))
  have HSP : Hid (s'.take (g + 0) = strPre gap bq) := hid (by rw [← hs', ← hgg]; exact strS_pre e.shape gap bq cq)
  have HFT : Hid (stretchB e.shape s' = true) := hid (by rw [← hs']; exact strS_fits HSH.out)
  have HPL : Hid ((strPre gap bq).length = g) := hid (by rw [strPre_length, hgg])
  have HVB : Hid (1 ≤ vol s' ∧ vol s' ≤ 12960000) := hid (by
    have := vol_bd s' HSZ'.out (by rw [HSL'.out]; exact hgm) s'.length (Nat.le_refl _)
    rwa [List.take_length] at this)
  have HMK : Hid (∀ W, _) := hid (fun W => run_mk (P := Tryz.prog) 26 3 (.int .i64 0) 8 Tryz.underlying26 Tryz.infoInt rfl (by omega) m (by omega) W)
  obtain ⟨W1, hW1⟩ : ∃ W1, w.alloc (.cells #[.int .i64 vK, .int .i64 vO, .int .i64 vA, .int .i64 vB, .int .i64 vC, .int .i64 vD] 93) = W1 := ⟨_, rfl⟩
  have HW1 := hid hW1
  have HKW1 : Hid (Kp0 w W1) := hid (by rw [← hW1]; exact Kp.alloc (Kp.refl _ _) _)
  have y2 : W1.cell? ⟨w.heap.size, 2, none⟩ = some (.int .i64 vA) := by rw [← hW1]; simp
  have y3 : W1.cell? ⟨w.heap.size, 3, none⟩ = some (.int .i64 vB) := by rw [← hW1]; simp
  have HY4 : Hid (W1.cell? ⟨w.heap.size, 4, none⟩ = some (.int .i64 vC)) := hid (by rw [← hW1]; simp)
  have hsW : w.heap.size < W1.heap.size := by rw [← hW1]; simp
  clear hW1 hm hs' hbq hcq hgap hgg
  go_enter Tryz.func47, Tryz.ntmps47
  go_upto_region 4 with (fail)
  rw [HW1.out]
  go_cut [34] from 26 (fun s34 W => s34 = .bool gap ∧ W = W1)
  case first =>
    by_cases hm' : m < 4
    · have d1 : (m : Int) < 4 := by omega
      have d2 : decide ((m : Int) < 4) = true := by simp; omega
      go_wp2_with fail
      refine (pick_calls vA 2 W1 HWA.out (by omega)).mono ?_
      rintro e' w' ⟨rfl, hw⟩
      obtain rfl := hw.symm
      have HE : Hid ((pickN vA 2 == 0) = gap) := hid (by rw [← HGAP.out]; simp [hm'])
      go_wp2_with fail
      go_meet
      case rel => exact ⟨by first | rw [HE.out] | simp [← HE.out], rfl⟩
    · have d1 : ¬ (m : Int) < 4 := by omega
      have d2 : decide ((m : Int) < 4) = false := by simp; omega
      have HE : Hid (gap = false) := hid (by rw [← HGAP.out]; simp [hm'])
      go_wp2_with fail
      go_meet
      case rel => exact ⟨by rw [HE.out], rfl⟩
  case rest =>
    obtain ⟨rfl, hwc⟩ := hcut
    obtain rfl := hwc.symm
    go_upto_if 34 with (fail)
    go_cut [8, 9] from 35 (fun s8 s9 W => ∃ a c, s8 = .slice a g c ∧ s9 = .int .i64 (g : Int) ∧ OwI W (.slice a g c) (strPre gap bq) ∧ Kp0 W1 W ∧ ∀ b, (Value.slice a g c).ownBlock = some b → W1.heap.size ≤ b)
    case first =>
      cases gap
      · have HG0 : Hid (g = 0) := hid (by rw [← HG.out]; rfl)
        go_wp2_with fail
        go_meet
        case rel =>
          rw [HG0.out]
          exact ⟨none, 0, rfl, rfl, OwI.nil _, Kp0.refl _, fun b hb => by simp [Value.ownBlock] at hb⟩
      · have HG0 : Hid (g = 1) := hid (by rw [← HG.out]; rfl)
        go_wp2_with fail
        refine (pick_calls vB 3 W1 HWB.out (by omega)).mono ?_
        rintro e' w' ⟨rfl, hw⟩
        obtain rfl := hw.symm
        have hwb : IntKind.i64.wrap (1 + pickN vB 3) = bq := by rw [HBQ.out]; exact bd_wf (by omega)
        have HBN : Hid (0 + [bq].length ≤ 1000000000000) := hid (by simp)
        go_wp2_with (at_builtin; refine wpList_app (by rfl) _ _ (by rfl) none 0 0 [] [bq] _ (by rfl) (by rfl) (OwI.nil _) (RdI.one _ _) HBN.out (W1.heap.size + 1) (by simp) ?_)
        intro a' c' w7 hC7 hG7 hB7
        have HK7 : Hid (Kp0 W1 w7) := hid (Kp.grown (Kp.alloc (Kp0.refl _) _) hG7 (by simp [Value.ownBlock]))
        have HC7 := hid hC7
        have HB7 := hid hB7
        clear hC7 hG7 hB7
        go_wp2_with fail
        go_meet
        case rel =>
          rw [HG0.out]
          refine ⟨a', c', rfl, rfl, HC7.out, HK7.out, fun b hb => ?_⟩
          have := (HB7.out b hb).resolve_left (by simp [Value.ownBlock])
          omega
    case rest =>
      obtain ⟨a8, c8, rfl, rfl, hO8, hK8, hB8⟩ := hcut
      have HO8 := hid hO8
      have HK8 := hid hK8
      have HB8 := hid hB8
      clear hO8 hK8 hB8 y2 y3
      go_wp2
      go_loopw [8, 10] (fun l t w' => ∃ i : Nat, i ≤ m ∧ t = .int .i64 i ∧ ∃ aa ca, l = .slice aa (g + i) ca ∧ OwI w' (.slice aa (g + i) ca) (s'.take (g + i)) ∧ Kp0 W1 w' ∧ (∀ b, (Value.slice aa (g + i) ca).ownBlock = some b → W1.heap.size ≤ b)) (fun _ t _ => m - (intOf t).toNat)
      case atStart => exact ⟨0, Nat.zero_le _, rfl, a8, c8, rfl, by rw [HSP.out]; exact HO8.out, HK8.out, HB8.out⟩
      case round =>
        obtain ⟨i, hi, rfl, aa, ca, rfl, hOa, hK, hBa⟩ := hrel
        have HOa := hid hOa
        have HK := hid hK
        have HBa := hid hBa
        clear hOa hK hBa
        by_cases him : i < m
        · have i0 : (0 : Int) ≤ (i : Int) := by omega
          have i1 : (i : Int) < (m : Int) := by omega
          obtain ⟨ga, oa, rfl, hca⟩ := HCA.out (by omega)
          have xs := (HKW1.out.trans HK.out).cell (hca i him)
          have y4 := HK.out.cell HY4.out
          obtain ⟨nv, hnv⟩ : ∃ nv, strN (nth e.shape i) cq = nv := ⟨_, rfl⟩
          have HTS := hid (HST.out i him)
          rw [hnv] at HTS
          have hnb : 1 ≤ nv ∧ nv ≤ 60 := by rw [← hnv]; exact strN_bd (HSH.out.2.1 i (by rw [HMM.out]; exact him)) hcqb
          have HE1 : Hid (nth e.shape i = 1 → cq = nv) := hid (fun h => by rw [← hnv]; simp [strN, h])
          have HE2 : Hid (¬ nth e.shape i = 1 → nth e.shape i = nv) := hid (fun h => by rw [← hnv]; simp [strN, h])
          generalize nth e.shape i = xi at *
          clear hnv hca
          go_upto_if 53 with (fail)
          go_cut [11] from 53 to 57 (fun s11 W => s11 = .int .i64 nv ∧ W = wr)
          case first =>
            by_cases ho : xi = 1
            · have hb2 : (xi == 1) = true := by simp [ho]
              have HE := hid (HE1.out ho)
              clear ho
              go_wp2_with fail
              refine (pick_calls vC 3 wr HWC.out (by omega)).mono ?_
              rintro e' w' ⟨rfl, hw⟩
              obtain rfl := hw.symm
              have hwb : IntKind.i64.wrap (1 + pickN vC 3) = cq := by rw [HCQ.out]; exact bd_wf (by omega)
              go_wp2_with fail
              go_meet
              case rel => exact ⟨by rw [HE.out], rfl⟩
            · have hb2 : (xi == 1) = false := by simp [ho]
              have HE := hid (HE2.out ho)
              clear ho
              go_wp2_with fail
              go_meet
              case rel => exact ⟨by rw [HE.out], rfl⟩
          case rest =>
            obtain ⟨rfl, hwc⟩ := hcut
            obtain rfl := hwc.symm
            have HBN1 : Hid (g + i + [nv].length ≤ 1000000000000) := hid (by simp; omega)
            clear HE1 HE2
            go_wp2_with (at_builtin; refine wpList_app (by rfl) _ _ (by rfl) aa (g + i) ca (s'.take (g + i)) [nv] _ (by rfl) (by rfl) (HOa.out.alloc _) (RdI.one _ _) HBN1.out (wr.heap.size + 1) (by simp) ?_)
            intro aa' ca' w6 hC6 hG6 hB6
            have hK6 : Kp0 W1 w6 := Kp.grown (Kp.alloc HK.out _) hG6 (fun b hb h => by have := HBa.out b hb; omega)
            have hB6' : ∀ b, (Value.slice aa' (g + (i + 1)) ca').ownBlock = some b → W1.heap.size ≤ b := by
              intro b hb
              rcases hB6 b hb with h | h
              · exact HBa.out b h
              · have := HK.out.size; omega
            have HC6 : Hid (OwI w6 (.slice aa' (g + (i + 1)) ca') (s'.take (g + (i + 1)))) := hid (by rw [HTS.out]; exact hC6)
            have HK6 := hid hK6
            have HB6 := hid hB6'
            clear hC6 hK6 hB6 hB6' hG6 xs y4
            go_wp2
            go_roundw
            case rel => exact ⟨i + 1, by omega, by go_num, aa', ca', rfl, HC6.out, HK6.out, HB6.out⟩
            case measure => simp [intOf]; omega
        · have hin : i = m := by omega
          have i1 : ¬ (i : Int) < (m : Int) := by omega
          rw [hin] at HOa HBa
          have HOS : Hid (OwI wr (.slice aa (g + m) ca) s') := hid (by have := HOa.out; rw [List.take_of_length_le (by rw [HSL'.out]; omega)] at this; exact this)
          rw [hin]
          have i2 : ¬ (m : Int) < (m : Int) := by omega
          clear hin HOa i1 him hi
          go_wp2_with fail
          refine (kvolume_calls _ s' _ HOS.out.rd HSZ'.out (by rw [HSL'.out]; exact hgm)).mono ?_
          rintro e' w' ⟨rfl, hw⟩
          obtain rfl := hw.symm
          have HVB' := HVB.out
          by_cases h400 : 400 < vol s'
          · have HKW2 := hid (HKW1.out.trans HK.out)
            generalize vol s' = vv at *
            go_wp2
            go_ret
            exact ⟨rfl, T, σ, E, fun _ _ => rfl, HI.out.kp0 (fun _ _ => rfl) HKW2.out, HM.out.more (by omega), Nat.le_refl _, by omega⟩
          have HSH' : Hid (okShape s') := hid ⟨by rw [HSL'.out]; exact hgm, HSZ'.out, by omega⟩
          have HC := hid (HM.out.stretch HE.out (by have := HEL.out; omega) s' HSH'.out (by omega) HFT.out (by have := HM.out.many; omega))
          obtain ⟨N, hN⟩ : ∃ N : Nat, vol s' = (N : Int) := ⟨(vol s').toNat, by omega⟩
          have HVOL := hid hN
          rw [hN] at HVB' h400 ⊢
          have hN36 : N ≤ 400 := by omega
          obtain ⟨rk, hrk⟩ : ∃ rk, meant e.shape s' = rk := ⟨_, rfl⟩
          have HRL : Hid (rk.length = N) := hid (by rw [← hrk, meant_length, hN]; rfl)
          have HGD : Hid (s'.length - e.shape.length = g) := hid (by rw [HSL'.out, HMM.out]; omega)
          have HRN : Hid (∀ j, j < N → nth rk j = rank e.shape (meantOf e.shape s' (idx s' j)) ∧ inB e.shape (meantOf e.shape s' (idx s' j)) ∧ 0 ≤ nth rk j ∧ nth rk j < e.ranks.length) := hid (fun j hj => by
            obtain ⟨f1, f2⟩ := (stretchB_iff _ _).1 HFT.out
            have h1 := meantOf_in e.shape s' (idx s' j) HSH.out.2.1 f1 f2 (idx_in s' j HSZ'.out)
            have h2 := meant_bd e.shape s' HSH.out HSH'.out HFT.out j (by rw [hN]; omega)
            rw [hrk, ← HM.out.rlen HE.out] at h2
            refine ⟨?_, h1, h2⟩
            rw [← hrk, nth_lt (by rw [meant_length, hN]; omega)]
            simp [meant])
          have HRK := hid hrk
          clear hN hrk
          obtain ⟨T1, hT1⟩ : ∃ T1, retag w T (0, 16) = T1 := ⟨_, rfl⟩
          have HT1 : Hid (TagsTo w T T1) := hid (by rw [← hT1]; exact retag_to w T _)
          have HNW : Hid (∀ b, w.heap.size ≤ b → T1 b = (0, 16)) := hid (fun b hb => by rw [← hT1]; exact retag_new hb)
          clear hT1
          have HKW2 := hid (HKW1.out.trans HK.out)
          have HI2 := hid (HI.out.kp0 HT1.out HKW2.out)
          have HXC : Hid (∀ W, Kp0 wr W → Calls Tryz.prog 83 #[.pointer (some ⟨ps, 0, none⟩), .int .i64 e.h, .slice aa (g + m) ca] W fun e' w3 => e' = .returned (.tuple #[.int .i64 ((σ.arrs.length : Int) + 1), .int .i64 0]) ∧ ∃ T3, TagsTo wr T1 T3 ∧ KI w0 w3 T3 pc ps (σ.stretch e.h s').1 E ∧ Kp (fun b => (T1 b).1 = 1) wr w3) := hid (fun W kW => by
            have hIW := HI2.out.kp0 (fun _ _ => rfl) kW
            refine (xc_stretch e.h _ s' (HOS.out.rd.kp0 kW) hIW.rep (by have := HM.out.many; omega)).mono ?_
            rintro e' w3 ⟨rfl, hst⟩
            obtain ⟨T3, ht3, hI3, hk3⟩ := hIW.step hst
            rw [HC.out.1]
            exact ⟨rfl, T3, fun b hb => ht3 b (Nat.lt_of_lt_of_le hb kW.size), hI3, (Kp.of0 kW).trans hk3 (fun _ _ e => e)⟩)
          have no1 : Hid (∀ b, b < w.heap.size → (T b).1 = 0 → ¬ (T1 b).1 = 1) := hid (fun b hb h0 e => by rw [HT1.out b hb, h0] at e; cases e)
          have s0 := HKW2.out.cell q0
          have s1 := HKW2.out.cell q1
          have v1 := HKW2.out.cell u1
          have HQ3 := hid (And.intro (HKW2.out.cell q3) (HKW2.out.cell u3))
          have HQ4 := hid (And.intro (HKW2.out.cell q4) (HKW2.out.cell u4))
          clear q0 q1 q2 q3 q4 u1 u2 u3 u4
          go_wp2
          go_region_held3 (fun W => W.cell? ⟨pc, 0, none⟩ = some (.pointer (some ⟨ps, 0, none⟩)) ∧ W.cell? ⟨pc, 1, none⟩ = some (.slice (some ⟨g1, 0, none⟩) EL c1) ∧ W.cell? ⟨g1, k, none⟩ = some (.int .i64 e.h)) (first | go_keep | (go_split_ands; exact ⟨hk3.cell s0 (no1.out _ hpc HTG.out.1), hk3.cell s1 (no1.out _ hpc HTG.out.1), hk3.cell v1 (no1.out _ hg1 HTG.out.2.1)⟩))
            ((go_at_call 83; refine (HXC.out _ ?_).mono ?_; (first | exact Kp0.refl _ | exact Kp0.drew (Kp0.refl _)); rintro e' w3 ⟨rfl, T3, ht3, hI3, hk3⟩))
          have HI3 := hid hI3
          have HT3 := hid ht3
          have HK3 := hid hk3
          have HR13 := hid (HR1.out.1.kp (Kp.trans (Kp.of0 HKW2.out) hk3 (fun _ _ e => e)) (fun b hb e => by
            obtain ⟨x1, x2, _, x3⟩ := HR1.out.2 b hb
            rw [HT1.out b x1, x3] at e
            simp at e))
          have HR23 := hid (HR2.out.1.kp (Kp.trans (Kp.of0 HKW2.out) hk3 (fun _ _ e => e)) (fun b hb e => by
            obtain ⟨x1, x2, _, x3⟩ := HR2.out.2 b hb
            rw [HT1.out b x1, x3] at e
            simp at e))
          rw [HMM.out] at HR13
          have HNX : Hid (∀ b, W1.heap.size ≤ b → ¬ (T1 b).1 = 1) := hid (fun b hb e => by rw [HNW.out b (by have := HKW1.out.size; omega)] at e; simp at e)
          have HOS3 := hid (HOS.out.kp hk3 (fun b hb => HNX.out b (HBa.out b hb)))
          have HOSB : Hid (∀ b, (Value.slice aa (g + m) ca).ownBlock = some b → b < w3.heap.size ∧ T3 b = (0, 16)) := hid (fun b hb => by
            have h1 := own_lt HOS.out hb
            refine ⟨Nat.lt_of_lt_of_le h1 hk3.size, ?_⟩
            rw [ht3 b h1]
            exact HNW.out b (by have := HBa.out b hb; have := HKW1.out.size; omega))
          have hsz3 : w.heap.size ≤ w3.heap.size := Nat.le_trans HKW2.out.size hk3.size
          have hszr : w.heap.size ≤ wr.heap.size := HKW2.out.size
          have HSR := hid hk3.size
          have HQ33 := hid (And.intro (hk3.cell HQ3.out.1 (no1.out _ hpc HTG.out.1)) (hk3.cell HQ3.out.2 (no1.out _ hg3 HTG.out.2.2.2.1)))
          have HQ43 := hid (And.intro (hk3.cell HQ4.out.1 (no1.out _ hpc HTG.out.1)) (hk3.cell HQ4.out.2 (no1.out _ hg4 HTG.out.2.2.2.2)))
          have HT31 : Hid (∀ b, b < w.heap.size → T3 b = T b) := hid (fun b hb => by rw [ht3 b (by omega), HT1.out b hb])
          clear ht3 hI3 hk3 HXC s0 s1 v1 HQ3 HQ4 HOS HT3 HK3
          clear HBa HK HKW2 HI2
          obtain ⟨RL, hRL⟩ : ∃ RL, e.ranks.length = RL := ⟨_, rfl⟩
          have HRLL := hid hRL
          rw [hRL] at HQ33 HR23 HRN
          have hRLb : RL ≤ 400 := by have := HM.out.rlen HE.out; have := (HM.out.ent _ _ HE.out).2.2.1; omega
          clear hRL
          have HCA3 : Hid (0 < m → ∃ ga oa, a1 = some ⟨ga, oa, none⟩ ∧ ∀ j, j < m → w3.cell? ⟨ga, oa + j, none⟩ = some (.int .i64 (nth e.shape j))) := hid (fun hpos => by
            obtain ⟨a, c, ev, hh⟩ := rd_parts HR13.out
            obtain ⟨g', o, rfl, hc⟩ := hh (by rw [HMM.out]; exact hpos)
            simp at ev
            exact ⟨g', o, by rw [ev.1], fun j hj => hc j (by rw [HMM.out]; exact hj)⟩)
          go_wp2
          go_loopw [14, 15] (fun l t w' => ∃ j : Nat, j ≤ N ∧ t = .int .i64 j ∧ ∃ ao c, l = .slice ao j c ∧ OwI w' (.slice ao j c) (picked e.ranks (rk.take j)) ∧ Kp0 w3 w' ∧ (∀ b, (Value.slice ao j c).ownBlock = some b → w3.heap.size ≤ b)) (fun _ t _ => N - (intOf t).toNat)
          case atStart => exact ⟨0, Nat.zero_le _, rfl, none, 0, rfl, OwI.nil _, by first | exact Kp0.refl _ | exact Kp.drewN (Kp0.refl _) _, fun b hb => by simp [Value.ownBlock] at hb⟩
          case round =>
            obtain ⟨j, hj, rfl, ao, cc, rfl, hO, hK, hB⟩ := hrel
            have HO := hid hO
            have HK := hid hK
            have HB := hid hB
            clear hO hK hB
            go_wp2_with fail
            refine (kvolume_calls _ s' _ (HOS3.out.rd.kp0 HK.out) HSH'.out.2.1 HSH'.out.1).mono ?_
            rintro e' w' ⟨rfl, hw⟩
            obtain rfl := hw.symm
            rw [HVOL.out]
            by_cases hjN : j < N
            · have j1 : (j : Int) < (N : Int) := by omega
              go_wp2_with fail
              refine (kindex_calls _ s' j wr (HOS3.out.rd.kp0 HK.out) HSH'.out.2.1 HSH'.out.1 (by omega) (by omega)).mono ?_
              rintro e' w6 ⟨rfl, hk6, hg6⟩
              rw [HSL'.out]
              obtain ⟨il, hil⟩ : ∃ il, idx s' j = il := ⟨_, rfl⟩
              have hin := idx_in s' j HSH'.out.2.1
              rw [hil] at hin hg6
              have HLL : Hid (il.length = g + m) := hid (by rw [← hin.1]; exact HSL'.out)
              have HRj := hid (HRN.out j hjN)
              rw [hil] at HRj
              have HK6 := hid hk6
              have HG6 := hid hg6
              have hs6 : wr.heap.size < w6.heap.size := lt_of_heap hg6
              have hs3 : w3.heap.size ≤ wr.heap.size := HK.out.size
              clear hk6 hg6 hin hil
              have hmk := HMK.out
              go_wp2
              clear hmk
              generalize wr.heap.size = ib at *
              obtain ⟨im, him⟩ : ∃ im, meantOf e.shape s' il = im := ⟨_, rfl⟩
              have HIM := hid him
              have HIL : Hid (im.length = m) := hid (by rw [← him, meantOf_length]; exact HMM.out)
              clear him
              go_loopw [18] (fun t' w' => ∃ q : Nat, q ≤ m ∧ t' = .int .i64 q ∧ Kp0 w6 w' ∧ w'.heap[w6.heap.size]? = some (.cells (ints (headTo im q)).toArray 3 (0, 0))) (fun t _ => m - (intOf t).toNat)
              case atStart => exact ⟨0, Nat.zero_le _, rfl, (Kp.refl _ _).alloc _, by rw [heap_alloc_new, headTo_zero _ m HIL.out]⟩
              case round =>
                obtain ⟨q, hq, rfl, hK7, hG7⟩ := hrel
                have HK7 := hid hK7
                have HG7 := hid hG7
                have HKW := hid ((HK.out.trans HK6.out).trans hK7)
                by_cases hqm : q < m
                · obtain ⟨ga, oa, rfl, hca⟩ := HCA3.out (by omega)
                  have c2 := HKW.out.cell (hca q hqm)
                  have c3 : wr.cell? ⟨ib, g + q, none⟩ = some (.int .i64 (nth il (g + q))) := by
                    rw [cell_of_row _ _ _ _ _ _ (hK7.heap HG6.out)]
                    simpa using ints_get (xs := il) (j := g + q) (by rw [HLL.out]; omega)
                  have hcell : wr.cell? ⟨w6.heap.size, q, none⟩ = some (.int .i64 0) := by
                    rw [cell_of_row wr _ _ _ _ _ hG7]
                    simp [ints, headTo, HIL.out, hqm]
                  have hfz : wr.frozen? ⟨w6.heap.size, q, none⟩ = false := frozen_blk hG7
                  have z0 : (0 : Int) ≤ (q : Int) := by omega
                  have z2 : (q : Int) < (m : Int) := by omega
                  have z3 : (0 : Int) ≤ (g : Int) + (q : Int) := by omega
                  have z4 : (g : Int) + (q : Int) < (g : Int) + (m : Int) := by omega
                  have z5 : ((g : Int) + (q : Int)).toNat = g + q := by omega
                  have z6 : IntKind.i64.wrap ((g : Int) + (q : Int)) = (g : Int) + (q : Int) := bd_wf (by omega)
                  clear hK7 hG7 hca
                  by_cases hb1 : 1 < nth e.shape q
                  · have HV : Hid (nth im q = nth il (g + q)) := hid (by rw [← HIM.out, meantOf_big e.shape s' il q (by rw [HMM.out]; exact hqm) hb1, HGD.out])
                    have d3 : decide (1 < nth e.shape q) = true := by simp [hb1]
                    generalize nth il (g + q) = x at *
                    go_wp2
                    go_roundw
                    case rel =>
                      refine ⟨q + 1, by omega, by go_num, Kp.setCell HK7.out _ _ (fun h => by simp at h), ?_⟩
                      rw [heap_setCell_same _ _ _ _ _ _ HG7.out]
                      have := headTo_set im q (by rw [HIL.out]; exact hqm)
                      rw [HV.out] at this
                      rw [this]
                    case measure => simp [intOf]; omega
                  · have HV : Hid (nth im q = 0) := hid (by rw [← HIM.out]; exact meantOf_small e.shape s' il q (by rw [HMM.out]; exact hqm) hb1)
                    have d3 : decide (1 < nth e.shape q) = false := by simp; omega
                    go_wp2
                    go_roundw
                    case rel =>
                      refine ⟨q + 1, by omega, by go_num, HK7.out, ?_⟩
                      rw [← headTo_same im q HV.out]
                      exact HG7.out
                    case measure => simp [intOf]; omega
                · have z2 : ¬ (q : Int) < (m : Int) := by omega
                  have HQM : Hid (q = m) := hid (by omega)
                  rw [HQM.out, headTo_all _ m HIL.out] at HG7
                  clear hK7 hG7 HKW
                  obtain ⟨w7, hw7⟩ : ∃ w7, wr = w7 := ⟨_, rfl⟩
                  subst hw7
                  go_wp2
                  have HLC := HIL
                  rw [HIM.out] at HRj
                  have HKW := hid ((HK.out.trans HK6.out).trans HK7.out)
                  obtain ⟨rj, hrj⟩ : ∃ rj : Nat, nth rk j = (rj : Int) := ⟨(nth rk j).toNat, by have := HRj.out.2.2.1; omega⟩
                  have hrjb : rj < RL := by have := HRj.out.2.2.2; omega
                  obtain ⟨gr, og, rfl, hcr⟩ : ∃ gr og, a2 = some ⟨gr, og, none⟩ ∧ ∀ j, j < RL → w3.cell? ⟨gr, og + j, none⟩ = some (.int .i64 (nth e.ranks j)) := by
                    obtain ⟨a, c, ev, hh⟩ := rd_parts HR23.out
                    obtain ⟨g, o, rfl, hc⟩ := hh (by have := HRLL.out; omega)
                    simp at ev
                    exact ⟨g, o, by rw [ev.1], fun j hj => hc j (by have := HRLL.out; omega)⟩
                  have t0 := HKW.out.cell HQ33.out.1
                  have t1 := HKW.out.cell HQ33.out.2
                  have t2 := HKW.out.cell (hcr rj hrjb)
                  have hl3 : pc < w3.heap.size := block_lt_of_cell HQ33.out.1
                  have hl4 : g3 < w3.heap.size := block_lt_of_cell HQ33.out.2
                  have hl5 : gr < w3.heap.size := block_lt_of_cell (hcr rj hrjb)
                  have HRKC : Hid (∀ W, Kp0 wr W → Calls Tryz.prog 33 #[.slice a1 m d1, .slice (some ⟨w6.heap.size, 0, none⟩) m m] W fun e w' => ∃ v, e = .returned v ∧ (v = .int .i64 (rj : Int) ∧ Kp0 W w')) := hid (fun W kW => (krank_calls _ _ e.shape im W ((HR13.out.kp0 HKW.out).kp0 kW) ((rd_of_blk HG7.out HLC.out).kp0 kW) HSH.out HRj.out.2.1).mono (by
                    rintro e' w' ⟨rfl, hk⟩
                    exact ⟨_, rfl, by rw [← HRj.out.1, hrj], hk⟩))
                  have HPT := hid (picked_take e.ranks rk j (by rw [HRL.out]; exact hjN))
                  rw [hrj, Int.toNat_natCast] at HPT
                  have HOW7 := hid (HO.out.kp (HK6.out.trans HK7.out) (fun _ _ e => e))
                  have HBN : Hid (j + [nth e.ranks rj].length ≤ 1000000000000) := hid (by simp; omega)
                  have HK57 := HKW
                  have r0 : (0 : Int) ≤ (rj : Int) := by omega
                  have r1 : (rj : Int) < (RL : Int) := by omega
                  generalize nth e.ranks rj = x at *
                  have HKc : Hid (Kp0 wr wr.drew) := hid (Kp0.refl wr).drew
                  clear hcr hrj HG7 HRj HLC HKW HK7
                  go_region_held3 (fun W => W.cell? ⟨pc, 3, none⟩ = some (.slice (some ⟨g3, 0, none⟩) EL c3) ∧ W.cell? ⟨g3, k, none⟩ = some (.slice (some ⟨gr, og, none⟩) RL d2) ∧ W.cell? ⟨gr, og + rj, none⟩ = some (.int .i64 x)) (go_keep)
                    ((first
                    | (refine step_call2 (by rfl) 33 (.tmp 121) (.tmp 122) _ (by rfl) _ Tryz.func33 (by kernel_rfl) (by kernel_rfl) _ _ (by rfl) (by rfl) (HRKC.out _ HKc.out) ?_; intro v8 w8 hR8; obtain ⟨rfl, hk8⟩ := hR8; have hk78 := Kp0.trans HKc.out hk8; have t0 := hk8.cell t0; have t1 := hk8.cell t1; have t2 := hk8.cell t2)
                    | (refine step_app (by rfl) _ _ (by rfl) ao j cc (picked e.ranks (rk.take j)) [x] _ (by rfl) (by rfl) (by first | exact (HOW7.out.kp hk78 (fun _ _ e => e)).alloc _ | exact OwI.drew ((HOW7.out.kp hk78 (fun _ _ e => e)).alloc _)) (by first | exact RdI.one _ _ | exact RdI.drew (RdI.one _ _)) HBN.out (w8.heap.size + 1) (by simp) ?_; intro ao' cc' w9 hC9 hG9 hB9; have t0 := grown_keep' hG9 t0 (fun e => Nat.not_le_of_lt hl3 (HB.out _ e.symm)); have t1 := grown_keep' hG9 t1 (fun e => Nat.not_le_of_lt hl4 (HB.out _ e.symm)); have t2 := grown_keep' hG9 t2 (fun e => Nat.not_le_of_lt hl5 (HB.out _ e.symm)))))
                  all_goals (
                    have hK9 : Kp0 w3 w9 := Kp.grown (Kp.alloc (HK57.out.trans hk78) _) hG9 (fun b hb h => by have := HB.out b hb; omega)
                    have hB9' : ∀ b, (Value.slice ao' (j + 1) cc').ownBlock = some b → w3.heap.size ≤ b := by
                      intro b hb
                      rcases hB9 b hb with h | h
                      · exact HB.out b h
                      · have := (HK57.out.trans hk78).size; omega
                    have HC9 := hid hC9
                    have HK9 := hid hK9
                    have HB9 := hid hB9'
                    clear hC9 hK9 hB9 hB9' hG9 hk8 hk78 t0 t1 t2
                    go_wp2
                    go_roundw
                    case rel => exact ⟨j + 1, by omega, by go_num, ao', cc', rfl, by rw [HPT.out]; exact HC9.out, HK9.out, HB9.out⟩
                    case measure => simp [intOf]; omega)
            · have hjn : j = N := by omega
              have j1 : ¬ (j : Int) < (N : Int) := by omega
              have HTK : Hid (rk.take j = rk) := hid (List.take_of_length_le (by rw [HRL.out]; omega))
              have HKW := HK
              have tg6 := retag_to w3 T3 (0, 16)
              have HI6 := hid (HI3.out.kp0 tg6 HKW.out)
              have HRA : Hid (RdT (retag w3 T3 (0, 16)) wr (.slice aa (g + m) ca) s') := hid ⟨HOS3.out.rd.kp0 HK.out, fun b hb => ⟨Nat.lt_of_lt_of_le (own_lt HOS3.out hb) HK.out.size, 16, ⟨Nat.le_refl _, HOS3.out.cap⟩, by
                rw [tg6 b (HOSB.out b hb).1]
                exact (HOSB.out b hb).2⟩⟩
              have HRB : Hid (RdT (retag w3 T3 (0, 16)) wr (.slice ao j cc) (picked e.ranks rk)) := hid ⟨by have := HO.out.rd; rw [HTK.out] at this; exact this, fun b hb => ⟨own_lt HO.out hb, 16, ⟨Nat.le_refl _, HO.out.cap⟩, retag_new (HB.out b hb)⟩⟩
              have HKM : Hid (KM (σ.stretch e.h s').1 (E ++ [⟨(σ.arrs.length : Int) + 1, s', picked e.ranks rk, true⟩]) n V (B + 1)) := hid (by
                have := HC.out.2
                rw [HRK.out] at this
                exact this)
              have s3w : w3.heap.size ≤ wr.heap.size := HKW.out.size
              clear tg6 hjn
              go_wp2_with fail
              refine (put_calls HI6.out ((σ.arrs.length : Int) + 1) _ _ s' (picked e.ranks rk) true HRA.out HRB.out (by have := HEL.out; omega)).mono ?_
              rintro e' w9 ⟨rfl, T9, ht9, hI9, -⟩
              have HI9 := hid hI9
              have HT9 := hid ht9
              clear ht9 hI9
              go_wp2
              go_ret
              refine ⟨rfl, T9, _, _, fun b hb => ?_, HI9.out, HKM.out, by simp, by simp⟩
              rw [HT9.out b (by omega), retag_to w3 T3 _ b (by omega), HT31.out b hb]

end Go.Proofs.YticbbncdcannlaaGreat
