/- The cast: writes, walked: Assign. -/
import Derived.Test.YticbbncdcannlaaGreatG52

namespace Go.Proofs.YticbbncdcannlaaGreat
open Go.RowKit

set_option maxRecDepth 100000 in
set_option maxHeartbeats 8000000 in
theorem writesAssign_calls {w0 w : World} {T : Tags} {pc ps : Nat} {σ : Sp} {E : List CE} {n : Nat} {V : List Int} {B : Nat} (h : KI w0 w T pc ps σ E) (hM : KM σ E n V B) (h1 : 1 ≤ E.length) (h30 : E.length ≤ 1000) (av : Option Addr) (cv : Nat) (hv : RdV T w (.slice av n cv) V) (vK vT vA vB vO vV : Int) (wK : IntKind.i64.wrap vK = vK) (wT : IntKind.i64.wrap vT = vT) (wA : IntKind.i64.wrap vA = vA) (wB : IntKind.i64.wrap vB = vB) (wO : IntKind.i64.wrap vO = vO) (wV : IntKind.i64.wrap vV = vV) (hK : pickN vK 4 = 2) :
    Calls Tryz.prog 29 #[.pointer (some ⟨pc, 0, none⟩), .agg #[.int .i64 vK, .int .i64 vT, .int .i64 vA, .int .i64 vB, .int .i64 vO, .int .i64 vV], .slice av n cv] w fun e w' => ∃ ao cc, e = .returned (.tuple #[.slice ao n cc, .bool true]) ∧ Wrote w0 w T pc ps n E B (.slice ao n cc) w' := by
  have HM := hid hM
  obtain ⟨g1, g2, g3, g4, c1, c2, c3, c4, P, hcg⟩ := h.cg h1
  obtain ⟨EL, hEL⟩ : ∃ EL, E.length = EL := ⟨_, rfl⟩
  rw [hEL] at hcg h1 h30
  have HEL := hid hEL
  have HWF := hid (And.intro wK (And.intro wT (And.intro wA (And.intro wB (And.intro wO wV)))))
  obtain ⟨gv, ov, rfl, hcv⟩ : ∃ gv ov, av = some ⟨gv, ov, none⟩ ∧ ∀ j, j < n → w.cell? ⟨gv, ov + j, none⟩ = some (.int .i64 (nth V j)) := by
    have hn1 := hM.n1
    have hl := hM.len
    obtain ⟨a, c, ev, hh⟩ := rd_parts hv.1
    obtain ⟨g, o, rfl, hc⟩ := hh (by omega)
    simp at ev
    exact ⟨g, o, by rw [ev.1], fun j hj => hc j (by omega)⟩
  have HCV := hid hcv
  have HTV : Hid (gv < w.heap.size ∧ (T gv).1 ≠ 1) := hid (hv.2 gv rfl)
  have HRV := hid hv.1
  have hn125 := hM.n2
  have hn1 := hM.n1
  have HLEN := hid hM.len
  have HCG0 := hid hcg
  have q1 := hcg.q1
  obtain ⟨hpc, hg1, hg2, hg3, hg4⟩ := hcg.lt
  have HK := hid hK
  have pt := pick_small (c := vT) (n := (EL : Int)) (by omega)
  have pa := pick_small (c := vA) (n := (EL : Int)) (by omega)
  have pb := pick_small (c := vB) (n := (EL : Int)) (by omega)
  obtain ⟨it, hit⟩ : ∃ k : Nat, pickN vT (EL : Int) = (k : Int) := ⟨(pickN vT (EL : Int)).toNat, by omega⟩
  obtain ⟨ia, hia⟩ : ∃ k : Nat, pickN vA (EL : Int) = (k : Int) := ⟨(pickN vA (EL : Int)).toNat, by omega⟩
  obtain ⟨ib, hib⟩ : ∃ k : Nat, pickN vB (EL : Int) = (k : Int) := ⟨(pickN vB (EL : Int)).toNat, by omega⟩
  rw [hit] at pt
  rw [hia] at pa
  rw [hib] at pb
  have HIT := hid hit
  have HIA := hid hia
  have HIB := hid hib
  obtain ⟨e, he⟩ : ∃ e, E[it]? = some e := ⟨_, List.getElem?_eq_getElem (by omega)⟩
  have HE := hid he
  obtain ⟨RL, hRL⟩ : ∃ RL, e.ranks.length = RL := ⟨_, rfl⟩
  have HRL := hid hRL
  have hRLb : 1 ≤ RL ∧ RL ≤ 400 := by
    have x1 := hM.rlen he
    have x2 : 1 ≤ vol e.shape := vol_whole (hM.aok he).shape
    have x3 := (hM.ent _ _ he).2.2.1
    omega
  obtain ⟨W1, hW1⟩ : ∃ W1, w.alloc (.cells #[.int .i64 vK, .int .i64 vT, .int .i64 vA, .int .i64 vB, .int .i64 vO, .int .i64 vV] 69) = W1 := ⟨_, rfl⟩
  have HW1 := hid hW1
  have HKW1 : Hid (Kp0 w W1) := hid (by rw [← hW1]; exact Kp.alloc (Kp.refl _ _) _)
  have HRV1 := hid (HRV.out.kp0 HKW1.out)
  have HBX : Hid (∀ (f : Nat) (x : Value), (VD.mk vK vT vA vB vO vV).cells[f]? = some x → W1.cell? ⟨w.heap.size, f, none⟩ = some x) := hid (fun f x hx => by
    rw [← hW1]
    match f, hx with
    | 0, hx => simp [VD.cells] at hx; simp [hx]
    | 1, hx => simp [VD.cells] at hx; simp [hx]
    | 2, hx => simp [VD.cells] at hx; simp [hx]
    | 3, hx => simp [VD.cells] at hx; simp [hx]
    | 4, hx => simp [VD.cells] at hx; simp [hx]
    | 5, hx => simp [VD.cells] at hx; simp [hx]
    | f + 6, hx => simp [VD.cells] at hx)
  have y0 := HBX.out 0 _ rfl
  have y1 := HBX.out 1 _ rfl
  have y2 := HBX.out 2 _ rfl
  have y3 := HBX.out 3 _ rfl
  have HAL : Hid (0 + V.length ≤ 1000000000000) := hid (by rw [HLEN.out]; omega)
  clear h hM hEL hcg wK wT wA wB wO wV hcv hv hK hit hia hib he hRL hW1
  go_enter Tryz.func29, Tryz.ntmps29
  go_wp2_with fail
  rw [HW1.out]
  refine (pick_calls vT (EL : Int) W1 HWF.out.2.1 (by omega)).mono ?_
  rintro e' w' ⟨rfl, hw⟩
  obtain rfl := hw.symm
  rw [HIT.out]
  go_wp2_with fail
  refine (pick_calls vA (EL : Int) W1 HWF.out.2.2.1 (by omega)).mono ?_
  rintro e' w' ⟨rfl, hw⟩
  obtain rfl := hw.symm
  rw [HIA.out]
  go_wp2_with fail
  refine (pick_calls vB (EL : Int) W1 HWF.out.2.2.2.1 (by omega)).mono ?_
  rintro e' w' ⟨rfl, hw⟩
  obtain rfl := hw.symm
  rw [HIB.out]
  go_wp2_with (at_builtin; refine wpList_app (by rfl) _ _ (by rfl) none 0 0 [] V _ (by rfl) (by rfl) (OwI.nil _) HRV1.out HAL.out W1.heap.size (by rfl) ?_)
  intro aN cN W2 hO2 hG2 hB2
  have hK2 : Kp0 W1 W2 := (Kp.refl _ W1).grown hG2 (by simp [Value.ownBlock])
  have hO2' : OwI W2 (.slice aN n cN) V := by rw [← HLEN.out]; exact hO2
  obtain ⟨gN, rfl, -, -, -⟩ := hO2'.store 0 0 (by rw [HLEN.out]; omega)
  have hgN : gN = W1.heap.size := (hB2 gN (by rfl)).resolve_left (by simp [Value.ownBlock])
  rw [HLEN.out]
  have HG : Hid (WG w0 w T W2 (retag w T (2, 0)) pc ps σ E EL g1 g2 g3 g4 c1 c2 c3 c4 P w.heap.size gN cN n V ⟨vK, vT, vA, vB, vO, vV⟩ gv ov V) := hid (HCG0.out.wg (HKW1.out.trans hK2) (Nat.le_refl _) (by rw [hgN]; exact HKW1.out.size) (by have : w.heap.size < W1.heap.size := block_lt_of_cell y0; omega) (fun f x hx => hK2.cell (HBX.out f x hx)) hO2' HLEN.out HCV.out HTV.out)
  generalize retag w T (2, 0) = T1 at *
  clear hO2 hG2 hB2 hO2' hgN hK2 y0 y1 y2 y3 q1 hpc hg1 hg2 hg3 hg4 HBX HRV1 HRV HW1 HKW1 HCG0 HCV HTV HAL
  generalize w.heap.size = A at *
  have x0 := HG.out.box 0 _ rfl
  have q3 := HG.out.cg.q3
  obtain ⟨-, -, -, u3, -, -⟩ := HG.out.cg.ent it e HE.out
  obtain ⟨gr, og, hpk, -⟩ := HG.out.cg.rk HE.out (by have := HRL.out; omega)
  rw [HRL.out, hpk] at u3
  have HPK := hid hpk
  clear hpk
  have t0 : (0 : Int) ≤ (it : Int) := by omega
  have t1 : (it : Int) < (EL : Int) := by omega
  go_wp2_with fail
  refine (pick_calls vK 4 W2 HWF.out.1 (by omega)).mono ?_
  rintro e' w' ⟨rfl, hw⟩
  obtain rfl := hw.symm
  rw [HK.out]
  clear x0 q3 u3
  obtain ⟨f, hf⟩ : ∃ f, E[ia]? = some f := ⟨_, List.getElem?_eq_getElem (by have := HEL.out; omega)⟩
  have HF := hid hf
  have a0 : (0 : Int) ≤ (ia : Int) := by omega
  have a1 : (ia : Int) < (EL : Int) := by omega
  obtain ⟨RA, hRA⟩ : ∃ RA, f.ranks.length = RA := ⟨_, rfl⟩
  have HRA := hid hRA
  have hRAb : 1 ≤ RA ∧ RA ≤ 400 := by
    have x1 := HM.out.rlen hf
    have x2 : 1 ≤ vol f.shape := vol_whole (HM.out.aok hf).shape
    have x3 := (HM.out.ent _ _ hf).2.2.1
    omega
  obtain ⟨ga, oa, hpa, -⟩ := HG.out.cg.rk hf (by omega)
  have HPFA := hid hpa
  have HSH : Hid (okShape e.shape) := hid (HM.out.aok HE.out).shape
  have HSF : Hid (okShape f.shape) := hid (HM.out.aok hf).shape
  have HVE : Hid ((vol e.shape).toNat = RL) := hid (by have := HM.out.rlen HE.out; have := HRL.out; omega)
  obtain ⟨m, hm⟩ : ∃ m, e.shape.length = m := ⟨_, rfl⟩
  have HMM := hid hm
  obtain ⟨fm, hfm⟩ : ∃ m, f.shape.length = m := ⟨_, rfl⟩
  have HFM := hid hfm
  obtain ⟨sa, hsa⟩ : ∃ sa, (P it).1 = sa := ⟨_, rfl⟩
  obtain ⟨sd, hsd⟩ : ∃ sd, (P it).2.1 = sd := ⟨_, rfl⟩
  have HPA := hid (And.intro hsa hsd)
  obtain ⟨fa, hfa⟩ : ∃ sa, (P ia).1 = sa := ⟨_, rfl⟩
  obtain ⟨fd, hfd⟩ : ∃ sd, (P ia).2.1 = sd := ⟨_, rfl⟩
  have HPF := hid (And.intro hfa hfd)
  clear hf hRA hpa hm hfm hsa hsd hfa hfd
  obtain ⟨sb, hsb⟩ : ∃ sb, stretchB f.shape e.shape = sb := ⟨_, rfl⟩
  have HSB := hid hsb
  obtain ⟨er, her⟩ : ∃ er : Int, (if e.ro = true then (6 : Int) else if sb = true then 0 else 4) = er := ⟨_, rfl⟩
  have HER := hid her
  obtain ⟨F, hF⟩ : ∃ F : Nat → Int, (fun j => nth V (f.via e j)) = F := ⟨_, rfl⟩
  have HFF := hid hF
  have HST : Hid (σ.assign e.h f.h = ((if e.ro = true then σ else if sb = true then σ.writes 2 e.ranks F RL else σ), er)) := hid (by
    rw [HM.out.wassign HE.out HF.out, ← her, HRL.out, hsb, hF]
    by_cases hr : e.ro = true
    · simp [hr]
    · by_cases hs : sb = true
      · simp [hr, hs]
      · simp [hr, hs])
  obtain ⟨σ2, hσ2⟩ : ∃ σ2, (if e.ro = true then σ else if sb = true then σ.writes 2 e.ranks F RL else σ) = σ2 := ⟨_, rfl⟩
  rw [hσ2] at HST
  have HS2 := hid hσ2
  clear her hσ2 hsb hF
  have HXS : Hid (∀ W, Kp0 W2 W → Calls Tryz.prog 65 #[.pointer (some ⟨ps, 0, none⟩), .int .i64 e.h, .int .i64 f.h] W fun e' w4 => e' = .returned (.int .i64 er) ∧ ∃ T4, WG w0 w T w4 T4 pc ps σ2 E EL g1 g2 g3 g4 c1 c2 c3 c4 P A gN cN n V ⟨vK, vT, vA, vB, vO, vV⟩ gv ov V) := hid (fun W kW => by
    have hGW := HG.out.kp0 kW
    refine (xc_assign e.h f.h hGW.cg.ki.rep).mono ?_
    rintro e' w4 ⟨rfl, hst⟩
    rw [HST.out] at hst ⊢
    obtain ⟨T4, h4⟩ := hGW.step hst
    exact ⟨rfl, T4, h4⟩)
  have s0 := HG.out.cg.q0
  have s1 := HG.out.cg.q1
  obtain ⟨s3, -, -, -, -, -⟩ := HG.out.cg.ent it e HE.out
  obtain ⟨s4, -, -, -, -, -⟩ := HG.out.cg.ent ia f HF.out
  go_wp2
  go_region_held3 (fun W => W.cell? ⟨pc, 0, none⟩ = some (.pointer (some ⟨ps, 0, none⟩)) ∧ W.cell? ⟨pc, 1, none⟩ = some (.slice (some ⟨g1, 0, none⟩) EL c1) ∧ W.cell? ⟨g1, it, none⟩ = some (.int .i64 e.h) ∧ W.cell? ⟨g1, ia, none⟩ = some (.int .i64 f.h))
    (first | go_keep | (go_split_ands; exact ⟨h4.cg.q0, h4.cg.q1, (h4.cg.ent it e HE.out).1, (h4.cg.ent ia f HF.out).1⟩))
    ((go_at_call 65; refine (HXS.out _ ?_).mono ?_; (first | exact Kp0.refl _ | exact Kp0.drew (Kp0.refl _)); rintro e' w4 ⟨rfl, T4, h4⟩))
  have HG4 := hid h4
  clear h4 HXS s0 s1 s3 s4 HG
  have HRD : Hid (∀ W, Kp0 w4 W → RdI W (.slice fa fm fd) f.shape ∧ RdI W (.slice sa m sd) e.shape) := hid (fun W kW => by
    obtain ⟨-, -, -, -, r1, -⟩ := (HG4.out.kp0 kW).cg.ent it e HE.out
    obtain ⟨-, -, -, -, r2, -⟩ := (HG4.out.kp0 kW).cg.ent ia f HF.out
    rw [HPA.out.1, HPA.out.2, HMM.out] at r1
    rw [HPF.out.1, HPF.out.2, HFM.out] at r2
    exact ⟨r2.1, r1.1⟩)
  have s2 := HG4.out.cg.q2
  obtain ⟨-, -, s3, -, -, -⟩ := HG4.out.cg.ent it e HE.out
  obtain ⟨-, -, s4, -, -, -⟩ := HG4.out.cg.ent ia f HF.out
  rw [HPA.out.1, HPA.out.2, HMM.out] at s3
  rw [HPF.out.1, HPF.out.2, HFM.out] at s4
  cases sb
  · have HXF : Hid (∀ W, Kp0 w4 W → Calls Tryz.prog 66 #[.slice fa fm fd, .slice sa m sd] W fun e' w5 => e' = .returned (.slice none 0 0) ∧ Kp0 w4 w5) := hid (fun W kW => by
      refine (fits_calls _ _ f.shape e.shape W (HRD.out W kW).1 (HRD.out W kW).2 HSF.out HSH.out).mono ?_
      rintro e' w5 ⟨hk, ⟨-, rfl⟩ | ⟨hc, -⟩⟩
      · exact ⟨rfl, kW.trans hk⟩
      · rw [HSB.out] at hc
        cases hc)
    go_wp2
    go_region_held3 (fun W => W.cell? ⟨pc, 2, none⟩ = some (.slice (some ⟨g2, 0, none⟩) EL c2) ∧ W.cell? ⟨g2, it, none⟩ = some (.slice sa m sd) ∧ W.cell? ⟨g2, ia, none⟩ = some (.slice fa fm fd))
      (first | go_keep | (go_split_ands; exact ⟨hk5.cell s2, hk5.cell s3, hk5.cell s4⟩))
      ((go_at_call 66; refine (HXF.out _ ?_).mono ?_; (first | exact Kp0.refl _ | exact Kp0.drew (Kp0.refl _)); rintro e' w5 ⟨rfl, hk5⟩))
    have HG5 := hid (HG4.out.kp0 hk5)
    clear hk5 s2 s3 s4 HXF HRD HG4
    have hnn := nil_nil
    go_wp2
    clear hnn
    go_loopw [19] (fun t w' => t = .int .i64 0 ∧ w' = w5) (fun _ _ => 0)
    case atStart => exact ⟨rfl, rfl⟩
    case round =>
      obtain ⟨rfl, hwr⟩ := hrel
      obtain rfl := hwr.symm
      have q4 := HG5.out.cg.q4
      obtain ⟨-, u4, -, -, -, -⟩ := HG5.out.cg.ent it e HE.out
      have HW := hid (HG5.out.old (by
        rw [← HS2.out]
        by_cases hr : e.ro = true
        · rw [if_pos hr]; exact HM.out
        · rw [if_neg hr, if_neg (by simp)]; exact HM.out) cv)
      by_cases hro : e.ro = true
      · have hee : er = 6 := by rw [← HER.out, if_pos hro]
        rw [hro] at u4
        rw [hee]
        clear hro hee
        go_wp2
        go_ret2
        exact ⟨_, _, rfl, HW.out⟩
      · have hee : er = 4 := by rw [← HER.out, if_neg hro, if_neg (by simp)]
        rw [(Bool.not_eq_true _).mp hro] at u4
        rw [hee]
        clear hro hee
        go_wp2
        go_ret2
        exact ⟨_, _, rfl, HW.out⟩
  · obtain ⟨mm, hmm⟩ : ∃ mm, meant f.shape e.shape = mm := ⟨_, rfl⟩
    have HML : Hid (mm.length = RL) := hid (by rw [← hmm, meant_length, HVE.out])
    have HMT := hid hmm
    clear hmm
    have HXF : Hid (∀ W, Kp0 w4 W → Calls Tryz.prog 66 #[.slice fa fm fd, .slice sa m sd] W fun e' w5 => ∃ gM cM, e' = .returned (.slice (some ⟨gM, 0, none⟩) RL cM) ∧ Kp0 w4 w5 ∧ w4.heap.size ≤ gM ∧ ∀ q, q < RL → w5.cell? ⟨gM, q, none⟩ = some (.int .i64 (nth mm q))) := hid (fun W kW => by
      refine (fits_calls _ _ f.shape e.shape W (HRD.out W kW).1 (HRD.out W kW).2 HSF.out HSH.out).mono ?_
      rintro e' w5 ⟨hk, ⟨hc, -⟩ | ⟨-, ao, cc, rfl, hO, hB⟩⟩
      · rw [HSB.out] at hc
        cases hc
      · rw [HVE.out, HMT.out] at hO
        rw [HVE.out] at hB ⊢
        obtain ⟨g, rfl, hc⟩ := hO.parts HML.out (by omega)
        exact ⟨g, cc, rfl, kW.trans hk, Nat.le_trans kW.size (hB g rfl), hc⟩)
    go_wp2
    go_region_held3 (fun W => W.cell? ⟨pc, 2, none⟩ = some (.slice (some ⟨g2, 0, none⟩) EL c2) ∧ W.cell? ⟨g2, it, none⟩ = some (.slice sa m sd) ∧ W.cell? ⟨g2, ia, none⟩ = some (.slice fa fm fd))
      (first | go_keep | (go_split_ands; exact ⟨hk5.cell s2, hk5.cell s3, hk5.cell s4⟩))
      ((go_at_call 66; refine (HXF.out _ ?_).mono ?_; (first | exact Kp0.refl _ | exact Kp0.drew (Kp0.refl _)); rintro e' w5 ⟨gM, cM, rfl, hk5, hgM, hcM⟩))
    have HG5 := hid (HG4.out.kp0 hk5)
    have HCM := hid hcM
    have HNM : Hid (gM ≠ gN) := hid (by have : gN < w4.heap.size := own_lt HG4.out.own rfl; omega)
    clear hk5 hgM hcM s2 s3 s4 HXF HRD HG4
    have hnn := nil_not gM RL cM
    go_wp2
    clear hnn
    go_loopw [19] (fun t w' => ∃ j : Nat, j ≤ RL ∧ t = .int .i64 j ∧ WG w0 w T w' T4 pc ps σ2 E EL g1 g2 g3 g4 c1 c2 c3 c4 P A gN cN n (wrTo V e.ranks F j) ⟨vK, vT, vA, vB, vO, vV⟩ gv ov V ∧ ∀ q, q < RL → w'.cell? ⟨gM, q, none⟩ = some (.int .i64 (nth mm q))) (fun t _ => RL - (intOf t).toNat)
    case atStart => exact ⟨0, Nat.zero_le _, rfl, HG5.out, HCM.out⟩
    case round =>
      clear HG5 HCM
      obtain ⟨j, hj, rfl, hG5, hcM⟩ := hrel
      have HG5 := hid hG5
      have HCM := hid hcM
      clear hG5 hcM
      by_cases hjR : j < RL
      · have HRB := hid (HM.out.rk HE.out j (by rw [HRL.out]; exact hjR))
        have HMB := hid (HM.out.mbd HE.out HF.out HSB.out j (by rw [HRL.out]; exact hjR))
        rw [HMT.out, HRA.out] at HMB
        have HVV : Hid (nth V (nth f.ranks (nth mm j).toNat).toNat = F j) := hid (by rw [← HFF.out, ← HMT.out]; rfl)
        have hrb := HRB.out
        have hmb := HMB.out
        have r1 := HG5.out.cg.rkc HE.out HPK.out HRL.out j hjR
        have r2 := HG5.out.cg.rkc HF.out HPFA.out HRA.out (nth mm j).toNat (by omega)
        have r3 := HCM.out j hjR
        have r4 := HG5.out.val (nth f.ranks (nth mm j).toNat).toNat (by omega)
        rw [HVV.out] at r4
        have q3 := HG5.out.cg.q3
        obtain ⟨-, -, -, u3, -, -⟩ := HG5.out.cg.ent ia f HF.out
        rw [HPFA.out, HRA.out] at u3
        obtain ⟨b1, b2⟩ := HG5.out.at (nth e.ranks j).toNat (by omega)
        have HST2 : Hid (WG w0 w T (wr.setCell ⟨gN, (nth e.ranks j).toNat, none⟩ (.int .i64 (F j))) T4 pc ps σ2 E EL g1 g2 g3 g4 c1 c2 c3 c4 P A gN cN n (wrTo V e.ranks F (j + 1)) ⟨vK, vT, vA, vB, vO, vV⟩ gv ov V) := hid (HG5.out.store (nth e.ranks j).toNat (by omega) (F j))
        have HCM2 : Hid (∀ q, q < RL → (wr.setCell ⟨gN, (nth e.ranks j).toNat, none⟩ (.int .i64 (F j))).cell? ⟨gM, q, none⟩ = some (.int .i64 (nth mm q))) := hid (fun q hq => ((Kp.refl (fun b => b = gN) wr).setCell ⟨gN, (nth e.ranks j).toNat, none⟩ (.int .i64 (F j)) (fun _ => rfl)).cell (HCM.out q hq) HNM.out)
        obtain ⟨hr0, hr1⟩ := hrb
        obtain ⟨-, hm0, hm1, ha0, ha1⟩ := hmb
        have i0 : (0 : Int) ≤ (j : Int) := by omega
        have i1 : (j : Int) < (RL : Int) := by omega
        clear HVV HRB HMB
        generalize nth (wrTo V e.ranks F j) (nth e.ranks j).toNat = old at b1
        generalize nth e.ranks j = ri at *
        generalize nth f.ranks (nth mm j).toNat = ra at *
        generalize nth mm j = mj at *
        generalize F j = fj at *
        obtain ⟨n1, n2, n6, n34⟩ := HG5.out.apart
        have n3 := n34 _ _ HE.out _ _ HPK.out
        have n4 := n34 _ _ HF.out _ _ HPFA.out
        have n5 := HNM.out
        clear n34
        go_wp2
        go_region_held3 (fun W => W.cell? ⟨pc, 3, none⟩ = some (.slice (some ⟨g3, 0, none⟩) EL c3) ∧ W.cell? ⟨g3, ia, none⟩ = some (.slice (some ⟨ga, oa, none⟩) RA (P ia).2.2.2) ∧ W.cell? ⟨gr, og + j, none⟩ = some (.int .i64 ri) ∧ W.cell? ⟨gM, j, none⟩ = some (.int .i64 mj) ∧ W.cell? ⟨ga, oa + mj.toNat, none⟩ = some (.int .i64 ra) ∧ W.cell? ⟨gv, ov + ra.toNat, none⟩ = some (.int .i64 fj))
          (first | (go_split_ands; exact ⟨put_celld n1 q3, put_celld n2 u3, put_celld n3 r1, put_celld n5 r3, put_celld n4 r2, put_celld n6 r4⟩) | go_keep)
          (fail)
        have HG6 := hid HST2.out.drew
        have HCM6 : Hid (∀ q, q < RL → (wr.setCell ⟨gN, ri.toNat, none⟩ (.int .i64 fj)).drew.cell? ⟨gM, q, none⟩ = some (.int .i64 (nth mm q))) := hid HCM2.out
        generalize (wr.setCell ⟨gN, ri.toNat, none⟩ (.int .i64 fj)).drew = W6 at HG6 HCM6 ⊢
        clear r1 r2 r3 r4 q3 u3 b1 b2 HST2 HCM2 HG5 HCM n1 n2 n3 n4 n5 n6
        go_wp2
        go_roundw
        case rel => exact ⟨j + 1, by omega, by go_num, HG6.out, HCM6.out⟩
        case measure => simp [intOf]; omega
      · have i1 : ¬ (j : Int) < (RL : Int) := by omega
        have HJ : Hid (j = RL) := hid (by omega)
        have q4 := HG5.out.cg.q4
        obtain ⟨-, u4, -, -, -, -⟩ := HG5.out.cg.ent it e HE.out
        clear hj hjR
        by_cases hro : e.ro = true
        · have HW := hid (HG5.out.old (by rw [← HS2.out, if_pos hro]; exact HM.out) cv)
          have hee : er = 6 := by rw [← HER.out, if_pos hro]
          rw [hro] at u4
          rw [hee]
          clear hro hee
          go_wp2
          go_ret2
          exact ⟨_, _, rfl, HW.out⟩
        · have HW := hid (HG5.out.new (by rw [← HS2.out, if_neg hro, if_pos (by first | rfl | trivial), HJ.out]; exact HM.out.writes HE.out _ _ (by rw [HRL.out]; exact Nat.le_refl _)))
          have hee : er = 0 := by rw [← HER.out, if_neg hro, if_pos (by first | rfl | trivial)]
          rw [(Bool.not_eq_true _).mp hro] at u4
          rw [hee]
          clear hro hee
          go_wp2
          go_ret2
          exact ⟨_, _, rfl, HW.out⟩

end Go.Proofs.YticbbncdcannlaaGreat

/- The cast: writes, walked: Work. -/
namespace Go.Proofs.YticbbncdcannlaaGreat
open Go.RowKit

set_option maxRecDepth 100000 in
set_option maxHeartbeats 8000000 in
theorem writesWork_calls {w0 w : World} {T : Tags} {pc ps : Nat} {σ : Sp} {E : List CE} {n : Nat} {V : List Int} {B : Nat} (h : KI w0 w T pc ps σ E) (hM : KM σ E n V B) (h1 : 1 ≤ E.length) (h30 : E.length ≤ 1000) (av : Option Addr) (cv : Nat) (hv : RdV T w (.slice av n cv) V) (vK vT vA vB vO vV : Int) (wK : IntKind.i64.wrap vK = vK) (wT : IntKind.i64.wrap vT = vT) (wA : IntKind.i64.wrap vA = vA) (wB : IntKind.i64.wrap vB = vB) (wO : IntKind.i64.wrap vO = vO) (wV : IntKind.i64.wrap vV = vV) (hK : pickN vK 4 = 3) :
    Calls Tryz.prog 29 #[.pointer (some ⟨pc, 0, none⟩), .agg #[.int .i64 vK, .int .i64 vT, .int .i64 vA, .int .i64 vB, .int .i64 vO, .int .i64 vV], .slice av n cv] w fun e w' => ∃ ao cc, e = .returned (.tuple #[.slice ao n cc, .bool true]) ∧ Wrote w0 w T pc ps n E B (.slice ao n cc) w' := by
  have HM := hid hM
  obtain ⟨g1, g2, g3, g4, c1, c2, c3, c4, P, hcg⟩ := h.cg h1
  obtain ⟨EL, hEL⟩ : ∃ EL, E.length = EL := ⟨_, rfl⟩
  rw [hEL] at hcg h1 h30
  have HEL := hid hEL
  have HWF := hid (And.intro wK (And.intro wT (And.intro wA (And.intro wB (And.intro wO wV)))))
  obtain ⟨gv, ov, rfl, hcv⟩ : ∃ gv ov, av = some ⟨gv, ov, none⟩ ∧ ∀ j, j < n → w.cell? ⟨gv, ov + j, none⟩ = some (.int .i64 (nth V j)) := by
    have hn1 := hM.n1
    have hl := hM.len
    obtain ⟨a, c, ev, hh⟩ := rd_parts hv.1
    obtain ⟨g, o, rfl, hc⟩ := hh (by omega)
    simp at ev
    exact ⟨g, o, by rw [ev.1], fun j hj => hc j (by omega)⟩
  have HCV := hid hcv
  have HTV : Hid (gv < w.heap.size ∧ (T gv).1 ≠ 1) := hid (hv.2 gv rfl)
  have HRV := hid hv.1
  have hn125 := hM.n2
  have hn1 := hM.n1
  have HLEN := hid hM.len
  have HCG0 := hid hcg
  have q1 := hcg.q1
  obtain ⟨hpc, hg1, hg2, hg3, hg4⟩ := hcg.lt
  have HK := hid hK
  have pt := pick_small (c := vT) (n := (EL : Int)) (by omega)
  have pa := pick_small (c := vA) (n := (EL : Int)) (by omega)
  have pb := pick_small (c := vB) (n := (EL : Int)) (by omega)
  obtain ⟨it, hit⟩ : ∃ k : Nat, pickN vT (EL : Int) = (k : Int) := ⟨(pickN vT (EL : Int)).toNat, by omega⟩
  obtain ⟨ia, hia⟩ : ∃ k : Nat, pickN vA (EL : Int) = (k : Int) := ⟨(pickN vA (EL : Int)).toNat, by omega⟩
  obtain ⟨ib, hib⟩ : ∃ k : Nat, pickN vB (EL : Int) = (k : Int) := ⟨(pickN vB (EL : Int)).toNat, by omega⟩
  rw [hit] at pt
  rw [hia] at pa
  rw [hib] at pb
  have HIT := hid hit
  have HIA := hid hia
  have HIB := hid hib
  obtain ⟨e, he⟩ : ∃ e, E[it]? = some e := ⟨_, List.getElem?_eq_getElem (by omega)⟩
  have HE := hid he
  obtain ⟨RL, hRL⟩ : ∃ RL, e.ranks.length = RL := ⟨_, rfl⟩
  have HRL := hid hRL
  have hRLb : 1 ≤ RL ∧ RL ≤ 400 := by
    have x1 := hM.rlen he
    have x2 : 1 ≤ vol e.shape := vol_whole (hM.aok he).shape
    have x3 := (hM.ent _ _ he).2.2.1
    omega
  obtain ⟨W1, hW1⟩ : ∃ W1, w.alloc (.cells #[.int .i64 vK, .int .i64 vT, .int .i64 vA, .int .i64 vB, .int .i64 vO, .int .i64 vV] 69) = W1 := ⟨_, rfl⟩
  have HW1 := hid hW1
  have HKW1 : Hid (Kp0 w W1) := hid (by rw [← hW1]; exact Kp.alloc (Kp.refl _ _) _)
  have HRV1 := hid (HRV.out.kp0 HKW1.out)
  have HBX : Hid (∀ (f : Nat) (x : Value), (VD.mk vK vT vA vB vO vV).cells[f]? = some x → W1.cell? ⟨w.heap.size, f, none⟩ = some x) := hid (fun f x hx => by
    rw [← hW1]
    match f, hx with
    | 0, hx => simp [VD.cells] at hx; simp [hx]
    | 1, hx => simp [VD.cells] at hx; simp [hx]
    | 2, hx => simp [VD.cells] at hx; simp [hx]
    | 3, hx => simp [VD.cells] at hx; simp [hx]
    | 4, hx => simp [VD.cells] at hx; simp [hx]
    | 5, hx => simp [VD.cells] at hx; simp [hx]
    | f + 6, hx => simp [VD.cells] at hx)
  have y0 := HBX.out 0 _ rfl
  have y1 := HBX.out 1 _ rfl
  have y2 := HBX.out 2 _ rfl
  have y3 := HBX.out 3 _ rfl
  have HAL : Hid (0 + V.length ≤ 1000000000000) := hid (by rw [HLEN.out]; omega)
  clear h hM hEL hcg wK wT wA wB wO wV hcv hv hK hit hia hib he hRL hW1
  go_enter Tryz.func29, Tryz.ntmps29
  go_wp2_with fail
  rw [HW1.out]
  refine (pick_calls vT (EL : Int) W1 HWF.out.2.1 (by omega)).mono ?_
  rintro e' w' ⟨rfl, hw⟩
  obtain rfl := hw.symm
  rw [HIT.out]
  go_wp2_with fail
  refine (pick_calls vA (EL : Int) W1 HWF.out.2.2.1 (by omega)).mono ?_
  rintro e' w' ⟨rfl, hw⟩
  obtain rfl := hw.symm
  rw [HIA.out]
  go_wp2_with fail
  refine (pick_calls vB (EL : Int) W1 HWF.out.2.2.2.1 (by omega)).mono ?_
  rintro e' w' ⟨rfl, hw⟩
  obtain rfl := hw.symm
  rw [HIB.out]
  go_wp2_with (at_builtin; refine wpList_app (by rfl) _ _ (by rfl) none 0 0 [] V _ (by rfl) (by rfl) (OwI.nil _) HRV1.out HAL.out W1.heap.size (by rfl) ?_)
  intro aN cN W2 hO2 hG2 hB2
  have hK2 : Kp0 W1 W2 := (Kp.refl _ W1).grown hG2 (by simp [Value.ownBlock])
  have hO2' : OwI W2 (.slice aN n cN) V := by rw [← HLEN.out]; exact hO2
  obtain ⟨gN, rfl, -, -, -⟩ := hO2'.store 0 0 (by rw [HLEN.out]; omega)
  have hgN : gN = W1.heap.size := (hB2 gN (by rfl)).resolve_left (by simp [Value.ownBlock])
  rw [HLEN.out]
  have HG : Hid (WG w0 w T W2 (retag w T (2, 0)) pc ps σ E EL g1 g2 g3 g4 c1 c2 c3 c4 P w.heap.size gN cN n V ⟨vK, vT, vA, vB, vO, vV⟩ gv ov V) := hid (HCG0.out.wg (HKW1.out.trans hK2) (Nat.le_refl _) (by rw [hgN]; exact HKW1.out.size) (by have : w.heap.size < W1.heap.size := block_lt_of_cell y0; omega) (fun f x hx => hK2.cell (HBX.out f x hx)) hO2' HLEN.out HCV.out HTV.out)
  generalize retag w T (2, 0) = T1 at *
  clear hO2 hG2 hB2 hO2' hgN hK2 y0 y1 y2 y3 q1 hpc hg1 hg2 hg3 hg4 HBX HRV1 HRV HW1 HKW1 HCG0 HCV HTV HAL
  generalize w.heap.size = A at *
  have x0 := HG.out.box 0 _ rfl
  have q3 := HG.out.cg.q3
  obtain ⟨-, -, -, u3, -, -⟩ := HG.out.cg.ent it e HE.out
  obtain ⟨gr, og, hpk, -⟩ := HG.out.cg.rk HE.out (by have := HRL.out; omega)
  rw [HRL.out, hpk] at u3
  have HPK := hid hpk
  clear hpk
  have t0 : (0 : Int) ≤ (it : Int) := by omega
  have t1 : (it : Int) < (EL : Int) := by omega
  go_wp2_with fail
  refine (pick_calls vK 4 W2 HWF.out.1 (by omega)).mono ?_
  rintro e' w' ⟨rfl, hw⟩
  obtain rfl := hw.symm
  rw [HK.out]
  clear x0 q3 u3
  obtain ⟨f, hf⟩ : ∃ f, E[ia]? = some f := ⟨_, List.getElem?_eq_getElem (by have := HEL.out; omega)⟩
  have HF := hid hf
  have a0 : (0 : Int) ≤ (ia : Int) := by omega
  have a1 : (ia : Int) < (EL : Int) := by omega
  obtain ⟨RA, hRA⟩ : ∃ RA, f.ranks.length = RA := ⟨_, rfl⟩
  have HRA := hid hRA
  have hRAb : 1 ≤ RA ∧ RA ≤ 400 := by
    have x1 := HM.out.rlen hf
    have x2 : 1 ≤ vol f.shape := vol_whole (HM.out.aok hf).shape
    have x3 := (HM.out.ent _ _ hf).2.2.1
    omega
  obtain ⟨ga, oa, hpa, -⟩ := HG.out.cg.rk hf (by omega)
  have HPFA := hid hpa
  have HSF : Hid (okShape f.shape) := hid (HM.out.aok hf).shape
  obtain ⟨fm, hfm⟩ : ∃ m, f.shape.length = m := ⟨_, rfl⟩
  have HFM := hid hfm
  obtain ⟨fa, hfa⟩ : ∃ sa, (P ia).1 = sa := ⟨_, rfl⟩
  obtain ⟨fd, hfd⟩ : ∃ sd, (P ia).2.1 = sd := ⟨_, rfl⟩
  have HPF := hid (And.intro hfa hfd)
  clear hf hRA hpa hfm hfa hfd
  obtain ⟨k, hk⟩ : ∃ f, E[ib]? = some f := ⟨_, List.getElem?_eq_getElem (by have := HEL.out; omega)⟩
  have HQ := hid hk
  have b0 : (0 : Int) ≤ (ib : Int) := by omega
  have b1 : (ib : Int) < (EL : Int) := by omega
  obtain ⟨RB, hRB⟩ : ∃ RA, k.ranks.length = RA := ⟨_, rfl⟩
  have HRBB := hid hRB
  have hRBb : 1 ≤ RB ∧ RB ≤ 400 := by
    have x1 := HM.out.rlen hk
    have x2 : 1 ≤ vol k.shape := vol_whole (HM.out.aok hk).shape
    have x3 := (HM.out.ent _ _ hk).2.2.1
    omega
  obtain ⟨gb, ob, hpb, -⟩ := HG.out.cg.rk hk (by omega)
  have HPQA := hid hpb
  have HSQ : Hid (okShape k.shape) := hid (HM.out.aok hk).shape
  obtain ⟨km, hkm⟩ : ∃ m, k.shape.length = m := ⟨_, rfl⟩
  have HQM := hid hkm
  obtain ⟨ka, hka⟩ : ∃ sa, (P ib).1 = sa := ⟨_, rfl⟩
  obtain ⟨kd, hkd⟩ : ∃ sd, (P ib).2.1 = sd := ⟨_, rfl⟩
  have HPQ := hid (And.intro hka hkd)
  clear hk hRB hpb hkm hka hkd
  have HSH : Hid (okShape e.shape) := hid (HM.out.aok HE.out).shape
  have HVE : Hid ((vol e.shape).toNat = RL) := hid (by have := HM.out.rlen HE.out; have := HRL.out; omega)
  obtain ⟨m, hm⟩ : ∃ m, e.shape.length = m := ⟨_, rfl⟩
  have HMM := hid hm
  obtain ⟨sa, hsa⟩ : ∃ sa, (P it).1 = sa := ⟨_, rfl⟩
  obtain ⟨sd, hsd⟩ : ∃ sd, (P it).2.1 = sd := ⟨_, rfl⟩
  have HPA := hid (And.intro hsa hsd)
  clear hm hsa hsd
  have po := pick_small (c := vO) (n := 5) (by omega)
  obtain ⟨op, hop⟩ : ∃ op : Int, 1 + pickN vO 5 = op := ⟨_, rfl⟩
  have HOP := hid hop
  have hopb : 1 ≤ op ∧ op ≤ 5 := by omega
  have hwop : IntKind.i64.wrap (1 + pickN vO 5) = op := by rw [hop]; exact bd_wf (by omega)
  clear hop
  have x4 := HG.out.box 4 _ rfl
  go_wp2_with fail
  refine (pick_calls vO 5 W2 HWF.out.2.2.2.2.1 (by omega)).mono ?_
  rintro e' w' ⟨rfl, hw⟩
  obtain rfl := hw.symm
  obtain ⟨ba, hba⟩ : ∃ sb, stretchB f.shape e.shape = sb := ⟨_, rfl⟩
  have HBA := hid hba
  obtain ⟨bb, hbb⟩ : ∃ sb, stretchB k.shape e.shape = sb := ⟨_, rfl⟩
  have HBB := hid hbb
  obtain ⟨er, her⟩ : ∃ er : Int, (if e.ro = true then (6 : Int) else if ba = true ∧ bb = true then 0 else 4) = er := ⟨_, rfl⟩
  have HER := hid her
  obtain ⟨F, hF⟩ : ∃ F : Nat → Int, (fun j => opK op 2 (nth V (f.via e j)) (nth V (k.via e j))) = F := ⟨_, rfl⟩
  have HFF := hid hF
  have HST : Hid (σ.work op e.h f.h k.h = ((if e.ro = true then σ else if ba = true ∧ bb = true then σ.writes 2 e.ranks F RL else σ), er)) := hid (by
    rw [HM.out.wwork HE.out HF.out HQ.out op hopb.1 hopb.2, ← her, HRL.out, hba, hbb, hF]
    by_cases hr : e.ro = true
    · simp [hr]
    · by_cases hs : ba = true ∧ bb = true
      · simp [hr, hs]
      · rw [if_neg hr, if_neg hs, if_neg hr, if_neg hs, if_neg hr, if_neg hs])
  obtain ⟨σ2, hσ2⟩ : ∃ σ2, (if e.ro = true then σ else if ba = true ∧ bb = true then σ.writes 2 e.ranks F RL else σ) = σ2 := ⟨_, rfl⟩
  rw [hσ2] at HST
  have HS2 := hid hσ2
  clear her hσ2 hba hbb hF x4
  have HXS : Hid (∀ W, Kp0 W2 W → Calls Tryz.prog 67 #[.pointer (some ⟨ps, 0, none⟩), .int .i64 op, .int .i64 e.h, .int .i64 f.h, .int .i64 k.h] W fun e' w4 => e' = .returned (.int .i64 er) ∧ ∃ T4, WG w0 w T w4 T4 pc ps σ2 E EL g1 g2 g3 g4 c1 c2 c3 c4 P A gN cN n V ⟨vK, vT, vA, vB, vO, vV⟩ gv ov V) := hid (fun W kW => by
    have hGW := HG.out.kp0 kW
    refine (xc_work op e.h f.h k.h hGW.cg.ki.rep).mono ?_
    rintro e' w4 ⟨rfl, hst⟩
    rw [HST.out] at hst ⊢
    obtain ⟨T4, h4⟩ := hGW.step hst
    exact ⟨rfl, T4, h4⟩)
  have s0 := HG.out.cg.q0
  have s1 := HG.out.cg.q1
  obtain ⟨s3, -, -, -, -, -⟩ := HG.out.cg.ent it e HE.out
  obtain ⟨s4, -, -, -, -, -⟩ := HG.out.cg.ent ia f HF.out
  obtain ⟨s5, -, -, -, -, -⟩ := HG.out.cg.ent ib k HQ.out
  go_wp2
  go_region_held3 (fun W => W.cell? ⟨pc, 0, none⟩ = some (.pointer (some ⟨ps, 0, none⟩)) ∧ W.cell? ⟨pc, 1, none⟩ = some (.slice (some ⟨g1, 0, none⟩) EL c1) ∧ W.cell? ⟨g1, it, none⟩ = some (.int .i64 e.h) ∧ W.cell? ⟨g1, ia, none⟩ = some (.int .i64 f.h) ∧ W.cell? ⟨g1, ib, none⟩ = some (.int .i64 k.h))
    (first | go_keep | (go_split_ands; exact ⟨h4.cg.q0, h4.cg.q1, (h4.cg.ent it e HE.out).1, (h4.cg.ent ia f HF.out).1, (h4.cg.ent ib k HQ.out).1⟩))
    ((go_at_call 67; refine (HXS.out _ ?_).mono ?_; (first | exact Kp0.refl _ | exact Kp0.drew (Kp0.refl _)); rintro e' w4 ⟨rfl, T4, h4⟩))
  have HG4 := hid h4
  clear h4 HXS s0 s1 s3 s4 s5 HG hwop
  have HRD : Hid (∀ W, Kp0 w4 W → RdI W (.slice fa fm fd) f.shape ∧ RdI W (.slice ka km kd) k.shape ∧ RdI W (.slice sa m sd) e.shape) := hid (fun W kW => by
    obtain ⟨-, -, -, -, r1, -⟩ := (HG4.out.kp0 kW).cg.ent it e HE.out
    obtain ⟨-, -, -, -, r2, -⟩ := (HG4.out.kp0 kW).cg.ent ia f HF.out
    obtain ⟨-, -, -, -, r3, -⟩ := (HG4.out.kp0 kW).cg.ent ib k HQ.out
    rw [HPA.out.1, HPA.out.2, HMM.out] at r1
    rw [HPF.out.1, HPF.out.2, HFM.out] at r2
    rw [HPQ.out.1, HPQ.out.2, HQM.out] at r3
    exact ⟨r2.1, r3.1, r1.1⟩)
  have HS4 : Hid (∀ W, Kp0 w4 W → W.cell? ⟨pc, 2, none⟩ = some (.slice (some ⟨g2, 0, none⟩) EL c2) ∧ W.cell? ⟨g2, it, none⟩ = some (.slice sa m sd) ∧ W.cell? ⟨g2, ia, none⟩ = some (.slice fa fm fd) ∧ W.cell? ⟨g2, ib, none⟩ = some (.slice ka km kd)) := hid (fun W kW => by
    have s2 := (HG4.out.kp0 kW).cg.q2
    obtain ⟨-, -, s3, -, -, -⟩ := (HG4.out.kp0 kW).cg.ent it e HE.out
    obtain ⟨-, -, s4, -, -, -⟩ := (HG4.out.kp0 kW).cg.ent ia f HF.out
    obtain ⟨-, -, s5, -, -, -⟩ := (HG4.out.kp0 kW).cg.ent ib k HQ.out
    rw [HPA.out.1, HPA.out.2, HMM.out] at s3
    rw [HPF.out.1, HPF.out.2, HFM.out] at s4
    rw [HPQ.out.1, HPQ.out.2, HQM.out] at s5
    exact ⟨s2, s3, s4, s5⟩)
  have HNO : Hid (∀ (fv : Value) (fs : List Int), okShape fs → stretchB fs e.shape = false → ∀ W, Kp0 w4 W → RdI W fv fs → Calls Tryz.prog 66 #[fv, .slice sa m sd] W fun e' w5 => e' = .returned (.slice none 0 0) ∧ Kp0 w4 w5) := hid (fun fv fs hfs hst W kW hr => by
    refine (fits_calls _ _ fs e.shape W hr (HRD.out W kW).2.2 hfs HSH.out).mono ?_
    rintro e' w5 ⟨hk, ⟨-, rfl⟩ | ⟨hc, -⟩⟩
    · exact ⟨rfl, kW.trans hk⟩
    · rw [hst] at hc
      cases hc)
  have HYES : Hid (∀ (fv : Value) (fs : List Int), okShape fs → stretchB fs e.shape = true → ∀ W, Kp0 w4 W → RdI W fv fs → Calls Tryz.prog 66 #[fv, .slice sa m sd] W fun e' w5 => ∃ gM cM, e' = .returned (.slice (some ⟨gM, 0, none⟩) RL cM) ∧ Kp0 w4 w5 ∧ w4.heap.size ≤ gM ∧ (∀ q, q < RL → w5.cell? ⟨gM, q, none⟩ = some (.int .i64 (nth (meant fs e.shape) q))) ∧ Kp0 W w5) := hid (fun fv fs hfs hst W kW hr => by
    refine (fits_calls _ _ fs e.shape W hr (HRD.out W kW).2.2 hfs HSH.out).mono ?_
    rintro e' w5 ⟨hk, ⟨hc, -⟩ | ⟨-, ao, cc, rfl, hO, hB⟩⟩
    · rw [hst] at hc
      cases hc
    · rw [HVE.out] at hO hB ⊢
      obtain ⟨g, rfl, hc⟩ := hO.parts (by rw [meant_length, HVE.out]) (by omega)
      exact ⟨g, cc, rfl, kW.trans hk, Nat.le_trans kW.size (hB g rfl), hc, hk⟩)
  have HEND : Hid (∀ W, WG w0 w T W T4 pc ps σ2 E EL g1 g2 g3 g4 c1 c2 c3 c4 P A gN cN n V ⟨vK, vT, vA, vB, vO, vV⟩ gv ov V → ¬ (ba = true ∧ bb = true) → Wrote w0 w T pc ps n E B (.slice (some ⟨gv, ov, none⟩) n cv) W ∧ (e.ro = true → er = 6) ∧ (¬ e.ro = true → er = 4)) := hid (fun W hW hno => by
    refine ⟨hW.old (by
      rw [← HS2.out]
      by_cases hr : e.ro = true
      · rw [if_pos hr]; exact HM.out
      · rw [if_neg hr, if_neg hno]; exact HM.out) cv, fun hr => by rw [← HER.out, if_pos hr], fun hr => by rw [← HER.out, if_neg hr, if_neg hno]⟩)
  cases ba
  · cases bb
    · obtain ⟨s2, s3, s4, s5⟩ := HS4.out w4 (Kp0.refl _)
      go_wp2
      go_region_held3 (fun W => W.cell? ⟨pc, 2, none⟩ = some (.slice (some ⟨g2, 0, none⟩) EL c2) ∧ W.cell? ⟨g2, it, none⟩ = some (.slice sa m sd) ∧ W.cell? ⟨g2, ia, none⟩ = some (.slice fa fm fd))
        (first | go_keep | (go_split_ands; exact ⟨hk5.cell s2, hk5.cell s3, hk5.cell s4⟩))
        ((go_at_call 66; refine (HNO.out _ f.shape HSF.out HBA.out _ ?_ ?_).mono ?_; (first | exact Kp0.refl _ | exact Kp0.drew (Kp0.refl _)); (first | exact (HRD.out _ (Kp0.refl _)).1 | exact (HRD.out _ (Kp0.drew (Kp0.refl _))).1); rintro e' w5 ⟨rfl, hk5⟩))
      have HK5 := hid hk5
      clear hk5 s2 s3 s4 s5
      obtain ⟨s2, s3, s4, s5⟩ := HS4.out w5 HK5.out
      go_wp2
      go_region_held3 (fun W => W.cell? ⟨pc, 2, none⟩ = some (.slice (some ⟨g2, 0, none⟩) EL c2) ∧ W.cell? ⟨g2, it, none⟩ = some (.slice sa m sd) ∧ W.cell? ⟨g2, ib, none⟩ = some (.slice ka km kd))
        (first | go_keep | (go_split_ands; exact ⟨(HS4.out _ hk6).1, (HS4.out _ hk6).2.1, (HS4.out _ hk6).2.2.2⟩))
        ((go_at_call 66; refine (HNO.out _ k.shape HSQ.out HBB.out _ ?_ ?_).mono ?_; (first | exact HK5.out | exact Kp0.drew HK5.out); (first | exact (HRD.out _ HK5.out).2.1 | exact (HRD.out _ (Kp0.drew HK5.out)).2.1); rintro e' w6 ⟨rfl, hk6⟩))
      have HG6 := hid (HG4.out.kp0 hk6)
      clear hk6 s2 s3 s4 s5 HNO HYES HRD HS4 HG4 HK5
      have HE6 := hid (HEND.out w6 HG6.out (by simp))
      have hnn := nil_nil
      go_wp2
      clear hnn
      go_loopw [23] (fun t w' => t = .int .i64 0 ∧ w' = w6) (fun _ _ => 0)
      case atStart => exact ⟨rfl, rfl⟩
      case round =>
        obtain ⟨rfl, hwr⟩ := hrel
        obtain rfl := hwr.symm
        have q4 := HG6.out.cg.q4
        obtain ⟨-, u4, -, -, -, -⟩ := HG6.out.cg.ent it e HE.out
        have d0 : (0 : Int) < (RL : Int) := by omega
        by_cases hro : e.ro = true
        · have hee := HE6.out.2.1 hro
          rw [hro] at u4
          rw [hee]
          clear hro hee
          go_wp2
          go_ret2
          exact ⟨_, _, rfl, HE6.out.1⟩
        · have hee := HE6.out.2.2 hro
          rw [(Bool.not_eq_true _).mp hro] at u4
          rw [hee]
          clear hro hee
          go_wp2
          go_ret2
          exact ⟨_, _, rfl, HE6.out.1⟩
    · obtain ⟨s2, s3, s4, s5⟩ := HS4.out w4 (Kp0.refl _)
      go_wp2
      go_region_held3 (fun W => W.cell? ⟨pc, 2, none⟩ = some (.slice (some ⟨g2, 0, none⟩) EL c2) ∧ W.cell? ⟨g2, it, none⟩ = some (.slice sa m sd) ∧ W.cell? ⟨g2, ia, none⟩ = some (.slice fa fm fd))
        (first | go_keep | (go_split_ands; exact ⟨hk5.cell s2, hk5.cell s3, hk5.cell s4⟩))
        ((go_at_call 66; refine (HNO.out _ f.shape HSF.out HBA.out _ ?_ ?_).mono ?_; (first | exact Kp0.refl _ | exact Kp0.drew (Kp0.refl _)); (first | exact (HRD.out _ (Kp0.refl _)).1 | exact (HRD.out _ (Kp0.drew (Kp0.refl _))).1); rintro e' w5 ⟨rfl, hk5⟩))
      have HK5 := hid hk5
      clear hk5 s2 s3 s4 s5
      obtain ⟨s2, s3, s4, s5⟩ := HS4.out w5 HK5.out
      go_wp2
      go_region_held3 (fun W => W.cell? ⟨pc, 2, none⟩ = some (.slice (some ⟨g2, 0, none⟩) EL c2) ∧ W.cell? ⟨g2, it, none⟩ = some (.slice sa m sd) ∧ W.cell? ⟨g2, ib, none⟩ = some (.slice ka km kd))
        (first | go_keep | (go_split_ands; exact ⟨(HS4.out _ hk6).1, (HS4.out _ hk6).2.1, (HS4.out _ hk6).2.2.2⟩))
        ((go_at_call 66; refine (HYES.out _ k.shape HSQ.out HBB.out _ ?_ ?_).mono ?_; (first | exact HK5.out | exact Kp0.drew HK5.out); (first | exact (HRD.out _ HK5.out).2.1 | exact (HRD.out _ (Kp0.drew HK5.out)).2.1); rintro e' w6 ⟨gQ, cQ, rfl, hk6, hgQ, hcQ, hk56⟩))
      clear hgQ hcQ hk56
      have HG6 := hid (HG4.out.kp0 hk6)
      clear hk6 s2 s3 s4 s5 HNO HYES HRD HS4 HG4 HK5
      have HE6 := hid (HEND.out w6 HG6.out (by simp))
      have hnn := nil_nil
      go_wp2
      clear hnn
      go_loopw [23] (fun t w' => t = .int .i64 0 ∧ w' = w6) (fun _ _ => 0)
      case atStart => exact ⟨rfl, rfl⟩
      case round =>
        obtain ⟨rfl, hwr⟩ := hrel
        obtain rfl := hwr.symm
        have q4 := HG6.out.cg.q4
        obtain ⟨-, u4, -, -, -, -⟩ := HG6.out.cg.ent it e HE.out
        have d0 : (0 : Int) < (RL : Int) := by omega
        by_cases hro : e.ro = true
        · have hee := HE6.out.2.1 hro
          rw [hro] at u4
          rw [hee]
          clear hro hee
          go_wp2
          go_ret2
          exact ⟨_, _, rfl, HE6.out.1⟩
        · have hee := HE6.out.2.2 hro
          rw [(Bool.not_eq_true _).mp hro] at u4
          rw [hee]
          clear hro hee
          go_wp2
          go_ret2
          exact ⟨_, _, rfl, HE6.out.1⟩
  · cases bb
    · obtain ⟨s2, s3, s4, s5⟩ := HS4.out w4 (Kp0.refl _)
      go_wp2
      go_region_held3 (fun W => W.cell? ⟨pc, 2, none⟩ = some (.slice (some ⟨g2, 0, none⟩) EL c2) ∧ W.cell? ⟨g2, it, none⟩ = some (.slice sa m sd) ∧ W.cell? ⟨g2, ia, none⟩ = some (.slice fa fm fd))
        (first | go_keep | (go_split_ands; exact ⟨hk5.cell s2, hk5.cell s3, hk5.cell s4⟩))
        ((go_at_call 66; refine (HYES.out _ f.shape HSF.out HBA.out _ ?_ ?_).mono ?_; (first | exact Kp0.refl _ | exact Kp0.drew (Kp0.refl _)); (first | exact (HRD.out _ (Kp0.refl _)).1 | exact (HRD.out _ (Kp0.drew (Kp0.refl _))).1); rintro e' w5 ⟨gM, cM, rfl, hk5, hgM, hcM, -⟩))
      have HGM := hid hgM
      have HCM := hid hcM
      clear hgM hcM
      have HK5 := hid hk5
      clear hk5 s2 s3 s4 s5
      obtain ⟨s2, s3, s4, s5⟩ := HS4.out w5 HK5.out
      go_wp2
      go_region_held3 (fun W => W.cell? ⟨pc, 2, none⟩ = some (.slice (some ⟨g2, 0, none⟩) EL c2) ∧ W.cell? ⟨g2, it, none⟩ = some (.slice sa m sd) ∧ W.cell? ⟨g2, ib, none⟩ = some (.slice ka km kd))
        (first | go_keep | (go_split_ands; exact ⟨(HS4.out _ hk6).1, (HS4.out _ hk6).2.1, (HS4.out _ hk6).2.2.2⟩))
        ((go_at_call 66; refine (HNO.out _ k.shape HSQ.out HBB.out _ ?_ ?_).mono ?_; (first | exact HK5.out | exact Kp0.drew HK5.out); (first | exact (HRD.out _ HK5.out).2.1 | exact (HRD.out _ (Kp0.drew HK5.out)).2.1); rintro e' w6 ⟨rfl, hk6⟩))
      have HG6 := hid (HG4.out.kp0 hk6)
      clear hk6 s2 s3 s4 s5 HNO HYES HRD HS4 HG4 HK5 HCM HGM
      have HE6 := hid (HEND.out w6 HG6.out (by simp))
      have hnn := nil_not gM RL cM
      have hnq := nil_nil
      go_wp2
      clear hnn hnq
      go_loopw [23] (fun t w' => t = .int .i64 0 ∧ w' = w6) (fun _ _ => 0)
      case atStart => exact ⟨rfl, rfl⟩
      case round =>
        obtain ⟨rfl, hwr⟩ := hrel
        obtain rfl := hwr.symm
        have q4 := HG6.out.cg.q4
        obtain ⟨-, u4, -, -, -, -⟩ := HG6.out.cg.ent it e HE.out
        have d0 : (0 : Int) < (RL : Int) := by omega
        by_cases hro : e.ro = true
        · have hee := HE6.out.2.1 hro
          rw [hro] at u4
          rw [hee]
          clear hro hee
          go_wp2
          go_ret2
          exact ⟨_, _, rfl, HE6.out.1⟩
        · have hee := HE6.out.2.2 hro
          rw [(Bool.not_eq_true _).mp hro] at u4
          rw [hee]
          clear hro hee
          go_wp2
          go_ret2
          exact ⟨_, _, rfl, HE6.out.1⟩
    · obtain ⟨s2, s3, s4, s5⟩ := HS4.out w4 (Kp0.refl _)
      go_wp2
      go_region_held3 (fun W => W.cell? ⟨pc, 2, none⟩ = some (.slice (some ⟨g2, 0, none⟩) EL c2) ∧ W.cell? ⟨g2, it, none⟩ = some (.slice sa m sd) ∧ W.cell? ⟨g2, ia, none⟩ = some (.slice fa fm fd))
        (first | go_keep | (go_split_ands; exact ⟨hk5.cell s2, hk5.cell s3, hk5.cell s4⟩))
        ((go_at_call 66; refine (HYES.out _ f.shape HSF.out HBA.out _ ?_ ?_).mono ?_; (first | exact Kp0.refl _ | exact Kp0.drew (Kp0.refl _)); (first | exact (HRD.out _ (Kp0.refl _)).1 | exact (HRD.out _ (Kp0.drew (Kp0.refl _))).1); rintro e' w5 ⟨gM, cM, rfl, hk5, hgM, hcM, -⟩))
      have HGM := hid hgM
      have HCM := hid hcM
      clear hgM hcM
      have HK5 := hid hk5
      clear hk5 s2 s3 s4 s5
      obtain ⟨s2, s3, s4, s5⟩ := HS4.out w5 HK5.out
      go_wp2
      go_region_held3 (fun W => W.cell? ⟨pc, 2, none⟩ = some (.slice (some ⟨g2, 0, none⟩) EL c2) ∧ W.cell? ⟨g2, it, none⟩ = some (.slice sa m sd) ∧ W.cell? ⟨g2, ib, none⟩ = some (.slice ka km kd))
        (first | go_keep | (go_split_ands; exact ⟨(HS4.out _ hk6).1, (HS4.out _ hk6).2.1, (HS4.out _ hk6).2.2.2⟩))
        ((go_at_call 66; refine (HYES.out _ k.shape HSQ.out HBB.out _ ?_ ?_).mono ?_; (first | exact HK5.out | exact Kp0.drew HK5.out); (first | exact (HRD.out _ HK5.out).2.1 | exact (HRD.out _ (Kp0.drew HK5.out)).2.1); rintro e' w6 ⟨gQ, cQ, rfl, hk6, hgQ, hcQ, hk56⟩))
      have HG6 := hid (HG4.out.kp0 hk6)
      have HCQ := hid hcQ
      have HCM6 : Hid (∀ q, q < RL → w6.cell? ⟨gM, q, none⟩ = some (.int .i64 (nth (meant f.shape e.shape) q))) := hid (fun q hq => hk56.cell (HCM.out q hq))
      have HNM : Hid (¬ gM = gN ∧ ¬ gQ = gN) := hid (by have : gN < w4.heap.size := own_lt HG4.out.own rfl; have := HGM.out; exact ⟨by omega, by omega⟩)
      clear hk6 hgQ hcQ hk56 s2 s3 s4 s5 HCM HGM HNO HYES HRD HS4 HG4 HK5
      obtain ⟨mm, hmm⟩ : ∃ mm, meant f.shape e.shape = mm := ⟨_, rfl⟩
      have HMT := hid hmm
      obtain ⟨mk, hmk⟩ : ∃ mk, meant k.shape e.shape = mk := ⟨_, rfl⟩
      have HMK := hid hmk
      rw [hmm] at HCM6
      rw [hmk] at HCQ
      clear hmm hmk
      have hnn := nil_not gM RL cM
      have hnq := nil_not gQ RL cQ
      go_wp2
      clear hnn hnq
      go_loopw [23] (fun t w' => ∃ j : Nat, j ≤ RL ∧ t = .int .i64 j ∧ WG w0 w T w' T4 pc ps σ2 E EL g1 g2 g3 g4 c1 c2 c3 c4 P A gN cN n (wrTo V e.ranks F j) ⟨vK, vT, vA, vB, vO, vV⟩ gv ov V ∧ (∀ q, q < RL → w'.cell? ⟨gM, q, none⟩ = some (.int .i64 (nth mm q))) ∧ ∀ q, q < RL → w'.cell? ⟨gQ, q, none⟩ = some (.int .i64 (nth mk q))) (fun t _ => RL - (intOf t).toNat)
      case atStart => exact ⟨0, Nat.zero_le _, rfl, HG6.out, HCM6.out, HCQ.out⟩
      case round =>
        clear HG6 HCM6 HCQ
        obtain ⟨j, hj, rfl, hG5, hcM, hcQ⟩ := hrel
        have HG5 := hid hG5
        have HCM := hid hcM
        have HCQ := hid hcQ
        clear hG5 hcM hcQ
        by_cases hjR : j < RL
        · have HRB := hid (HM.out.rk HE.out j (by rw [HRL.out]; exact hjR))
          have HMB := hid (HM.out.mbd HE.out HF.out HBA.out j (by rw [HRL.out]; exact hjR))
          have HQB := hid (HM.out.mbd HE.out HQ.out HBB.out j (by rw [HRL.out]; exact hjR))
          rw [HMT.out, HRA.out] at HMB
          rw [HMK.out, HRBB.out] at HQB
          have HVV : Hid (opK op 2 (nth V (nth f.ranks (nth mm j).toNat).toNat) (nth V (nth k.ranks (nth mk j).toNat).toNat) = F j) := hid (by rw [← HFF.out, ← HMT.out, ← HMK.out]; rfl)
          have hrb := HRB.out
          have hmb := HMB.out
          have hqb := HQB.out
          have r1 := HG5.out.cg.rkc HE.out HPK.out HRL.out j hjR
          have r2 := HG5.out.cg.rkc HF.out HPFA.out HRA.out (nth mm j).toNat (by omega)
          have r3 := HCM.out j hjR
          have r4 := HG5.out.val (nth f.ranks (nth mm j).toNat).toNat (by omega)
          have r5 := HG5.out.cg.rkc HQ.out HPQA.out HRBB.out (nth mk j).toNat (by omega)
          have r6 := HCQ.out j hjR
          have r7 := HG5.out.val (nth k.ranks (nth mk j).toNat).toNat (by omega)
          have q3 := HG5.out.cg.q3
          obtain ⟨-, -, -, u3, -, -⟩ := HG5.out.cg.ent ia f HF.out
          obtain ⟨-, -, -, v3, -, -⟩ := HG5.out.cg.ent ib k HQ.out
          rw [HPFA.out, HRA.out] at u3
          rw [HPQA.out, HRBB.out] at v3
          obtain ⟨b1, b2⟩ := HG5.out.at (nth e.ranks j).toNat (by omega)
          have HST2 : Hid (WG w0 w T (wr.setCell ⟨gN, (nth e.ranks j).toNat, none⟩ (.int .i64 (F j))) T4 pc ps σ2 E EL g1 g2 g3 g4 c1 c2 c3 c4 P A gN cN n (wrTo V e.ranks F (j + 1)) ⟨vK, vT, vA, vB, vO, vV⟩ gv ov V) := hid (HG5.out.store (nth e.ranks j).toNat (by omega) (F j))
          have HCM2 : Hid (∀ q, q < RL → (wr.setCell ⟨gN, (nth e.ranks j).toNat, none⟩ (.int .i64 (F j))).cell? ⟨gM, q, none⟩ = some (.int .i64 (nth mm q))) := hid (fun q hq => put_cell HNM.out.1 (HCM.out q hq))
          have HCQ2 : Hid (∀ q, q < RL → (wr.setCell ⟨gN, (nth e.ranks j).toNat, none⟩ (.int .i64 (F j))).cell? ⟨gQ, q, none⟩ = some (.int .i64 (nth mk q))) := hid (fun q hq => put_cell HNM.out.2 (HCQ.out q hq))
          obtain ⟨hr0, hr1⟩ := hrb
          obtain ⟨-, hm0, hm1, ha0, ha1⟩ := hmb
          obtain ⟨-, hq0, hq1, hb0, hb1⟩ := hqb
          have i0 : (0 : Int) ≤ (j : Int) := by omega
          have i1 : (j : Int) < (RL : Int) := by omega
          clear HRB HMB HQB
          generalize nth (wrTo V e.ranks F j) (nth e.ranks j).toNat = old at b1
          generalize nth e.ranks j = ri at *
          generalize nth V (nth f.ranks (nth mm j).toNat).toNat = xa at *
          generalize nth V (nth k.ranks (nth mk j).toNat).toNat = xb at *
          generalize nth f.ranks (nth mm j).toNat = ra at *
          generalize nth k.ranks (nth mk j).toNat = rb at *
          generalize nth mm j = mj at *
          generalize nth mk j = kj at *
          generalize F j = fj at *
          have HMD : Hid (∀ W, Calls Tryz.prog 34 #[.int .i64 op, .int .i64 xa, .int .i64 xb] W fun e' w' => e' = .returned (.int .i64 fj) ∧ w' = W) := hid (fun W => by
            rw [← HVV.out]
            exact made_calls op xa xb W hopb.1 hopb.2)
          obtain ⟨n1, n2, n6, n34⟩ := HG5.out.apart
          have n3 := n34 _ _ HE.out _ _ HPK.out
          have n4 := n34 _ _ HF.out _ _ HPFA.out
          have n7 := n34 _ _ HQ.out _ _ HPQA.out
          obtain ⟨n5, n8⟩ := HNM.out
          clear n34
          go_wp2
          go_region_held3 (fun W => W.cell? ⟨pc, 3, none⟩ = some (.slice (some ⟨g3, 0, none⟩) EL c3) ∧ W.cell? ⟨g3, ia, none⟩ = some (.slice (some ⟨ga, oa, none⟩) RA (P ia).2.2.2) ∧ W.cell? ⟨g3, ib, none⟩ = some (.slice (some ⟨gb, ob, none⟩) RB (P ib).2.2.2) ∧ W.cell? ⟨gr, og + j, none⟩ = some (.int .i64 ri) ∧ W.cell? ⟨gM, j, none⟩ = some (.int .i64 mj) ∧ W.cell? ⟨gQ, j, none⟩ = some (.int .i64 kj) ∧ W.cell? ⟨ga, oa + mj.toNat, none⟩ = some (.int .i64 ra) ∧ W.cell? ⟨gb, ob + kj.toNat, none⟩ = some (.int .i64 rb) ∧ W.cell? ⟨gv, ov + ra.toNat, none⟩ = some (.int .i64 xa) ∧ W.cell? ⟨gv, ov + rb.toNat, none⟩ = some (.int .i64 xb))
            (first | (go_split_ands; exact ⟨put_celld n1 q3, put_celld n2 u3, put_celld n2 v3, put_celld n3 r1, put_celld n5 r3, put_celld n8 r6, put_celld n4 r2, put_celld n7 r5, put_celld n6 r4, put_celld n6 r7⟩) | (go_split_ands; exact ⟨q3, u3, v3, r1, r3, r6, r2, r5, r4, r7⟩) | go_keep)
            ((go_at_call 34; refine (HMD.out _).mono ?_; rintro e' w7 ⟨rfl, hw7⟩; obtain rfl := hw7.symm))
          have HG7 := hid HST2.out.drew
          have HCM7 : Hid (∀ q, q < RL → (wr.setCell ⟨gN, ri.toNat, none⟩ (.int .i64 fj)).drew.cell? ⟨gM, q, none⟩ = some (.int .i64 (nth mm q))) := hid HCM2.out
          have HCQ7 : Hid (∀ q, q < RL → (wr.setCell ⟨gN, ri.toNat, none⟩ (.int .i64 fj)).drew.cell? ⟨gQ, q, none⟩ = some (.int .i64 (nth mk q))) := hid HCQ2.out
          generalize (wr.setCell ⟨gN, ri.toNat, none⟩ (.int .i64 fj)).drew = W7 at HG7 HCM7 HCQ7 ⊢
          clear r1 r2 r3 r4 r5 r6 r7 q3 u3 v3 b1 b2 HST2 HCM2 HCQ2 HG5 HCM HCQ n1 n2 n3 n4 n5 n6 n7 n8 HMD
          go_wp2
          go_roundw
          case rel => exact ⟨j + 1, by omega, by go_num, HG7.out, HCM7.out, HCQ7.out⟩
          case measure => simp [intOf]; omega
        · have i1 : ¬ (j : Int) < (RL : Int) := by omega
          have HJ : Hid (j = RL) := hid (by omega)
          have q4 := HG5.out.cg.q4
          obtain ⟨-, u4, -, -, -, -⟩ := HG5.out.cg.ent it e HE.out
          clear hj hjR
          by_cases hro : e.ro = true
          · have HW := hid (HG5.out.old (by rw [← HS2.out, if_pos hro]; exact HM.out) cv)
            have hee : er = 6 := by rw [← HER.out, if_pos hro]
            rw [hro] at u4
            rw [hee]
            clear hro hee
            go_wp2
            go_ret2
            exact ⟨_, _, rfl, HW.out⟩
          · have HW := hid (HG5.out.new (by rw [← HS2.out, if_neg hro, if_pos (by simp), HJ.out]; exact HM.out.writes HE.out _ _ (by rw [HRL.out]; exact Nat.le_refl _)))
            have hee : er = 0 := by rw [← HER.out, if_neg hro, if_pos (by simp)]
            rw [(Bool.not_eq_true _).mp hro] at u4
            rw [hee]
            clear hro hee
            go_wp2
            go_ret2
            exact ⟨_, _, rfl, HW.out⟩

end Go.Proofs.YticbbncdcannlaaGreat

/- The law Written, walked. -/
namespace Go.Proofs.YticbbncdcannlaaGreat
open Go.RowKit

theorem writes_calls {w0 w : World} {T : Tags} {pc ps : Nat} {σ : Sp} {E : List CE} {n : Nat} {V : List Int} {B : Nat} (h : KI w0 w T pc ps σ E) (hM : KM σ E n V B) (h1 : 1 ≤ E.length) (h30 : E.length ≤ 1000) (av : Option Addr) (cv : Nat) (hv : RdV T w (.slice av n cv) V) (vK vT vA vB vO vV : Int) (wK : IntKind.i64.wrap vK = vK) (wT : IntKind.i64.wrap vT = vT) (wA : IntKind.i64.wrap vA = vA) (wB : IntKind.i64.wrap vB = vB) (wO : IntKind.i64.wrap vO = vO) (wV : IntKind.i64.wrap vV = vV) :
    Calls Tryz.prog 29 #[.pointer (some ⟨pc, 0, none⟩), .agg #[.int .i64 vK, .int .i64 vT, .int .i64 vA, .int .i64 vB, .int .i64 vO, .int .i64 vV], .slice av n cv] w fun e w' => ∃ ao cc, e = .returned (.tuple #[.slice ao n cc, .bool true]) ∧ Wrote w0 w T pc ps n E B (.slice ao n cc) w' := by
  have hp := pick_small (c := vK) (n := 4) (by omega)
  have hc : pickN vK 4 = 0 ∨ pickN vK 4 = 1 ∨ pickN vK 4 = 2 ∨ pickN vK 4 = 3 := by omega
  rcases hc with hc | hc | hc | hc
  · exact writesSet_calls h hM h1 h30 av cv hv vK vT vA vB vO vV wK wT wA wB wO wV hc
  · exact writesFill_calls h hM h1 h30 av cv hv vK vT vA vB vO vV wK wT wA wB wO wV hc
  · exact writesAssign_calls h hM h1 h30 av cv hv vK vT vA vB vO vV wK wT wA wB wO wV hc
  · exact writesWork_calls h hM h1 h30 av cv hv vK vT vA vB vO vV wK wT wA wB wO wV hc

/-- Between two writes: the cast, and a list that tells its values. -/
def Goes (w0 w : World) (pc ps n : Nat) (E : List CE) (B : Nat) (v : Value) : Prop := ∃ T σ V, KI w0 w T pc ps σ E ∧ KM σ E n V B ∧ RdV T w v V

theorem Goes.tells {w0 w : World} {pc ps n : Nat} {E : List CE} {B : Nat} {ao : Option Addr} {c : Nat} (h : Goes w0 w pc ps n E B (.slice ao n c)) (h1 : 1 ≤ E.length) (h30 : E.length ≤ 1000) :
    Calls Tryz.prog 16 #[.pointer (some ⟨pc, 0, none⟩), .slice ao n c] w fun e w' => e = .returned (.bool true) ∧ Goes w0 w' pc ps n E B (.slice ao n c) := by
  obtain ⟨T, σ, V, hI, hM, hv⟩ := h
  refine (tellsV_calls hI hM h1 h30 ao c hv).mono ?_
  rintro e w' ⟨rfl, T', ht, hI', hk⟩
  exact ⟨rfl, T', σ, V, hI', hM, hv.1.kp hk (fun b hb => (hv.2 b hb).2), fun b hb => ⟨Nat.lt_of_lt_of_le (hv.2 b hb).1 hk.size, by rw [ht b (hv.2 b hb).1]; exact (hv.2 b hb).2⟩⟩

theorem Goes.writes {w0 w : World} {pc ps n : Nat} {E : List CE} {B : Nat} {ao : Option Addr} {c : Nat} (h : Goes w0 w pc ps n E B (.slice ao n c)) (h1 : 1 ≤ E.length) (h30 : E.length ≤ 1000) (vK vT vA vB vO vV : Int) (wK : IntKind.i64.wrap vK = vK) (wT : IntKind.i64.wrap vT = vT) (wA : IntKind.i64.wrap vA = vA) (wB : IntKind.i64.wrap vB = vB) (wO : IntKind.i64.wrap vO = vO) (wV : IntKind.i64.wrap vV = vV) :
    Calls Tryz.prog 29 #[.pointer (some ⟨pc, 0, none⟩), .agg #[.int .i64 vK, .int .i64 vT, .int .i64 vA, .int .i64 vB, .int .i64 vO, .int .i64 vV], .slice ao n c] w fun e w' => ∃ ao cc, e = .returned (.tuple #[.slice ao n cc, .bool true]) ∧ Goes w0 w' pc ps n E B (.slice ao n cc) := by
  obtain ⟨T, σ, V, hI, hM, hv⟩ := h
  refine (writes_calls hI hM h1 h30 ao c hv vK vT vA vB vO vV wK wT wA wB wO wV).mono ?_
  rintro e w' ⟨ao', cc, rfl, T', σ', V', -, hI', hM', hv'⟩
  exact ⟨ao', cc, rfl, T', σ', V', hI', hM', hv'⟩

theorem Goes.keep {w0 w : World} {pc ps n : Nat} {E : List CE} {B : Nat} {v : Value} (h : Goes w0 w pc ps n E B v) : Kp0 w0 w := by
  obtain ⟨T, σ, V, hI, -, -⟩ := h
  exact hI.keep

set_option maxRecDepth 100000 in
set_option maxHeartbeats 8000000 in
theorem writtenLaw_calls (w : World) (va : Value) (raw : List Int) (hr : RdI w va raw) (hb : raw.length ≤ 1000000000) (hwf : ∀ j, j < raw.length → IntKind.i64.wrap (nth raw j) = nth raw j) (aS : Option Addr) (N cS : Nat) (vs : List VD) (hN : vs.length = N) (hS : 0 < N → ∃ g off, aS = some ⟨g, off, none⟩ ∧ VS w g off vs) (hNb : N ≤ 50000000)
    (aU : Option Addr) (M cU : Nat) (us : List VD) (hM : us.length = M) (hU : 0 < M → ∃ g off, aU = some ⟨g, off, none⟩ ∧ VS w g off us) (hMb : M ≤ 50000000) :
    Calls Tryz.prog 8 #[va, .slice aS N cS, .slice aU M cU] w fun e w' => e = .returned (.bool true) ∧ Kp0 w w' := by
  obtain ⟨n, hn⟩ : ∃ n, (vol (sizesOf raw)).toNat = n := ⟨_, rfl⟩
  have hsh := sizesOf_shape raw
  have HBG := hid (began_calls w va raw hr hb hwf n hn)
  have HKM0 : Hid ((bg (sizesOf raw) n n).ok → KM (bg (sizesOf raw) n n) [⟨1, sizesOf raw, rng 0 n, false⟩] n (rng 100 n) 1) := hid (fun hok => bg_km _ hsh.1 n hn (by have := hsh.2; omega) hok)
  have HS := hid hS
  have HN := hid hN
  have HU := hid hU
  have HMU := hid hM
  clear hr hb hwf hS hN hsh hn hU hM
  go_enter Tryz.func8, Tryz.ntmps8
  go_wp2_with fail
  refine HBG.out.mono ?_
  rintro e w1 ⟨pc, ps, T1, rfl, hI1⟩
  have HC1 : Hid (Casts w w1 pc ps n (rng 100 n) 1) := hid ⟨T1, _, _, hI1, HKM0.out hI1.ok, by simp, by simp⟩
  clear hI1 HBG HKM0
  go_wp2_with fail
  refine (plays_calls HC1.out aS N cS vs HN.out HS.out (by omega)).mono ?_
  rintro e w2 ⟨rfl, T2, σ, E, hI2, hM, hE1, hE30⟩
  obtain ⟨g1, g2, g3, g4, c1, c2, c3, c4, P, hcg⟩ := hI2.cg hE1
  obtain ⟨EL, hEL⟩ : ∃ EL, E.length = EL := ⟨_, rfl⟩
  rw [hEL] at hcg hE1 hE30
  have HEL := hid hEL
  have HM := hid hM
  have HCG := hid hcg
  obtain ⟨e0, he0, hr0, -⟩ := hM.fst
  obtain ⟨-, -, -, u30, -, -⟩ := hcg.ent 0 e0 he0
  rw [hr0, rng_length] at u30
  have q3 := hcg.q3
  have hn125 := hM.n2
  have hn1 := hM.n1
  have e00 : (0 : Int) < (EL : Int) := by omega
  clear hI2 hM hcg hEL HC1 he0 hr0
  go_wp2_with fail
  refine (first_list n w2 (by omega)).mono ?_
  rintro e w3 ⟨af, cf, rfl, hO3, hk3, hb3⟩
  have HGO : Hid (Goes w w3 pc ps n E (1 + N) (.slice af n cf)) := hid ⟨retag w2 T2 (0, 16), σ, rng 100 n, (HCG.out.kp0 (retag_to w2 T2 (0, 16)) hk3).ki, HM.out, hO3.rd, fun b hb => ⟨own_lt hO3 hb, by rw [retag_new (hb3 b hb)]; simp⟩⟩
  clear hO3 hk3 hb3 HCG q3 u30 HM
  have HE1 : Hid (1 ≤ E.length ∧ E.length ≤ 1000) := hid (by have := HEL.out; omega)
  clear HEL
  go_wp2
  go_loopw [9, 10] (fun v t w' => ∃ i : Nat, i ≤ M ∧ t = .int .i64 i ∧ ∃ ao cc, v = .slice ao n cc ∧ Goes w w' pc ps n E (1 + N) (.slice ao n cc)) (fun _ t _ => M - (intOf t).toNat)
  case atStart => exact ⟨0, Nat.zero_le _, rfl, af, cf, rfl, HGO.out⟩
  case round =>
    clear HGO
    obtain ⟨i, hi, rfl, ao, cc, rfl, hG⟩ := hrel
    have HG := hid hG
    clear hG
    by_cases hiM : i < M
    · have i0 : (0 : Int) ≤ (i : Int) := by omega
      have i1 : (i : Int) < (M : Int) := by omega
      obtain ⟨g, off, rfl, hV⟩ := HU.out (by omega)
      obtain ⟨v, hv⟩ : ∃ v, us[i]? = some v := ⟨_, List.getElem?_eq_getElem (by have := HMU.out; omega)⟩
      have hkp := HG.out.keep
      have y0 := hkp.cell (hV.cell i v hv 0 _ rfl)
      have y1 := hkp.cell (hV.cell i v hv 1 _ rfl)
      have y2 := hkp.cell (hV.cell i v hv 2 _ rfl)
      have y3 := hkp.cell (hV.cell i v hv 3 _ rfl)
      have y4 := hkp.cell (hV.cell i v hv 4 _ rfl)
      have y5 := hkp.cell (hV.cell i v hv 5 _ rfl)
      simp only [Nat.add_zero] at y0
      have HWF := hid (hV.wf i v hv)
      obtain ⟨vK, vO, vA, vB, vC, vD⟩ := v
      simp only at y0 y1 y2 y3 y4 y5 HWF
      clear hV hv hkp
      go_wp2_with fail
      refine (HG.out.writes HE1.out.1 HE1.out.2 vK vO vA vB vC vD HWF.out.1 HWF.out.2.1 HWF.out.2.2.1 HWF.out.2.2.2.1 HWF.out.2.2.2.2.1 HWF.out.2.2.2.2.2).mono ?_
      rintro e w4 ⟨ao4, cc4, rfl, hG4⟩
      have HG4 := hid hG4
      clear hG4 HG y0 y1 y2 y3 y4 y5
      go_wp2_with fail
      refine (HG4.out.tells HE1.out.1 HE1.out.2).mono ?_
      rintro e w5 ⟨rfl, hG5⟩
      have HG5 := hid hG5
      clear hG5 HG4
      go_wp2
      go_roundw
      case rel => exact ⟨i + 1, by omega, by go_num, ao4, cc4, rfl, HG5.out⟩
      case measure => simp [intOf]; omega
    · have i1 : ¬ (i : Int) < (M : Int) := by omega
      go_wp2_with fail
      refine (HG.out.tells HE1.out.1 HE1.out.2).mono ?_
      rintro e w5 ⟨rfl, hG5⟩
      have HKW := hid hG5.keep
      clear hG5 HG
      go_wp2
      go_ret
      exact ⟨rfl, HKW.out⟩

end Go.Proofs.YticbbncdcannlaaGreat
