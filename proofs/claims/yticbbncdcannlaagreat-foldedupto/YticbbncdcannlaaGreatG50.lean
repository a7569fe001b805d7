/- The cast: reshape, walked. -/
import Derived.Test.YticbbncdcannlaaGreatG38
import Derived.Test.YticbbncdcannlaaGreatG37
import Derived.Test.YticbbncdcannlaaGreatG45
import Derived.Test.YticbbncdcannlaaGreatG49
import Derived.Test.YticbbncdcannlaaGreatG26
import Derived.Test.YticbbncdcannlaaGreatG34

namespace Go.Proofs.YticbbncdcannlaaGreat
open Go.RowKit

/-- The cast, with the names of its parts, and one of its arrays. -/
structure CK (w0 w : World) (T : Tags) (pc ps : Nat) (σ : Sp) (E : List CE) (k : Nat) (e : CE) (EL g1 g2 g3 g4 c1 c2 c3 c4 : Nat) (a1 : Option Addr) (d1 : Nat) (a2 : Option Addr) (d2 : Nat) : Prop where
  ki : KI w0 w T pc ps σ E
  q0 : w.cell? ⟨pc, 0, none⟩ = some (.pointer (some ⟨ps, 0, none⟩))
  q1 : w.cell? ⟨pc, 1, none⟩ = some (.slice (some ⟨g1, 0, none⟩) EL c1)
  q2 : w.cell? ⟨pc, 2, none⟩ = some (.slice (some ⟨g2, 0, none⟩) EL c2)
  q3 : w.cell? ⟨pc, 3, none⟩ = some (.slice (some ⟨g3, 0, none⟩) EL c3)
  q4 : w.cell? ⟨pc, 4, none⟩ = some (.slice (some ⟨g4, 0, none⟩) EL c4)
  u1 : w.cell? ⟨g1, k, none⟩ = some (.int .i64 e.h)
  u2 : w.cell? ⟨g2, k, none⟩ = some (.slice a1 e.shape.length d1)
  u3 : w.cell? ⟨g3, k, none⟩ = some (.slice a2 e.ranks.length d2)
  u4 : w.cell? ⟨g4, k, none⟩ = some (.bool e.ro)
  r1 : RdT T w (.slice a1 e.shape.length d1) e.shape
  r2 : RdT T w (.slice a2 e.ranks.length d2) e.ranks
  tg : (T pc).1 = 0 ∧ (T g1).1 = 0 ∧ (T g2).1 = 0 ∧ (T g3).1 = 0 ∧ (T g4).1 = 0

theorem KI.ck {w0 w : World} {T : Tags} {pc ps : Nat} {σ : Sp} {E : List CE} (h : KI w0 w T pc ps σ E) {k : Nat} {e : CE} (he : E[k]? = some e) : ∃ g1 g2 g3 g4 c1 c2 c3 c4 a1 d1 a2 d2, CK w0 w T pc ps σ E k e E.length g1 g2 g3 g4 c1 c2 c3 c4 a1 d1 a2 d2 := by
  obtain ⟨q0, g1, g2, g3, g4, c1, c2, c3, c4, hq, ht, hg⟩ := h.cells
  have hk := (List.getElem?_eq_some_iff.1 he).1
  obtain ⟨q1, q2, q3, q4⟩ := hq (by omega)
  obtain ⟨u1, u4, a1, d1, a2, d2, u2, u3, r1, r2⟩ := hg k e he
  exact ⟨g1, g2, g3, g4, c1, c2, c3, c4, a1, d1, a2, d2, h, q0, q1, q2, q3, q4, u1, u2, u3, u4, r1, r2, ht (by omega)⟩

section
variable {w0 w w' : World} {T T' : Tags} {pc ps : Nat} {σ σ' : Sp} {E : List CE} {k : Nat} {e : CE} {EL g1 g2 g3 g4 c1 c2 c3 c4 : Nat} {a1 : Option Addr} {d1 : Nat} {a2 : Option Addr} {d2 : Nat}

theorem CK.goes (h : CK w0 w T pc ps σ E k e EL g1 g2 g3 g4 c1 c2 c3 c4 a1 d1 a2 d2) {Z : Nat → Prop} (ht : TagsTo w T T') (hr : XRep T' 1 w' ps σ') (kk : Kp Z w w') (hz : ∀ b, b < w.heap.size → Z b → (T b).1 ≠ 0) : CK w0 w' T' pc ps σ' E k e EL g1 g2 g3 g4 c1 c2 c3 c4 a1 d1 a2 d2 := by
  have l0 : pc < w.heap.size := block_lt_of_cell h.q0
  have l1 : g1 < w.heap.size := block_lt_of_cell h.u1
  have l2 : g2 < w.heap.size := block_lt_of_cell h.u2
  have l3 : g3 < w.heap.size := block_lt_of_cell h.u3
  have l4 : g4 < w.heap.size := block_lt_of_cell h.u4
  have n0 : ∀ b, b < w.heap.size → (T b).1 = 0 → ¬ Z b := fun b hb h0 z => hz b hb z h0
  exact ⟨h.ki.goes ht hr kk hz, kk.cell h.q0 (n0 _ l0 h.tg.1), kk.cell h.q1 (n0 _ l0 h.tg.1), kk.cell h.q2 (n0 _ l0 h.tg.1), kk.cell h.q3 (n0 _ l0 h.tg.1), kk.cell h.q4 (n0 _ l0 h.tg.1),
    kk.cell h.u1 (n0 _ l1 h.tg.2.1), kk.cell h.u2 (n0 _ l2 h.tg.2.2.1), kk.cell h.u3 (n0 _ l3 h.tg.2.2.2.1), kk.cell h.u4 (n0 _ l4 h.tg.2.2.2.2),
    h.r1.kp ht kk (fun b i hb _ e z => hz b hb z (by rw [e])), h.r2.kp ht kk (fun b i hb _ e z => hz b hb z (by rw [e])),
    by rw [ht _ l0, ht _ l1, ht _ l2, ht _ l3, ht _ l4]; exact h.tg⟩

theorem CK.kp0 (h : CK w0 w T pc ps σ E k e EL g1 g2 g3 g4 c1 c2 c3 c4 a1 d1 a2 d2) (ht : TagsTo w T T') (kk : Kp0 w w') : CK w0 w' T' pc ps σ E k e EL g1 g2 g3 g4 c1 c2 c3 c4 a1 d1 a2 d2 :=
  h.goes ht ((h.ki.rep.tags ht).kp kk (fun _ _ e => e)) kk (fun _ _ e => e.elim)

theorem CK.step (h : CK w0 w T pc ps σ E k e EL g1 g2 g3 g4 c1 c2 c3 c4 a1 d1 a2 d2) (hs : Step XRep T 1 w ps σ' w') : ∃ T', TagsTo w T T' ∧ CK w0 w' T' pc ps σ' E k e EL g1 g2 g3 g4 c1 c2 c3 c4 a1 d1 a2 d2 ∧ Kp (fun b => (T b).1 = 1) w w' := by
  obtain ⟨T', h1, h2, h3⟩ := hs
  exact ⟨T', h1, h.goes h1 h2 h3 (fun b _ e => by rw [e]; simp), h3⟩

theorem CK.stepL (h : CK w0 w T pc ps σ E k e EL g1 g2 g3 g4 c1 c2 c3 c4 a1 d1 a2 d2) {v : Value} {xs : List Int} (hs : StepL XRep T 1 w ps σ' w' (0, 16) v xs) : ∃ T' ao c, v = .slice ao xs.length c ∧ TagsTo w T T' ∧ CK w0 w' T' pc ps σ' E k e EL g1 g2 g3 g4 c1 c2 c3 c4 a1 d1 a2 d2 ∧ Kp (fun b => (T b).1 = 1) w w' ∧ RdT T' w' (.slice ao xs.length c) xs := by
  obtain ⟨T', h1, h2, h3, ao, c, rfl, h4, h5, h6⟩ := hs
  exact ⟨T', ao, c, rfl, h1, h.goes h1 h2 h3 (fun b _ e => by rw [e]; simp), h3, h4.rd, fun b hb => ⟨own_lt h4 hb, 16, ⟨Nat.le_refl _, h4.cap⟩, h5 b hb⟩⟩

theorem RdT.step1 {v : Value} {xs : List Int} (h : RdT T w v xs) (ht : TagsTo w T T') (kk : Kp (fun b => (T b).1 = 1) w w') : RdT T' w' v xs :=
  h.kp ht kk (fun b i _ _ e z => by rw [e] at z; cases z)
end

end Go.Proofs.YticbbncdcannlaaGreat

/- The cast: reshape, walked. -/
namespace Go.Proofs.YticbbncdcannlaaGreat
open Go.RowKit

theorem rd_builtW (W : World) (xs : List Int) (cs : Array Value) (h : cs = (ints xs).toArray) (b n : Nat) (hb : W.heap.size = b) (hn : xs.length = n) : RdI (W.alloc (.cells cs 3)) (.slice (some ⟨b, 0, none⟩) n n) xs := by
  subst hb hn
  exact rd_built W xs cs h

set_option maxRecDepth 100000 in
set_option maxHeartbeats 8000000 in
theorem kreshape_calls {w0 w : World} {T : Tags} {pc ps : Nat} {σ : Sp} {E : List CE} {n : Nat} {V : List Int} {B : Nat} (h : KI w0 w T pc ps σ E) (hM : KM σ E n V B) (hlt : E.length < 40) (hB : B + 1 ≤ 100000000) (k : Nat) (e : CE) (he : E[k]? = some e) (vK vO vA vB vC vD : Int) (wA : IntKind.i64.wrap vA = vA) :
    Calls Tryz.prog 48 #[.pointer (some ⟨pc, 0, none⟩), .agg #[.int .i64 vK, .int .i64 vO, .int .i64 vA, .int .i64 vB, .int .i64 vC, .int .i64 vD], .int .i64 (k : Int)] w fun e w' => e = .returned (.bool true) ∧ Viewed w0 w T pc ps n V E B w' := by
  obtain ⟨g1, g2, g3, g4, c1, c2, c3, c4, a1, d1, a2, d2, hck⟩ := h.ck he
  have hs : okShape e.shape := (hM.aok he).shape
  obtain ⟨EL, hEL⟩ : ∃ EL, E.length = EL := ⟨_, rfl⟩
  rw [hEL] at hck hlt
  have hkE : k < EL := by rw [← hEL]; exact (List.getElem?_eq_some_iff.1 he).1
  have k0 : (0 : Int) ≤ (k : Int) := by omega
  have k1 : (k : Int) < (EL : Int) := by omega
  have hv1 := vol_whole hs
  have hv4 := (hM.ent _ _ he).2.2.1
  have HM := hid hM
  have HE := hid he
  have HEL := hid hEL
  have HSH := hid hs
  have HWA := hid wA
  have HCK := hid hck
  have q2 := hck.q2
  have u2 := hck.u2
  have hpc : pc < w.heap.size := block_lt_of_cell hck.q0
  have hg2 : g2 < w.heap.size := block_lt_of_cell hck.u2
  obtain ⟨m, hm⟩ : ∃ m, e.shape.length = m := ⟨_, rfl⟩
  have HMM := hid hm
  rw [hm] at u2
  obtain ⟨v, hv⟩ : ∃ v : Nat, vol e.shape = (v : Int) := ⟨(vol e.shape).toNat, by omega⟩
  have HV := hid hv
  rw [hv] at hv1 hv4
  have hp6 := pick_small (c := vA) (n := 6) (by omega)
  obtain ⟨d, hd⟩ : ∃ d, 1 + pickN vA 6 = d := ⟨_, rfl⟩
  have HD := hid hd
  have hdb : 1 ≤ d ∧ d ≤ 6 := by omega
  have hz : (d == 0) = false := by simp; omega
  have hz2 : ¬ d = 0 := by omega
  have hm1' : ¬ d = -1 := by omega
  have hr1 : 0 ≤ (v : Int).tmod d ∧ (v : Int).tmod d < d := by
    rw [Int.tmod_eq_emod_of_nonneg (by omega)]
    exact ⟨Int.emod_nonneg _ (by omega), Int.emod_lt_of_pos _ (by omega)⟩
  have hq1 : 0 ≤ (v : Int).tdiv d ∧ (v : Int).tdiv d ≤ 400 := by
    rw [Int.tdiv_eq_ediv_of_nonneg (by omega)]
    exact ⟨Int.ediv_nonneg (by omega) (by omega), Int.le_trans (Int.ediv_le_self _ (by omega)) hv4⟩
  have hq2 : 0 ≤ (v : Int) / d ∧ (v : Int) / d ≤ 400 := by
    rw [← Int.tdiv_eq_ediv_of_nonneg (by omega)]
    exact hq1
  have HQD : Hid ((v : Int).tdiv d = (v : Int) / d) := hid (Int.tdiv_eq_ediv_of_nonneg (by omega))
  have HRD : Hid ((v : Int).tmod d = (v : Int) % d) := hid (Int.tmod_eq_emod_of_nonneg (by omega))
  obtain ⟨W1, hW1⟩ : ∃ W1, w.alloc (.cells #[.int .i64 vK, .int .i64 vO, .int .i64 vA, .int .i64 vB, .int .i64 vC, .int .i64 vD] 93) = W1 := ⟨_, rfl⟩
  have HW1 := hid hW1
  have HKW1 : Hid (Kp0 w W1) := hid (by rw [← hW1]; exact Kp.alloc (Kp.refl _ _) _)
  have y2 : W1.cell? ⟨w.heap.size, 2, none⟩ = some (.int .i64 vA) := by rw [← hW1]; simp
  clear h hM he hs wA hck hEL hm hv hd hW1
  go_enter Tryz.func48, Tryz.ntmps48
  go_wp2_with fail
  rw [HW1.out]
  refine (kvolume_calls _ e.shape W1 (by have := HCK.out.r1.1.kp0 HKW1.out; rw [HMM.out] at this; exact this) HSH.out.2.1 HSH.out.1).mono ?_
  rintro e' w' ⟨rfl, hw⟩
  obtain rfl := hw.symm
  rw [HV.out]
  go_wp2_with fail
  refine (pick_calls vA 6 W1 HWA.out (by omega)).mono ?_
  rintro e' w' ⟨rfl, hw⟩
  obtain rfl := hw.symm
  have hwd : IntKind.i64.wrap (1 + pickN vA 6) = d := by rw [HD.out]; exact bd_wf (by omega)
  obtain ⟨s', hs'⟩ : ∃ s', rsS (v : Int) d = s' := ⟨_, rfl⟩
  have HS' := hid hs'
  clear hs'
  go_upto_if 37 with (fail)
  go_cut [9] from 37 (fun s9 W => ∃ b, s9 = .slice (some ⟨b, 0, none⟩) s'.length s'.length ∧ w.heap.size ≤ b ∧ b < W.heap.size ∧ RdI W (.slice (some ⟨b, 0, none⟩) s'.length s'.length) s' ∧ Kp0 w W)
  case first =>
    by_cases h0 : (v : Int) % d = 0
    · have hb0 : ((v : Int).tmod d == 0) = true := by rw [HRD.out]; simp [h0]
      have hb0' : ((v : Int) % d == 0) = true := by simp [h0]
      have HSE : Hid (s' = [d, (v : Int) / d]) := hid (by rw [← HS'.out]; simp [rsS, h0])
      go_wp2_with fail
      go_meet
      case rel =>
        rw [HSE.out]
        have hsw := HKW1.out.size
        exact ⟨W1.heap.size + 1, rfl, by omega, by simp, rd_builtW _ [d, (v : Int) / d] _ (by first | rfl | (rw [HQD.out]; rfl)) _ _ (by simp) rfl, (HKW1.out.alloc _).alloc _⟩
    · have hb0 : ((v : Int).tmod d == 0) = false := by rw [HRD.out]; simp [h0]
      have hb0' : ((v : Int) % d == 0) = false := by simp [h0]
      have HSE : Hid (s' = [(v : Int)]) := hid (by rw [← HS'.out]; simp [rsS, h0])
      go_wp2_with fail
      go_meet
      case rel =>
        rw [HSE.out]
        have hsw := HKW1.out.size
        exact ⟨W1.heap.size, rfl, by omega, by simp, rd_builtW _ [(v : Int)] _ rfl _ _ rfl rfl, HKW1.out.alloc _⟩
  case rest =>
    obtain ⟨b, rfl, hbw, hbW, hRS, hKW2⟩ := hcut
    have HLS : Hid (s'.length = 1 ∨ s'.length = 2) := hid (by rw [← HS'.out]; unfold rsS; split <;> simp)
    obtain ⟨L, hL⟩ : ∃ L, s'.length = L := ⟨_, rfl⟩
    rw [hL] at hRS HLS ⊢
    have HL := hid hL
    have hL12 : 1 ≤ L ∧ L ≤ 2 := by have := HLS.out; omega
    have HRS := hid hRS
    have HKW2 := hid hKW2
    have HBW := hid hbw
    have HBB := hid hbW
    clear hL hRS hKW2 hbw hbW y2
    obtain ⟨W2, hW2⟩ : ∃ W2, wc = W2 := ⟨_, rfl⟩
    rw [hW2] at HRS HKW2 HBB ⊢
    clear hW2
    by_cases hbig : 60 < (v : Int) / d
    · have db : decide (60 < (v : Int) / d) = true := by simp [hbig]
      go_wp2
      go_ret
      exact ⟨rfl, T, σ, E, fun _ _ => rfl, HCK.out.ki.kp0 (fun _ _ => rfl) HKW2.out, HM.out.more (by omega), Nat.le_refl _, by omega⟩
    · have db : decide (60 < (v : Int) / d) = false := by simp; omega
      by_cases hone : 60 < (v : Int) ∧ L = 1
      · have dv : decide (60 < (v : Int)) = true := by simp [hone.1]
        have dl : ((L : Int) == 1) = true := by simp; omega
        have dv' : 60 < (v : Int) := hone.1
        clear hone
        go_wp2
        go_ret
        exact ⟨rfl, T, σ, E, fun _ _ => rfl, HCK.out.ki.kp0 (fun _ _ => rfl) HKW2.out, HM.out.more (by omega), Nat.le_refl _, by omega⟩
      · have HSH' : Hid (okShape s') := hid (by
          rw [← HS'.out]
          exact rsS_ok hv1 hv4 hdb.1 hdb.2 (by omega) (fun hh => hone ⟨hh.1, by rw [← HL.out, ← HS'.out]; exact hh.2⟩))
        have HVV : Hid (vol s' = vol e.shape) := hid (by rw [← HS'.out, HV.out]; exact rsS_vol hv1 hdb.1)
        have tg2 := retag_to w T (0, 16)
        obtain ⟨T2, hT2⟩ : ∃ T2, retag w T (0, 16) = T2 := ⟨_, rfl⟩
        rw [hT2] at tg2
        have HT2 := hid tg2
        have HN2 : Hid (∀ b, w.heap.size ≤ b → T2 b = (0, 16)) := hid (fun b hb => by rw [← hT2]; exact retag_new hb)
        clear tg2 hT2
        have HC2 := hid (HCK.out.kp0 HT2.out HKW2.out)
        have HRT2 : Hid (RdT T2 W2 (.slice (some ⟨b, 0, none⟩) L L) s') := hid ⟨HRS.out, fun x hx => by
          simp [Value.ownBlock] at hx
          subst hx
          exact ⟨HBB.out, 16, ⟨Nat.le_refl _, Nat.le_refl _⟩, HN2.out b HBW.out⟩⟩
        obtain ⟨tv, htv⟩ : ∃ tv, e.told V = tv := ⟨_, rfl⟩
        have HTV := hid htv
        have HVE : Hid (σ.values e.h = (tv, 0)) := hid (by
          unfold Sp.values
          rw [HM.out.find HE.out]
          simp only
          rw [HM.out.told HE.out, htv])
        have HTL : Hid (tv.length = v) := hid (by
          have h1 := HM.out.rlen HE.out
          have h2 := CE.told_length e V
          rw [htv] at h2
          have h3 := HV.out
          omega)
        clear htv hq1 hr1 hz hz2 hm1' hp6 hwd
        have HX1 : Hid (∀ W, Kp0 W2 W → Calls Tryz.prog 26 #[.pointer (some ⟨ps, 0, none⟩), .int .i64 e.h] W fun e' w3 => ∃ ao c, e' = .returned (.tuple #[.slice ao v c, .int .i64 0]) ∧ ∃ T3, TagsTo W2 T2 T3 ∧ CK w0 w3 T3 pc ps σ E k e EL g1 g2 g3 g4 c1 c2 c3 c4 a1 d1 a2 d2 ∧ Kp (fun b => (T2 b).1 = 1) W2 w3 ∧ RdT T3 w3 (.slice ao v c) tv) := hid (fun W kW => by
          have hCW := HC2.out.kp0 (fun _ _ => rfl) kW
          refine (xc_values e.h (0, 16) hCW.ki.rep).mono ?_
          rintro e' w3 ⟨v', rfl, hst⟩
          rw [HVE.out] at hst ⊢
          obtain ⟨T3, ao, c, rfl, h1, h2, h3, h4⟩ := hCW.stepL hst
          simp only [HTL.out] at h4 ⊢
          exact ⟨ao, c, rfl, T3, fun b hb => h1 b (Nat.lt_of_lt_of_le hb kW.size), h2, (Kp.of0 kW).trans h3 (fun _ _ e => e), h4⟩)
        have s0 := HC2.out.q0
        have s1 := HC2.out.q1
        have s2 := HC2.out.u1
        go_upto_region 6 with (fail)
        go_cut [55] from 43 (fun s55 W => s55 = .bool false ∧ W = W2)
        case first =>
          by_cases hv60 : 60 < (v : Int)
          · have dv : decide (60 < (v : Int)) = true := by simp [hv60]
            have dl : ((L : Int) == 1) = false := by simp; omega
            clear hone
            go_wp2_with fail
            go_meet
            case rel => exact ⟨rfl, rfl⟩
          · have dv : decide (60 < (v : Int)) = false := by simp; omega
            clear hone
            go_wp2_with fail
            go_meet
            case rel => exact ⟨rfl, rfl⟩
        case rest =>
        obtain ⟨rfl, hwc⟩ := hcut
        obtain rfl := hwc.symm
        clear q2 u2
        go_wp2
        go_region_held3 (fun W => W.cell? ⟨pc, 0, none⟩ = some (.pointer (some ⟨ps, 0, none⟩)) ∧ W.cell? ⟨pc, 1, none⟩ = some (.slice (some ⟨g1, 0, none⟩) EL c1) ∧ W.cell? ⟨g1, k, none⟩ = some (.int .i64 e.h)) (first | go_keep | (go_split_ands; exact ⟨hC3.q0, hC3.q1, hC3.u1⟩))
          ((go_at_call 26; refine (HX1.out _ ?_).mono ?_; (first | exact Kp0.refl _ | exact Kp0.drew (Kp0.refl _)); rintro e' w3 ⟨ao3, c3', rfl, T3, ht3, hC3, hk3, hl3⟩))
        have HC3 := hid hC3
        have HL3 := hid hl3
        have HRT3 := hid (HRT2.out.step1 ht3 hk3)
        have HT3 : Hid (∀ b, b < w.heap.size → T3 b = T b) := hid (fun b hb => by rw [ht3 b (Nat.lt_of_lt_of_le hb HKW2.out.size), HT2.out b hb])
        have hs3 : w.heap.size ≤ w3.heap.size := Nat.le_trans HKW2.out.size hk3.size
        clear ht3 hC3 hk3 hl3 HX1 s0 s1 s2 HRT2 HC2 HRS
        obtain ⟨hN, hhN⟩ : ∃ hN, (σ.arrs.length : Int) + 1 = hN := ⟨_, rfl⟩
        have HHN := hid hhN
        have HX2 : Hid (∀ W, Kp0 w3 W → Calls Tryz.prog 24 #[.pointer (some ⟨ps, 0, none⟩), .int .i64 e.h, .slice (some ⟨b, 0, none⟩) L L] W fun e' w4 => ∃ vw, e' = .returned (.tuple #[.int .i64 hN, .bool vw, .int .i64 0]) ∧ ∃ T4, TagsTo w3 T3 T4 ∧ CK w0 w4 T4 pc ps (σ.reshape e.h s').1 E k e EL g1 g2 g3 g4 c1 c2 c3 c4 a1 d1 a2 d2 ∧ Kp (fun b => (T3 b).1 = 1) w3 w4 ∧
            ((σ.reshape e.h s').1.values hN = (tv, 0) ∧ (σ.reshape e.h s').1.shared hN e.h = (vw, 0) ∧ (vw = true → KM (σ.reshape e.h s').1 (E ++ [⟨hN, s', e.ranks, e.ro⟩]) n V (B + 1)) ∧ (vw = false → ((σ.reshape e.h s').1.free hN).2 = 0 ∧ KM ((σ.reshape e.h s').1.free hN).1 E n V (B + 1)))) := hid (fun W kW => by
          have hCW := HC3.out.kp0 (fun _ _ => rfl) kW
          refine (xc_reshape e.h _ s' (HRT3.out.1.kp0 kW) hCW.ki.rep (by have := HM.out.many; omega) (by have := HM.out.bufs; omega)).mono ?_
          rintro e' w4 ⟨rfl, hst⟩
          obtain ⟨T4, h1, h2, h3⟩ := hCW.step hst
          obtain ⟨vw, r1, r2, r3, r4, r5⟩ := HM.out.reshaped HE.out (by have := HEL.out; omega) s' HSH'.out HVV.out (by have := HM.out.many; omega) h2.ki.ok
          rw [hhN] at r1 r2 r3 r4 r5
          rw [HTV.out] at r2
          refine ⟨vw, by rw [r1], T4, fun b hb => h1 b (Nat.lt_of_lt_of_le hb kW.size), h2, (Kp.of0 kW).trans h3 (fun _ _ e => e), r2, r3, r4, r5⟩)
        clear hhN
        have s0 := HC3.out.q0
        have s1 := HC3.out.q1
        have s2 := HC3.out.u1
        go_wp2
        go_region_held3 (fun W => W.cell? ⟨pc, 0, none⟩ = some (.pointer (some ⟨ps, 0, none⟩)) ∧ W.cell? ⟨pc, 1, none⟩ = some (.slice (some ⟨g1, 0, none⟩) EL c1) ∧ W.cell? ⟨g1, k, none⟩ = some (.int .i64 e.h)) (first | go_keep | (go_split_ands; exact ⟨hC4.q0, hC4.q1, hC4.u1⟩))
          ((go_at_call 24; refine (HX2.out _ ?_).mono ?_; (first | exact Kp0.refl _ | exact Kp0.drew (Kp0.refl _)); rintro e' w4 ⟨vw, rfl, T4, ht4, hC4, hk4, hF4⟩))
        have HC4 := hid hC4
        have HL4 := hid (HL3.out.step1 ht4 hk4)
        have HRT4 := hid (HRT3.out.step1 ht4 hk4)
        have HT4 : Hid (∀ b, b < w.heap.size → T4 b = T b) := hid (fun b hb => by rw [ht4 b (by omega), HT3.out b hb])
        have hs4 : w.heap.size ≤ w4.heap.size := Nat.le_trans hs3 hk4.size
        have HF4 := hid hF4
        clear ht4 hC4 hk4 hF4 HX2 s0 s1 s2 HRT3 HC3 HL3
        have s0 := HC4.out.q0
        obtain ⟨σ1, hσ1⟩ : ∃ σ1, (σ.reshape e.h s').1 = σ1 := ⟨_, rfl⟩
        rw [hσ1] at HC4 HF4
        clear hσ1
        go_wp2_with fail
        refine (xc_values hN (0, 16) HC4.out.ki.rep).mono ?_
        rintro e' w5 ⟨v', rfl, hst⟩
        rw [HF4.out.1] at hst ⊢
        obtain ⟨T5, ao5, c5, rfl, ht5, hC5, hk5, hl5⟩ := HC4.out.stepL hst
        simp only [HTL.out] at hl5 ⊢
        have HC5 := hid hC5
        have HL5 := hid hl5
        have HW5 := hid (HL4.out.step1 ht5 hk5)
        have HRT5 := hid (HRT4.out.step1 ht5 hk5)
        have HT5 : Hid (∀ b, b < w.heap.size → T5 b = T b) := hid (fun b hb => by rw [ht5 b (by omega), HT4.out b hb])
        have hs5 : w.heap.size ≤ w5.heap.size := Nat.le_trans hs4 hk5.size
        clear hst ht5 hC5 hk5 hl5 s0 HRT4 HC4 HL4
        go_wp2_with fail
        refine (ksame_calls _ _ tv tv w5 HW5.out.1 HL5.out.1 (by rw [HTL.out]; omega)).mono ?_
        rintro e' w6 ⟨rfl, hk6⟩
        have HC6 := hid (HC5.out.kp0 (retag_to w5 T5 (0, 16)) hk6)
        have HRT6 := hid (HRT5.out.kp (retag_to w5 T5 (0, 16)) hk6 (fun _ _ _ _ _ e => e))
        have HT6 : Hid (∀ b, b < w.heap.size → retag w5 T5 (0, 16) b = T b) := hid (fun b hb => by rw [retag_to w5 T5 _ b (by omega), HT5.out b hb])
        have hs6 : w.heap.size ≤ w6.heap.size := Nat.le_trans hs5 hk6.size
        clear hk6 HC5 HL5 HW5 HRT5
        generalize retag w5 T5 (0, 16) = T6 at *
        have dtt : decide (tv = tv) = true := by simp
        have HX3 : Hid (∀ W, Kp0 w6 W → Calls Tryz.prog 18 #[.pointer (some ⟨ps, 0, none⟩), .int .i64 hN, .int .i64 e.h] W fun e' w7 => e' = .returned (.tuple #[.bool vw, .int .i64 0]) ∧ ∃ T7, TagsTo w6 T6 T7 ∧ CK w0 w7 T7 pc ps σ1 E k e EL g1 g2 g3 g4 c1 c2 c3 c4 a1 d1 a2 d2 ∧ Kp (fun b => (T6 b).1 = 1) w6 w7) := hid (fun W kW => by
          have hCW := HC6.out.kp0 (fun _ _ => rfl) kW
          refine (xc_shared hN e.h hCW.ki.rep).mono ?_
          rintro e' w7 ⟨rfl, hst⟩
          obtain ⟨T7, h1, h2, h3⟩ := hCW.step hst
          rw [HF4.out.2.1]
          exact ⟨rfl, T7, fun b hb => h1 b (Nat.lt_of_lt_of_le hb kW.size), h2, (Kp.of0 kW).trans h3 (fun _ _ e => e)⟩)
        have s0 := HC6.out.q0
        have s1 := HC6.out.q1
        have s2 := HC6.out.u1
        go_wp2
        go_region_held3 (fun W => W.cell? ⟨pc, 0, none⟩ = some (.pointer (some ⟨ps, 0, none⟩)) ∧ W.cell? ⟨pc, 1, none⟩ = some (.slice (some ⟨g1, 0, none⟩) EL c1) ∧ W.cell? ⟨g1, k, none⟩ = some (.int .i64 e.h)) (first | go_keep | (go_split_ands; exact ⟨hC7.q0, hC7.q1, hC7.u1⟩))
          ((go_at_call 18; refine (HX3.out _ ?_).mono ?_; (first | exact Kp0.refl _ | exact Kp0.drew (Kp0.refl _)); rintro e' w7 ⟨rfl, T7, ht7, hC7, hk7⟩))
        have HC7 := hid hC7
        have HRT7 := hid (HRT6.out.step1 ht7 hk7)
        have HT7 : Hid (∀ b, b < w.heap.size → T7 b = T b) := hid (fun b hb => by rw [ht7 b (by omega), HT6.out b hb])
        have hs7 : w.heap.size ≤ w7.heap.size := Nat.le_trans hs6 hk7.size
        clear ht7 hC7 hk7 HX3 s0 s1 s2 HRT6 HC6
        have dvw : (vw != vw) = false := by simp
        cases vw
        · have s0 := HC7.out.q0
          go_wp2_with fail
          refine (xc_free hN HC7.out.ki.rep).mono ?_
          rintro e' w8 ⟨rfl, hst⟩
          obtain ⟨T8, ht8, hC8, hk8⟩ := HC7.out.step hst
          obtain ⟨f1, f2⟩ := HF4.out.2.2.2 (by first | rfl | trivial)
          rw [f1]
          have HC8 := hid hC8
          have HF2 := hid f2
          have HT8 : Hid (TagsTo w T T8) := hid (fun b hb => by rw [ht8 b (by omega), HT7.out b hb])
          clear hst ht8 hC8 hk8 f1 f2
          go_wp2
          go_ret
          exact ⟨rfl, T8, _, E, HT8.out, HC8.out.ki, HF2.out, Nat.le_refl _, by omega⟩
        · have s0 := HC7.out.q3
          have s1 := HC7.out.u3
          have s2 := HC7.out.q4
          have s3 := HC7.out.u4
          have HKM := hid (HF4.out.2.2.1 (by first | rfl | trivial))
          obtain ⟨RL, hRL⟩ : ∃ RL, e.ranks.length = RL := ⟨_, rfl⟩
          have HR2 := hid HC7.out.r2
          rw [hRL] at s1 HR2
          clear hRL
          have HX4 : Hid (∀ W, Kp0 w7 W → Calls Tryz.prog 44 #[.pointer (some ⟨pc, 0, none⟩), .int .i64 hN, .slice (some ⟨b, 0, none⟩) L L, .slice a2 RL d2, .bool e.ro] W fun e' w8 => ∃ u, e' = .returned u ∧ (u = .tuple #[] ∧ ∃ T8, TagsTo w7 T7 T8 ∧ KI w0 w8 T8 pc ps σ1 (E ++ [⟨hN, s', e.ranks, e.ro⟩]))) := hid (fun W kW => by
            have hCW := HC7.out.kp0 (fun _ _ => rfl) kW
            refine (put_calls hCW.ki hN _ _ s' e.ranks e.ro (HRT7.out.kp (fun _ _ => rfl) kW (fun _ _ _ _ _ e => e)) (HR2.out.kp (fun _ _ => rfl) kW (fun _ _ _ _ _ e => e)) (by have := HEL.out; omega)).mono ?_
            rintro e' w8 ⟨rfl, T8, h1, h2, -⟩
            exact ⟨_, rfl, rfl, T8, fun b hb => h1 b (Nat.lt_of_lt_of_le hb kW.size), h2⟩)
          have HKc : Hid (Kp0 w7 w7.drew) := hid (Kp0.refl w7).drew
          go_wp2
          go_region_law ((refine step_call5 (by rfl) 44 (.tmp 146) (.tmp 147) (.tmp 148) (.tmp 155) (.tmp 162) _ (by rfl) _ Tryz.func44 (by kernel_rfl) (by kernel_rfl) _ _ _ _ _ (by rfl) (by rfl) (by rfl) (by rfl) (by rfl) (HX4.out _ HKc.out) ?_; intro u8 w8 hR8; obtain ⟨rfl, T8, ht8, hI8⟩ := hR8))
          all_goals (
            have HI8 := hid hI8
            have HT8 := hid ht8
            clear ht8 hI8
            go_wp2
            go_ret
            exact ⟨rfl, T8, _, _, fun b hb => by rw [HT8.out b (by omega), HT7.out b hb], HI8.out, HKM.out, by simp, by simp⟩)

end Go.Proofs.YticbbncdcannlaaGreat

/- The cast: plays, walked. -/
namespace Go.Proofs.YticbbncdcannlaaGreat
open Go.RowKit

/-- One view, by raw numbers. -/
structure VD where
  vK : Int
  vO : Int
  vA : Int
  vB : Int
  vC : Int
  vD : Int

def VD.cells (v : VD) : List Value := [.int .i64 v.vK, .int .i64 v.vO, .int .i64 v.vA, .int .i64 v.vB, .int .i64 v.vC, .int .i64 v.vD]

/-- Views in the caller's memory. -/
structure VS (w : World) (g off : Nat) (vs : List VD) : Prop where
  cell : ∀ (j : Nat) (v : VD), vs[j]? = some v → ∀ (f : Nat) (x : Value), v.cells[f]? = some x → w.cell? ⟨g, off + j * 6 + f, none⟩ = some x
  wf : ∀ (j : Nat) (v : VD), vs[j]? = some v → IntKind.i64.wrap v.vK = v.vK ∧ IntKind.i64.wrap v.vO = v.vO ∧ IntKind.i64.wrap v.vA = v.vA ∧ IntKind.i64.wrap v.vB = v.vB ∧ IntKind.i64.wrap v.vC = v.vC ∧ IntKind.i64.wrap v.vD = v.vD

/-- A cast with its mathematics, behind some steps. -/
def Casts (w0 w : World) (pc ps : Nat) (n : Nat) (V : List Int) (B : Nat) : Prop := ∃ T σ E, KI w0 w T pc ps σ E ∧ KM σ E n V B ∧ 1 ≤ E.length ∧ E.length ≤ 30

theorem Viewed.casts {w0 w w' : World} {T : Tags} {pc ps n : Nat} {V : List Int} {E : List CE} {B : Nat} (h : Viewed w0 w T pc ps n V E B w') (h1 : 1 ≤ E.length) (h2 : E.length < 30) : Casts w0 w' pc ps n V (B + 1) := by
  obtain ⟨T', σ', E', -, a, b, c, d⟩ := h
  exact ⟨T', σ', E', a, b, by omega, by omega⟩

set_option maxRecDepth 100000 in
set_option maxHeartbeats 8000000 in
theorem plays_calls {w0 w : World} {pc ps n : Nat} {V : List Int} {B : Nat} (h : Casts w0 w pc ps n V B) (aS : Option Addr) (N cS : Nat) (vs : List VD) (hN : vs.length = N) (hS : 0 < N → ∃ g off, aS = some ⟨g, off, none⟩ ∧ VS w0 g off vs) (hB : B + N ≤ 100000000) :
    Calls Tryz.prog 15 #[.pointer (some ⟨pc, 0, none⟩), .slice aS N cS] w fun e w' => e = .returned (.bool true) ∧ Casts w0 w' pc ps n V (B + N) := by
  have HC := hid h
  have HS := hid hS
  have HN := hid hN
  clear h hS hN
  go_enter Tryz.func15, Tryz.ntmps15
  go_wp2
  go_loopw [5] (fun t w' => ∃ i : Nat, i ≤ N ∧ t = .int .i64 i ∧ Casts w0 w' pc ps n V (B + i)) (fun t _ => N - (intOf t).toNat)
  case atStart => exact ⟨0, Nat.zero_le _, rfl, HC.out⟩
  case round =>
    clear HC
    obtain ⟨i, hi, rfl, T, σ, E, hI, hM, hE1, hE30⟩ := hrel
    obtain ⟨q0, g1, g2, g3, g4, c1, c2, c3, c4, hq, -, hg⟩ := hI.cells
    obtain ⟨q1, q2, -, -⟩ := hq (by omega)
    have HI := hid hI
    have HM := hid hM
    have HGC := hid hg
    obtain ⟨EL, hEL⟩ : ∃ EL, E.length = EL := ⟨_, rfl⟩
    have HEL := hid hEL
    rw [hEL] at q1 q2 hE1 hE30
    have hpc : pc < wr.heap.size := block_lt_of_cell q0
    clear hI hM hq hg hEL q0
    by_cases hiN : i < N
    · have i1 : (i : Int) < (N : Int) := by omega
      have d1 : decide ((i : Int) < (N : Int)) = true := by simp; omega
      by_cases h30 : EL < 30
      · have e30 : (EL : Int) < 30 := by omega
        have d2 : decide ((EL : Int) < 30) = true := by simp; omega
        obtain ⟨g, off, rfl, hV⟩ := HS.out (by omega)
        obtain ⟨v, hv⟩ : ∃ v, vs[i]? = some v := ⟨_, List.getElem?_eq_getElem (by have := HN.out; omega)⟩
        have hkp := HI.out.keep
        have y0 := hkp.cell (hV.cell i v hv 0 _ rfl)
        have y1 := hkp.cell (hV.cell i v hv 1 _ rfl)
        have y2 := hkp.cell (hV.cell i v hv 2 _ rfl)
        have y3 := hkp.cell (hV.cell i v hv 3 _ rfl)
        have y4 := hkp.cell (hV.cell i v hv 4 _ rfl)
        have y5 := hkp.cell (hV.cell i v hv 5 _ rfl)
        simp only [Nat.add_zero] at y0
        obtain ⟨wK, wO, wA, wB, wC, wD⟩ := hV.wf i v hv
        obtain ⟨vK, vO, vA, vB, vC, vD⟩ := v
        simp only at y0 y1 y2 y3 y4 y5 wK wO wA wB wC wD
        have hgl : g < wr.heap.size := block_lt_of_cell y0
        have i0 : (0 : Int) ≤ (i : Int) := by omega
        have HWF := hid (And.intro wK (And.intro wO (And.intro wA (And.intro wB (And.intro wC wD)))))
        have hpo := pick_small (c := vO) (n := (EL : Int)) (by omega)
        obtain ⟨k, hk⟩ : ∃ k : Nat, pickN vO (EL : Int) = (k : Int) := ⟨(pickN vO (EL : Int)).toNat, by omega⟩
        have HK := hid hk
        have hkl : k < EL := by omega
        obtain ⟨e, he⟩ : ∃ e, E[k]? = some e := ⟨_, List.getElem?_eq_getElem (by have := HEL.out; omega)⟩
        have HE := hid he
        obtain ⟨-, -, a1, d1', a2, d2', u2, -, -, -⟩ := HGC.out k e he
        have hg2 : g2 < wr.heap.size := block_lt_of_cell u2
        have k0 : (0 : Int) ≤ (k : Int) := by omega
        have k1 : (k : Int) < (EL : Int) := by omega
        have hp4 := pick_small (c := vK) (n := 4) (by omega)
        obtain ⟨W1, hW1⟩ : ∃ W1, wr.alloc (.cells #[.int .i64 vK, .int .i64 vO, .int .i64 vA, .int .i64 vB, .int .i64 vC, .int .i64 vD] 93) = W1 := ⟨_, rfl⟩
        have HW1 := hid hW1
        have HKW : Hid (Kp0 wr W1) := hid (by rw [← hW1]; exact Kp.alloc (Kp.refl _ _) _)
        have x0 : W1.cell? ⟨wr.heap.size, 0, none⟩ = some (.int .i64 vK) := by rw [← hW1]; simp
        have x1 : W1.cell? ⟨wr.heap.size, 1, none⟩ = some (.int .i64 vO) := by rw [← hW1]; simp
        have x2 : W1.cell? ⟨wr.heap.size, 2, none⟩ = some (.int .i64 vA) := by rw [← hW1]; simp
        have x3 : W1.cell? ⟨wr.heap.size, 3, none⟩ = some (.int .i64 vB) := by rw [← hW1]; simp
        have x4 : W1.cell? ⟨wr.heap.size, 4, none⟩ = some (.int .i64 vC) := by rw [← hW1]; simp
        have x5 : W1.cell? ⟨wr.heap.size, 5, none⟩ = some (.int .i64 vD) := by rw [← hW1]; simp
        have HPO : Hid (∀ nn, Calls Tryz.prog 19 #[.int .i64 vO, .int .i64 (EL : Int)] (W1.drewN nn) fun e w' => e = .returned (.int .i64 (k : Int)) ∧ w' = W1.drewN nn) := hid (fun nn => by
          rw [← HK.out]
          exact pick_calls vO (EL : Int) _ HWF.out.2.1 (by omega))
        clear hV hv hkp wK wO wA wB wC wD hk he hW1 HGC
        go_upto_region 5 with (fail)
        rw [HW1.out]
        have z1 := HKW.out.cell q1
        have z2 := HKW.out.cell q2
        have z3 := HKW.out.cell u2
        clear y0 y1 y2 y3 y4 y5 q1 q2 u2
        go_quiet ((go_at_call 19; exact Calls.quiet_of_same (HPO.out _)))
        have HK2 : Hid (Kp0 W1 (W1.drewN nq)) := hid ((Kp.refl _ _).drewN _)
        have HKW2 := hid (HKW.out.trans HK2.out)
        have HWL : Hid (wr.heap.size < (W1.drewN nq).heap.size) := hid (Nat.lt_of_lt_of_le (block_lt_of_cell x0) HK2.out.size)
        have x0 := HK2.out.cell x0
        have x1 := HK2.out.cell x1
        have x2 := HK2.out.cell x2
        have x3 := HK2.out.cell x3
        have x4 := HK2.out.cell x4
        have x5 := HK2.out.cell x5
        have z2 := HK2.out.cell z2
        have z3 := HK2.out.cell z3
        generalize W1.drewN nq = W2 at *
        clear z1 HPO
        go_wp2_with fail
        refine (pick_calls vK 4 W2 HWF.out.1 (by omega)).mono ?_
        rintro e' w' ⟨rfl, hw⟩
        obtain rfl := hw.symm
        have hc4 : pickN vK 4 = 0 ∨ pickN vK 4 = 1 ∨ pickN vK 4 = 2 ∨ pickN vK 4 = 3 := by omega
        clear hp4
        obtain ⟨pk, hpk⟩ : ∃ pk, pickN vK 4 = pk := ⟨_, rfl⟩
        rw [hpk] at hc4 ⊢
        clear hpk
        rcases hc4 with rfl | rfl | rfl | rfl
        · have HF : Hid (∀ W, Kp0 wr W → wr.heap.size < W.heap.size → Calls Tryz.prog 45 #[.pointer (some ⟨pc, 0, none⟩), .agg #[.int .i64 vK, .int .i64 vO, .int .i64 vA, .int .i64 vB, .int .i64 vC, .int .i64 vD], .int .i64 (k : Int)] W fun e w' => e = .returned (.bool true) ∧ Casts w0 w' pc ps n V (B + (i + 1))) := hid (fun W kW _ => (kcut_calls (HI.out.kp0 (fun _ _ => rfl) kW) HM.out (by have := HEL.out; omega) (by omega) k e HE.out vK vO vA vB vC vD HWF.out.2.2.1 HWF.out.2.2.2.1 HWF.out.2.2.2.2.1 HWF.out.2.2.2.2.2).mono (by
            rintro e' w' ⟨rfl, hv⟩
            exact ⟨rfl, hv.casts (by have := HEL.out; omega) (by have := HEL.out; omega)⟩))
          go_wp2_with fail
          refine (HF.out W2 HKW2.out HWL.out).mono ?_
          rintro e' w9 ⟨rfl, hC9⟩
          have HC9 := hid hC9
          clear hC9
          go_wp2
          go_roundw
          case rel => exact ⟨i + 1, by omega, by go_num, HC9.out⟩
          case measure => simp [intOf]; omega
        · by_cases hm0 : e.shape.length = 0
          · have HKW3 := hid HKW2.out
            rw [hm0] at z3
            go_wp2
            go_roundw
            case rel => exact ⟨i + 1, by omega, by go_num, T, σ, E, HI.out.kp0 (fun _ _ => rfl) HKW3.out, HM.out.more (by omega), by have := HEL.out; omega, by have := HEL.out; omega⟩
            case measure => simp [intOf]; omega
          · obtain ⟨m, hm⟩ : ∃ m, e.shape.length = m := ⟨_, rfl⟩
            have HF : Hid (∀ W, Kp0 wr W → wr.heap.size < W.heap.size → Calls Tryz.prog 46 #[.pointer (some ⟨pc, 0, none⟩), .agg #[.int .i64 vK, .int .i64 vO, .int .i64 vA, .int .i64 vB, .int .i64 vC, .int .i64 vD], .int .i64 (k : Int)] W fun e w' => e = .returned (.bool true) ∧ Casts w0 w' pc ps n V (B + (i + 1))) := hid (fun W kW _ => (kturn_calls (HI.out.kp0 (fun _ _ => rfl) kW) HM.out (by have := HEL.out; omega) (by omega) k e HE.out (by omega) vK vO vA vB vC vD HWF.out.2.2.1 HWF.out.2.2.2.1).mono (by
              rintro e' w' ⟨rfl, hv⟩
              exact ⟨rfl, hv.casts (by have := HEL.out; omega) (by have := HEL.out; omega)⟩))
            rw [hm] at z3 hm0
            have hmb : ((m : Int) == 0) = false := by simp; omega
            have hm1 : ¬ (m : Int) = 0 := by omega
            clear hm
            go_wp2_with fail
            refine (HF.out W2 HKW2.out HWL.out).mono ?_
            rintro e' w9 ⟨rfl, hC9⟩
            have HC9 := hid hC9
            clear hC9
            go_wp2
            go_roundw
            case rel => exact ⟨i + 1, by omega, by go_num, HC9.out⟩
            case measure => simp [intOf]; omega
        · have HF : Hid (∀ W, Kp0 wr W → wr.heap.size < W.heap.size → Calls Tryz.prog 47 #[.pointer (some ⟨pc, 0, none⟩), .agg #[.int .i64 vK, .int .i64 vO, .int .i64 vA, .int .i64 vB, .int .i64 vC, .int .i64 vD], .int .i64 (k : Int)] W fun e w' => e = .returned (.bool true) ∧ Casts w0 w' pc ps n V (B + (i + 1))) := hid (fun W kW _ => (kstretch_calls (HI.out.kp0 (fun _ _ => rfl) kW) HM.out (by have := HEL.out; omega) (by omega) k e HE.out vK vO vA vB vC vD HWF.out.2.2.1 HWF.out.2.2.2.1 HWF.out.2.2.2.2.1).mono (by
            rintro e' w' ⟨rfl, hv⟩
            exact ⟨rfl, hv.casts (by have := HEL.out; omega) (by have := HEL.out; omega)⟩))
          go_wp2_with fail
          refine (HF.out W2 HKW2.out HWL.out).mono ?_
          rintro e' w9 ⟨rfl, hC9⟩
          have HC9 := hid hC9
          clear hC9
          go_wp2
          go_roundw
          case rel => exact ⟨i + 1, by omega, by go_num, HC9.out⟩
          case measure => simp [intOf]; omega
        · have HF : Hid (∀ W, Kp0 wr W → wr.heap.size < W.heap.size → Calls Tryz.prog 48 #[.pointer (some ⟨pc, 0, none⟩), .agg #[.int .i64 vK, .int .i64 vO, .int .i64 vA, .int .i64 vB, .int .i64 vC, .int .i64 vD], .int .i64 (k : Int)] W fun e w' => e = .returned (.bool true) ∧ Casts w0 w' pc ps n V (B + (i + 1))) := hid (fun W kW _ => (kreshape_calls (HI.out.kp0 (fun _ _ => rfl) kW) HM.out (by have := HEL.out; omega) (by omega) k e HE.out vK vO vA vB vC vD HWF.out.2.2.1).mono (by
            rintro e' w' ⟨rfl, hv⟩
            exact ⟨rfl, hv.casts (by have := HEL.out; omega) (by have := HEL.out; omega)⟩))
          go_wp2_with fail
          refine (HF.out W2 HKW2.out HWL.out).mono ?_
          rintro e' w9 ⟨rfl, hC9⟩
          have HC9 := hid hC9
          clear hC9
          go_wp2
          go_roundw
          case rel => exact ⟨i + 1, by omega, by go_num, HC9.out⟩
          case measure => simp [intOf]; omega
      · have d2 : decide ((EL : Int) < 30) = false := by simp; omega
        have d3 : ¬ (EL : Int) < 30 := by omega
        go_wp2
        go_ret
        exact ⟨rfl, T, σ, E, HI.out, HM.out.more (by omega), by have := HEL.out; omega, by have := HEL.out; omega⟩
    · have d1 : decide ((i : Int) < (N : Int)) = false := by simp; omega
      have d3 : ¬ (i : Int) < (N : Int) := by omega
      go_wp2
      go_ret
      exact ⟨rfl, T, σ, E, HI.out, HM.out.more (by omega), by have := HEL.out; omega, by have := HEL.out; omega⟩

end Go.Proofs.YticbbncdcannlaaGreat
