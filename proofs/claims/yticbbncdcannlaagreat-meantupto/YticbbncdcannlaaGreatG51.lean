/- The cast: tells, walked. -/
import Derived.Test.YticbbncdcannlaaGreatG49
import Derived.Test.YticbbncdcannlaaGreatG50

namespace Go.Proofs.YticbbncdcannlaaGreat
open Go.RowKit

/-- The cast stands still; what is not the space's is as it was. -/
def Still (w0 w : World) (T : Tags) (pc ps : Nat) (σ : Sp) (E : List CE) (w' : World) : Prop := ∃ T', TagsTo w T T' ∧ KI w0 w' T' pc ps σ E ∧ Kp (fun b => (T b).1 = 1) w w'

theorem KM.look {σ : Sp} {E : List CE} {n : Nat} {V : List Int} {B : Nat} (h : KM σ E n V B) {i : Nat} {e : CE} (he : E[i]? = some e) : σ.look e.h = (2, e.shape, e.ro, 0) ∧ σ.values e.h = (e.told V, 0) := by
  constructor
  · unfold Sp.look
    rw [h.find he]
    rfl
  · unfold Sp.values
    rw [h.find he]
    simp only
    rw [h.told he]

theorem told_nth (e : CE) (V : List Int) (j : Nat) (h : j < e.ranks.length) : nth (e.told V) j = nth V (nth e.ranks j).toNat := by
  rw [nth_lt (by rw [CE.told_length]; exact h)]
  simp [CE.told, nth_lt h]

set_option maxRecDepth 100000 in
set_option maxHeartbeats 8000000 in
theorem tells_calls {w0 w : World} {T : Tags} {pc ps : Nat} {σ : Sp} {E : List CE} {n : Nat} {V : List Int} {B : Nat} (h : KI w0 w T pc ps σ E) (hM : KM σ E n V B) (h1 : 1 ≤ E.length) (h30 : E.length ≤ 1000) (av : Option Addr) (cv : Nat) (hv : RdT T w (.slice av n cv) V) :
    Calls Tryz.prog 16 #[.pointer (some ⟨pc, 0, none⟩), .slice av n cv] w fun e w' => e = .returned (.bool true) ∧ Still w0 w T pc ps σ E w' := by
  have HI := hid h
  have HM := hid hM
  have HRV := hid hv
  obtain ⟨EL, hEL⟩ : ∃ EL, E.length = EL := ⟨_, rfl⟩
  have HEL := hid hEL
  rw [hEL] at h1 h30
  obtain ⟨gv, ov, rfl, hcv⟩ : ∃ gv ov, av = some ⟨gv, ov, none⟩ ∧ ∀ j, j < n → w.cell? ⟨gv, ov + j, none⟩ = some (.int .i64 (nth V j)) := by
    have hn1 := hM.n1
    have hl := hM.len
    obtain ⟨a, c, ev, hh⟩ := rd_parts hv.1
    obtain ⟨g, o, rfl, hc⟩ := hh (by omega)
    simp at ev
    exact ⟨g, o, by rw [ev.1], fun j hj => hc j (by omega)⟩
  have HCV := hid hcv
  have HTV : Hid (gv < w.heap.size ∧ (T gv).1 = 0) := hid (by
    obtain ⟨x1, x2, _, x3⟩ := hv.2 gv rfl
    exact ⟨x1, by rw [x3]⟩)
  have hn125 := hM.n2
  clear h hM hv hEL hcv
  go_enter Tryz.func16, Tryz.ntmps16
  go_wp2
  go_loopw [5] (fun t w' => ∃ k : Nat, k ≤ EL ∧ t = .int .i64 k ∧ Still w0 w T pc ps σ E w') (fun t _ => EL - (intOf t).toNat)
  case atStart => exact ⟨0, Nat.zero_le _, rfl, T, fun _ _ => rfl, HI.out, Kp.refl _ _⟩
  case round =>
    clear HI
    obtain ⟨k, hk, rfl, T1, ht1, hI, hK1⟩ := hrel
    have HT1 := hid ht1
    have HI := hid hI
    have HK1 := hid hK1
    clear ht1 hI hK1
    obtain ⟨q0, gg1, gg2, gg3, gg4, cc1, cc2, cc3, cc4, hq, -, -⟩ := HI.out.cells
    obtain ⟨q1', -, -, -⟩ := hq (by have := HEL.out; omega)
    rw [HEL.out] at q1'
    clear hq
    by_cases hkE : k < EL
    · obtain ⟨e, he⟩ : ∃ e, E[k]? = some e := ⟨_, List.getElem?_eq_getElem (by have := HEL.out; omega)⟩
      obtain ⟨g1, g2, g3, g4, c1, c2, c3, c4, a1, d1, a2, d2, hck⟩ := HI.out.ck he
      rw [HEL.out] at hck
      have HE := hid he
      have HCK := hid hck
      have k0 : (0 : Int) ≤ (k : Int) := by omega
      have k1 : (k : Int) < (EL : Int) := by omega
      obtain ⟨hlk, hvl⟩ := HM.out.look he
      have HLK := hid hlk
      obtain ⟨tv, htv⟩ : ∃ tv, e.told V = tv := ⟨_, rfl⟩
      rw [htv] at hvl
      have HVL := hid hvl
      obtain ⟨RL, hRL⟩ : ∃ RL, e.ranks.length = RL := ⟨_, rfl⟩
      have HTL : Hid (tv.length = RL) := hid (by rw [← htv, CE.told_length, hRL])
      have HTN : Hid (∀ j, j < RL → nth tv j = nth V (nth e.ranks j).toNat ∧ 0 ≤ nth e.ranks j ∧ nth e.ranks j < n) := hid (fun j hj => by
        rw [← htv]
        exact ⟨told_nth e V j (by omega), HM.out.rk HE.out j (by omega)⟩)
      have hRLb : RL ≤ 400 := by have h1 := HM.out.rlen HE.out; have h2 := (HM.out.ent _ _ HE.out).2.2.1; omega
      have HRL := hid hRL
      have hs1 : w.heap.size ≤ wr.heap.size := HK1.out.size
      clear he hck hlk hvl htv hRL
      have HX1 : Hid (∀ W, Kp0 wr W → Calls Tryz.prog 26 #[.pointer (some ⟨ps, 0, none⟩), .int .i64 e.h] W fun e' w3 => ∃ ao c, e' = .returned (.tuple #[.slice ao RL c, .int .i64 0]) ∧ ∃ T3, TagsTo wr T1 T3 ∧ CK w0 w3 T3 pc ps σ E k e EL g1 g2 g3 g4 c1 c2 c3 c4 a1 d1 a2 d2 ∧ Kp (fun b => (T1 b).1 = 1) wr w3 ∧ RdT T3 w3 (.slice ao RL c) tv) := hid (fun W kW => by
        have hCW := HCK.out.kp0 (fun _ _ => rfl) kW
        refine (xc_values e.h (0, 16) hCW.ki.rep).mono ?_
        rintro e' w3 ⟨v', rfl, hst⟩
        rw [HVL.out] at hst ⊢
        obtain ⟨T3, ao, c, rfl, h1, h2, h3, h4⟩ := hCW.stepL hst
        simp only [HTL.out] at h4 ⊢
        exact ⟨ao, c, rfl, T3, fun b hb => h1 b (Nat.lt_of_lt_of_le hb kW.size), h2, (Kp.of0 kW).trans h3 (fun _ _ e => e), h4⟩)
      have s0 := HCK.out.q0
      have s1 := HCK.out.q1
      have s2 := HCK.out.u1
      clear q0 q1'
      go_wp2
      go_region_held3 (fun W => W.cell? ⟨pc, 0, none⟩ = some (.pointer (some ⟨ps, 0, none⟩)) ∧ W.cell? ⟨pc, 1, none⟩ = some (.slice (some ⟨g1, 0, none⟩) EL c1) ∧ W.cell? ⟨g1, k, none⟩ = some (.int .i64 e.h)) (first | go_keep | (go_split_ands; exact ⟨hC3.q0, hC3.q1, hC3.u1⟩))
        ((go_at_call 26; refine (HX1.out _ ?_).mono ?_; (first | exact Kp0.refl _ | exact Kp0.drew (Kp0.refl _)); rintro e' w3 ⟨ao3, c3', rfl, T3, ht3, hC3, hk3, hl3⟩))
      have HT3 : Hid (TagsTo w T T3) := hid (fun b hb => by rw [ht3 b (by omega), HT1.out b hb])
      have HK3 : Hid (Kp (fun b => (T b).1 = 1) w w3) := hid (HK1.out.trans hk3 (fun b hb e => by rw [HT1.out b hb] at e; exact e))
      obtain ⟨T4, hT4⟩ : ∃ T4, retag w3 T3 (2, 0) = T4 := ⟨_, rfl⟩
      have HT4 : Hid (TagsTo w3 T3 T4) := hid (by rw [← hT4]; exact retag_to w3 T3 _)
      have HN4 : Hid (∀ b, w3.heap.size ≤ b → T4 b = (2, 0)) := hid (fun b hb => by rw [← hT4]; exact retag_new hb)
      have HC4 := hid (hC3.kp0 HT4.out (Kp0.refl _))
      have HL4 := hid (hl3.kp HT4.out (Kp0.refl _) (fun _ _ _ _ _ e => e))
      have hs3 : w.heap.size ≤ w3.heap.size := HK3.out.size
      clear ht3 hC3 hk3 hl3 HX1 s0 s1 s2 HCK hT4
      obtain ⟨m, hm⟩ : ∃ m, e.shape.length = m := ⟨_, rfl⟩
      have HMM := hid hm
      have hm4 : m ≤ 4 := by have := (HM.out.aok HE.out).shape.1; rw [← hm]; exact this
      clear hm
      have HX2 : Hid (∀ W, Kp0 w3 W → Calls Tryz.prog 49 #[.pointer (some ⟨ps, 0, none⟩), .int .i64 e.h] W fun e' w5 => ∃ ao c, e' = .returned (.tuple #[.agg #[.int .i64 2, .slice ao m c, .bool e.ro], .int .i64 0]) ∧ ∃ T5, TagsTo W T4 T5 ∧ CK w0 w5 T5 pc ps σ E k e EL g1 g2 g3 g4 c1 c2 c3 c4 a1 d1 a2 d2 ∧ Kp (fun b => (T4 b).1 = 1) W w5 ∧ Kp (fun b => (T4 b).1 = 1) w3 w5 ∧ RdT T5 w5 (.slice ao m c) e.shape ∧ RdT T5 w5 (.slice ao3 RL c3') tv) := hid (fun W kW => by
        have hCW := HC4.out.kp0 (fun _ _ => rfl) kW
        have hLW := HL4.out.kp (fun _ _ => rfl) kW (fun _ _ _ _ _ e => e)
        refine (xc_look e.h (0, 16) hCW.ki.rep).mono ?_
        rintro e' w5 ⟨v', rfl, hst⟩
        rw [HLK.out] at hst ⊢
        obtain ⟨T5, ao, c, rfl, h1, h2, h3, h4⟩ := hCW.stepL hst
        simp only [HMM.out] at h4 ⊢
        exact ⟨ao, c, rfl, T5, h1, h2, h3, (Kp.of0 kW).trans h3 (fun _ _ e => e), h4, hLW.step1 h1 h3⟩)
      have n0 : Hid (∀ b, w3.heap.size ≤ b → ¬ (T4 b).1 = 1) := hid (fun b hb e => by rw [HN4.out b hb] at e; cases e)
      have s0 := HC4.out.q0
      have s1 := HC4.out.q1
      have s2 := HC4.out.u1
      have n1 : ¬ w3.heap.size = pc := by have : pc < w3.heap.size := block_lt_of_cell s0; omega
      have n2 : ¬ w3.heap.size = g1 := by have : g1 < w3.heap.size := block_lt_of_cell s2; omega
      go_upto_region 5 with (fail)
      go_cut [8, 9] from 36 to 50 (fun s8 s9 W => ∃ A ao c T6, s8 = .pointer (some ⟨A, 0, none⟩) ∧ s9 = .int .i64 0 ∧ CK w0 W T6 pc ps σ E k e EL g1 g2 g3 g4 c1 c2 c3 c4 a1 d1 a2 d2 ∧ (∀ b, b < w3.heap.size → T6 b = T3 b) ∧ Kp (fun b => (T3 b).1 = 1) w3 W ∧ RdI W (.slice ao m c) e.shape ∧ RdI W (.slice ao3 RL c3') tv ∧ W.cell? ⟨A, 1, none⟩ = some (.slice ao m c) ∧ W.cell? ⟨A, 2, none⟩ = some (.bool e.ro))
      case first =>
        go_region_held3 (fun W => W.cell? ⟨pc, 0, none⟩ = some (.pointer (some ⟨ps, 0, none⟩)) ∧ W.cell? ⟨pc, 1, none⟩ = some (.slice (some ⟨g1, 0, none⟩) EL c1) ∧ W.cell? ⟨g1, k, none⟩ = some (.int .i64 e.h)) (go_keep)
          ((go_at_call 49; refine (HX2.out _ ?_).mono ?_; (first | exact Kp.refl _ _ | exact Kp.drew (Kp.refl _ _) | exact Kp.alloc (Kp.refl _ _) _ | exact Kp.drew (Kp.alloc (Kp.refl _ _) _)); rintro e' w5 ⟨ao5, c5, rfl, T5, ht5, hC5, hkW, hk5, hsh5, hl5⟩;
            have x0 := hC5.q0; have x1 := hC5.q1; have x2 := hC5.u1;
            (first | (have c := kp_new hkW (n0.out _ (Nat.le_refl _)); obtain ⟨⟨cA0, cA1, cA2⟩, cf, cl⟩ := c; have cf0 := cf 0; have cf1 := cf 1; have cf2 := cf 2) | skip)))
        · have HT6 : Hid (∀ b, b < w3.heap.size → T5 b = T3 b) := hid (fun b hb => by rw [ht5 b (by simp; omega), HT4.out b hb])
          have HC6 := hid (hC5.kp0 (fun _ _ => rfl) (Kp.alloc (Kp.refl (fun _ => False) w5) (.cells #[.int .i64 2, .slice ao5 m c5, .bool e.ro] 96)))
          have HK6 : Hid (Kp (fun b => (T3 b).1 = 1) w3 (w5.alloc (.cells #[.int .i64 2, .slice ao5 m c5, .bool e.ro] 96))) := hid ((hk5.mono (fun b hb e => by rw [HT4.out b hb] at e; exact e)).alloc _)
          have HS6 := hid (hsh5.1.kp0 (Kp.alloc (Kp.refl (fun _ => False) w5) (.cells #[.int .i64 2, .slice ao5 m c5, .bool e.ro] 96)))
          have HL6 := hid (hl5.1.kp0 (Kp.alloc (Kp.refl (fun _ => False) w5) (.cells #[.int .i64 2, .slice ao5 m c5, .bool e.ro] 96)))
          have hu : Hid ((w5.alloc (.cells #[.int .i64 2, .slice ao5 m c5, .bool e.ro] 96)).cell? ⟨w5.heap.size, 1, none⟩ = some (.slice ao5 m c5) ∧ (w5.alloc (.cells #[.int .i64 2, .slice ao5 m c5, .bool e.ro] 96)).cell? ⟨w5.heap.size, 2, none⟩ = some (.bool e.ro)) := hid (by simp)
          clear ht5 hC5 hkW hk5 hsh5 hl5
          go_wp2_with fail
          go_meet
          case rel => exact ⟨w5.heap.size, ao5, c5, T5, rfl, rfl, HC6.out, HT6.out, HK6.out, HS6.out, HL6.out, hu.out.1, hu.out.2⟩
        · have hA5 : T5 w3.heap.size = (2, 0) := by rw [ht5 _ (by simp)]; exact HN4.out _ (Nat.le_refl _)
          have hkz : Kp (fun b => b = w3.heap.size) w5 (((w5.setCell ⟨w3.heap.size, 0, none⟩ (.int .i64 2)).setCell ⟨w3.heap.size, 1, none⟩ (.slice ao5 m c5)).setCell ⟨w3.heap.size, 2, none⟩ (.bool e.ro)) := three_kp w5 w3.heap.size _ _ _
          have HT6 : Hid (∀ b, b < w3.heap.size → T5 b = T3 b) := hid (fun b hb => by rw [ht5 b (by simp; omega), HT4.out b hb])
          have hz2 : ∀ b, b < w5.heap.size → b = w3.heap.size → (T5 b).1 ≠ 0 := fun b _ e => by rw [e, hA5]; simp
          have HC6 := hid (hC5.goes (fun _ _ => rfl) (hC5.ki.rep.kp hkz (fun b e z => by rw [z, hA5] at e; cases e)) hkz hz2)
          have HK6 := hid ((hk5.mono (fun b hb e => by rw [HT4.out b hb] at e; exact e) : Kp (fun b => (T3 b).1 = 1) w3 w5).trans hkz (fun b hb e => by omega))
          have HS6 := hid (hsh5.kp (T' := T5) (fun _ _ => rfl) hkz (fun b i _ _ e z => by rw [z, hA5] at e; cases e)).1
          have HL6 := hid (hl5.kp (T' := T5) (fun _ _ => rfl) hkz (fun b i _ _ e z => by rw [z, hA5] at e; cases e)).1
          have hu := hid (three_cells (x' := .int .i64 2) (y' := .slice ao5 m c5) (z' := .bool e.ro) cA0 cA1 cA2)
          clear ht5 hC5 hkW hk5 hsh5 hl5 cA0 cA1 cA2 cf cf0 cf1 cf2 hkz hz2 hA5
          go_wp2_with fail
          go_meet
          case rel => exact ⟨w3.heap.size, ao5, c5, T5, rfl, rfl, HC6.out, HT6.out, HK6.out, HS6.out, HL6.out, hu.out.2.1, hu.out.2.2⟩
      case rest =>
        obtain ⟨A, ao6, c6, T6, rfl, rfl, hC6, hT6, hK6, hS6, hL6, hu1, hu2⟩ := hcut
        have HC6 := hid hC6
        have HS6 := hid hS6
        have HL6 := hid hL6
        have HT6 : Hid (TagsTo w T T6) := hid (fun b hb => by rw [hT6 b (by omega), HT3.out b hb])
        have HK6 : Hid (Kp (fun b => (T b).1 = 1) w wc) := hid (HK3.out.trans hK6 (fun b hb e => by rw [HT3.out b hb] at e; exact e))
        have s0 := hC6.q2
        have s1 := hC6.u2
        rw [HMM.out] at s1
        have hAl : A < wc.heap.size := block_lt_of_cell hu1
        have HSM : Hid (∀ W, Kp0 wc W → Calls Tryz.prog 31 #[.slice ao6 m c6, .slice a1 m d1] W fun e w' => e = .returned (.bool true) ∧ Kp0 wc w') := hid (fun W kW => (ksame_calls _ _ e.shape e.shape W (HS6.out.kp0 kW) (by have := HC6.out.r1.1.kp0 kW; rw [HMM.out] at this; exact this) (by rw [HMM.out]; omega)).mono (by
          rintro e' w' ⟨rfl, hk⟩
          exact ⟨by simp, kW.trans hk⟩))
        clear hC6 hS6 hL6 hT6 hK6 s2 HC4 HL4 HX2 HT4 HN4 n0 n1 n2 HK3 HT3
        go_wp2
        go_region_held3 (fun W => W.cell? ⟨A, 1, none⟩ = some (.slice ao6 m c6) ∧ W.cell? ⟨pc, 2, none⟩ = some (.slice (some ⟨g2, 0, none⟩) EL c2) ∧ W.cell? ⟨g2, k, none⟩ = some (.slice a1 m d1)) (first | go_keep | (go_split_ands; exact ⟨hk7.cell hu1, hk7.cell s0, hk7.cell s1⟩))
          ((go_at_call 31; refine (HSM.out _ ?_).mono ?_; (first | exact Kp0.refl _ | exact Kp0.drew (Kp0.refl _)); rintro e' w7 ⟨rfl, hk7⟩))
        have HC7 := hid (HC6.out.kp0 (fun _ _ => rfl) hk7)
        have HL7 := hid (HL6.out.kp0 hk7)
        have hu2' := hk7.cell hu2
        have HK7 : Hid (Kp (fun b => (T b).1 = 1) w w7) := hid (HK6.out.trans0 hk7)
        clear hk7 s0 s1 hu1 hu2 HC6 HL6 HS6 HSM HK6
        have t0 := HC7.out.q4
        have t1 := HC7.out.u4
        have t2 := HC7.out.q3
        have t3 := HC7.out.u3
        rw [HRL.out] at t3
        have b1 : (e.ro != e.ro) = false := by simp
        have b2 : ((RL : Int) != (RL : Int)) = false := by simp
        go_wp2
        go_quiet (fail)
        have HKD : Hid (Kp0 w7 (w7.drewN nq)) := hid ((Kp.refl _ _).drewN _)
        have HC8 := hid (HC7.out.kp0 (fun _ _ => rfl) HKD.out)
        have HL8 := hid (HL7.out.kp0 HKD.out)
        have HK8 : Hid (Kp (fun b => (T b).1 = 1) w (w7.drewN nq)) := hid (HK7.out.trans0 HKD.out)
        generalize w7.drewN nq = w8 at *
        clear t0 t1 t2 t3 hu2' HKD HC7 HL7 HK7 b1 b2 hAl
        obtain ⟨gl, ol, rfl, hcl⟩ : ∃ gl ol, ao3 = some ⟨gl, ol, none⟩ ∧ ∀ j, j < RL → w8.cell? ⟨gl, ol + j, none⟩ = some (.int .i64 (nth tv j)) := by
          have h1 := HM.out.rlen HE.out
          have h2 := vol_whole (HM.out.aok HE.out).shape
          have h3 : 1 ≤ vol e.shape := h2
          have h4 := HRL.out
          obtain ⟨a, c, ev, hh⟩ := rd_parts HL8.out
          obtain ⟨g, o, rfl, hc⟩ := hh (by rw [HTL.out]; omega)
          simp at ev
          exact ⟨g, o, by rw [ev.1], fun j hj => hc j (by rw [HTL.out]; exact hj)⟩
        obtain ⟨gr, og, rfl, hcr⟩ : ∃ gr og, a2 = some ⟨gr, og, none⟩ ∧ ∀ j, j < RL → w8.cell? ⟨gr, og + j, none⟩ = some (.int .i64 (nth e.ranks j)) := by
          have h1 := HM.out.rlen HE.out
          have h2 := vol_whole (HM.out.aok HE.out).shape
          have h3 : 1 ≤ vol e.shape := h2
          obtain ⟨a, c, ev, hh⟩ := rd_parts HC8.out.r2.1
          obtain ⟨g, o, rfl, hc⟩ := hh (by omega)
          simp at ev
          exact ⟨g, o, by rw [ev.1], fun j hj => hc j (by have := HRL.out; omega)⟩
        have HCL := hid hcl
        have HCR := hid hcr
        have HVC : Hid (∀ j, j < n → w8.cell? ⟨gv, ov + j, none⟩ = some (.int .i64 (nth V j))) := hid (fun j hj => HK8.out.cell (HCV.out j hj) (by rw [HTV.out.2]; simp))
        have t2 := HC8.out.q3
        have t3 := HC8.out.u3
        rw [HRL.out] at t3
        clear hcl hcr HL8
        go_wp2
        go_loopw [11] (fun t w' => ∃ j : Nat, j ≤ RL ∧ t = .int .i64 j ∧ ∃ d, w' = w8.drewN d) (fun t _ => RL - (intOf t).toNat)
        case atStart => exact ⟨0, Nat.zero_le _, rfl, 0, rfl⟩
        case round =>
          obtain ⟨j, hj, rfl, d, rfl⟩ := hrel
          by_cases hjR : j < RL
          · obtain ⟨z1, z2, z3⟩ := HTN.out j hjR
            have x1 := HCL.out j hjR
            have x2 := HCR.out j hjR
            have x3 := HVC.out (nth e.ranks j).toNat (by omega)
            rw [← z1] at x3
            have j0 : (0 : Int) ≤ (j : Int) := by omega
            have j1 : (j : Int) < (RL : Int) := by omega
            have bb : (nth tv j != nth tv j) = false := by simp
            clear z1
            generalize nth e.ranks j = rj at *
            generalize nth tv j = x at *
            go_wp2
            go_quiet (fail)
            go_wp2
            go_roundw
            case rel => exact ⟨j + 1, by omega, by go_num, _, rfl⟩
            case measure => simp [intOf]; omega
          · have j1 : ¬ (j : Int) < (RL : Int) := by omega
            have HKF : Hid (Kp0 w8 (w8.drewN d)) := hid ((Kp.refl _ _).drewN _)
            go_wp2
            go_roundw
            case rel => exact ⟨k + 1, by omega, by go_num, T6, HT6.out, HC8.out.ki.kp0 (fun _ _ => rfl) HKF.out, HK8.out.trans0 HKF.out⟩
            case measure => simp [intOf]; omega
    · have d1 : ¬ (k : Int) < (EL : Int) := by omega
      go_wp2
      go_ret
      exact ⟨rfl, T1, HT1.out, HI.out, HK1.out⟩

end Go.Proofs.YticbbncdcannlaaGreat

/- The cast with the names of all its parts; what Meant reckons. -/
namespace Go.Proofs.YticbbncdcannlaaGreat
open Go.RowKit

/-- The cast, with the names of its parts and of all its arrays' lists. -/
structure CG (w0 w : World) (T : Tags) (pc ps : Nat) (σ : Sp) (E : List CE) (EL g1 g2 g3 g4 c1 c2 c3 c4 : Nat) (P : Nat → Option Addr × Nat × Option Addr × Nat) : Prop where
  ki : KI w0 w T pc ps σ E
  q0 : w.cell? ⟨pc, 0, none⟩ = some (.pointer (some ⟨ps, 0, none⟩))
  q1 : w.cell? ⟨pc, 1, none⟩ = some (.slice (some ⟨g1, 0, none⟩) EL c1)
  q2 : w.cell? ⟨pc, 2, none⟩ = some (.slice (some ⟨g2, 0, none⟩) EL c2)
  q3 : w.cell? ⟨pc, 3, none⟩ = some (.slice (some ⟨g3, 0, none⟩) EL c3)
  q4 : w.cell? ⟨pc, 4, none⟩ = some (.slice (some ⟨g4, 0, none⟩) EL c4)
  ent : ∀ (i : Nat) (e : CE), E[i]? = some e → w.cell? ⟨g1, i, none⟩ = some (.int .i64 e.h) ∧ w.cell? ⟨g4, i, none⟩ = some (.bool e.ro) ∧ w.cell? ⟨g2, i, none⟩ = some (.slice (P i).1 e.shape.length (P i).2.1) ∧ w.cell? ⟨g3, i, none⟩ = some (.slice (P i).2.2.1 e.ranks.length (P i).2.2.2) ∧ RdT T w (.slice (P i).1 e.shape.length (P i).2.1) e.shape ∧ RdT T w (.slice (P i).2.2.1 e.ranks.length (P i).2.2.2) e.ranks
  tg : (T pc).1 = 0 ∧ (T g1).1 = 0 ∧ (T g2).1 = 0 ∧ (T g3).1 = 0 ∧ (T g4).1 = 0
  lt : pc < w.heap.size ∧ g1 < w.heap.size ∧ g2 < w.heap.size ∧ g3 < w.heap.size ∧ g4 < w.heap.size

theorem KI.cg {w0 w : World} {T : Tags} {pc ps : Nat} {σ : Sp} {E : List CE} (h : KI w0 w T pc ps σ E) (h1 : 1 ≤ E.length) : ∃ g1 g2 g3 g4 c1 c2 c3 c4 P, CG w0 w T pc ps σ E E.length g1 g2 g3 g4 c1 c2 c3 c4 P := by
  obtain ⟨q0, g1, g2, g3, g4, c1, c2, c3, c4, hq, ht, hg⟩ := h.cells
  obtain ⟨q1, q2, q3, q4⟩ := hq (by omega)
  have key : ∀ i : Nat, ∃ p : Option Addr × Nat × Option Addr × Nat, ∀ e, E[i]? = some e → w.cell? ⟨g2, i, none⟩ = some (.slice p.1 e.shape.length p.2.1) ∧ w.cell? ⟨g3, i, none⟩ = some (.slice p.2.2.1 e.ranks.length p.2.2.2) ∧ RdT T w (.slice p.1 e.shape.length p.2.1) e.shape ∧ RdT T w (.slice p.2.2.1 e.ranks.length p.2.2.2) e.ranks := fun i => by
    cases he : E[i]? with
    | none => exact ⟨(none, 0, none, 0), fun e h => by cases h⟩
    | some e =>
      obtain ⟨u1, u4, a1, d1, a2, d2, u2, u3, r1, r2⟩ := hg i e he
      exact ⟨(a1, d1, a2, d2), fun e' h => by cases h; exact ⟨u2, u3, r1, r2⟩⟩
  obtain ⟨P, hP⟩ := Classical.axiomOfChoice key
  obtain ⟨e0, he0⟩ : ∃ e, E[0]? = some e := ⟨_, List.getElem?_eq_getElem (by omega)⟩
  obtain ⟨u1, u4, a1, d1, a2, d2, u2, u3, -, -⟩ := hg 0 e0 he0
  refine ⟨g1, g2, g3, g4, c1, c2, c3, c4, P, h, q0, q1, q2, q3, q4, fun i e he => ?_, ht (by omega), block_lt_of_cell q0, block_lt_of_cell u1, block_lt_of_cell u2, block_lt_of_cell u3, block_lt_of_cell u4⟩
  obtain ⟨v1, v4, -⟩ := hg i e he
  obtain ⟨v2, v3, r1, r2⟩ := hP i e he
  exact ⟨v1, v4, v2, v3, r1, r2⟩

section
variable {w0 w w' : World} {T T' : Tags} {pc ps : Nat} {σ σ' : Sp} {E : List CE} {EL g1 g2 g3 g4 c1 c2 c3 c4 : Nat} {P : Nat → Option Addr × Nat × Option Addr × Nat}

theorem CG.goes (h : CG w0 w T pc ps σ E EL g1 g2 g3 g4 c1 c2 c3 c4 P) {Z : Nat → Prop} (ht : TagsTo w T T') (hr : XRep T' 1 w' ps σ') (kk : Kp Z w w') (hz : ∀ b, b < w.heap.size → Z b → (T b).1 ≠ 0) : CG w0 w' T' pc ps σ' E EL g1 g2 g3 g4 c1 c2 c3 c4 P := by
  obtain ⟨l0, l1, l2, l3, l4⟩ := h.lt
  have n0 : ∀ b, b < w.heap.size → (T b).1 = 0 → ¬ Z b := fun b hb h0 z => hz b hb z h0
  refine ⟨h.ki.goes ht hr kk hz, kk.cell h.q0 (n0 _ l0 h.tg.1), kk.cell h.q1 (n0 _ l0 h.tg.1), kk.cell h.q2 (n0 _ l0 h.tg.1), kk.cell h.q3 (n0 _ l0 h.tg.1), kk.cell h.q4 (n0 _ l0 h.tg.1), fun i e he => ?_,
    by rw [ht _ l0, ht _ l1, ht _ l2, ht _ l3, ht _ l4]; exact h.tg, Nat.lt_of_lt_of_le l0 kk.size, Nat.lt_of_lt_of_le l1 kk.size, Nat.lt_of_lt_of_le l2 kk.size, Nat.lt_of_lt_of_le l3 kk.size, Nat.lt_of_lt_of_le l4 kk.size⟩
  obtain ⟨u1, u4, u2, u3, r1, r2⟩ := h.ent i e he
  exact ⟨kk.cell u1 (n0 _ l1 h.tg.2.1), kk.cell u4 (n0 _ l4 h.tg.2.2.2.2), kk.cell u2 (n0 _ l2 h.tg.2.2.1), kk.cell u3 (n0 _ l3 h.tg.2.2.2.1),
    r1.kp ht kk (fun b i hb _ e z => hz b hb z (by rw [e])), r2.kp ht kk (fun b i hb _ e z => hz b hb z (by rw [e]))⟩

theorem CG.kp0 (h : CG w0 w T pc ps σ E EL g1 g2 g3 g4 c1 c2 c3 c4 P) (ht : TagsTo w T T') (kk : Kp0 w w') : CG w0 w' T' pc ps σ E EL g1 g2 g3 g4 c1 c2 c3 c4 P :=
  h.goes ht ((h.ki.rep.tags ht).kp kk (fun _ _ e => e)) kk (fun _ _ e => e.elim)

theorem CG.step (h : CG w0 w T pc ps σ E EL g1 g2 g3 g4 c1 c2 c3 c4 P) (hs : Step XRep T 1 w ps σ' w') : ∃ T', TagsTo w T T' ∧ CG w0 w' T' pc ps σ' E EL g1 g2 g3 g4 c1 c2 c3 c4 P ∧ Kp (fun b => (T b).1 = 1) w w' := by
  obtain ⟨T', h1, h2, h3⟩ := hs
  exact ⟨T', h1, h.goes h1 h2 h3 (fun b _ e => by rw [e]; simp), h3⟩

/-- The cells of an array's ranks. -/
theorem CG.rk (h : CG w0 w T pc ps σ E EL g1 g2 g3 g4 c1 c2 c3 c4 P) {i : Nat} {e : CE} (he : E[i]? = some e) (hp : 0 < e.ranks.length) : ∃ gr og, (P i).2.2.1 = some ⟨gr, og, none⟩ ∧ ∀ j, j < e.ranks.length → w.cell? ⟨gr, og + j, none⟩ = some (.int .i64 (nth e.ranks j)) := by
  obtain ⟨-, -, -, -, -, r2⟩ := h.ent i e he
  obtain ⟨a, c, ev, hh⟩ := rd_parts r2.1
  obtain ⟨g, o, rfl, hc⟩ := hh hp
  simp at ev
  exact ⟨g, o, ev.1, hc⟩
end

/-- Which ranks the first i of a list name. -/
def seenB (rk : List Int) (i : Nat) (r : Int) : Bool := (List.range i).any fun q => decide (nth rk q = r)
theorem seenB_succ (rk : List Int) (i : Nat) (r : Int) : seenB rk (i + 1) r = (seenB rk i r || decide (nth rk i = r)) := by
  simp [seenB, List.range_succ]
/-- Does one of the first i of a list name one of another's? -/
def wantB (rk rj : List Int) (i : Nat) : Bool := (List.range i).any fun q => seenB rk rk.length (nth rj q)
theorem wantB_succ (rk rj : List Int) (i : Nat) : wantB rk rj (i + 1) = (wantB rk rj i || seenB rk rk.length (nth rj i)) := by
  simp [wantB, List.range_succ]

theorem want_shares (e f : CE) : e.arr.shares f.arr = wantB e.ranks f.ranks f.ranks.length := by
  rw [Bool.eq_iff_iff, shares_iff]
  simp only [wantB, seenB, List.any_eq_true, List.mem_range, decide_eq_true_eq]
  constructor
  · rintro ⟨i, j, hi, hj, -, h⟩
    exact ⟨j, hj, i, hi, h⟩
  · rintro ⟨j, hj, i, hi, h⟩
    exact ⟨i, j, hi, hj, rfl, h⟩

theorem KM.share {σ : Sp} {E : List CE} {n : Nat} {V : List Int} {B : Nat} (h : KM σ E n V B) {i j : Nat} {e f : CE} (he : E[i]? = some e) (hf : E[j]? = some f) : σ.shared e.h f.h = (wantB e.ranks f.ranks f.ranks.length, 0) := by
  unfold Sp.shared
  rw [h.find he, h.find hf]
  simp only
  rw [want_shares]

end Go.Proofs.YticbbncdcannlaaGreat

/- The law Meant, walked. -/
namespace Go.Proofs.YticbbncdcannlaaGreat
open Go.RowKit

set_option maxRecDepth 100000 in
set_option maxHeartbeats 8000000 in
theorem meantLaw_calls (w : World) (va : Value) (raw : List Int) (hr : RdI w va raw) (hb : raw.length ≤ 1000000000) (hwf : ∀ j, j < raw.length → IntKind.i64.wrap (nth raw j) = nth raw j) (aS : Option Addr) (N cS : Nat) (vs : List VD) (hN : vs.length = N) (hS : 0 < N → ∃ g off, aS = some ⟨g, off, none⟩ ∧ VS w g off vs) (hNb : N ≤ 50000000) :
    Calls Tryz.prog 5 #[va, .slice aS N cS] w fun e w' => e = .returned (.bool true) ∧ Kp0 w w' := by
  obtain ⟨n, hn⟩ : ∃ n, (vol (sizesOf raw)).toNat = n := ⟨_, rfl⟩
  have hsh := sizesOf_shape raw
  have HBG := hid (began_calls w va raw hr hb hwf n hn)
  have HKM0 : Hid ((bg (sizesOf raw) n n).ok → KM (bg (sizesOf raw) n n) [⟨1, sizesOf raw, rng 0 n, false⟩] n (rng 100 n) 1) := hid (fun hok => bg_km _ hsh.1 n hn (by have := hsh.2; omega) hok)
  have HS := hid hS
  have HN := hid hN
  clear hr hb hwf hS hN hsh hn
  go_enter Tryz.func5, Tryz.ntmps5
  go_wp2_with fail
  refine HBG.out.mono ?_
  rintro e w1 ⟨pc, ps, T1, rfl, hI1⟩
  have HC1 : Hid (Casts w w1 pc ps n (rng 100 n) 1) := hid ⟨T1, _, _, hI1, HKM0.out hI1.ok, by simp, by simp⟩
  clear hI1 HBG HKM0
  go_wp2_with fail
  refine (plays_calls HC1.out aS N cS vs HN.out HS.out (by omega)).mono ?_
  rintro e w2 ⟨rfl, T2, σ, E, hI2, hM, hE1, hE30⟩
  obtain ⟨g1, g2, g3, g4, c1, c2, c3, c4, P, hcg⟩ := hI2.cg hE1
  obtain ⟨EL, hEL⟩ : ∃ EL, E.length = EL := ⟨_, rfl⟩
  rw [hEL] at hcg hE1 hE30
  have HEL := hid hEL
  have HM := hid hM
  have HCG := hid hcg
  obtain ⟨e0, he0, hr0, -⟩ := hM.fst
  obtain ⟨-, -, -, u30, -, -⟩ := hcg.ent 0 e0 he0
  rw [hr0, rng_length] at u30
  have q3 := hcg.q3
  have hn125 := hM.n2
  have hn1 := hM.n1
  have e00 : (0 : Int) < (EL : Int) := by omega
  clear hI2 hM hcg hEL HC1 he0 hr0
  go_wp2_with fail
  refine (first_list n w2 (by omega)).mono ?_
  rintro e w3 ⟨af, cf, rfl, hO3, hk3, hb3⟩
  have HCG3 := hid (HCG.out.kp0 (retag_to w2 T2 (0, 16)) hk3)
  have HRV : Hid (RdT (retag w2 T2 (0, 16)) w3 (.slice af n cf) (rng 100 n)) := hid ⟨hO3.rd, fun b hb => ⟨own_lt hO3 hb, 16, Nat.le_refl _, retag_new (hb3 b hb)⟩⟩
  clear hO3 hk3 hb3 HCG q3 u30
  generalize retag w2 T2 (0, 16) = T3 at *
  go_wp2_with fail
  refine (tells_calls HCG3.out.ki HM.out (by have := HEL.out; omega) (by have := HEL.out; omega) af cf HRV.out).mono ?_
  rintro e w4 ⟨rfl, T4, ht4, hI4, hk4⟩
  have HCG4 := hid (HCG3.out.goes ht4 hI4.rep hk4 (fun b _ e => by rw [e]; simp))
  clear ht4 hI4 hk4 HCG3 HRV
  have HMKB : Hid (∀ W, _) := hid (fun W => run_mk (P := Tryz.prog) 39 4 (.bool false) 1 Tryz.underlying39 Tryz.infoBool rfl (by omega) n (by omega) W)
  go_wp2
  go_loopw [8] (fun t w' => ∃ k : Nat, k ≤ EL ∧ t = .int .i64 k ∧ ∃ T', CG w w' T' pc ps σ E EL g1 g2 g3 g4 c1 c2 c3 c4 P) (fun t _ => EL - (intOf t).toNat)
  case atStart => exact ⟨0, Nat.zero_le _, rfl, T4, HCG4.out⟩
  case round =>
    clear HCG4
    obtain ⟨k, hk, rfl, T5, hC⟩ := hrel
    have HC := hid hC
    have q1 := hC.q1
    clear hC
    by_cases hkE : k < EL
    · obtain ⟨e, he⟩ : ∃ e, E[k]? = some e := ⟨_, List.getElem?_eq_getElem (by have := HEL.out; omega)⟩
      obtain ⟨j, hj⟩ : ∃ j : Nat, (k * 7) % EL = j := ⟨_, rfl⟩
      have hjE : j < EL := by rw [← hj]; exact Nat.mod_lt _ (by omega)
      obtain ⟨f, hf⟩ : ∃ f, E[j]? = some f := ⟨_, List.getElem?_eq_getElem (by have := HEL.out; omega)⟩
      have HJ : Hid (((k : Int) * 7) % (EL : Int) = (j : Int)) := hid (by rw [← hj]; simp)
      have HE := hid he
      have HF := hid hf
      obtain ⟨RK, hRK⟩ : ∃ RK, e.ranks.length = RK := ⟨_, rfl⟩
      obtain ⟨RJ, hRJ⟩ : ∃ RJ, f.ranks.length = RJ := ⟨_, rfl⟩
      have HRK := hid hRK
      have HRJ := hid hRJ
      have hRKp : 1 ≤ RK ∧ RK ≤ 400 := by
        have h1 := HM.out.rlen he
        have h2 : 1 ≤ vol e.shape := vol_whole (HM.out.aok he).shape
        have h3 := (HM.out.ent _ _ he).2.2.1
        omega
      have hRJp : 1 ≤ RJ ∧ RJ ≤ 400 := by
        have h1 := HM.out.rlen hf
        have h2 : 1 ≤ vol f.shape := vol_whole (HM.out.aok hf).shape
        have h3 := (HM.out.ent _ _ hf).2.2.1
        omega
      have k0 : (0 : Int) ≤ (k : Int) := by omega
      have k1 : (k : Int) < (EL : Int) := by omega
      have HSHA := hid (HM.out.share he hf)
      rw [hRJ] at HSHA
      obtain ⟨gk, ok, hpk, hck⟩ := HC.out.rk he (by omega)
      obtain ⟨gj, oj, hpj, hcj⟩ := HC.out.rk hf (by omega)
      obtain ⟨-, -, -, u3k, -, -⟩ := HC.out.ent k e he
      obtain ⟨-, -, -, u3j, -, -⟩ := HC.out.ent j f hf
      rw [hpk, hRK] at u3k
      rw [hpj, hRJ] at u3j
      rw [hRK] at hck
      rw [hRJ] at hcj
      have HCKC := hid hck
      have HCJC := hid hcj
      have q3 := HC.out.q3
      have HU := hid (And.intro q3 (And.intro u3k u3j))
      have HRKB : Hid (∀ q, q < RK → 0 ≤ nth e.ranks q ∧ nth e.ranks q < n) := hid (fun q hq => HM.out.rk he q (by omega))
      have HRJB : Hid (∀ q, q < RJ → 0 ≤ nth f.ranks q ∧ nth f.ranks q < n) := hid (fun q hq => HM.out.rk hf q (by omega))
      clear he hf hj hRK hRJ hck hcj hpk hpj q3 u3k u3j
      have hmk := HMKB.out
      go_wp2
      clear hmk
      obtain ⟨w5, hw5⟩ : ∃ w5, wr = w5 := ⟨_, rfl⟩
      rw [hw5] at HC HU HCKC HCJC q1 ⊢
      clear hw5
      go_loopw [10] (fun t w' => ∃ i : Nat, i ≤ RK ∧ t = .int .i64 i ∧ Kp0 w5 w' ∧ w'.heap[w5.heap.size]? = some (.cells (bls (seenB e.ranks i) n) 4 (0, 0))) (fun t _ => RK - (intOf t).toNat)
      case atStart => exact ⟨0, Nat.zero_le _, rfl, (Kp.refl _ _).alloc _, by rw [heap_alloc_new, ← bls_rep]; rfl⟩
      case round =>
        obtain ⟨i, hi, rfl, hK, hG⟩ := hrel
        have HK := hid hK
        have HG := hid hG
        have y3 := hK.cell HU.out.1
        have y3k := hK.cell HU.out.2.1
        by_cases hiR : i < RK
        · obtain ⟨z1, z2⟩ := HRKB.out i hiR
          have x1 := hK.cell (HCKC.out i hiR)
          have hcell : wr.cell? ⟨w5.heap.size, (nth e.ranks i).toNat, none⟩ = some (.bool (seenB e.ranks i ((nth e.ranks i).toNat : Int))) := by
            rw [cell_of_row wr _ _ _ _ _ hG]
            exact bls_get _ _ _ (by omega)
          have hfz : wr.frozen? ⟨w5.heap.size, (nth e.ranks i).toNat, none⟩ = false := frozen_blk hG
          have HSET : Hid ((bls (seenB e.ranks i) n).setIfInBounds (nth e.ranks i).toNat (.bool true) = bls (seenB e.ranks (i + 1)) n) := hid (bls_set _ _ _ _ _ (by rw [seenB_succ, show ((nth e.ranks i).toNat : Int) = nth e.ranks i by omega]; simp) (fun q hq => by
            rw [seenB_succ, show decide (nth e.ranks i = (q : Int)) = false by simp; omega, Bool.or_false]))
          have i0 : (0 : Int) ≤ (i : Int) := by omega
          have i1 : (i : Int) < (RK : Int) := by omega
          generalize seenB e.ranks i ((nth e.ranks i).toNat : Int) = old at *
          generalize nth e.ranks i = ri at *
          clear hK hG
          go_wp2
          go_roundw
          case rel =>
            refine ⟨i + 1, by omega, by go_num, Kp.setCell HK.out _ _ (fun h => by simp at h), ?_⟩
            rw [heap_setCell_same _ _ _ _ _ _ HG.out, HSET.out]
          case measure => simp [intOf]; omega
        · have i1 : ¬ (i : Int) < (RK : Int) := by omega
          have hiR' : i = RK := by omega
          rw [hiR'] at HG
          have y1 := hK.cell q1
          have y3j := hK.cell HU.out.2.2
          have HKW := hid hK
          have HNM : Hid (0 ≤ (k : Int) * 7 ∧ (k : Int) * 7 ≤ 1000) := hid (by omega)
          have hnm := HNM.out
          have hzE : ((EL : Int) == 0) = false := by simp; omega
          have hz2 : ¬ (EL : Int) = 0 := by omega
          have hm1 : ¬ (EL : Int) = -1 := by omega
          have hmod : ((k : Int) * 7).tmod (EL : Int) = (j : Int) := by rw [Int.tmod_eq_emod_of_nonneg (by omega)]; exact HJ.out
          have hmod2 : ((k : Int) * 7) % (EL : Int) = (j : Int) := HJ.out
          have j0 : (0 : Int) ≤ (j : Int) := by omega
          have j1 : (j : Int) < (EL : Int) := by omega
          obtain ⟨w6, hw6⟩ : ∃ w6, wr = w6 := ⟨_, rfl⟩
          rw [hw6] at HG HKW y1 y3 y3j y3k ⊢
          clear hw6 hiR' hK hG HK hi hiR
          go_wp2
          clear hmod hmod2 hnm hzE hz2 hm1
          go_loopw [12, 13] (fun b t w' => ∃ i : Nat, i ≤ RJ ∧ t = .int .i64 i ∧ b = .bool (wantB e.ranks f.ranks i) ∧ w' = w6) (fun _ t _ => RJ - (intOf t).toNat)
          case atStart => exact ⟨0, Nat.zero_le _, rfl, rfl, rfl⟩
          case round =>
            obtain ⟨i, hi, rfl, rfl, hwr⟩ := hrel
            obtain rfl := hwr.symm
            by_cases hiR : i < RJ
            · obtain ⟨z1, z2⟩ := HRJB.out i hiR
              have x1 := HKW.out.cell (HCJC.out i hiR)
              have hcell : w6.cell? ⟨w5.heap.size, (nth f.ranks i).toNat, none⟩ = some (.bool (seenB e.ranks RK (nth f.ranks i))) := by
                rw [cell_of_row w6 _ _ _ _ _ HG.out, bls_get _ _ _ (by omega), show ((nth f.ranks i).toNat : Int) = nth f.ranks i by omega]
              have HWS : Hid (wantB e.ranks f.ranks (i + 1) = (wantB e.ranks f.ranks i || seenB e.ranks RK (nth f.ranks i))) := hid (by rw [wantB_succ, HRK.out])
              have i0 : (0 : Int) ≤ (i : Int) := by omega
              have i1 : (i : Int) < (RJ : Int) := by omega
              generalize seenB e.ranks RK (nth f.ranks i) = sn at *
              generalize nth f.ranks i = ri at *
              cases hw : wantB e.ranks f.ranks i
              · rw [hw] at HWS
                clear hw
                go_wp2
                go_roundw
                case rel => exact ⟨i + 1, by omega, by go_num, by rw [HWS.out]; simp, by first | rfl | trivial⟩
                case measure => simp [intOf]; omega
              · rw [hw] at HWS
                clear hw
                go_wp2
                go_roundw
                case rel => exact ⟨i + 1, by omega, by go_num, by rw [HWS.out]; simp, by first | rfl | trivial⟩
                case measure => simp [intOf]; omega
            · have i1 : ¬ (i : Int) < (RJ : Int) := by omega
              have hiR' : i = RJ := by omega
              rw [hiR']
              have i2 : ¬ (RJ : Int) < (RJ : Int) := by omega
              obtain ⟨T6, hT6⟩ : ∃ T6, retag w5 T5 (2, 0) = T6 := ⟨_, rfl⟩
              have HC6 : Hid (CG w w6 T6 pc ps σ E EL g1 g2 g3 g4 c1 c2 c3 c4 P) := hid (by rw [← hT6]; exact HC.out.kp0 (retag_to w5 T5 _) HKW.out)
              clear hiR' hi hiR i1 hT6
              obtain ⟨wt, hwt⟩ : ∃ wt, wantB e.ranks f.ranks RJ = wt := ⟨_, rfl⟩
              rw [hwt] at HSHA ⊢
              clear hwt
              have HX : Hid (∀ W, Kp0 w6 W → Calls Tryz.prog 18 #[.pointer (some ⟨ps, 0, none⟩), .int .i64 e.h, .int .i64 f.h] W fun e' w7 => e' = .returned (.tuple #[.bool wt, .int .i64 0]) ∧ ∃ T7, CG w w7 T7 pc ps σ E EL g1 g2 g3 g4 c1 c2 c3 c4 P) := hid (fun W kW => by
                have hCW := HC6.out.kp0 (fun _ _ => rfl) kW
                refine (xc_shared e.h f.h hCW.ki.rep).mono ?_
                rintro e' w7 ⟨rfl, hst⟩
                obtain ⟨T7, h1, h2, h3⟩ := hCW.step hst
                rw [HSHA.out]
                exact ⟨rfl, T7, h2⟩)
              have s0 := HC6.out.q0
              have s1 := HC6.out.q1
              obtain ⟨s2, -⟩ := HC6.out.ent k e HE.out
              obtain ⟨s3, -⟩ := HC6.out.ent j f HF.out
              clear y1
              go_wp2
              go_region_held3 (fun W => W.cell? ⟨pc, 0, none⟩ = some (.pointer (some ⟨ps, 0, none⟩)) ∧ W.cell? ⟨pc, 1, none⟩ = some (.slice (some ⟨g1, 0, none⟩) EL c1) ∧ W.cell? ⟨g1, k, none⟩ = some (.int .i64 e.h) ∧ W.cell? ⟨g1, j, none⟩ = some (.int .i64 f.h)) (first | go_keep | (go_split_ands; exact ⟨hC7.q0, hC7.q1, (hC7.ent k e HE.out).1, (hC7.ent j f HF.out).1⟩))
                ((go_at_call 18; refine (HX.out _ ?_).mono ?_; (first | exact Kp0.refl _ | exact Kp0.drew (Kp0.refl _)); rintro e' w7 ⟨rfl, T7, hC7⟩))
              have HC7 := hid hC7
              have bw : (wt != wt) = false := by simp
              clear hC7 HX s0 s1 s2 s3
              go_wp2
              go_roundw
              case rel => exact ⟨k + 1, by omega, by go_num, T7, HC7.out⟩
              case measure => simp [intOf]; omega
    · have k1 : ¬ (k : Int) < (EL : Int) := by omega
      have HKW := hid HC.out.ki.keep
      go_wp2
      go_ret
      exact ⟨rfl, HKW.out⟩

end Go.Proofs.YticbbncdcannlaaGreat
