/- The cast: tells, walked. -/
import Derived.Test.YticbbncdcannlaaGreatG50
import Derived.Test.YticbbncdcannlaaGreatG51
import Derived.Test.YticbbncdcannlaaGreatG36

namespace Go.Proofs.YticbbncdcannlaaGreat
open Go.RowKit

/-- The cast stands still; what is not the space's is as it was. -/
def Still (w0 w : World) (T : Tags) (pc ps : Nat) (σ : Sp) (E : List CE) (w' : World) : Prop := ∃ T', TagsTo w T T' ∧ KI w0 w' T' pc ps σ E ∧ Kp (fun b => (T b).1 = 1) w w'

theorem KM.look {σ : Sp} {E : List CE} {n : Nat} {V : List Int} {B : Nat} (h : KM σ E n V B) {i : Nat} {e : CE} (he : E[i]? = some e) : σ.look e.h = (2, e.shape, e.ro, 0) ∧ σ.values e.h = (e.told V, 0) := by
  constructor
  · unfold Sp.look
    rw [h.find he]
    rfl
  · unfold Sp.values
    rw [h.find he]
    simp only
    rw [h.told he]

theorem told_nth (e : CE) (V : List Int) (j : Nat) (h : j < e.ranks.length) : nth (e.told V) j = nth V (nth e.ranks j).toNat := by
  rw [nth_lt (by rw [CE.told_length]; exact h)]
  simp [CE.told, nth_lt h]

/-- A list that no call of the space's changes. -/
def RdV (T : Tags) (w : World) (v : Value) (xs : List Int) : Prop := RdI w v xs ∧ ∀ b, v.ownBlock = some b → b < w.heap.size ∧ (T b).1 ≠ 1
set_option maxRecDepth 100000 in
set_option maxHeartbeats 8000000 in
theorem tellsV_calls {w0 w : World} {T : Tags} {pc ps : Nat} {σ : Sp} {E : List CE} {n : Nat} {V : List Int} {B : Nat} (h : KI w0 w T pc ps σ E) (hM : KM σ E n V B) (h1 : 1 ≤ E.length) (h30 : E.length ≤ 1000) (av : Option Addr) (cv : Nat) (hv : RdV T w (.slice av n cv) V) :
    Calls Tryz.prog 16 #[.pointer (some ⟨pc, 0, none⟩), .slice av n cv] w fun e w' => e = .returned (.bool true) ∧ Still w0 w T pc ps σ E w' := by
  have HI := hid h
  have HM := hid hM
  have HRV := hid hv
  obtain ⟨EL, hEL⟩ : ∃ EL, E.length = EL := ⟨_, rfl⟩
  have HEL := hid hEL
  rw [hEL] at h1 h30
  obtain ⟨gv, ov, rfl, hcv⟩ : ∃ gv ov, av = some ⟨gv, ov, none⟩ ∧ ∀ j, j < n → w.cell? ⟨gv, ov + j, none⟩ = some (.int .i64 (nth V j)) := by
    have hn1 := hM.n1
    have hl := hM.len
    obtain ⟨a, c, ev, hh⟩ := rd_parts hv.1
    obtain ⟨g, o, rfl, hc⟩ := hh (by omega)
    simp at ev
    exact ⟨g, o, by rw [ev.1], fun j hj => hc j (by omega)⟩
  have HCV := hid hcv
  have HTV : Hid (gv < w.heap.size ∧ (T gv).1 ≠ 1) := hid (hv.2 gv rfl)
  have hn125 := hM.n2
  clear h hM hv hEL hcv
  go_enter Tryz.func16, Tryz.ntmps16
  go_wp2
  go_loopw [5] (fun t w' => ∃ k : Nat, k ≤ EL ∧ t = .int .i64 k ∧ Still w0 w T pc ps σ E w') (fun t _ => EL - (intOf t).toNat)
  case atStart => exact ⟨0, Nat.zero_le _, rfl, T, fun _ _ => rfl, HI.out, Kp.refl _ _⟩
  case round =>
    clear HI
    obtain ⟨k, hk, rfl, T1, ht1, hI, hK1⟩ := hrel
    have HT1 := hid ht1
    have HI := hid hI
    have HK1 := hid hK1
    clear ht1 hI hK1
    obtain ⟨q0, gg1, gg2, gg3, gg4, cc1, cc2, cc3, cc4, hq, -, -⟩ := HI.out.cells
    obtain ⟨q1', -, -, -⟩ := hq (by have := HEL.out; omega)
    rw [HEL.out] at q1'
    clear hq
    by_cases hkE : k < EL
    · obtain ⟨e, he⟩ : ∃ e, E[k]? = some e := ⟨_, List.getElem?_eq_getElem (by have := HEL.out; omega)⟩
      obtain ⟨g1, g2, g3, g4, c1, c2, c3, c4, a1, d1, a2, d2, hck⟩ := HI.out.ck he
      rw [HEL.out] at hck
      have HE := hid he
      have HCK := hid hck
      have k0 : (0 : Int) ≤ (k : Int) := by omega
      have k1 : (k : Int) < (EL : Int) := by omega
      obtain ⟨hlk, hvl⟩ := HM.out.look he
      have HLK := hid hlk
      obtain ⟨tv, htv⟩ : ∃ tv, e.told V = tv := ⟨_, rfl⟩
      rw [htv] at hvl
      have HVL := hid hvl
      obtain ⟨RL, hRL⟩ : ∃ RL, e.ranks.length = RL := ⟨_, rfl⟩
      have HTL : Hid (tv.length = RL) := hid (by rw [← htv, CE.told_length, hRL])
      have HTN : Hid (∀ j, j < RL → nth tv j = nth V (nth e.ranks j).toNat ∧ 0 ≤ nth e.ranks j ∧ nth e.ranks j < n) := hid (fun j hj => by
        rw [← htv]
        exact ⟨told_nth e V j (by omega), HM.out.rk HE.out j (by omega)⟩)
      have hRLb : RL ≤ 400 := by have h1 := HM.out.rlen HE.out; have h2 := (HM.out.ent _ _ HE.out).2.2.1; omega
      have HRL := hid hRL
      have hs1 : w.heap.size ≤ wr.heap.size := HK1.out.size
      clear he hck hlk hvl htv hRL
      have HX1 : Hid (∀ W, Kp0 wr W → Calls Tryz.prog 26 #[.pointer (some ⟨ps, 0, none⟩), .int .i64 e.h] W fun e' w3 => ∃ ao c, e' = .returned (.tuple #[.slice ao RL c, .int .i64 0]) ∧ ∃ T3, TagsTo wr T1 T3 ∧ CK w0 w3 T3 pc ps σ E k e EL g1 g2 g3 g4 c1 c2 c3 c4 a1 d1 a2 d2 ∧ Kp (fun b => (T1 b).1 = 1) wr w3 ∧ RdT T3 w3 (.slice ao RL c) tv) := hid (fun W kW => by
        have hCW := HCK.out.kp0 (fun _ _ => rfl) kW
        refine (xc_values e.h (0, 16) hCW.ki.rep).mono ?_
        rintro e' w3 ⟨v', rfl, hst⟩
        rw [HVL.out] at hst ⊢
        obtain ⟨T3, ao, c, rfl, h1, h2, h3, h4⟩ := hCW.stepL hst
        simp only [HTL.out] at h4 ⊢
        exact ⟨ao, c, rfl, T3, fun b hb => h1 b (Nat.lt_of_lt_of_le hb kW.size), h2, (Kp.of0 kW).trans h3 (fun _ _ e => e), h4⟩)
      have s0 := HCK.out.q0
      have s1 := HCK.out.q1
      have s2 := HCK.out.u1
      clear q0 q1'
      go_wp2
      go_region_held3 (fun W => W.cell? ⟨pc, 0, none⟩ = some (.pointer (some ⟨ps, 0, none⟩)) ∧ W.cell? ⟨pc, 1, none⟩ = some (.slice (some ⟨g1, 0, none⟩) EL c1) ∧ W.cell? ⟨g1, k, none⟩ = some (.int .i64 e.h)) (first | go_keep | (go_split_ands; exact ⟨hC3.q0, hC3.q1, hC3.u1⟩))
        ((go_at_call 26; refine (HX1.out _ ?_).mono ?_; (first | exact Kp0.refl _ | exact Kp0.drew (Kp0.refl _)); rintro e' w3 ⟨ao3, c3', rfl, T3, ht3, hC3, hk3, hl3⟩))
      have HT3 : Hid (TagsTo w T T3) := hid (fun b hb => by rw [ht3 b (by omega), HT1.out b hb])
      have HK3 : Hid (Kp (fun b => (T b).1 = 1) w w3) := hid (HK1.out.trans hk3 (fun b hb e => by rw [HT1.out b hb] at e; exact e))
      obtain ⟨T4, hT4⟩ : ∃ T4, retag w3 T3 (2, 0) = T4 := ⟨_, rfl⟩
      have HT4 : Hid (TagsTo w3 T3 T4) := hid (by rw [← hT4]; exact retag_to w3 T3 _)
      have HN4 : Hid (∀ b, w3.heap.size ≤ b → T4 b = (2, 0)) := hid (fun b hb => by rw [← hT4]; exact retag_new hb)
      have HC4 := hid (hC3.kp0 HT4.out (Kp0.refl _))
      have HL4 := hid (hl3.kp HT4.out (Kp0.refl _) (fun _ _ _ _ _ e => e))
      have hs3 : w.heap.size ≤ w3.heap.size := HK3.out.size
      clear ht3 hC3 hk3 hl3 HX1 s0 s1 s2 HCK hT4
      obtain ⟨m, hm⟩ : ∃ m, e.shape.length = m := ⟨_, rfl⟩
      have HMM := hid hm
      have hm4 : m ≤ 4 := by have := (HM.out.aok HE.out).shape.1; rw [← hm]; exact this
      clear hm
      have HX2 : Hid (∀ W, Kp0 w3 W → Calls Tryz.prog 49 #[.pointer (some ⟨ps, 0, none⟩), .int .i64 e.h] W fun e' w5 => ∃ ao c, e' = .returned (.tuple #[.agg #[.int .i64 2, .slice ao m c, .bool e.ro], .int .i64 0]) ∧ ∃ T5, TagsTo W T4 T5 ∧ CK w0 w5 T5 pc ps σ E k e EL g1 g2 g3 g4 c1 c2 c3 c4 a1 d1 a2 d2 ∧ Kp (fun b => (T4 b).1 = 1) W w5 ∧ Kp (fun b => (T4 b).1 = 1) w3 w5 ∧ RdT T5 w5 (.slice ao m c) e.shape ∧ RdT T5 w5 (.slice ao3 RL c3') tv) := hid (fun W kW => by
        have hCW := HC4.out.kp0 (fun _ _ => rfl) kW
        have hLW := HL4.out.kp (fun _ _ => rfl) kW (fun _ _ _ _ _ e => e)
        refine (xc_look e.h (0, 16) hCW.ki.rep).mono ?_
        rintro e' w5 ⟨v', rfl, hst⟩
        rw [HLK.out] at hst ⊢
        obtain ⟨T5, ao, c, rfl, h1, h2, h3, h4⟩ := hCW.stepL hst
        simp only [HMM.out] at h4 ⊢
        exact ⟨ao, c, rfl, T5, h1, h2, h3, (Kp.of0 kW).trans h3 (fun _ _ e => e), h4, hLW.step1 h1 h3⟩)
      have n0 : Hid (∀ b, w3.heap.size ≤ b → ¬ (T4 b).1 = 1) := hid (fun b hb e => by rw [HN4.out b hb] at e; cases e)
      have s0 := HC4.out.q0
      have s1 := HC4.out.q1
      have s2 := HC4.out.u1
      have n1 : ¬ w3.heap.size = pc := by have : pc < w3.heap.size := block_lt_of_cell s0; omega
      have n2 : ¬ w3.heap.size = g1 := by have : g1 < w3.heap.size := block_lt_of_cell s2; omega
      go_upto_region 5 with (fail)
      go_cut [8, 9] from 36 to 50 (fun s8 s9 W => ∃ A ao c T6, s8 = .pointer (some ⟨A, 0, none⟩) ∧ s9 = .int .i64 0 ∧ CK w0 W T6 pc ps σ E k e EL g1 g2 g3 g4 c1 c2 c3 c4 a1 d1 a2 d2 ∧ (∀ b, b < w3.heap.size → T6 b = T3 b) ∧ Kp (fun b => (T3 b).1 = 1) w3 W ∧ RdI W (.slice ao m c) e.shape ∧ RdI W (.slice ao3 RL c3') tv ∧ W.cell? ⟨A, 1, none⟩ = some (.slice ao m c) ∧ W.cell? ⟨A, 2, none⟩ = some (.bool e.ro))
      case first =>
        go_region_held3 (fun W => W.cell? ⟨pc, 0, none⟩ = some (.pointer (some ⟨ps, 0, none⟩)) ∧ W.cell? ⟨pc, 1, none⟩ = some (.slice (some ⟨g1, 0, none⟩) EL c1) ∧ W.cell? ⟨g1, k, none⟩ = some (.int .i64 e.h)) (go_keep)
          ((go_at_call 49; refine (HX2.out _ ?_).mono ?_; (first | exact Kp.refl _ _ | exact Kp.drew (Kp.refl _ _) | exact Kp.alloc (Kp.refl _ _) _ | exact Kp.drew (Kp.alloc (Kp.refl _ _) _)); rintro e' w5 ⟨ao5, c5, rfl, T5, ht5, hC5, hkW, hk5, hsh5, hl5⟩;
            have x0 := hC5.q0; have x1 := hC5.q1; have x2 := hC5.u1;
            (first | (have c := kp_new hkW (n0.out _ (Nat.le_refl _)); obtain ⟨⟨cA0, cA1, cA2⟩, cf, cl⟩ := c; have cf0 := cf 0; have cf1 := cf 1; have cf2 := cf 2) | skip)))
        · have HT6 : Hid (∀ b, b < w3.heap.size → T5 b = T3 b) := hid (fun b hb => by rw [ht5 b (by simp; omega), HT4.out b hb])
          have HC6 := hid (hC5.kp0 (fun _ _ => rfl) (Kp.alloc (Kp.refl (fun _ => False) w5) (.cells #[.int .i64 2, .slice ao5 m c5, .bool e.ro] 96)))
          have HK6 : Hid (Kp (fun b => (T3 b).1 = 1) w3 (w5.alloc (.cells #[.int .i64 2, .slice ao5 m c5, .bool e.ro] 96))) := hid ((hk5.mono (fun b hb e => by rw [HT4.out b hb] at e; exact e)).alloc _)
          have HS6 := hid (hsh5.1.kp0 (Kp.alloc (Kp.refl (fun _ => False) w5) (.cells #[.int .i64 2, .slice ao5 m c5, .bool e.ro] 96)))
          have HL6 := hid (hl5.1.kp0 (Kp.alloc (Kp.refl (fun _ => False) w5) (.cells #[.int .i64 2, .slice ao5 m c5, .bool e.ro] 96)))
          have hu : Hid ((w5.alloc (.cells #[.int .i64 2, .slice ao5 m c5, .bool e.ro] 96)).cell? ⟨w5.heap.size, 1, none⟩ = some (.slice ao5 m c5) ∧ (w5.alloc (.cells #[.int .i64 2, .slice ao5 m c5, .bool e.ro] 96)).cell? ⟨w5.heap.size, 2, none⟩ = some (.bool e.ro)) := hid (by simp)
          clear ht5 hC5 hkW hk5 hsh5 hl5
          go_wp2_with fail
          go_meet
          case rel => exact ⟨w5.heap.size, ao5, c5, T5, rfl, rfl, HC6.out, HT6.out, HK6.out, HS6.out, HL6.out, hu.out.1, hu.out.2⟩
        · have hA5 : T5 w3.heap.size = (2, 0) := by rw [ht5 _ (by simp)]; exact HN4.out _ (Nat.le_refl _)
          have hkz : Kp (fun b => b = w3.heap.size) w5 (((w5.setCell ⟨w3.heap.size, 0, none⟩ (.int .i64 2)).setCell ⟨w3.heap.size, 1, none⟩ (.slice ao5 m c5)).setCell ⟨w3.heap.size, 2, none⟩ (.bool e.ro)) := three_kp w5 w3.heap.size _ _ _
          have HT6 : Hid (∀ b, b < w3.heap.size → T5 b = T3 b) := hid (fun b hb => by rw [ht5 b (by simp; omega), HT4.out b hb])
          have hz2 : ∀ b, b < w5.heap.size → b = w3.heap.size → (T5 b).1 ≠ 0 := fun b _ e => by rw [e, hA5]; simp
          have HC6 := hid (hC5.goes (fun _ _ => rfl) (hC5.ki.rep.kp hkz (fun b e z => by rw [z, hA5] at e; cases e)) hkz hz2)
          have HK6 := hid ((hk5.mono (fun b hb e => by rw [HT4.out b hb] at e; exact e) : Kp (fun b => (T3 b).1 = 1) w3 w5).trans hkz (fun b hb e => by omega))
          have HS6 := hid (hsh5.kp (T' := T5) (fun _ _ => rfl) hkz (fun b i _ _ e z => by rw [z, hA5] at e; cases e)).1
          have HL6 := hid (hl5.kp (T' := T5) (fun _ _ => rfl) hkz (fun b i _ _ e z => by rw [z, hA5] at e; cases e)).1
          have hu := hid (three_cells (x' := .int .i64 2) (y' := .slice ao5 m c5) (z' := .bool e.ro) cA0 cA1 cA2)
          clear ht5 hC5 hkW hk5 hsh5 hl5 cA0 cA1 cA2 cf cf0 cf1 cf2 hkz hz2 hA5
          go_wp2_with fail
          go_meet
          case rel => exact ⟨w3.heap.size, ao5, c5, T5, rfl, rfl, HC6.out, HT6.out, HK6.out, HS6.out, HL6.out, hu.out.2.1, hu.out.2.2⟩
      case rest =>
        obtain ⟨A, ao6, c6, T6, rfl, rfl, hC6, hT6, hK6, hS6, hL6, hu1, hu2⟩ := hcut
        have HC6 := hid hC6
        have HS6 := hid hS6
        have HL6 := hid hL6
        have HT6 : Hid (TagsTo w T T6) := hid (fun b hb => by rw [hT6 b (by omega), HT3.out b hb])
        have HK6 : Hid (Kp (fun b => (T b).1 = 1) w wc) := hid (HK3.out.trans hK6 (fun b hb e => by rw [HT3.out b hb] at e; exact e))
        have s0 := hC6.q2
        have s1 := hC6.u2
        rw [HMM.out] at s1
        have hAl : A < wc.heap.size := block_lt_of_cell hu1
        have HSM : Hid (∀ W, Kp0 wc W → Calls Tryz.prog 31 #[.slice ao6 m c6, .slice a1 m d1] W fun e w' => e = .returned (.bool true) ∧ Kp0 wc w') := hid (fun W kW => (ksame_calls _ _ e.shape e.shape W (HS6.out.kp0 kW) (by have := HC6.out.r1.1.kp0 kW; rw [HMM.out] at this; exact this) (by rw [HMM.out]; omega)).mono (by
          rintro e' w' ⟨rfl, hk⟩
          exact ⟨by simp, kW.trans hk⟩))
        clear hC6 hS6 hL6 hT6 hK6 s2 HC4 HL4 HX2 HT4 HN4 n0 n1 n2 HK3 HT3
        go_wp2
        go_region_held3 (fun W => W.cell? ⟨A, 1, none⟩ = some (.slice ao6 m c6) ∧ W.cell? ⟨pc, 2, none⟩ = some (.slice (some ⟨g2, 0, none⟩) EL c2) ∧ W.cell? ⟨g2, k, none⟩ = some (.slice a1 m d1)) (first | go_keep | (go_split_ands; exact ⟨hk7.cell hu1, hk7.cell s0, hk7.cell s1⟩))
          ((go_at_call 31; refine (HSM.out _ ?_).mono ?_; (first | exact Kp0.refl _ | exact Kp0.drew (Kp0.refl _)); rintro e' w7 ⟨rfl, hk7⟩))
        have HC7 := hid (HC6.out.kp0 (fun _ _ => rfl) hk7)
        have HL7 := hid (HL6.out.kp0 hk7)
        have hu2' := hk7.cell hu2
        have HK7 : Hid (Kp (fun b => (T b).1 = 1) w w7) := hid (HK6.out.trans0 hk7)
        clear hk7 s0 s1 hu1 hu2 HC6 HL6 HS6 HSM HK6
        have t0 := HC7.out.q4
        have t1 := HC7.out.u4
        have t2 := HC7.out.q3
        have t3 := HC7.out.u3
        rw [HRL.out] at t3
        have b1 : (e.ro != e.ro) = false := by simp
        have b2 : ((RL : Int) != (RL : Int)) = false := by simp
        go_wp2
        go_quiet (fail)
        have HKD : Hid (Kp0 w7 (w7.drewN nq)) := hid ((Kp.refl _ _).drewN _)
        have HC8 := hid (HC7.out.kp0 (fun _ _ => rfl) HKD.out)
        have HL8 := hid (HL7.out.kp0 HKD.out)
        have HK8 : Hid (Kp (fun b => (T b).1 = 1) w (w7.drewN nq)) := hid (HK7.out.trans0 HKD.out)
        generalize w7.drewN nq = w8 at *
        clear t0 t1 t2 t3 hu2' HKD HC7 HL7 HK7 b1 b2 hAl
        obtain ⟨gl, ol, rfl, hcl⟩ : ∃ gl ol, ao3 = some ⟨gl, ol, none⟩ ∧ ∀ j, j < RL → w8.cell? ⟨gl, ol + j, none⟩ = some (.int .i64 (nth tv j)) := by
          have h1 := HM.out.rlen HE.out
          have h2 := vol_whole (HM.out.aok HE.out).shape
          have h3 : 1 ≤ vol e.shape := h2
          have h4 := HRL.out
          obtain ⟨a, c, ev, hh⟩ := rd_parts HL8.out
          obtain ⟨g, o, rfl, hc⟩ := hh (by rw [HTL.out]; omega)
          simp at ev
          exact ⟨g, o, by rw [ev.1], fun j hj => hc j (by rw [HTL.out]; exact hj)⟩
        obtain ⟨gr, og, rfl, hcr⟩ : ∃ gr og, a2 = some ⟨gr, og, none⟩ ∧ ∀ j, j < RL → w8.cell? ⟨gr, og + j, none⟩ = some (.int .i64 (nth e.ranks j)) := by
          have h1 := HM.out.rlen HE.out
          have h2 := vol_whole (HM.out.aok HE.out).shape
          have h3 : 1 ≤ vol e.shape := h2
          obtain ⟨a, c, ev, hh⟩ := rd_parts HC8.out.r2.1
          obtain ⟨g, o, rfl, hc⟩ := hh (by omega)
          simp at ev
          exact ⟨g, o, by rw [ev.1], fun j hj => hc j (by have := HRL.out; omega)⟩
        have HCL := hid hcl
        have HCR := hid hcr
        have HVC : Hid (∀ j, j < n → w8.cell? ⟨gv, ov + j, none⟩ = some (.int .i64 (nth V j))) := hid (fun j hj => HK8.out.cell (HCV.out j hj) HTV.out.2)
        have t2 := HC8.out.q3
        have t3 := HC8.out.u3
        rw [HRL.out] at t3
        clear hcl hcr HL8
        go_wp2
        go_loopw [11] (fun t w' => ∃ j : Nat, j ≤ RL ∧ t = .int .i64 j ∧ ∃ d, w' = w8.drewN d) (fun t _ => RL - (intOf t).toNat)
        case atStart => exact ⟨0, Nat.zero_le _, rfl, 0, rfl⟩
        case round =>
          obtain ⟨j, hj, rfl, d, rfl⟩ := hrel
          by_cases hjR : j < RL
          · obtain ⟨z1, z2, z3⟩ := HTN.out j hjR
            have x1 := HCL.out j hjR
            have x2 := HCR.out j hjR
            have x3 := HVC.out (nth e.ranks j).toNat (by omega)
            rw [← z1] at x3
            have j0 : (0 : Int) ≤ (j : Int) := by omega
            have j1 : (j : Int) < (RL : Int) := by omega
            have bb : (nth tv j != nth tv j) = false := by simp
            clear z1
            generalize nth e.ranks j = rj at *
            generalize nth tv j = x at *
            go_wp2
            go_quiet (fail)
            go_wp2
            go_roundw
            case rel => exact ⟨j + 1, by omega, by go_num, _, rfl⟩
            case measure => simp [intOf]; omega
          · have j1 : ¬ (j : Int) < (RL : Int) := by omega
            have HKF : Hid (Kp0 w8 (w8.drewN d)) := hid ((Kp.refl _ _).drewN _)
            go_wp2
            go_roundw
            case rel => exact ⟨k + 1, by omega, by go_num, T6, HT6.out, HC8.out.ki.kp0 (fun _ _ => rfl) HKF.out, HK8.out.trans0 HKF.out⟩
            case measure => simp [intOf]; omega
    · have d1 : ¬ (k : Int) < (EL : Int) := by omega
      go_wp2
      go_ret
      exact ⟨rfl, T1, HT1.out, HI.out, HK1.out⟩

end Go.Proofs.YticbbncdcannlaaGreat

/- The cast with the names of all its parts; what Meant reckons. -/
namespace Go.Proofs.YticbbncdcannlaaGreat
open Go.RowKit

/-- The cast, with the names of its parts and of all its arrays' lists. -/
structure CG (w0 w : World) (T : Tags) (pc ps : Nat) (σ : Sp) (E : List CE) (EL g1 g2 g3 g4 c1 c2 c3 c4 : Nat) (P : Nat → Option Addr × Nat × Option Addr × Nat) : Prop where
  ki : KI w0 w T pc ps σ E
  q0 : w.cell? ⟨pc, 0, none⟩ = some (.pointer (some ⟨ps, 0, none⟩))
  q1 : w.cell? ⟨pc, 1, none⟩ = some (.slice (some ⟨g1, 0, none⟩) EL c1)
  q2 : w.cell? ⟨pc, 2, none⟩ = some (.slice (some ⟨g2, 0, none⟩) EL c2)
  q3 : w.cell? ⟨pc, 3, none⟩ = some (.slice (some ⟨g3, 0, none⟩) EL c3)
  q4 : w.cell? ⟨pc, 4, none⟩ = some (.slice (some ⟨g4, 0, none⟩) EL c4)
  ent : ∀ (i : Nat) (e : CE), E[i]? = some e → w.cell? ⟨g1, i, none⟩ = some (.int .i64 e.h) ∧ w.cell? ⟨g4, i, none⟩ = some (.bool e.ro) ∧ w.cell? ⟨g2, i, none⟩ = some (.slice (P i).1 e.shape.length (P i).2.1) ∧ w.cell? ⟨g3, i, none⟩ = some (.slice (P i).2.2.1 e.ranks.length (P i).2.2.2) ∧ RdT T w (.slice (P i).1 e.shape.length (P i).2.1) e.shape ∧ RdT T w (.slice (P i).2.2.1 e.ranks.length (P i).2.2.2) e.ranks
  tg : (T pc).1 = 0 ∧ (T g1).1 = 0 ∧ (T g2).1 = 0 ∧ (T g3).1 = 0 ∧ (T g4).1 = 0
  lt : pc < w.heap.size ∧ g1 < w.heap.size ∧ g2 < w.heap.size ∧ g3 < w.heap.size ∧ g4 < w.heap.size

theorem KI.cg {w0 w : World} {T : Tags} {pc ps : Nat} {σ : Sp} {E : List CE} (h : KI w0 w T pc ps σ E) (h1 : 1 ≤ E.length) : ∃ g1 g2 g3 g4 c1 c2 c3 c4 P, CG w0 w T pc ps σ E E.length g1 g2 g3 g4 c1 c2 c3 c4 P := by
  obtain ⟨q0, g1, g2, g3, g4, c1, c2, c3, c4, hq, ht, hg⟩ := h.cells
  obtain ⟨q1, q2, q3, q4⟩ := hq (by omega)
  have key : ∀ i : Nat, ∃ p : Option Addr × Nat × Option Addr × Nat, ∀ e, E[i]? = some e → w.cell? ⟨g2, i, none⟩ = some (.slice p.1 e.shape.length p.2.1) ∧ w.cell? ⟨g3, i, none⟩ = some (.slice p.2.2.1 e.ranks.length p.2.2.2) ∧ RdT T w (.slice p.1 e.shape.length p.2.1) e.shape ∧ RdT T w (.slice p.2.2.1 e.ranks.length p.2.2.2) e.ranks := fun i => by
    cases he : E[i]? with
    | none => exact ⟨(none, 0, none, 0), fun e h => by cases h⟩
    | some e =>
      obtain ⟨u1, u4, a1, d1, a2, d2, u2, u3, r1, r2⟩ := hg i e he
      exact ⟨(a1, d1, a2, d2), fun e' h => by cases h; exact ⟨u2, u3, r1, r2⟩⟩
  obtain ⟨P, hP⟩ := Classical.axiomOfChoice key
  obtain ⟨e0, he0⟩ : ∃ e, E[0]? = some e := ⟨_, List.getElem?_eq_getElem (by omega)⟩
  obtain ⟨u1, u4, a1, d1, a2, d2, u2, u3, -, -⟩ := hg 0 e0 he0
  refine ⟨g1, g2, g3, g4, c1, c2, c3, c4, P, h, q0, q1, q2, q3, q4, fun i e he => ?_, ht (by omega), block_lt_of_cell q0, block_lt_of_cell u1, block_lt_of_cell u2, block_lt_of_cell u3, block_lt_of_cell u4⟩
  obtain ⟨v1, v4, -⟩ := hg i e he
  obtain ⟨v2, v3, r1, r2⟩ := hP i e he
  exact ⟨v1, v4, v2, v3, r1, r2⟩

section
variable {w0 w w' : World} {T T' : Tags} {pc ps : Nat} {σ σ' : Sp} {E : List CE} {EL g1 g2 g3 g4 c1 c2 c3 c4 : Nat} {P : Nat → Option Addr × Nat × Option Addr × Nat}

theorem CG.goes (h : CG w0 w T pc ps σ E EL g1 g2 g3 g4 c1 c2 c3 c4 P) {Z : Nat → Prop} (ht : TagsTo w T T') (hr : XRep T' 1 w' ps σ') (kk : Kp Z w w') (hz : ∀ b, b < w.heap.size → Z b → (T b).1 ≠ 0) : CG w0 w' T' pc ps σ' E EL g1 g2 g3 g4 c1 c2 c3 c4 P := by
  obtain ⟨l0, l1, l2, l3, l4⟩ := h.lt
  have n0 : ∀ b, b < w.heap.size → (T b).1 = 0 → ¬ Z b := fun b hb h0 z => hz b hb z h0
  refine ⟨h.ki.goes ht hr kk hz, kk.cell h.q0 (n0 _ l0 h.tg.1), kk.cell h.q1 (n0 _ l0 h.tg.1), kk.cell h.q2 (n0 _ l0 h.tg.1), kk.cell h.q3 (n0 _ l0 h.tg.1), kk.cell h.q4 (n0 _ l0 h.tg.1), fun i e he => ?_,
    by rw [ht _ l0, ht _ l1, ht _ l2, ht _ l3, ht _ l4]; exact h.tg, Nat.lt_of_lt_of_le l0 kk.size, Nat.lt_of_lt_of_le l1 kk.size, Nat.lt_of_lt_of_le l2 kk.size, Nat.lt_of_lt_of_le l3 kk.size, Nat.lt_of_lt_of_le l4 kk.size⟩
  obtain ⟨u1, u4, u2, u3, r1, r2⟩ := h.ent i e he
  exact ⟨kk.cell u1 (n0 _ l1 h.tg.2.1), kk.cell u4 (n0 _ l4 h.tg.2.2.2.2), kk.cell u2 (n0 _ l2 h.tg.2.2.1), kk.cell u3 (n0 _ l3 h.tg.2.2.2.1),
    r1.kp ht kk (fun b i hb _ e z => hz b hb z (by rw [e])), r2.kp ht kk (fun b i hb _ e z => hz b hb z (by rw [e]))⟩

theorem CG.kp0 (h : CG w0 w T pc ps σ E EL g1 g2 g3 g4 c1 c2 c3 c4 P) (ht : TagsTo w T T') (kk : Kp0 w w') : CG w0 w' T' pc ps σ E EL g1 g2 g3 g4 c1 c2 c3 c4 P :=
  h.goes ht ((h.ki.rep.tags ht).kp kk (fun _ _ e => e)) kk (fun _ _ e => e.elim)

/-- The cells of an array's ranks. -/
theorem CG.rk (h : CG w0 w T pc ps σ E EL g1 g2 g3 g4 c1 c2 c3 c4 P) {i : Nat} {e : CE} (he : E[i]? = some e) (hp : 0 < e.ranks.length) : ∃ gr og, (P i).2.2.1 = some ⟨gr, og, none⟩ ∧ ∀ j, j < e.ranks.length → w.cell? ⟨gr, og + j, none⟩ = some (.int .i64 (nth e.ranks j)) := by
  obtain ⟨-, -, -, -, -, r2⟩ := h.ent i e he
  obtain ⟨a, c, ev, hh⟩ := rd_parts r2.1
  obtain ⟨g, o, rfl, hc⟩ := hh hp
  simp at ev
  exact ⟨g, o, ev.1, hc⟩
end

end Go.Proofs.YticbbncdcannlaaGreat

/- The keeping statements' fits, walked. -/
namespace Go.Proofs.YticbbncdcannlaaGreat
open Go.RowKit

set_option maxRecDepth 100000 in
set_option maxHeartbeats 1000000 in
theorem fits_gap (a b : Option Addr) (n m c d : Nat) (w : World) (h : m < n) (hn : n ≤ 100000000) :
    Calls Tryz.prog 66 #[.slice a n c, .slice b m d] w fun e w' => e = .returned (.slice none 0 0) ∧ Kp0 w w' := by
  have d0 : decide ((m : Int) - (n : Int) < 0) = true := by simp; omega
  go_enter Tryz.func66, Tryz.ntmps66
  go_wp2
  go_ret
  exact ⟨rfl, Kp0.refl _⟩

set_option maxRecDepth 100000 in
set_option maxHeartbeats 2000000 in
theorem fits_no (a b : Option Addr) (n m c d : Nat) (s t : List Int) (w : World) (hn : s.length = n) (hm : t.length = m) (hnm : n ≤ m) (hmb : m ≤ 1000) (hno : ¬ fitsTo s t n)
    (h1 : 0 < n → ∃ g o, a = some ⟨g, o, none⟩ ∧ ∀ j, j < n → w.cell? ⟨g, o + j, none⟩ = some (.int .i64 (nth s j)))
    (h2 : 0 < m → ∃ g o, b = some ⟨g, o, none⟩ ∧ ∀ j, j < m → w.cell? ⟨g, o + j, none⟩ = some (.int .i64 (nth t j))) :
    Calls Tryz.prog 66 #[.slice a n c, .slice b m d] w fun e w' => e = .returned (.slice none 0 0) ∧ Kp0 w w' := by
  have hpos : 0 < n := by
    rcases Nat.eq_zero_or_pos n with e | e
    · exact absurd (fun j hj => by omega) hno
    · exact e
  obtain ⟨g, o, rfl, hc⟩ := h1 hpos
  obtain ⟨g2, o2, rfl, hc2⟩ := h2 (by omega)
  obtain ⟨u, hu⟩ : ∃ u, m = n + u := ⟨m - n, by omega⟩
  have HC := hid hc
  have HC2 := hid hc2
  have HNO := hid hno
  have HU : Hid (t.length - s.length = u) := hid (by omega)
  have d0 : decide ((u : Int) < 0) = false := by simp
  have e0 : (m : Int) - (n : Int) = (u : Int) := by omega
  have HM := hid hu
  clear h1 h2 hc hc2 hno hn hm hu
  go_enter Tryz.func66, Tryz.ntmps66
  go_wp2
  go_loopw [6] (fun t' w' => ∃ k : Nat, k ≤ n ∧ t' = .int .i64 k ∧ Kp0 w w' ∧ fitsTo s t k) (fun t _ => n - (intOf t).toNat)
  case atStart => exact ⟨0, Nat.zero_le _, rfl, Kp0.refl _, fun j hj => by omega⟩
  case round =>
    obtain ⟨k, hk, rfl, hK, hF⟩ := hrel
    have HK := hid hK
    have HF := hid hF
    by_cases hlt : k < n
    · have c1 := hK.cell (HC.out k hlt)
      have hmm := HM.out
      have c2 := hK.cell (HC2.out (u + k) (by omega))
      have i1 : (0 : Int) ≤ (k : Int) := by omega
      have i2 : (k : Int) < (n : Int) := by omega
      have i3 : (0 : Int) ≤ (u : Int) + (k : Int) := by omega
      have i4 : (u : Int) + (k : Int) < (m : Int) := by omega
      have i5 : ((u : Int) + (k : Int)).toNat = u + k := by omega
      have i6 : IntKind.i64.wrap ((u : Int) + (k : Int)) = (u : Int) + (k : Int) := by simp [IntKind.wrap, IntKind.signed, IntKind.bits]; omega
      clear hK hF hmm
      by_cases h1 : nth s k = 1
      · have HE := hid h1
        have d2 : (nth s k != 1) = false := by simp [h1]
        clear h1
        go_wp2
        go_quiet (fail)
        go_wp2
        go_roundw
        case rel =>
          refine ⟨k + 1, by omega, by go_num, Kp.drewN HK.out _, fun j hj => ?_⟩
          by_cases hjk : j = k
          · subst hjk; right; exact HE.out
          · exact HF.out j (by omega)
        case measure => simp [intOf]; omega
      · have d2 : (nth s k != 1) = true := by simp [h1]
        by_cases he : nth s k = nth t (u + k)
        · have HE := hid he
          have d1 : (nth s k != nth t (u + k)) = false := by simp [he]
          clear he h1
          go_wp2
          go_quiet (fail)
          go_wp2
          go_roundw
          case rel =>
            refine ⟨k + 1, by omega, by go_num, Kp.drewN HK.out _, fun j hj => ?_⟩
            by_cases hjk : j = k
            · subst hjk; left; rw [HU.out]; exact HE.out
            · exact HF.out j (by omega)
          case measure => simp [intOf]; omega
        · have d1 : (nth s k != nth t (u + k)) = true := by simp [he]
          clear h1 he
          go_wp2
          go_quiet (fail)
          go_wp2
          go_ret
          exact ⟨rfl, Kp.drewN HK.out _⟩
    · have : k = n := by omega
      subst this
      exact absurd hF HNO.out

set_option maxRecDepth 100000 in
set_option maxHeartbeats 4000000 in
theorem fits_yes (a b : Option Addr) (n m c d N : Nat) (s t : List Int) (w : World) (hn : s.length = n) (hm : t.length = m) (hnm : n ≤ m) (hs : okShape s) (ht : okShape t) (hfit : fitsTo s t n) (hN : (vol t).toNat = N)
    (h1 : 0 < n → ∃ g o, a = some ⟨g, o, none⟩ ∧ ∀ j, j < n → w.cell? ⟨g, o + j, none⟩ = some (.int .i64 (nth s j)))
    (h2 : 0 < m → ∃ g o, b = some ⟨g, o, none⟩ ∧ ∀ j, j < m → w.cell? ⟨g, o + j, none⟩ = some (.int .i64 (nth t j))) :
    Calls Tryz.prog 66 #[.slice a n c, .slice b m d] w fun e w' => ∃ ao cc, e = .returned (.slice ao N cc) ∧ OwI w' (.slice ao N cc) (meant s t) ∧ Kp0 w w' ∧ (∀ x, (Value.slice ao N cc).ownBlock = some x → w.heap.size ≤ x) := by
  obtain ⟨u, hu⟩ : ∃ u, m = n + u := ⟨m - n, by omega⟩
  have hm4 : m ≤ 4 := by have := ht.1; omega
  have HVOL : Hid (vol t = (N : Int)) := hid (by
    have := vol_bd t ht.2.1 ht.1 t.length (Nat.le_refl _)
    rw [List.take_length] at this
    omega)
  have hNb : N ≤ 3600 := by have := ht.2.2; omega
  have R1 : RdI w (.slice a n c) s := ⟨a, c, by rw [hn], fun hne => by
    obtain ⟨g, o, e, hc⟩ := h1 (Nat.pos_of_ne_zero (fun e => hne (List.length_eq_zero_iff.1 (hn.trans e))))
    exact ⟨g, o, e, fun j hj => hc j (by omega)⟩⟩
  have R2 : RdI w (.slice b m d) t := ⟨b, d, by rw [hm], fun hne => by
    obtain ⟨g, o, e, hc⟩ := h2 (Nat.pos_of_ne_zero (fun e => hne (List.length_eq_zero_iff.1 (hm.trans e))))
    exact ⟨g, o, e, fun j hj => hc j (by omega)⟩⟩
  have HR1 := hid R1
  have HR2 := hid R2
  have HC := hid h1
  have HC2 := hid h2
  have HFIT := hid hfit
  have HSZ := hid hs
  have HT := hid ht
  have HMT := hid (meant_take s t)
  have HML : Hid ((meant s t).length = N) := hid (by rw [meant_length, hN])
  have HNN := hid hN
  have HSL := hid hn
  have HTL := hid hm
  have HU : Hid (t.length - s.length = u) := hid (by omega)
  have d0 : decide ((u : Int) < 0) = false := by simp
  have e0 : (m : Int) - (n : Int) = (u : Int) := by omega
  have HM := hid hu
  have hmk := fun W => run_mk (P := Tryz.prog) 26 3 (.int .i64 0) 8 Tryz.underlying26 Tryz.infoInt rfl (by omega) n (by omega) W
  have HMK := hid hmk
  clear h1 h2 hfit hn hm hu hs ht hN R1 R2 hmk
  go_enter Tryz.func66, Tryz.ntmps66
  go_wp2
  go_loopw [6] (fun t' w' => ∃ k : Nat, k ≤ n ∧ t' = .int .i64 k ∧ Kp0 w w') (fun t _ => n - (intOf t).toNat)
  case atStart => exact ⟨0, Nat.zero_le _, rfl, Kp0.refl _⟩
  case round =>
    obtain ⟨k, hk, rfl, hK⟩ := hrel
    have HK := hid hK
    by_cases hlt : k < n
    · obtain ⟨g, o, rfl, hc⟩ := HC.out (by omega)
      obtain ⟨g2, o2, rfl, hc2⟩ := HC2.out (by omega)
      have hmm := HM.out
      have c1 := hK.cell (hc k hlt)
      have c2 := hK.cell (hc2 (u + k) (by omega))
      have i1 : (0 : Int) ≤ (k : Int) := by omega
      have i2 : (k : Int) < (n : Int) := by omega
      have i3 : (0 : Int) ≤ (u : Int) + (k : Int) := by omega
      have i4 : (u : Int) + (k : Int) < (m : Int) := by omega
      have i5 : ((u : Int) + (k : Int)).toNat = u + k := by omega
      have i6 : IntKind.i64.wrap ((u : Int) + (k : Int)) = (u : Int) + (k : Int) := by simp [IntKind.wrap, IntKind.signed, IntKind.bits]; omega
      have hF := HFIT.out k hlt
      rw [HU.out] at hF
      clear hK hmm hc hc2
      by_cases h1 : nth s k = 1
      · have d2 : (nth s k != 1) = false := by simp [h1]
        clear h1 hF
        go_wp2
        go_quiet (fail)
        go_wp2
        go_roundw
        case rel => exact ⟨k + 1, by omega, by go_num, Kp.drewN HK.out _⟩
        case measure => simp [intOf]; omega
      · have d2 : (nth s k != 1) = true := by simp [h1]
        have he : nth s k = nth t (u + k) := hF.resolve_right h1
        have d1 : (nth s k != nth t (u + k)) = false := by simp [he]
        clear h1 he hF
        go_wp2
        go_quiet (fail)
        go_wp2
        go_roundw
        case rel => exact ⟨k + 1, by omega, by go_num, Kp.drewN HK.out _⟩
        case measure => simp [intOf]; omega
    · have d1 : decide ((k : Int) < (n : Int)) = false := by simp; omega
      clear hK
      go_wp2
      go_loopw [7, 8] (fun l r w' => ∃ k : Nat, k ≤ N ∧ r = .int .i64 k ∧ ∃ ao cc, l = .slice ao k cc ∧ OwI w' (.slice ao k cc) ((meant s t).take k) ∧ Kp0 w w' ∧ (∀ x, (Value.slice ao k cc).ownBlock = some x → w.heap.size ≤ x)) (fun _ r _ => N - (intOf r).toNat)
      case atStart => exact ⟨0, Nat.zero_le _, rfl, none, 0, rfl, OwI.nil _, HK.out, fun x hx => by simp [Value.ownBlock] at hx⟩
      case round =>
        obtain ⟨q, hq, rfl, ao, cc, rfl, hO, hK, hB⟩ := hrel
        have HO := hid hO
        have HK2 := hid hK
        have HB := hid hB
        clear hO hK hB
        go_wp2_with fail
        refine (kvolume_calls _ _ _ (HR2.out.kp0 HK2.out) HT.out.2.1 HT.out.1).mono ?_
        rintro e w' ⟨rfl, hw⟩
        obtain rfl := hw.symm
        rw [HVOL.out]
        by_cases hqN : q < N
        · go_wp2_with fail
          refine (kindex_calls _ _ _ _ (HR2.out.kp0 HK2.out) HT.out.2.1 HT.out.1 (by omega) (by omega)).mono ?_
          rintro e w1 ⟨rfl, hk1, hg1⟩
          rw [HTL.out]
          have HK1 := hid hk1
          have HG1 := hid hg1
          clear hk1 hg1
          have hmk := HMK.out
          go_wp2
          clear hmk
          have hgi : w.heap.size ≤ wr.heap.size := HK2.out.size
          have hs1 : wr.heap.size < w1.heap.size := lt_of_heap HG1.out
          obtain ⟨im, him⟩ : ∃ im, im = meantOf s t (idx t q) := ⟨_, rfl⟩
          have HIM := hid him
          have HIL : Hid (im.length = n) := hid (by rw [him, meantOf_length]; exact HSL.out)
          have HII := hid (idx_in t q HT.out.2.1)
          have HIB : Hid (inB s im) := hid (by
            rw [him]
            exact meantOf_in s t (idx t q) HSZ.out.2.1 (by rw [HSL.out, HTL.out]; omega) (by rw [HSL.out]; exact HFIT.out) (idx_in t q HT.out.2.1))
          have HRK := hid (HMT.out q (by rw [HNN.out]; exact hqN))
          rw [← him] at HRK
          clear him
          generalize idx t q = ix' at *
          generalize wr.heap.size = ib at *
          go_loopw [11] (fun t' w' => ∃ j : Nat, j ≤ n ∧ t' = .int .i64 j ∧ Kp0 w1 w' ∧ w'.heap[w1.heap.size]? = some (.cells (ints (headTo im j)).toArray 3 (0, 0))) (fun t _ => n - (intOf t).toNat)
          case atStart => exact ⟨0, Nat.zero_le _, rfl, (Kp.refl _ _).alloc _, by rw [heap_alloc_new, headTo_zero _ n HIL.out]⟩
          case round =>
            obtain ⟨j, hj, rfl, hK3, hG3⟩ := hrel
            have HK3 := hid hK3
            have HG3 := hid hG3
            have kw : Kp0 w wr := (HK2.out.trans HK1.out).trans hK3
            have HKW := hid kw
            by_cases hjn : j < n
            · obtain ⟨g, o, rfl, hc⟩ := HC.out (by omega)
              have hmm := HM.out
              have c1 := kw.cell (hc j hjn)
              have c2 : wr.cell? ⟨ib, u + j, none⟩ = some (.int .i64 (nth ix' (u + j))) := by
                rw [cell_of_row _ _ _ _ _ _ (hK3.heap HG1.out)]
                have := ints_get (xs := ix') (j := u + j) (by rw [← HII.out.1, HTL.out]; omega)
                simpa using this
              have hcell : wr.cell? ⟨w1.heap.size, j, none⟩ = some (.int .i64 0) := by
                rw [cell_of_row wr _ _ _ _ _ hG3]
                simp [ints, headTo, HIL.out, hjn]
              have hfz : wr.frozen? ⟨w1.heap.size, j, none⟩ = false := frozen_blk hG3
              have i1 : (0 : Int) ≤ (j : Int) := by omega
              have i2 : (j : Int) < (n : Int) := by omega
              have i3 : (0 : Int) ≤ (u : Int) + (j : Int) := by omega
              have i4 : (u : Int) + (j : Int) < (m : Int) := by omega
              have i5 : ((u : Int) + (j : Int)).toNat = u + j := by omega
              have i6 : IntKind.i64.wrap ((u : Int) + (j : Int)) = (u : Int) + (j : Int) := by simp [IntKind.wrap, IntKind.signed, IntKind.bits]; omega
              clear hK3 hG3 kw hmm hc
              by_cases hb1 : 1 < nth s j
              · have HV : Hid (nth im j = nth ix' (u + j)) := hid (by rw [HIM.out, meantOf_big s t ix' j (by rw [HSL.out]; exact hjn) hb1, HU.out])
                have d3 : decide (1 < nth s j) = true := by simp [hb1]
                generalize nth ix' (u + j) = x at *
                go_wp2
                go_roundw
                case rel =>
                  refine ⟨j + 1, by omega, by go_num, Kp.setCell HK3.out _ _ (fun h => by simp at h), ?_⟩
                  rw [heap_setCell_same _ _ _ _ _ _ HG3.out]
                  have := headTo_set im j (by rw [HIL.out]; exact hjn)
                  rw [HV.out] at this
                  rw [this]
                case measure => simp [intOf]; omega
              · have HV : Hid (nth im j = 0) := hid (by rw [HIM.out]; exact meantOf_small s t ix' j (by rw [HSL.out]; exact hjn) hb1)
                have d3 : decide (1 < nth s j) = false := by simp; omega
                go_wp2
                go_roundw
                case rel =>
                  refine ⟨j + 1, by omega, by go_num, HK3.out, ?_⟩
                  rw [← headTo_same im j HV.out]
                  exact HG3.out
                case measure => simp [intOf]; omega
            · have hjn' : j = n := by omega
              have HRI : Hid (RdI wr (.slice (some ⟨w1.heap.size, 0, none⟩) n n) im) := hid (by
                rw [hjn', headTo_all _ n HIL.out] at hG3
                exact rd_of_blk hG3 HIL.out)
              have HOW := hid (HO.out.kp (HK1.out.trans hK3) (fun _ _ e => e))
              have HRS := hid (HR1.out.kp0 kw)
              have d4 : decide ((j : Int) < (n : Int)) = false := by simp; omega
              have HBN : Hid (q + [rank s im].length ≤ 1000000000000) := hid (by simp; omega)
              clear hK3 hG3 kw hjn'
              go_wp2_with fail
              refine (krank_calls _ _ s im wr HRS.out HRI.out HSZ.out HIB.out).mono ?_
              rintro e w2 ⟨rfl, hk2⟩
              have HK8 := hid (HKW.out.trans hk2)
              have HOX := hid (HOW.out.kp hk2 (fun _ _ e => e))
              clear hk2
              generalize rank s im = x at *
              go_wp2_with (at_builtin; refine wpList_app (by rfl) _ _ (by rfl) ao q cc ((meant s t).take q) [x] _ (by rfl) (by rfl) (HOX.out.alloc _) (RdI.one _ _) HBN.out (w2.heap.size + 1) (by simp) ?_)
              intro ao' cc' w7 hC7 hG7 hB7
              have hK7 : Kp0 w w7 := Kp.grown (Kp.alloc HK8.out _) hG7 (fun b hb h => by have := HB.out b hb; omega)
              have hB7' : ∀ b, (Value.slice ao' (q + 1) cc').ownBlock = some b → w.heap.size ≤ b := by
                intro b hb
                rcases hB7 b hb with h | h
                · exact HB.out b h
                · have := HK8.out.size; omega
              have HC7 := hid hC7
              have HK7 := hid hK7
              have HB7 := hid hB7'
              clear hC7 hK7 hB7 hB7' hG7
              go_wp2
              go_roundw
              case rel => exact ⟨q + 1, by omega, by go_num, ao', cc', rfl, by rw [HRK.out]; exact HC7.out, HK7.out, HB7.out⟩
              case measure => simp [intOf]; omega
        · have d2 : decide ((q : Int) < (N : Int)) = false := by simp; omega
          have HQ : Hid (q = N) := hid (by omega)
          go_wp2
          go_ret
          have hO := HO.out
          rw [HQ.out, List.take_of_length_le (by rw [HML.out]; omega)] at hO
          refine ⟨ao, cc, by rw [HQ.out]; rfl, hO, HK2.out, ?_⟩
          have hB := HB.out
          rw [HQ.out] at hB
          exact hB

theorem fits_calls (v1 v2 : Value) (s t : List Int) (w : World) (h1 : RdI w v1 s) (h2 : RdI w v2 t) (hs : okShape s) (ht : okShape t) :
    Calls Tryz.prog 66 #[v1, v2] w fun e w' => Kp0 w w' ∧ ((stretchB s t = false ∧ e = .returned (.slice none 0 0)) ∨
      (stretchB s t = true ∧ ∃ ao cc, e = .returned (.slice ao (vol t).toNat cc) ∧ OwI w' (.slice ao (vol t).toNat cc) (meant s t) ∧ ∀ x, (Value.slice ao (vol t).toNat cc).ownBlock = some x → w.heap.size ≤ x)) := by
  obtain ⟨a, c, rfl, g1⟩ := rd_parts h1
  obtain ⟨b, d, rfl, g2⟩ := rd_parts h2
  have hs4 := hs.1
  have ht4 := ht.1
  by_cases hg : t.length < s.length
  · refine (fits_gap a b s.length t.length c d w hg (by omega)).mono ?_
    rintro e w' ⟨rfl, hk⟩
    refine ⟨hk, .inl ⟨?_, rfl⟩⟩
    have : ¬ stretchB s t = true := fun e => by have := ((stretchB_iff s t).1 e).1; omega
    simpa using this
  · by_cases hf : fitsTo s t s.length
    · refine (fits_yes a b s.length t.length c d _ s t w rfl rfl (by omega) hs ht hf rfl g1 g2).mono ?_
      rintro e w' ⟨ao, cc, rfl, ho, hk, hb⟩
      exact ⟨hk, .inr ⟨(stretchB_iff s t).2 ⟨by omega, hf⟩, ao, cc, rfl, ho, hb⟩⟩
    · refine (fits_no a b s.length t.length c d s t w rfl rfl (by omega) (by omega) hf g1 g2).mono ?_
      rintro e w' ⟨rfl, hk⟩
      refine ⟨hk, .inl ⟨?_, rfl⟩⟩
      have : ¬ stretchB s t = true := fun e => hf ((stretchB_iff s t).1 e).2
      simpa using this

end Go.Proofs.YticbbncdcannlaaGreat

/- The cast: what writes keeps to while it goes. -/
namespace Go.Proofs.YticbbncdcannlaaGreat
open Go.RowKit

theorem nil_nil (w : World) : Sem.run Tryz.prog (binOp BinOp.eql 26 (.slice none 0 0) (.slice none 0 0)) w = .ok (.bool true) w := by kernel_rfl
theorem nil_not (g n c : Nat) (w : World) : Sem.run Tryz.prog (binOp BinOp.eql 26 (.slice (some ⟨g, 0, none⟩) n c) (.slice none 0 0)) w = .ok (.bool false) w := by kernel_rfl

theorem put_cell {W : World} {b c : Nat} {a : Addr} {v u : Value} (hne : ¬ a.block = b) (h : W.cell? a = some v) : (W.setCell ⟨b, c, none⟩ u).cell? a = some v :=
  ((Kp.refl (fun x => x = b) W).setCell ⟨b, c, none⟩ u (fun _ => rfl)).cell h hne

theorem put_celld {W : World} {b c : Nat} {a : Addr} {v u : Value} (hne : ¬ a.block = b) (h : W.cell? a = some v) : (W.setCell ⟨b, c, none⟩ u).drew.cell? a = some v := put_cell hne h

/-- What a write leaves: the cast, with values that a list in memory tells. -/
def Wrote (w0 w : World) (T : Tags) (pc ps n : Nat) (E : List CE) (B : Nat) (v : Value) (w' : World) : Prop :=
  ∃ T' σ' V', TagsTo w T T' ∧ KI w0 w' T' pc ps σ' E ∧ KM σ' E n V' B ∧ RdV T' w' v V'

/-- While a write goes: the cast, the write's own numbers, the list of the values as they were, the list of those that they must be. -/
structure WG (w0 w : World) (T : Tags) (W : World) (T1 : Tags) (pc ps : Nat) (σ : Sp) (E : List CE) (EL g1 g2 g3 g4 c1 c2 c3 c4 : Nat) (P : Nat → Option Addr × Nat × Option Addr × Nat) (A gN cN n : Nat) (V' : List Int) (d : VD) (gv ov : Nat) (V : List Int) : Prop where
  cg : CG w0 W T1 pc ps σ E EL g1 g2 g3 g4 c1 c2 c3 c4 P
  tt : TagsTo w T T1
  sz : w.heap.size ≤ W.heap.size
  tA : T1 A = (2, 0)
  tN : T1 gN = (2, 0)
  ne : A ≠ gN
  box : ∀ (f : Nat) (x : Value), d.cells[f]? = some x → W.cell? ⟨A, f, none⟩ = some x
  own : OwI W (.slice (some ⟨gN, 0, none⟩) n cN) V'
  len : V'.length = n
  val : ∀ j, j < n → W.cell? ⟨gv, ov + j, none⟩ = some (.int .i64 (nth V j))
  tv : gv < w.heap.size ∧ (T gv).1 ≠ 1
  gn : w.heap.size ≤ gN

section
variable {w0 w W W' : World} {T T1 T2 : Tags} {pc ps : Nat} {σ σ' : Sp} {E : List CE} {EL g1 g2 g3 g4 c1 c2 c3 c4 : Nat} {P : Nat → Option Addr × Nat × Option Addr × Nat} {A gN cN n : Nat} {V' : List Int} {d : VD} {gv ov : Nat} {V : List Int} {B : Nat}

theorem WG.goes (h : WG w0 w T W T1 pc ps σ E EL g1 g2 g3 g4 c1 c2 c3 c4 P A gN cN n V' d gv ov V) (ht : TagsTo W T1 T2) (hr : XRep T2 1 W' ps σ') (k : Kp (fun b => (T1 b).1 = 1) W W') : WG w0 w T W' T2 pc ps σ' E EL g1 g2 g3 g4 c1 c2 c3 c4 P A gN cN n V' d gv ov V := by
  have lN : gN < W.heap.size := own_lt h.own rfl
  have lA : A < W.heap.size := block_lt_of_cell (h.box 0 _ rfl)
  exact ⟨h.cg.goes ht hr k (fun b _ e => by rw [e]; simp), fun b hb => by rw [ht b (Nat.lt_of_lt_of_le hb h.sz)]; exact h.tt b hb, Nat.le_trans h.sz k.size, by rw [ht _ lA]; exact h.tA, by rw [ht _ lN]; exact h.tN, h.ne,
    fun f x hx => k.cell (h.box f x hx) (by rw [h.tA]; simp), h.own.kp k (fun b hb e => by
      have hb' : gN = b := by simpa [Value.ownBlock] using hb
      rw [← hb', h.tN] at e
      simp at e), h.len, fun j hj => k.cell (h.val j hj) (by rw [h.tt _ h.tv.1]; exact h.tv.2), h.tv, h.gn⟩

theorem WG.step (h : WG w0 w T W T1 pc ps σ E EL g1 g2 g3 g4 c1 c2 c3 c4 P A gN cN n V' d gv ov V) (hs : Step XRep T1 1 W ps σ' W') : ∃ T2, WG w0 w T W' T2 pc ps σ' E EL g1 g2 g3 g4 c1 c2 c3 c4 P A gN cN n V' d gv ov V := by
  obtain ⟨T2, h1, h2, h3⟩ := hs
  exact ⟨T2, h.goes h1 h2 h3⟩

theorem WG.kp0 (h : WG w0 w T W T1 pc ps σ E EL g1 g2 g3 g4 c1 c2 c3 c4 P A gN cN n V' d gv ov V) (k : Kp0 W W') : WG w0 w T W' T1 pc ps σ E EL g1 g2 g3 g4 c1 c2 c3 c4 P A gN cN n V' d gv ov V :=
  h.goes (fun _ _ => rfl) (h.cg.ki.rep.kp k (fun _ _ e => e)) (Kp.of0 k)
theorem WG.drew (h : WG w0 w T W T1 pc ps σ E EL g1 g2 g3 g4 c1 c2 c3 c4 P A gN cN n V' d gv ov V) : WG w0 w T W.drew T1 pc ps σ E EL g1 g2 g3 g4 c1 c2 c3 c4 P A gN cN n V' d gv ov V := h.kp0 (Kp0.refl _).drew
theorem WG.at (h : WG w0 w T W T1 pc ps σ E EL g1 g2 g3 g4 c1 c2 c3 c4 P A gN cN n V' d gv ov V) (c : Nat) (hc : c < n) : W.cell? ⟨gN, c, none⟩ = some (.int .i64 (nth V' c)) ∧ W.frozen? ⟨gN, c, none⟩ = false := by
  obtain ⟨g, e, -, h1, h2⟩ := h.own.store c 0 (by rw [h.len]; exact hc)
  simp at e
  subst e
  exact ⟨h1, h2⟩

theorem WG.store (h : WG w0 w T W T1 pc ps σ E EL g1 g2 g3 g4 c1 c2 c3 c4 P A gN cN n V' d gv ov V) (c : Nat) (hc : c < n) (v : Int) : WG w0 w T (W.setCell ⟨gN, c, none⟩ (.int .i64 v)) T1 pc ps σ E EL g1 g2 g3 g4 c1 c2 c3 c4 P A gN cN n (V'.set c v) d gv ov V := by
  have k : Kp (fun b => b = gN) W (W.setCell ⟨gN, c, none⟩ (.int .i64 v)) := (Kp.refl _ _).setCell _ _ (fun _ => rfl)
  exact ⟨h.cg.goes (fun _ _ => rfl) (h.cg.ki.rep.kp k (fun b e z => by rw [z, h.tN] at e; cases e)) k (fun b _ e => by rw [e, h.tN]; simp), h.tt, Nat.le_trans h.sz k.size, h.tA, h.tN, h.ne,
    fun f x hx => k.cell (h.box f x hx) h.ne, h.own.set c hc v, by rw [List.length_set]; exact h.len, fun j hj => k.cell (h.val j hj) (fun e => by
      have h1 := h.tv.1
      have h2 := h.gn
      have h3 : gv = gN := e
      omega), h.tv, h.gn⟩

theorem WG.apart (h : WG w0 w T W T1 pc ps σ E EL g1 g2 g3 g4 c1 c2 c3 c4 P A gN cN n V' d gv ov V) : ¬ pc = gN ∧ ¬ g3 = gN ∧ ¬ gv = gN ∧ ∀ (i : Nat) (e : CE), E[i]? = some e → ∀ gr og, (P i).2.2.1 = some ⟨gr, og, none⟩ → ¬ gr = gN := by
  have key : ∀ b, (T1 b).1 = 0 → ¬ b = gN := fun b hb e => by rw [e, h.tN] at hb; simp at hb
  refine ⟨key _ h.cg.tg.1, key _ h.cg.tg.2.2.2.1, fun e => ?_, fun i e he gr og hp => key _ ?_⟩
  · have h1 := h.tv.1
    have h2 := h.gn
    omega
  · obtain ⟨-, -, -, -, -, r2⟩ := h.cg.ent i e he
    rw [hp] at r2
    obtain ⟨-, k, -, hk⟩ := r2.2 gr rfl
    rw [hk]

theorem WG.new (h : WG w0 w T W T1 pc ps σ E EL g1 g2 g3 g4 c1 c2 c3 c4 P A gN cN n V' d gv ov V) (hM : KM σ E n V' B) : Wrote w0 w T pc ps n E B (.slice (some ⟨gN, 0, none⟩) n cN) W :=
  ⟨T1, σ, V', h.tt, h.cg.ki, hM, h.own.rd, fun b hb => ⟨own_lt h.own hb, by
    have hb' : gN = b := by simpa [Value.ownBlock] using hb
    rw [← hb', h.tN]
    simp⟩⟩

theorem WG.old (h : WG w0 w T W T1 pc ps σ E EL g1 g2 g3 g4 c1 c2 c3 c4 P A gN cN n V' d gv ov V) (hM : KM σ E n V B) (cv : Nat) : Wrote w0 w T pc ps n E B (.slice (some ⟨gv, ov, none⟩) n cv) W :=
  ⟨T1, σ, V, h.tt, h.cg.ki, hM, ⟨some ⟨gv, ov, none⟩, cv, by rw [hM.len], fun _ => ⟨gv, ov, rfl, fun j hj => h.val j (by rw [← hM.len]; exact hj)⟩⟩, fun b hb => by
    have hb' : gv = b := by simpa [Value.ownBlock] using hb
    subst hb'
    exact ⟨Nat.lt_of_lt_of_le h.tv.1 h.sz, by rw [h.tt _ h.tv.1]; exact h.tv.2⟩⟩

/-- The cells of an array's ranks, where they are known to lie. -/
theorem CG.rkc (h : CG w0 w T pc ps σ E EL g1 g2 g3 g4 c1 c2 c3 c4 P) {i : Nat} {e : CE} (he : E[i]? = some e) {gr og RL : Nat} (hp : (P i).2.2.1 = some ⟨gr, og, none⟩) (hl : e.ranks.length = RL) (j : Nat) (hj : j < RL) : w.cell? ⟨gr, og + j, none⟩ = some (.int .i64 (nth e.ranks j)) := by
  obtain ⟨gr', og', e1, e2⟩ := h.rk he (by omega)
  rw [hp] at e1
  simp at e1
  obtain ⟨rfl, rfl⟩ := e1
  exact e2 j (by omega)

theorem OwI.parts {w : World} {ao : Option Addr} {n c : Nat} {xs : List Int} (h : OwI w (.slice ao n c) xs) (hl : xs.length = n) (hp : 0 < n) : ∃ g, ao = some ⟨g, 0, none⟩ ∧ ∀ q, q < n → w.cell? ⟨g, q, none⟩ = some (.int .i64 (nth xs q)) := by
  obtain ⟨g, rfl, -, -, -⟩ := h.store 0 0 (by omega)
  refine ⟨g, rfl, fun q hq => ?_⟩
  obtain ⟨g', e, -, h1, -⟩ := h.store q 0 (by omega)
  simp at e
  subst e
  exact h1

/-- How a write begins. -/
theorem CG.wg (h : CG w0 w T pc ps σ E EL g1 g2 g3 g4 c1 c2 c3 c4 P) (k : Kp0 w W) (hA : w.heap.size ≤ A) (hN : w.heap.size ≤ gN) (hne : A ≠ gN) (hb : ∀ (f : Nat) (x : Value), d.cells[f]? = some x → W.cell? ⟨A, f, none⟩ = some x) (ho : OwI W (.slice (some ⟨gN, 0, none⟩) n cN) V) (hl : V.length = n) (hv : ∀ j, j < n → w.cell? ⟨gv, ov + j, none⟩ = some (.int .i64 (nth V j))) (htv : gv < w.heap.size ∧ (T gv).1 ≠ 1) :
    WG w0 w T W (retag w T (2, 0)) pc ps σ E EL g1 g2 g3 g4 c1 c2 c3 c4 P A gN cN n V d gv ov V :=
  ⟨h.kp0 (retag_to _ _ _) k, retag_to _ _ _, k.size, retag_new hA, retag_new hN, hne, hb, ho, hl, fun j hj => k.cell (hv j hj), htv, hN⟩
end

end Go.Proofs.YticbbncdcannlaaGreat

/- The cast: writes, walked: Set. -/
namespace Go.Proofs.YticbbncdcannlaaGreat
open Go.RowKit

set_option maxRecDepth 100000 in
set_option maxHeartbeats 8000000 in
theorem writesSet_calls {w0 w : World} {T : Tags} {pc ps : Nat} {σ : Sp} {E : List CE} {n : Nat} {V : List Int} {B : Nat} (h : KI w0 w T pc ps σ E) (hM : KM σ E n V B) (h1 : 1 ≤ E.length) (h30 : E.length ≤ 1000) (av : Option Addr) (cv : Nat) (hv : RdV T w (.slice av n cv) V) (vK vT vA vB vO vV : Int) (wK : IntKind.i64.wrap vK = vK) (wT : IntKind.i64.wrap vT = vT) (wA : IntKind.i64.wrap vA = vA) (wB : IntKind.i64.wrap vB = vB) (wO : IntKind.i64.wrap vO = vO) (wV : IntKind.i64.wrap vV = vV) (hK : pickN vK 4 = 0) :
    Calls Tryz.prog 29 #[.pointer (some ⟨pc, 0, none⟩), .agg #[.int .i64 vK, .int .i64 vT, .int .i64 vA, .int .i64 vB, .int .i64 vO, .int .i64 vV], .slice av n cv] w fun e w' => ∃ ao cc, e = .returned (.tuple #[.slice ao n cc, .bool true]) ∧ Wrote w0 w T pc ps n E B (.slice ao n cc) w' := by
  have HM := hid hM
  obtain ⟨g1, g2, g3, g4, c1, c2, c3, c4, P, hcg⟩ := h.cg h1
  obtain ⟨EL, hEL⟩ : ∃ EL, E.length = EL := ⟨_, rfl⟩
  rw [hEL] at hcg h1 h30
  have HEL := hid hEL
  have HWF := hid (And.intro wK (And.intro wT (And.intro wA (And.intro wB (And.intro wO wV)))))
  obtain ⟨gv, ov, rfl, hcv⟩ : ∃ gv ov, av = some ⟨gv, ov, none⟩ ∧ ∀ j, j < n → w.cell? ⟨gv, ov + j, none⟩ = some (.int .i64 (nth V j)) := by
    have hn1 := hM.n1
    have hl := hM.len
    obtain ⟨a, c, ev, hh⟩ := rd_parts hv.1
    obtain ⟨g, o, rfl, hc⟩ := hh (by omega)
    simp at ev
    exact ⟨g, o, by rw [ev.1], fun j hj => hc j (by omega)⟩
  have HCV := hid hcv
  have HTV : Hid (gv < w.heap.size ∧ (T gv).1 ≠ 1) := hid (hv.2 gv rfl)
  have HRV := hid hv.1
  have hn125 := hM.n2
  have hn1 := hM.n1
  have HLEN := hid hM.len
  have HCG0 := hid hcg
  have q1 := hcg.q1
  obtain ⟨hpc, hg1, hg2, hg3, hg4⟩ := hcg.lt
  have HK := hid hK
  have pt := pick_small (c := vT) (n := (EL : Int)) (by omega)
  have pa := pick_small (c := vA) (n := (EL : Int)) (by omega)
  have pb := pick_small (c := vB) (n := (EL : Int)) (by omega)
  obtain ⟨it, hit⟩ : ∃ k : Nat, pickN vT (EL : Int) = (k : Int) := ⟨(pickN vT (EL : Int)).toNat, by omega⟩
  obtain ⟨ia, hia⟩ : ∃ k : Nat, pickN vA (EL : Int) = (k : Int) := ⟨(pickN vA (EL : Int)).toNat, by omega⟩
  obtain ⟨ib, hib⟩ : ∃ k : Nat, pickN vB (EL : Int) = (k : Int) := ⟨(pickN vB (EL : Int)).toNat, by omega⟩
  rw [hit] at pt
  rw [hia] at pa
  rw [hib] at pb
  have HIT := hid hit
  have HIA := hid hia
  have HIB := hid hib
  obtain ⟨e, he⟩ : ∃ e, E[it]? = some e := ⟨_, List.getElem?_eq_getElem (by omega)⟩
  have HE := hid he
  obtain ⟨RL, hRL⟩ : ∃ RL, e.ranks.length = RL := ⟨_, rfl⟩
  have HRL := hid hRL
  have hRLb : 1 ≤ RL ∧ RL ≤ 400 := by
    have x1 := hM.rlen he
    have x2 : 1 ≤ vol e.shape := vol_whole (hM.aok he).shape
    have x3 := (hM.ent _ _ he).2.2.1
    omega
  obtain ⟨W1, hW1⟩ : ∃ W1, w.alloc (.cells #[.int .i64 vK, .int .i64 vT, .int .i64 vA, .int .i64 vB, .int .i64 vO, .int .i64 vV] 69) = W1 := ⟨_, rfl⟩
  have HW1 := hid hW1
  have HKW1 : Hid (Kp0 w W1) := hid (by rw [← hW1]; exact Kp.alloc (Kp.refl _ _) _)
  have HRV1 := hid (HRV.out.kp0 HKW1.out)
  have HBX : Hid (∀ (f : Nat) (x : Value), (VD.mk vK vT vA vB vO vV).cells[f]? = some x → W1.cell? ⟨w.heap.size, f, none⟩ = some x) := hid (fun f x hx => by
    rw [← hW1]
    match f, hx with
    | 0, hx => simp [VD.cells] at hx; simp [hx]
    | 1, hx => simp [VD.cells] at hx; simp [hx]
    | 2, hx => simp [VD.cells] at hx; simp [hx]
    | 3, hx => simp [VD.cells] at hx; simp [hx]
    | 4, hx => simp [VD.cells] at hx; simp [hx]
    | 5, hx => simp [VD.cells] at hx; simp [hx]
    | f + 6, hx => simp [VD.cells] at hx)
  have y0 := HBX.out 0 _ rfl
  have y1 := HBX.out 1 _ rfl
  have y2 := HBX.out 2 _ rfl
  have y3 := HBX.out 3 _ rfl
  have HAL : Hid (0 + V.length ≤ 1000000000000) := hid (by rw [HLEN.out]; omega)
  clear h hM hEL hcg wK wT wA wB wO wV hcv hv hK hit hia hib he hRL hW1
  go_enter Tryz.func29, Tryz.ntmps29
  go_wp2_with fail
  rw [HW1.out]
  refine (pick_calls vT (EL : Int) W1 HWF.out.2.1 (by omega)).mono ?_
  rintro e' w' ⟨rfl, hw⟩
  obtain rfl := hw.symm
  rw [HIT.out]
  go_wp2_with fail
  refine (pick_calls vA (EL : Int) W1 HWF.out.2.2.1 (by omega)).mono ?_
  rintro e' w' ⟨rfl, hw⟩
  obtain rfl := hw.symm
  rw [HIA.out]
  go_wp2_with fail
  refine (pick_calls vB (EL : Int) W1 HWF.out.2.2.2.1 (by omega)).mono ?_
  rintro e' w' ⟨rfl, hw⟩
  obtain rfl := hw.symm
  rw [HIB.out]
  go_wp2_with (at_builtin; refine wpList_app (by rfl) _ _ (by rfl) none 0 0 [] V _ (by rfl) (by rfl) (OwI.nil _) HRV1.out HAL.out W1.heap.size (by rfl) ?_)
  intro aN cN W2 hO2 hG2 hB2
  have hK2 : Kp0 W1 W2 := (Kp.refl _ W1).grown hG2 (by simp [Value.ownBlock])
  have hO2' : OwI W2 (.slice aN n cN) V := by rw [← HLEN.out]; exact hO2
  obtain ⟨gN, rfl, -, -, -⟩ := hO2'.store 0 0 (by rw [HLEN.out]; omega)
  have hgN : gN = W1.heap.size := (hB2 gN (by rfl)).resolve_left (by simp [Value.ownBlock])
  rw [HLEN.out]
  have HG : Hid (WG w0 w T W2 (retag w T (2, 0)) pc ps σ E EL g1 g2 g3 g4 c1 c2 c3 c4 P w.heap.size gN cN n V ⟨vK, vT, vA, vB, vO, vV⟩ gv ov V) := hid (HCG0.out.wg (HKW1.out.trans hK2) (Nat.le_refl _) (by rw [hgN]; exact HKW1.out.size) (by have : w.heap.size < W1.heap.size := block_lt_of_cell y0; omega) (fun f x hx => hK2.cell (HBX.out f x hx)) hO2' HLEN.out HCV.out HTV.out)
  generalize retag w T (2, 0) = T1 at *
  clear hO2 hG2 hB2 hO2' hgN hK2 y0 y1 y2 y3 q1 hpc hg1 hg2 hg3 hg4 HBX HRV1 HRV HW1 HKW1 HCG0 HCV HTV HAL
  generalize w.heap.size = A at *
  have x0 := HG.out.box 0 _ rfl
  have q3 := HG.out.cg.q3
  obtain ⟨-, -, -, u3, -, -⟩ := HG.out.cg.ent it e HE.out
  obtain ⟨gr, og, hpk, -⟩ := HG.out.cg.rk HE.out (by have := HRL.out; omega)
  rw [HRL.out, hpk] at u3
  have HPK := hid hpk
  clear hpk
  have t0 : (0 : Int) ≤ (it : Int) := by omega
  have t1 : (it : Int) < (EL : Int) := by omega
  go_wp2_with fail
  refine (pick_calls vK 4 W2 HWF.out.1 (by omega)).mono ?_
  rintro e' w' ⟨rfl, hw⟩
  obtain rfl := hw.symm
  rw [HK.out]
  clear x0 q3 u3
  have pi := pick_small (c := vA) (n := (RL : Int)) (by omega)
  obtain ⟨i, hi⟩ : ∃ k : Nat, pickN vA (RL : Int) = (k : Int) := ⟨(pickN vA (RL : Int)).toNat, by omega⟩
  rw [hi] at pi
  have HI := hid hi
  clear hi
  have x2 := HG.out.box 2 _ rfl
  go_wp2_with fail
  refine (pick_calls vA (RL : Int) W2 HWF.out.2.2.1 (by omega)).mono ?_
  rintro e' w' ⟨rfl, hw⟩
  obtain rfl := hw.symm
  rw [HI.out]
  clear x2
  have hiR : i < RL := by omega
  obtain ⟨er, her⟩ : ∃ er : Int, (if e.ro = true then (6 : Int) else 0) = er := ⟨_, rfl⟩
  have HER := hid her
  have HST : Hid (σ.set e.h vV (idx e.shape i) = ((if e.ro = true then σ else σ.put 2 (nth e.ranks i).toNat vV), er)) := hid (by
    rw [HM.out.wset HE.out vV i (by rw [HRL.out]; exact hiR), ← her]
    by_cases hr : e.ro = true
    · simp [hr]
    · simp [hr])
  obtain ⟨σ2, hσ2⟩ : ∃ σ2, (if e.ro = true then σ else σ.put 2 (nth e.ranks i).toNat vV) = σ2 := ⟨_, rfl⟩
  rw [hσ2] at HST
  have HS2 := hid hσ2
  clear her hσ2
  have HSH : Hid (okShape e.shape) := hid (HM.out.aok HE.out).shape
  obtain ⟨m, hm⟩ : ∃ m, e.shape.length = m := ⟨_, rfl⟩
  have HMM := hid hm
  obtain ⟨sa, hsa⟩ : ∃ sa, (P it).1 = sa := ⟨_, rfl⟩
  obtain ⟨sd, hsd⟩ : ∃ sd, (P it).2.1 = sd := ⟨_, rfl⟩
  have HPA := hid (And.intro hsa hsd)
  clear hm hsa hsd
  have HXI : Hid (∀ W, Kp0 W2 W → Calls Tryz.prog 32 #[.slice sa m sd, .int .i64 (i : Int)] W fun e' w3 => ∃ vi, e' = .returned (.slice (some vi) m m) ∧ Kp0 W2 w3 ∧ RdI w3 (.slice (some vi) m m) (idx e.shape i)) := hid (fun W kW => by
    obtain ⟨-, -, -, -, r1, -⟩ := (HG.out.kp0 kW).cg.ent it e HE.out
    rw [HPA.out.1, HPA.out.2] at r1
    have hx := HSH.out.1
    have hr1 := r1.1
    rw [HMM.out] at hr1 hx
    refine (kindex_calls _ e.shape (i : Int) W hr1 HSH.out.2.1 HSH.out.1 (by omega) (by omega)).mono ?_
    rintro e' w3 ⟨rfl, hk3, hb3⟩
    rw [HMM.out]
    refine ⟨_, rfl, kW.trans hk3, rd_of_blk hb3 ?_⟩
    rw [← (idx_in e.shape i HSH.out.2.1).1, HMM.out])
  have HXS : Hid (∀ W vi, Kp0 W2 W → RdI W (.slice (some vi) m m) (idx e.shape i) → Calls Tryz.prog 36 #[.pointer (some ⟨ps, 0, none⟩), .int .i64 e.h, .int .i64 vV, .slice (some vi) m m] W fun e' w4 => e' = .returned (.int .i64 er) ∧ ∃ T4, WG w0 w T w4 T4 pc ps σ2 E EL g1 g2 g3 g4 c1 c2 c3 c4 P A gN cN n V ⟨vK, vT, vA, vB, vO, vV⟩ gv ov V) := hid (fun W vi kW hri => by
    have hGW := HG.out.kp0 kW
    refine (xc_set e.h vV _ (idx e.shape i) hGW.cg.ki.rep hri HWF.out.2.2.2.2.2).mono ?_
    rintro e' w4 ⟨rfl, hst⟩
    rw [HST.out] at hst ⊢
    obtain ⟨T4, h4⟩ := hGW.step hst
    exact ⟨rfl, T4, h4⟩)
  have s0 := HG.out.cg.q0
  have s1 := HG.out.cg.q1
  have s2 := HG.out.cg.q2
  obtain ⟨s3, -, s4, -, -, -⟩ := HG.out.cg.ent it e HE.out
  rw [HPA.out.1, HPA.out.2, HMM.out] at s4
  have s5 := HG.out.box 5 _ rfl
  go_wp2
  go_region_held3 (fun W => W.cell? ⟨pc, 0, none⟩ = some (.pointer (some ⟨ps, 0, none⟩)) ∧ W.cell? ⟨pc, 1, none⟩ = some (.slice (some ⟨g1, 0, none⟩) EL c1) ∧ W.cell? ⟨pc, 2, none⟩ = some (.slice (some ⟨g2, 0, none⟩) EL c2) ∧ W.cell? ⟨g1, it, none⟩ = some (.int .i64 e.h) ∧ W.cell? ⟨g2, it, none⟩ = some (.slice sa m sd) ∧ W.cell? ⟨A, 5, none⟩ = some (.int .i64 vV))
    (first | go_keep | (go_split_ands; exact ⟨hk3.cell s0, hk3.cell s1, hk3.cell s2, hk3.cell s3, hk3.cell s4, hk3.cell s5⟩) | (go_split_ands; exact ⟨h4.cg.q0, h4.cg.q1, h4.cg.q2, (h4.cg.ent it e HE.out).1, (by have := (h4.cg.ent it e HE.out).2.2.1; rw [HPA.out.1, HPA.out.2, HMM.out] at this; exact this), h4.box 5 _ rfl⟩))
    ((first
      | (go_at_call 32; refine (HXI.out _ ?_).mono ?_; (first | exact Kp0.refl _ | exact Kp0.drew (Kp0.refl _)); rintro e' w3 ⟨vi, rfl, hk3, hri⟩)
      | (go_at_call 36; refine (HXS.out _ vi ?_ ?_).mono ?_; (first | exact hk3 | exact Kp0.drew hk3); (first | exact hri | exact hri.kp0 (Kp0.drew (Kp0.refl _))); rintro e' w4 ⟨rfl, T4, h4⟩)))
  have HG4 := hid h4
  clear h4 hk3 hri HXI HXS s0 s1 s2 s3 s4 s5 HG
  have x5 := HG4.out.box 5 _ rfl
  have HRB := hid (HM.out.rk HE.out i (by rw [HRL.out]; exact hiR))
  have hrb := HRB.out
  have r1 := HG4.out.cg.rkc HE.out HPK.out HRL.out i hiR
  obtain ⟨b1, b2⟩ := HG4.out.at (nth e.ranks i).toNat (by omega)
  have HST2 := hid (HG4.out.store (nth e.ranks i).toNat (by omega) vV)
  obtain ⟨hr0, hr1⟩ := hrb
  have i0 : (0 : Int) ≤ (i : Int) := by omega
  have i1 : (i : Int) < (RL : Int) := by omega
  generalize nth V (nth e.ranks i).toNat = old at b1
  generalize nth e.ranks i = ri at *
  go_wp2
  first
    | go_region_law (fail)
    | go_region
  all_goals (
    have HG5 := hid HST2.out.drew
    generalize (w4.setCell ⟨gN, ri.toNat, none⟩ (.int .i64 vV)).drew = W5 at HG5 ⊢
    clear x5 r1 b1 b2 HST2 HG4
    have q4 := HG5.out.cg.q4
    obtain ⟨-, u4, -, -, -, -⟩ := HG5.out.cg.ent it e HE.out
    by_cases hro : e.ro = true
    · have HW := hid (HG5.out.old (by rw [← HS2.out, if_pos hro]; exact HM.out) cv)
      have hee : er = 6 := by rw [← HER.out, if_pos hro]
      rw [hro] at u4
      rw [hee]
      clear hro hee
      go_wp2
      go_ret2
      exact ⟨_, _, rfl, HW.out⟩
    · have HW := hid (HG5.out.new (by rw [← HS2.out, if_neg hro]; exact HM.out.put _ (by omega) _))
      have hee : er = 0 := by rw [← HER.out, if_neg hro]
      rw [(Bool.not_eq_true _).mp hro] at u4
      rw [hee]
      clear hro hee
      go_wp2
      go_ret2
      exact ⟨_, _, rfl, HW.out⟩)

end Go.Proofs.YticbbncdcannlaaGreat

/- The cast: writes, walked: Fill. -/
namespace Go.Proofs.YticbbncdcannlaaGreat
open Go.RowKit

set_option maxRecDepth 100000 in
set_option maxHeartbeats 8000000 in
theorem writesFill_calls {w0 w : World} {T : Tags} {pc ps : Nat} {σ : Sp} {E : List CE} {n : Nat} {V : List Int} {B : Nat} (h : KI w0 w T pc ps σ E) (hM : KM σ E n V B) (h1 : 1 ≤ E.length) (h30 : E.length ≤ 1000) (av : Option Addr) (cv : Nat) (hv : RdV T w (.slice av n cv) V) (vK vT vA vB vO vV : Int) (wK : IntKind.i64.wrap vK = vK) (wT : IntKind.i64.wrap vT = vT) (wA : IntKind.i64.wrap vA = vA) (wB : IntKind.i64.wrap vB = vB) (wO : IntKind.i64.wrap vO = vO) (wV : IntKind.i64.wrap vV = vV) (hK : pickN vK 4 = 1) :
    Calls Tryz.prog 29 #[.pointer (some ⟨pc, 0, none⟩), .agg #[.int .i64 vK, .int .i64 vT, .int .i64 vA, .int .i64 vB, .int .i64 vO, .int .i64 vV], .slice av n cv] w fun e w' => ∃ ao cc, e = .returned (.tuple #[.slice ao n cc, .bool true]) ∧ Wrote w0 w T pc ps n E B (.slice ao n cc) w' := by
  have HM := hid hM
  obtain ⟨g1, g2, g3, g4, c1, c2, c3, c4, P, hcg⟩ := h.cg h1
  obtain ⟨EL, hEL⟩ : ∃ EL, E.length = EL := ⟨_, rfl⟩
  rw [hEL] at hcg h1 h30
  have HEL := hid hEL
  have HWF := hid (And.intro wK (And.intro wT (And.intro wA (And.intro wB (And.intro wO wV)))))
  obtain ⟨gv, ov, rfl, hcv⟩ : ∃ gv ov, av = some ⟨gv, ov, none⟩ ∧ ∀ j, j < n → w.cell? ⟨gv, ov + j, none⟩ = some (.int .i64 (nth V j)) := by
    have hn1 := hM.n1
    have hl := hM.len
    obtain ⟨a, c, ev, hh⟩ := rd_parts hv.1
    obtain ⟨g, o, rfl, hc⟩ := hh (by omega)
    simp at ev
    exact ⟨g, o, by rw [ev.1], fun j hj => hc j (by omega)⟩
  have HCV := hid hcv
  have HTV : Hid (gv < w.heap.size ∧ (T gv).1 ≠ 1) := hid (hv.2 gv rfl)
  have HRV := hid hv.1
  have hn125 := hM.n2
  have hn1 := hM.n1
  have HLEN := hid hM.len
  have HCG0 := hid hcg
  have q1 := hcg.q1
  obtain ⟨hpc, hg1, hg2, hg3, hg4⟩ := hcg.lt
  have HK := hid hK
  have pt := pick_small (c := vT) (n := (EL : Int)) (by omega)
  have pa := pick_small (c := vA) (n := (EL : Int)) (by omega)
  have pb := pick_small (c := vB) (n := (EL : Int)) (by omega)
  obtain ⟨it, hit⟩ : ∃ k : Nat, pickN vT (EL : Int) = (k : Int) := ⟨(pickN vT (EL : Int)).toNat, by omega⟩
  obtain ⟨ia, hia⟩ : ∃ k : Nat, pickN vA (EL : Int) = (k : Int) := ⟨(pickN vA (EL : Int)).toNat, by omega⟩
  obtain ⟨ib, hib⟩ : ∃ k : Nat, pickN vB (EL : Int) = (k : Int) := ⟨(pickN vB (EL : Int)).toNat, by omega⟩
  rw [hit] at pt
  rw [hia] at pa
  rw [hib] at pb
  have HIT := hid hit
  have HIA := hid hia
  have HIB := hid hib
  obtain ⟨e, he⟩ : ∃ e, E[it]? = some e := ⟨_, List.getElem?_eq_getElem (by omega)⟩
  have HE := hid he
  obtain ⟨RL, hRL⟩ : ∃ RL, e.ranks.length = RL := ⟨_, rfl⟩
  have HRL := hid hRL
  have hRLb : 1 ≤ RL ∧ RL ≤ 400 := by
    have x1 := hM.rlen he
    have x2 : 1 ≤ vol e.shape := vol_whole (hM.aok he).shape
    have x3 := (hM.ent _ _ he).2.2.1
    omega
  obtain ⟨W1, hW1⟩ : ∃ W1, w.alloc (.cells #[.int .i64 vK, .int .i64 vT, .int .i64 vA, .int .i64 vB, .int .i64 vO, .int .i64 vV] 69) = W1 := ⟨_, rfl⟩
  have HW1 := hid hW1
  have HKW1 : Hid (Kp0 w W1) := hid (by rw [← hW1]; exact Kp.alloc (Kp.refl _ _) _)
  have HRV1 := hid (HRV.out.kp0 HKW1.out)
  have HBX : Hid (∀ (f : Nat) (x : Value), (VD.mk vK vT vA vB vO vV).cells[f]? = some x → W1.cell? ⟨w.heap.size, f, none⟩ = some x) := hid (fun f x hx => by
    rw [← hW1]
    match f, hx with
    | 0, hx => simp [VD.cells] at hx; simp [hx]
    | 1, hx => simp [VD.cells] at hx; simp [hx]
    | 2, hx => simp [VD.cells] at hx; simp [hx]
    | 3, hx => simp [VD.cells] at hx; simp [hx]
    | 4, hx => simp [VD.cells] at hx; simp [hx]
    | 5, hx => simp [VD.cells] at hx; simp [hx]
    | f + 6, hx => simp [VD.cells] at hx)
  have y0 := HBX.out 0 _ rfl
  have y1 := HBX.out 1 _ rfl
  have y2 := HBX.out 2 _ rfl
  have y3 := HBX.out 3 _ rfl
  have HAL : Hid (0 + V.length ≤ 1000000000000) := hid (by rw [HLEN.out]; omega)
  clear h hM hEL hcg wK wT wA wB wO wV hcv hv hK hit hia hib he hRL hW1
  go_enter Tryz.func29, Tryz.ntmps29
  go_wp2_with fail
  rw [HW1.out]
  refine (pick_calls vT (EL : Int) W1 HWF.out.2.1 (by omega)).mono ?_
  rintro e' w' ⟨rfl, hw⟩
  obtain rfl := hw.symm
  rw [HIT.out]
  go_wp2_with fail
  refine (pick_calls vA (EL : Int) W1 HWF.out.2.2.1 (by omega)).mono ?_
  rintro e' w' ⟨rfl, hw⟩
  obtain rfl := hw.symm
  rw [HIA.out]
  go_wp2_with fail
  refine (pick_calls vB (EL : Int) W1 HWF.out.2.2.2.1 (by omega)).mono ?_
  rintro e' w' ⟨rfl, hw⟩
  obtain rfl := hw.symm
  rw [HIB.out]
  go_wp2_with (at_builtin; refine wpList_app (by rfl) _ _ (by rfl) none 0 0 [] V _ (by rfl) (by rfl) (OwI.nil _) HRV1.out HAL.out W1.heap.size (by rfl) ?_)
  intro aN cN W2 hO2 hG2 hB2
  have hK2 : Kp0 W1 W2 := (Kp.refl _ W1).grown hG2 (by simp [Value.ownBlock])
  have hO2' : OwI W2 (.slice aN n cN) V := by rw [← HLEN.out]; exact hO2
  obtain ⟨gN, rfl, -, -, -⟩ := hO2'.store 0 0 (by rw [HLEN.out]; omega)
  have hgN : gN = W1.heap.size := (hB2 gN (by rfl)).resolve_left (by simp [Value.ownBlock])
  rw [HLEN.out]
  have HG : Hid (WG w0 w T W2 (retag w T (2, 0)) pc ps σ E EL g1 g2 g3 g4 c1 c2 c3 c4 P w.heap.size gN cN n V ⟨vK, vT, vA, vB, vO, vV⟩ gv ov V) := hid (HCG0.out.wg (HKW1.out.trans hK2) (Nat.le_refl _) (by rw [hgN]; exact HKW1.out.size) (by have : w.heap.size < W1.heap.size := block_lt_of_cell y0; omega) (fun f x hx => hK2.cell (HBX.out f x hx)) hO2' HLEN.out HCV.out HTV.out)
  generalize retag w T (2, 0) = T1 at *
  clear hO2 hG2 hB2 hO2' hgN hK2 y0 y1 y2 y3 q1 hpc hg1 hg2 hg3 hg4 HBX HRV1 HRV HW1 HKW1 HCG0 HCV HTV HAL
  generalize w.heap.size = A at *
  have x0 := HG.out.box 0 _ rfl
  have q3 := HG.out.cg.q3
  obtain ⟨-, -, -, u3, -, -⟩ := HG.out.cg.ent it e HE.out
  obtain ⟨gr, og, hpk, -⟩ := HG.out.cg.rk HE.out (by have := HRL.out; omega)
  rw [HRL.out, hpk] at u3
  have HPK := hid hpk
  clear hpk
  have t0 : (0 : Int) ≤ (it : Int) := by omega
  have t1 : (it : Int) < (EL : Int) := by omega
  go_wp2_with fail
  refine (pick_calls vK 4 W2 HWF.out.1 (by omega)).mono ?_
  rintro e' w' ⟨rfl, hw⟩
  obtain rfl := hw.symm
  rw [HK.out]
  clear x0 q3 u3
  obtain ⟨er, her⟩ : ∃ er : Int, (if e.ro = true then (6 : Int) else 0) = er := ⟨_, rfl⟩
  have HER := hid her
  have HST : Hid (σ.fill e.h vV = ((if e.ro = true then σ else σ.writes 2 e.ranks (fun _ => vV) RL), er)) := hid (by
    rw [HM.out.wfill HE.out vV, ← her, HRL.out]
    by_cases hr : e.ro = true
    · simp [hr]
    · simp [hr])
  obtain ⟨σ2, hσ2⟩ : ∃ σ2, (if e.ro = true then σ else σ.writes 2 e.ranks (fun _ => vV) RL) = σ2 := ⟨_, rfl⟩
  rw [hσ2] at HST
  have HS2 := hid hσ2
  clear her hσ2
  have HXS : Hid (∀ W, Kp0 W2 W → Calls Tryz.prog 64 #[.pointer (some ⟨ps, 0, none⟩), .int .i64 e.h, .int .i64 vV] W fun e' w4 => e' = .returned (.int .i64 er) ∧ ∃ T4, WG w0 w T w4 T4 pc ps σ2 E EL g1 g2 g3 g4 c1 c2 c3 c4 P A gN cN n V ⟨vK, vT, vA, vB, vO, vV⟩ gv ov V) := hid (fun W kW => by
    have hGW := HG.out.kp0 kW
    refine (xc_fill e.h vV hGW.cg.ki.rep HWF.out.2.2.2.2.2).mono ?_
    rintro e' w4 ⟨rfl, hst⟩
    rw [HST.out] at hst ⊢
    obtain ⟨T4, h4⟩ := hGW.step hst
    exact ⟨rfl, T4, h4⟩)
  have s0 := HG.out.cg.q0
  have s1 := HG.out.cg.q1
  obtain ⟨s3, -, -, -, -, -⟩ := HG.out.cg.ent it e HE.out
  have s5 := HG.out.box 5 _ rfl
  go_wp2
  go_region_held3 (fun W => W.cell? ⟨pc, 0, none⟩ = some (.pointer (some ⟨ps, 0, none⟩)) ∧ W.cell? ⟨pc, 1, none⟩ = some (.slice (some ⟨g1, 0, none⟩) EL c1) ∧ W.cell? ⟨g1, it, none⟩ = some (.int .i64 e.h) ∧ W.cell? ⟨A, 5, none⟩ = some (.int .i64 vV))
    (first | go_keep | (go_split_ands; exact ⟨h4.cg.q0, h4.cg.q1, (h4.cg.ent it e HE.out).1, h4.box 5 _ rfl⟩))
    ((go_at_call 64; refine (HXS.out _ ?_).mono ?_; (first | exact Kp0.refl _ | exact Kp0.drew (Kp0.refl _)); rintro e' w4 ⟨rfl, T4, h4⟩))
  have HG4 := hid h4
  clear h4 HXS s0 s1 s3 s5 HG
  go_wp2
  go_loopw [17] (fun t w' => ∃ j : Nat, j ≤ RL ∧ t = .int .i64 j ∧ WG w0 w T w' T4 pc ps σ2 E EL g1 g2 g3 g4 c1 c2 c3 c4 P A gN cN n (wrTo V e.ranks (fun _ => vV) j) ⟨vK, vT, vA, vB, vO, vV⟩ gv ov V) (fun t _ => RL - (intOf t).toNat)
  case atStart => exact ⟨0, Nat.zero_le _, rfl, HG4.out⟩
  case round =>
    clear HG4
    obtain ⟨j, hj, rfl, hG5⟩ := hrel
    have HG5 := hid hG5
    clear hG5
    by_cases hjR : j < RL
    · have x5 := HG5.out.box 5 _ rfl
      have HRB := hid (HM.out.rk HE.out j (by rw [HRL.out]; exact hjR))
      have hrb := HRB.out
      have r1 := HG5.out.cg.rkc HE.out HPK.out HRL.out j hjR
      obtain ⟨b1, b2⟩ := HG5.out.at (nth e.ranks j).toNat (by omega)
      have HST2 : Hid (WG w0 w T (wr.setCell ⟨gN, (nth e.ranks j).toNat, none⟩ (.int .i64 vV)) T4 pc ps σ2 E EL g1 g2 g3 g4 c1 c2 c3 c4 P A gN cN n (wrTo V e.ranks (fun _ => vV) (j + 1)) ⟨vK, vT, vA, vB, vO, vV⟩ gv ov V) := hid (HG5.out.store (nth e.ranks j).toNat (by omega) vV)
      obtain ⟨hr0, hr1⟩ := hrb
      have i0 : (0 : Int) ≤ (j : Int) := by omega
      have i1 : (j : Int) < (RL : Int) := by omega
      generalize nth (wrTo V e.ranks (fun _ => vV) j) (nth e.ranks j).toNat = old at b1
      generalize nth e.ranks j = ri at *
      go_wp2
      first
        | go_region_law (fail)
        | go_region
      all_goals (
        have HG6 := hid HST2.out.drew
        generalize (wr.setCell ⟨gN, ri.toNat, none⟩ (.int .i64 vV)).drew = W6 at HG6 ⊢
        clear x5 r1 b1 b2 HST2 HG5
        go_wp2
        go_roundw
        case rel => exact ⟨j + 1, by omega, by go_num, HG6.out⟩
        case measure => simp [intOf]; omega)
    · have i1 : ¬ (j : Int) < (RL : Int) := by omega
      have HJ : Hid (j = RL) := hid (by omega)
      have q4 := HG5.out.cg.q4
      obtain ⟨-, u4, -, -, -, -⟩ := HG5.out.cg.ent it e HE.out
      clear hj hjR
      by_cases hro : e.ro = true
      · have HW := hid (HG5.out.old (by rw [← HS2.out, if_pos hro]; exact HM.out) cv)
        have hee : er = 6 := by rw [← HER.out, if_pos hro]
        rw [hro] at u4
        rw [hee]
        clear hro hee
        go_wp2
        go_ret2
        exact ⟨_, _, rfl, HW.out⟩
      · have HW := hid (HG5.out.new (by rw [← HS2.out, if_neg hro, HJ.out]; exact HM.out.writes HE.out _ _ (by rw [HRL.out]; exact Nat.le_refl _)))
        have hee : er = 0 := by rw [← HER.out, if_neg hro]
        rw [(Bool.not_eq_true _).mp hro] at u4
        rw [hee]
        clear hro hee
        go_wp2
        go_ret2
        exact ⟨_, _, rfl, HW.out⟩

end Go.Proofs.YticbbncdcannlaaGreat
