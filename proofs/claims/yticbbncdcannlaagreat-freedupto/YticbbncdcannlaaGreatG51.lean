/- The cast: tells, walked. -/
import Derived.Test.YticbbncdcannlaaGreatG49
import Derived.Test.YticbbncdcannlaaGreatG50
import Derived.Test.YticbbncdcannlaaGreatG36

namespace Go.Proofs.YticbbncdcannlaaGreat
open Go.RowKit

theorem KM.look {σ : Sp} {E : List CE} {n : Nat} {V : List Int} {B : Nat} (h : KM σ E n V B) {i : Nat} {e : CE} (he : E[i]? = some e) : σ.look e.h = (2, e.shape, e.ro, 0) ∧ σ.values e.h = (e.told V, 0) := by
  constructor
  · unfold Sp.look
    rw [h.find he]
    rfl
  · unfold Sp.values
    rw [h.find he]
    simp only
    rw [h.told he]

theorem told_nth (e : CE) (V : List Int) (j : Nat) (h : j < e.ranks.length) : nth (e.told V) j = nth V (nth e.ranks j).toNat := by
  rw [nth_lt (by rw [CE.told_length]; exact h)]
  simp [CE.told, nth_lt h]

end Go.Proofs.YticbbncdcannlaaGreat

/- The cast with the names of all its parts; what Meant reckons. -/
namespace Go.Proofs.YticbbncdcannlaaGreat
open Go.RowKit

/-- The cast, with the names of its parts and of all its arrays' lists. -/
structure CG (w0 w : World) (T : Tags) (pc ps : Nat) (σ : Sp) (E : List CE) (EL g1 g2 g3 g4 c1 c2 c3 c4 : Nat) (P : Nat → Option Addr × Nat × Option Addr × Nat) : Prop where
  ki : KI w0 w T pc ps σ E
  q0 : w.cell? ⟨pc, 0, none⟩ = some (.pointer (some ⟨ps, 0, none⟩))
  q1 : w.cell? ⟨pc, 1, none⟩ = some (.slice (some ⟨g1, 0, none⟩) EL c1)
  q2 : w.cell? ⟨pc, 2, none⟩ = some (.slice (some ⟨g2, 0, none⟩) EL c2)
  q3 : w.cell? ⟨pc, 3, none⟩ = some (.slice (some ⟨g3, 0, none⟩) EL c3)
  q4 : w.cell? ⟨pc, 4, none⟩ = some (.slice (some ⟨g4, 0, none⟩) EL c4)
  ent : ∀ (i : Nat) (e : CE), E[i]? = some e → w.cell? ⟨g1, i, none⟩ = some (.int .i64 e.h) ∧ w.cell? ⟨g4, i, none⟩ = some (.bool e.ro) ∧ w.cell? ⟨g2, i, none⟩ = some (.slice (P i).1 e.shape.length (P i).2.1) ∧ w.cell? ⟨g3, i, none⟩ = some (.slice (P i).2.2.1 e.ranks.length (P i).2.2.2) ∧ RdT T w (.slice (P i).1 e.shape.length (P i).2.1) e.shape ∧ RdT T w (.slice (P i).2.2.1 e.ranks.length (P i).2.2.2) e.ranks
  tg : (T pc).1 = 0 ∧ (T g1).1 = 0 ∧ (T g2).1 = 0 ∧ (T g3).1 = 0 ∧ (T g4).1 = 0
  lt : pc < w.heap.size ∧ g1 < w.heap.size ∧ g2 < w.heap.size ∧ g3 < w.heap.size ∧ g4 < w.heap.size

theorem KI.cg {w0 w : World} {T : Tags} {pc ps : Nat} {σ : Sp} {E : List CE} (h : KI w0 w T pc ps σ E) (h1 : 1 ≤ E.length) : ∃ g1 g2 g3 g4 c1 c2 c3 c4 P, CG w0 w T pc ps σ E E.length g1 g2 g3 g4 c1 c2 c3 c4 P := by
  obtain ⟨q0, g1, g2, g3, g4, c1, c2, c3, c4, hq, ht, hg⟩ := h.cells
  obtain ⟨q1, q2, q3, q4⟩ := hq (by omega)
  have key : ∀ i : Nat, ∃ p : Option Addr × Nat × Option Addr × Nat, ∀ e, E[i]? = some e → w.cell? ⟨g2, i, none⟩ = some (.slice p.1 e.shape.length p.2.1) ∧ w.cell? ⟨g3, i, none⟩ = some (.slice p.2.2.1 e.ranks.length p.2.2.2) ∧ RdT T w (.slice p.1 e.shape.length p.2.1) e.shape ∧ RdT T w (.slice p.2.2.1 e.ranks.length p.2.2.2) e.ranks := fun i => by
    cases he : E[i]? with
    | none => exact ⟨(none, 0, none, 0), fun e h => by cases h⟩
    | some e =>
      obtain ⟨u1, u4, a1, d1, a2, d2, u2, u3, r1, r2⟩ := hg i e he
      exact ⟨(a1, d1, a2, d2), fun e' h => by cases h; exact ⟨u2, u3, r1, r2⟩⟩
  obtain ⟨P, hP⟩ := Classical.axiomOfChoice key
  obtain ⟨e0, he0⟩ : ∃ e, E[0]? = some e := ⟨_, List.getElem?_eq_getElem (by omega)⟩
  obtain ⟨u1, u4, a1, d1, a2, d2, u2, u3, -, -⟩ := hg 0 e0 he0
  refine ⟨g1, g2, g3, g4, c1, c2, c3, c4, P, h, q0, q1, q2, q3, q4, fun i e he => ?_, ht (by omega), block_lt_of_cell q0, block_lt_of_cell u1, block_lt_of_cell u2, block_lt_of_cell u3, block_lt_of_cell u4⟩
  obtain ⟨v1, v4, -⟩ := hg i e he
  obtain ⟨v2, v3, r1, r2⟩ := hP i e he
  exact ⟨v1, v4, v2, v3, r1, r2⟩

section
variable {w0 w w' : World} {T T' : Tags} {pc ps : Nat} {σ σ' : Sp} {E : List CE} {EL g1 g2 g3 g4 c1 c2 c3 c4 : Nat} {P : Nat → Option Addr × Nat × Option Addr × Nat}

theorem CG.goes (h : CG w0 w T pc ps σ E EL g1 g2 g3 g4 c1 c2 c3 c4 P) {Z : Nat → Prop} (ht : TagsTo w T T') (hr : XRep T' 1 w' ps σ') (kk : Kp Z w w') (hz : ∀ b, b < w.heap.size → Z b → (T b).1 ≠ 0) : CG w0 w' T' pc ps σ' E EL g1 g2 g3 g4 c1 c2 c3 c4 P := by
  obtain ⟨l0, l1, l2, l3, l4⟩ := h.lt
  have n0 : ∀ b, b < w.heap.size → (T b).1 = 0 → ¬ Z b := fun b hb h0 z => hz b hb z h0
  refine ⟨h.ki.goes ht hr kk hz, kk.cell h.q0 (n0 _ l0 h.tg.1), kk.cell h.q1 (n0 _ l0 h.tg.1), kk.cell h.q2 (n0 _ l0 h.tg.1), kk.cell h.q3 (n0 _ l0 h.tg.1), kk.cell h.q4 (n0 _ l0 h.tg.1), fun i e he => ?_,
    by rw [ht _ l0, ht _ l1, ht _ l2, ht _ l3, ht _ l4]; exact h.tg, Nat.lt_of_lt_of_le l0 kk.size, Nat.lt_of_lt_of_le l1 kk.size, Nat.lt_of_lt_of_le l2 kk.size, Nat.lt_of_lt_of_le l3 kk.size, Nat.lt_of_lt_of_le l4 kk.size⟩
  obtain ⟨u1, u4, u2, u3, r1, r2⟩ := h.ent i e he
  exact ⟨kk.cell u1 (n0 _ l1 h.tg.2.1), kk.cell u4 (n0 _ l4 h.tg.2.2.2.2), kk.cell u2 (n0 _ l2 h.tg.2.2.1), kk.cell u3 (n0 _ l3 h.tg.2.2.2.1),
    r1.kp ht kk (fun b i hb _ e z => hz b hb z (by rw [e])), r2.kp ht kk (fun b i hb _ e z => hz b hb z (by rw [e]))⟩

theorem CG.kp0 (h : CG w0 w T pc ps σ E EL g1 g2 g3 g4 c1 c2 c3 c4 P) (ht : TagsTo w T T') (kk : Kp0 w w') : CG w0 w' T' pc ps σ E EL g1 g2 g3 g4 c1 c2 c3 c4 P :=
  h.goes ht ((h.ki.rep.tags ht).kp kk (fun _ _ e => e)) kk (fun _ _ e => e.elim)

theorem CG.step (h : CG w0 w T pc ps σ E EL g1 g2 g3 g4 c1 c2 c3 c4 P) (hs : Step XRep T 1 w ps σ' w') : ∃ T', TagsTo w T T' ∧ CG w0 w' T' pc ps σ' E EL g1 g2 g3 g4 c1 c2 c3 c4 P ∧ Kp (fun b => (T b).1 = 1) w w' := by
  obtain ⟨T', h1, h2, h3⟩ := hs
  exact ⟨T', h1, h.goes h1 h2 h3 (fun b _ e => by rw [e]; simp), h3⟩

theorem CG.stepL (h : CG w0 w T pc ps σ E EL g1 g2 g3 g4 c1 c2 c3 c4 P) {v : Value} {xs : List Int} (hs : StepL XRep T 1 w ps σ' w' (0, 16) v xs) : ∃ T' ao c, v = .slice ao xs.length c ∧ TagsTo w T T' ∧ CG w0 w' T' pc ps σ' E EL g1 g2 g3 g4 c1 c2 c3 c4 P ∧ Kp (fun b => (T b).1 = 1) w w' ∧ RdT T' w' (.slice ao xs.length c) xs := by
  obtain ⟨T', h1, h2, h3, ao, c, rfl, h4, h5, h6⟩ := hs
  exact ⟨T', ao, c, rfl, h1, h.goes h1 h2 h3 (fun b _ e => by rw [e]; simp), h3, h4.rd, fun b hb => ⟨own_lt h4 hb, 16, Nat.le_refl _, h5 b hb⟩⟩

/-- The cells of an array's ranks. -/
theorem CG.rk (h : CG w0 w T pc ps σ E EL g1 g2 g3 g4 c1 c2 c3 c4 P) {i : Nat} {e : CE} (he : E[i]? = some e) (hp : 0 < e.ranks.length) : ∃ gr og, (P i).2.2.1 = some ⟨gr, og, none⟩ ∧ ∀ j, j < e.ranks.length → w.cell? ⟨gr, og + j, none⟩ = some (.int .i64 (nth e.ranks j)) := by
  obtain ⟨-, -, -, -, -, r2⟩ := h.ent i e he
  obtain ⟨a, c, ev, hh⟩ := rd_parts r2.1
  obtain ⟨g, o, rfl, hc⟩ := hh hp
  simp at ev
  exact ⟨g, o, ev.1, hc⟩
end

end Go.Proofs.YticbbncdcannlaaGreat

/- The law Freed, walked. -/
namespace Go.Proofs.YticbbncdcannlaaGreat
open Go.RowKit

/-- Which are freed behind i rounds: all but the k-th; how many. -/
def frD (k i q : Nat) : Prop := q < i ∧ q ≠ k
def frC (k i : Nat) : Nat := if k < i then i - 1 else i

theorem rng_told {σ : Sp} {E : List CE} {n B : Nat} (h : KM σ E n (rng 100 n) B) {q : Nat} {e : CE} (he : E[q]? = some e) (j : Nat) (hj : j < e.ranks.length) : nth (e.told (rng 100 n)) j = 100 + nth e.ranks j := by
  have := h.rk he j hj
  rw [told_nth e _ j hj, rng_nth 100 n _ (by omega)]
  omega

set_option maxRecDepth 100000 in
set_option maxHeartbeats 8000000 in
theorem freedLaw_calls (w : World) (va : Value) (raw : List Int) (hr : RdI w va raw) (hb : raw.length ≤ 1000000000) (hwf : ∀ j, j < raw.length → IntKind.i64.wrap (nth raw j) = nth raw j) (aS : Option Addr) (N cS : Nat) (vs : List VD) (hN : vs.length = N) (hS : 0 < N → ∃ g off, aS = some ⟨g, off, none⟩ ∧ VS w g off vs) (hNb : N ≤ 50000000) (last : Int) (wl : IntKind.i64.wrap last = last) :
    Calls Tryz.prog 7 #[va, .slice aS N cS, .int .i64 last] w fun e w' => e = .returned (.bool true) ∧ Kp0 w w' := by
  obtain ⟨n, hn⟩ : ∃ n, (vol (sizesOf raw)).toNat = n := ⟨_, rfl⟩
  have hsh := sizesOf_shape raw
  have HBG := hid (began_calls w va raw hr hb hwf n hn)
  have HKM0 : Hid ((bg (sizesOf raw) n n).ok → KM (bg (sizesOf raw) n n) [⟨1, sizesOf raw, rng 0 n, false⟩] n (rng 100 n) 1) := hid (fun hok => bg_km _ hsh.1 n hn (by have := hsh.2; omega) hok)
  have HS := hid hS
  have HN := hid hN
  have HWL := hid wl
  clear hr hb hwf hS hN hsh hn wl
  go_enter Tryz.func7, Tryz.ntmps7
  go_wp2_with fail
  refine HBG.out.mono ?_
  rintro e w1 ⟨pc, ps, T1, rfl, hI1⟩
  have HC1 : Hid (Casts w w1 pc ps n (rng 100 n) 1) := hid ⟨T1, _, _, hI1, HKM0.out hI1.ok, by simp, by simp⟩
  clear hI1 HBG HKM0
  go_wp2_with fail
  refine (plays_calls HC1.out aS N cS vs HN.out HS.out (by omega)).mono ?_
  rintro e w2 ⟨rfl, T2, σ, E, hI2, hM, hE1, hE30⟩
  obtain ⟨g1, g2, g3, g4, c1, c2, c3, c4, P, hcg⟩ := hI2.cg hE1
  obtain ⟨EL, hEL⟩ : ∃ EL, E.length = EL := ⟨_, rfl⟩
  rw [hEL] at hcg hE1 hE30
  have HEL := hid hEL
  have HM := hid hM
  have HCG := hid hcg
  obtain ⟨e0, he0, hr0, -⟩ := hM.fst
  obtain ⟨-, -, u20, -, r10, -⟩ := hcg.ent 0 e0 he0
  have HR10 := hid r10
  have HSH0 : Hid (okShape e0.shape) := hid (hM.aok he0).shape
  have HV0 : Hid (vol e0.shape = (n : Int)) := hid (by
    have := hM.rlen he0
    rw [hr0, rng_length] at this
    exact this.symm)
  obtain ⟨L0, hL0⟩ : ∃ L0, e0.shape.length = L0 := ⟨_, rfl⟩
  rw [hL0] at u20 HR10
  have q2 := hcg.q2
  have q1 := hcg.q1
  have hn125 := hM.n2
  have hn1 := hM.n1
  have e00 : (0 : Int) < (EL : Int) := by omega
  clear hI2 hM hcg hEL HC1 he0 hr0 r10 hL0
  go_wp2_with fail
  refine (kvolume_calls _ e0.shape w2 HR10.out.1 HSH0.out.2.1 HSH0.out.1).mono ?_
  rintro e w' ⟨rfl, hw⟩
  obtain rfl := hw.symm
  rw [HV0.out]
  have hpl := pick_small (c := last) (n := (EL : Int)) (by omega)
  obtain ⟨k, hk⟩ : ∃ k : Nat, pickN last (EL : Int) = (k : Int) := ⟨(pickN last (EL : Int)).toNat, by omega⟩
  have hkE : k < EL := by omega
  have k0 : (0 : Int) ≤ (k : Int) := by omega
  have k1 : (k : Int) < (EL : Int) := by omega
  clear u20 q2 HR10 HSH0 HV0
  go_wp2_with fail
  refine (pick_calls last (EL : Int) w2 HWL.out (by omega)).mono ?_
  rintro e w' ⟨rfl, hw⟩
  obtain rfl := hw.symm
  rw [hk]
  clear hk hpl q1
  go_wp2
  go_loopw [11] (fun t w' => ∃ i : Nat, i ≤ EL ∧ t = .int .i64 i ∧ ∃ T' σ', CG w w' T' pc ps σ' E EL g1 g2 g3 g4 c1 c2 c3 c4 P ∧ FI σ σ' E (frD k i) (frC k i)) (fun t _ => EL - (intOf t).toNat)
  case atStart => exact ⟨0, Nat.zero_le _, rfl, T2, σ, HCG.out, by
    have h0 := HM.out.fi.same (D' := frD k 0) (fun q _ => ⟨fun e => e.elim, fun e => by have := e.1; omega⟩)
    exact h0⟩
  case round =>
    clear HCG
    obtain ⟨i, hi, rfl, T3, σ3, hC, hF⟩ := hrel
    have HC := hid hC
    have HF := hid hF
    have q1 := hC.q1
    clear hC hF
    by_cases hiE : i < EL
    · have i0 : (0 : Int) ≤ (i : Int) := by omega
      have i1 : (i : Int) < (EL : Int) := by omega
      by_cases hik : i = k
      · have bk : ((i : Int) != (k : Int)) = false := by simp; omega
        have HF' : Hid (FI σ σ3 E (frD k (i + 1)) (frC k (i + 1))) := hid (by
          have h1 := HF.out.same (D' := frD k (i + 1)) (fun q _ => by unfold frD; omega)
          have h2 : frC k (i + 1) = frC k i := by unfold frC; split <;> split <;> omega
          rw [h2]
          exact h1)
        clear hik
        go_wp2
        go_roundw
        case rel => exact ⟨i + 1, by omega, by go_num, T3, σ3, HC.out, HF'.out⟩
        case measure => simp [intOf]; omega
      · have bk : ((i : Int) != (k : Int)) = true := by simp; omega
        obtain ⟨e, he⟩ : ∃ e, E[i]? = some e := ⟨_, List.getElem?_eq_getElem (by have := HEL.out; omega)⟩
        have HE := hid he
        have hfr := FI.free HM.out HF.out he (by unfold frD; omega)
        have HFR := hid hfr.1
        have HF' : Hid (FI σ (σ3.free e.h).1 E (frD k (i + 1)) (frC k (i + 1))) := hid (by
          have h1 := hfr.2.same (D' := frD k (i + 1)) (fun q _ => by unfold frD; omega)
          have h2 : frC k (i + 1) = frC k i + 1 := by unfold frC; split <;> split <;> omega
          rw [h2]
          exact h1)
        have HNO := hid (HF'.out.none he (by unfold frD; omega))
        clear he hfr
        have HX1 : Hid (∀ W, Kp0 wr W → Calls Tryz.prog 25 #[.pointer (some ⟨ps, 0, none⟩), .int .i64 e.h] W fun e' w4 => e' = .returned (.int .i64 0) ∧ ∃ T4, CG w w4 T4 pc ps (σ3.free e.h).1 E EL g1 g2 g3 g4 c1 c2 c3 c4 P) := hid (fun W kW => by
          have hCW := HC.out.kp0 (fun _ _ => rfl) kW
          refine (xc_free e.h hCW.ki.rep).mono ?_
          rintro e' w4 ⟨rfl, hst⟩
          obtain ⟨T4, h1, h2, h3⟩ := hCW.step hst
          rw [HFR.out]
          exact ⟨rfl, T4, h2⟩)
        have s0 := HC.out.q0
        have s1 := HC.out.q1
        obtain ⟨s2, -⟩ := HC.out.ent i e HE.out
        clear hik
        go_wp2
        go_region_held3 (fun W => W.cell? ⟨pc, 0, none⟩ = some (.pointer (some ⟨ps, 0, none⟩)) ∧ W.cell? ⟨pc, 1, none⟩ = some (.slice (some ⟨g1, 0, none⟩) EL c1) ∧ W.cell? ⟨g1, i, none⟩ = some (.int .i64 e.h)) (first | go_keep | (go_split_ands; exact ⟨hC4.q0, hC4.q1, (hC4.ent i e HE.out).1⟩))
          ((go_at_call 25; refine (HX1.out _ ?_).mono ?_; (first | exact Kp0.refl _ | exact Kp0.drew (Kp0.refl _)); rintro e' w4 ⟨rfl, T4, hC4⟩))
        have HC4 := hid hC4
        clear hC4 HX1 s0 s1 s2 q1 HC HF
        obtain ⟨σ4, hσ4⟩ : ∃ σ4, (σ3.free e.h).1 = σ4 := ⟨_, rfl⟩
        rw [hσ4] at HC4 HF' HNO
        clear hσ4
        have HX2 : Hid (∀ W, Kp0 w4 W → Calls Tryz.prog 26 #[.pointer (some ⟨ps, 0, none⟩), .int .i64 e.h] W fun e' w5 => ∃ ao c, e' = .returned (.tuple #[.slice ao 0 c, .int .i64 2]) ∧ ∃ T5, CG w w5 T5 pc ps σ4 E EL g1 g2 g3 g4 c1 c2 c3 c4 P) := hid (fun W kW => by
          have hCW := HC4.out.kp0 (fun _ _ => rfl) kW
          refine (xc_values e.h (0, 16) hCW.ki.rep).mono ?_
          rintro e' w5 ⟨v', rfl, hst⟩
          rw [HNO.out.1] at hst ⊢
          obtain ⟨T5, ao, c, rfl, h1, h2, h3, h4⟩ := hCW.stepL hst
          exact ⟨ao, c, rfl, T5, h2⟩)
        have s0 := HC4.out.q0
        have s1 := HC4.out.q1
        obtain ⟨s2, -⟩ := HC4.out.ent i e HE.out
        go_wp2
        go_region_held3 (fun W => W.cell? ⟨pc, 0, none⟩ = some (.pointer (some ⟨ps, 0, none⟩)) ∧ W.cell? ⟨pc, 1, none⟩ = some (.slice (some ⟨g1, 0, none⟩) EL c1) ∧ W.cell? ⟨g1, i, none⟩ = some (.int .i64 e.h)) (first | go_keep | (go_split_ands; exact ⟨hC5.q0, hC5.q1, (hC5.ent i e HE.out).1⟩))
          ((go_at_call 26; refine (HX2.out _ ?_).mono ?_; (first | exact Kp0.refl _ | exact Kp0.drew (Kp0.refl _)); rintro e' w5 ⟨ao5, c5, rfl, T5, hC5⟩))
        have HC5 := hid hC5
        clear hC5 HX2 s0 s1 s2 HC4
        go_wp2
        go_roundw
        case rel => exact ⟨i + 1, by omega, by go_num, T5, σ4, HC5.out, HF'.out⟩
        case measure => simp [intOf]; omega
    · have i1 : ¬ (i : Int) < (EL : Int) := by omega
      have HF' : Hid (FI σ σ3 E (fun q => q ≠ k) (EL - 1)) := hid (by
        have h1 := HF.out.same (D' := fun q => q ≠ k) (fun q hq => by have := HEL.out; unfold frD; omega)
        have h2 : frC k i = EL - 1 := by unfold frC; split <;> omega
        rw [h2] at h1
        exact h1)
      clear HF
      obtain ⟨e, he⟩ : ∃ e, E[k]? = some e := ⟨_, List.getElem?_eq_getElem (by have := HEL.out; omega)⟩
      have HE := hid he
      have HST : Hid (σ3.store 2 = (2000, (n : Int), (n : Int), 0)) := hid (by
        have := FI.store HM.out HF'.out true (HF'.out.used he (by simp))
        simpa using this)
      have HTO := hid (FI.told HM.out HF'.out he (by simp))
      obtain ⟨tv, htv⟩ : ∃ tv, e.told (rng 100 n) = tv := ⟨_, rfl⟩
      rw [htv] at HTO
      obtain ⟨RL, hRL⟩ : ∃ RL, e.ranks.length = RL := ⟨_, rfl⟩
      have HTL : Hid (tv.length = RL) := hid (by rw [← htv, CE.told_length, hRL])
      have HTN : Hid (∀ j, j < RL → nth tv j = 100 + nth e.ranks j ∧ 0 ≤ nth e.ranks j ∧ nth e.ranks j < n) := hid (fun j hj => by
        rw [← htv]
        exact ⟨rng_told HM.out HE.out j (by omega), HM.out.rk HE.out j (by omega)⟩)
      have hRLb : 1 ≤ RL ∧ RL ≤ 400 := by
        have h1 := HM.out.rlen he
        have h2 : 1 ≤ vol e.shape := vol_whole (HM.out.aok he).shape
        have h3 := (HM.out.ent _ _ he).2.2.1
        omega
      have HRL := hid hRL
      have hfr := FI.free HM.out HF'.out he (by simp)
      have HFR := hid hfr.1
      have HFA : Hid (FI σ (σ3.free e.h).1 E (fun _ => True) EL) := hid (by
        have h1 := hfr.2.same (D' := fun _ => True) (fun q _ => by simp [Classical.or_iff_not_imp_left])
        have h2 : EL - 1 + 1 = EL := by omega
        rw [h2] at h1
        exact h1)
      have HNO := hid (HFA.out.none he trivial)
      have HST2 : Hid ((σ3.free e.h).1.store 2 = (2000, 0, 0, 0)) := hid (by
        have := FI.store HM.out HFA.out false (HFA.out.unused HEL.out.symm 0)
        simpa using this)
      have HAN := hid (FI.anew HM.out HFA.out HEL.out.symm)
      have s0 := HC.out.q0
      clear he htv hRL hfr
      obtain ⟨hl, hhl, hhll⟩ : ∃ f, E[EL - 1]? = some f ∧ f.h ≤ (σ.arrs.length : Int) := by
        obtain ⟨f, hf⟩ : ∃ f, E[EL - 1]? = some f := ⟨_, List.getElem?_eq_getElem (by have := HEL.out; omega)⟩
        exact ⟨f, hf, HM.out.hle hf⟩
      have HHL := hid hhl
      clear hhl
      go_wp2_with fail
      refine (xc_store 2 HC.out.ki.rep).mono ?_
      rintro e' w4 ⟨rfl, hst⟩
      obtain ⟨T4, -, hC4, -⟩ := HC.out.step hst
      rw [HST.out]
      obtain ⟨A, hA⟩ : ∃ A, w4.heap.size = A := ⟨_, rfl⟩
      obtain ⟨W4, hW4⟩ : ∃ W4, w4.alloc (.cells #[.int .i64 2000, .int .i64 (n : Int), .int .i64 (n : Int)] 61) = W4 := ⟨_, rfl⟩
      have HW4 := hid hW4
      have hbA : W4.heap[A]? = some (.cells #[.int .i64 2000, .int .i64 (n : Int), .int .i64 (n : Int)] 61 (0, 0)) := by rw [← hW4, ← hA]; exact heap_alloc_new _ _
      have HBA := hid hbA
      have HC5 : Hid (CG w W4 (retag w4 T4 (2, 0)) pc ps σ3 E EL g1 g2 g3 g4 c1 c2 c3 c4 P) := hid (by rw [← hW4]; exact hC4.kp0 (retag_to w4 T4 _) (Kp.alloc (Kp.refl _ _) _))
      have HTA : Hid ((retag w4 T4 (2, 0)) A = (2, 0)) := hid (by rw [← hA]; exact retag_new (Nat.le_refl _))
      have HA := hid hA
      clear hst hC4 hW4 hbA hA s0 HC q1
      generalize retag w4 T4 (2, 0) = T5 at *
      have HX2 : Hid (∀ W, Kp0 W4 W → Calls Tryz.prog 26 #[.pointer (some ⟨ps, 0, none⟩), .int .i64 e.h] W fun e' w5 => ∃ ao c, e' = .returned (.tuple #[.slice ao RL c, .int .i64 0]) ∧ ∃ T6, TagsTo W4 T5 T6 ∧ CG w w5 T6 pc ps σ3 E EL g1 g2 g3 g4 c1 c2 c3 c4 P ∧ Kp (fun b => (T5 b).1 = 1) W4 w5 ∧ RdT T6 w5 (.slice ao RL c) tv) := hid (fun W kW => by
        have hCW := HC5.out.kp0 (fun _ _ => rfl) kW
        refine (xc_values e.h (0, 16) hCW.ki.rep).mono ?_
        rintro e' w5 ⟨v', rfl, hst⟩
        rw [HTO.out] at hst ⊢
        obtain ⟨T6, ao, c, rfl, h1, h2, h3, h4⟩ := hCW.stepL hst
        simp only [HTL.out] at h4 ⊢
        exact ⟨ao, c, rfl, T6, fun b hb => h1 b (Nat.lt_of_lt_of_le hb kW.size), h2, (Kp.of0 kW).trans h3 (fun _ _ e => e), h4⟩)
      have s0 := HC5.out.q0
      have s1 := HC5.out.q1
      obtain ⟨s2, -⟩ := HC5.out.ent k e HE.out
      go_upto_region 18 with (fail)
      simp only [HA.out]
      rw [HW4.out]
      go_region_held3 (fun W => W.cell? ⟨pc, 0, none⟩ = some (.pointer (some ⟨ps, 0, none⟩)) ∧ W.cell? ⟨pc, 1, none⟩ = some (.slice (some ⟨g1, 0, none⟩) EL c1) ∧ W.cell? ⟨g1, k, none⟩ = some (.int .i64 e.h)) (first | go_keep | (go_split_ands; exact ⟨hC6.q0, hC6.q1, (hC6.ent k e HE.out).1⟩))
        ((go_at_call 26; refine (HX2.out _ ?_).mono ?_; (first | exact Kp0.refl _ | exact Kp0.drew (Kp0.refl _)); rintro e' w5 ⟨ao5, c5, rfl, T6, ht6, hC6, hk6, hl6⟩))
      have HC6 := hid hC6
      have HL6 := hid hl6
      have hA5 := hk6.heap HBA.out (by rw [HTA.out]; simp)
      have HA5 := hid hA5
      have HTA6 : Hid (T6 A = (2, 0)) := hid (by rw [ht6 A (lt_of_heap HBA.out)]; exact HTA.out)
      have a1 : w5.cell? ⟨A, 1, none⟩ = some (.int .i64 (n : Int)) := by simp [World.cell?, hA5]
      have a2 : w5.cell? ⟨A, 2, none⟩ = some (.int .i64 (n : Int)) := by simp [World.cell?, hA5]
      have t0 := hC6.q3
      obtain ⟨-, -, -, t1, -, -⟩ := hC6.ent k e HE.out
      rw [HRL.out] at t1
      have b1 : ((n : Int) != (n : Int)) = false := by simp
      have b2 : ((RL : Int) != (RL : Int)) = false := by simp
      clear ht6 hC6 hk6 hl6 HX2 s0 s1 s2 HC5 hA5 HW4 HBA HTA
      go_wp2
      obtain ⟨gl, ol, rfl, hcl⟩ : ∃ gl ol, ao5 = some ⟨gl, ol, none⟩ ∧ ∀ j, j < RL → w5.cell? ⟨gl, ol + j, none⟩ = some (.int .i64 (nth tv j)) := by
        obtain ⟨a, c, ev, hh⟩ := rd_parts HL6.out.1
        obtain ⟨g, o, rfl, hc⟩ := hh (by rw [HTL.out]; omega)
        simp at ev
        exact ⟨g, o, by rw [ev.1], fun j hj => hc j (by rw [HTL.out]; exact hj)⟩
      obtain ⟨gr, og, hpk, hcr⟩ := HC6.out.rk HE.out (by have := HRL.out; omega)
      rw [HRL.out] at hcr
      rw [hpk] at t1
      have HCL := hid hcl
      have HCR := hid hcr
      clear hcl hcr hpk a1 a2 b1 b2
      go_loopw [19] (fun t w' => ∃ j : Nat, j ≤ RL ∧ t = .int .i64 j ∧ ∃ d, w' = w5.drewN d) (fun t _ => RL - (intOf t).toNat)
      case atStart => exact ⟨0, Nat.zero_le _, rfl, 0, rfl⟩
      case round =>
        obtain ⟨j, hj, rfl, d, rfl⟩ := hrel
        by_cases hjR : j < RL
        · obtain ⟨z1, z2, z3⟩ := HTN.out j hjR
          have x1 := HCL.out j hjR
          have x2 := HCR.out j hjR
          rw [z1] at x1
          have j0 : (0 : Int) ≤ (j : Int) := by omega
          have j1 : (j : Int) < (RL : Int) := by omega
          clear z1
          generalize nth e.ranks j = rj at *
          have bb : ((100 + rj) != (100 + rj)) = false := by simp
          have ew : IntKind.i64.wrap (100 + rj) = 100 + rj := bd_wf (by omega)
          go_wp2
          go_quiet (fail)
          go_wp2
          go_roundw
          case rel => exact ⟨j + 1, by omega, by go_num, _, rfl⟩
          case measure => simp [intOf]; omega
        · have j1 : ¬ (j : Int) < (RL : Int) := by omega
          have HKD : Hid (Kp0 w5 (w5.drewN d)) := hid ((Kp.refl _ _).drewN _)
          have HC7 := hid (HC6.out.kp0 (fun _ _ => rfl) HKD.out)
          have HA7 := hid (HKD.out.heap HA5.out)
          generalize w5.drewN d = w7 at *
          clear HC6 HA5 HKD HCL HCR t0 t1 HL6 hjR hj
          have HX3 : Hid (∀ W, Kp0 w7 W → Calls Tryz.prog 25 #[.pointer (some ⟨ps, 0, none⟩), .int .i64 e.h] W fun e' w8 => e' = .returned (.int .i64 0) ∧ ∃ T8, TagsTo w7 T6 T8 ∧ CG w w8 T8 pc ps (σ3.free e.h).1 E EL g1 g2 g3 g4 c1 c2 c3 c4 P ∧ Kp (fun b => (T6 b).1 = 1) w7 w8) := hid (fun W kW => by
            have hCW := HC7.out.kp0 (fun _ _ => rfl) kW
            refine (xc_free e.h hCW.ki.rep).mono ?_
            rintro e' w8 ⟨rfl, hst⟩
            obtain ⟨T8, h1, h2, h3⟩ := hCW.step hst
            rw [HFR.out]
            exact ⟨rfl, T8, fun b hb => h1 b (Nat.lt_of_lt_of_le hb kW.size), h2, (Kp.of0 kW).trans h3 (fun _ _ e => e)⟩)
          have s0 := HC7.out.q0
          have s1 := HC7.out.q1
          obtain ⟨s2, -⟩ := HC7.out.ent k e HE.out
          go_wp2
          go_region_held3 (fun W => W.cell? ⟨pc, 0, none⟩ = some (.pointer (some ⟨ps, 0, none⟩)) ∧ W.cell? ⟨pc, 1, none⟩ = some (.slice (some ⟨g1, 0, none⟩) EL c1) ∧ W.cell? ⟨g1, k, none⟩ = some (.int .i64 e.h)) (first | go_keep | (go_split_ands; exact ⟨hC8.q0, hC8.q1, (hC8.ent k e HE.out).1⟩))
            ((go_at_call 25; refine (HX3.out _ ?_).mono ?_; (first | exact Kp0.refl _ | exact Kp0.drew (Kp0.refl _)); rintro e' w8 ⟨rfl, T8, ht8, hC8, hk8⟩))
          have HC8 := hid hC8
          have HA8 := hid (hk8.heap HA7.out (by rw [HTA6.out]; simp))
          have HTA8 : Hid (T8 A = (2, 0)) := hid (by rw [ht8 A (lt_of_heap HA7.out)]; exact HTA6.out)
          clear ht8 hC8 hk8 HX3 s0 s1 s2 HC7 HA7
          obtain ⟨σ4, hσ4⟩ : ∃ σ4, (σ3.free e.h).1 = σ4 := ⟨_, rfl⟩
          rw [hσ4] at HC8 HFA HNO HST2 HAN
          clear hσ4
          have HX4 : Hid (∀ W, Kp0 w8 W → Calls Tryz.prog 25 #[.pointer (some ⟨ps, 0, none⟩), .int .i64 e.h] W fun e' w9 => e' = .returned (.int .i64 2) ∧ ∃ T9, TagsTo w8 T8 T9 ∧ CG w w9 T9 pc ps σ4 E EL g1 g2 g3 g4 c1 c2 c3 c4 P ∧ Kp (fun b => (T8 b).1 = 1) w8 w9) := hid (fun W kW => by
            have hCW := HC8.out.kp0 (fun _ _ => rfl) kW
            refine (xc_free e.h hCW.ki.rep).mono ?_
            rintro e' w9 ⟨rfl, hst⟩
            rw [HNO.out.2] at hst ⊢
            obtain ⟨T9, h1, h2, h3⟩ := hCW.step hst
            exact ⟨rfl, T9, fun b hb => h1 b (Nat.lt_of_lt_of_le hb kW.size), h2, (Kp.of0 kW).trans h3 (fun _ _ e => e)⟩)
          have s0 := HC8.out.q0
          have s1 := HC8.out.q1
          obtain ⟨s2, -⟩ := HC8.out.ent k e HE.out
          go_wp2
          go_region_held3 (fun W => W.cell? ⟨pc, 0, none⟩ = some (.pointer (some ⟨ps, 0, none⟩)) ∧ W.cell? ⟨pc, 1, none⟩ = some (.slice (some ⟨g1, 0, none⟩) EL c1) ∧ W.cell? ⟨g1, k, none⟩ = some (.int .i64 e.h)) (first | go_keep | (go_split_ands; exact ⟨hC9.q0, hC9.q1, (hC9.ent k e HE.out).1⟩))
            ((go_at_call 25; refine (HX4.out _ ?_).mono ?_; (first | exact Kp0.refl _ | exact Kp0.drew (Kp0.refl _)); rintro e' w9 ⟨rfl, T9, ht9, hC9, hk9⟩))
          have HC9 := hid hC9
          have HA9 := hid (hk9.heap HA8.out (by rw [HTA8.out]; simp))
          have HTA9 : Hid (T9 A = (2, 0)) := hid (by rw [ht9 A (lt_of_heap HA8.out)]; exact HTA8.out)
          clear ht9 hC9 hk9 HX4 s0 s1 s2 HC8 HA8
          have s0 := HC9.out.q0
          go_wp2_with fail
          refine (xc_store 2 HC9.out.ki.rep).mono ?_
          rintro e' w10 ⟨rfl, hst⟩
          obtain ⟨T10, ht10, hC10, hk10⟩ := HC9.out.step hst
          rw [HST2.out]
          have hA10 := hk10.heap HA9.out (by rw [HTA9.out]; simp)
          have hTA10 : T10 A = (2, 0) := by rw [ht10 A (lt_of_heap HA9.out)]; exact HTA9.out
          have z0 : w10.cell? ⟨A, 0, none⟩ = some (.int .i64 2000) := by simp [World.cell?, hA10]
          have z1 : w10.cell? ⟨A, 1, none⟩ = some (.int .i64 (n : Int)) := by simp [World.cell?, hA10]
          have z2 : w10.cell? ⟨A, 2, none⟩ = some (.int .i64 (n : Int)) := by simp [World.cell?, hA10]
          have zf0 : w10.frozen? ⟨A, 0, none⟩ = false := frozen_blk hA10
          have zf1 : w10.frozen? ⟨A, 1, none⟩ = false := frozen_blk hA10
          have zf2 : w10.frozen? ⟨A, 2, none⟩ = false := frozen_blk hA10
          have hkz : Kp (fun b => b = A) w10 (((w10.setCell ⟨A, 0, none⟩ (.int .i64 2000)).setCell ⟨A, 1, none⟩ (.int .i64 0)).setCell ⟨A, 2, none⟩ (.int .i64 0)) := three_kp w10 A _ _ _
          have HC11 := hid (hC10.goes (fun _ _ => rfl) (hC10.ki.rep.kp hkz (fun b e z => by rw [z, hTA10] at e; cases e)) hkz (fun b _ e => by rw [e, hTA10]; simp))
          have hz3 := three_cells (x' := .int .i64 2000) (y' := .int .i64 0) (z' := .int .i64 0) z0 z1 z2
          have HZ3 := hid hz3
          have HTA10 := hid hTA10
          have n1 : ¬ A = pc := fun e => by
            have h1 := hC10.tg.1
            rw [← e, hTA10] at h1
            cases h1
          have s0' := hC10.q0
          clear hst ht10 hC10 hk10 hA10 hTA10 hkz hz3 s0 HC9 HA9
          go_wp2_with fail
          have HW11 : Hid (∃ W11, (((w10.setCell ⟨A, 0, none⟩ (.int .i64 2000)).setCell ⟨A, 1, none⟩ (.int .i64 0)).setCell ⟨A, 2, none⟩ (.int .i64 0)) = W11) := hid ⟨_, rfl⟩
          have hsz : ((((w10.setCell ⟨A, 0, none⟩ (.int .i64 2000)).setCell ⟨A, 1, none⟩ (.int .i64 0)).setCell ⟨A, 2, none⟩ (.int .i64 0))).heap.size = w10.heap.size := by simp
          have HSZ := hid hsz
          clear z0 z1 z2 zf0 zf1 zf2 s0' hsz
          generalize hW11 : (((w10.setCell ⟨A, 0, none⟩ (.int .i64 2000)).setCell ⟨A, 1, none⟩ (.int .i64 0)).setCell ⟨A, 2, none⟩ (.int .i64 0)) = W11 at *
          clear hW11 HW11
          have HC12 := hid (HC11.out.kp0 (fun _ _ => rfl) (Kp.alloc (Kp.refl (fun _ => False) W11) (.cells #[.int .i64 40, .int .i64 50] 3)))
          have hAl : A < W11.heap.size := block_lt_of_cell HZ3.out.1
          refine (xc_make 2 _ [40, 50] HC12.out.ki.rep (rd_builtW W11 [40, 50] _ rfl _ _ HSZ.out rfl) (by rw [HFA.out.len]; have := HM.out.many; omega) (by rw [HFA.out.bufs]; have := HM.out.bufs; omega)).mono ?_
          rintro e' w12 ⟨rfl, hst⟩
          obtain ⟨T12, ht12, hC13, hk12⟩ := HC12.out.step hst
          rw [HAN.out]
          have y1 : w12.cell? ⟨A, 1, none⟩ = some (.int .i64 0) := hk12.cell (by rw [World.cell?_alloc_lt _ _ _ hAl]; exact HZ3.out.2.1) (by rw [HTA10.out]; simp)
          have y2 : w12.cell? ⟨A, 2, none⟩ = some (.int .i64 0) := hk12.cell (by rw [World.cell?_alloc_lt _ _ _ hAl]; exact HZ3.out.2.2) (by rw [HTA10.out]; simp)
          have HKW := hid hC13.ki.keep
          have s1 := hC13.q1
          obtain ⟨EP, hEP⟩ : ∃ EP : Nat, EL = EP + 1 := ⟨EL - 1, by omega⟩
          obtain ⟨s2, -⟩ := hC13.ent EP hl (by have h1 := HHL.out; rw [show EP = EL - 1 by omega]; exact h1)
          have e1 : IntKind.i64.wrap ((EL : Int) - 1) = (EP : Int) := by rw [show (EL : Int) - 1 = (EP : Int) by omega]; exact bd_wf (by omega)
          have e2 : (EL : Int) - 1 = (EP : Int) := by omega
          have e3 : (0 : Int) ≤ (EP : Int) := by omega
          have e4 : (EP : Int) < (EL : Int) := by omega
          have bh : decide (hl.h < (σ.arrs.length : Int) + 1) = true := by simp; omega
          have bh' : hl.h < (σ.arrs.length : Int) + 1 := by omega
          obtain ⟨hv, hhv⟩ : ∃ hv, hl.h = hv := ⟨_, rfl⟩
          obtain ⟨hN, hhN⟩ : ∃ hN, (σ.arrs.length : Int) + 1 = hN := ⟨_, rfl⟩
          rw [hhv] at s2 bh bh'
          rw [hhN] at bh bh' ⊢
          clear hst ht12 hC13 hk12 HC12 HC11 hEP hhv hhN hhll n1
          go_wp2
          go_quiet (fail)
          go_wp2
          go_ret
          exact ⟨rfl, HKW.out.drewN _⟩

end Go.Proofs.YticbbncdcannlaaGreat
