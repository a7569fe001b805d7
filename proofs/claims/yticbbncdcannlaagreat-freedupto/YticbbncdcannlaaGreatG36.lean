/- The program's space at int64, walked: makeOf. -/
import Derived.Deep.RegionLaw
import Derived.BigRegion
import Derived.Test.YticbbncdcannlaaGreatG35
import Derived.Test.YticbbncdcannlaaGreatG34
import Derived.Test.YticbbncdcannlaaGreatG32
import Derived.Test.YticbbncdcannlaaGreatG26

namespace Go.Proofs.YticbbncdcannlaaGreat
open Go.RowKit Go.Maps Go.ChangeMaps Go.MapKept

set_option maxRecDepth 100000 in
set_option maxHeartbeats 4000000 in
theorem xmakeOfOkI (p q : Nat) (kind hn : Int) (s : List Int) (vv : Value) (w : World) (mc : Nat) (P : List Int) {R Q : World → Prop}
    (HW : Hid (∀ W, Kp0 w W → Calls Tryz.prog 63 #[.pointer (some ⟨p, 0, none⟩), .int .i64 kind, .iface 127 (.pointer (some ⟨q, 0, none⟩)), .agg (shC s).toArray] W fun e w' => e = .returned (.tuple #[.int .i64 hn, .int .i64 0]) ∧ R w'))
    (HL : Hid (∀ w', R w' → ∃ (x : XA) (bm : Nat) (c0 c1 c3 : Value), w'.heap[p]? = some (.cells #[c0, c1, .map (some bm), c3] 130 (0, 0)) ∧ (Instr.lookup 128 (.map (some bm)) (.int .i64 hn) false).run Tryz.prog w'.drew = .ok (.agg x.cs) w'.drew ∧ ∀ W, Calls Tryz.prog 60 #[.agg (grC x.l x.t x.f).toArray] W fun e w' => ∃ ao c, e = .returned (.slice ao mc c) ∧ Kp0 W w' ∧ Fr W.heap.size w' (.slice ao mc c) P))
    (HX : Hid (∀ w' W vp, R w' → Kp0 w' W → Fr w'.heap.size W vp P → Calls Tryz.prog 218 #[.pointer (some ⟨q, 0, none⟩), vp, vv] W fun e w2 => ∃ u, e = .returned u ∧ Q w2)) :
    Calls Tryz.prog 59 #[.pointer (some ⟨p, 0, none⟩), .int .i64 kind, .iface 127 (.pointer (some ⟨q, 0, none⟩)), .agg (shC s).toArray, vv] w fun e w' => e = .returned (.tuple #[.int .i64 hn, .int .i64 0]) ∧ Q w' := by
  unfold shC at HW ⊢
  generalize s.length = m at *
  have HMR := hid (Tryz.mWriteI ⟨q, 0, none⟩)
  have hna := Tryz.nWriteI ⟨q, 0, none⟩
  go_enter Tryz.func59, Tryz.ntmps59
  go_wp2_with fail
  refine (HW.out _ ((Kp.refl _ w).alloc _)).mono ?_
  rintro e w2 ⟨rfl, hR⟩
  have HR := hid hR
  obtain ⟨x, bm, c0, c1, c3, hb, hlk, hC⟩ := HL.out w2 hR
  have HC2 : Hid (∀ W, Calls Tryz.prog 60 #[.agg (grC x.l x.t x.f).toArray] W fun e w' => ∃ v, e = .returned v ∧ ∃ ao c, v = .slice ao mc c ∧ Kp0 W w' ∧ Fr W.heap.size w' (.slice ao mc c) P) := hid (fun W => (hC W).mono (fun e w' ⟨ao, c, h1, h2, h3⟩ => ⟨_, h1, ao, c, rfl, h2, h3⟩))
  unfold XA.cs at hlk
  unfold grC at HC2
  clear hC
  generalize x.l.length = n at *
  have y2 : w2.cell? ⟨p, 2, none⟩ = some (.map (some bm)) := cell_of_row _ p 2 _ _ _ hb
  have hfd := Tryz.fieldGrid (.int .i64 x.kind) (.int .i64 x.buf) (.int .i64 (nth x.l 0)) (.int .i64 (nth x.l 1)) (.int .i64 (nth x.l 2)) (.int .i64 (nth x.l 3)) (.int .i64 (n : Int)) (.int .i64 x.f) (.int .i64 (nth x.t 0)) (.int .i64 (nth x.t 1)) (.int .i64 (nth x.t 2)) (.int .i64 (nth x.t 3)) (.bool x.ro)
  clear hR hb HL HW
  go_wp2
  go_region_law ((first
    | (refine step_call1 (by rfl) 60 (.tmp 32) _ (by rfl) _ Tryz.func60 (by kernel_rfl) (by kernel_rfl) _ (by rfl) (HC2.out _) ?_; intro v7 w7 hR7; obtain ⟨ao, c7, rfl, hk7, hf7⟩ := hR7)
    | (refine step_invoke2 (by rfl) (.tmp 37) "Write" (.tmp 33) (.tmp 34) _ (by rfl) _ (.slice ao mc c7) vv (by rfl) (by rfl) (by rfl) _ _ (HMR.out _ _ _) (HX.out _ _ _ HR.out (Kp0.trans (Kp0.refl w2).drew hk7) hf7) ?_; intro v8 w8 hR8)))
  all_goals
    have HR8 := hid hR8
    clear hR8 hk7 hf7
    go_wp2
    go_ret2
    exact ⟨rfl, HR8.out⟩

end Go.Proofs.YticbbncdcannlaaGreat

/- makeOf in the document's words. -/
namespace Go.Proofs.YticbbncdcannlaaGreat
open Go.RowKit

theorem xc_writeB2 {T : Tags} {o : Nat} {w : World} {p : Nat} {σ : Sp} {L : XL} {X : XS} (hok : σ.ok) (hX : XAt T o w p L X) (hT : Tie X (Maps.size L.D) σ) {h : Int} {a : Arr} {x : XA} (hf : σ.find h = some a) (hx : ATie σ a x) (hk : a.kind = 1) (V : List Int) (hl : V.length = a.cells.length) (hV : ∀ j, IntKind.i64.wrap (nth V j) = nth V j)
    (W : World) (vp vv : Value) (k : Kp0 w W) (hp : Fr w.heap.size W vp a.cells) (hv : RdI W vv V) (hne : vv.ownBlock ≠ some L.g1) :
    Calls Tryz.prog 198 #[.pointer (some ⟨L.q1, 0, none⟩), vp, vv] W fun e w' => ∃ u, e = .returned u ∧ Step XRep T o w p (σ.writes 1 a.cells (fun i => asK 1 (nth V i)) a.cells.length) w' := by
  have ha := kind_of hok hf
  have hlt : L.g1 < w.heap.size := lt_of_heap hX.s1.cells
  have hP : ∀ j, j < a.cells.length → 0 ≤ nth a.cells j ∧ nth a.cells j < σ.cap 1 ∧ σ.taken 1 (nth a.cells j) = true := fun j hj => by
    have h1 := ha.inside j hj
    have h2 := hx.taken hf j hj
    rw [hk] at h1 h2
    exact ⟨h1.1, h1.2, h2⟩
  have h36 : a.cells.length ≤ 1000000 := by have := ha.length; have := ha.shape.2.2; omega
  refine (xWriteB_calls (hX.kp0 k).s1 a.cells V vp vv hp.1 (fun _ e => by have := hp.2 _ e; omega) hv (fun _ e => hne e) hl (fun j _ => hV j) (fun j hj => by rw [hT.k1.len]; exact ⟨(hP j hj).1, (hP j hj).2.1⟩) h36).mono ?_
  rintro e w' ⟨rfl, hk', hb⟩
  have hX' := (hX.kp0 k).putB hk' hb (wrTo_length _ _ _ _)
  have hw1 : (fun j => IntKind.wrap .u8 (nth V j)) = fun j => asK 1 (nth V j) := by funext j; rw [wrap_u8]; simp [asK]
  rw [hw1] at hX'
  have hn := (hT.writesFB hok a.cells hP (fun j => asK 1 (nth V j)) (fun j _ => by simp only [asK, if_true]; omega) a.cells.length (Nat.le_refl _)).1
  exact ⟨_, rfl, T, fun _ _ => rfl, ⟨writes_ok hok _ _ _ _, L, _, hX', hn⟩, (Kp.of0 k).trans hk' (fun b _ e => by rw [e, hX.tg1])⟩

theorem xc_writeI2 {T : Tags} {o : Nat} {w : World} {p : Nat} {σ : Sp} {L : XL} {X : XS} (hok : σ.ok) (hX : XAt T o w p L X) (hT : Tie X (Maps.size L.D) σ) {h : Int} {a : Arr} {x : XA} (hf : σ.find h = some a) (hx : ATie σ a x) (hk : a.kind = 2) (V : List Int) (hl : V.length = a.cells.length) (hV : ∀ j, IntKind.i64.wrap (nth V j) = nth V j)
    (W : World) (vp vv : Value) (k : Kp0 w W) (hp : Fr w.heap.size W vp a.cells) (hv : RdI W vv V) (hne : vv.ownBlock ≠ some L.g2) :
    Calls Tryz.prog 218 #[.pointer (some ⟨L.q2, 0, none⟩), vp, vv] W fun e w' => ∃ u, e = .returned u ∧ Step XRep T o w p (σ.writes 2 a.cells (fun i => asK 2 (nth V i)) a.cells.length) w' := by
  have ha := kind_of hok hf
  have hlt : L.g2 < w.heap.size := lt_of_heap hX.s2.cells
  have hP : ∀ j, j < a.cells.length → 0 ≤ nth a.cells j ∧ nth a.cells j < σ.cap 2 ∧ σ.taken 2 (nth a.cells j) = true := fun j hj => by
    have h1 := ha.inside j hj
    have h2 := hx.taken hf j hj
    rw [hk] at h1 h2
    exact ⟨h1.1, h1.2, h2⟩
  have h36 : a.cells.length ≤ 1000000 := by have := ha.length; have := ha.shape.2.2; omega
  refine (xWriteI_calls (hX.kp0 k).s2 a.cells V vp vv hp.1 (fun _ e => by have := hp.2 _ e; omega) hv (fun _ e => hne e) hl (fun j _ => hV j) (fun j hj => by rw [hT.k2.len]; exact ⟨(hP j hj).1, (hP j hj).2.1⟩) h36).mono ?_
  rintro e w' ⟨rfl, hk', hb⟩
  have hX' := (hX.kp0 k).putI hk' hb (wrTo_length _ _ _ _)
  have hw1 : (fun j => IntKind.wrap .i64 (nth V j)) = fun j => asK 2 (nth V j) := by funext j; rw [hV]; simp [asK]
  rw [hw1] at hX'
  have hn := (hT.writesFI hok a.cells hP (fun j => asK 2 (nth V j)) (fun j _ => by simp only [asK]; exact hV j) a.cells.length (Nat.le_refl _)).1
  exact ⟨_, rfl, T, fun _ _ => rfl, ⟨writes_ok hok _ _ _ _, L, _, hX', hn⟩, (Kp.of0 k).trans hk' (fun b _ e => by rw [e, hX.tg2])⟩

theorem xc_makeOfB {T : Tags} {o : Nat} {w : World} {p : Nat} {σ : Sp} {L : XL} {X : XS} (s : List Int) (hok : σ.ok) (hX : XAt T o w p L X) (hT : Tie X (Maps.size L.D) σ) (hs : shapeB s = true) (hm : σ.arrs.length + 1 ≤ 100000000) (hb : σ.bufs.length + 1 ≤ 100000000)
    (V : List Int) (hVl : V.length = (vol s).toNat) (hV : ∀ j, IntKind.i64.wrap (nth V j) = nth V j) (vv : Value) (hv : RdI w vv V) (hvo : ∀ b, vv.ownBlock = some b → (T b).1 ≠ o ∧ b < w.heap.size) :
    Calls Tryz.prog 59 #[.pointer (some ⟨p, 0, none⟩), .int .i64 1, .iface 126 (.pointer (some ⟨L.q1, 0, none⟩)), .agg (shC s).toArray, vv] w fun e w' => ∃ a b, e = .returned (.tuple #[.int .i64 a, .int .i64 b]) ∧ ((a = (σ.fresh 1 s fun i => asK 1 (nth V i)).2.1 ∧ b = (σ.fresh 1 s fun i => asK 1 (nth V i)).2.2) ∧ Step XRep T o w p (σ.fresh 1 s fun i => asK 1 (nth V i)).1 w') := by
  have hW := xc_whole 1 s hok hX hT (by omega) hs hm hb
  have hsh := (shapeB_iff s).1 hs
  rw [inVB] at hW
  have toStep : ∀ {σ' w'}, StepQ T o w p L σ' w' → Step XRep T o w p σ' w' := fun ⟨T', L', X', h1, h2, h3, h4, h5, _⟩ => ⟨T', h1, ⟨h2, L', X', h3, h4⟩, h5⟩
  by_cases hl : 40 ≤ σ.live
  · have h1 : σ.make 1 s = (σ, 0, 7) := make_many (by omega) hs hl
    have h2 : (σ.fresh 1 s fun i => asK 1 (nth V i)) = (σ, 0, 7) := by unfold Sp.fresh; rw [if_pos hl]
    rw [h1] at hW
    rw [h2]
    refine (xmakeOf_no p 1 _ s vv w 7 (by omega) (hid (fun W k => (hW W k).mono (fun e w' ⟨h1, h2⟩ => ⟨_, h1, h2⟩)))).mono ?_
    rintro e w' ⟨rfl, hq⟩
    exact ⟨_, _, rfl, ⟨rfl, rfl⟩, toStep hq⟩
  · by_cases hp : σ.place 1 (vol s).toNat < 0
    · have h1 : σ.make 1 s = (σ, 0, 8) := by unfold Sp.make; rw [if_neg (by omega), if_neg (by simp [hs]), if_neg hl, if_pos hp]
      have h2 : (σ.fresh 1 s fun i => asK 1 (nth V i)) = (σ, 0, 8) := by unfold Sp.fresh; rw [if_neg hl, if_pos hp]
      rw [h1] at hW
      rw [h2]
      refine (xmakeOf_no p 1 _ s vv w 8 (by omega) (hid (fun W k => (hW W k).mono (fun e w' ⟨h1, h2⟩ => ⟨_, h1, h2⟩)))).mono ?_
      rintro e w' ⟨rfl, hq⟩
      exact ⟨_, _, rfl, ⟨rfl, rfl⟩, toStep hq⟩
    · obtain ⟨a, ha⟩ : ∃ a, σ.place 1 (vol s).toNat = a := ⟨_, rfl⟩
      rw [ha] at hp
      have h1 : σ.make 1 s = (σ.made 1 a s (vol s).toNat fun _ => 0, (σ.arrs.length : Int) + 1, 0) := by unfold Sp.make; rw [if_neg (by omega), if_neg (by simp [hs]), if_neg hl, ha, if_neg hp]
      have h2 : (σ.fresh 1 s fun i => asK 1 (nth V i)) = (σ.made 1 a s (vol s).toNat fun i => asK 1 (nth V i), (σ.arrs.length : Int) + 1, 0) := by unfold Sp.fresh; rw [if_neg hl, ha, if_neg hp]
      rw [h1] at hW
      rw [h2]
      have hfd : (σ.made 1 a s (vol s).toNat fun _ => 0).find ((σ.arrs.length : Int) + 1) = some ⟨1, s, rng a (vol s).toNat, false, σ.bufs.length⟩ := by
        unfold Sp.find
        rw [if_pos (by omega)]
        have : (σ.made 1 a s (vol s).toNat fun _ => 0).arrs = σ.arrs ++ [some ⟨1, s, rng a (vol s).toNat, false, σ.bufs.length⟩] := by
          show ((σ.more ⟨1, a, (vol s).toNat⟩).puts 1 a (fun _ => 0) (vol s).toNat).arrs ++ _ = _
          rw [(puts_arrs _ _ _ _ _).1]; rfl
        rw [this, show ix ((σ.arrs.length : Int) + 1) = σ.arrs.length by unfold ix; omega]
        simp [List.getD]
      refine (xmakeOfOkB p L.q1 1 ((σ.arrs.length : Int) + 1) s vv w (vol s).toNat (rng a (vol s).toNat) (R := StepQ T o w p L (σ.made 1 a s (vol s).toNat fun _ => 0)) (Q := Step XRep T o w p (σ.made 1 a s (vol s).toNat fun i => asK 1 (nth V i))) (hid hW) (hid ?_) (hid ?_)).mono ?_
      · rintro w' ⟨T', L', X', t1, t2, t3, t4, t5, t6, t7⟩
        obtain ⟨x, hA, hx⟩ := t4.som _ _ hfd
        refine ⟨x, L'.bm, _, _, _, t3.blk, look_run1 t3.map.drew t3.ent _ x hA, fun W => ?_⟩
        have := xc_cells hx W
        simp only [rng_length] at this
        exact this
      · rintro w' W vp ⟨T', L', X', t1, t2, t3, t4, t5, t6, t7⟩ k hp'
        obtain ⟨x, hA, hx⟩ := t4.som _ _ hfd
        have hrd : RdI w' vv V := hv.kp t5 (fun b e => (hvo b e).1)
        have hne : vv.ownBlock ≠ some L'.g1 := fun e => by
          have h3 := hvo _ e
          have h4 := t3.tg1
          rw [t1 _ h3.2] at h4
          exact h3.1 (by rw [h4])
        have hc := xc_writeB2 t2 t3 t4 hfd hx rfl V (by rw [hVl]; exact (rng_length _ _).symm) hV W vp vv k hp' (hrd.kp0 k) hne
        rw [t6] at hc
        refine hc.mono ?_
        rintro e w2 ⟨u, rfl, T2, u1, u2, u3⟩
        refine ⟨u, rfl, T2, fun b hb2 => (u1 b (Nat.lt_of_lt_of_le hb2 t5.size)).trans (t1 b hb2), ?_, t5.trans u3 (fun b hb2 e => by rw [t1 b hb2] at e; exact e)⟩
        have e2 := made_writes σ 1 a s (vol s).toNat (fun i => asK 1 (nth V i)) (by omega)
        rw [← e2]
        simpa [rng_length] using u2
      · rintro e w' ⟨rfl, hq⟩
        exact ⟨_, _, rfl, ⟨rfl, rfl⟩, hq⟩

theorem xc_makeOfI {T : Tags} {o : Nat} {w : World} {p : Nat} {σ : Sp} {L : XL} {X : XS} (s : List Int) (hok : σ.ok) (hX : XAt T o w p L X) (hT : Tie X (Maps.size L.D) σ) (hs : shapeB s = true) (hm : σ.arrs.length + 1 ≤ 100000000) (hb : σ.bufs.length + 1 ≤ 100000000)
    (V : List Int) (hVl : V.length = (vol s).toNat) (hV : ∀ j, IntKind.i64.wrap (nth V j) = nth V j) (vv : Value) (hv : RdI w vv V) (hvo : ∀ b, vv.ownBlock = some b → (T b).1 ≠ o ∧ b < w.heap.size) :
    Calls Tryz.prog 59 #[.pointer (some ⟨p, 0, none⟩), .int .i64 2, .iface 127 (.pointer (some ⟨L.q2, 0, none⟩)), .agg (shC s).toArray, vv] w fun e w' => ∃ a b, e = .returned (.tuple #[.int .i64 a, .int .i64 b]) ∧ ((a = (σ.fresh 2 s fun i => asK 2 (nth V i)).2.1 ∧ b = (σ.fresh 2 s fun i => asK 2 (nth V i)).2.2) ∧ Step XRep T o w p (σ.fresh 2 s fun i => asK 2 (nth V i)).1 w') := by
  have hW := xc_whole 2 s hok hX hT (by omega) hs hm hb
  have hsh := (shapeB_iff s).1 hs
  rw [inVI] at hW
  have toStep : ∀ {σ' w'}, StepQ T o w p L σ' w' → Step XRep T o w p σ' w' := fun ⟨T', L', X', h1, h2, h3, h4, h5, _⟩ => ⟨T', h1, ⟨h2, L', X', h3, h4⟩, h5⟩
  by_cases hl : 40 ≤ σ.live
  · have h1 : σ.make 2 s = (σ, 0, 7) := make_many (by omega) hs hl
    have h2 : (σ.fresh 2 s fun i => asK 2 (nth V i)) = (σ, 0, 7) := by unfold Sp.fresh; rw [if_pos hl]
    rw [h1] at hW
    rw [h2]
    refine (xmakeOf_no p 2 _ s vv w 7 (by omega) (hid (fun W k => (hW W k).mono (fun e w' ⟨h1, h2⟩ => ⟨_, h1, h2⟩)))).mono ?_
    rintro e w' ⟨rfl, hq⟩
    exact ⟨_, _, rfl, ⟨rfl, rfl⟩, toStep hq⟩
  · by_cases hp : σ.place 2 (vol s).toNat < 0
    · have h1 : σ.make 2 s = (σ, 0, 8) := by unfold Sp.make; rw [if_neg (by omega), if_neg (by simp [hs]), if_neg hl, if_pos hp]
      have h2 : (σ.fresh 2 s fun i => asK 2 (nth V i)) = (σ, 0, 8) := by unfold Sp.fresh; rw [if_neg hl, if_pos hp]
      rw [h1] at hW
      rw [h2]
      refine (xmakeOf_no p 2 _ s vv w 8 (by omega) (hid (fun W k => (hW W k).mono (fun e w' ⟨h1, h2⟩ => ⟨_, h1, h2⟩)))).mono ?_
      rintro e w' ⟨rfl, hq⟩
      exact ⟨_, _, rfl, ⟨rfl, rfl⟩, toStep hq⟩
    · obtain ⟨a, ha⟩ : ∃ a, σ.place 2 (vol s).toNat = a := ⟨_, rfl⟩
      rw [ha] at hp
      have h1 : σ.make 2 s = (σ.made 2 a s (vol s).toNat fun _ => 0, (σ.arrs.length : Int) + 1, 0) := by unfold Sp.make; rw [if_neg (by omega), if_neg (by simp [hs]), if_neg hl, ha, if_neg hp]
      have h2 : (σ.fresh 2 s fun i => asK 2 (nth V i)) = (σ.made 2 a s (vol s).toNat fun i => asK 2 (nth V i), (σ.arrs.length : Int) + 1, 0) := by unfold Sp.fresh; rw [if_neg hl, ha, if_neg hp]
      rw [h1] at hW
      rw [h2]
      have hfd : (σ.made 2 a s (vol s).toNat fun _ => 0).find ((σ.arrs.length : Int) + 1) = some ⟨2, s, rng a (vol s).toNat, false, σ.bufs.length⟩ := by
        unfold Sp.find
        rw [if_pos (by omega)]
        have : (σ.made 2 a s (vol s).toNat fun _ => 0).arrs = σ.arrs ++ [some ⟨2, s, rng a (vol s).toNat, false, σ.bufs.length⟩] := by
          show ((σ.more ⟨2, a, (vol s).toNat⟩).puts 2 a (fun _ => 0) (vol s).toNat).arrs ++ _ = _
          rw [(puts_arrs _ _ _ _ _).1]; rfl
        rw [this, show ix ((σ.arrs.length : Int) + 1) = σ.arrs.length by unfold ix; omega]
        simp [List.getD]
      refine (xmakeOfOkI p L.q2 2 ((σ.arrs.length : Int) + 1) s vv w (vol s).toNat (rng a (vol s).toNat) (R := StepQ T o w p L (σ.made 2 a s (vol s).toNat fun _ => 0)) (Q := Step XRep T o w p (σ.made 2 a s (vol s).toNat fun i => asK 2 (nth V i))) (hid hW) (hid ?_) (hid ?_)).mono ?_
      · rintro w' ⟨T', L', X', t1, t2, t3, t4, t5, t6, t7⟩
        obtain ⟨x, hA, hx⟩ := t4.som _ _ hfd
        refine ⟨x, L'.bm, _, _, _, t3.blk, look_run1 t3.map.drew t3.ent _ x hA, fun W => ?_⟩
        have := xc_cells hx W
        simp only [rng_length] at this
        exact this
      · rintro w' W vp ⟨T', L', X', t1, t2, t3, t4, t5, t6, t7⟩ k hp'
        obtain ⟨x, hA, hx⟩ := t4.som _ _ hfd
        have hrd : RdI w' vv V := hv.kp t5 (fun b e => (hvo b e).1)
        have hne : vv.ownBlock ≠ some L'.g2 := fun e => by
          have h3 := hvo _ e
          have h4 := t3.tg2
          rw [t1 _ h3.2] at h4
          exact h3.1 (by rw [h4])
        have hc := xc_writeI2 t2 t3 t4 hfd hx rfl V (by rw [hVl]; exact (rng_length _ _).symm) hV W vp vv k hp' (hrd.kp0 k) hne
        rw [t7] at hc
        refine hc.mono ?_
        rintro e w2 ⟨u, rfl, T2, u1, u2, u3⟩
        refine ⟨u, rfl, T2, fun b hb2 => (u1 b (Nat.lt_of_lt_of_le hb2 t5.size)).trans (t1 b hb2), ?_, t5.trans u3 (fun b hb2 e => by rw [t1 b hb2] at e; exact e)⟩
        have e2 := made_writes σ 2 a s (vol s).toNat (fun i => asK 2 (nth V i)) (by omega)
        rw [← e2]
        simpa [rng_length] using u2
      · rintro e w' ⟨rfl, hq⟩
        exact ⟨_, _, rfl, ⟨rfl, rfl⟩, hq⟩

end Go.Proofs.YticbbncdcannlaaGreat

/- Views of one array: what is left when some of them are freed. No program. -/
namespace Go.Proofs.YticbbncdcannlaaGreat

/-- Behind a space of a cast: those that D names are freed, c of them. -/
structure FI (σ σ' : Sp) (E : List CE) (D : Nat → Prop) (c : Nat) : Prop where
  gone : ∀ (q : Nat) (e : CE), E[q]? = some e → D q → σ'.find e.h = none
  stay : ∀ (q : Nat) (e : CE), E[q]? = some e → ¬ D q → σ'.find e.h = some e.arr
  live : σ'.live + c = E.length
  one : ∀ (i : Nat) (a : Arr), σ'.arrs[i]? = some (some a) → a.buf = 0
  bufs : σ'.bufs = σ.bufs
  vals : σ'.v2 = σ.v2
  cap : σ'.n2 = σ.n2
  len : σ'.arrs.length = σ.arrs.length

section
variable {σ σ' : Sp} {E : List CE} {n : Nat} {V : List Int} {B : Nat} {D : Nat → Prop} {c : Nat}

theorem KM.fi (h : KM σ E n V B) : FI σ σ E (fun _ => False) 0 :=
  ⟨fun _ _ _ e => e.elim, fun _ _ he _ => h.find he, by rw [h.live]; rfl, h.one, rfl, rfl, rfl, rfl⟩

theorem KM.apart (h : KM σ E n V B) {i j : Nat} {e f : CE} (he : E[i]? = some e) (hf : E[j]? = some f) (hij : i ≠ j) : e.h ≠ f.h := by
  rcases Nat.lt_or_ge i j with h1 | h1
  · have := h.inc i j e f h1 he hf; omega
  · have := h.inc j i f e (by omega) hf he; omega

/-- One more is freed. -/
theorem FI.free (h : KM σ E n V B) (hF : FI σ σ' E D c) {q : Nat} {e : CE} (he : E[q]? = some e) (hD : ¬ D q) : (σ'.free e.h).2 = 0 ∧ FI σ (σ'.free e.h).1 E (fun i => D i ∨ i = q) (c + 1) := by
  have hf := hF.stay q e he hD
  obtain ⟨h1, h2⟩ := find_get hf
  have hfr : σ'.free e.h = ({ σ' with arrs := σ'.arrs.set (ix e.h) none }, 0) := by
    unfold Sp.free
    rw [hf]
  have hw : ∀ d, (σ'.free e.h).1.find d = if d = e.h then none else σ'.find d := fun d => by
    rw [hfr]
    exact without_find hf d
  refine ⟨by rw [hfr], fun i f hi hd => ?_, fun i f hi hd => ?_, ?_, fun i a ha => ?_, by rw [hfr]; exact hF.bufs, by rw [hfr]; exact hF.vals, by rw [hfr]; exact hF.cap, by rw [hfr]; simp; exact hF.len⟩
  · rw [hw]
    by_cases hq : i = q
    · subst hq
      rw [he] at hi
      cases hi
      rw [if_pos rfl]
    · rw [if_neg (h.apart hi he hq)]
      exact hF.gone i f hi (hd.resolve_right hq)
  · rw [hw, if_neg (h.apart hi he (fun e' => hd (.inr e')))]
    exact hF.stay i f hi (fun e' => hd (.inl e'))
  · have := filter_set_none σ'.arrs (ix e.h) e.arr h2
    have hl := hF.live
    rw [hfr]
    unfold Sp.live at hl ⊢
    simp only
    omega
  · rw [hfr] at ha
    simp only at ha
    rw [List.getElem?_set] at ha
    split at ha
    · split at ha <;> simp at ha
    · exact hF.one i a ha

theorem FI.same (hF : FI σ σ' E D c) {D' : Nat → Prop} (h : ∀ q, q < E.length → (D q ↔ D' q)) : FI σ σ' E D' c :=
  { hF with
    gone := fun q e he hd => hF.gone q e he ((h q (List.getElem?_eq_some_iff.1 he).1).2 hd)
    stay := fun q e he hd => hF.stay q e he (fun e' => hd ((h q (List.getElem?_eq_some_iff.1 he).1).1 e')) }

theorem FI.none (hF : FI σ σ' E D c) {q : Nat} {e : CE} (he : E[q]? = some e) (hD : D q) : σ'.values e.h = ([], 2) ∧ σ'.free e.h = (σ', 2) := by
  have := hF.gone q e he hD
  constructor
  · unfold Sp.values; rw [this]
  · unfold Sp.free; rw [this]

theorem FI.told (h : KM σ E n V B) (hF : FI σ σ' E D c) {q : Nat} {e : CE} (he : E[q]? = some e) (hD : ¬ D q) : σ'.values e.h = (e.told V, 0) := by
  have hf := hF.stay q e he hD
  unfold Sp.values
  rw [hf]
  simp only
  congr 1
  rw [← h.told he]
  unfold Sp.valuesOf
  show List.map (fun c => nth (σ'.vals 2) c.toNat) e.ranks = List.map (fun c => nth (σ.vals 2) c.toNat) e.ranks
  rw [show σ'.vals 2 = σ.vals 2 from hF.vals]

theorem cnt_to (n m : Nat) (t : Int → Bool) (ht : ∀ c : Nat, t c = decide (c < n)) : cntTo t m = min m n ∧ topTo t m = min m n := by
  induction m with
  | zero => simp [cntTo, topTo]
  | succ m ih =>
    rw [cntTo, topTo, ht m, ih.1, ih.2]
    by_cases h : m < n
    · simp [h]; omega
    · simp [h]; omega

theorem FI.usedNo (hF : FI σ σ' E D c) (i : Nat) (hi : i ≠ 0) : σ'.used i = false := by
  cases hu : σ'.used i with
  | false => rfl
  | true =>
    obtain ⟨d, y, h1, h2⟩ := (used_iff σ' i).1 hu
    have := hF.one _ _ (find_get h1).2
    omega

theorem FI.store (h : KM σ E n V B) (hF : FI σ σ' E D c) (b : Bool) (hb : σ'.used 0 = b) : σ'.store 2 = (2000, if b = true then (n : Int) else 0, if b = true then (n : Int) else 0, 0) := by
  have hcap : σ'.cap 2 = 2000 := by show σ'.n2 = 2000; rw [hF.cap]; exact h.cap
  have hbuf : σ'.bufs[0]? = some ⟨2, 0, n⟩ := by rw [hF.bufs]; exact h.buf
  have hb0 : 0 < σ'.bufs.length := (List.getElem?_eq_some_iff.1 hbuf).1
  have ht : ∀ c : Nat, σ'.taken 2 c = decide (c < if b = true then n else 0) := fun c => by
    unfold Sp.taken takenTo
    rw [Bool.eq_iff_iff, List.any_eq_true]
    constructor
    · rintro ⟨i, hi, h1⟩
      by_cases h0 : i = 0
      · subst h0
        rw [hbuf, hb] at h1
        cases b
        · simp at h1
        · simp at h1 ⊢
          omega
      · rw [hF.usedNo i h0] at h1
        split at h1 <;> simp at h1
    · intro h1
      cases b
      · simp at h1
      · refine ⟨0, List.mem_range.2 hb0, ?_⟩
        rw [hbuf, hb]
        simp at h1 ⊢
        omega
  have hc := cnt_to (if b = true then n else 0) 2000 (σ'.taken 2) ht
  have hn := h.n2
  unfold Sp.store
  rw [if_neg (by omega), hcap, hc.1, hc.2]
  cases b
  · simp
  · simp; omega

theorem FI.used (hF : FI σ σ' E D c) {q : Nat} {e : CE} (he : E[q]? = some e) (hD : ¬ D q) : σ'.used 0 = true := (used_iff σ' 0).2 ⟨e.h, e.arr, hF.stay q e he hD, rfl⟩

theorem FI.unused (hF : FI σ σ' E D c) (hc : c = E.length) (i : Nat) : σ'.used i = false := by
  cases hu : σ'.used i with
  | false => rfl
  | true =>
    obtain ⟨d, y, h1, h2⟩ := (used_iff σ' i).1 hu
    have hl := hF.live
    have h3 := (find_get h1).2
    have : 0 < σ'.live := by
      unfold Sp.live
      refine List.length_pos_iff.2 (fun e => ?_)
      have : some y ∈ σ'.arrs.filter Option.isSome := List.mem_filter.2 ⟨List.mem_of_getElem? h3, rfl⟩
      rw [e] at this
      simp at this
    omega

/-- Then all can be made anew. -/
theorem FI.anew (h : KM σ E n V B) (hF : FI σ σ' E D c) (hc : c = E.length) : (σ'.make 2 [40, 50]).2 = ((σ.arrs.length : Int) + 1, 0) := by
  have ht : ∀ c, σ'.taken 2 c = false := fun c => by
    unfold Sp.taken takenTo
    rw [← Bool.not_eq_true, List.any_eq_true]
    rintro ⟨i, hi, h1⟩
    rw [hF.unused hc i] at h1
    split at h1 <;> simp at h1
  have hcap : σ'.cap 2 = 2000 := by show σ'.n2 = 2000; rw [hF.cap]; exact h.cap
  have hp : σ'.place 2 2000 = 0 := by
    have := placeIn_is (σ'.taken 2) 2000 (by omega) 0 (fun c _ _ => ht c) (fun s' h => by omega) (σ'.cap 2) 0 (by omega) (by rw [hcap]; omega)
    simpa [Sp.place] using this
  have hl : ¬ 40 ≤ σ'.live := by have := hF.live; omega
  unfold Sp.make
  rw [if_neg (by omega), if_neg (by decide), if_neg hl, show (vol [40, 50]).toNat = 2000 from rfl, hp, if_neg (by omega)]
  rw [hF.len]

end

end Go.Proofs.YticbbncdcannlaaGreat
