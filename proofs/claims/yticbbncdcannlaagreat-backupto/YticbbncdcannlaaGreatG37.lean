/- The program's space, walked: Stretch. -/
import Derived.Test.YticbbncdcannlaaGreatG33
import Derived.Test.YticbbncdcannlaaGreatG32
import Derived.Test.YticbbncdcannlaaGreatG13
import Derived.Test.YticbbncdcannlaaGreatG34
import Derived.Deep.RegionLaw
import Derived.BigRegion
import Derived.Test.YticbbncdcannlaaGreatG35

namespace Go.Proofs.YticbbncdcannlaaGreat
open Go.RowKit Go.Maps Go.ChangeMaps Go.MapKept

set_option maxRecDepth 100000 in
set_option maxHeartbeats 1000000 in
theorem xStretch_none {T : Tags} {o : Nat} {w : World} {p : Nat} {L : XL} {X : XS} (h : XAt T o w p L X) (hd : Int) (va : Value) (hA : X.A hd = none) :
    Calls Tryz.prog 83 #[.pointer (some ⟨p, 0, none⟩), .int .i64 hd, va] w fun e w' => e = .returned (.tuple #[.int .i64 0, .int .i64 2]) ∧ Kp0 w w' := by
  have HF := hid (xfind_none h hd hA)
  unfold xaZ at HF
  clear h hA
  go_enter Tryz.func83, Tryz.ntmps83
  go_wp2_with fail
  refine HF.out.mono ?_
  rintro e w2 ⟨rfl, hw⟩
  have HK := hid hw
  clear hw
  go_wp2
  go_ret2
  exact ⟨rfl, HK.out.alloc _⟩

set_option maxRecDepth 100000 in
set_option maxHeartbeats 1000000 in
theorem xStretch_shape {T : Tags} {o : Nat} {w : World} {p : Nat} {L : XL} {X : XS} (h : XAt T o w p L X) (hd : Int) (va : Value) (x : XA) (hA : X.A hd = some x) (hk : x.kind = 1 ∨ x.kind = 2)
    (HG : Hid (∀ W, Kp0 w W → Calls Tryz.prog 56 #[va] W fun e w' => e = .returned (.tuple #[.agg (shC []).toArray, .bool false]) ∧ Kp0 W w')) :
    Calls Tryz.prog 83 #[.pointer (some ⟨p, 0, none⟩), .int .i64 hd, va] w fun e w' => e = .returned (.tuple #[.int .i64 0, .int .i64 4]) ∧ Kp0 w w' := by
  have HF := hid (xfind_some h hd x hA hk)
  generalize L.inV x.kind = I at *
  unfold XA.cs at HF
  unfold shC at HG
  generalize x.l.length = n at *
  clear h hA hk
  go_enter Tryz.func83, Tryz.ntmps83
  go_wp2_with fail
  refine HF.out.mono ?_
  rintro e w2 ⟨rfl, hw⟩
  have HK := hid hw
  clear hw
  go_wp2_with fail
  refine (HG.out _ (HK.out.alloc _)).mono ?_
  rintro e w3 ⟨rfl, hw⟩
  have HK3 : Hid (Kp0 w w3) := Kp0.trans (HK.out.alloc _) hw
  clear hw
  go_wp2
  go_ret2
  exact ⟨rfl, HK3.out.alloc _⟩

set_option maxRecDepth 100000 in
set_option maxHeartbeats 2000000 in
theorem xStretch_no {T : Tags} {o : Nat} {w : World} {p : Nat} {L : XL} {X : XS} (h : XAt T o w p L X) (hd : Int) (va : Value) (x : XA) (s : List Int) (hA : X.A hd = some x) (hk : x.kind = 1 ∨ x.kind = 2)
    (HS : Hid (∀ W, Kp0 w W → Calls Tryz.prog 56 #[va] W fun e w' => e = .returned (.tuple #[.agg (shC s).toArray, .bool true]) ∧ Kp0 W w'))
    (HG : Hid (∀ W, Kp0 w W → Calls Tryz.prog 127 #[.agg (grC x.l x.t x.f).toArray, .agg (shC s).toArray] W fun e w' => e = .returned (.tuple #[.agg zG, .bool false]) ∧ Kp0 W w')) :
    Calls Tryz.prog 83 #[.pointer (some ⟨p, 0, none⟩), .int .i64 hd, va] w fun e w' => e = .returned (.tuple #[.int .i64 0, .int .i64 4]) ∧ Kp0 w w' := by
  have HF := hid (xfind_some h hd x hA hk)
  generalize L.inV x.kind = I at *
  unfold XA.cs at HF
  unfold shC at HS HG
  unfold grC zG at HG
  generalize x.l.length = n at *
  generalize s.length = m at *
  clear h hA hk
  go_enter Tryz.func83, Tryz.ntmps83
  go_wp2_with fail
  refine HF.out.mono ?_
  rintro e w2 ⟨rfl, hw⟩
  have HK := hid hw
  have HB2 : Hid ((w2.alloc (.cells #[.int .i64 x.kind, .int .i64 x.buf, .int .i64 (nth x.l 0), .int .i64 (nth x.l 1), .int .i64 (nth x.l 2), .int .i64 (nth x.l 3), .int .i64 (n : Int), .int .i64 x.f, .int .i64 (nth x.t 0), .int .i64 (nth x.t 1), .int .i64 (nth x.t 2), .int .i64 (nth x.t 3), .bool x.ro] 109)).heap[w2.heap.size]? = some (.cells #[.int .i64 x.kind, .int .i64 x.buf, .int .i64 (nth x.l 0), .int .i64 (nth x.l 1), .int .i64 (nth x.l 2), .int .i64 (nth x.l 3), .int .i64 (n : Int), .int .i64 x.f, .int .i64 (nth x.t 0), .int .i64 (nth x.t 1), .int .i64 (nth x.t 2), .int .i64 (nth x.t 3), .bool x.ro] 109 (0, 0))) := heap_alloc_new w2 _
  clear hw
  go_wp2_with fail
  refine (HS.out _ (HK.out.alloc _)).mono ?_
  rintro e w3 ⟨rfl, hw⟩
  have HB3 := hid (hw.heap HB2.out)
  have HK3 : Hid (Kp0 w w3) := Kp0.trans (HK.out.alloc _) hw
  have hlt : w2.heap.size < w3.heap.size := lt_of_heap HB3.out
  clear hw HB2
  generalize w2.heap.size = b0 at *
  obtain ⟨y0, y1, y2, y3, y4, y5, y6, y7, y8, y9, y10, y11, y12⟩ := cells13 HB3.out
  go_wp2_with fail
  refine (HG.out _ (HK3.out.alloc _)).mono ?_
  rintro e w4 ⟨rfl, hw⟩
  have HK4 : Hid (Kp0 w w4) := Kp0.trans (HK3.out.alloc _) hw
  clear hw
  go_wp2
  go_ret2
  exact ⟨rfl, HK4.out.alloc _⟩

set_option maxRecDepth 100000 in
set_option maxHeartbeats 4000000 in
theorem xStretch_yes {T : Tags} {o : Nat} {w : World} {p : Nat} {L : XL} {X : XS} (h : XAt T o w p L X) (hd : Int) (va : Value) (x : XA) (s : List Int) (hA : X.A hd = some x) (hk : x.kind = 1 ∨ x.kind = 2) (l t : List Int) (f : Int) {R : Int → Int → World → Prop}
    (HS : Hid (∀ W, Kp0 w W → Calls Tryz.prog 56 #[va] W fun e w' => e = .returned (.tuple #[.agg (shC s).toArray, .bool true]) ∧ Kp0 W w'))
    (HG : Hid (∀ W, Kp0 w W → Calls Tryz.prog 127 #[.agg (grC x.l x.t x.f).toArray, .agg (shC s).toArray] W fun e w' => e = .returned (.tuple #[.agg (grC l t f).toArray, .bool true]) ∧ Kp0 W w'))
    (HV : Hid (∀ W, Kp0 w W → Calls Tryz.prog 54 #[.pointer (some ⟨p, 0, none⟩), .agg ({ x with ro := true } : XA).cs, .agg (grC l t f).toArray] W fun e w' => ∃ a b, e = .returned (.tuple #[.int .i64 a, .int .i64 b]) ∧ R a b w')) :
    Calls Tryz.prog 83 #[.pointer (some ⟨p, 0, none⟩), .int .i64 hd, va] w fun e w' => ∃ a b, e = .returned (.tuple #[.int .i64 a, .int .i64 b]) ∧ R a b w' := by
  have HF := hid (xfind_some h hd x hA hk)
  generalize L.inV x.kind = I at *
  unfold XA.cs at HF HV
  unfold shC at HS HG
  unfold grC at HG HV
  simp only at HV
  generalize x.l.length = n at *
  generalize s.length = m at *
  generalize l.length = m2 at *
  clear h hA hk
  go_enter Tryz.func83, Tryz.ntmps83
  go_wp2_with fail
  refine HF.out.mono ?_
  rintro e w2 ⟨rfl, hw⟩
  have HK := hid hw
  have HB2 : Hid ((w2.alloc (.cells #[.int .i64 x.kind, .int .i64 x.buf, .int .i64 (nth x.l 0), .int .i64 (nth x.l 1), .int .i64 (nth x.l 2), .int .i64 (nth x.l 3), .int .i64 (n : Int), .int .i64 x.f, .int .i64 (nth x.t 0), .int .i64 (nth x.t 1), .int .i64 (nth x.t 2), .int .i64 (nth x.t 3), .bool x.ro] 109)).heap[w2.heap.size]? = some (.cells #[.int .i64 x.kind, .int .i64 x.buf, .int .i64 (nth x.l 0), .int .i64 (nth x.l 1), .int .i64 (nth x.l 2), .int .i64 (nth x.l 3), .int .i64 (n : Int), .int .i64 x.f, .int .i64 (nth x.t 0), .int .i64 (nth x.t 1), .int .i64 (nth x.t 2), .int .i64 (nth x.t 3), .bool x.ro] 109 (0, 0))) := heap_alloc_new w2 _
  have HSZ : Hid (w.heap.size ≤ w2.heap.size) := hid hw.size
  clear hw
  go_wp2_with fail
  refine (HS.out _ (HK.out.alloc _)).mono ?_
  rintro e w3 ⟨rfl, hw⟩
  have HB3 := hid (hw.heap HB2.out)
  have HK3 : Hid (Kp0 w w3) := Kp0.trans (HK.out.alloc _) hw
  have hlt : w2.heap.size < w3.heap.size := lt_of_heap HB3.out
  clear hw HB2
  generalize w2.heap.size = b0 at *
  obtain ⟨y0, y1, y2, y3, y4, y5, y6, y7, y8, y9, y10, y11, y12⟩ := cells13 HB3.out
  go_wp2_with fail
  refine (HG.out _ (HK3.out.alloc _)).mono ?_
  rintro e w4 ⟨rfl, hw⟩
  have HB4 := hid (hw.heap (heap_alloc_keeps HB3.out _))
  have HK4 : Hid (Kp0 w w4) := Kp0.trans (HK3.out.alloc _) hw
  have hlt4 : b0 < w4.heap.size := lt_of_heap HB4.out
  clear hw y0 y1 y2 y3 y4 y5 y6 y7 y8 y9 y10 y11 y12 HB3 HK3
  have HKS : Hid (∀ O : Obj, Kp0 w ((w4.setCell ⟨b0, 12, none⟩ (.bool true)).alloc O)) := hid (fun O => Kp.alloc (Kp.setCell HK4.out ⟨b0, 12, none⟩ _ (fun h => by have := HSZ.out; change b0 < _ at h; omega)) O)
  obtain ⟨z0, z1, z2, z3, z4, z5, z6, z7, z8, z9, z10, z11, z12⟩ := cells13 HB4.out
  have f12 := frozen_of_row _ b0 12 _ _ HB4.out
  go_wp2_with fail
  refine (HV.out _ (HKS.out _)).mono ?_
  rintro e w5 ⟨a, b, rfl, hR⟩
  have HR := hid hR
  clear hR
  go_wp2
  go_ret2
  exact ⟨a, b, rfl, HR.out⟩

theorem xc_stretch {T : Tags} {o : Nat} {w : World} {p : Nat} {σ : Sp} (h : Int) (va : Value) (s : List Int) (hr : RdI w va s) (hR : XRep T o w p σ) (hm : σ.arrs.length + 1 ≤ 100000000) :
    Calls Tryz.prog 83 #[.pointer (some ⟨p, 0, none⟩), .int .i64 h, va] w fun e w' => e = .returned (.tuple #[.int .i64 (σ.stretch h s).2.1, .int .i64 (σ.stretch h s).2.2]) ∧ Step XRep T o w p (σ.stretch h s).1 w' := by
  have hR' := hR
  obtain ⟨hok, L, X, hX, hT⟩ := hR
  cases hf : σ.find h with
  | none =>
    have hres : σ.stretch h s = (σ, 0, 2) := by simp [Sp.stretch, hf]
    rw [hres]
    refine (xStretch_none hX h va (hT.non h hf)).mono ?_
    rintro e w' ⟨rfl, hk⟩
    exact ⟨rfl, hR'.stay hk⟩
  | some a =>
    obtain ⟨x, hA, hx⟩ := hT.som h a hf
    have ha := kind_of hok hf
    have hkd : x.kind = 1 ∨ x.kind = 2 := by rw [hx.kind]; exact ha.kind
    have hl := hx.l
    cases hsb : shapeB s with
    | false =>
      have hres : σ.stretch h s = (σ, 0, 4) := by simp [Sp.stretch, hf, hsb]
      rw [hres]
      refine (xStretch_shape hX h va x hA hkd (hid (fun W k => by have := xshape_calls va s W (hr.kp0 k); rw [hsb] at this; exact this))).mono ?_
      rintro e w' ⟨rfl, hk⟩
      exact ⟨rfl, hR'.stay hk⟩
    | true =>
      have hs : okShape s := (shapeB_iff s).1 hsb
      have HS : Hid (∀ W, Kp0 w W → Calls Tryz.prog 56 #[va] W fun e w' => e = .returned (.tuple #[.agg (shC s).toArray, .bool true]) ∧ Kp0 W w') := hid (fun W k => by have := xshape_calls va s W (hr.kp0 k); rw [hsb] at this; exact this)
      cases hst : stretchB a.shape s with
      | false =>
        have hres : σ.stretch h s = (σ, 0, 4) := by simp [Sp.stretch, hf, hsb, hst]
        rw [hres]
        refine (xStretch_no hX h va x s hA hkd HS (hid (fun W _ => (xgstr_calls x.l x.t s x.f W hx.g.shape.1 hs.1).mono ?_))).mono ?_
        · rintro e w' ⟨h1 | h1, hk⟩
          · rw [hl, hst] at h1; exact absurd h1.1 (by simp)
          · exact ⟨h1.2, hk⟩
        · rintro e w' ⟨rfl, hk⟩
          exact ⟨rfl, hR'.stay hk⟩
      | true =>
        have hres : σ.stretch h s = σ.derive a s (meant a.shape s) true := by simp [Sp.stretch, hf, hsb, hst]
        obtain ⟨f1, f2⟩ := (stretchB_iff _ _).1 hst
        have hV := xc_view hok hX hT hf hx s (strT a.shape x.t s) x.f hs (by unfold strT; rw [mkL_length]; exact Nat.le_refl _) (fun k hk hk1 => by
            have hg := (str_okB (hl ▸ hx.g : GOk a.shape x.t x.f _) hs hst).unit
            exact hg k hk hk1) (meantOf a.shape s) (fun i hi => meantOf_in a.shape s i ha.shape.2.1 f1 f2 hi) (fun i hi => by
            rw [str_dot f1 (by rw [← hl]; exact hx.g.unit) ha.shape.2.1 i]) true { x with ro := true } (by simp) hm _ hres
        have hG : Hid (∀ W, Kp0 w W → Calls Tryz.prog 127 #[.agg (grC x.l x.t x.f).toArray, .agg (shC s).toArray] W fun e w' => e = .returned (.tuple #[.agg (grC s (strT a.shape x.t s) x.f).toArray, .bool true]) ∧ Kp0 W w') := hid (fun W _ => (xgstr_calls x.l x.t s x.f W hx.g.shape.1 hs.1).mono (by
          rintro e w' ⟨h1 | h1, hk⟩
          · rw [hl] at h1; exact ⟨h1.2, hk⟩
          · rw [hl, hst] at h1; exact absurd h1.1 (by simp)))
        refine (xStretch_yes hX h va x s hA hkd _ _ _ HS hG (hid hV)).mono ?_
        rintro e w' ⟨r1, r2, rfl, ⟨rfl, rfl⟩, hst⟩
        exact ⟨rfl, hst⟩

end Go.Proofs.YticbbncdcannlaaGreat

/- The program's space, walked: makeOf where nothing is made; a look-up of an array that is there. -/
namespace Go.Proofs.YticbbncdcannlaaGreat
open Go.RowKit Go.Maps Go.ChangeMaps Go.MapKept

/-- A call of a Go function of five arguments, by its contract, as a step of a region that draws. -/
theorem step_call5 {P : Program} {ops : Array Oper} {o : Oper} {a : Act} {w : World} {K : Act → World → Prop} {Q : Exit → Act → World → Prop} {E : Prop} (hgd : o.guard = none) (f : FuncId) (x y z u t : Operand) (ts : Array TypeId)
    (ho : o.op = .call { callee := .value (.func f), args := #[x, y, z, u, t], argTypes := ts }) (fn : Func) (hf : P.funcs[f]? = some fn) (hname : (fn.name == "runtime.NumGoroutine") = false) (hb : fn.body.isSome = true) (vx vy vz vu vt : Value) (hx : a.eval x = vx) (hy : a.eval y = vy) (hz : a.eval z = vz) (hu : a.eval u = vu) (ht : a.eval t = vt) {R : Value → World → Prop}
    (hc : Calls P f #[vx, vy, vz, vu, vt] w fun e w' => ∃ v, e = .returned v ∧ R v w') (h : ∀ v w', R v w' → K (a.put o.dst v) w') :
    if Region.wanted o (yielded ops a.tmps) = true then Oper.wp P o a w K Q else E := by
  have hw : Region.wanted o (yielded ops a.tmps) = true := by simp [Region.wanted, hgd]
  rw [if_pos hw]
  have hr := run_callFunc_body (P := P) hf hname hb
  have hev : a.eval (.func f) = .func (.func f) #[] #[] := rfl
  unfold Oper.wp execOp
  simp [ho, resolve, hev, Deferred.ofValue, invoke, hx, hy, hz, hu, ht, hr, Oper.upon]
  refine hc.mono ?_
  rintro e w' ⟨v, rfl, hR⟩
  exact h v w' hR

theorem look_run1 {w : World} {b n : Nat} {D : DataW Value} {A : Int → Option XA} (h : w.ownsMap Tryz.prog 3 elemR b n D) (hm : XMap D A) (a : Int) (x : XA) (hA : A a = some x) :
    (Instr.lookup 128 (.map (some b)) (.int .i64 a) false).run Tryz.prog w = .ok (.agg x.cs) w := by
  obtain ⟨hw, h1, h2⟩ := hm.som a x hA
  obtain ⟨v, ps, hrun, hv⟩ := h.lookup (e := 109) Tryz.lawInt Tryz.underlying128 (Tryz.zeroArr w) (zd := .held (.agg xaZ)) (zp := []) rfl (keyOf_int_mk Tryz.underlying3 hw)
  rw [hrun]
  simp only [elemR, Option.some.injEq, Prod.mk.injEq] at hv
  rw [h2] at hv
  have : v = .agg x.cs := by injection hv.1
  rw [this]

theorem Tryz.fieldGrid (c0 c1 c2 c3 c4 c5 c6 c7 c8 c9 c10 c11 c12 : Value) (W : World) : (Instr.field 109 (.agg #[c0, c1, c2, c3, c4, c5, c6, c7, c8, c9, c10, c11, c12]) 2).run Tryz.prog W = .ok (.agg #[c2, c3, c4, c5, c6, c7, c8, c9, c10, c11]) W := by kernel_rfl

set_option maxRecDepth 100000 in
set_option maxHeartbeats 1000000 in
theorem xmakeOf_no (p : Nat) (kind : Int) (I : Value) (s : List Int) (vv : Value) (w : World) (er : Int) (he : er ≠ 0) {R : World → Prop}
    (HW : Hid (∀ W, Kp0 w W → Calls Tryz.prog 63 #[.pointer (some ⟨p, 0, none⟩), .int .i64 kind, I, .agg (shC s).toArray] W fun e w' => ∃ a, e = .returned (.tuple #[.int .i64 a, .int .i64 er]) ∧ R w')) :
    Calls Tryz.prog 59 #[.pointer (some ⟨p, 0, none⟩), .int .i64 kind, I, .agg (shC s).toArray, vv] w fun e w' => e = .returned (.tuple #[.int .i64 0, .int .i64 er]) ∧ R w' := by
  have d1 : (er != 0) = true := by simp [he]
  unfold shC at HW ⊢
  generalize s.length = m at *
  clear he
  go_enter Tryz.func59, Tryz.ntmps59
  go_wp2_with fail
  refine (HW.out _ ((Kp.refl _ w).alloc _)).mono ?_
  rintro e w2 ⟨a, rfl, hR⟩
  have HR := hid hR
  clear hR
  go_wp2
  go_ret2
  exact ⟨rfl, HR.out⟩

end Go.Proofs.YticbbncdcannlaaGreat

/- The program's space at uint8, walked: makeOf. -/
namespace Go.Proofs.YticbbncdcannlaaGreat
open Go.RowKit Go.Maps Go.ChangeMaps Go.MapKept

set_option maxRecDepth 100000 in
set_option maxHeartbeats 4000000 in
theorem xmakeOfOkB (p q : Nat) (kind hn : Int) (s : List Int) (vv : Value) (w : World) (mc : Nat) (P : List Int) {R Q : World → Prop}
    (HW : Hid (∀ W, Kp0 w W → Calls Tryz.prog 63 #[.pointer (some ⟨p, 0, none⟩), .int .i64 kind, .iface 126 (.pointer (some ⟨q, 0, none⟩)), .agg (shC s).toArray] W fun e w' => e = .returned (.tuple #[.int .i64 hn, .int .i64 0]) ∧ R w'))
    (HL : Hid (∀ w', R w' → ∃ (x : XA) (bm : Nat) (c0 c1 c3 : Value), w'.heap[p]? = some (.cells #[c0, c1, .map (some bm), c3] 130 (0, 0)) ∧ (Instr.lookup 128 (.map (some bm)) (.int .i64 hn) false).run Tryz.prog w'.drew = .ok (.agg x.cs) w'.drew ∧ ∀ W, Calls Tryz.prog 60 #[.agg (grC x.l x.t x.f).toArray] W fun e w' => ∃ ao c, e = .returned (.slice ao mc c) ∧ Kp0 W w' ∧ Fr W.heap.size w' (.slice ao mc c) P))
    (HX : Hid (∀ w' W vp, R w' → Kp0 w' W → Fr w'.heap.size W vp P → Calls Tryz.prog 198 #[.pointer (some ⟨q, 0, none⟩), vp, vv] W fun e w2 => ∃ u, e = .returned u ∧ Q w2)) :
    Calls Tryz.prog 59 #[.pointer (some ⟨p, 0, none⟩), .int .i64 kind, .iface 126 (.pointer (some ⟨q, 0, none⟩)), .agg (shC s).toArray, vv] w fun e w' => e = .returned (.tuple #[.int .i64 hn, .int .i64 0]) ∧ Q w' := by
  unfold shC at HW ⊢
  generalize s.length = m at *
  have HMR := hid (Tryz.mWriteB ⟨q, 0, none⟩)
  have hna := Tryz.nWriteB ⟨q, 0, none⟩
  go_enter Tryz.func59, Tryz.ntmps59
  go_wp2_with fail
  refine (HW.out _ ((Kp.refl _ w).alloc _)).mono ?_
  rintro e w2 ⟨rfl, hR⟩
  have HR := hid hR
  obtain ⟨x, bm, c0, c1, c3, hb, hlk, hC⟩ := HL.out w2 hR
  have HC2 : Hid (∀ W, Calls Tryz.prog 60 #[.agg (grC x.l x.t x.f).toArray] W fun e w' => ∃ v, e = .returned v ∧ ∃ ao c, v = .slice ao mc c ∧ Kp0 W w' ∧ Fr W.heap.size w' (.slice ao mc c) P) := hid (fun W => (hC W).mono (fun e w' ⟨ao, c, h1, h2, h3⟩ => ⟨_, h1, ao, c, rfl, h2, h3⟩))
  unfold XA.cs at hlk
  unfold grC at HC2
  clear hC
  generalize x.l.length = n at *
  have y2 : w2.cell? ⟨p, 2, none⟩ = some (.map (some bm)) := cell_of_row _ p 2 _ _ _ hb
  have hfd := Tryz.fieldGrid (.int .i64 x.kind) (.int .i64 x.buf) (.int .i64 (nth x.l 0)) (.int .i64 (nth x.l 1)) (.int .i64 (nth x.l 2)) (.int .i64 (nth x.l 3)) (.int .i64 (n : Int)) (.int .i64 x.f) (.int .i64 (nth x.t 0)) (.int .i64 (nth x.t 1)) (.int .i64 (nth x.t 2)) (.int .i64 (nth x.t 3)) (.bool x.ro)
  clear hR hb HL HW
  go_wp2
  go_region_law ((first
    | (refine step_call1 (by rfl) 60 (.tmp 32) _ (by rfl) _ Tryz.func60 (by kernel_rfl) (by kernel_rfl) _ (by rfl) (HC2.out _) ?_; intro v7 w7 hR7; obtain ⟨ao, c7, rfl, hk7, hf7⟩ := hR7)
    | (refine step_invoke2 (by rfl) (.tmp 37) "Write" (.tmp 33) (.tmp 34) _ (by rfl) _ (.slice ao mc c7) vv (by rfl) (by rfl) (by rfl) _ _ (HMR.out _ _ _) (HX.out _ _ _ HR.out (Kp0.trans (Kp0.refl w2).drew hk7) hf7) ?_; intro v8 w8 hR8)))
  all_goals
    have HR8 := hid hR8
    clear hR8 hk7 hf7
    go_wp2
    go_ret2
    exact ⟨rfl, HR8.out⟩

end Go.Proofs.YticbbncdcannlaaGreat

/- The program's space at int64, walked: makeOf. -/
namespace Go.Proofs.YticbbncdcannlaaGreat
open Go.RowKit Go.Maps Go.ChangeMaps Go.MapKept

set_option maxRecDepth 100000 in
set_option maxHeartbeats 4000000 in
theorem xmakeOfOkI (p q : Nat) (kind hn : Int) (s : List Int) (vv : Value) (w : World) (mc : Nat) (P : List Int) {R Q : World → Prop}
    (HW : Hid (∀ W, Kp0 w W → Calls Tryz.prog 63 #[.pointer (some ⟨p, 0, none⟩), .int .i64 kind, .iface 127 (.pointer (some ⟨q, 0, none⟩)), .agg (shC s).toArray] W fun e w' => e = .returned (.tuple #[.int .i64 hn, .int .i64 0]) ∧ R w'))
    (HL : Hid (∀ w', R w' → ∃ (x : XA) (bm : Nat) (c0 c1 c3 : Value), w'.heap[p]? = some (.cells #[c0, c1, .map (some bm), c3] 130 (0, 0)) ∧ (Instr.lookup 128 (.map (some bm)) (.int .i64 hn) false).run Tryz.prog w'.drew = .ok (.agg x.cs) w'.drew ∧ ∀ W, Calls Tryz.prog 60 #[.agg (grC x.l x.t x.f).toArray] W fun e w' => ∃ ao c, e = .returned (.slice ao mc c) ∧ Kp0 W w' ∧ Fr W.heap.size w' (.slice ao mc c) P))
    (HX : Hid (∀ w' W vp, R w' → Kp0 w' W → Fr w'.heap.size W vp P → Calls Tryz.prog 218 #[.pointer (some ⟨q, 0, none⟩), vp, vv] W fun e w2 => ∃ u, e = .returned u ∧ Q w2)) :
    Calls Tryz.prog 59 #[.pointer (some ⟨p, 0, none⟩), .int .i64 kind, .iface 127 (.pointer (some ⟨q, 0, none⟩)), .agg (shC s).toArray, vv] w fun e w' => e = .returned (.tuple #[.int .i64 hn, .int .i64 0]) ∧ Q w' := by
  unfold shC at HW ⊢
  generalize s.length = m at *
  have HMR := hid (Tryz.mWriteI ⟨q, 0, none⟩)
  have hna := Tryz.nWriteI ⟨q, 0, none⟩
  go_enter Tryz.func59, Tryz.ntmps59
  go_wp2_with fail
  refine (HW.out _ ((Kp.refl _ w).alloc _)).mono ?_
  rintro e w2 ⟨rfl, hR⟩
  have HR := hid hR
  obtain ⟨x, bm, c0, c1, c3, hb, hlk, hC⟩ := HL.out w2 hR
  have HC2 : Hid (∀ W, Calls Tryz.prog 60 #[.agg (grC x.l x.t x.f).toArray] W fun e w' => ∃ v, e = .returned v ∧ ∃ ao c, v = .slice ao mc c ∧ Kp0 W w' ∧ Fr W.heap.size w' (.slice ao mc c) P) := hid (fun W => (hC W).mono (fun e w' ⟨ao, c, h1, h2, h3⟩ => ⟨_, h1, ao, c, rfl, h2, h3⟩))
  unfold XA.cs at hlk
  unfold grC at HC2
  clear hC
  generalize x.l.length = n at *
  have y2 : w2.cell? ⟨p, 2, none⟩ = some (.map (some bm)) := cell_of_row _ p 2 _ _ _ hb
  have hfd := Tryz.fieldGrid (.int .i64 x.kind) (.int .i64 x.buf) (.int .i64 (nth x.l 0)) (.int .i64 (nth x.l 1)) (.int .i64 (nth x.l 2)) (.int .i64 (nth x.l 3)) (.int .i64 (n : Int)) (.int .i64 x.f) (.int .i64 (nth x.t 0)) (.int .i64 (nth x.t 1)) (.int .i64 (nth x.t 2)) (.int .i64 (nth x.t 3)) (.bool x.ro)
  clear hR hb HL HW
  go_wp2
  go_region_law ((first
    | (refine step_call1 (by rfl) 60 (.tmp 32) _ (by rfl) _ Tryz.func60 (by kernel_rfl) (by kernel_rfl) _ (by rfl) (HC2.out _) ?_; intro v7 w7 hR7; obtain ⟨ao, c7, rfl, hk7, hf7⟩ := hR7)
    | (refine step_invoke2 (by rfl) (.tmp 37) "Write" (.tmp 33) (.tmp 34) _ (by rfl) _ (.slice ao mc c7) vv (by rfl) (by rfl) (by rfl) _ _ (HMR.out _ _ _) (HX.out _ _ _ HR.out (Kp0.trans (Kp0.refl w2).drew hk7) hf7) ?_; intro v8 w8 hR8)))
  all_goals
    have HR8 := hid hR8
    clear hR8 hk7 hf7
    go_wp2
    go_ret2
    exact ⟨rfl, HR8.out⟩

end Go.Proofs.YticbbncdcannlaaGreat

/- makeOf in the document's words. -/
namespace Go.Proofs.YticbbncdcannlaaGreat
open Go.RowKit

theorem xc_writeB2 {T : Tags} {o : Nat} {w : World} {p : Nat} {σ : Sp} {L : XL} {X : XS} (hok : σ.ok) (hX : XAt T o w p L X) (hT : Tie X (Maps.size L.D) σ) {h : Int} {a : Arr} {x : XA} (hf : σ.find h = some a) (hx : ATie σ a x) (hk : a.kind = 1) (V : List Int) (hl : V.length = a.cells.length) (hV : ∀ j, IntKind.i64.wrap (nth V j) = nth V j)
    (W : World) (vp vv : Value) (k : Kp0 w W) (hp : Fr w.heap.size W vp a.cells) (hv : RdI W vv V) (hne : vv.ownBlock ≠ some L.g1) :
    Calls Tryz.prog 198 #[.pointer (some ⟨L.q1, 0, none⟩), vp, vv] W fun e w' => ∃ u, e = .returned u ∧ Step XRep T o w p (σ.writes 1 a.cells (fun i => asK 1 (nth V i)) a.cells.length) w' := by
  have ha := kind_of hok hf
  have hlt : L.g1 < w.heap.size := lt_of_heap hX.s1.cells
  have hP : ∀ j, j < a.cells.length → 0 ≤ nth a.cells j ∧ nth a.cells j < σ.cap 1 ∧ σ.taken 1 (nth a.cells j) = true := fun j hj => by
    have h1 := ha.inside j hj
    have h2 := hx.taken hf j hj
    rw [hk] at h1 h2
    exact ⟨h1.1, h1.2, h2⟩
  have h36 : a.cells.length ≤ 1000000 := by have := ha.length; have := ha.shape.2.2; omega
  refine (xWriteB_calls (hX.kp0 k).s1 a.cells V vp vv hp.1 (fun _ e => by have := hp.2 _ e; omega) hv (fun _ e => hne e) hl (fun j _ => hV j) (fun j hj => by rw [hT.k1.len]; exact ⟨(hP j hj).1, (hP j hj).2.1⟩) h36).mono ?_
  rintro e w' ⟨rfl, hk', hb⟩
  have hX' := (hX.kp0 k).putB hk' hb (wrTo_length _ _ _ _)
  have hw1 : (fun j => IntKind.wrap .u8 (nth V j)) = fun j => asK 1 (nth V j) := by funext j; rw [wrap_u8]; simp [asK]
  rw [hw1] at hX'
  have hn := (hT.writesFB hok a.cells hP (fun j => asK 1 (nth V j)) (fun j _ => by simp only [asK, if_true]; omega) a.cells.length (Nat.le_refl _)).1
  exact ⟨_, rfl, T, fun _ _ => rfl, ⟨writes_ok hok _ _ _ _, L, _, hX', hn⟩, (Kp.of0 k).trans hk' (fun b _ e => by rw [e, hX.tg1])⟩

theorem xc_writeI2 {T : Tags} {o : Nat} {w : World} {p : Nat} {σ : Sp} {L : XL} {X : XS} (hok : σ.ok) (hX : XAt T o w p L X) (hT : Tie X (Maps.size L.D) σ) {h : Int} {a : Arr} {x : XA} (hf : σ.find h = some a) (hx : ATie σ a x) (hk : a.kind = 2) (V : List Int) (hl : V.length = a.cells.length) (hV : ∀ j, IntKind.i64.wrap (nth V j) = nth V j)
    (W : World) (vp vv : Value) (k : Kp0 w W) (hp : Fr w.heap.size W vp a.cells) (hv : RdI W vv V) (hne : vv.ownBlock ≠ some L.g2) :
    Calls Tryz.prog 218 #[.pointer (some ⟨L.q2, 0, none⟩), vp, vv] W fun e w' => ∃ u, e = .returned u ∧ Step XRep T o w p (σ.writes 2 a.cells (fun i => asK 2 (nth V i)) a.cells.length) w' := by
  have ha := kind_of hok hf
  have hlt : L.g2 < w.heap.size := lt_of_heap hX.s2.cells
  have hP : ∀ j, j < a.cells.length → 0 ≤ nth a.cells j ∧ nth a.cells j < σ.cap 2 ∧ σ.taken 2 (nth a.cells j) = true := fun j hj => by
    have h1 := ha.inside j hj
    have h2 := hx.taken hf j hj
    rw [hk] at h1 h2
    exact ⟨h1.1, h1.2, h2⟩
  have h36 : a.cells.length ≤ 1000000 := by have := ha.length; have := ha.shape.2.2; omega
  refine (xWriteI_calls (hX.kp0 k).s2 a.cells V vp vv hp.1 (fun _ e => by have := hp.2 _ e; omega) hv (fun _ e => hne e) hl (fun j _ => hV j) (fun j hj => by rw [hT.k2.len]; exact ⟨(hP j hj).1, (hP j hj).2.1⟩) h36).mono ?_
  rintro e w' ⟨rfl, hk', hb⟩
  have hX' := (hX.kp0 k).putI hk' hb (wrTo_length _ _ _ _)
  have hw1 : (fun j => IntKind.wrap .i64 (nth V j)) = fun j => asK 2 (nth V j) := by funext j; rw [hV]; simp [asK]
  rw [hw1] at hX'
  have hn := (hT.writesFI hok a.cells hP (fun j => asK 2 (nth V j)) (fun j _ => by simp only [asK]; exact hV j) a.cells.length (Nat.le_refl _)).1
  exact ⟨_, rfl, T, fun _ _ => rfl, ⟨writes_ok hok _ _ _ _, L, _, hX', hn⟩, (Kp.of0 k).trans hk' (fun b _ e => by rw [e, hX.tg2])⟩

theorem xc_makeOfB {T : Tags} {o : Nat} {w : World} {p : Nat} {σ : Sp} {L : XL} {X : XS} (s : List Int) (hok : σ.ok) (hX : XAt T o w p L X) (hT : Tie X (Maps.size L.D) σ) (hs : shapeB s = true) (hm : σ.arrs.length + 1 ≤ 100000000) (hb : σ.bufs.length + 1 ≤ 100000000)
    (V : List Int) (hVl : V.length = (vol s).toNat) (hV : ∀ j, IntKind.i64.wrap (nth V j) = nth V j) (vv : Value) (hv : RdI w vv V) (hvo : ∀ b, vv.ownBlock = some b → (T b).1 ≠ o ∧ b < w.heap.size) :
    Calls Tryz.prog 59 #[.pointer (some ⟨p, 0, none⟩), .int .i64 1, .iface 126 (.pointer (some ⟨L.q1, 0, none⟩)), .agg (shC s).toArray, vv] w fun e w' => ∃ a b, e = .returned (.tuple #[.int .i64 a, .int .i64 b]) ∧ ((a = (σ.fresh 1 s fun i => asK 1 (nth V i)).2.1 ∧ b = (σ.fresh 1 s fun i => asK 1 (nth V i)).2.2) ∧ Step XRep T o w p (σ.fresh 1 s fun i => asK 1 (nth V i)).1 w') := by
  have hW := xc_whole 1 s hok hX hT (by omega) hs hm hb
  have hsh := (shapeB_iff s).1 hs
  rw [inVB] at hW
  have toStep : ∀ {σ' w'}, StepQ T o w p L σ' w' → Step XRep T o w p σ' w' := fun ⟨T', L', X', h1, h2, h3, h4, h5, _⟩ => ⟨T', h1, ⟨h2, L', X', h3, h4⟩, h5⟩
  by_cases hl : 40 ≤ σ.live
  · have h1 : σ.make 1 s = (σ, 0, 7) := make_many (by omega) hs hl
    have h2 : (σ.fresh 1 s fun i => asK 1 (nth V i)) = (σ, 0, 7) := by unfold Sp.fresh; rw [if_pos hl]
    rw [h1] at hW
    rw [h2]
    refine (xmakeOf_no p 1 _ s vv w 7 (by omega) (hid (fun W k => (hW W k).mono (fun e w' ⟨h1, h2⟩ => ⟨_, h1, h2⟩)))).mono ?_
    rintro e w' ⟨rfl, hq⟩
    exact ⟨_, _, rfl, ⟨rfl, rfl⟩, toStep hq⟩
  · by_cases hp : σ.place 1 (vol s).toNat < 0
    · have h1 : σ.make 1 s = (σ, 0, 8) := by unfold Sp.make; rw [if_neg (by omega), if_neg (by simp [hs]), if_neg hl, if_pos hp]
      have h2 : (σ.fresh 1 s fun i => asK 1 (nth V i)) = (σ, 0, 8) := by unfold Sp.fresh; rw [if_neg hl, if_pos hp]
      rw [h1] at hW
      rw [h2]
      refine (xmakeOf_no p 1 _ s vv w 8 (by omega) (hid (fun W k => (hW W k).mono (fun e w' ⟨h1, h2⟩ => ⟨_, h1, h2⟩)))).mono ?_
      rintro e w' ⟨rfl, hq⟩
      exact ⟨_, _, rfl, ⟨rfl, rfl⟩, toStep hq⟩
    · obtain ⟨a, ha⟩ : ∃ a, σ.place 1 (vol s).toNat = a := ⟨_, rfl⟩
      rw [ha] at hp
      have h1 : σ.make 1 s = (σ.made 1 a s (vol s).toNat fun _ => 0, (σ.arrs.length : Int) + 1, 0) := by unfold Sp.make; rw [if_neg (by omega), if_neg (by simp [hs]), if_neg hl, ha, if_neg hp]
      have h2 : (σ.fresh 1 s fun i => asK 1 (nth V i)) = (σ.made 1 a s (vol s).toNat fun i => asK 1 (nth V i), (σ.arrs.length : Int) + 1, 0) := by unfold Sp.fresh; rw [if_neg hl, ha, if_neg hp]
      rw [h1] at hW
      rw [h2]
      have hfd : (σ.made 1 a s (vol s).toNat fun _ => 0).find ((σ.arrs.length : Int) + 1) = some ⟨1, s, rng a (vol s).toNat, false, σ.bufs.length⟩ := by
        unfold Sp.find
        rw [if_pos (by omega)]
        have : (σ.made 1 a s (vol s).toNat fun _ => 0).arrs = σ.arrs ++ [some ⟨1, s, rng a (vol s).toNat, false, σ.bufs.length⟩] := by
          show ((σ.more ⟨1, a, (vol s).toNat⟩).puts 1 a (fun _ => 0) (vol s).toNat).arrs ++ _ = _
          rw [(puts_arrs _ _ _ _ _).1]; rfl
        rw [this, show ix ((σ.arrs.length : Int) + 1) = σ.arrs.length by unfold ix; omega]
        simp [List.getD]
      refine (xmakeOfOkB p L.q1 1 ((σ.arrs.length : Int) + 1) s vv w (vol s).toNat (rng a (vol s).toNat) (R := StepQ T o w p L (σ.made 1 a s (vol s).toNat fun _ => 0)) (Q := Step XRep T o w p (σ.made 1 a s (vol s).toNat fun i => asK 1 (nth V i))) (hid hW) (hid ?_) (hid ?_)).mono ?_
      · rintro w' ⟨T', L', X', t1, t2, t3, t4, t5, t6, t7⟩
        obtain ⟨x, hA, hx⟩ := t4.som _ _ hfd
        refine ⟨x, L'.bm, _, _, _, t3.blk, look_run1 t3.map.drew t3.ent _ x hA, fun W => ?_⟩
        have := xc_cells hx W
        simp only [rng_length] at this
        exact this
      · rintro w' W vp ⟨T', L', X', t1, t2, t3, t4, t5, t6, t7⟩ k hp'
        obtain ⟨x, hA, hx⟩ := t4.som _ _ hfd
        have hrd : RdI w' vv V := hv.kp t5 (fun b e => (hvo b e).1)
        have hne : vv.ownBlock ≠ some L'.g1 := fun e => by
          have h3 := hvo _ e
          have h4 := t3.tg1
          rw [t1 _ h3.2] at h4
          exact h3.1 (by rw [h4])
        have hc := xc_writeB2 t2 t3 t4 hfd hx rfl V (by rw [hVl]; exact (rng_length _ _).symm) hV W vp vv k hp' (hrd.kp0 k) hne
        rw [t6] at hc
        refine hc.mono ?_
        rintro e w2 ⟨u, rfl, T2, u1, u2, u3⟩
        refine ⟨u, rfl, T2, fun b hb2 => (u1 b (Nat.lt_of_lt_of_le hb2 t5.size)).trans (t1 b hb2), ?_, t5.trans u3 (fun b hb2 e => by rw [t1 b hb2] at e; exact e)⟩
        have e2 := made_writes σ 1 a s (vol s).toNat (fun i => asK 1 (nth V i)) (by omega)
        rw [← e2]
        simpa [rng_length] using u2
      · rintro e w' ⟨rfl, hq⟩
        exact ⟨_, _, rfl, ⟨rfl, rfl⟩, hq⟩

theorem xc_makeOfI {T : Tags} {o : Nat} {w : World} {p : Nat} {σ : Sp} {L : XL} {X : XS} (s : List Int) (hok : σ.ok) (hX : XAt T o w p L X) (hT : Tie X (Maps.size L.D) σ) (hs : shapeB s = true) (hm : σ.arrs.length + 1 ≤ 100000000) (hb : σ.bufs.length + 1 ≤ 100000000)
    (V : List Int) (hVl : V.length = (vol s).toNat) (hV : ∀ j, IntKind.i64.wrap (nth V j) = nth V j) (vv : Value) (hv : RdI w vv V) (hvo : ∀ b, vv.ownBlock = some b → (T b).1 ≠ o ∧ b < w.heap.size) :
    Calls Tryz.prog 59 #[.pointer (some ⟨p, 0, none⟩), .int .i64 2, .iface 127 (.pointer (some ⟨L.q2, 0, none⟩)), .agg (shC s).toArray, vv] w fun e w' => ∃ a b, e = .returned (.tuple #[.int .i64 a, .int .i64 b]) ∧ ((a = (σ.fresh 2 s fun i => asK 2 (nth V i)).2.1 ∧ b = (σ.fresh 2 s fun i => asK 2 (nth V i)).2.2) ∧ Step XRep T o w p (σ.fresh 2 s fun i => asK 2 (nth V i)).1 w') := by
  have hW := xc_whole 2 s hok hX hT (by omega) hs hm hb
  have hsh := (shapeB_iff s).1 hs
  rw [inVI] at hW
  have toStep : ∀ {σ' w'}, StepQ T o w p L σ' w' → Step XRep T o w p σ' w' := fun ⟨T', L', X', h1, h2, h3, h4, h5, _⟩ => ⟨T', h1, ⟨h2, L', X', h3, h4⟩, h5⟩
  by_cases hl : 40 ≤ σ.live
  · have h1 : σ.make 2 s = (σ, 0, 7) := make_many (by omega) hs hl
    have h2 : (σ.fresh 2 s fun i => asK 2 (nth V i)) = (σ, 0, 7) := by unfold Sp.fresh; rw [if_pos hl]
    rw [h1] at hW
    rw [h2]
    refine (xmakeOf_no p 2 _ s vv w 7 (by omega) (hid (fun W k => (hW W k).mono (fun e w' ⟨h1, h2⟩ => ⟨_, h1, h2⟩)))).mono ?_
    rintro e w' ⟨rfl, hq⟩
    exact ⟨_, _, rfl, ⟨rfl, rfl⟩, toStep hq⟩
  · by_cases hp : σ.place 2 (vol s).toNat < 0
    · have h1 : σ.make 2 s = (σ, 0, 8) := by unfold Sp.make; rw [if_neg (by omega), if_neg (by simp [hs]), if_neg hl, if_pos hp]
      have h2 : (σ.fresh 2 s fun i => asK 2 (nth V i)) = (σ, 0, 8) := by unfold Sp.fresh; rw [if_neg hl, if_pos hp]
      rw [h1] at hW
      rw [h2]
      refine (xmakeOf_no p 2 _ s vv w 8 (by omega) (hid (fun W k => (hW W k).mono (fun e w' ⟨h1, h2⟩ => ⟨_, h1, h2⟩)))).mono ?_
      rintro e w' ⟨rfl, hq⟩
      exact ⟨_, _, rfl, ⟨rfl, rfl⟩, toStep hq⟩
    · obtain ⟨a, ha⟩ : ∃ a, σ.place 2 (vol s).toNat = a := ⟨_, rfl⟩
      rw [ha] at hp
      have h1 : σ.make 2 s = (σ.made 2 a s (vol s).toNat fun _ => 0, (σ.arrs.length : Int) + 1, 0) := by unfold Sp.make; rw [if_neg (by omega), if_neg (by simp [hs]), if_neg hl, ha, if_neg hp]
      have h2 : (σ.fresh 2 s fun i => asK 2 (nth V i)) = (σ.made 2 a s (vol s).toNat fun i => asK 2 (nth V i), (σ.arrs.length : Int) + 1, 0) := by unfold Sp.fresh; rw [if_neg hl, ha, if_neg hp]
      rw [h1] at hW
      rw [h2]
      have hfd : (σ.made 2 a s (vol s).toNat fun _ => 0).find ((σ.arrs.length : Int) + 1) = some ⟨2, s, rng a (vol s).toNat, false, σ.bufs.length⟩ := by
        unfold Sp.find
        rw [if_pos (by omega)]
        have : (σ.made 2 a s (vol s).toNat fun _ => 0).arrs = σ.arrs ++ [some ⟨2, s, rng a (vol s).toNat, false, σ.bufs.length⟩] := by
          show ((σ.more ⟨2, a, (vol s).toNat⟩).puts 2 a (fun _ => 0) (vol s).toNat).arrs ++ _ = _
          rw [(puts_arrs _ _ _ _ _).1]; rfl
        rw [this, show ix ((σ.arrs.length : Int) + 1) = σ.arrs.length by unfold ix; omega]
        simp [List.getD]
      refine (xmakeOfOkI p L.q2 2 ((σ.arrs.length : Int) + 1) s vv w (vol s).toNat (rng a (vol s).toNat) (R := StepQ T o w p L (σ.made 2 a s (vol s).toNat fun _ => 0)) (Q := Step XRep T o w p (σ.made 2 a s (vol s).toNat fun i => asK 2 (nth V i))) (hid hW) (hid ?_) (hid ?_)).mono ?_
      · rintro w' ⟨T', L', X', t1, t2, t3, t4, t5, t6, t7⟩
        obtain ⟨x, hA, hx⟩ := t4.som _ _ hfd
        refine ⟨x, L'.bm, _, _, _, t3.blk, look_run1 t3.map.drew t3.ent _ x hA, fun W => ?_⟩
        have := xc_cells hx W
        simp only [rng_length] at this
        exact this
      · rintro w' W vp ⟨T', L', X', t1, t2, t3, t4, t5, t6, t7⟩ k hp'
        obtain ⟨x, hA, hx⟩ := t4.som _ _ hfd
        have hrd : RdI w' vv V := hv.kp t5 (fun b e => (hvo b e).1)
        have hne : vv.ownBlock ≠ some L'.g2 := fun e => by
          have h3 := hvo _ e
          have h4 := t3.tg2
          rw [t1 _ h3.2] at h4
          exact h3.1 (by rw [h4])
        have hc := xc_writeI2 t2 t3 t4 hfd hx rfl V (by rw [hVl]; exact (rng_length _ _).symm) hV W vp vv k hp' (hrd.kp0 k) hne
        rw [t7] at hc
        refine hc.mono ?_
        rintro e w2 ⟨u, rfl, T2, u1, u2, u3⟩
        refine ⟨u, rfl, T2, fun b hb2 => (u1 b (Nat.lt_of_lt_of_le hb2 t5.size)).trans (t1 b hb2), ?_, t5.trans u3 (fun b hb2 e => by rw [t1 b hb2] at e; exact e)⟩
        have e2 := made_writes σ 2 a s (vol s).toNat (fun i => asK 2 (nth V i)) (by omega)
        rw [← e2]
        simpa [rng_length] using u2
      · rintro e w' ⟨rfl, hq⟩
        exact ⟨_, _, rfl, ⟨rfl, rfl⟩, hq⟩

end Go.Proofs.YticbbncdcannlaaGreat
