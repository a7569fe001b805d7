/- The program's space, walked: Reshape, where it makes no new buffer. -/
import Derived.Deep.RegionLaw
import Derived.BigRegion
import Derived.Test.YticbbncdcannlaaGreatG37
import Derived.Test.YticbbncdcannlaaGreatG43
import Derived.Deep.Cut
import Derived.Deep.RegionHeld3
import Derived.Test.YticbbncdcannlaaGreatG15
import Derived.Test.YticbbncdcannlaaGreatG36

namespace Go.Proofs.YticbbncdcannlaaGreat
open Go.RowKit Go.Maps Go.ChangeMaps Go.MapKept

/-- A call of a Go function of one argument, by its contract, as a step of a region that draws; its guard is asked for. -/
theorem step_call1w {P : Program} {ops : Array Oper} {o : Oper} {a : Act} {w : World} {K : Act → World → Prop} {Q : Exit → Act → World → Prop} {E : Prop} (hw : Region.wanted o (yielded ops a.tmps) = true) (f : FuncId) (x : Operand) (ts : Array TypeId)
    (ho : o.op = .call { callee := .value (.func f), args := #[x], argTypes := ts }) (fn : Func) (hf : P.funcs[f]? = some fn) (hname : (fn.name == "runtime.NumGoroutine") = false) (hb : fn.body.isSome = true) (vx : Value) (hx : a.eval x = vx) {R : Value → World → Prop}
    (hc : Calls P f #[vx] w fun e w' => ∃ v, e = .returned v ∧ R v w') (h : ∀ v w', R v w' → K (a.put o.dst v) w') :
    if Region.wanted o (yielded ops a.tmps) = true then Oper.wp P o a w K Q else E := by
  rw [if_pos hw]
  have hr := run_callFunc_body (P := P) hf hname hb
  have hev : a.eval (.func f) = .func (.func f) #[] #[] := rfl
  unfold Oper.wp execOp
  simp [ho, resolve, hev, Deferred.ofValue, invoke, hx, hr, Oper.upon]
  refine hc.mono ?_
  rintro e w' ⟨v, rfl, hR⟩
  exact h v w' hR

set_option maxRecDepth 100000 in
set_option maxHeartbeats 1000000 in
theorem xReshape_none {T : Tags} {o : Nat} {w : World} {p : Nat} {L : XL} {X : XS} (h : XAt T o w p L X) (hd : Int) (va : Value) (hA : X.A hd = none) :
    Calls Tryz.prog 24 #[.pointer (some ⟨p, 0, none⟩), .int .i64 hd, va] w fun e w' => e = .returned (.tuple #[.int .i64 0, .bool false, .int .i64 2]) ∧ Kp0 w w' := by
  have HF := hid (xfind_none h hd hA)
  unfold xaZ at HF
  clear h hA
  go_enter Tryz.func24, Tryz.ntmps24
  go_wp2_with fail
  refine HF.out.mono ?_
  rintro e w2 ⟨rfl, hw⟩
  have HK := hid hw
  clear hw
  go_wp2
  go_ret3
  exact ⟨rfl, HK.out.alloc _⟩

set_option maxRecDepth 100000 in
set_option maxHeartbeats 1000000 in
theorem xReshape_shape {T : Tags} {o : Nat} {w : World} {p : Nat} {L : XL} {X : XS} (h : XAt T o w p L X) (hd : Int) (va : Value) (x : XA) (hA : X.A hd = some x) (hk : x.kind = 1 ∨ x.kind = 2)
    (HG : Hid (∀ W, Kp0 w W → Calls Tryz.prog 56 #[va] W fun e w' => e = .returned (.tuple #[.agg (shC []).toArray, .bool false]) ∧ Kp0 W w')) :
    Calls Tryz.prog 24 #[.pointer (some ⟨p, 0, none⟩), .int .i64 hd, va] w fun e w' => e = .returned (.tuple #[.int .i64 0, .bool false, .int .i64 4]) ∧ Kp0 w w' := by
  have HF := hid (xfind_some h hd x hA hk)
  generalize L.inV x.kind = I at *
  unfold XA.cs at HF
  unfold shC at HG
  generalize x.l.length = n at *
  clear h hA hk
  go_enter Tryz.func24, Tryz.ntmps24
  go_wp2_with fail
  refine HF.out.mono ?_
  rintro e w2 ⟨rfl, hw⟩
  have HK := hid hw
  clear hw
  go_wp2_with fail
  refine (HG.out _ (HK.out.alloc _)).mono ?_
  rintro e w3 ⟨rfl, hw⟩
  have HK3 : Hid (Kp0 w w3) := Kp0.trans (HK.out.alloc _) hw
  clear hw
  go_wp2
  go_region
  go_wp2
  go_ret3
  exact ⟨rfl, Kp.drew (HK3.out.alloc _)⟩

set_option maxRecDepth 100000 in
set_option maxHeartbeats 4000000 in
theorem xReshape_vol {T : Tags} {o : Nat} {w : World} {p : Nat} {L : XL} {X : XS} (h : XAt T o w p L X) (hd : Int) (va : Value) (x : XA) (s : List Int) (hA : X.A hd = some x) (hk : x.kind = 1 ∨ x.kind = 2) (hl : okShape x.l) (hs : okShape s) (hv : vol s ≠ vol x.l)
    (HS : Hid (∀ W, Kp0 w W → Calls Tryz.prog 56 #[va] W fun e w' => e = .returned (.tuple #[.agg (shC s).toArray, .bool true]) ∧ Kp0 W w')) :
    Calls Tryz.prog 24 #[.pointer (some ⟨p, 0, none⟩), .int .i64 hd, va] w fun e w' => e = .returned (.tuple #[.int .i64 0, .bool false, .int .i64 4]) ∧ Kp0 w w' := by
  have HF := hid (xfind_some h hd x hA hk)
  have HV1 : Hid (∀ W, Calls Tryz.prog 57 #[.agg (shC s).toArray] W fun e w' => ∃ v, e = .returned v ∧ (v = .int .i64 (vol s) ∧ Kp0 W w')) := hid (fun W => (xvolume_calls s W hs.2.1 hs.1).mono (fun e w' h => ⟨_, h.1, rfl, h.2⟩))
  have HV2 : Hid (∀ W, Calls Tryz.prog 57 #[.agg (shC x.l).toArray] W fun e w' => ∃ v, e = .returned v ∧ (v = .int .i64 (vol x.l) ∧ Kp0 W w')) := hid (fun W => (xvolume_calls x.l W hl.2.1 hl.1).mono (fun e w' h => ⟨_, h.1, rfl, h.2⟩))
  have d1 : (vol s != vol x.l) = true := by simp [hv]
  generalize vol s = v1 at *
  generalize vol x.l = v2 at *
  generalize L.inV x.kind = I at *
  unfold XA.cs at HF
  unfold shC at HS HV1 HV2
  generalize x.l.length = n at *
  generalize s.length = m at *
  clear h hA hk hl hs hv
  go_enter Tryz.func24, Tryz.ntmps24
  go_wp2_with fail
  refine HF.out.mono ?_
  rintro e w2 ⟨rfl, hw⟩
  have HK := hid hw
  have HB2 : Hid ((w2.alloc (.cells #[.int .i64 x.kind, .int .i64 x.buf, .int .i64 (nth x.l 0), .int .i64 (nth x.l 1), .int .i64 (nth x.l 2), .int .i64 (nth x.l 3), .int .i64 (n : Int), .int .i64 x.f, .int .i64 (nth x.t 0), .int .i64 (nth x.t 1), .int .i64 (nth x.t 2), .int .i64 (nth x.t 3), .bool x.ro] 109)).heap[w2.heap.size]? = some (.cells #[.int .i64 x.kind, .int .i64 x.buf, .int .i64 (nth x.l 0), .int .i64 (nth x.l 1), .int .i64 (nth x.l 2), .int .i64 (nth x.l 3), .int .i64 (n : Int), .int .i64 x.f, .int .i64 (nth x.t 0), .int .i64 (nth x.t 1), .int .i64 (nth x.t 2), .int .i64 (nth x.t 3), .bool x.ro] 109 (0, 0))) := heap_alloc_new w2 _
  clear hw
  go_wp2_with fail
  refine (HS.out _ (HK.out.alloc _)).mono ?_
  rintro e w3 ⟨rfl, hw⟩
  have HB3 := hid (hw.heap HB2.out)
  have HK3 : Hid (Kp0 w w3) := Kp0.trans (HK.out.alloc _) hw
  clear hw HB2
  generalize w2.heap.size = b0 at *
  go_wp2
  have HB4 := hid (heap_alloc_keeps HB3.out (.cells #[.int .i64 (nth s 0), .int .i64 (nth s 1), .int .i64 (nth s 2), .int .i64 (nth s 3), .int .i64 (m : Int)] 104))
  have HS4 := hid (heap_alloc_new w3 (.cells #[.int .i64 (nth s 0), .int .i64 (nth s 1), .int .i64 (nth s 2), .int .i64 (nth s 3), .int .i64 (m : Int)] 104))
  have HK4 := hid (HK3.out.alloc (.cells #[.int .i64 (nth s 0), .int .i64 (nth s 1), .int .i64 (nth s 2), .int .i64 (nth s 3), .int .i64 (m : Int)] 104))
  clear HB3 HK3
  generalize w3.alloc (.cells #[.int .i64 (nth s 0), .int .i64 (nth s 1), .int .i64 (nth s 2), .int .i64 (nth s 3), .int .i64 (m : Int)] 104) = W4 at *
  generalize w3.heap.size = b1 at *
  obtain ⟨y0, y1, y2, y3, y4, y5, y6, y7, y8, y9, y10, y11, y12⟩ := cells13 HB4.out
  obtain ⟨z0, z1, z2, z3, z4⟩ := cells5 HS4.out
  clear y0 y1 y7 y8 y9 y10 y11 y12
  have HKc : Hid (Kp0 w W4.drew) := hid HK4.out.drew
  go_region_law ((first
    | (refine step_call1w (by rfl) 57 (.tmp 37) _ (by rfl) _ Tryz.func57 (by kernel_rfl) (by kernel_rfl) _ (by rfl) (HV1.out _) ?_; intro v7 w7 hR7; obtain ⟨rfl, hk7⟩ := hR7; have HKc := hid (Kp0.trans HKc.out hk7); have y2 := hk7.cell y2; have y3 := hk7.cell y3; have y4 := hk7.cell y4; have y5 := hk7.cell y5; have y6 := hk7.cell y6; have z0 := hk7.cell z0; have z1 := hk7.cell z1; have z2 := hk7.cell z2; have z3 := hk7.cell z3; have z4 := hk7.cell z4; clear hk7)
    | (refine step_call1w (by rfl) 57 (.tmp 41) _ (by rfl) _ Tryz.func57 (by kernel_rfl) (by kernel_rfl) _ (by rfl) (HV2.out _) ?_; intro v7 w7 hR7; obtain ⟨rfl, hk7⟩ := hR7; have HKc := hid (Kp0.trans HKc.out hk7); have y2 := hk7.cell y2; have y3 := hk7.cell y3; have y4 := hk7.cell y4; have y5 := hk7.cell y5; have y6 := hk7.cell y6; have z0 := hk7.cell z0; have z1 := hk7.cell z1; have z2 := hk7.cell z2; have z3 := hk7.cell z3; have z4 := hk7.cell z4; clear hk7)))
  all_goals
    go_wp2
    go_ret3
    exact ⟨rfl, HKc.out⟩

set_option maxRecDepth 100000 in
set_option maxHeartbeats 4000000 in
theorem xReshape_view {T : Tags} {o : Nat} {w : World} {p : Nat} {L : XL} {X : XS} (h : XAt T o w p L X) (hd : Int) (va : Value) (x : XA) (s : List Int) (hA : X.A hd = some x) (hk : x.kind = 1 ∨ x.kind = 2) (hl : okShape x.l) (hs : okShape s) (hv : vol s = vol x.l) (l t : List Int) (f : Int) {R : Int → Int → World → Prop}
    (HS : Hid (∀ W, Kp0 w W → Calls Tryz.prog 56 #[va] W fun e w' => e = .returned (.tuple #[.agg (shC s).toArray, .bool true]) ∧ Kp0 W w'))
    (HG : Hid (∀ W, Calls Tryz.prog 58 #[.agg (grC x.l x.t x.f).toArray, .agg (shC s).toArray] W fun e w' => e = .returned (.tuple #[.agg (grC l t f).toArray, .bool true]) ∧ Kp0 W w'))
    (HV : Hid (∀ W, Kp0 w W → Calls Tryz.prog 54 #[.pointer (some ⟨p, 0, none⟩), .agg x.cs, .agg (grC l t f).toArray] W fun e w' => ∃ a b, e = .returned (.tuple #[.int .i64 a, .int .i64 b]) ∧ R a b w')) :
    Calls Tryz.prog 24 #[.pointer (some ⟨p, 0, none⟩), .int .i64 hd, va] w fun e w' => ∃ a b, e = .returned (.tuple #[.int .i64 a, .bool (b == 0), .int .i64 b]) ∧ R a b w' := by
  have HF := hid (xfind_some h hd x hA hk)
  have HV1 : Hid (∀ W, Calls Tryz.prog 57 #[.agg (shC s).toArray] W fun e w' => ∃ v, e = .returned v ∧ (v = .int .i64 (vol s) ∧ Kp0 W w')) := hid (fun W => (xvolume_calls s W hs.2.1 hs.1).mono (fun e w' h => ⟨_, h.1, rfl, h.2⟩))
  have HV2 : Hid (∀ W, Calls Tryz.prog 57 #[.agg (shC x.l).toArray] W fun e w' => ∃ v, e = .returned v ∧ (v = .int .i64 (vol x.l) ∧ Kp0 W w')) := hid (fun W => (xvolume_calls x.l W hl.2.1 hl.1).mono (fun e w' h => ⟨_, h.1, rfl, h.2⟩))
  rw [hv] at HV1
  generalize vol x.l = v2 at *
  generalize L.inV x.kind = I at *
  unfold XA.cs at HF HV
  unfold shC at HS HV1 HV2 HG
  unfold grC at HG HV
  generalize x.l.length = n at *
  generalize s.length = m at *
  generalize l.length = m2 at *
  clear h hA hk hl hs hv
  go_enter Tryz.func24, Tryz.ntmps24
  go_wp2_with fail
  refine HF.out.mono ?_
  rintro e w2 ⟨rfl, hw⟩
  have HK := hid hw
  have HB2 : Hid ((w2.alloc (.cells #[.int .i64 x.kind, .int .i64 x.buf, .int .i64 (nth x.l 0), .int .i64 (nth x.l 1), .int .i64 (nth x.l 2), .int .i64 (nth x.l 3), .int .i64 (n : Int), .int .i64 x.f, .int .i64 (nth x.t 0), .int .i64 (nth x.t 1), .int .i64 (nth x.t 2), .int .i64 (nth x.t 3), .bool x.ro] 109)).heap[w2.heap.size]? = some (.cells #[.int .i64 x.kind, .int .i64 x.buf, .int .i64 (nth x.l 0), .int .i64 (nth x.l 1), .int .i64 (nth x.l 2), .int .i64 (nth x.l 3), .int .i64 (n : Int), .int .i64 x.f, .int .i64 (nth x.t 0), .int .i64 (nth x.t 1), .int .i64 (nth x.t 2), .int .i64 (nth x.t 3), .bool x.ro] 109 (0, 0))) := heap_alloc_new w2 _
  clear hw
  go_wp2_with fail
  refine (HS.out _ (HK.out.alloc _)).mono ?_
  rintro e w3 ⟨rfl, hw⟩
  have HB3 := hid (hw.heap HB2.out)
  have HK3 : Hid (Kp0 w w3) := Kp0.trans (HK.out.alloc _) hw
  clear hw HB2
  generalize w2.heap.size = b0 at *
  go_wp2
  have HB4 := hid (heap_alloc_keeps HB3.out (.cells #[.int .i64 (nth s 0), .int .i64 (nth s 1), .int .i64 (nth s 2), .int .i64 (nth s 3), .int .i64 (m : Int)] 104))
  have HS4 := hid (heap_alloc_new w3 (.cells #[.int .i64 (nth s 0), .int .i64 (nth s 1), .int .i64 (nth s 2), .int .i64 (nth s 3), .int .i64 (m : Int)] 104))
  have HK4 := hid (HK3.out.alloc (.cells #[.int .i64 (nth s 0), .int .i64 (nth s 1), .int .i64 (nth s 2), .int .i64 (nth s 3), .int .i64 (m : Int)] 104))
  clear HB3 HK3
  generalize w3.alloc (.cells #[.int .i64 (nth s 0), .int .i64 (nth s 1), .int .i64 (nth s 2), .int .i64 (nth s 3), .int .i64 (m : Int)] 104) = W4 at *
  generalize w3.heap.size = b1 at *
  obtain ⟨y0, y1, y2, y3, y4, y5, y6, y7, y8, y9, y10, y11, y12⟩ := cells13 HB4.out
  obtain ⟨z0, z1, z2, z3, z4⟩ := cells5 HS4.out
  clear y0 y1 y7 y8 y9 y10 y11 y12
  have HKc : Hid (Kp0 w W4.drew) := hid HK4.out.drew
  go_region_law ((first
    | (refine step_call1w (by rfl) 57 (.tmp 37) _ (by rfl) _ Tryz.func57 (by kernel_rfl) (by kernel_rfl) _ (by rfl) (HV1.out _) ?_; intro v7 w7 hR7; obtain ⟨rfl, hk7⟩ := hR7; have HKc := hid (Kp0.trans HKc.out hk7); have HB4 := hid (hk7.heap HB4.out); have HS4 := hid (hk7.heap HS4.out); have y2 := hk7.cell y2; have y3 := hk7.cell y3; have y4 := hk7.cell y4; have y5 := hk7.cell y5; have y6 := hk7.cell y6; have z0 := hk7.cell z0; have z1 := hk7.cell z1; have z2 := hk7.cell z2; have z3 := hk7.cell z3; have z4 := hk7.cell z4; clear hk7)
    | (refine step_call1w (by rfl) 57 (.tmp 41) _ (by rfl) _ Tryz.func57 (by kernel_rfl) (by kernel_rfl) _ (by rfl) (HV2.out _) ?_; intro v7 w7 hR7; obtain ⟨rfl, hk7⟩ := hR7; have HKc := hid (Kp0.trans HKc.out hk7); have HB4 := hid (hk7.heap HB4.out); have HS4 := hid (hk7.heap HS4.out); have y2 := hk7.cell y2; have y3 := hk7.cell y3; have y4 := hk7.cell y4; have y5 := hk7.cell y5; have y6 := hk7.cell y6; have z0 := hk7.cell z0; have z1 := hk7.cell z1; have z2 := hk7.cell z2; have z3 := hk7.cell z3; have z4 := hk7.cell z4; clear hk7)))
  all_goals
    clear y2 y3 y4 y5 y6 z0 z1 z2 z3 z4 HV1 HV2 HS HF HK HK4
    have hlt := lt_of_heap HB4.out
    have hlt1 := lt_of_heap HS4.out
    obtain ⟨y0, y1, y2, y3, y4, y5, y6, y7, y8, y9, y10, y11, y12⟩ := cells13 HB4.out
    obtain ⟨z0, z1, z2, z3, z4⟩ := cells5 HS4.out
    go_wp2_with fail
    refine (HG.out _).mono ?_
    rintro e w4 ⟨rfl, hw⟩
    have HB5 := hid (hw.heap HB4.out)
    have HK5 : Hid (Kp0 w w4) := Kp0.trans HKc.out hw
    have hlt4 : b0 < w4.heap.size := lt_of_heap HB5.out
    clear hw y0 y1 y2 y3 y4 y5 y6 y7 y8 y9 y10 y11 y12 z0 z1 z2 z3 z4 HB4 HS4 HKc
    obtain ⟨y0, y1, y2, y3, y4, y5, y6, y7, y8, y9, y10, y11, y12⟩ := cells13 HB5.out
    go_wp2_with fail
    refine (HV.out _ (HK5.out.alloc _)).mono ?_
    rintro e w5 ⟨a, b, rfl, hR⟩
    have HR := hid hR
    clear hR
    go_wp2
    go_ret3
    exact ⟨a, b, rfl, HR.out⟩

end Go.Proofs.YticbbncdcannlaaGreat

/- The program's space at uint8, walked: Reshape, where it makes a new buffer. -/
namespace Go.Proofs.YticbbncdcannlaaGreat
open Go.RowKit Go.Maps Go.ChangeMaps Go.MapKept

set_option maxRecDepth 100000 in
set_option maxHeartbeats 4000000 in
theorem xReshapeCopyB {T : Tags} {o : Nat} {w : World} {p : Nat} {L : XL} {X : XS} (h : XAt T o w p L X) (hd : Int) (va : Value) (x : XA) (s : List Int) (hA : X.A hd = some x) (hk : x.kind = 1) (hl : okShape x.l) (hs : okShape s) (hv : vol s = vol x.l) (mc : Nat) (P : List Int) (mv : Nat) (V : List Int) {S1 : Nat → Prop} (HS1 : Hid (∀ b, S1 b → b < w.heap.size)) {R : Int → Int → World → Prop}
    (HS : Hid (∀ W, Kp0 w W → Calls Tryz.prog 56 #[va] W fun e w' => e = .returned (.tuple #[.agg (shC s).toArray, .bool true]) ∧ Kp0 W w'))
    (HG : Hid (∀ W, Calls Tryz.prog 58 #[.agg (grC x.l x.t x.f).toArray, .agg (shC s).toArray] W fun e w' => e = .returned (.tuple #[.agg zG, .bool false]) ∧ Kp0 W w'))
    (HC : Hid (∀ W, Calls Tryz.prog 60 #[.agg (grC x.l x.t x.f).toArray] W fun e w' => ∃ ao c, e = .returned (.slice ao mc c) ∧ Kp0 W w' ∧ Fr W.heap.size w' (.slice ao mc c) P))
    (HRd : Hid (∀ W vp, Kp0 w W → RdI W vp P → Calls Tryz.prog 195 #[.pointer (some ⟨L.q1, 0, none⟩), vp] W fun e w' => ∃ ao c, e = .returned (.slice ao mv c) ∧ Kp0 W w' ∧ Fr W.heap.size w' (.slice ao mv c) V))
    (HM : Hid (∀ W vv, Kp0 w W → Fr w.heap.size W vv V → Calls Tryz.prog 59 #[.pointer (some ⟨p, 0, none⟩), .int .i64 1, .iface 126 (.pointer (some ⟨L.q1, 0, none⟩)), .agg (shC s).toArray, vv] W fun e w' => ∃ a b, e = .returned (.tuple #[.int .i64 a, .int .i64 b]) ∧ R a b w' ∧ Kp S1 W w')) :
    Calls Tryz.prog 24 #[.pointer (some ⟨p, 0, none⟩), .int .i64 hd, va] w fun e w' => ∃ a b, e = .returned (.tuple #[.int .i64 a, .bool false, .int .i64 b]) ∧ R a b w' := by
  have HF := hid (xfind_some h hd x hA (.inl hk))
  rw [hk, inVB] at HF
  have HC2 : Hid (∀ W, Calls Tryz.prog 60 #[.agg (grC x.l x.t x.f).toArray] W fun e w' => ∃ v, e = .returned v ∧ ∃ ao c, v = .slice ao mc c ∧ Kp0 W w' ∧ Fr W.heap.size w' (.slice ao mc c) P) := hid (fun W => (HC.out W).mono (fun e w' ⟨ao, c, h1, h2, h3⟩ => ⟨_, h1, ao, c, rfl, h2, h3⟩))
  have HR2 : Hid (∀ W vp, Kp0 w W → RdI W vp P → Calls Tryz.prog 195 #[.pointer (some ⟨L.q1, 0, none⟩), vp] W fun e w' => ∃ v, e = .returned v ∧ ∃ ao c, v = .slice ao mv c ∧ Kp0 W w' ∧ Fr W.heap.size w' (.slice ao mv c) V) := hid (fun W vp k hr => (HRd.out W vp k hr).mono (fun e w' ⟨ao, c, h1, h2, h3⟩ => ⟨_, h1, ao, c, rfl, h2, h3⟩))
  have HM2 : Hid (∀ W vv, Kp0 w W → Fr w.heap.size W vv V → Calls Tryz.prog 59 #[.pointer (some ⟨p, 0, none⟩), .int .i64 1, .iface 126 (.pointer (some ⟨L.q1, 0, none⟩)), .agg (shC s).toArray, vv] W fun e w' => ∃ v, e = .returned v ∧ ∃ a b, v = .tuple #[.int .i64 a, .int .i64 b] ∧ R a b w' ∧ Kp S1 W w') := hid (fun W vv k hr => (HM.out W vv k hr).mono (fun e w' ⟨a, b, h1, h2⟩ => ⟨_, h1, a, b, rfl, h2⟩))
  have HMR := hid (Tryz.mReadB ⟨L.q1, 0, none⟩)
  have hna := Tryz.nReadB ⟨L.q1, 0, none⟩
  have HV1 : Hid (∀ W, Calls Tryz.prog 57 #[.agg (shC s).toArray] W fun e w' => ∃ v, e = .returned v ∧ (v = .int .i64 (vol s) ∧ Kp0 W w')) := hid (fun W => (xvolume_calls s W hs.2.1 hs.1).mono (fun e w' h => ⟨_, h.1, rfl, h.2⟩))
  have HV2 : Hid (∀ W, Calls Tryz.prog 57 #[.agg (shC x.l).toArray] W fun e w' => ∃ v, e = .returned v ∧ (v = .int .i64 (vol x.l) ∧ Kp0 W w')) := hid (fun W => (xvolume_calls x.l W hl.2.1 hl.1).mono (fun e w' h => ⟨_, h.1, rfl, h.2⟩))
  rw [hv] at HV1
  generalize vol x.l = v2 at *
  clear HC HRd HM
  generalize L.q1 = q at *
  unfold XA.cs at HF
  rw [hk] at HF
  unfold shC at HS HV1 HV2 HG HM2
  unfold grC at HG HC2
  unfold zG at HG
  generalize x.l.length = n at *
  generalize s.length = m at *
  clear h hA hk hl hs hv
  go_enter Tryz.func24, Tryz.ntmps24
  go_wp2_with fail
  refine HF.out.mono ?_
  rintro e w2 ⟨rfl, hw⟩
  have HK := hid hw
  have HB2 : Hid ((w2.alloc (.cells #[.int .i64 1, .int .i64 x.buf, .int .i64 (nth x.l 0), .int .i64 (nth x.l 1), .int .i64 (nth x.l 2), .int .i64 (nth x.l 3), .int .i64 (n : Int), .int .i64 x.f, .int .i64 (nth x.t 0), .int .i64 (nth x.t 1), .int .i64 (nth x.t 2), .int .i64 (nth x.t 3), .bool x.ro] 109)).heap[w2.heap.size]? = some (.cells #[.int .i64 1, .int .i64 x.buf, .int .i64 (nth x.l 0), .int .i64 (nth x.l 1), .int .i64 (nth x.l 2), .int .i64 (nth x.l 3), .int .i64 (n : Int), .int .i64 x.f, .int .i64 (nth x.t 0), .int .i64 (nth x.t 1), .int .i64 (nth x.t 2), .int .i64 (nth x.t 3), .bool x.ro] 109 (0, 0))) := heap_alloc_new w2 _
  clear hw
  go_wp2_with fail
  refine (HS.out _ (HK.out.alloc _)).mono ?_
  rintro e w3 ⟨rfl, hw⟩
  have HB3 := hid (hw.heap HB2.out)
  have HK3 : Hid (Kp0 w w3) := Kp0.trans (HK.out.alloc _) hw
  have HN0 : Hid (¬ S1 w2.heap.size) := hid (fun e => by have := HS1.out _ e; have := HK.out.size; omega)
  have HN1 : Hid (¬ S1 w3.heap.size) := hid (fun e => by have := HS1.out _ e; have := HK3.out.size; omega)
  clear hw HB2
  generalize w2.heap.size = b0 at *
  go_wp2
  have HB4 := hid (heap_alloc_keeps HB3.out (.cells #[.int .i64 (nth s 0), .int .i64 (nth s 1), .int .i64 (nth s 2), .int .i64 (nth s 3), .int .i64 (m : Int)] 104))
  have HS4 := hid (heap_alloc_new w3 (.cells #[.int .i64 (nth s 0), .int .i64 (nth s 1), .int .i64 (nth s 2), .int .i64 (nth s 3), .int .i64 (m : Int)] 104))
  have HK4 := hid (HK3.out.alloc (.cells #[.int .i64 (nth s 0), .int .i64 (nth s 1), .int .i64 (nth s 2), .int .i64 (nth s 3), .int .i64 (m : Int)] 104))
  clear HB3 HK3
  generalize w3.alloc (.cells #[.int .i64 (nth s 0), .int .i64 (nth s 1), .int .i64 (nth s 2), .int .i64 (nth s 3), .int .i64 (m : Int)] 104) = W4 at *
  generalize w3.heap.size = b1 at *
  obtain ⟨y0, y1, y2, y3, y4, y5, y6, y7, y8, y9, y10, y11, y12⟩ := cells13 HB4.out
  obtain ⟨z0, z1, z2, z3, z4⟩ := cells5 HS4.out
  clear y0 y1 y7 y8 y9 y10 y11 y12
  have HKc : Hid (Kp0 w W4.drew) := hid HK4.out.drew
  go_cut [44] from 34 (fun s44 W => s44 = .bool false ∧ Kp0 w W ∧ W.heap[b0]? = some (.cells #[.int .i64 1, .int .i64 x.buf, .int .i64 (nth x.l 0), .int .i64 (nth x.l 1), .int .i64 (nth x.l 2), .int .i64 (nth x.l 3), .int .i64 (n : Int), .int .i64 x.f, .int .i64 (nth x.t 0), .int .i64 (nth x.t 1), .int .i64 (nth x.t 2), .int .i64 (nth x.t 3), .bool x.ro] 109 (0, 0)) ∧ W.heap[b1]? = some (.cells #[.int .i64 (nth s 0), .int .i64 (nth s 1), .int .i64 (nth s 2), .int .i64 (nth s 3), .int .i64 (m : Int)] 104 (0, 0)))
  case first =>
    go_region_law ((first
      | (refine step_call1w (by rfl) 57 (.tmp 37) _ (by rfl) _ Tryz.func57 (by kernel_rfl) (by kernel_rfl) _ (by rfl) (HV1.out _) ?_; intro v7 w7 hR7; obtain ⟨rfl, hk7⟩ := hR7; have HKc := hid (Kp0.trans HKc.out hk7); have HB4 := hid (hk7.heap HB4.out); have HS4 := hid (hk7.heap HS4.out); have y2 := hk7.cell y2; have y3 := hk7.cell y3; have y4 := hk7.cell y4; have y5 := hk7.cell y5; have y6 := hk7.cell y6; have z0 := hk7.cell z0; have z1 := hk7.cell z1; have z2 := hk7.cell z2; have z3 := hk7.cell z3; have z4 := hk7.cell z4; clear hk7)
      | (refine step_call1w (by rfl) 57 (.tmp 41) _ (by rfl) _ Tryz.func57 (by kernel_rfl) (by kernel_rfl) _ (by rfl) (HV2.out _) ?_; intro v7 w7 hR7; obtain ⟨rfl, hk7⟩ := hR7; have HKc := hid (Kp0.trans HKc.out hk7); have HB4 := hid (hk7.heap HB4.out); have HS4 := hid (hk7.heap HS4.out); have y2 := hk7.cell y2; have y3 := hk7.cell y3; have y4 := hk7.cell y4; have y5 := hk7.cell y5; have y6 := hk7.cell y6; have z0 := hk7.cell z0; have z1 := hk7.cell z1; have z2 := hk7.cell z2; have z3 := hk7.cell z3; have z4 := hk7.cell z4; clear hk7)))
    all_goals
      go_wp2_with fail
      go_meet
      case rel => exact ⟨rfl, HKc.out, HB4.out, HS4.out⟩
  case rest =>
    obtain ⟨rfl, hKc, hB4, hS4⟩ := hcut
    have HKc := hid hKc
    have HB4 := hid hB4
    have HS4 := hid hS4
    clear hKc hB4 hS4 y2 y3 y4 y5 y6 z0 z1 z2 z3 z4 HV1 HV2 HS HF HK HK4
    have hlt := lt_of_heap HB4.out
    have hlt1 := lt_of_heap HS4.out
    obtain ⟨y0, y1, y2, y3, y4, y5, y6, y7, y8, y9, y10, y11, y12⟩ := cells13 HB4.out
    obtain ⟨z0, z1, z2, z3, z4⟩ := cells5 HS4.out
    go_wp2_with fail
    refine (HG.out _).mono ?_
    rintro e w4 ⟨rfl, hw⟩
    have HB5 := hid (hw.heap HB4.out)
    have HS5 := hid (hw.heap HS4.out)
    have HK5 : Hid (Kp0 w w4) := Kp0.trans HKc.out hw
    clear hw y0 y1 y2 y3 y4 y5 y6 y7 y8 y9 y10 y11 y12 z0 z1 z2 z3 z4 HB4 HS4 HKc hlt hlt1
    go_wp2
    have HB6 := hid (heap_alloc_keeps HB5.out (.cells #[.int .i64 0, .int .i64 0, .int .i64 0, .int .i64 0, .int .i64 0, .int .i64 0, .int .i64 0, .int .i64 0, .int .i64 0, .int .i64 0] 107))
    have HS6 := hid (heap_alloc_keeps HS5.out (.cells #[.int .i64 0, .int .i64 0, .int .i64 0, .int .i64 0, .int .i64 0, .int .i64 0, .int .i64 0, .int .i64 0, .int .i64 0, .int .i64 0] 107))
    have HK6 := hid (HK5.out.alloc (.cells #[.int .i64 0, .int .i64 0, .int .i64 0, .int .i64 0, .int .i64 0, .int .i64 0, .int .i64 0, .int .i64 0, .int .i64 0, .int .i64 0] 107))
    generalize w4.alloc (.cells #[.int .i64 0, .int .i64 0, .int .i64 0, .int .i64 0, .int .i64 0, .int .i64 0, .int .i64 0, .int .i64 0, .int .i64 0, .int .i64 0] 107) = W6 at HB6 HS6 HK6 ⊢
    clear HB5 HS5 HK5
    obtain ⟨y0, y1, y2, y3, y4, y5, y6, y7, y8, y9, y10, y11, y12⟩ := cells13 HB6.out
    obtain ⟨z0, z1, z2, z3, z4⟩ := cells5 HS6.out
    have HKd : Hid (Kp0 w W6.drew) := hid HK6.out.drew
    clear y1 y12
    go_cut [11, 18] from 45 (fun s11 s18 W => ∃ a b, s11 = .int .i64 b ∧ s18 = .int .i64 a ∧ R a b W)
    case first =>
      go_region_held3 (fun W => W.cell? ⟨b0, 0, none⟩ = some (.int .i64 1) ∧ W.cell? ⟨b0, 2, none⟩ = some (.int .i64 (nth x.l 0)) ∧ W.cell? ⟨b0, 3, none⟩ = some (.int .i64 (nth x.l 1)) ∧ W.cell? ⟨b0, 4, none⟩ = some (.int .i64 (nth x.l 2)) ∧ W.cell? ⟨b0, 5, none⟩ = some (.int .i64 (nth x.l 3)) ∧ W.cell? ⟨b0, 6, none⟩ = some (.int .i64 (n : Int)) ∧ W.cell? ⟨b0, 7, none⟩ = some (.int .i64 x.f) ∧ W.cell? ⟨b0, 8, none⟩ = some (.int .i64 (nth x.t 0)) ∧ W.cell? ⟨b0, 9, none⟩ = some (.int .i64 (nth x.t 1)) ∧ W.cell? ⟨b0, 10, none⟩ = some (.int .i64 (nth x.t 2)) ∧ W.cell? ⟨b0, 11, none⟩ = some (.int .i64 (nth x.t 3)) ∧ W.cell? ⟨b1, 0, none⟩ = some (.int .i64 (nth s 0)) ∧ W.cell? ⟨b1, 1, none⟩ = some (.int .i64 (nth s 1)) ∧ W.cell? ⟨b1, 2, none⟩ = some (.int .i64 (nth s 2)) ∧ W.cell? ⟨b1, 3, none⟩ = some (.int .i64 (nth s 3)) ∧ W.cell? ⟨b1, 4, none⟩ = some (.int .i64 (m : Int))) (go_keep)
        ((first
        | (refine step_call1 (by rfl) 60 (.tmp 72) _ (by rfl) _ Tryz.func60 (by kernel_rfl) (by kernel_rfl) _ (by rfl) (HC2.out _) ?_; intro v7 w7 hR7; obtain ⟨ao, c7, rfl, hk7, hf7⟩ := hR7; have y0 := hk7.cell y0; have y2 := hk7.cell y2; have y3 := hk7.cell y3; have y4 := hk7.cell y4; have y5 := hk7.cell y5; have y6 := hk7.cell y6; have y7 := hk7.cell y7; have y8 := hk7.cell y8; have y9 := hk7.cell y9; have y10 := hk7.cell y10; have y11 := hk7.cell y11; have z0 := hk7.cell z0; have z1 := hk7.cell z1; have z2 := hk7.cell z2; have z3 := hk7.cell z3; have z4 := hk7.cell z4)
        | (refine step_invoke1 (by rfl) (.tmp 76) "Read" (.tmp 73) _ (by rfl) _ (.slice ao mc c7) (by rfl) (by rfl) _ _ (HMR.out _ _) (HR2.out _ _ (Kp0.trans HKd.out hk7) hf7.1) ?_; intro v8 w8 hR8; obtain ⟨ao8, c8, rfl, hk8, hf8⟩ := hR8; have y0 := hk8.cell y0; have y2 := hk8.cell y2; have y3 := hk8.cell y3; have y4 := hk8.cell y4; have y5 := hk8.cell y5; have y6 := hk8.cell y6; have y7 := hk8.cell y7; have y8 := hk8.cell y8; have y9 := hk8.cell y9; have y10 := hk8.cell y10; have y11 := hk8.cell y11; have z0 := hk8.cell z0; have z1 := hk8.cell z1; have z2 := hk8.cell z2; have z3 := hk8.cell z3; have z4 := hk8.cell z4)
        | (refine step_call5 (by rfl) 59 (.tmp 65) (.tmp 67) (.tmp 68) (.tmp 69) (.tmp 77) _ (by rfl) _ Tryz.func59 (by kernel_rfl) (by kernel_rfl) _ _ _ _ _ (by rfl) (by rfl) (by rfl) (by rfl) (by rfl) (HM2.out _ _ (Kp0.trans (Kp0.trans HKd.out hk7) hk8) (hf8.le (Kp0.trans HKd.out hk7).size)) ?_; intro v9 w9 hR9; obtain ⟨a9, b9, rfl, hR9, hk9⟩ := hR9; have y0 := hk9.cell y0 HN0.out; have y2 := hk9.cell y2 HN0.out; have y3 := hk9.cell y3 HN0.out; have y4 := hk9.cell y4 HN0.out; have y5 := hk9.cell y5 HN0.out; have y6 := hk9.cell y6 HN0.out; have y7 := hk9.cell y7 HN0.out; have y8 := hk9.cell y8 HN0.out; have y9 := hk9.cell y9 HN0.out; have y10 := hk9.cell y10 HN0.out; have y11 := hk9.cell y11 HN0.out; have z0 := hk9.cell z0 HN1.out; have z1 := hk9.cell z1 HN1.out; have z2 := hk9.cell z2 HN1.out; have z3 := hk9.cell z3 HN1.out; have z4 := hk9.cell z4 HN1.out)))
      all_goals
        have HR9 := hid hR9
        clear hR9 hk7 hk8 hk9 hf7 hf8 y0 y2 y3 y4 y5 y6 y7 y8 y9 y10 y11 z0 z1 z2 z3 z4
        go_wp2_with fail
        go_meet
        case rel => exact ⟨_, _, rfl, rfl, HR9.out⟩
    case rest =>
      obtain ⟨a9, b9, rfl, rfl, hR9⟩ := hcut
      have HR9 := hid hR9
      clear hR9 y0 y2 y3 y4 y5 y6 y7 y8 y9 y10 y11 z0 z1 z2 z3 z4
      go_wp2
      go_ret3
      exact ⟨_, _, rfl, HR9.out⟩

end Go.Proofs.YticbbncdcannlaaGreat

/- Views of views: turned there and back, cut backward twice, cut in two steps and in one, reshaped there and back. No program. -/
namespace Go.Proofs.YticbbncdcannlaaGreat

/-- The ranks in s that the indices of s' mean by F. -/
def rkOf (s s' : List Int) (F : List Int → List Int) : List Int := (List.range (vol s').toNat).map fun r : Nat => rank s (F (idx s' r))

theorem rkOf_length (s s' : List Int) (F : List Int → List Int) : (rkOf s s' F).length = (vol s').toNat := by simp [rkOf]
theorem rkOf_nth (s s' : List Int) (F : List Int → List Int) (j : Nat) (h : j < (vol s').toNat) : nth (rkOf s s' F) j = rank s (F (idx s' j)) := by
  rw [nth_lt (by rw [rkOf_length]; exact h)]
  simp [rkOf]

theorem rkOf_congr {s s' : List Int} (hs' : sized s') {F G : List Int → List Int} (h : ∀ i, inB s' i → F i = G i) : rkOf s s' F = rkOf s s' G := by
  unfold rkOf
  refine List.map_congr_left (fun r _ => ?_)
  rw [h _ (idx_in s' r hs')]

theorem picked_two {s s' s'' : List Int} (hs' : sized s') (hs'' : sized s'') (R : List Int) (F G : List Int → List Int) (hG : ∀ i, inB s'' i → inB s' (G i)) : picked (picked R (rkOf s s' F)) (rkOf s' s'' G) = picked R (rkOf s s'' fun i => F (G i)) := by
  refine ext_nth (by simp [picked, rkOf_length]) (fun j hj => ?_)
  have hj' : j < (vol s'').toNat := by simpa [picked, rkOf_length] using hj
  rw [picked_nth (picked R (rkOf s s' F)) (rkOf s' s'' G) j (by rw [rkOf_length]; exact hj'), picked_nth R (rkOf s s'' fun i => F (G i)) j (by rw [rkOf_length]; exact hj'), rkOf_nth s' s'' G j hj', rkOf_nth s s'' _ j hj']
  have hin := hG _ (idx_in s'' j hs'')
  have hb := rank_bd s' (G (idx s'' j)) hs' (fun k hk => hin.2 k hk) s'.length (Nat.le_refl _)
  rw [List.take_length] at hb
  rw [rank_in hin, picked_nth _ _ _ (by rw [rkOf_length]; omega), rkOf_nth _ _ _ _ (by omega), Int.toNat_of_nonneg hb.1, idx_rank s' _ hs' hin]

theorem picked_id {s : List Int} (hs : sized s) (R : List Int) (hR : (R.length : Int) = vol s) (F : List Int → List Int) (hF : ∀ i, inB s i → F i = i) : picked R (rkOf s s F) = R := by
  refine ext_nth (by simp [picked, rkOf_length]; omega) (fun j hj => ?_)
  have hj' : j < (vol s).toNat := by simpa [picked, rkOf_length] using hj
  rw [picked_nth _ _ _ (by rw [rkOf_length]; exact hj'), rkOf_nth _ _ _ _ hj', hF _ (idx_in s j hs), rank_idx s j hs (by omega) (by omega), Int.toNat_natCast]

/-- Turned there and back. -/
theorem turn_back {l ax hm R : List Int} (hs : okShape l) (h1 : ax.length = l.length) (ha : axesTo l.length ax l.length) (h2 : hm.length = l.length) (hh : axesTo l.length hm l.length) (hi : ∀ k, k < l.length → nth ax (nth hm k).toNat = k) (hR : (R.length : Int) = vol l) :
    turnS (turnS l ax) hm = l ∧ picked (picked R (turnRk l ax)) (turnRk (turnS l ax) hm) = R := by
  have e1 : turnS (turnS l ax) hm = l := by
    refine ext_nth (by rw [turnS_length, h2]) (fun j hj => ?_)
    rw [turnS_length, h2] at hj
    have := (hh j hj).1
    rw [turnS_nth _ _ _ (by omega), turnS_nth _ _ _ (by omega), hi j hj, Int.toNat_natCast]
  refine ⟨e1, ?_⟩
  have hs' := turn_shape hs h1 ha
  have hl : (turnS l ax).length = l.length := by rw [turnS_length, h1]
  have hin : ∀ i, inB l i → inB (turnS l ax) (turnTo l.length hm i l.length) := fun i hi' => by
    refine ⟨by rw [turnTo_length, hl], ?_⟩
    have := turnTo_in (ax := hm) hs' (by rw [hl]; exact h2) (by rw [hl]; exact hh) (l := i) (by rw [e1]; exact hi') (turnS l ax).length (Nat.le_refl _)
    rw [hl] at this ⊢
    exact this
  have e2 : turnRk (turnS l ax) hm = rkOf (turnS l ax) l fun i => turnTo l.length hm i l.length := by
    unfold turnRk rkOf
    rw [e1, hl]
  rw [e2, show turnRk l ax = rkOf l (turnS l ax) (fun i => turnTo l.length ax i l.length) from rfl, picked_two hs'.2.1 hs.2.1 R _ _ hin]
  refine picked_id hs.2.1 R hR _ (fun i hi' => ?_)
  refine ext_nth (by rw [turnTo_length]; exact hi'.1) (fun j hj => ?_)
  rw [turnTo_length] at hj
  have h3 := (hh j hj).1
  have := turnTo_nth (l := turnTo l.length hm i l.length) ha (nth hm j).toNat (by omega)
  rw [hi j hj, Int.toNat_natCast] at this
  rw [this, turnTo_nth hh j hj]

theorem set_self (l : List Int) (k : Nat) (h : k < l.length) : l.set k (nth l k) = l := by
  rw [nth_lt h]
  simp

/-- Cut backward twice. -/
theorem cut_back {l R : List Int} (hs : okShape l) {k cn : Nat} (hk : k < l.length) (hc : nth l k = (cn : Int)) (h1 : 1 ≤ cn) (hR : (R.length : Int) = vol l) :
    picked (picked R (cutRk l k ((cn : Int) - 1) cn (-1))) (cutRk l k ((cn : Int) - 1) cn (-1)) = R := by
  have e0 : l.set k (cn : Int) = l := by rw [← hc]; exact set_self l k hk
  have e1 : cutRk l k ((cn : Int) - 1) cn (-1) = rkOf l l fun i => cutL i k ((cn : Int) - 1) cn (-1) := by
    unfold cutRk rkOf
    rw [e0]
  have hin : ∀ i, inB l i → inB l (cutL i k ((cn : Int) - 1) cn (-1)) := fun i hi => cutL_in hs hk h1 (fun j hj => by omega) (by rw [e0]; exact hi)
  rw [e1, picked_two hs.2.1 hs.2.1 R _ _ hin]
  refine picked_id hs.2.1 R hR _ (fun i hi => ?_)
  have hkl : k < i.length := by rw [← hi.1]; exact hk
  unfold cutL
  refine ext_nth (by simp) (fun j hj => ?_)
  rw [nth_setN _ _ _ _ (by simpa using hkl), nth_setN _ _ _ _ hkl, nth_setN _ _ _ _ hkl, if_pos rfl]
  by_cases hjk : j = k
  · subst hjk
    rw [if_pos rfl]
    have := hi.2 j hk
    split <;> omega
  · rw [if_neg hjk, if_neg hjk]

/-- Cut in two steps and in one. -/
theorem cut_steps {l : List Int} (hs : okShape l) {k cn hf : Nat} (hk : k < l.length) (hc : nth l k = (cn : Int)) (h2 : 1 < cn) (hh : (hf : Int) = (cn : Int) / 2) (R : List Int) :
    picked R (cutRk l k 1 hf 2) = picked (picked R (cutRk l k 1 ((cn - 1 : Nat) : Int) 1)) (cutRk (l.set k ((cn - 1 : Nat) : Int)) k 0 hf 2) := by
  have hk1 : k < (l.set k ((cn - 1 : Nat) : Int)).length := by simpa using hk
  have hs1 : okShape (l.set k ((cn - 1 : Nat) : Int)) := cut_shape (start := 1) (step := 1) hs hk (by omega) (by omega) (fun i hi => by omega)
  have n1 : nth (l.set k ((cn - 1 : Nat) : Int)) k = ((cn - 1 : Nat) : Int) := by rw [nth_setN _ _ _ _ hk, if_pos rfl]
  have hs2 : okShape ((l.set k ((cn - 1 : Nat) : Int)).set k (hf : Int)) := cut_shape (start := 0) (step := 2) hs1 hk1 (by omega) (by omega) (fun i hi => by rw [n1]; omega)
  have hin : ∀ i, inB ((l.set k ((cn - 1 : Nat) : Int)).set k (hf : Int)) i → inB (l.set k ((cn - 1 : Nat) : Int)) (cutL i k 0 hf 2) := fun i hi => cutL_in hs1 hk1 (by omega) (fun j hj => by rw [n1]; omega) hi
  rw [show cutRk (l.set k ((cn - 1 : Nat) : Int)) k 0 hf 2 = rkOf (l.set k ((cn - 1 : Nat) : Int)) ((l.set k ((cn - 1 : Nat) : Int)).set k (hf : Int)) (fun i => cutL i k 0 hf 2) from rfl,
    show cutRk l k 1 ((cn - 1 : Nat) : Int) 1 = rkOf l (l.set k ((cn - 1 : Nat) : Int)) (fun i => cutL i k 1 ((cn - 1 : Nat) : Int) 1) from rfl, picked_two hs1.2.1 hs2.2.1 R _ _ hin]
  rw [show cutRk l k 1 hf 2 = rkOf l (l.set k (hf : Int)) (fun i => cutL i k 1 hf 2) from rfl]
  rw [List.set_set] at hs2 hin ⊢
  congr 1
  refine rkOf_congr hs2.2.1 (fun i hi => ?_)
  have hkl : k < i.length := by rw [← hi.1]; simpa using hk
  have hik := hi.2 k (by simpa using hk)
  rw [nth_setN _ _ _ _ hk, if_pos rfl] at hik
  unfold cutL
  refine ext_nth (by simp) (fun j hj => ?_)
  rw [nth_setN _ _ _ _ hkl, nth_setN _ _ _ _ (by simpa using hkl), nth_setN _ _ _ _ hkl, nth_setN _ _ _ _ hkl, if_pos rfl]
  by_cases hjk : j = k
  · subst hjk
    rw [if_pos rfl, if_pos rfl]
    split
    · rw [if_pos (by omega)]
      omega
    · split <;> omega
  · rw [if_neg hjk, if_neg hjk, if_neg hjk]

theorem vol_drop_le (l : List Int) (hs : sized l) (hl : l.length ≤ 4) (k : Nat) (hk : k ≤ l.length) : vol (l.drop k) ≤ vol l := by
  induction k with
  | zero => simp
  | succ k ih =>
    have h1 := ih (by omega)
    have h2 := vol_drop l k (by omega)
    have h3 := hs k (by omega)
    have h4 := (vol_drop_bd l hs hl (k + 1) hk).1
    have : 1 * vol (l.drop (k + 1)) ≤ nth l k * vol (l.drop (k + 1)) := Int.mul_le_mul_of_nonneg_right h3.1 (by omega)
    omega

/-- Numbers in equal steps are even in every shape. -/
theorem even_steps {l R : List Int} (hs : okShape l) (hl : (R.length : Int) = vol l) (d : Int) (h : ∀ r, r < R.length → nth R r = nth R 0 + (r : Int) * d) : evenB l R = true := by
  rw [even_iff l R hs hl]
  intro r hr
  obtain ⟨t, ht⟩ : ∃ t, t = mkL l.length (wst l) := ⟨_, rfl⟩
  have htn : ∀ k, k < l.length → nth t k = wst l k := fun k hk => by rw [ht, mkL_nth, if_pos hk]
  have e1 : dotTo (idx l r) t l.length = r := by
    have hi := idx_in l r hs.2.1
    have h1 := (nth_gc l t (idx l r) 0 hs.2.1 l.length (Nat.le_refl _) (fun j hj => hi.2 j hj)).2.2
    have h2 := rank_idx l r hs.2.1 (by omega) (by omega)
    rw [rank_in hi] at h2
    rw [h2, gc_whole_all l t 0 hs.2.1 htn, Int.toNat_natCast, nth_rng _ _ _ (by omega)] at h1
    omega
  have e2 : ∀ m, m ≤ l.length → dotTo (idx l r) (evenT l R) m = dotTo (idx l r) t m * d := fun m hm => by
    induction m with
    | zero => simp [dotTo]
    | succ m ih =>
      rw [dotTo, dotTo, ih (by omega), evenT_nth l R m (by omega), htn m (by omega), wst, stepOf]
      by_cases h1 : 1 < nth l m
      · have hp := vol_drop_bd l hs.2.1 hs.1 (m + 1) hm
        have h2 := vol_drop l m (by omega)
        have h3 := vol_drop_le l hs.2.1 hs.1 m (by omega)
        have h4 : 2 * vol (l.drop (m + 1)) ≤ nth l m * vol (l.drop (m + 1)) := Int.mul_le_mul_of_nonneg_right h1 (by omega)
        rw [if_pos h1, if_neg (by omega), h _ (by omega), Int.toNat_of_nonneg (by omega), Int.add_mul, Int.mul_assoc]
        congr 2
        omega
      · have h3 := hs.2.1 m (by omega)
        rw [if_neg h1, if_pos (by omega)]
        simp
  rw [e2 _ (Nat.le_refl _), e1]
  exact h r hr

theorem even_line {v : Int} {R : List Int} (hs : okShape [v]) (hl : (R.length : Int) = v) (h : evenB [v] R = true) : ∃ d, ∀ r, r < R.length → nth R r = nth R 0 + (r : Int) * d := by
  have hv : vol [v] = v := by simp [vol]
  rw [even_iff [v] R hs (by rw [hv]; exact hl)] at h
  refine ⟨nth (evenT [v] R) 0, fun r hr => ?_⟩
  have e := h r hr
  have e1 : nth (idx [v] r) 0 = r := by
    have := rank_idx [v] r hs.2.1 (by omega) (by rw [hv]; omega)
    rw [rank_in (idx_in [v] r hs.2.1)] at this
    simpa [rankTo] using this
  rw [e]
  simp [dotTo, e1]

section
variable {σ : Sp} {E : List CE} {n : Nat} {V : List Int} {B : Nat}

/-- A copy: the array that is new. -/
theorem KM.fresh (h : KM σ E n V B) {i : Nat} {e : CE} (he : E[i]? = some e) (hlt : E.length < 40) (s : List Int) (hv : vol s = vol e.shape) (f : Nat → Int) :
    ∃ p, (σ.fresh 2 s f).2 = ((σ.arrs.length : Int) + 1, 0) ∧ (σ.fresh 2 s f).1.find ((σ.arrs.length : Int) + 1) = some ⟨2, s, rng p e.ranks.length, false, σ.bufs.length⟩ ∧ (σ.fresh 2 s f).1.live = E.length + 1 ∧ (σ.fresh 2 s f).1.arrs.length ≤ B + 1 ∧ (σ.fresh 2 s f).1.bufs.length ≤ B + 1 := by
  have hlv : ¬ 40 ≤ σ.live := by rw [h.live]; omega
  have hvl := h.rlen he
  have hv4 := (h.ent i e he).2.2.1
  have hpos : 1 ≤ (vol s).toNat := by
    have : 1 ≤ vol e.shape := vol_whole (h.aok he).shape
    omega
  obtain ⟨m, hm⟩ : ∃ m, (vol s).toNat = m := ⟨_, rfl⟩
  rw [hm] at hpos
  have hml : e.ranks.length = m := by omega
  obtain ⟨p1, p2⟩ := h.place m hpos (by omega)
  obtain ⟨p, hp⟩ : ∃ p, σ.place 2 m = p := ⟨_, rfl⟩
  rw [hp] at p1 p2
  have hfr : σ.fresh 2 s f = (σ.made 2 p s m f, (σ.arrs.length : Int) + 1, 0) := by
    unfold Sp.fresh
    rw [if_neg hlv, hm, hp, if_neg (by omega)]
  obtain ⟨a1, a2, -⟩ := puts_arrs (σ.more ⟨2, p, m⟩) 2 p f m
  have harr : (σ.made 2 p s m f).arrs = σ.arrs ++ [some ⟨2, s, rng p m, false, σ.bufs.length⟩] := by
    show (Sp.puts _ _ _ _ _).arrs ++ _ = _
    rw [a1]
    rfl
  have hix : ix ((σ.arrs.length : Int) + 1) = σ.arrs.length := by unfold ix; omega
  rw [hfr, hml]
  have hbuf : (σ.made 2 p s m f).bufs = σ.bufs ++ [⟨2, p, m⟩] := by
    show (Sp.puts _ _ _ _ _).bufs = _
    rw [a2]
    rfl
  refine ⟨p, rfl, ?_, ?_, ?_, ?_⟩
  rotate_left 2
  · show (σ.made 2 p s m f).arrs.length ≤ _
    rw [harr]
    have := h.many
    simp
    omega
  · show (σ.made 2 p s m f).bufs.length ≤ _
    rw [hbuf]
    have := h.bufs
    simp
    omega
  · show (σ.made 2 p s m f).find _ = _
    unfold Sp.find
    rw [if_pos (by omega), hix, harr]
    simp [List.getD]
  · have := h.live
    unfold Sp.live at this ⊢
    show ((σ.made 2 p s m f).arrs.filter _).length = _
    rw [harr]
    simp [List.filter_append, this]

/-- Reshaped to a line and back: a view; of the same cells where the line is one. -/
theorem KM.round (h : KM σ E n V B) {i : Nat} {e : CE} (he : E[i]? = some e) (hlt : E.length + 1 < 40) (hv : vol e.shape ≤ 60) (hm : B + 2 ≤ 100000000) :
    ∃ vw hw, (σ.reshape e.h [vol e.shape]).2 = ((σ.arrs.length : Int) + 1, vw, 0) ∧ ((σ.reshape e.h [vol e.shape]).1.reshape ((σ.arrs.length : Int) + 1) e.shape).2 = (hw, true, 0) ∧
      (vw = true → ∃ E', KM ((σ.reshape e.h [vol e.shape]).1.reshape ((σ.arrs.length : Int) + 1) e.shape).1 (E ++ E') n V (B + 2) ∧ E'[1]? = some ⟨hw, e.shape, e.ranks, e.ro⟩) ∧
      (σ.reshape e.h [vol e.shape]).1.arrs.length ≤ B + 1 ∧ (σ.reshape e.h [vol e.shape]).1.bufs.length ≤ B + 1 := by
  have hs : okShape e.shape := (h.aok he).shape
  have hp := vol_whole hs
  have hv1 : vol [vol e.shape] = vol e.shape := by
    rw [vol_cons]
    show vol e.shape * 1 = _
    omega
  have hs1 : okShape [vol e.shape] := ⟨by simp, fun j hj => by
    have : j = 0 := by simpa using hj
    subst this
    show 1 ≤ vol e.shape ∧ vol e.shape ≤ 60
    omega, by rw [hv1]; omega⟩
  have hrl := h.rlen he
  rcases h.reshape he (by omega) [vol e.shape] hs1 hv1 (by have := h.many; omega) with ⟨c0, c1, c2⟩ | ⟨c0, f, hf, c1, c2⟩
  · obtain ⟨d, hd⟩ := even_line hs1 hrl c0
    have hN : (E ++ [⟨(σ.arrs.length : Int) + 1, [vol e.shape], e.ranks, e.ro⟩] : List CE)[E.length]? = some ⟨(σ.arrs.length : Int) + 1, [vol e.shape], e.ranks, e.ro⟩ := by simp
    have hal : (σ.reshape e.h [vol e.shape]).1.arrs.length + 1 ≤ 100000000 := by
      have := c2.many
      omega
    rcases c2.reshape hN (by simp; omega) e.shape hs (by rw [hv1]) hal with ⟨d0, d1, d2⟩ | ⟨d0, -⟩
    · refine ⟨true, _, c1, d1, fun _ => ⟨[⟨(σ.arrs.length : Int) + 1, [vol e.shape], e.ranks, e.ro⟩, ⟨_, e.shape, e.ranks, e.ro⟩], ?_, rfl⟩, c2.many, c2.bufs⟩
      simpa using d2
    · rw [even_steps hs hrl d hd] at d0
      cases d0
  · obtain ⟨p, g1, g2, g3, g4, g5⟩ := h.fresh he (by omega) [vol e.shape] hv1 f
    rw [c1, c2, g1]
    have hev : evenB e.shape (rng p e.ranks.length) = true := even_steps hs (by rw [rng_length]; exact hrl) 1 (fun r hr => by
      rw [rng_length] at hr
      rw [nth_rng _ _ _ hr, nth_rng _ _ _ (by omega)]
      omega)
    refine ⟨false, (((σ.fresh 2 [vol e.shape] f).1.arrs.length : Int) + 1), rfl, ?_, (by intro h; cases h), g4, g5⟩
    · unfold Sp.reshape
      rw [g2]
      show (if shapeB e.shape = false ∨ vol e.shape ≠ vol [vol e.shape] then _ else if evenB e.shape (rng p e.ranks.length) = true then (if 40 ≤ _ then _ else _) else _ : Sp × Int × Bool × Int).2 = _
      rw [if_neg (by rw [(shapeB_iff e.shape).2 hs]; simp [hv1]), if_pos hev, if_neg (by rw [g3]; omega)]

end

end Go.Proofs.YticbbncdcannlaaGreat
