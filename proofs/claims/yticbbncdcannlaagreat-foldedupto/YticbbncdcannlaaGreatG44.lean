/- The program's space, walked: Reshape, where it makes no new buffer. -/
import Derived.Deep.RegionLaw
import Derived.BigRegion
import Derived.Test.YticbbncdcannlaaGreatG36
import Derived.Test.YticbbncdcannlaaGreatG43
import Derived.Deep.Cut
import Derived.Deep.RegionHeld3
import Derived.Test.YticbbncdcannlaaGreatG34
import Derived.Test.YticbbncdcannlaaGreatG14
import Derived.Test.YticbbncdcannlaaGreatG37
import Derived.Test.YticbbncdcannlaaGreatG28
import Derived.Test.YticbbncdcannlaaGreatG29
import Derived.Test.YticbbncdcannlaaGreatG33
import Derived.Test.YticbbncdcannlaaGreatG39

namespace Go.Proofs.YticbbncdcannlaaGreat
open Go.RowKit Go.Maps Go.ChangeMaps Go.MapKept

/-- A call of a Go function of one argument, by its contract, as a step of a region that draws; its guard is asked for. -/
theorem step_call1w {P : Program} {ops : Array Oper} {o : Oper} {a : Act} {w : World} {K : Act → World → Prop} {Q : Exit → Act → World → Prop} {E : Prop} (hw : Region.wanted o (yielded ops a.tmps) = true) (f : FuncId) (x : Operand) (ts : Array TypeId)
    (ho : o.op = .call { callee := .value (.func f), args := #[x], argTypes := ts }) (fn : Func) (hf : P.funcs[f]? = some fn) (hname : (fn.name == "runtime.NumGoroutine") = false) (hb : fn.body.isSome = true) (vx : Value) (hx : a.eval x = vx) {R : Value → World → Prop}
    (hc : Calls P f #[vx] w fun e w' => ∃ v, e = .returned v ∧ R v w') (h : ∀ v w', R v w' → K (a.put o.dst v) w') :
    if Region.wanted o (yielded ops a.tmps) = true then Oper.wp P o a w K Q else E := by
  rw [if_pos hw]
  have hr := run_callFunc_body (P := P) hf hname hb
  have hev : a.eval (.func f) = .func (.func f) #[] #[] := rfl
  unfold Oper.wp execOp
  simp [ho, resolve, hev, Deferred.ofValue, invoke, hx, hr, Oper.upon]
  refine hc.mono ?_
  rintro e w' ⟨v, rfl, hR⟩
  exact h v w' hR

set_option maxRecDepth 100000 in
set_option maxHeartbeats 1000000 in
theorem xReshape_none {T : Tags} {o : Nat} {w : World} {p : Nat} {L : XL} {X : XS} (h : XAt T o w p L X) (hd : Int) (va : Value) (hA : X.A hd = none) :
    Calls Tryz.prog 24 #[.pointer (some ⟨p, 0, none⟩), .int .i64 hd, va] w fun e w' => e = .returned (.tuple #[.int .i64 0, .bool false, .int .i64 2]) ∧ Kp0 w w' := by
  have HF := hid (xfind_none h hd hA)
  unfold xaZ at HF
  clear h hA
  go_enter Tryz.func24, Tryz.ntmps24
  go_wp2_with fail
  refine HF.out.mono ?_
  rintro e w2 ⟨rfl, hw⟩
  have HK := hid hw
  clear hw
  go_wp2
  go_ret3
  exact ⟨rfl, HK.out.alloc _⟩

set_option maxRecDepth 100000 in
set_option maxHeartbeats 1000000 in
theorem xReshape_shape {T : Tags} {o : Nat} {w : World} {p : Nat} {L : XL} {X : XS} (h : XAt T o w p L X) (hd : Int) (va : Value) (x : XA) (hA : X.A hd = some x) (hk : x.kind = 1 ∨ x.kind = 2)
    (HG : Hid (∀ W, Kp0 w W → Calls Tryz.prog 56 #[va] W fun e w' => e = .returned (.tuple #[.agg (shC []).toArray, .bool false]) ∧ Kp0 W w')) :
    Calls Tryz.prog 24 #[.pointer (some ⟨p, 0, none⟩), .int .i64 hd, va] w fun e w' => e = .returned (.tuple #[.int .i64 0, .bool false, .int .i64 4]) ∧ Kp0 w w' := by
  have HF := hid (xfind_some h hd x hA hk)
  generalize L.inV x.kind = I at *
  unfold XA.cs at HF
  unfold shC at HG
  generalize x.l.length = n at *
  clear h hA hk
  go_enter Tryz.func24, Tryz.ntmps24
  go_wp2_with fail
  refine HF.out.mono ?_
  rintro e w2 ⟨rfl, hw⟩
  have HK := hid hw
  clear hw
  go_wp2_with fail
  refine (HG.out _ (HK.out.alloc _)).mono ?_
  rintro e w3 ⟨rfl, hw⟩
  have HK3 : Hid (Kp0 w w3) := Kp0.trans (HK.out.alloc _) hw
  clear hw
  go_wp2
  go_region
  go_wp2
  go_ret3
  exact ⟨rfl, Kp.drew (HK3.out.alloc _)⟩

set_option maxRecDepth 100000 in
set_option maxHeartbeats 4000000 in
theorem xReshape_vol {T : Tags} {o : Nat} {w : World} {p : Nat} {L : XL} {X : XS} (h : XAt T o w p L X) (hd : Int) (va : Value) (x : XA) (s : List Int) (hA : X.A hd = some x) (hk : x.kind = 1 ∨ x.kind = 2) (hl : okShape x.l) (hs : okShape s) (hv : vol s ≠ vol x.l)
    (HS : Hid (∀ W, Kp0 w W → Calls Tryz.prog 56 #[va] W fun e w' => e = .returned (.tuple #[.agg (shC s).toArray, .bool true]) ∧ Kp0 W w')) :
    Calls Tryz.prog 24 #[.pointer (some ⟨p, 0, none⟩), .int .i64 hd, va] w fun e w' => e = .returned (.tuple #[.int .i64 0, .bool false, .int .i64 4]) ∧ Kp0 w w' := by
  have HF := hid (xfind_some h hd x hA hk)
  have HV1 : Hid (∀ W, Calls Tryz.prog 57 #[.agg (shC s).toArray] W fun e w' => ∃ v, e = .returned v ∧ (v = .int .i64 (vol s) ∧ Kp0 W w')) := hid (fun W => (xvolume_calls s W hs.2.1 hs.1).mono (fun e w' h => ⟨_, h.1, rfl, h.2⟩))
  have HV2 : Hid (∀ W, Calls Tryz.prog 57 #[.agg (shC x.l).toArray] W fun e w' => ∃ v, e = .returned v ∧ (v = .int .i64 (vol x.l) ∧ Kp0 W w')) := hid (fun W => (xvolume_calls x.l W hl.2.1 hl.1).mono (fun e w' h => ⟨_, h.1, rfl, h.2⟩))
  have d1 : (vol s != vol x.l) = true := by simp [hv]
  generalize vol s = v1 at *
  generalize vol x.l = v2 at *
  generalize L.inV x.kind = I at *
  unfold XA.cs at HF
  unfold shC at HS HV1 HV2
  generalize x.l.length = n at *
  generalize s.length = m at *
  clear h hA hk hl hs hv
  go_enter Tryz.func24, Tryz.ntmps24
  go_wp2_with fail
  refine HF.out.mono ?_
  rintro e w2 ⟨rfl, hw⟩
  have HK := hid hw
  have HB2 : Hid ((w2.alloc (.cells #[.int .i64 x.kind, .int .i64 x.buf, .int .i64 (nth x.l 0), .int .i64 (nth x.l 1), .int .i64 (nth x.l 2), .int .i64 (nth x.l 3), .int .i64 (n : Int), .int .i64 x.f, .int .i64 (nth x.t 0), .int .i64 (nth x.t 1), .int .i64 (nth x.t 2), .int .i64 (nth x.t 3), .bool x.ro] 109)).heap[w2.heap.size]? = some (.cells #[.int .i64 x.kind, .int .i64 x.buf, .int .i64 (nth x.l 0), .int .i64 (nth x.l 1), .int .i64 (nth x.l 2), .int .i64 (nth x.l 3), .int .i64 (n : Int), .int .i64 x.f, .int .i64 (nth x.t 0), .int .i64 (nth x.t 1), .int .i64 (nth x.t 2), .int .i64 (nth x.t 3), .bool x.ro] 109 (0, 0))) := heap_alloc_new w2 _
  clear hw
  go_wp2_with fail
  refine (HS.out _ (HK.out.alloc _)).mono ?_
  rintro e w3 ⟨rfl, hw⟩
  have HB3 := hid (hw.heap HB2.out)
  have HK3 : Hid (Kp0 w w3) := Kp0.trans (HK.out.alloc _) hw
  clear hw HB2
  generalize w2.heap.size = b0 at *
  go_wp2
  have HB4 := hid (heap_alloc_keeps HB3.out (.cells #[.int .i64 (nth s 0), .int .i64 (nth s 1), .int .i64 (nth s 2), .int .i64 (nth s 3), .int .i64 (m : Int)] 104))
  have HS4 := hid (heap_alloc_new w3 (.cells #[.int .i64 (nth s 0), .int .i64 (nth s 1), .int .i64 (nth s 2), .int .i64 (nth s 3), .int .i64 (m : Int)] 104))
  have HK4 := hid (HK3.out.alloc (.cells #[.int .i64 (nth s 0), .int .i64 (nth s 1), .int .i64 (nth s 2), .int .i64 (nth s 3), .int .i64 (m : Int)] 104))
  clear HB3 HK3
  generalize w3.alloc (.cells #[.int .i64 (nth s 0), .int .i64 (nth s 1), .int .i64 (nth s 2), .int .i64 (nth s 3), .int .i64 (m : Int)] 104) = W4 at *
  generalize w3.heap.size = b1 at *
  obtain ⟨y0, y1, y2, y3, y4, y5, y6, y7, y8, y9, y10, y11, y12⟩ := cells13 HB4.out
  obtain ⟨z0, z1, z2, z3, z4⟩ := cells5 HS4.out
  clear y0 y1 y7 y8 y9 y10 y11 y12
  have HKc : Hid (Kp0 w W4.drew) := hid HK4.out.drew
  go_region_law ((first
    | (refine step_call1w (by rfl) 57 (.tmp 37) _ (by rfl) _ Tryz.func57 (by kernel_rfl) (by kernel_rfl) _ (by rfl) (HV1.out _) ?_; intro v7 w7 hR7; obtain ⟨rfl, hk7⟩ := hR7; have HKc := hid (Kp0.trans HKc.out hk7); have y2 := hk7.cell y2; have y3 := hk7.cell y3; have y4 := hk7.cell y4; have y5 := hk7.cell y5; have y6 := hk7.cell y6; have z0 := hk7.cell z0; have z1 := hk7.cell z1; have z2 := hk7.cell z2; have z3 := hk7.cell z3; have z4 := hk7.cell z4; clear hk7)
    | (refine step_call1w (by rfl) 57 (.tmp 41) _ (by rfl) _ Tryz.func57 (by kernel_rfl) (by kernel_rfl) _ (by rfl) (HV2.out _) ?_; intro v7 w7 hR7; obtain ⟨rfl, hk7⟩ := hR7; have HKc := hid (Kp0.trans HKc.out hk7); have y2 := hk7.cell y2; have y3 := hk7.cell y3; have y4 := hk7.cell y4; have y5 := hk7.cell y5; have y6 := hk7.cell y6; have z0 := hk7.cell z0; have z1 := hk7.cell z1; have z2 := hk7.cell z2; have z3 := hk7.cell z3; have z4 := hk7.cell z4; clear hk7)))
  all_goals
    go_wp2
    go_ret3
    exact ⟨rfl, HKc.out⟩

set_option maxRecDepth 100000 in
set_option maxHeartbeats 4000000 in
theorem xReshape_view {T : Tags} {o : Nat} {w : World} {p : Nat} {L : XL} {X : XS} (h : XAt T o w p L X) (hd : Int) (va : Value) (x : XA) (s : List Int) (hA : X.A hd = some x) (hk : x.kind = 1 ∨ x.kind = 2) (hl : okShape x.l) (hs : okShape s) (hv : vol s = vol x.l) (l t : List Int) (f : Int) {R : Int → Int → World → Prop}
    (HS : Hid (∀ W, Kp0 w W → Calls Tryz.prog 56 #[va] W fun e w' => e = .returned (.tuple #[.agg (shC s).toArray, .bool true]) ∧ Kp0 W w'))
    (HG : Hid (∀ W, Calls Tryz.prog 58 #[.agg (grC x.l x.t x.f).toArray, .agg (shC s).toArray] W fun e w' => e = .returned (.tuple #[.agg (grC l t f).toArray, .bool true]) ∧ Kp0 W w'))
    (HV : Hid (∀ W, Kp0 w W → Calls Tryz.prog 54 #[.pointer (some ⟨p, 0, none⟩), .agg x.cs, .agg (grC l t f).toArray] W fun e w' => ∃ a b, e = .returned (.tuple #[.int .i64 a, .int .i64 b]) ∧ R a b w')) :
    Calls Tryz.prog 24 #[.pointer (some ⟨p, 0, none⟩), .int .i64 hd, va] w fun e w' => ∃ a b, e = .returned (.tuple #[.int .i64 a, .bool (b == 0), .int .i64 b]) ∧ R a b w' := by
  have HF := hid (xfind_some h hd x hA hk)
  have HV1 : Hid (∀ W, Calls Tryz.prog 57 #[.agg (shC s).toArray] W fun e w' => ∃ v, e = .returned v ∧ (v = .int .i64 (vol s) ∧ Kp0 W w')) := hid (fun W => (xvolume_calls s W hs.2.1 hs.1).mono (fun e w' h => ⟨_, h.1, rfl, h.2⟩))
  have HV2 : Hid (∀ W, Calls Tryz.prog 57 #[.agg (shC x.l).toArray] W fun e w' => ∃ v, e = .returned v ∧ (v = .int .i64 (vol x.l) ∧ Kp0 W w')) := hid (fun W => (xvolume_calls x.l W hl.2.1 hl.1).mono (fun e w' h => ⟨_, h.1, rfl, h.2⟩))
  rw [hv] at HV1
  generalize vol x.l = v2 at *
  generalize L.inV x.kind = I at *
  unfold XA.cs at HF HV
  unfold shC at HS HV1 HV2 HG
  unfold grC at HG HV
  generalize x.l.length = n at *
  generalize s.length = m at *
  generalize l.length = m2 at *
  clear h hA hk hl hs hv
  go_enter Tryz.func24, Tryz.ntmps24
  go_wp2_with fail
  refine HF.out.mono ?_
  rintro e w2 ⟨rfl, hw⟩
  have HK := hid hw
  have HB2 : Hid ((w2.alloc (.cells #[.int .i64 x.kind, .int .i64 x.buf, .int .i64 (nth x.l 0), .int .i64 (nth x.l 1), .int .i64 (nth x.l 2), .int .i64 (nth x.l 3), .int .i64 (n : Int), .int .i64 x.f, .int .i64 (nth x.t 0), .int .i64 (nth x.t 1), .int .i64 (nth x.t 2), .int .i64 (nth x.t 3), .bool x.ro] 109)).heap[w2.heap.size]? = some (.cells #[.int .i64 x.kind, .int .i64 x.buf, .int .i64 (nth x.l 0), .int .i64 (nth x.l 1), .int .i64 (nth x.l 2), .int .i64 (nth x.l 3), .int .i64 (n : Int), .int .i64 x.f, .int .i64 (nth x.t 0), .int .i64 (nth x.t 1), .int .i64 (nth x.t 2), .int .i64 (nth x.t 3), .bool x.ro] 109 (0, 0))) := heap_alloc_new w2 _
  clear hw
  go_wp2_with fail
  refine (HS.out _ (HK.out.alloc _)).mono ?_
  rintro e w3 ⟨rfl, hw⟩
  have HB3 := hid (hw.heap HB2.out)
  have HK3 : Hid (Kp0 w w3) := Kp0.trans (HK.out.alloc _) hw
  clear hw HB2
  generalize w2.heap.size = b0 at *
  go_wp2
  have HB4 := hid (heap_alloc_keeps HB3.out (.cells #[.int .i64 (nth s 0), .int .i64 (nth s 1), .int .i64 (nth s 2), .int .i64 (nth s 3), .int .i64 (m : Int)] 104))
  have HS4 := hid (heap_alloc_new w3 (.cells #[.int .i64 (nth s 0), .int .i64 (nth s 1), .int .i64 (nth s 2), .int .i64 (nth s 3), .int .i64 (m : Int)] 104))
  have HK4 := hid (HK3.out.alloc (.cells #[.int .i64 (nth s 0), .int .i64 (nth s 1), .int .i64 (nth s 2), .int .i64 (nth s 3), .int .i64 (m : Int)] 104))
  clear HB3 HK3
  generalize w3.alloc (.cells #[.int .i64 (nth s 0), .int .i64 (nth s 1), .int .i64 (nth s 2), .int .i64 (nth s 3), .int .i64 (m : Int)] 104) = W4 at *
  generalize w3.heap.size = b1 at *
  obtain ⟨y0, y1, y2, y3, y4, y5, y6, y7, y8, y9, y10, y11, y12⟩ := cells13 HB4.out
  obtain ⟨z0, z1, z2, z3, z4⟩ := cells5 HS4.out
  clear y0 y1 y7 y8 y9 y10 y11 y12
  have HKc : Hid (Kp0 w W4.drew) := hid HK4.out.drew
  go_region_law ((first
    | (refine step_call1w (by rfl) 57 (.tmp 37) _ (by rfl) _ Tryz.func57 (by kernel_rfl) (by kernel_rfl) _ (by rfl) (HV1.out _) ?_; intro v7 w7 hR7; obtain ⟨rfl, hk7⟩ := hR7; have HKc := hid (Kp0.trans HKc.out hk7); have HB4 := hid (hk7.heap HB4.out); have HS4 := hid (hk7.heap HS4.out); have y2 := hk7.cell y2; have y3 := hk7.cell y3; have y4 := hk7.cell y4; have y5 := hk7.cell y5; have y6 := hk7.cell y6; have z0 := hk7.cell z0; have z1 := hk7.cell z1; have z2 := hk7.cell z2; have z3 := hk7.cell z3; have z4 := hk7.cell z4; clear hk7)
    | (refine step_call1w (by rfl) 57 (.tmp 41) _ (by rfl) _ Tryz.func57 (by kernel_rfl) (by kernel_rfl) _ (by rfl) (HV2.out _) ?_; intro v7 w7 hR7; obtain ⟨rfl, hk7⟩ := hR7; have HKc := hid (Kp0.trans HKc.out hk7); have HB4 := hid (hk7.heap HB4.out); have HS4 := hid (hk7.heap HS4.out); have y2 := hk7.cell y2; have y3 := hk7.cell y3; have y4 := hk7.cell y4; have y5 := hk7.cell y5; have y6 := hk7.cell y6; have z0 := hk7.cell z0; have z1 := hk7.cell z1; have z2 := hk7.cell z2; have z3 := hk7.cell z3; have z4 := hk7.cell z4; clear hk7)))
  all_goals
    clear y2 y3 y4 y5 y6 z0 z1 z2 z3 z4 HV1 HV2 HS HF HK HK4
    have hlt := lt_of_heap HB4.out
    have hlt1 := lt_of_heap HS4.out
    obtain ⟨y0, y1, y2, y3, y4, y5, y6, y7, y8, y9, y10, y11, y12⟩ := cells13 HB4.out
    obtain ⟨z0, z1, z2, z3, z4⟩ := cells5 HS4.out
    go_wp2_with fail
    refine (HG.out _).mono ?_
    rintro e w4 ⟨rfl, hw⟩
    have HB5 := hid (hw.heap HB4.out)
    have HK5 : Hid (Kp0 w w4) := Kp0.trans HKc.out hw
    have hlt4 : b0 < w4.heap.size := lt_of_heap HB5.out
    clear hw y0 y1 y2 y3 y4 y5 y6 y7 y8 y9 y10 y11 y12 z0 z1 z2 z3 z4 HB4 HS4 HKc
    obtain ⟨y0, y1, y2, y3, y4, y5, y6, y7, y8, y9, y10, y11, y12⟩ := cells13 HB5.out
    go_wp2_with fail
    refine (HV.out _ (HK5.out.alloc _)).mono ?_
    rintro e w5 ⟨a, b, rfl, hR⟩
    have HR := hid hR
    clear hR
    go_wp2
    go_ret3
    exact ⟨a, b, rfl, HR.out⟩

end Go.Proofs.YticbbncdcannlaaGreat

/- The program's space at uint8, walked: Reshape, where it makes a new buffer. -/
namespace Go.Proofs.YticbbncdcannlaaGreat
open Go.RowKit Go.Maps Go.ChangeMaps Go.MapKept

set_option maxRecDepth 100000 in
set_option maxHeartbeats 4000000 in
theorem xReshapeCopyB {T : Tags} {o : Nat} {w : World} {p : Nat} {L : XL} {X : XS} (h : XAt T o w p L X) (hd : Int) (va : Value) (x : XA) (s : List Int) (hA : X.A hd = some x) (hk : x.kind = 1) (hl : okShape x.l) (hs : okShape s) (hv : vol s = vol x.l) (mc : Nat) (P : List Int) (mv : Nat) (V : List Int) {S1 : Nat → Prop} (HS1 : Hid (∀ b, S1 b → b < w.heap.size)) {R : Int → Int → World → Prop}
    (HS : Hid (∀ W, Kp0 w W → Calls Tryz.prog 56 #[va] W fun e w' => e = .returned (.tuple #[.agg (shC s).toArray, .bool true]) ∧ Kp0 W w'))
    (HG : Hid (∀ W, Calls Tryz.prog 58 #[.agg (grC x.l x.t x.f).toArray, .agg (shC s).toArray] W fun e w' => e = .returned (.tuple #[.agg zG, .bool false]) ∧ Kp0 W w'))
    (HC : Hid (∀ W, Calls Tryz.prog 60 #[.agg (grC x.l x.t x.f).toArray] W fun e w' => ∃ ao c, e = .returned (.slice ao mc c) ∧ Kp0 W w' ∧ Fr W.heap.size w' (.slice ao mc c) P))
    (HRd : Hid (∀ W vp, Kp0 w W → RdI W vp P → Calls Tryz.prog 195 #[.pointer (some ⟨L.q1, 0, none⟩), vp] W fun e w' => ∃ ao c, e = .returned (.slice ao mv c) ∧ Kp0 W w' ∧ Fr W.heap.size w' (.slice ao mv c) V))
    (HM : Hid (∀ W vv, Kp0 w W → Fr w.heap.size W vv V → Calls Tryz.prog 59 #[.pointer (some ⟨p, 0, none⟩), .int .i64 1, .iface 126 (.pointer (some ⟨L.q1, 0, none⟩)), .agg (shC s).toArray, vv] W fun e w' => ∃ a b, e = .returned (.tuple #[.int .i64 a, .int .i64 b]) ∧ R a b w' ∧ Kp S1 W w')) :
    Calls Tryz.prog 24 #[.pointer (some ⟨p, 0, none⟩), .int .i64 hd, va] w fun e w' => ∃ a b, e = .returned (.tuple #[.int .i64 a, .bool false, .int .i64 b]) ∧ R a b w' := by
  have HF := hid (xfind_some h hd x hA (.inl hk))
  rw [hk, inVB] at HF
  have HC2 : Hid (∀ W, Calls Tryz.prog 60 #[.agg (grC x.l x.t x.f).toArray] W fun e w' => ∃ v, e = .returned v ∧ ∃ ao c, v = .slice ao mc c ∧ Kp0 W w' ∧ Fr W.heap.size w' (.slice ao mc c) P) := hid (fun W => (HC.out W).mono (fun e w' ⟨ao, c, h1, h2, h3⟩ => ⟨_, h1, ao, c, rfl, h2, h3⟩))
  have HR2 : Hid (∀ W vp, Kp0 w W → RdI W vp P → Calls Tryz.prog 195 #[.pointer (some ⟨L.q1, 0, none⟩), vp] W fun e w' => ∃ v, e = .returned v ∧ ∃ ao c, v = .slice ao mv c ∧ Kp0 W w' ∧ Fr W.heap.size w' (.slice ao mv c) V) := hid (fun W vp k hr => (HRd.out W vp k hr).mono (fun e w' ⟨ao, c, h1, h2, h3⟩ => ⟨_, h1, ao, c, rfl, h2, h3⟩))
  have HM2 : Hid (∀ W vv, Kp0 w W → Fr w.heap.size W vv V → Calls Tryz.prog 59 #[.pointer (some ⟨p, 0, none⟩), .int .i64 1, .iface 126 (.pointer (some ⟨L.q1, 0, none⟩)), .agg (shC s).toArray, vv] W fun e w' => ∃ v, e = .returned v ∧ ∃ a b, v = .tuple #[.int .i64 a, .int .i64 b] ∧ R a b w' ∧ Kp S1 W w') := hid (fun W vv k hr => (HM.out W vv k hr).mono (fun e w' ⟨a, b, h1, h2⟩ => ⟨_, h1, a, b, rfl, h2⟩))
  have HMR := hid (Tryz.mReadB ⟨L.q1, 0, none⟩)
  have hna := Tryz.nReadB ⟨L.q1, 0, none⟩
  have HV1 : Hid (∀ W, Calls Tryz.prog 57 #[.agg (shC s).toArray] W fun e w' => ∃ v, e = .returned v ∧ (v = .int .i64 (vol s) ∧ Kp0 W w')) := hid (fun W => (xvolume_calls s W hs.2.1 hs.1).mono (fun e w' h => ⟨_, h.1, rfl, h.2⟩))
  have HV2 : Hid (∀ W, Calls Tryz.prog 57 #[.agg (shC x.l).toArray] W fun e w' => ∃ v, e = .returned v ∧ (v = .int .i64 (vol x.l) ∧ Kp0 W w')) := hid (fun W => (xvolume_calls x.l W hl.2.1 hl.1).mono (fun e w' h => ⟨_, h.1, rfl, h.2⟩))
  rw [hv] at HV1
  generalize vol x.l = v2 at *
  clear HC HRd HM
  generalize L.q1 = q at *
  unfold XA.cs at HF
  rw [hk] at HF
  unfold shC at HS HV1 HV2 HG HM2
  unfold grC at HG HC2
  unfold zG at HG
  generalize x.l.length = n at *
  generalize s.length = m at *
  clear h hA hk hl hs hv
  go_enter Tryz.func24, Tryz.ntmps24
  go_wp2_with fail
  refine HF.out.mono ?_
  rintro e w2 ⟨rfl, hw⟩
  have HK := hid hw
  have HB2 : Hid ((w2.alloc (.cells #[.int .i64 1, .int .i64 x.buf, .int .i64 (nth x.l 0), .int .i64 (nth x.l 1), .int .i64 (nth x.l 2), .int .i64 (nth x.l 3), .int .i64 (n : Int), .int .i64 x.f, .int .i64 (nth x.t 0), .int .i64 (nth x.t 1), .int .i64 (nth x.t 2), .int .i64 (nth x.t 3), .bool x.ro] 109)).heap[w2.heap.size]? = some (.cells #[.int .i64 1, .int .i64 x.buf, .int .i64 (nth x.l 0), .int .i64 (nth x.l 1), .int .i64 (nth x.l 2), .int .i64 (nth x.l 3), .int .i64 (n : Int), .int .i64 x.f, .int .i64 (nth x.t 0), .int .i64 (nth x.t 1), .int .i64 (nth x.t 2), .int .i64 (nth x.t 3), .bool x.ro] 109 (0, 0))) := heap_alloc_new w2 _
  clear hw
  go_wp2_with fail
  refine (HS.out _ (HK.out.alloc _)).mono ?_
  rintro e w3 ⟨rfl, hw⟩
  have HB3 := hid (hw.heap HB2.out)
  have HK3 : Hid (Kp0 w w3) := Kp0.trans (HK.out.alloc _) hw
  have HN0 : Hid (¬ S1 w2.heap.size) := hid (fun e => by have := HS1.out _ e; have := HK.out.size; omega)
  have HN1 : Hid (¬ S1 w3.heap.size) := hid (fun e => by have := HS1.out _ e; have := HK3.out.size; omega)
  clear hw HB2
  generalize w2.heap.size = b0 at *
  go_wp2
  have HB4 := hid (heap_alloc_keeps HB3.out (.cells #[.int .i64 (nth s 0), .int .i64 (nth s 1), .int .i64 (nth s 2), .int .i64 (nth s 3), .int .i64 (m : Int)] 104))
  have HS4 := hid (heap_alloc_new w3 (.cells #[.int .i64 (nth s 0), .int .i64 (nth s 1), .int .i64 (nth s 2), .int .i64 (nth s 3), .int .i64 (m : Int)] 104))
  have HK4 := hid (HK3.out.alloc (.cells #[.int .i64 (nth s 0), .int .i64 (nth s 1), .int .i64 (nth s 2), .int .i64 (nth s 3), .int .i64 (m : Int)] 104))
  clear HB3 HK3
  generalize w3.alloc (.cells #[.int .i64 (nth s 0), .int .i64 (nth s 1), .int .i64 (nth s 2), .int .i64 (nth s 3), .int .i64 (m : Int)] 104) = W4 at *
  generalize w3.heap.size = b1 at *
  obtain ⟨y0, y1, y2, y3, y4, y5, y6, y7, y8, y9, y10, y11, y12⟩ := cells13 HB4.out
  obtain ⟨z0, z1, z2, z3, z4⟩ := cells5 HS4.out
  clear y0 y1 y7 y8 y9 y10 y11 y12
  have HKc : Hid (Kp0 w W4.drew) := hid HK4.out.drew
  go_cut [44] from 34 (fun s44 W => s44 = .bool false ∧ Kp0 w W ∧ W.heap[b0]? = some (.cells #[.int .i64 1, .int .i64 x.buf, .int .i64 (nth x.l 0), .int .i64 (nth x.l 1), .int .i64 (nth x.l 2), .int .i64 (nth x.l 3), .int .i64 (n : Int), .int .i64 x.f, .int .i64 (nth x.t 0), .int .i64 (nth x.t 1), .int .i64 (nth x.t 2), .int .i64 (nth x.t 3), .bool x.ro] 109 (0, 0)) ∧ W.heap[b1]? = some (.cells #[.int .i64 (nth s 0), .int .i64 (nth s 1), .int .i64 (nth s 2), .int .i64 (nth s 3), .int .i64 (m : Int)] 104 (0, 0)))
  case first =>
    go_region_law ((first
      | (refine step_call1w (by rfl) 57 (.tmp 37) _ (by rfl) _ Tryz.func57 (by kernel_rfl) (by kernel_rfl) _ (by rfl) (HV1.out _) ?_; intro v7 w7 hR7; obtain ⟨rfl, hk7⟩ := hR7; have HKc := hid (Kp0.trans HKc.out hk7); have HB4 := hid (hk7.heap HB4.out); have HS4 := hid (hk7.heap HS4.out); have y2 := hk7.cell y2; have y3 := hk7.cell y3; have y4 := hk7.cell y4; have y5 := hk7.cell y5; have y6 := hk7.cell y6; have z0 := hk7.cell z0; have z1 := hk7.cell z1; have z2 := hk7.cell z2; have z3 := hk7.cell z3; have z4 := hk7.cell z4; clear hk7)
      | (refine step_call1w (by rfl) 57 (.tmp 41) _ (by rfl) _ Tryz.func57 (by kernel_rfl) (by kernel_rfl) _ (by rfl) (HV2.out _) ?_; intro v7 w7 hR7; obtain ⟨rfl, hk7⟩ := hR7; have HKc := hid (Kp0.trans HKc.out hk7); have HB4 := hid (hk7.heap HB4.out); have HS4 := hid (hk7.heap HS4.out); have y2 := hk7.cell y2; have y3 := hk7.cell y3; have y4 := hk7.cell y4; have y5 := hk7.cell y5; have y6 := hk7.cell y6; have z0 := hk7.cell z0; have z1 := hk7.cell z1; have z2 := hk7.cell z2; have z3 := hk7.cell z3; have z4 := hk7.cell z4; clear hk7)))
    all_goals
      go_wp2_with fail
      go_meet
      case rel => exact ⟨rfl, HKc.out, HB4.out, HS4.out⟩
  case rest =>
    obtain ⟨rfl, hKc, hB4, hS4⟩ := hcut
    have HKc := hid hKc
    have HB4 := hid hB4
    have HS4 := hid hS4
    clear hKc hB4 hS4 y2 y3 y4 y5 y6 z0 z1 z2 z3 z4 HV1 HV2 HS HF HK HK4
    have hlt := lt_of_heap HB4.out
    have hlt1 := lt_of_heap HS4.out
    obtain ⟨y0, y1, y2, y3, y4, y5, y6, y7, y8, y9, y10, y11, y12⟩ := cells13 HB4.out
    obtain ⟨z0, z1, z2, z3, z4⟩ := cells5 HS4.out
    go_wp2_with fail
    refine (HG.out _).mono ?_
    rintro e w4 ⟨rfl, hw⟩
    have HB5 := hid (hw.heap HB4.out)
    have HS5 := hid (hw.heap HS4.out)
    have HK5 : Hid (Kp0 w w4) := Kp0.trans HKc.out hw
    clear hw y0 y1 y2 y3 y4 y5 y6 y7 y8 y9 y10 y11 y12 z0 z1 z2 z3 z4 HB4 HS4 HKc hlt hlt1
    go_wp2
    have HB6 := hid (heap_alloc_keeps HB5.out (.cells #[.int .i64 0, .int .i64 0, .int .i64 0, .int .i64 0, .int .i64 0, .int .i64 0, .int .i64 0, .int .i64 0, .int .i64 0, .int .i64 0] 107))
    have HS6 := hid (heap_alloc_keeps HS5.out (.cells #[.int .i64 0, .int .i64 0, .int .i64 0, .int .i64 0, .int .i64 0, .int .i64 0, .int .i64 0, .int .i64 0, .int .i64 0, .int .i64 0] 107))
    have HK6 := hid (HK5.out.alloc (.cells #[.int .i64 0, .int .i64 0, .int .i64 0, .int .i64 0, .int .i64 0, .int .i64 0, .int .i64 0, .int .i64 0, .int .i64 0, .int .i64 0] 107))
    generalize w4.alloc (.cells #[.int .i64 0, .int .i64 0, .int .i64 0, .int .i64 0, .int .i64 0, .int .i64 0, .int .i64 0, .int .i64 0, .int .i64 0, .int .i64 0] 107) = W6 at HB6 HS6 HK6 ⊢
    clear HB5 HS5 HK5
    obtain ⟨y0, y1, y2, y3, y4, y5, y6, y7, y8, y9, y10, y11, y12⟩ := cells13 HB6.out
    obtain ⟨z0, z1, z2, z3, z4⟩ := cells5 HS6.out
    have HKd : Hid (Kp0 w W6.drew) := hid HK6.out.drew
    clear y1 y12
    go_cut [11, 18] from 45 (fun s11 s18 W => ∃ a b, s11 = .int .i64 b ∧ s18 = .int .i64 a ∧ R a b W)
    case first =>
      go_region_held3 (fun W => W.cell? ⟨b0, 0, none⟩ = some (.int .i64 1) ∧ W.cell? ⟨b0, 2, none⟩ = some (.int .i64 (nth x.l 0)) ∧ W.cell? ⟨b0, 3, none⟩ = some (.int .i64 (nth x.l 1)) ∧ W.cell? ⟨b0, 4, none⟩ = some (.int .i64 (nth x.l 2)) ∧ W.cell? ⟨b0, 5, none⟩ = some (.int .i64 (nth x.l 3)) ∧ W.cell? ⟨b0, 6, none⟩ = some (.int .i64 (n : Int)) ∧ W.cell? ⟨b0, 7, none⟩ = some (.int .i64 x.f) ∧ W.cell? ⟨b0, 8, none⟩ = some (.int .i64 (nth x.t 0)) ∧ W.cell? ⟨b0, 9, none⟩ = some (.int .i64 (nth x.t 1)) ∧ W.cell? ⟨b0, 10, none⟩ = some (.int .i64 (nth x.t 2)) ∧ W.cell? ⟨b0, 11, none⟩ = some (.int .i64 (nth x.t 3)) ∧ W.cell? ⟨b1, 0, none⟩ = some (.int .i64 (nth s 0)) ∧ W.cell? ⟨b1, 1, none⟩ = some (.int .i64 (nth s 1)) ∧ W.cell? ⟨b1, 2, none⟩ = some (.int .i64 (nth s 2)) ∧ W.cell? ⟨b1, 3, none⟩ = some (.int .i64 (nth s 3)) ∧ W.cell? ⟨b1, 4, none⟩ = some (.int .i64 (m : Int))) (go_keep)
        ((first
        | (refine step_call1 (by rfl) 60 (.tmp 72) _ (by rfl) _ Tryz.func60 (by kernel_rfl) (by kernel_rfl) _ (by rfl) (HC2.out _) ?_; intro v7 w7 hR7; obtain ⟨ao, c7, rfl, hk7, hf7⟩ := hR7; have y0 := hk7.cell y0; have y2 := hk7.cell y2; have y3 := hk7.cell y3; have y4 := hk7.cell y4; have y5 := hk7.cell y5; have y6 := hk7.cell y6; have y7 := hk7.cell y7; have y8 := hk7.cell y8; have y9 := hk7.cell y9; have y10 := hk7.cell y10; have y11 := hk7.cell y11; have z0 := hk7.cell z0; have z1 := hk7.cell z1; have z2 := hk7.cell z2; have z3 := hk7.cell z3; have z4 := hk7.cell z4)
        | (refine step_invoke1 (by rfl) (.tmp 76) "Read" (.tmp 73) _ (by rfl) _ (.slice ao mc c7) (by rfl) (by rfl) _ _ (HMR.out _ _) (HR2.out _ _ (Kp0.trans HKd.out hk7) hf7.1) ?_; intro v8 w8 hR8; obtain ⟨ao8, c8, rfl, hk8, hf8⟩ := hR8; have y0 := hk8.cell y0; have y2 := hk8.cell y2; have y3 := hk8.cell y3; have y4 := hk8.cell y4; have y5 := hk8.cell y5; have y6 := hk8.cell y6; have y7 := hk8.cell y7; have y8 := hk8.cell y8; have y9 := hk8.cell y9; have y10 := hk8.cell y10; have y11 := hk8.cell y11; have z0 := hk8.cell z0; have z1 := hk8.cell z1; have z2 := hk8.cell z2; have z3 := hk8.cell z3; have z4 := hk8.cell z4)
        | (refine step_call5 (by rfl) 59 (.tmp 65) (.tmp 67) (.tmp 68) (.tmp 69) (.tmp 77) _ (by rfl) _ Tryz.func59 (by kernel_rfl) (by kernel_rfl) _ _ _ _ _ (by rfl) (by rfl) (by rfl) (by rfl) (by rfl) (HM2.out _ _ (Kp0.trans (Kp0.trans HKd.out hk7) hk8) (hf8.le (Kp0.trans HKd.out hk7).size)) ?_; intro v9 w9 hR9; obtain ⟨a9, b9, rfl, hR9, hk9⟩ := hR9; have y0 := hk9.cell y0 HN0.out; have y2 := hk9.cell y2 HN0.out; have y3 := hk9.cell y3 HN0.out; have y4 := hk9.cell y4 HN0.out; have y5 := hk9.cell y5 HN0.out; have y6 := hk9.cell y6 HN0.out; have y7 := hk9.cell y7 HN0.out; have y8 := hk9.cell y8 HN0.out; have y9 := hk9.cell y9 HN0.out; have y10 := hk9.cell y10 HN0.out; have y11 := hk9.cell y11 HN0.out; have z0 := hk9.cell z0 HN1.out; have z1 := hk9.cell z1 HN1.out; have z2 := hk9.cell z2 HN1.out; have z3 := hk9.cell z3 HN1.out; have z4 := hk9.cell z4 HN1.out)))
      all_goals
        have HR9 := hid hR9
        clear hR9 hk7 hk8 hk9 hf7 hf8 y0 y2 y3 y4 y5 y6 y7 y8 y9 y10 y11 z0 z1 z2 z3 z4
        go_wp2_with fail
        go_meet
        case rel => exact ⟨_, _, rfl, rfl, HR9.out⟩
    case rest =>
      obtain ⟨a9, b9, rfl, rfl, hR9⟩ := hcut
      have HR9 := hid hR9
      clear hR9 y0 y2 y3 y4 y5 y6 y7 y8 y9 y10 y11 z0 z1 z2 z3 z4
      go_wp2
      go_ret3
      exact ⟨_, _, rfl, HR9.out⟩

end Go.Proofs.YticbbncdcannlaaGreat

/- Views of views: turned there and back, cut backward twice, cut in two steps and in one, reshaped there and back. No program. -/
namespace Go.Proofs.YticbbncdcannlaaGreat

theorem set_self (l : List Int) (k : Nat) (h : k < l.length) : l.set k (nth l k) = l := by
  rw [nth_lt h]
  simp

section
variable {σ : Sp} {E : List CE} {n : Nat} {V : List Int} {B : Nat}

end

end Go.Proofs.YticbbncdcannlaaGreat

/- The program's space, walked: Fold where it refuses. -/
namespace Go.Proofs.YticbbncdcannlaaGreat
open Go.RowKit Go.Maps Go.ChangeMaps Go.MapKept

set_option maxRecDepth 100000 in
set_option maxHeartbeats 2000000 in
theorem xFold_op (p : Nat) (op hd axis : Int) (w : World) (he : op < 1 ∨ 5 < op ∨ op = 2) :
    Calls Tryz.prog 30 #[.pointer (some ⟨p, 0, none⟩), .int .i64 op, .int .i64 hd, .int .i64 axis] w fun e w' => e = .returned (.tuple #[.int .i64 0, .int .i64 1]) ∧ Kp0 w w' := by
  have HK : Hid (Kp0 w w) := Kp0.refl w
  rcases he with he | he | he
  · have d1 : decide (op ≥ 1) = false := by simp; omega
    clear he
    go_enter Tryz.func30, Tryz.ntmps30
    go_wp2
    go_ret2
    exact ⟨rfl, HK.out⟩
  · have d1 : decide (op ≥ 1) = true := by simp; omega
    have d2 : decide (op ≤ 5) = false := by simp; omega
    clear he
    go_enter Tryz.func30, Tryz.ntmps30
    go_wp2
    go_ret2
    exact ⟨rfl, HK.out⟩
  · subst he
    go_enter Tryz.func30, Tryz.ntmps30
    go_wp2
    go_ret2
    exact ⟨rfl, HK.out⟩

set_option maxRecDepth 100000 in
set_option maxHeartbeats 2000000 in
theorem xFold_none {T : Tags} {o : Nat} {w : World} {p : Nat} {L : XL} {X : XS} (h : XAt T o w p L X) (op hd axis : Int) (h1 : 1 ≤ op) (h5 : op ≤ 5) (h2 : op ≠ 2) (hA : X.A hd = none) :
    Calls Tryz.prog 30 #[.pointer (some ⟨p, 0, none⟩), .int .i64 op, .int .i64 hd, .int .i64 axis] w fun e w' => e = .returned (.tuple #[.int .i64 0, .int .i64 2]) ∧ Kp0 w w' := by
  have HF := hid (xfind_none h hd hA)
  have HO := hid (xIsOp_yes op w h1 h5)
  have b2 : (op == 2) = false := by simp [h2]
  unfold xaZ at HF
  clear h hA h1 h5 h2
  go_enter Tryz.func30, Tryz.ntmps30
  go_wp2_with fail
  refine HO.out.mono ?_
  rintro e w1 ⟨rfl, hw⟩
  obtain rfl := hw.symm
  clear hw HO
  go_wp2_with fail
  refine HF.out.mono ?_
  rintro e w2 ⟨rfl, hw⟩
  have HK := hid hw
  clear hw
  go_wp2
  go_ret2
  exact ⟨rfl, HK.out.alloc _⟩

set_option maxRecDepth 100000 in
set_option maxHeartbeats 2000000 in
theorem xFold_axis {T : Tags} {o : Nat} {w : World} {p : Nat} {L : XL} {X : XS} (h : XAt T o w p L X) (op hd axis : Int) (h1 : 1 ≤ op) (h5 : op ≤ 5) (h2 : op ≠ 2) (x : XA) (hA : X.A hd = some x) (hk : x.kind = 1 ∨ x.kind = 2) (hl : x.l.length ≤ 4) (ha : axis < 0 ∨ (x.l.length : Int) ≤ axis) :
    Calls Tryz.prog 30 #[.pointer (some ⟨p, 0, none⟩), .int .i64 op, .int .i64 hd, .int .i64 axis] w fun e w' => e = .returned (.tuple #[.int .i64 0, .int .i64 5]) ∧ Kp0 w w' := by
  have HF := hid (xfind_some h hd x hA hk)
  have HO := hid (xIsOp_yes op w h1 h5)
  have b2 : (op == 2) = false := by simp [h2]
  have HL := hid (fun W => xLayers_no x.l x.t x.f axis W hl ha)
  generalize L.inV x.kind = I at *
  unfold XA.cs at HF
  unfold grC at HL
  clear h hA h1 h5 h2 hk hl ha
  go_enter Tryz.func30, Tryz.ntmps30
  go_wp2_with fail
  refine HO.out.mono ?_
  rintro e w1 ⟨rfl, hw⟩
  obtain rfl := hw.symm
  clear hw HO
  go_wp2_with fail
  refine HF.out.mono ?_
  rintro e w2 ⟨rfl, hw⟩
  have HK := hid hw
  clear hw
  go_wp2_with fail
  refine (HL.out _).mono ?_
  rintro e w3 ⟨rfl, hw⟩
  have HK3 : Hid (Kp0 w w3) := hid (Kp0.trans (HK.out.alloc _) hw)
  clear hw
  go_wp2
  go_ret2
  exact ⟨rfl, HK3.out⟩

end Go.Proofs.YticbbncdcannlaaGreat

/- The program's space at uint8, walked: foldLayers. -/
namespace Go.Proofs.YticbbncdcannlaaGreat
open Go.RowKit Go.Maps Go.ChangeMaps Go.MapKept

theorem ten_cellsB {w : World} {g : Nat} {cur : Array Value} {ty : TypeId} {R : Nat → List Value} {N : Nat} (hg : w.heap[g]? = some (.cells cur ty (0, 0))) (h : TenRows cur R N) (q : Nat) (hq : q < N) (c : Nat) (hc : c < 10) : w.cell? ⟨g, q * 10 + c, none⟩ = (R q)[c]? := by
  rw [← h q hq c hc]
  exact cell_of_row _ _ _ _ _ _ hg

set_option maxRecDepth 100000 in
set_option maxHeartbeats 4000000 in
theorem xfoldLayersB (op : Int) (q g N : Nat) (hN : 1 ≤ N ∧ N ≤ 60) (cur : Array Value) (l t : List Int) (F : Nat → Int) (w : World) (P V FV : Nat → List Int) (mc : Nat)
    (HG : Hid (w.heap[g]? = some (.cells cur 107 (0, 0)))) (HT : Hid (TenRows cur (fun q => grC l t (F q)) N))
    (HC : Hid (∀ W i, i < N → Calls Tryz.prog 60 #[.agg (grC l t (F i)).toArray] W fun e w' => ∃ ao c, e = .returned (.slice ao mc c) ∧ Kp0 W w' ∧ Fr W.heap.size w' (.slice ao mc c) (P i)))
    (HRd : Hid (∀ W i vp, i < N → Kp0 w W → RdI W vp (P i) → Calls Tryz.prog 195 #[.pointer (some ⟨q, 0, none⟩), vp] W fun e w' => ∃ ao c, e = .returned (.slice ao mc c) ∧ Kp0 W w' ∧ Fr W.heap.size w' (.slice ao mc c) (V i)))
    (HCb : Hid (∀ W i v0 v1, i + 1 < N → Kp0 w W → Fr w.heap.size W v0 (FV i) → Fr w.heap.size W v1 (V (i + 1)) → Calls Tryz.prog 192 #[.pointer (some ⟨q, 0, none⟩), .int .i64 op, v0, v1] W fun e w' => ∃ ao c, e = .returned (.slice ao mc c) ∧ Kp0 W w' ∧ Fr W.heap.size w' (.slice ao mc c) (FV (i + 1))))
    (HV0 : Hid (FV 0 = V 0)) :
    Calls Tryz.prog 70 #[.int .i64 op, .iface 126 (.pointer (some ⟨q, 0, none⟩)), .slice (some ⟨g, 0, none⟩) N N] w fun e w' => ∃ ao c, e = .returned (.slice ao mc c) ∧ Kp0 w w' ∧ Fr w.heap.size w' (.slice ao mc c) (FV (N - 1)) := by
  have HC2 : Hid (∀ W i, i < N → Calls Tryz.prog 60 #[.agg (grC l t (F i)).toArray] W fun e w' => ∃ v, e = .returned v ∧ ∃ ao c, v = .slice ao mc c ∧ Kp0 W w' ∧ Fr W.heap.size w' (.slice ao mc c) (P i)) := hid (fun W i hi => (HC.out W i hi).mono (fun e w' ⟨ao, c, h1, h2, h3⟩ => ⟨_, h1, ao, c, rfl, h2, h3⟩))
  have HR2 : Hid (∀ W i vp, i < N → Kp0 w W → RdI W vp (P i) → Calls Tryz.prog 195 #[.pointer (some ⟨q, 0, none⟩), vp] W fun e w' => ∃ v, e = .returned v ∧ ∃ ao c, v = .slice ao mc c ∧ Kp0 W w' ∧ Fr W.heap.size w' (.slice ao mc c) (V i)) := hid (fun W i vp hi k hr => (HRd.out W i vp hi k hr).mono (fun e w' ⟨ao, c, h1, h2, h3⟩ => ⟨_, h1, ao, c, rfl, h2, h3⟩))
  have HCB2 : Hid (∀ W i v0 v1, i + 1 < N → Kp0 w W → Fr w.heap.size W v0 (FV i) → Fr w.heap.size W v1 (V (i + 1)) → Calls Tryz.prog 192 #[.pointer (some ⟨q, 0, none⟩), .int .i64 op, v0, v1] W fun e w' => ∃ v, e = .returned v ∧ ∃ ao c, v = .slice ao mc c ∧ Kp0 W w' ∧ Fr W.heap.size w' (.slice ao mc c) (FV (i + 1))) := hid (fun W i v0 v1 hi k h0 h1 => (HCb.out W i v0 v1 hi k h0 h1).mono (fun e w' ⟨ao, c, h1, h2, h3⟩ => ⟨_, h1, ao, c, rfl, h2, h3⟩))
  have HMR := hid (Tryz.mReadB ⟨q, 0, none⟩)
  have hna := Tryz.nReadB ⟨q, 0, none⟩
  have HMC := hid (Tryz.mCombineB ⟨q, 0, none⟩)
  have hnc := Tryz.nCombineB ⟨q, 0, none⟩
  have HTC : Hid (∀ W, Kp0 w W → ∀ i, i < N → ∀ c, c < 10 → W.cell? ⟨g, i * 10 + c, none⟩ = (grC l t (F i))[c]?) := hid (fun W k i hi c hc => ten_cellsB (k.heap HG.out) HT.out i hi c hc)
  clear HC HRd HCb
  unfold grC at HC2 HTC
  obtain ⟨n, hn⟩ : ∃ n, l.length = n := ⟨_, rfl⟩
  rw [hn] at HC2 HTC
  clear hn
  have hN0 : 0 < N := by omega
  have n0 : (0 : Int) < (N : Int) := by omega
  have y0 := HTC.out w (Kp0.refl _) 0 hN0 0 (by omega)
  have y1 := HTC.out w (Kp0.refl _) 0 hN0 1 (by omega)
  have y2 := HTC.out w (Kp0.refl _) 0 hN0 2 (by omega)
  have y3 := HTC.out w (Kp0.refl _) 0 hN0 3 (by omega)
  have y4 := HTC.out w (Kp0.refl _) 0 hN0 4 (by omega)
  have y5 := HTC.out w (Kp0.refl _) 0 hN0 5 (by omega)
  have y6 := HTC.out w (Kp0.refl _) 0 hN0 6 (by omega)
  have y7 := HTC.out w (Kp0.refl _) 0 hN0 7 (by omega)
  have y8 := HTC.out w (Kp0.refl _) 0 hN0 8 (by omega)
  have y9 := HTC.out w (Kp0.refl _) 0 hN0 9 (by omega)
  simp at y0 y1 y2 y3 y4 y5 y6 y7 y8 y9
  have HKd : Hid (Kp0 w w.drew) := hid (Kp0.refl w).drew
  go_enter Tryz.func70, Tryz.ntmps70
  go_wp2
  go_cut [7] from 10 (fun s7 W => ∃ ao c, s7 = .slice ao mc c ∧ Kp0 w W ∧ Fr w.heap.size W (.slice ao mc c) (FV 0))
  case first =>
    go_region_held3 (fun W => W.cell? ⟨g, 0, none⟩ = some (.int .i64 (nth l 0)) ∧ W.cell? ⟨g, 1, none⟩ = some (.int .i64 (nth l 1)) ∧ W.cell? ⟨g, 2, none⟩ = some (.int .i64 (nth l 2)) ∧ W.cell? ⟨g, 3, none⟩ = some (.int .i64 (nth l 3)) ∧ W.cell? ⟨g, 4, none⟩ = some (.int .i64 (n : Int)) ∧ W.cell? ⟨g, 5, none⟩ = some (.int .i64 (F 0)) ∧ W.cell? ⟨g, 6, none⟩ = some (.int .i64 (nth t 0)) ∧ W.cell? ⟨g, 7, none⟩ = some (.int .i64 (nth t 1)) ∧ W.cell? ⟨g, 8, none⟩ = some (.int .i64 (nth t 2)) ∧ W.cell? ⟨g, 9, none⟩ = some (.int .i64 (nth t 3))) (go_keep)
      ((first
        | (refine step_call1 (by rfl) 60 (.tmp 13) _ (by rfl) _ Tryz.func60 (by kernel_rfl) (by kernel_rfl) _ (by rfl) (HC2.out _ 0 hN0) ?_; intro v7 w7 hR7; obtain ⟨ao, c7, rfl, hk7, hf7⟩ := hR7; have y0 := hk7.cell y0; have y1 := hk7.cell y1; have y2 := hk7.cell y2; have y3 := hk7.cell y3; have y4 := hk7.cell y4; have y5 := hk7.cell y5; have y6 := hk7.cell y6; have y7 := hk7.cell y7; have y8 := hk7.cell y8; have y9 := hk7.cell y9)
        | (refine step_invoke1 (by rfl) (.tmp 17) "Read" (.tmp 14) _ (by rfl) _ (.slice ao mc c7) (by rfl) (by rfl) _ _ (HMR.out _ _) (HR2.out _ 0 _ hN0 (Kp0.trans HKd.out hk7) hf7.1) ?_; intro v8 w8 hR8; obtain ⟨ao8, c8, rfl, hk8, hf8⟩ := hR8; have y0 := hk8.cell y0; have y1 := hk8.cell y1; have y2 := hk8.cell y2; have y3 := hk8.cell y3; have y4 := hk8.cell y4; have y5 := hk8.cell y5; have y6 := hk8.cell y6; have y7 := hk8.cell y7; have y8 := hk8.cell y8; have y9 := hk8.cell y9)))
    all_goals
      have HR9 := hid (And.intro (Kp0.trans (Kp0.trans HKd.out hk7) hk8) (hf8.le (Kp0.trans HKd.out hk7).size))
      rw [← HV0.out] at HR9
      clear hk7 hk8 hf7 hf8 y0 y1 y2 y3 y4 y5 y6 y7 y8 y9
      go_wp2_with fail
      go_meet
      case rel => exact ⟨_, _, rfl, HR9.out.1, HR9.out.2⟩
  case rest =>
    obtain ⟨ao, c7, rfl, hK, hF⟩ := hcut
    have HK := hid hK
    have HF := hid hF
    clear hK hF y0 y1 y2 y3 y4 y5 y6 y7 y8 y9 HKd
    by_cases h1 : N = 1
    · subst h1
      go_wp2
      go_loopw [7, 9, 22] (fun s7 _ a w' => a = .int .i64 0 ∧ ∃ ao c, s7 = .slice ao mc c ∧ Hid (Kp0 w w') ∧ Hid (Fr w.heap.size w' (.slice ao mc c) (FV 0))) (fun _ _ _ _ => 0)
      case atStart => exact ⟨rfl, _, _, rfl, HK, HF⟩
      case round =>
        clear HK HF
        obtain ⟨rfl, ao, c, rfl, HK, HF⟩ := hrel
        go_wp2
        go_ret
        exact ⟨_, _, rfl, HK.out, HF.out⟩
    · obtain ⟨m, hm⟩ : ∃ m, N - 1 = m := ⟨_, rfl⟩
      have hmN : N = m + 1 := by omega
      have HMN := hid hmN
      have HNM := hid hm
      go_wp2
      clear hm hmN
      go_loopw [7, 9, 22] (fun s7 _ a w' => ∃ j : Nat, j ≤ m ∧ a = .int .i64 j ∧ ∃ ao c, s7 = .slice ao mc c ∧ Hid (Kp0 w w') ∧ Hid (Fr w.heap.size w' (.slice ao mc c) (FV j))) (fun _ _ a _ => m - (intOf a).toNat)
      case atStart => exact ⟨0, Nat.zero_le _, rfl, _, _, rfl, HK, HF⟩
      case round =>
        clear HK HF
        obtain ⟨j, hj, rfl, ao, c, rfl, HK, HF⟩ := hrel
        by_cases hlt : j < m
        · have j0 : (0 : Int) ≤ (j : Int) := by omega
          have j1 : (j : Int) < (m : Int) := by omega
          have hj1 : j + 1 < N := by have := HMN.out; omega
          have e10 : (j + 1) * 10 = 10 + j * 10 := by omega
          have hy : ∀ c, c < 10 → wr.cell? ⟨g, 10 + j * 10 + c, none⟩ = ([.int .i64 (nth l 0), .int .i64 (nth l 1), .int .i64 (nth l 2), .int .i64 (nth l 3), .int .i64 (n : Int), .int .i64 (F (j + 1)), .int .i64 (nth t 0), .int .i64 (nth t 1), .int .i64 (nth t 2), .int .i64 (nth t 3)] : List Value)[c]? := fun c hc => by rw [← e10]; exact HTC.out wr HK.out (j + 1) hj1 c hc
          have y0 : wr.cell? ⟨g, 10 + j * 10, none⟩ = some (.int .i64 (nth l 0)) := hy 0 (by omega)
          have y1 : wr.cell? ⟨g, 10 + j * 10 + 1, none⟩ = some (.int .i64 (nth l 1)) := hy 1 (by omega)
          have y2 : wr.cell? ⟨g, 10 + j * 10 + 2, none⟩ = some (.int .i64 (nth l 2)) := hy 2 (by omega)
          have y3 : wr.cell? ⟨g, 10 + j * 10 + 3, none⟩ = some (.int .i64 (nth l 3)) := hy 3 (by omega)
          have y4 : wr.cell? ⟨g, 10 + j * 10 + 4, none⟩ = some (.int .i64 (n : Int)) := hy 4 (by omega)
          have y5 : wr.cell? ⟨g, 10 + j * 10 + 5, none⟩ = some (.int .i64 (F (j + 1))) := hy 5 (by omega)
          have y6 : wr.cell? ⟨g, 10 + j * 10 + 6, none⟩ = some (.int .i64 (nth t 0)) := hy 6 (by omega)
          have y7 : wr.cell? ⟨g, 10 + j * 10 + 7, none⟩ = some (.int .i64 (nth t 1)) := hy 7 (by omega)
          have y8 : wr.cell? ⟨g, 10 + j * 10 + 8, none⟩ = some (.int .i64 (nth t 2)) := hy 8 (by omega)
          have y9 : wr.cell? ⟨g, 10 + j * 10 + 9, none⟩ = some (.int .i64 (nth t 3)) := hy 9 (by omega)
          clear hy e10
          go_wp2
          have HBA : Hid ((wr.alloc (.cells #[.int .i64 (nth l 0), .int .i64 (nth l 1), .int .i64 (nth l 2), .int .i64 (nth l 3), .int .i64 (n : Int), .int .i64 (F (j + 1)), .int .i64 (nth t 0), .int .i64 (nth t 1), .int .i64 (nth t 2), .int .i64 (nth t 3)] 107)).heap[wr.heap.size]? = some (.cells #[.int .i64 (nth l 0), .int .i64 (nth l 1), .int .i64 (nth l 2), .int .i64 (nth l 3), .int .i64 (n : Int), .int .i64 (F (j + 1)), .int .i64 (nth t 0), .int .i64 (nth t 1), .int .i64 (nth t 2), .int .i64 (nth t 3)] 107 (0, 0))) := heap_alloc_new wr _
          have HKA : Hid (Kp0 w (wr.alloc (.cells #[.int .i64 (nth l 0), .int .i64 (nth l 1), .int .i64 (nth l 2), .int .i64 (nth l 3), .int .i64 (n : Int), .int .i64 (F (j + 1)), .int .i64 (nth t 0), .int .i64 (nth t 1), .int .i64 (nth t 2), .int .i64 (nth t 3)] 107))) := HK.out.alloc _
          have HFA : Hid (Fr w.heap.size (wr.alloc (.cells #[.int .i64 (nth l 0), .int .i64 (nth l 1), .int .i64 (nth l 2), .int .i64 (nth l 3), .int .i64 (n : Int), .int .i64 (F (j + 1)), .int .i64 (nth t 0), .int .i64 (nth t 1), .int .i64 (nth t 2), .int .i64 (nth t 3)] 107)) (.slice ao mc c) (FV j)) := HF.out.kp0 ((Kp.refl _ wr).alloc _)
          clear y0 y1 y2 y3 y4 y5 y6 y7 y8 y9
          generalize wr.alloc (.cells #[.int .i64 (nth l 0), .int .i64 (nth l 1), .int .i64 (nth l 2), .int .i64 (nth l 3), .int .i64 (n : Int), .int .i64 (F (j + 1)), .int .i64 (nth t 0), .int .i64 (nth t 1), .int .i64 (nth t 2), .int .i64 (nth t 3)] 107) = W4 at HBA HKA HFA ⊢
          generalize wr.heap.size = b0 at HBA ⊢
          obtain ⟨y0, y1, y2, y3, y4, y5, y6, y7, y8, y9⟩ := cells10 HBA.out
          have HKd : Hid (Kp0 w W4.drew) := hid HKA.out.drew
          have HFd : Hid (Fr w.heap.size W4.drew (.slice ao mc c) (FV j)) := hid (HFA.out.kp0 (Kp0.refl _).drew)
          clear HBA HKA HFA
          go_region_held3 (fun W => W.cell? ⟨b0, 0, none⟩ = some (.int .i64 (nth l 0)) ∧ W.cell? ⟨b0, 1, none⟩ = some (.int .i64 (nth l 1)) ∧ W.cell? ⟨b0, 2, none⟩ = some (.int .i64 (nth l 2)) ∧ W.cell? ⟨b0, 3, none⟩ = some (.int .i64 (nth l 3)) ∧ W.cell? ⟨b0, 4, none⟩ = some (.int .i64 (n : Int)) ∧ W.cell? ⟨b0, 5, none⟩ = some (.int .i64 (F (j + 1))) ∧ W.cell? ⟨b0, 6, none⟩ = some (.int .i64 (nth t 0)) ∧ W.cell? ⟨b0, 7, none⟩ = some (.int .i64 (nth t 1)) ∧ W.cell? ⟨b0, 8, none⟩ = some (.int .i64 (nth t 2)) ∧ W.cell? ⟨b0, 9, none⟩ = some (.int .i64 (nth t 3))) (go_keep)
            ((first
              | (refine step_call1 (by rfl) 60 (.tmp 30) _ (by rfl) _ Tryz.func60 (by kernel_rfl) (by kernel_rfl) _ (by rfl) (HC2.out _ (j + 1) hj1) ?_; intro v7 w7 hR7; obtain ⟨ao7, c7, rfl, hk7, hf7⟩ := hR7; have y0 := hk7.cell y0; have y1 := hk7.cell y1; have y2 := hk7.cell y2; have y3 := hk7.cell y3; have y4 := hk7.cell y4; have y5 := hk7.cell y5; have y6 := hk7.cell y6; have y7 := hk7.cell y7; have y8 := hk7.cell y8; have y9 := hk7.cell y9)
              | (refine step_invoke1 (by rfl) (.tmp 34) "Read" (.tmp 31) _ (by rfl) _ (.slice ao7 mc c7) (by rfl) (by rfl) _ _ (HMR.out _ _) (HR2.out _ (j + 1) _ hj1 (Kp0.trans HKd.out hk7) hf7.1) ?_; intro v8 w8 hR8; obtain ⟨ao8, c8, rfl, hk8, hf8⟩ := hR8; have y0 := hk8.cell y0; have y1 := hk8.cell y1; have y2 := hk8.cell y2; have y3 := hk8.cell y3; have y4 := hk8.cell y4; have y5 := hk8.cell y5; have y6 := hk8.cell y6; have y7 := hk8.cell y7; have y8 := hk8.cell y8; have y9 := hk8.cell y9)
              | (refine step_invoke3 (by rfl) (.tmp 38) "Combine" (.tmp 27) (.tmp 28) (.tmp 35) _ (by rfl) _ (.int .i64 op) (.slice ao mc c) (.slice ao8 mc c8) (by rfl) (by rfl) (by rfl) (by rfl) _ _ (HMC.out _ _ _ _) (HCB2.out _ j _ _ hj1 (Kp0.trans (Kp0.trans HKd.out hk7) hk8) (HFd.out.kp0 (Kp0.trans hk7 hk8)) (hf8.le (Kp0.trans HKd.out hk7).size)) ?_; intro v9 w9 hR9; obtain ⟨ao9, c9, rfl, hk9, hf9⟩ := hR9; have y0 := hk9.cell y0; have y1 := hk9.cell y1; have y2 := hk9.cell y2; have y3 := hk9.cell y3; have y4 := hk9.cell y4; have y5 := hk9.cell y5; have y6 := hk9.cell y6; have y7 := hk9.cell y7; have y8 := hk9.cell y8; have y9 := hk9.cell y9)))
          all_goals
            have HK9 := hid (Kp0.trans (Kp0.trans (Kp0.trans HKd.out hk7) hk8) hk9)
            have HF9 := hid (hf9.le (Kp0.trans (Kp0.trans HKd.out hk7) hk8).size)
            clear hk9 hf9 hk8 hf8 hk7 hf7 y0 y1 y2 y3 y4 y5 y6 y7 y8 y9
            go_wp2
            go_roundw
            case rel => exact ⟨j + 1, by omega, by go_num, ao9, c9, rfl, HK9, HF9⟩
            case measure => simp [intOf]; omega
        · obtain rfl : j = m := by omega
          have j1 : ¬ (j : Int) < (j : Int) := by omega
          go_wp2
          go_ret
          exact ⟨_, _, rfl, HK.out, by rw [HNM.out]; exact HF.out⟩

end Go.Proofs.YticbbncdcannlaaGreat
