import Derived.Deep.RegionLaw
import Derived.BigRegion
import Derived.Test.YticbbncdcannlaaGreatG31
import Derived.Test.YticbbncdcannlaaGreatG32
import Derived.Deep.RegionHeld3
import Derived.Deep.Cut
set_option maxRecDepth 100000
set_option maxHeartbeats 8000000
namespace Go.Proofs.YticbbncdcannlaaGreat
open Go.RowKit Go.Maps Go.ChangeMaps Go.MapKept
theorem step_call1w{P:Program}{ops:Array Oper}{o:Oper}{a:Act}{w:World}{K:Act→World→Prop}{Q:Exit→Act→World→Prop}{E:Prop}(hw:Region.wanted o (yielded ops a.tmps)=true)(f:FuncId)(x:Operand)(ts:Array TypeId)(ho:o.op=.call {callee:=.value (.func f),args:= #[x],argTypes:=ts})(fn:Func)(hf:P.funcs[f]? =some fn)(hname:(fn.name== "runtime.NumGoroutine")=false)(hb:fn.body.isSome=true)(vx:Value)(hx:a.eval x=vx){R:Value→World→Prop}(hc:Calls P f #[vx] w fun e w'=>∃v,e=.returned v∧R v w')(h:∀v w',R v w'→K (a.put o.dst v) w'):if Region.wanted o (yielded ops a.tmps)=true then Oper.wp P o a w K Q else E:=by
 rw[if_pos hw];have hr:=run_callFunc_body (P:=P) hf hname hb;have hev:a.eval (.func f)=.func (.func f) #[] #[]:=rfl;unfold Oper.wp execOp;simp[ho,resolve,hev,Deferred.ofValue,invoke,hx,hr,Oper.upon];refine hc.mono ?_;rintro e w' ⟨v,rfl,hR⟩;exact h v w' hR
theorem xReshape_none{T:Tags}{o:Nat}{w:World}{p:Nat}{L:XL}{X:XS}(h:XAt T o w p L X)(hd:Int)(va:Value)(hA:X.A hd=none):Calls Tryz.prog 24 #[.pointer (some ⟨p,0,none⟩),.int .i64 hd,va] w fun e w'=>e=.returned (.tuple #[.int .i64 0,.bool false,.int .i64 2])∧Kp0 w w':=by
 have HF:=hid (xfind_none h hd hA);unfold xaZ at HF;clear h hA;go_enter Tryz.func24,Tryz.ntmps24
 go_wp2_with fail
 refine HF.out.mono ?_;rintro e w2 ⟨rfl,hw⟩;have HK:=hid hw;clear hw;go_wp2
 go_ret3
 exact⟨rfl,HK.out.alloc _⟩
theorem xReshape_shape{T:Tags}{o:Nat}{w:World}{p:Nat}{L:XL}{X:XS}(h:XAt T o w p L X)(hd:Int)(va:Value)(x:XA)(hA:X.A hd=some x)(hk:x.kind=1∨x.kind=2)(HG:Hid (∀W,Kp0 w W→Calls Tryz.prog 56 #[va] W fun e w'=>e=.returned (.tuple #[.agg (shC []).toArray,.bool false])∧Kp0 W w')):Calls Tryz.prog 24 #[.pointer (some ⟨p,0,none⟩),.int .i64 hd,va] w fun e w'=>e=.returned (.tuple #[.int .i64 0,.bool false,.int .i64 4])∧Kp0 w w':=by
 have HF:=hid (xfind_some h hd x hA hk);generalize L.inV x.kind=I at*;unfold XA.cs at HF;unfold shC at HG;generalize x.l.length=n at*;clear h hA hk;go_enter Tryz.func24,Tryz.ntmps24
 go_wp2_with fail
 refine HF.out.mono ?_;rintro e w2 ⟨rfl,hw⟩;have HK:=hid hw;clear hw
 go_wp2_with fail
 refine(HG.out _ (HK.out.alloc _)).mono ?_;rintro e w3 ⟨rfl,hw⟩;have HK3:Hid (Kp0 w w3):=Kp0.trans (HK.out.alloc _) hw;clear hw;go_wp2
 go_region
 go_wp2
 go_ret3
 exact⟨rfl,Kp.drew (HK3.out.alloc _)⟩
theorem xReshape_vol{T:Tags}{o:Nat}{w:World}{p:Nat}{L:XL}{X:XS}(h:XAt T o w p L X)(hd:Int)(va:Value)(x:XA)(s:List Int)(hA:X.A hd=some x)(hk:x.kind=1∨x.kind=2)(hl:okShape x.l)(hs:okShape s)(hv:vol s≠vol x.l)(HS:Hid (∀W,Kp0 w W→Calls Tryz.prog 56 #[va] W fun e w'=>e=.returned (.tuple #[.agg (shC s).toArray,.bool true])∧Kp0 W w')):Calls Tryz.prog 24 #[.pointer (some ⟨p,0,none⟩),.int .i64 hd,va] w fun e w'=>e=.returned (.tuple #[.int .i64 0,.bool false,.int .i64 4])∧Kp0 w w':=by
 have HF:=hid (xfind_some h hd x hA hk);have HV1:Hid (∀W,Calls Tryz.prog 57 #[.agg (shC s).toArray] W fun e w'=>∃v,e=.returned v∧(v=.int .i64 (vol s)∧Kp0 W w')):=hid (fun W=>(xvolume_calls s W hs.2.1 hs.1).mono (fun e w' h=>⟨_,h.1,rfl,h.2⟩));have HV2:Hid (∀W,Calls Tryz.prog 57 #[.agg (shC x.l).toArray] W fun e w'=>∃v,e=.returned v∧(v=.int .i64 (vol x.l)∧Kp0 W w')):=hid (fun W=>(xvolume_calls x.l W hl.2.1 hl.1).mono (fun e w' h=>⟨_,h.1,rfl,h.2⟩));have d1:(vol s !=vol x.l)=true:=by simp[hv]
 generalize vol s=v1 at*;generalize vol x.l=v2 at*;generalize L.inV x.kind=I at*;unfold XA.cs at HF;unfold shC at HS HV1 HV2;generalize x.l.length=n at*;generalize s.length=m at*;clear h hA hk hl hs hv;go_enter Tryz.func24,Tryz.ntmps24
 go_wp2_with fail
 refine HF.out.mono ?_;rintro e w2 ⟨rfl,hw⟩;have HK:=hid hw;have HB2:Hid ((w2.alloc (.cells #[.int .i64 x.kind,.int .i64 x.buf,.int .i64 (nth x.l 0),.int .i64 (nth x.l 1),.int .i64 (nth x.l 2),.int .i64 (nth x.l 3),.int .i64 (n:Int),.int .i64 x.f,.int .i64 (nth x.t 0),.int .i64 (nth x.t 1),.int .i64 (nth x.t 2),.int .i64 (nth x.t 3),.bool x.ro] 109)).heap[w2.heap.size]? =some (.cells #[.int .i64 x.kind,.int .i64 x.buf,.int .i64 (nth x.l 0),.int .i64 (nth x.l 1),.int .i64 (nth x.l 2),.int .i64 (nth x.l 3),.int .i64 (n:Int),.int .i64 x.f,.int .i64 (nth x.t 0),.int .i64 (nth x.t 1),.int .i64 (nth x.t 2),.int .i64 (nth x.t 3),.bool x.ro] 109 (0,0))):=heap_alloc_new w2 _;clear hw
 go_wp2_with fail
 refine(HS.out _ (HK.out.alloc _)).mono ?_;rintro e w3 ⟨rfl,hw⟩;have HB3:=hid (hw.heap HB2.out);have HK3:Hid (Kp0 w w3):=Kp0.trans (HK.out.alloc _) hw;clear hw HB2;generalize w2.heap.size=b0 at*;go_wp2
 have HB4:=hid (heap_alloc_keeps HB3.out (.cells #[.int .i64 (nth s 0),.int .i64 (nth s 1),.int .i64 (nth s 2),.int .i64 (nth s 3),.int .i64 (m:Int)] 104));have HS4:=hid (heap_alloc_new w3 (.cells #[.int .i64 (nth s 0),.int .i64 (nth s 1),.int .i64 (nth s 2),.int .i64 (nth s 3),.int .i64 (m:Int)] 104));have HK4:=hid (HK3.out.alloc (.cells #[.int .i64 (nth s 0),.int .i64 (nth s 1),.int .i64 (nth s 2),.int .i64 (nth s 3),.int .i64 (m:Int)] 104));clear HB3 HK3;generalize w3.alloc (.cells #[.int .i64 (nth s 0),.int .i64 (nth s 1),.int .i64 (nth s 2),.int .i64 (nth s 3),.int .i64 (m:Int)] 104)=W4 at*;generalize w3.heap.size=b1 at*;obtain⟨y0,y1,y2,y3,y4,y5,y6,y7,y8,y9,y10,y11,y12⟩:=cells13 HB4.out;obtain⟨z0,z1,z2,z3,z4⟩:=cells5 HS4.out;clear y0 y1 y7 y8 y9 y10 y11 y12;have HKc:Hid (Kp0 w W4.drew):=hid HK4.out.drew
 go_region_law ((first
  |(refine step_call1w (by rfl) 57 (.tmp 37) _ (by rfl) _ Tryz.func57 (by kernel_rfl) (by kernel_rfl) _ (by rfl) (HV1.out _) ?_;intro v7 w7 hR7;obtain⟨rfl,hk7⟩:=hR7;have HKc:=hid (Kp0.trans HKc.out hk7);have y2:=hk7.cell y2;have y3:=hk7.cell y3;have y4:=hk7.cell y4;have y5:=hk7.cell y5;have y6:=hk7.cell y6;have z0:=hk7.cell z0;have z1:=hk7.cell z1;have z2:=hk7.cell z2;have z3:=hk7.cell z3;have z4:=hk7.cell z4;clear hk7)
  |(refine step_call1w (by rfl) 57 (.tmp 41) _ (by rfl) _ Tryz.func57 (by kernel_rfl) (by kernel_rfl) _ (by rfl) (HV2.out _) ?_;intro v7 w7 hR7;obtain⟨rfl,hk7⟩:=hR7;have HKc:=hid (Kp0.trans HKc.out hk7);have y2:=hk7.cell y2;have y3:=hk7.cell y3;have y4:=hk7.cell y4;have y5:=hk7.cell y5;have y6:=hk7.cell y6;have z0:=hk7.cell z0;have z1:=hk7.cell z1;have z2:=hk7.cell z2;have z3:=hk7.cell z3;have z4:=hk7.cell z4;clear hk7)))
 all_goals
  go_wp2
  go_ret3
  exact⟨rfl,HKc.out⟩
theorem xReshape_view{T:Tags}{o:Nat}{w:World}{p:Nat}{L:XL}{X:XS}(h:XAt T o w p L X)(hd:Int)(va:Value)(x:XA)(s:List Int)(hA:X.A hd=some x)(hk:x.kind=1∨x.kind=2)(hl:okShape x.l)(hs:okShape s)(hv:vol s=vol x.l)(l t:List Int)(f:Int){R:Int→Int→World→Prop}(HS:Hid (∀W,Kp0 w W→Calls Tryz.prog 56 #[va] W fun e w'=>e=.returned (.tuple #[.agg (shC s).toArray,.bool true])∧Kp0 W w'))(HG:Hid (∀W,Calls Tryz.prog 58 #[.agg (grC x.l x.t x.f).toArray,.agg (shC s).toArray] W fun e w'=>e=.returned (.tuple #[.agg (grC l t f).toArray,.bool true])∧Kp0 W w'))(HV:Hid (∀W,Kp0 w W→Calls Tryz.prog 54 #[.pointer (some ⟨p,0,none⟩),.agg x.cs,.agg (grC l t f).toArray] W fun e w'=>∃a b,e=.returned (.tuple #[.int .i64 a,.int .i64 b])∧R a b w')):Calls Tryz.prog 24 #[.pointer (some ⟨p,0,none⟩),.int .i64 hd,va] w fun e w'=>∃a b,e=.returned (.tuple #[.int .i64 a,.bool (b==0),.int .i64 b])∧R a b w':=by
 have HF:=hid (xfind_some h hd x hA hk);have HV1:Hid (∀W,Calls Tryz.prog 57 #[.agg (shC s).toArray] W fun e w'=>∃v,e=.returned v∧(v=.int .i64 (vol s)∧Kp0 W w')):=hid (fun W=>(xvolume_calls s W hs.2.1 hs.1).mono (fun e w' h=>⟨_,h.1,rfl,h.2⟩));have HV2:Hid (∀W,Calls Tryz.prog 57 #[.agg (shC x.l).toArray] W fun e w'=>∃v,e=.returned v∧(v=.int .i64 (vol x.l)∧Kp0 W w')):=hid (fun W=>(xvolume_calls x.l W hl.2.1 hl.1).mono (fun e w' h=>⟨_,h.1,rfl,h.2⟩));rw[hv]at HV1;generalize vol x.l=v2 at*;generalize L.inV x.kind=I at*;unfold XA.cs at HF HV;unfold shC at HS HV1 HV2 HG;unfold grC at HG HV;generalize x.l.length=n at*;generalize s.length=m at*;generalize l.length=m2 at*;clear h hA hk hl hs hv;go_enter Tryz.func24,Tryz.ntmps24
 go_wp2_with fail
 refine HF.out.mono ?_;rintro e w2 ⟨rfl,hw⟩;have HK:=hid hw;have HB2:Hid ((w2.alloc (.cells #[.int .i64 x.kind,.int .i64 x.buf,.int .i64 (nth x.l 0),.int .i64 (nth x.l 1),.int .i64 (nth x.l 2),.int .i64 (nth x.l 3),.int .i64 (n:Int),.int .i64 x.f,.int .i64 (nth x.t 0),.int .i64 (nth x.t 1),.int .i64 (nth x.t 2),.int .i64 (nth x.t 3),.bool x.ro] 109)).heap[w2.heap.size]? =some (.cells #[.int .i64 x.kind,.int .i64 x.buf,.int .i64 (nth x.l 0),.int .i64 (nth x.l 1),.int .i64 (nth x.l 2),.int .i64 (nth x.l 3),.int .i64 (n:Int),.int .i64 x.f,.int .i64 (nth x.t 0),.int .i64 (nth x.t 1),.int .i64 (nth x.t 2),.int .i64 (nth x.t 3),.bool x.ro] 109 (0,0))):=heap_alloc_new w2 _;clear hw
 go_wp2_with fail
 refine(HS.out _ (HK.out.alloc _)).mono ?_;rintro e w3 ⟨rfl,hw⟩;have HB3:=hid (hw.heap HB2.out);have HK3:Hid (Kp0 w w3):=Kp0.trans (HK.out.alloc _) hw;clear hw HB2;generalize w2.heap.size=b0 at*;go_wp2
 have HB4:=hid (heap_alloc_keeps HB3.out (.cells #[.int .i64 (nth s 0),.int .i64 (nth s 1),.int .i64 (nth s 2),.int .i64 (nth s 3),.int .i64 (m:Int)] 104));have HS4:=hid (heap_alloc_new w3 (.cells #[.int .i64 (nth s 0),.int .i64 (nth s 1),.int .i64 (nth s 2),.int .i64 (nth s 3),.int .i64 (m:Int)] 104));have HK4:=hid (HK3.out.alloc (.cells #[.int .i64 (nth s 0),.int .i64 (nth s 1),.int .i64 (nth s 2),.int .i64 (nth s 3),.int .i64 (m:Int)] 104));clear HB3 HK3;generalize w3.alloc (.cells #[.int .i64 (nth s 0),.int .i64 (nth s 1),.int .i64 (nth s 2),.int .i64 (nth s 3),.int .i64 (m:Int)] 104)=W4 at*;generalize w3.heap.size=b1 at*;obtain⟨y0,y1,y2,y3,y4,y5,y6,y7,y8,y9,y10,y11,y12⟩:=cells13 HB4.out;obtain⟨z0,z1,z2,z3,z4⟩:=cells5 HS4.out;clear y0 y1 y7 y8 y9 y10 y11 y12;have HKc:Hid (Kp0 w W4.drew):=hid HK4.out.drew
 go_region_law ((first
  |(refine step_call1w (by rfl) 57 (.tmp 37) _ (by rfl) _ Tryz.func57 (by kernel_rfl) (by kernel_rfl) _ (by rfl) (HV1.out _) ?_;intro v7 w7 hR7;obtain⟨rfl,hk7⟩:=hR7;have HKc:=hid (Kp0.trans HKc.out hk7);have HB4:=hid (hk7.heap HB4.out);have HS4:=hid (hk7.heap HS4.out);have y2:=hk7.cell y2;have y3:=hk7.cell y3;have y4:=hk7.cell y4;have y5:=hk7.cell y5;have y6:=hk7.cell y6;have z0:=hk7.cell z0;have z1:=hk7.cell z1;have z2:=hk7.cell z2;have z3:=hk7.cell z3;have z4:=hk7.cell z4;clear hk7)
  |(refine step_call1w (by rfl) 57 (.tmp 41) _ (by rfl) _ Tryz.func57 (by kernel_rfl) (by kernel_rfl) _ (by rfl) (HV2.out _) ?_;intro v7 w7 hR7;obtain⟨rfl,hk7⟩:=hR7;have HKc:=hid (Kp0.trans HKc.out hk7);have HB4:=hid (hk7.heap HB4.out);have HS4:=hid (hk7.heap HS4.out);have y2:=hk7.cell y2;have y3:=hk7.cell y3;have y4:=hk7.cell y4;have y5:=hk7.cell y5;have y6:=hk7.cell y6;have z0:=hk7.cell z0;have z1:=hk7.cell z1;have z2:=hk7.cell z2;have z3:=hk7.cell z3;have z4:=hk7.cell z4;clear hk7)))
 all_goals
  clear y2 y3 y4 y5 y6 z0 z1 z2 z3 z4 HV1 HV2 HS HF HK HK4;have hlt:=lt_of_heap HB4.out;have hlt1:=lt_of_heap HS4.out;obtain⟨y0,y1,y2,y3,y4,y5,y6,y7,y8,y9,y10,y11,y12⟩:=cells13 HB4.out;obtain⟨z0,z1,z2,z3,z4⟩:=cells5 HS4.out
  go_wp2_with fail
  refine(HG.out _).mono ?_;rintro e w4 ⟨rfl,hw⟩;have HB5:=hid (hw.heap HB4.out);have HK5:Hid (Kp0 w w4):=Kp0.trans HKc.out hw;have hlt4:b0<w4.heap.size:=lt_of_heap HB5.out;clear hw y0 y1 y2 y3 y4 y5 y6 y7 y8 y9 y10 y11 y12 z0 z1 z2 z3 z4 HB4 HS4 HKc;obtain⟨y0,y1,y2,y3,y4,y5,y6,y7,y8,y9,y10,y11,y12⟩:=cells13 HB5.out
  go_wp2_with fail
  refine(HV.out _ (HK5.out.alloc _)).mono ?_;rintro e w5 ⟨a,b,rfl,hR⟩;have HR:=hid hR;clear hR;go_wp2
  go_ret3
  exact⟨a,b,rfl,HR.out⟩
end Go.Proofs.YticbbncdcannlaaGreat
namespace Go.Proofs.YticbbncdcannlaaGreat
open Go.RowKit
theorem yfreshv_calls{T:Tags}{o:Nat}{w:World}{p:Nat}{L:YL}{σ:Sp}(hy:YAt T o w p L σ)(hok:σ.ok)(kind:Int)(hk:kind=1∨kind=2)(vs:Value)(s:List Int)(hs:okShape s)(hr:RdI w vs s)(hts:s≠[]→∀b,vs.ownBlock=some b→¬Mut o (T b))(hm:σ.arrs.length+1≤100000000)(hb:σ.bufs.length+1≤100000000)(vv:Value)(V:List Int)(hV:RdI w vv V)(hVl:V.length=(vol s).toNat)(htv:∀b,vv.ownBlock=some b→¬Mut o (T b)):Calls Tryz.prog 138 #[.pointer (some ⟨p,0,none⟩),.int .i64 kind,vs,vv] w fun e w'=>e=.returned (.tuple #[.int .i64 (σ.fresh kind s fun i=>asK kind (nth V i)).2.1,.int .i64 (σ.fresh kind s fun i=>asK kind (nth V i)).2.2])∧YStep T o w p (σ.fresh kind s fun i=>asK kind (nth V i)).1 w':=by
 have hyr:YRep T o w p σ:=⟨hok,L,hy⟩;unfold Sp.fresh;by_cases hl:40≤σ.live
 ·rw[if_pos hl]
  refine(yfresh_many hy hok kind vs vv hl).mono ?_;rintro e w' ⟨rfl,rfl⟩;exact⟨rfl,YStep.same hyr (Kp0.refl _)⟩
 ·rw[if_neg hl]
  by_cases hp:σ.place kind (vol s).toNat<0
  ·rw[if_pos hp]
   refine(yfresh_full hy hok kind hk vs vv s hs hr (by omega) hp).mono ?_;rintro e w' ⟨rfl,hK⟩;exact⟨rfl,YStep.same hyr hK⟩
  ·rw[if_neg hp]
   refine(yfreshv_ok hy hok kind hk vs s hs hr (by omega) hb _ rfl (by omega) hts vv V hV hVl htv).mono ?_;rintro e w' ⟨rfl,T',L',h1,h2,h3⟩;exact⟨rfl,T',h1,⟨made_ok hok _ _ s _ (by omega) hs (by omega) (place_bd σ _ _ (by omega)) hm hb,L',h2⟩,h3⟩
theorem yreshape_none{T:Tags}{o:Nat}{w:World}{p:Nat}{σ:Sp}{L:YL}(hy:YAt T o w p L σ)(hok:σ.ok)(h:Int)(vs:Value)(hl:L.at h=none):Calls Tryz.prog 115 #[.pointer (some ⟨p,0,none⟩),.int .i64 h,vs] w fun e w'=>e=.returned (.tuple #[.int .i64 0,.bool false,.int .i64 2])∧Kp0 w w':=by
 have HY:=hid hy;have HO:=hid hok;have HL:=hid hl;clear hy hok hl;go_enter Tryz.func115,Tryz.ntmps115
 go_wp2_with fail
 refine(yfind_calls HY.out HO.out h).mono ?_;rintro e w' ⟨rfl,hw⟩;obtain rfl:=hw.symm;rw[HL.out];simp only[ptr];go_wp2
 go_ret3
 exact⟨rfl,Kp0.refl _⟩
theorem yreshape_shape{T:Tags}{o:Nat}{w:World}{p q:Nat}{σ:Sp}{L:YL}(hy:YAt T o w p L σ)(hok:σ.ok)(h:Int)(vs v1:Value)(s:List Int)(hr:RdI w vs s)(hl:L.at h=some q)(_z1:w.cell? ⟨q,1,none⟩=some v1)(hs:shapeB s=false):Calls Tryz.prog 115 #[.pointer (some ⟨p,0,none⟩),.int .i64 h,vs] w fun e w'=>e=.returned (.tuple #[.int .i64 0,.bool false,.int .i64 4])∧Kp0 w w':=by
 have HY:=hid hy;have HO:=hid hok;have HL:=hid hl;have HR:=hid hr;have HS:=hid hs;clear hy hok hl hr hs;go_enter Tryz.func115,Tryz.ntmps115
 go_wp2_with fail
 refine(yfind_calls HY.out HO.out h).mono ?_;rintro e w' ⟨rfl,hw⟩;obtain rfl:=hw.symm;rw[HL.out];simp only[ptr]
 go_wp2_with fail
 refine(shape_calls _ _ _ HR.out).mono ?_;rintro e w' ⟨rfl,hw⟩;obtain rfl:=hw.symm;rw[HS.out];go_wp2
 go_region
 all_goals
  go_wp2
  go_ret3
  exact⟨rfl,by repeat' (first|exact Kp0.refl _|refine Kp.drewN ?_ _|refine Kp.drew ?_)⟩
theorem yreshape_vol{T:Tags}{o:Nat}{w:World}{p q:Nat}{σ:Sp}{L:YL}(hy:YAt T o w p L σ)(hok:σ.ok)(h:Int)(vs v1:Value)(s l:List Int)(hr:RdI w vs s)(hl:L.at h=some q)(z1:w.cell? ⟨q,1,none⟩=some v1)(hr1:RdI w v1 l)(hs:okShape s)(hls:okShape l)(hv:vol s≠vol l):Calls Tryz.prog 115 #[.pointer (some ⟨p,0,none⟩),.int .i64 h,vs] w fun e w'=>e=.returned (.tuple #[.int .i64 0,.bool false,.int .i64 4])∧Kp0 w w':=by
 have HY:=hid hy;have HO:=hid hok;have HL:=hid hl;have HR:=hid hr;have HS:Hid (shapeB s=true):=hid ((shapeB_iff s).2 hs);have hb:(vol s !=vol l)=true:=by simpa using hv
 have HV1:Hid (∀W,Kp0 w W→Calls Tryz.prog 140 #[vs] W fun e w'=>∃v,e=.returned v∧(v=.int .i64 (vol s)∧Kp0 W w')):=hid (fun W k=>(volume_calls _ _ _ (hr.kp0 k) hs.2.1 hs.1).mono (by rintro e w' ⟨rfl,rfl⟩;exact⟨_,rfl,rfl,Kp0.refl _⟩));have HV2:Hid (∀W,Kp0 w W→Calls Tryz.prog 140 #[v1] W fun e w'=>∃v,e=.returned v∧(v=.int .i64 (vol l)∧Kp0 W w')):=hid (fun W k=>(volume_calls _ _ _ (hr1.kp0 k) hls.2.1 hls.1).mono (by rintro e w' ⟨rfl,rfl⟩;exact⟨_,rfl,rfl,Kp0.refl _⟩));obtain⟨a1,c1,rfl,-⟩:=rd_parts hr1;obtain⟨a2,c2,rfl,-⟩:=rd_parts hr;generalize hx1:vol s=x1 at*;generalize hx2:vol l=x2 at*;generalize hn1:l.length=n1 at*;generalize hn2:s.length=n2 at*;clear hy hok hl hr hs hls hv hr1 hx1 hx2 hn1 hn2;go_enter Tryz.func115,Tryz.ntmps115
 go_wp2_with fail
 refine(yfind_calls HY.out HO.out h).mono ?_;rintro e w' ⟨rfl,hw⟩;obtain rfl:=hw.symm;rw[HL.out];simp only[ptr]
 go_wp2_with fail
 refine(shape_calls _ _ _ HR.out).mono ?_;rintro e w' ⟨rfl,hw⟩;obtain rfl:=hw.symm;rw[HS.out];clear HY HO HL HR HS;go_wp2
 have HKc:Hid (Kp0 w w.drew):=hid (Kp0.refl w).drew
 go_region_held3 (fun W=>W.cell? ⟨q,1,none⟩=some (.slice a1 n1 c1)) (go_keep)
  ((first
  |(refine step_call1w (by rfl) 140 (.tmp 27) _ (by rfl) _ Tryz.func140 (by kernel_rfl) (by kernel_rfl) _ (by rfl) (HV1.out _ HKc.out) ?_;intro v7 w7 hR7;obtain⟨rfl,hk7⟩:=hR7;have HKc:=hid (Kp0.trans HKc.out hk7);have z1:=hk7.cell z1;clear hk7)
  |(refine step_call1w (by rfl) 140 (.tmp 32) _ (by rfl) _ Tryz.func140 (by kernel_rfl) (by kernel_rfl) _ (by rfl) (HV2.out _ HKc.out) ?_;intro v7 w7 hR7;obtain⟨rfl,hk7⟩:=hR7;have HKc:=hid (Kp0.trans HKc.out hk7);have z1:=hk7.cell z1;clear hk7)))
 all_goals
  go_wp2
  go_ret3
  exact⟨rfl,HKc.out⟩
theorem yreshape_view{T:Tags}{o:Nat}{w:World}{p q:Nat}{σ:Sp}{L:YL}(hy:YAt T o w p L σ)(hok:σ.ok)(h:Int)(vs v1 v2:Value)(s:List Int)(a:Arr)(hr:RdI w vs s)(hl:L.at h=some q)(hya:YArr T o w q v1 v2 a)(hao:a.ok σ)(hs:okShape s)(hv:vol s=vol a.shape)(hev:evenB s a.cells=true)(hm:σ.arrs.length+1≤100000000):Calls Tryz.prog 115 #[.pointer (some ⟨p,0,none⟩),.int .i64 h,vs] w fun e w'=>((40≤σ.live∧e=.returned (.tuple #[.int .i64 0,.bool false,.int .i64 7])∧Kp0 w w')∨(σ.live<40∧e=.returned (.tuple #[.int .i64 ((σ.arrs.length:Int)+1),.bool true,.int .i64 0])∧YStep T o w p (σ.lay ⟨a.kind,s,a.cells,a.ro,a.buf⟩) w')):=by
 have HY:=hid hy;have HO:=hid hok;have HL:=hid hl;have HR:=hid hr;have HYA:=hid hya;have HS:Hid (shapeB s=true):=hid ((shapeB_iff s).2 hs);have hls:=hao.shape;obtain⟨z0,z1,z2,z3,z4⟩:=hya.parts;have hr1:=hya.shape.rd;have hb:(vol a.shape !=vol a.shape)=false:=by simp
 have HV1:Hid (∀W,Kp0 w W→Calls Tryz.prog 140 #[vs] W fun e w'=>∃v,e=.returned v∧(v=.int .i64 (vol a.shape)∧Kp0 W w')):=hid (fun W k=>(volume_calls _ _ _ (hr.kp0 k) hs.2.1 hs.1).mono (by rintro e w' ⟨rfl,rfl⟩;exact⟨_,rfl,by rw[hv],Kp0.refl _⟩));have HV2:Hid (∀W,Kp0 w W→Calls Tryz.prog 140 #[v1] W fun e w'=>∃v,e=.returned v∧(v=.int .i64 (vol a.shape)∧Kp0 W w')):=hid (fun W k=>(volume_calls _ _ _ (hr1.kp0 k) hls.2.1 hls.1).mono (by rintro e w' ⟨rfl,rfl⟩;exact⟨_,rfl,rfl,Kp0.refl _⟩));have HEV:Hid (∀W,Kp0 w W→Calls Tryz.prog 144 #[vs,v2] W fun e w'=>e=.returned (.bool true)∧Kp0 W w'):=hid (fun W k=>(even_calls _ _ s a.cells W hs (by rw[hv];exact hao.length) (fun j hj=>by
  have:=hao.inside j hj;have:=hok.cap a.kind;omega) (hr.kp0 k) (hya.cells.rd.kp0 k)).mono (by rintro e w' ⟨rfl,hk⟩;exact⟨by rw[hev],hk⟩))
 have HLO:Hid ((σ.lay ⟨a.kind,s,a.cells,a.ro,a.buf⟩).ok):=hid (lay_ok hok _ ⟨hao.kind,hs,by rw[hv];exact hao.length,hao.inside,hao.buf⟩ hm);have hq:q<w.heap.size:=lt_of_heap hya.blk;have HSL:Hid (0+s.length≤1000000000000):=hid (by have:=hs.1;omega);obtain⟨a1,c1,rfl,-⟩:=rd_parts hr1;obtain⟨a2,c2,e2,-⟩:=rd_parts hr;obtain⟨a3,c3,e3,-⟩:=rd_parts hya.cells.rd;subst e2 e3;obtain⟨kd,sh,ce,ro,bf⟩:=a;simp only at HV1 HV2 hb HLO z0 z1 z2 z3 z4;generalize hx2:vol sh=x2 at*;clear hx2;generalize hn1:sh.length=n1 at*;have HN1:=hid hn1;clear hn1;generalize hn2:s.length=n2 at*;have HN2:=hid hn2;clear hn2;generalize hn3:ce.length=n3 at*;have HN3:=hid hn3;clear hn3;clear hy hok hl hr hya hao hs hv hev hls hr1;go_enter Tryz.func115,Tryz.ntmps115
 go_wp2_with fail
 refine(yfind_calls HY.out HO.out h).mono ?_;rintro e w' ⟨rfl,hw⟩;obtain rfl:=hw.symm;rw[HL.out];simp only[ptr]
 go_wp2_with fail
 refine(shape_calls _ _ _ HR.out).mono ?_;rintro e w' ⟨rfl,hw⟩;obtain rfl:=hw.symm;rw[HS.out];go_wp2
 have HKc:Hid (Kp0 w w.drew):=hid (Kp0.refl w).drew
 go_cut [35]from 24 (fun s35 W=>s35=.bool false∧Kp0 w W)
 case first=>
  go_region_held3 (fun W=>W.cell? ⟨q,1,none⟩=some (.slice a1 n1 c1)) (go_keep)
   ((first
   |(refine step_call1w (by rfl) 140 (.tmp 27) _ (by rfl) _ Tryz.func140 (by kernel_rfl) (by kernel_rfl) _ (by rfl) (HV1.out _ HKc.out) ?_;intro v7 w7 hR7;obtain⟨rfl,hk7⟩:=hR7;have HKc:=hid (Kp0.trans HKc.out hk7);have z1:=hk7.cell z1;clear hk7)
   |(refine step_call1w (by rfl) 140 (.tmp 32) _ (by rfl) _ Tryz.func140 (by kernel_rfl) (by kernel_rfl) _ (by rfl) (HV2.out _ HKc.out) ?_;intro v7 w7 hR7;obtain⟨rfl,hk7⟩:=hR7;have HKc:=hid (Kp0.trans HKc.out hk7);have z1:=hk7.cell z1;clear hk7)))
  all_goals
   go_wp2_with fail
   go_meet
   case rel=>exact⟨rfl,HKc.out⟩
 case rest=>
 obtain⟨rfl,hkc⟩:=hcut;have HK1:=hid hkc;have y0:=hkc.cell z0;have y2:=hkc.cell z2;have y3:=hkc.cell z3;have y4:=hkc.cell z4;clear hkc HKc HV1 HV2 z1
 go_wp2_with fail
 refine(HEV.out _ HK1.out).mono ?_;rintro e w2 ⟨rfl,hk2⟩;have HK2:Hid (Kp0 w w2):=hid (HK1.out.trans hk2);have u0:=hk2.cell y0;have u2:=hk2.cell y2;have u3:=hk2.cell y3;have u4:=hk2.cell y4;clear hk2 y0 y2 y3 y4;have hs2:w.heap.size≤w2.heap.size:=HK2.out.size;have e1:¬q=w2.heap.size:=by omega
 go_wp2
 go_region_held3 (fun w'=>w'.cell? ⟨q,0,none⟩=some (.int .i64 kd)∧w'.cell? ⟨q,3,none⟩=some (.bool ro)∧w'.cell? ⟨q,4,none⟩=some (.int .i64 (bf:Int))∧w'.cell? ⟨q,2,none⟩=some (.slice a3 n3 c3)) (go_keep) (fail)
 generalize hW1:World.drew (World.alloc _ _)=W1;have hA:W1.heap[w2.heap.size]? =some (.cells #[.int .i64 kd,.slice none 0 0,(.slice a3 n3 c3),.bool ro,.int .i64 (bf:Int)] 181 (0,0)):=by
  rw[←hW1];exact heap_alloc_new _ _
 have hS1:W1.heap.size=w2.heap.size+1:=by rw[←hW1];simp
 have hK1:Kp0 w W1:=by rw[←hW1];exact Kp.drew (Kp.alloc HK2.out _)
 clear hW1;have cA:W1.cell? ⟨w2.heap.size,1,none⟩=some (.slice none 0 0):=by simp[World.cell?,hA]
 have HA:=hid hA;have HS1:=hid hS1;have HK3:=hid hK1;clear hA hS1 hK1 u0 u2 u3 u4 HK1 HK2
 go_wp2_with (at_builtin;refine wpList_app (by rfl) _ _ (by rfl) none 0 0 [] s (.slice a2 n2 c2) (by rfl) (by rfl) (OwI.nil _) (by exact HR.out.kp0 HK3.out) (by rw[HN2.out];exact HSL.out) W1.heap.size (by rfl) ?_)
 intro ao c w4 hownS hgrowS hatS;have hA4:w4.heap[w2.heap.size]? =some (.cells #[.int .i64 kd,.slice none 0 0,(.slice a3 n3 c3),.bool ro,.int .i64 (bf:Int)] 181 (0,0)):=by
  rw[hgrowS.block _ (by have:=HS1.out;omega) (by simp[Value.ownBlock])];exact HA.out
 have hK4:Kp0 w w4:=Kp.grown HK3.out hgrowS (by simp[Value.ownBlock]);have hao:∀b,(Value.slice ao s.length c).ownBlock=some b→b=w2.heap.size+1:=fun b hb=>by
  have h5:=(hatS b (by simpa using hb)).resolve_left (by simp[Value.ownBlock]);rw[h5,HS1.out]
 have cA4:w4.cell? ⟨w2.heap.size,1,none⟩=some (.slice none 0 0):=by simp[World.cell?,hA4]
 have fA4:w4.frozen? ⟨w2.heap.size,1,none⟩=false:=frozen_blk hA4;have hS5:OwI (w4.setCell ⟨w2.heap.size,1,none⟩ (.slice ao s.length c)) (.slice ao s.length c) s:=by
  exact hownS.setCell _ (fun e=>by
   have:=hao _ e;simp at this)
 have hK5:Kp0 w (w4.setCell ⟨w2.heap.size,1,none⟩ (.slice ao s.length c)):=Kp.setCell hK4 _ _ (fun h=>by simp at h;omega);have hA5:(w4.setCell ⟨w2.heap.size,1,none⟩ (.slice ao s.length c)).heap[w2.heap.size]? =some (.cells #[.int .i64 kd,.slice ao s.length c,(.slice a3 n3 c3),.bool ro,.int .i64 (bf:Int)] 181 (0,0)):=by
  rw[heap_setCell_same _ _ _ _ _ _ hA4];rfl
 have hy3:YAt (retag w T (o,6)) o (w4.setCell ⟨w2.heap.size,1,none⟩ (.slice ao s.length c)) p L σ:=(HY.out.tags (retag_to w _ _)).kp0 hK5;have ha3:YArr (retag w T (o,6)) o (w4.setCell ⟨w2.heap.size,1,none⟩ (.slice ao s.length c)) w2.heap.size (.slice ao s.length c) (.slice a3 n3 c3) ⟨kd,s,ce,ro,bf⟩:=by
  refine⟨hA5,hS5,HYA.out.cells.kp hK5 (fun _ _ e=>e),retag_new hs2,fun b hb=>retag_new ?_,fun b hb=>?_⟩
  ·have:=hao b hb;omega
  ·rw[retag_to w T _ b (own_lt HYA.out.cells hb)]
   exact HYA.out.tagc b hb
 have HY3:=hid hy3;have HA3:=hid ha3;have HK5:=hid hK5;clear hgrowS hatS hownS hA4 hK4 hao hS5 hK5 hA5 hy3 ha3;by_cases hlv:σ.live<40
 ·go_wp2_with fail
  refine(ylay_calls HY3.out HO.out _ _ _ _ HA3.out hlv).mono ?_;rintro e w10 ⟨rfl,hex⟩;have HEX:=hid hex;clear hex;go_wp2
  go_ret3
  refine .inr ⟨hlv,rfl,?_⟩;obtain⟨T',L',ht,hy10,hk10⟩:=HEX.out;have s6:=HK5.out.size;refine⟨T',fun b hb=>by rw[ht b (by omega),retag_to w T _ b hb],⟨HLO.out,L',hy10⟩,?_⟩;exact(Kp.of0 HK5.out).trans hk10 (fun i hi h=>by
   rw[retag_to w T _ i hi]at h;rcases h with h|h<;>rw[h]<;>simp[Mut])
 ·go_wp2_with fail
  refine(ylay_many HY3.out HO.out _ (by omega)).mono ?_;rintro e w10 ⟨rfl,hw⟩;obtain rfl:=hw.symm;go_wp2
  go_ret3
  exact .inl ⟨by omega,rfl,HK5.out⟩
theorem yreshape_copy{T:Tags}{o:Nat}{w:World}{p q:Nat}{σ:Sp}{L:YL}(hy:YAt T o w p L σ)(hok:σ.ok)(h:Int)(vs v1 v2:Value)(s:List Int)(a:Arr)(hr:RdI w vs s)(hl:L.at h=some q)(hya:YArr T o w q v1 v2 a)(hao:a.ok σ)(hs:okShape s)(hv:vol s=vol a.shape)(hev:evenB s a.cells=false)(hts:s≠[]→∀b,vs.ownBlock=some b→¬Mut o (T b))(hm:σ.arrs.length+1≤100000000)(hb:σ.bufs.length+1≤100000000):Calls Tryz.prog 115 #[.pointer (some ⟨p,0,none⟩),.int .i64 h,vs] w fun e w'=>e=.returned (.tuple #[.int .i64 (σ.fresh a.kind s fun i=>asK a.kind (nth (σ.valuesOf a) i)).2.1,.bool false,.int .i64 (σ.fresh a.kind s fun i=>asK a.kind (nth (σ.valuesOf a) i)).2.2])∧YStep T o w p (σ.fresh a.kind s fun i=>asK a.kind (nth (σ.valuesOf a) i)).1 w':=by
 have HBF:=hid hb;clear hb;have HY:=hid hy;have HO:=hid hok;have HL:=hid hl;have HR:=hid hr;have HYA:=hid hya;have HS:Hid (shapeB s=true):=hid ((shapeB_iff s).2 hs);have hls:=hao.shape;obtain⟨z0,z1,z2,z3,z4⟩:=hya.parts;have hr1:=hya.shape.rd;have hb:(vol a.shape !=vol a.shape)=false:=by simp
 have HV1:Hid (∀W,Kp0 w W→Calls Tryz.prog 140 #[vs] W fun e w'=>∃v,e=.returned v∧(v=.int .i64 (vol a.shape)∧Kp0 W w')):=hid (fun W k=>(volume_calls _ _ _ (hr.kp0 k) hs.2.1 hs.1).mono (by rintro e w' ⟨rfl,rfl⟩;exact⟨_,rfl,by rw[hv],Kp0.refl _⟩));have HV2:Hid (∀W,Kp0 w W→Calls Tryz.prog 140 #[v1] W fun e w'=>∃v,e=.returned v∧(v=.int .i64 (vol a.shape)∧Kp0 W w')):=hid (fun W k=>(volume_calls _ _ _ (hr1.kp0 k) hls.2.1 hls.1).mono (by rintro e w' ⟨rfl,rfl⟩;exact⟨_,rfl,rfl,Kp0.refl _⟩));have HEV:Hid (∀W,Kp0 w W→Calls Tryz.prog 144 #[vs,v2] W fun e w'=>e=.returned (.bool false)∧Kp0 W w'):=hid (fun W k=>(even_calls _ _ s a.cells W hs (by rw[hv];exact hao.length) (fun j hj=>by
  have:=hao.inside j hj;have:=hok.cap a.kind;omega) (hr.kp0 k) (hya.cells.rd.kp0 k)).mono (by rintro e w' ⟨rfl,hk⟩;exact⟨by rw[hev],hk⟩))
 have hq:q<w.heap.size:=lt_of_heap hya.blk;have HVA:Hid (∀W,Kp0 w W→Calls Tryz.prog 146 #[.pointer (some ⟨p,0,none⟩),.pointer (some ⟨q,0,none⟩)] W fun e w'=>∃v,e=.returned v∧∃ao c,v=.slice ao (σ.valuesOf a).length c∧Kp0 W w'∧(RdI w' (.slice ao (σ.valuesOf a).length c) (σ.valuesOf a)∧∀b,(Value.slice ao (σ.valuesOf a).length c).ownBlock=some b→w.heap.size≤b)):=hid (fun W k=>(yvalues_calls (hy.kp0 k) hok q v1 v2 a (hya.kp k (fun _ _ e=>e)) hao).mono (by
  rintro e w' ⟨ao,c,rfl,ho,hk,hb⟩;exact⟨_,rfl,ao,c,rfl,hk,ho.rd,fun b e=>Nat.le_trans k.size (hb b e)⟩))
 have HFR:Hid (∀W ao c,Kp0 w W→(RdI W (.slice ao (σ.valuesOf a).length c) (σ.valuesOf a)∧∀b,(Value.slice ao (σ.valuesOf a).length c).ownBlock=some b→w.heap.size≤b)→Calls Tryz.prog 138 #[.pointer (some ⟨p,0,none⟩),.int .i64 a.kind,vs,.slice ao (σ.valuesOf a).length c] W fun e w'=>∃v,e=.returned v∧∃x y,v=.tuple #[.int .i64 x,.int .i64 y]∧((x=(σ.fresh a.kind s fun i=>asK a.kind (nth (σ.valuesOf a) i)).2.1∧y=(σ.fresh a.kind s fun i=>asK a.kind (nth (σ.valuesOf a) i)).2.2∧YStep T o w p (σ.fresh a.kind s fun i=>asK a.kind (nth (σ.valuesOf a) i)).1 w')∧Kp (fun b=>Mut o (T b)) w w')):=hid (fun W ao c k hv9=>by
  have tg:=retag_to w T (o,6);refine(yfreshv_calls (T:=retag w T (o,6)) ((hy.tags tg).kp0 k) hok a.kind hao.kind vs s hs (hr.kp0 k) (fun hne b e=>?_) hm HBF.out _ (σ.valuesOf a) hv9.1 (by
   have h1:=hao.length;have h2:(σ.valuesOf a).length=a.cells.length:=by simp[Sp.valuesOf]
   rw[h2,hv];omega) (fun b e=>?_)).mono ?_
  ·obtain⟨g,c,e1,h1⟩:=rd_parts hr
   obtain⟨g',o',e2,h2⟩:=h1 (List.length_pos_iff.2 hne);have hbl:b<w.heap.size:=by
    have:=h2 0 (List.length_pos_iff.2 hne);have hlt:=block_lt_of_cell this;rw[e1,e2]at e;simp[Value.ownBlock]at e;rw[←e];exact hlt
   rw[tg b hbl];exact hts hne b e
  ·rw[retag_new (hv9.2 b e)]
   simp[Mut]
  ·rintro e w' ⟨rfl,T',ht,hrep,hk⟩
   have hkm:Kp (fun b=>Mut o (T b)) w w':=(Kp.of0 k).trans hk (fun i hi h=>by rw[tg i hi]at h;exact h);exact⟨_,rfl,_,_,rfl,⟨rfl,rfl,T',fun b hb=>by rw[ht b (Nat.lt_of_lt_of_le hb k.size),tg b hb],hrep,hkm⟩,hkm⟩)
 have HMQ:Hid (¬Mut o (T q)):=hid (by rw[hya.tag];simp[Mut]);have hk12:=hao.kind;obtain⟨X,hX⟩:∃X,(σ.fresh a.kind s fun i=>asK a.kind (nth (σ.valuesOf a) i))=X:=⟨_,rfl⟩;rw[hX]at HFR⊢;clear hX;generalize σ.valuesOf a=V at*;generalize V.length=nV at*;obtain⟨a1,c1,rfl,-⟩:=rd_parts hr1;obtain⟨a2,c2,e2,-⟩:=rd_parts hr;obtain⟨a3,c3,e3,-⟩:=rd_parts hya.cells.rd;subst e2 e3;obtain⟨kd,sh,ce,ro,bf⟩:=a;simp only at HV1 HV2 hb HFR z0 z1 z2 z3 z4;generalize hx2:vol sh=x2 at*;clear hx2;generalize hn1:sh.length=n1 at*;have HN1:=hid hn1;clear hn1;generalize hn2:s.length=n2 at*;have HN2:=hid hn2;clear hn2;generalize hn3:ce.length=n3 at*;have HN3:=hid hn3;clear hn3;clear hy hok hl hr hya hao hs hv hev hls hr1 hts hk12;go_enter Tryz.func115,Tryz.ntmps115
 go_wp2_with fail
 refine(yfind_calls HY.out HO.out h).mono ?_;rintro e w' ⟨rfl,hw⟩;obtain rfl:=hw.symm;rw[HL.out];simp only[ptr]
 go_wp2_with fail
 refine(shape_calls _ _ _ HR.out).mono ?_;rintro e w' ⟨rfl,hw⟩;obtain rfl:=hw.symm;rw[HS.out];go_wp2
 have HKc:Hid (Kp0 w w.drew):=hid (Kp0.refl w).drew
 go_cut [35]from 24 (fun s35 W=>s35=.bool false∧Kp0 w W)
 case first=>
  go_region_held3 (fun W=>W.cell? ⟨q,1,none⟩=some (.slice a1 n1 c1)) (go_keep)
   ((first
   |(refine step_call1w (by rfl) 140 (.tmp 27) _ (by rfl) _ Tryz.func140 (by kernel_rfl) (by kernel_rfl) _ (by rfl) (HV1.out _ HKc.out) ?_;intro v7 w7 hR7;obtain⟨rfl,hk7⟩:=hR7;have HKc:=hid (Kp0.trans HKc.out hk7);have z1:=hk7.cell z1;clear hk7)
   |(refine step_call1w (by rfl) 140 (.tmp 32) _ (by rfl) _ Tryz.func140 (by kernel_rfl) (by kernel_rfl) _ (by rfl) (HV2.out _ HKc.out) ?_;intro v7 w7 hR7;obtain⟨rfl,hk7⟩:=hR7;have HKc:=hid (Kp0.trans HKc.out hk7);have z1:=hk7.cell z1;clear hk7)))
  all_goals
   go_wp2_with fail
   go_meet
   case rel=>exact⟨rfl,HKc.out⟩
 case rest=>
 obtain⟨rfl,hkc⟩:=hcut;have HK1:=hid hkc;have y0:=hkc.cell z0;have y2:=hkc.cell z2;have y3:=hkc.cell z3;have y4:=hkc.cell z4;clear hkc HKc HV1 HV2 z1
 go_wp2_with fail
 refine(HEV.out _ HK1.out).mono ?_;rintro e w2 ⟨rfl,hk2⟩;have HK2:Hid (Kp0 w w2):=hid (HK1.out.trans hk2);have u0:=hk2.cell y0;have u2:=hk2.cell y2;have u3:=hk2.cell y3;have u4:=hk2.cell y4;clear hk2 y0 y2 y3 y4;clear u2 u3 u4;have HKd:Hid (Kp0 w w2.drew):=hid HK2.out.drew;go_wp2
 go_region_held3 (fun W=>W.cell? ⟨q,0,none⟩=some (.int .i64 kd)) (go_keep)
  ((first
  |(refine step_call2 (by rfl) 146 (.tmp 87) (.tmp 88) _ (by rfl) _ Tryz.func146 (by kernel_rfl) (by kernel_rfl) _ _ (by rfl) (by rfl) (HVA.out _ HKd.out) ?_;intro v7 w7 hR7;obtain⟨ao,c7,rfl,hk7,hf7⟩:=hR7;have u0:=hk7.cell u0)
  |(refine step_call4 (by rfl) 138 (.tmp 81) (.tmp 85) (.tmp 86) (.tmp 89) _ (by rfl) _ Tryz.func138 (by kernel_rfl) (by kernel_rfl) _ _ _ _ (by rfl) (by rfl) (by rfl) (by rfl) (HFR.out _ _ _ (Kp0.trans HKd.out hk7) hf7) ?_;intro v9 w9 hR9;obtain⟨a9,b9,rfl,hR9,hk9⟩:=hR9;have u0:=hk9.cell z0 HMQ.out)))
 all_goals
  have HR9:=hid hR9;clear hR9 hk9 hk7 hf7;go_wp2
  go_ret3
  obtain⟨rfl,rfl,hst⟩:=HR9.out;exact⟨rfl,hst⟩
theorem yreshape_calls{T:Tags}{o:Nat}{w:World}{p:Nat}{σ:Sp}(hy:YRep T o w p σ)(h:Int)(vs:Value)(s:List Int)(hr:RdI w vs s)(hts:s≠[]→∀b,vs.ownBlock=some b→¬Mut o (T b))(hm:σ.arrs.length+1≤100000000)(hb:σ.bufs.length+1≤100000000):Calls Tryz.prog 115 #[.pointer (some ⟨p,0,none⟩),.int .i64 h,vs] w fun e w'=>e=.returned (.tuple #[.int .i64 (σ.reshape h s).2.1,.bool (σ.reshape h s).2.2.1,.int .i64 (σ.reshape h s).2.2.2])∧YStep T o w p (σ.reshape h s).1 w':=by
 have hyr:=hy;obtain⟨hok,L,hy⟩:=hy;unfold Sp.reshape;rcases hy.find h with⟨hf,hl⟩|⟨a,q,v1,v2,hf,hl,hya,hat,-⟩
 ·rw[hf]
  refine(yreshape_none hy hok h vs hl).mono ?_;rintro e w' ⟨rfl,hk⟩;exact⟨rfl,YStep.same hyr hk⟩
 ·rw[hf]
  have hao:=find_ok hok hat;obtain⟨-,z1,-,-,-⟩:=hya.parts;cases hsb:shapeB s with
  |false=>
   simp only[true_or,if_true];refine(yreshape_shape hy hok h vs v1 s hr hl z1 hsb).mono ?_;rintro e w' ⟨rfl,hk⟩;exact⟨rfl,YStep.same hyr hk⟩
  |true=>
   have hs:=(shapeB_iff s).1 hsb;by_cases hv:vol s=vol a.shape
   ·have hno:¬(true=false∨vol s≠vol a.shape):=by simp[hv]
    simp only[hno,if_false];cases hev:evenB s a.cells with
    |true=>
     simp only[if_true];refine(yreshape_view hy hok h vs v1 v2 s a hr hl hya hao hs hv hev hm).mono ?_;rintro e w' (⟨hlv,rfl,hk⟩|⟨hlv,rfl,hst⟩)
     ·rw[if_pos hlv]
      exact⟨rfl,YStep.same hyr hk⟩
     ·rw[if_neg (by omega)]
      exact⟨rfl,hst⟩
    |false=>
     simp only[Bool.false_eq_true,if_false];exact yreshape_copy hy hok h vs v1 v2 s a hr hl hya hao hs hv hev hts hm hb
   ·have hyes:true=false∨vol s≠vol a.shape:=.inr hv
    simp only[hyes,if_true];refine(yreshape_vol hy hok h vs v1 s a.shape hr hl z1 hya.shape.rd hs hao.shape hv).mono ?_;rintro e w' ⟨rfl,hk⟩;exact⟨rfl,YStep.same hyr hk⟩
def CutC(R:Tags→Nat→World→Nat→Sp→Prop):Prop:=∀(T:Tags) (o:Nat) (w:World) (p:Nat) (σ:Sp) (h axis start count step:Int),R T o w p σ→σ.arrs.length+1≤100000000→
  Calls Tryz.prog 21 #[.pointer (some ⟨p,0,none⟩),.int .i64 h,.int .i64 axis,.int .i64 start,.int .i64 count,.int .i64 step] w fun e w'=>e=.returned (.tuple #[.int .i64 (σ.cut h axis start count step).2.1,.int .i64 (σ.cut h axis start count step).2.2])∧Step R T o w p (σ.cut h axis start count step).1 w'
def TurnC(R:Tags→Nat→World→Nat→Sp→Prop):Prop:=∀(T:Tags) (o:Nat) (w:World) (p:Nat) (σ:Sp) (h:Int) (va:Value) (ax:List Int),R T o w p σ→RdI w va ax→(∀b,va.ownBlock=some b→(T b).1≠o)→σ.arrs.length+1≤100000000→
  Calls Tryz.prog 20 #[.pointer (some ⟨p,0,none⟩),.int .i64 h,va] w fun e w'=>e=.returned (.tuple #[.int .i64 (σ.turn h ax).2.1,.int .i64 (σ.turn h ax).2.2])∧Step R T o w p (σ.turn h ax).1 w'
def StretchC(R:Tags→Nat→World→Nat→Sp→Prop):Prop:=∀(T:Tags) (o:Nat) (w:World) (p:Nat) (σ:Sp) (h:Int) (va:Value) (s:List Int),R T o w p σ→RdI w va s→(∀b,va.ownBlock=some b→(T b).1≠o)→σ.arrs.length+1≤100000000→
  Calls Tryz.prog 83 #[.pointer (some ⟨p,0,none⟩),.int .i64 h,va] w fun e w'=>e=.returned (.tuple #[.int .i64 (σ.stretch h s).2.1,.int .i64 (σ.stretch h s).2.2])∧Step R T o w p (σ.stretch h s).1 w'
def ReshapeC(R:Tags→Nat→World→Nat→Sp→Prop):Prop:=∀(T:Tags) (o:Nat) (w:World) (p:Nat) (σ:Sp) (h:Int) (va:Value) (s:List Int),R T o w p σ→RdI w va s→(∀b,va.ownBlock=some b→(T b).1≠o)→σ.arrs.length+1≤100000000→σ.bufs.length+1≤100000000→
  Calls Tryz.prog 24 #[.pointer (some ⟨p,0,none⟩),.int .i64 h,va] w fun e w'=>e=.returned (.tuple #[.int .i64 (σ.reshape h s).2.1,.bool (σ.reshape h s).2.2.1,.int .i64 (σ.reshape h s).2.2.2])∧Step R T o w p (σ.reshape h s).1 w'
def FoldC(R:Tags→Nat→World→Nat→Sp→Prop):Prop:=∀(T:Tags) (o:Nat) (w:World) (p:Nat) (σ:Sp) (op h axis:Int),R T o w p σ→σ.arrs.length+1≤100000000→σ.bufs.length+1≤100000000→
  Calls Tryz.prog 30 #[.pointer (some ⟨p,0,none⟩),.int .i64 op,.int .i64 h,.int .i64 axis] w fun e w'=>e=.returned (.tuple #[.int .i64 (σ.fold op h axis).2.1,.int .i64 (σ.fold op h axis).2.2])∧Step R T o w p (σ.fold op h axis).1 w'
def SharedC(R:Tags→Nat→World→Nat→Sp→Prop):Prop:=∀(T:Tags) (o:Nat) (w:World) (p:Nat) (σ:Sp) (fa fb:Int),R T o w p σ→
  Calls Tryz.prog 18 #[.pointer (some ⟨p,0,none⟩),.int .i64 fa,.int .i64 fb] w fun e w'=>e=.returned (.tuple #[.bool (σ.shared fa fb).1,.int .i64 (σ.shared fa fb).2])∧Step R T o w p σ w'
def AssignC(R:Tags→Nat→World→Nat→Sp→Prop):Prop:=∀(T:Tags) (o:Nat) (w:World) (p:Nat) (σ:Sp) (to fr:Int),R T o w p σ→
  Calls Tryz.prog 65 #[.pointer (some ⟨p,0,none⟩),.int .i64 to,.int .i64 fr] w fun e w'=>e=.returned (.int .i64 (σ.assign to fr).2)∧Step R T o w p (σ.assign to fr).1 w'
def WorkC(R:Tags→Nat→World→Nat→Sp→Prop):Prop:=∀(T:Tags) (o:Nat) (w:World) (p:Nat) (σ:Sp) (op to fa fb:Int),R T o w p σ→
  Calls Tryz.prog 67 #[.pointer (some ⟨p,0,none⟩),.int .i64 op,.int .i64 to,.int .i64 fa,.int .i64 fb] w fun e w'=>e=.returned (.int .i64 (σ.work op to fa fb).2)∧Step R T o w p (σ.work op to fa fb).1 w'
structure XC2(R:Tags→Nat→World→Nat→Sp→Prop):Prop where
 base:XC R
 cut:CutC R
 turn:TurnC R
 stretch:StretchC R
 reshape:ReshapeC R
 shared:SharedC R
structure XC3(R:Tags→Nat→World→Nat→Sp→Prop):Prop where
 views:XC2 R
 assign:AssignC R
 work:WorkC R
 fold:FoldC R
theorem views_cut{R:Tags→Nat→World→Nat→Sp→Prop}(X:XC R)(hF:CutC R){T:Tags}{w:World}{p:Nat}{S:WS}{L:List SD}(hI:Inv R T w p S L){i:Nat}{d:SD}(hd:L[i]? =some d)(hσ:d.σx=d.σy)(oH oA oB oC oD:Int)(vL:Value)(wh:Bool)(xs:List Int)(a:Option Addr)(n c:Nat)(hL:OpL T w vL a n c xs)(hnt:S.turned.length+1≤1000000000)(hm:d.σy.arrs.length+1≤100000000)(_hb:d.σy.bufs.length+1≤100000000):Calls Tryz.prog 76 #[.pointer (some ⟨p,0,none⟩),.pointer (some ⟨d.sb,0,none⟩),.agg #[.int .i64 9,.int .i64 oH,.int .i64 oA,.int .i64 oB,.int .i64 oC,.int .i64 oD,vL,.bool wh]] w fun e w'=>e=.returned (.bool true)∧Went R T w p S (L.set i {d with σx:=(d.σy.cut oH oA oB oC oD).1,σy:=(d.σy.cut oH oA oB oC oD).1}) 0 1 w':=by
 have hsd:=hI.side i d hd;have z0:w.cell? ⟨d.sb,0,none⟩=some (.pointer (some ⟨d.px,0,none⟩)):=by simp[World.cell?,hsd.blk]
 have z1:w.cell? ⟨d.sb,1,none⟩=some (.pointer (some ⟨d.py,0,none⟩)):=by simp[World.cell?,hsd.blk]
 have hsb:d.sb<w.heap.size:=lt_of_heap hsd.blk;obtain⟨rfl,hlen,hrd,htag,hbig⟩:=hL;have HRD:=hid hrd;have HTAG:=hid htag;have HLEN:=hid hlen;have HI:=hid hI;have HD:=hid hd;have HX:=hid X;have HS:=hid hσ;have HSD:=hid hsd;have HF:Hid (CutC R):=hid hF;clear hF hI hd hσ hsd X hrd htag hlen;obtain⟨T1,hT1⟩:∃T1,retag w T (5,9)=T1:=⟨_,rfl⟩;have HT1:Hid (TagsTo w T T1):=hid (by rw[←hT1];exact retag_to w T _);have HNEW:Hid (∀b,w.heap.size≤b→T1 b=(5,9)):=hid (fun b hb=>by rw[←hT1];exact retag_new hb);clear hT1;have HLENT:Hid (∀y,Calls Tryz.prog 104 #[.slice a n c] (w.alloc y) fun e w'=>e=.returned (.slice (some ⟨w.heap.size+1,0,none⟩) (n+1) (n+1))∧w'=(w.alloc y).alloc (.cells (ints (xs++[0])).toArray 3)):=hid (fun y=>
  (lent_calls _ xs (w.alloc y) (HRD.out.kp0 (Kp.alloc (Kp.refl _ _) _)) (by have:=HLEN.out;omega)).mono (by
   rintro e w' ⟨rfl,rfl⟩;rw[HLEN.out];exact⟨by simp,rfl⟩))
 go_enter Tryz.func76,Tryz.ntmps76
 go_wp2_with fail
 refine(HLENT.out _).mono ?_;rintro e w2 ⟨rfl,hw2⟩;have HK2:Hid (Kp0 w w2):=hid (by rw[hw2];exact Kp.alloc (Kp.alloc (Kp.refl _ _) _) _);have hg2:w2.heap[w.heap.size+1]? =some (.cells (ints (xs++[0])).toArray 3 (0,0)):=by
  rw[hw2];have:=heap_alloc_new (w.alloc (.cells #[.int .i64 9,.int .i64 oH,.int .i64 oA,.int .i64 oB,.int .i64 oC,.int .i64 oD,.slice a n c,.bool wh] 87)) (.cells (ints (xs++[0])).toArray 3);simpa using this
 have hbox:w2.heap[w.heap.size]? =some (.cells #[.int .i64 9,.int .i64 oH,.int .i64 oA,.int .i64 oB,.int .i64 oC,.int .i64 oD,.slice a n c,.bool wh] 87 (0,0)):=by
  rw[hw2,Below.heap_alloc _ _ _ (by simp)];exact heap_alloc_new _ _
 have HG2:=hid hg2;have HBOX:=hid hbox;have hs2:w.heap.size+1<w2.heap.size:=lt_of_heap hg2;have b0:w2.cell? ⟨w.heap.size,0,none⟩=some (.int .i64 9):=by simp[World.cell?,hbox]
 have b1:w2.cell? ⟨w.heap.size,1,none⟩=some (.int .i64 oH):=by simp[World.cell?,hbox]
 have b2:w2.cell? ⟨w.heap.size,2,none⟩=some (.int .i64 oA):=by simp[World.cell?,hbox]
 have b3:w2.cell? ⟨w.heap.size,3,none⟩=some (.int .i64 oB):=by simp[World.cell?,hbox]
 have b4:w2.cell? ⟨w.heap.size,4,none⟩=some (.int .i64 oC):=by simp[World.cell?,hbox]
 have b5:w2.cell? ⟨w.heap.size,5,none⟩=some (.int .i64 oD):=by simp[World.cell?,hbox]
 have b6:w2.cell? ⟨w.heap.size,6,none⟩=some (.slice a n c):=by simp[World.cell?,hbox]
 have y0:=HK2.out.cell z0;have y1:=HK2.out.cell z1;have HI2:=hid (HI.out.kp0 HX.out HT1.out HK2.out);clear hw2 hg2 hbox z0 z1 HLENT
 go_wp2_with fail
 refine(hand_calls (w.heap.size+1) n c a xs w2 HLEN.out (HRD.out.kp0 HK2.out) (by omega) HG2.out).mono ?_;rintro e w2' ⟨⟨ai,ci,rfl,hin,hib⟩,hw⟩;obtain rfl:=hw.symm;have HIN:=hid hin;have HIB:Hid (∀b,(Value.slice ai n ci).ownBlock=some b→(T1 b).1≠10+2*i):=hid (fun b hb=>by
  have:=hib b hb;rw[this,HNEW.out _ (by omega)];simp;omega)
 clear hin hib;have nn:Hid (∀b,w.heap.size≤b→¬(T1 b).1=10+2*i):=hid (fun b hb=>by rw[HNEW.out b hb];simp;omega);have ct:Hid (xs≠[]→∀b,(Value.slice a n c).ownBlock=some b→b<w.heap.size∧(T1 b).1=0):=hid (fun hx b hb=>by
  have:=HTAG.out hx b hb;exact⟨this.1,by rw[HT1.out b this.1];exact this.2⟩)
 have HXC:Hid (∀W,Kp0 w2 W→Calls Tryz.prog 21 #[.pointer (some ⟨d.px,0,none⟩),.int .i64 oH,.int .i64 oA,.int .i64 oB,.int .i64 oC,.int .i64 oD] W fun e w3=>e=.returned (.tuple #[.int .i64 (d.σx.cut oH oA oB oC oD).2.1,.int .i64 (d.σx.cut oH oA oB oC oD).2.2])∧∃T3,TagsTo w2 T1 T3∧Inv R T3 w3 p S (L.set i {d with σx:=(d.σx.cut oH oA oB oC oD).1})∧Kp (fun b=>(T1 b).1=10+2*i) w2 w3):=hid (fun W kW=>by
  have hIW:=HI2.out.kp0 HX.out (fun _ _=>rfl) kW;refine(HF.out _ _ _ _ _ oH oA oB oC oD (hIW.side i d HD.out).x (by rw[HS.out];exact hm)).mono ?_;rintro e w3 ⟨rfl,T3,ht3,hr3,hk3⟩;exact⟨rfl,T3,fun b hb=>ht3 b (Nat.lt_of_lt_of_le hb kW.size),hIW.stepX HX.out HD.out ht3 hr3 hk3,(Kp.of0 kW).trans hk3 (fun _ _ e=>e)⟩)
 have HD3:Hid ((L.set i {d with σx:=(d.σx.cut oH oA oB oC oD).1})[i]? =some {d with σx:=(d.σx.cut oH oA oB oC oD).1}):=hid (by
  rw[List.getElem?_set];have:i<L.length:=by
   have h:=HD.out;rcases Nat.lt_or_ge i L.length with h'|h'
   ·exact h'
   ·rw[List.getElem?_eq_none h']at h;cases h
  simp[this])
 go_wp2
 go_region_held3 (fun w'=>w'.cell? ⟨d.sb,0,none⟩=some (.pointer (some ⟨d.px,0,none⟩))∧w'.cell? ⟨w.heap.size,1,none⟩=some (.int .i64 oH)∧w'.cell? ⟨w.heap.size,2,none⟩=some (.int .i64 oA)∧w'.cell? ⟨w.heap.size,3,none⟩=some (.int .i64 oB)∧w'.cell? ⟨w.heap.size,4,none⟩=some (.int .i64 oC)∧w'.cell? ⟨w.heap.size,5,none⟩=some (.int .i64 oD)) (first|go_keep|(go_split_ands;exact⟨hk3.cell y0 (by rw[HT1.out _ hsb,HSD.out.tag];simp;omega),hk3.cell b1 (nn.out _ (Nat.le_refl _)),hk3.cell b2 (nn.out _ (Nat.le_refl _)),hk3.cell b3 (nn.out _ (Nat.le_refl _)),hk3.cell b4 (nn.out _ (Nat.le_refl _)),hk3.cell b5 (nn.out _ (Nat.le_refl _))⟩))
  ((go_at_call 21;refine(HXC.out _ ?_).mono ?_;(first|exact Kp0.refl _|exact Kp0.drew (Kp0.refl _));rintro e w3 ⟨rfl,T3,ht3,hI3,hk3⟩))
 have d0:=hk3.cell b0 (nn.out _ (Nat.le_refl _));have d1:=hk3.cell b1 (nn.out _ (Nat.le_refl _));have d2:=hk3.cell b2 (nn.out _ (Nat.le_refl _));have d3:=hk3.cell b3 (nn.out _ (Nat.le_refl _));have d4:=hk3.cell b4 (nn.out _ (Nat.le_refl _));have d5:=hk3.cell b5 (nn.out _ (Nat.le_refl _));have d6:=hk3.cell b6 (nn.out _ (Nat.le_refl _));have x1:=hk3.cell y1 (by rw[HT1.out _ hsb,HSD.out.tag];simp;omega);have HG3:=hid (hk3.heap HG2.out (nn.out _ (by omega)));have hs3:w2.heap.size≤w3.heap.size:=hk3.size;have HRD3:=hid ((HRD.out.kp0 HK2.out).kpne hk3 (fun hx b hb e=>by have:=(ct.out hx b hb).2;omega));have HI3:=hid hI3;have HT3:=hid ht3;have HK3:=hid hk3;clear ht3 hI3 hk3 b0 b1 b2 b3 b4 b5 b6 y0 y1 HXC;have HYC:Hid (∀W,Kp0 w3 W→Calls Tryz.prog 112 #[.pointer (some ⟨d.py,0,none⟩),.int .i64 oH,.int .i64 oA,.int .i64 oB,.int .i64 oC,.int .i64 oD] W fun e w4=>e=.returned (.tuple #[.int .i64 (d.σy.cut oH oA oB oC oD).2.1,.int .i64 (d.σy.cut oH oA oB oC oD).2.2])∧∃T4,TagsTo w3 T3 T4∧Inv R T4 w4 p S ((L.set i {d with σx:=(d.σx.cut oH oA oB oC oD).1}).set i {{d with σx:=(d.σx.cut oH oA oB oC oD).1}with σy:=(d.σy.cut oH oA oB oC oD).1})∧Kp (fun b=>(T3 b).1=11+2*i) w3 w4):=hid (fun W kW=>by
  have hIW:=HI3.out.kp0 HX.out (fun _ _=>rfl) kW;refine(ycut_calls (hIW.side i _ HD3.out).y oH oA oB oC oD hm).mono ?_;rintro e w4 ⟨rfl,hst4⟩;obtain⟨T4,ht4,hr4,hk4⟩:=hst4.step;exact⟨rfl,T4,fun b hb=>ht4 b (Nat.lt_of_lt_of_le hb kW.size),hIW.stepY HX.out HD3.out ht4 hr4 hk4,(Kp.of0 kW).trans hk4 (fun _ _ e=>e)⟩)
 have nn4:Hid (∀b,w.heap.size≤b→b<w2.heap.size→¬(T3 b).1=11+2*i):=hid (fun b hb hb2=>by rw[HT3.out b hb2,HNEW.out b hb];simp;omega);go_wp2
 go_region_held3 (fun w'=>w'.cell? ⟨d.sb,1,none⟩=some (.pointer (some ⟨d.py,0,none⟩))∧w'.cell? ⟨w.heap.size,1,none⟩=some (.int .i64 oH)∧w'.cell? ⟨w.heap.size,2,none⟩=some (.int .i64 oA)∧w'.cell? ⟨w.heap.size,3,none⟩=some (.int .i64 oB)∧w'.cell? ⟨w.heap.size,4,none⟩=some (.int .i64 oC)∧w'.cell? ⟨w.heap.size,5,none⟩=some (.int .i64 oD)) (first|go_keep|(go_split_ands;exact⟨hk4.cell x1 (by rw[HT3.out _ (by simp;omega),HT1.out _ hsb,HSD.out.tag];simp;omega),hk4.cell d1 (nn4.out _ (Nat.le_refl _) (by simp;omega)),hk4.cell d2 (nn4.out _ (Nat.le_refl _) (by simp;omega)),hk4.cell d3 (nn4.out _ (Nat.le_refl _) (by simp;omega)),hk4.cell d4 (nn4.out _ (Nat.le_refl _) (by simp;omega)),hk4.cell d5 (nn4.out _ (Nat.le_refl _) (by simp;omega))⟩))
  ((go_at_call 112;refine(HYC.out _ ?_).mono ?_;(first|exact Kp0.refl _|exact Kp0.drew (Kp0.refl _));rintro e w4 ⟨rfl,T4,ht4,hI4,hk4⟩))
 have d0':=hk4.cell d0 (nn4.out _ (Nat.le_refl _) (by simp;omega));have d6':=hk4.cell d6 (nn4.out _ (Nat.le_refl _) (by simp;omega));have HG4:=hid (hk4.heap HG3.out (nn4.out _ (by omega) hs2));have hs4:w3.heap.size≤w4.heap.size:=hk4.size;have HRD4:=hid (HRD3.out.kpne hk4 (fun hx b hb e=>by
  have:=ct.out hx b hb;rw[HT3.out b (by omega)]at e;omega))
 have HI4:=hid hI4;have HT4:=hid ht4;have HK4:=hid hk4;have HCT:=hid ct.out;clear ht4 hI4 hk4 d0 d1 d2 d3 d4 d5 d6 HYC;have HT41:Hid (∀b,b<w2.heap.size→T4 b=T1 b):=hid (fun b hb=>by rw[HT4.out b (by omega),HT3.out b hb])
 go_wp2_with fail
 refine(returned_calls HI4.out.wat (w.heap.size+1) n _ xs HLEN.out (by omega) HRD4.out HG4.out (by rw[HT41.out _ hs2];exact HNEW.out _ (by omega)) (fun hx b hb=>by
   have:=HCT.out hx b hb;rw[HT41.out b (by omega)];omega) hnt (fun j v hv e=>by have:=HI.out.wat.lt hv e;omega) (fun j v hv e=>by have:=HI.out.wat.ltt hv e;omega)).mono ?_
 rintro e w5 ⟨rfl,T5,vt,ht5,hw5,hk5⟩;have HI5:=hid (HI4.out.stepW HX.out ht5 hw5 rfl hk5);have HT5:=hid ht5;have HK5:=hid hk5;clear ht5 hw5 hk5;have q1:((d.σx.cut oH oA oB oC oD).2.1==(d.σy.cut oH oA oB oC oD).2.1)=true:=by rw[HS.out];simp
 have q2:((d.σx.cut oH oA oB oC oD).2.2==(d.σy.cut oH oA oB oC oD).2.2)=true:=by rw[HS.out];simp
 go_wp2
 go_ret;have hLL:(L.set i {d with σx:=(d.σx.cut oH oA oB oC oD).1}).set i {{d with σx:=(d.σx.cut oH oA oB oC oD).1}with σy:=(d.σy.cut oH oA oB oC oD).1}=L.set i {d with σx:=(d.σy.cut oH oA oB oC oD).1,σy:=(d.σy.cut oH oA oB oC oD).1}:=by first|rw[List.set_set,HS.out]|(rw[List.set_set];show L.set i ⟨d.sb,d.px,d.py,d.σx,d.σy⟩=_;rw[HS.out])
 have hI5:=HI5.out;rw[hLL]at hI5;have s2:=HK2.out.size;refine⟨ret_bool (by simp),T5,_,fun b hb=>by rw[HT5.out b (by omega),HT41.out b (by omega),HT1.out b hb],hI5,Nat.le_refl _,by simp[WS.turn],by simp[WS.turn],?_⟩;have k3:Kp (fun b=>5≤(T b).1) w w3:=(Kp.of0 HK2.out).trans HK3.out (fun b hb e=>by rw[HT1.out b hb]at e;omega);have k4:Kp (fun b=>5≤(T b).1) w w4:=k3.trans HK4.out (fun b hb e=>by rw[HT3.out b (by omega),HT1.out b hb]at e;omega);exact k4.trans HK5.out (fun b hb e=>by rw[HT41.out b (by omega),HT1.out b hb]at e;omega)
theorem views_turn{R:Tags→Nat→World→Nat→Sp→Prop}(X:XC R)(hF:TurnC R){T:Tags}{w:World}{p:Nat}{S:WS}{L:List SD}(hI:Inv R T w p S L){i:Nat}{d:SD}(hd:L[i]? =some d)(hσ:d.σx=d.σy)(oH oA oB oC oD:Int)(vL:Value)(wh:Bool)(xs:List Int)(a:Option Addr)(n c:Nat)(hL:OpL T w vL a n c xs)(hnt:S.turned.length+1≤1000000000)(hm:d.σy.arrs.length+1≤100000000)(_hb:d.σy.bufs.length+1≤100000000):Calls Tryz.prog 76 #[.pointer (some ⟨p,0,none⟩),.pointer (some ⟨d.sb,0,none⟩),.agg #[.int .i64 10,.int .i64 oH,.int .i64 oA,.int .i64 oB,.int .i64 oC,.int .i64 oD,vL,.bool wh]] w fun e w'=>e=.returned (.bool true)∧Went R T w p S (L.set i {d with σx:=(d.σy.turn oH xs).1,σy:=(d.σy.turn oH xs).1}) 0 1 w':=by
 have hsd:=hI.side i d hd;have z0:w.cell? ⟨d.sb,0,none⟩=some (.pointer (some ⟨d.px,0,none⟩)):=by simp[World.cell?,hsd.blk]
 have z1:w.cell? ⟨d.sb,1,none⟩=some (.pointer (some ⟨d.py,0,none⟩)):=by simp[World.cell?,hsd.blk]
 have hsb:d.sb<w.heap.size:=lt_of_heap hsd.blk;obtain⟨rfl,hlen,hrd,htag,hbig⟩:=hL;have HRD:=hid hrd;have HTAG:=hid htag;have HLEN:=hid hlen;have HI:=hid hI;have HD:=hid hd;have HX:=hid X;have HS:=hid hσ;have HSD:=hid hsd;have HF:Hid (TurnC R):=hid hF;clear hF hI hd hσ hsd X hrd htag hlen;obtain⟨T1,hT1⟩:∃T1,retag w T (5,9)=T1:=⟨_,rfl⟩;have HT1:Hid (TagsTo w T T1):=hid (by rw[←hT1];exact retag_to w T _);have HNEW:Hid (∀b,w.heap.size≤b→T1 b=(5,9)):=hid (fun b hb=>by rw[←hT1];exact retag_new hb);clear hT1;have HLENT:Hid (∀y,Calls Tryz.prog 104 #[.slice a n c] (w.alloc y) fun e w'=>e=.returned (.slice (some ⟨w.heap.size+1,0,none⟩) (n+1) (n+1))∧w'=(w.alloc y).alloc (.cells (ints (xs++[0])).toArray 3)):=hid (fun y=>
  (lent_calls _ xs (w.alloc y) (HRD.out.kp0 (Kp.alloc (Kp.refl _ _) _)) (by have:=HLEN.out;omega)).mono (by
   rintro e w' ⟨rfl,rfl⟩;rw[HLEN.out];exact⟨by simp,rfl⟩))
 go_enter Tryz.func76,Tryz.ntmps76
 go_wp2_with fail
 refine(HLENT.out _).mono ?_;rintro e w2 ⟨rfl,hw2⟩;have HK2:Hid (Kp0 w w2):=hid (by rw[hw2];exact Kp.alloc (Kp.alloc (Kp.refl _ _) _) _);have hg2:w2.heap[w.heap.size+1]? =some (.cells (ints (xs++[0])).toArray 3 (0,0)):=by
  rw[hw2];have:=heap_alloc_new (w.alloc (.cells #[.int .i64 10,.int .i64 oH,.int .i64 oA,.int .i64 oB,.int .i64 oC,.int .i64 oD,.slice a n c,.bool wh] 87)) (.cells (ints (xs++[0])).toArray 3);simpa using this
 have hbox:w2.heap[w.heap.size]? =some (.cells #[.int .i64 10,.int .i64 oH,.int .i64 oA,.int .i64 oB,.int .i64 oC,.int .i64 oD,.slice a n c,.bool wh] 87 (0,0)):=by
  rw[hw2,Below.heap_alloc _ _ _ (by simp)];exact heap_alloc_new _ _
 have HG2:=hid hg2;have HBOX:=hid hbox;have hs2:w.heap.size+1<w2.heap.size:=lt_of_heap hg2;have b0:w2.cell? ⟨w.heap.size,0,none⟩=some (.int .i64 10):=by simp[World.cell?,hbox]
 have b1:w2.cell? ⟨w.heap.size,1,none⟩=some (.int .i64 oH):=by simp[World.cell?,hbox]
 have b6:w2.cell? ⟨w.heap.size,6,none⟩=some (.slice a n c):=by simp[World.cell?,hbox]
 have y0:=HK2.out.cell z0;have y1:=HK2.out.cell z1;have HI2:=hid (HI.out.kp0 HX.out HT1.out HK2.out);clear hw2 hg2 hbox z0 z1 HLENT
 go_wp2_with fail
 refine(hand_calls (w.heap.size+1) n c a xs w2 HLEN.out (HRD.out.kp0 HK2.out) (by omega) HG2.out).mono ?_;rintro e w2' ⟨⟨ai,ci,rfl,hin,hib⟩,hw⟩;obtain rfl:=hw.symm;have HIN:=hid hin;have HIB:Hid (∀b,(Value.slice ai n ci).ownBlock=some b→(T1 b).1≠10+2*i):=hid (fun b hb=>by
  have:=hib b hb;rw[this,HNEW.out _ (by omega)];simp;omega)
 clear hin hib;have nn:Hid (∀b,w.heap.size≤b→¬(T1 b).1=10+2*i):=hid (fun b hb=>by rw[HNEW.out b hb];simp;omega);have ct:Hid (xs≠[]→∀b,(Value.slice a n c).ownBlock=some b→b<w.heap.size∧(T1 b).1=0):=hid (fun hx b hb=>by
  have:=HTAG.out hx b hb;exact⟨this.1,by rw[HT1.out b this.1];exact this.2⟩)
 have HXC:Hid (∀W,Kp0 w2 W→Calls Tryz.prog 20 #[.pointer (some ⟨d.px,0,none⟩),.int .i64 oH,.slice ai n ci] W fun e w3=>e=.returned (.tuple #[.int .i64 (d.σx.turn oH xs).2.1,.int .i64 (d.σx.turn oH xs).2.2])∧∃T3,TagsTo w2 T1 T3∧Inv R T3 w3 p S (L.set i {d with σx:=(d.σx.turn oH xs).1})∧Kp (fun b=>(T1 b).1=10+2*i) w2 w3):=hid (fun W kW=>by
  have hIW:=HI2.out.kp0 HX.out (fun _ _=>rfl) kW;refine(HF.out _ _ _ _ _ oH _ xs (hIW.side i d HD.out).x (HIN.out.kp0 kW) HIB.out (by rw[HS.out];exact hm)).mono ?_;rintro e w3 ⟨rfl,T3,ht3,hr3,hk3⟩;exact⟨rfl,T3,fun b hb=>ht3 b (Nat.lt_of_lt_of_le hb kW.size),hIW.stepX HX.out HD.out ht3 hr3 hk3,(Kp.of0 kW).trans hk3 (fun _ _ e=>e)⟩)
 have HD3:Hid ((L.set i {d with σx:=(d.σx.turn oH xs).1})[i]? =some {d with σx:=(d.σx.turn oH xs).1}):=hid (by
  rw[List.getElem?_set];have:i<L.length:=by
   have h:=HD.out;rcases Nat.lt_or_ge i L.length with h'|h'
   ·exact h'
   ·rw[List.getElem?_eq_none h']at h;cases h
  simp[this])
 go_wp2
 go_region_held3 (fun w'=>w'.cell? ⟨d.sb,0,none⟩=some (.pointer (some ⟨d.px,0,none⟩))∧w'.cell? ⟨w.heap.size,1,none⟩=some (.int .i64 oH)) (first|go_keep|(go_split_ands;exact⟨hk3.cell y0 (by rw[HT1.out _ hsb,HSD.out.tag];simp;omega),hk3.cell b1 (nn.out _ (Nat.le_refl _))⟩))
  ((go_at_call 20;refine(HXC.out _ ?_).mono ?_;(first|exact Kp0.refl _|exact Kp0.drew (Kp0.refl _));rintro e w3 ⟨rfl,T3,ht3,hI3,hk3⟩))
 have d0:=hk3.cell b0 (nn.out _ (Nat.le_refl _));have d1:=hk3.cell b1 (nn.out _ (Nat.le_refl _));have d6:=hk3.cell b6 (nn.out _ (Nat.le_refl _));have x1:=hk3.cell y1 (by rw[HT1.out _ hsb,HSD.out.tag];simp;omega);have HG3:=hid (hk3.heap HG2.out (nn.out _ (by omega)));have hs3:w2.heap.size≤w3.heap.size:=hk3.size;have HRD3:=hid ((HRD.out.kp0 HK2.out).kpne hk3 (fun hx b hb e=>by have:=(ct.out hx b hb).2;omega));have HI3:=hid hI3;have HT3:=hid ht3;have HK3:=hid hk3;clear ht3 hI3 hk3 b0 b1 b6 y0 y1 HXC;have HYC:Hid (∀W,Kp0 w3 W→Calls Tryz.prog 113 #[.pointer (some ⟨d.py,0,none⟩),.int .i64 oH,.slice a n c] W fun e w4=>e=.returned (.tuple #[.int .i64 (d.σy.turn oH xs).2.1,.int .i64 (d.σy.turn oH xs).2.2])∧∃T4,TagsTo w3 T3 T4∧Inv R T4 w4 p S ((L.set i {d with σx:=(d.σx.turn oH xs).1}).set i {{d with σx:=(d.σx.turn oH xs).1}with σy:=(d.σy.turn oH xs).1})∧Kp (fun b=>(T3 b).1=11+2*i) w3 w4):=hid (fun W kW=>by
  have hIW:=HI3.out.kp0 HX.out (fun _ _=>rfl) kW;refine(yturn_calls (hIW.side i _ HD3.out).y oH _ xs (HRD3.out.kp0 kW) hm).mono ?_;rintro e w4 ⟨rfl,hst4⟩;obtain⟨T4,ht4,hr4,hk4⟩:=hst4.step;exact⟨rfl,T4,fun b hb=>ht4 b (Nat.lt_of_lt_of_le hb kW.size),hIW.stepY HX.out HD3.out ht4 hr4 hk4,(Kp.of0 kW).trans hk4 (fun _ _ e=>e)⟩)
 have nn4:Hid (∀b,w.heap.size≤b→b<w2.heap.size→¬(T3 b).1=11+2*i):=hid (fun b hb hb2=>by rw[HT3.out b hb2,HNEW.out b hb];simp;omega);go_wp2
 go_region_held3 (fun w'=>w'.cell? ⟨d.sb,1,none⟩=some (.pointer (some ⟨d.py,0,none⟩))∧w'.cell? ⟨w.heap.size,1,none⟩=some (.int .i64 oH)∧w'.cell? ⟨w.heap.size,6,none⟩=some (.slice a n c)) (first|go_keep|(go_split_ands;exact⟨hk4.cell x1 (by rw[HT3.out _ (by simp;omega),HT1.out _ hsb,HSD.out.tag];simp;omega),hk4.cell d1 (nn4.out _ (Nat.le_refl _) (by simp;omega)),hk4.cell d6 (nn4.out _ (Nat.le_refl _) (by simp;omega))⟩))
  ((go_at_call 113;refine(HYC.out _ ?_).mono ?_;(first|exact Kp0.refl _|exact Kp0.drew (Kp0.refl _));rintro e w4 ⟨rfl,T4,ht4,hI4,hk4⟩))
 have d0':=hk4.cell d0 (nn4.out _ (Nat.le_refl _) (by simp;omega));have d6':=hk4.cell d6 (nn4.out _ (Nat.le_refl _) (by simp;omega));have HG4:=hid (hk4.heap HG3.out (nn4.out _ (by omega) hs2));have hs4:w3.heap.size≤w4.heap.size:=hk4.size;have HRD4:=hid (HRD3.out.kpne hk4 (fun hx b hb e=>by
  have:=ct.out hx b hb;rw[HT3.out b (by omega)]at e;omega))
 have HI4:=hid hI4;have HT4:=hid ht4;have HK4:=hid hk4;have HCT:=hid ct.out;clear ht4 hI4 hk4 d0 d1 d6 HYC;have HT41:Hid (∀b,b<w2.heap.size→T4 b=T1 b):=hid (fun b hb=>by rw[HT4.out b (by omega),HT3.out b hb])
 go_wp2_with fail
 refine(returned_calls HI4.out.wat (w.heap.size+1) n _ xs HLEN.out (by omega) HRD4.out HG4.out (by rw[HT41.out _ hs2];exact HNEW.out _ (by omega)) (fun hx b hb=>by
   have:=HCT.out hx b hb;rw[HT41.out b (by omega)];omega) hnt (fun j v hv e=>by have:=HI.out.wat.lt hv e;omega) (fun j v hv e=>by have:=HI.out.wat.ltt hv e;omega)).mono ?_
 rintro e w5 ⟨rfl,T5,vt,ht5,hw5,hk5⟩;have HI5:=hid (HI4.out.stepW HX.out ht5 hw5 rfl hk5);have HT5:=hid ht5;have HK5:=hid hk5;clear ht5 hw5 hk5;have q1:((d.σx.turn oH xs).2.1==(d.σy.turn oH xs).2.1)=true:=by rw[HS.out];simp
 have q2:((d.σx.turn oH xs).2.2==(d.σy.turn oH xs).2.2)=true:=by rw[HS.out];simp
 go_wp2
 go_ret;have hLL:(L.set i {d with σx:=(d.σx.turn oH xs).1}).set i {{d with σx:=(d.σx.turn oH xs).1}with σy:=(d.σy.turn oH xs).1}=L.set i {d with σx:=(d.σy.turn oH xs).1,σy:=(d.σy.turn oH xs).1}:=by first|rw[List.set_set,HS.out]|(rw[List.set_set];show L.set i ⟨d.sb,d.px,d.py,d.σx,d.σy⟩=_;rw[HS.out])
 have hI5:=HI5.out;rw[hLL]at hI5;have s2:=HK2.out.size;refine⟨ret_bool (by simp),T5,_,fun b hb=>by rw[HT5.out b (by omega),HT41.out b (by omega),HT1.out b hb],hI5,Nat.le_refl _,by simp[WS.turn],by simp[WS.turn],?_⟩;have k3:Kp (fun b=>5≤(T b).1) w w3:=(Kp.of0 HK2.out).trans HK3.out (fun b hb e=>by rw[HT1.out b hb]at e;omega);have k4:Kp (fun b=>5≤(T b).1) w w4:=k3.trans HK4.out (fun b hb e=>by rw[HT3.out b (by omega),HT1.out b hb]at e;omega);exact k4.trans HK5.out (fun b hb e=>by rw[HT41.out b (by omega),HT1.out b hb]at e;omega)
end Go.Proofs.YticbbncdcannlaaGreat
