import Derived.Deep.RegionLaw
import Derived.BigRegion
import Derived.Deep.Cut
import Derived.Deep.RegionHeld3
import Derived.Test.YticbbncdcannlaaGreatG33
import Derived.Test.YticbbncdcannlaaGreatG44
set_option maxRecDepth 100000
set_option maxHeartbeats 8000000
namespace Go.Proofs.YticbbncdcannlaaGreat
open Go.RowKit Go.Maps Go.ChangeMaps Go.MapKept
theorem xReshapeCopyB{T:Tags}{o:Nat}{w:World}{p:Nat}{L:XL}{X:XS}(h:XAt T o w p L X)(hd:Int)(va:Value)(x:XA)(s:List Int)(hA:X.A hd=some x)(hk:x.kind=1)(hl:okShape x.l)(hs:okShape s)(hv:vol s=vol x.l)(mc:Nat)(P:List Int)(mv:Nat)(V:List Int){S1:Nat→Prop}(HS1:Hid (∀b,S1 b→b<w.heap.size)){R:Int→Int→World→Prop}(HS:Hid (∀W,Kp0 w W→Calls Tryz.prog 56 #[va] W fun e w'=>e=.returned (.tuple #[.agg (shC s).toArray,.bool true])∧Kp0 W w'))(HG:Hid (∀W,Calls Tryz.prog 58 #[.agg (grC x.l x.t x.f).toArray,.agg (shC s).toArray] W fun e w'=>e=.returned (.tuple #[.agg zG,.bool false])∧Kp0 W w'))(HC:Hid (∀W,Calls Tryz.prog 60 #[.agg (grC x.l x.t x.f).toArray] W fun e w'=>∃ao c,e=.returned (.slice ao mc c)∧Kp0 W w'∧Fr W.heap.size w' (.slice ao mc c) P))(HRd:Hid (∀W vp,Kp0 w W→RdI W vp P→Calls Tryz.prog 195 #[.pointer (some ⟨L.q1,0,none⟩),vp] W fun e w'=>∃ao c,e=.returned (.slice ao mv c)∧Kp0 W w'∧Fr W.heap.size w' (.slice ao mv c) V))(HM:Hid (∀W vv,Kp0 w W→Fr w.heap.size W vv V→Calls Tryz.prog 59 #[.pointer (some ⟨p,0,none⟩),.int .i64 1,.iface 126 (.pointer (some ⟨L.q1,0,none⟩)),.agg (shC s).toArray,vv] W fun e w'=>∃a b,e=.returned (.tuple #[.int .i64 a,.int .i64 b])∧R a b w'∧Kp S1 W w')):Calls Tryz.prog 24 #[.pointer (some ⟨p,0,none⟩),.int .i64 hd,va] w fun e w'=>∃a b,e=.returned (.tuple #[.int .i64 a,.bool false,.int .i64 b])∧R a b w':=by
 have HF:=hid (xfind_some h hd x hA (.inl hk));rw[hk,inVB]at HF;have HC2:Hid (∀W,Calls Tryz.prog 60 #[.agg (grC x.l x.t x.f).toArray] W fun e w'=>∃v,e=.returned v∧∃ao c,v=.slice ao mc c∧Kp0 W w'∧Fr W.heap.size w' (.slice ao mc c) P):=hid (fun W=>(HC.out W).mono (fun e w' ⟨ao,c,h1,h2,h3⟩=>⟨_,h1,ao,c,rfl,h2,h3⟩));have HR2:Hid (∀W vp,Kp0 w W→RdI W vp P→Calls Tryz.prog 195 #[.pointer (some ⟨L.q1,0,none⟩),vp] W fun e w'=>∃v,e=.returned v∧∃ao c,v=.slice ao mv c∧Kp0 W w'∧Fr W.heap.size w' (.slice ao mv c) V):=hid (fun W vp k hr=>(HRd.out W vp k hr).mono (fun e w' ⟨ao,c,h1,h2,h3⟩=>⟨_,h1,ao,c,rfl,h2,h3⟩));have HM2:Hid (∀W vv,Kp0 w W→Fr w.heap.size W vv V→Calls Tryz.prog 59 #[.pointer (some ⟨p,0,none⟩),.int .i64 1,.iface 126 (.pointer (some ⟨L.q1,0,none⟩)),.agg (shC s).toArray,vv] W fun e w'=>∃v,e=.returned v∧∃a b,v=.tuple #[.int .i64 a,.int .i64 b]∧R a b w'∧Kp S1 W w'):=hid (fun W vv k hr=>(HM.out W vv k hr).mono (fun e w' ⟨a,b,h1,h2⟩=>⟨_,h1,a,b,rfl,h2⟩));have HMR:=hid (Tryz.mReadB ⟨L.q1,0,none⟩);have hna:=Tryz.nReadB ⟨L.q1,0,none⟩;have HV1:Hid (∀W,Calls Tryz.prog 57 #[.agg (shC s).toArray] W fun e w'=>∃v,e=.returned v∧(v=.int .i64 (vol s)∧Kp0 W w')):=hid (fun W=>(xvolume_calls s W hs.2.1 hs.1).mono (fun e w' h=>⟨_,h.1,rfl,h.2⟩));have HV2:Hid (∀W,Calls Tryz.prog 57 #[.agg (shC x.l).toArray] W fun e w'=>∃v,e=.returned v∧(v=.int .i64 (vol x.l)∧Kp0 W w')):=hid (fun W=>(xvolume_calls x.l W hl.2.1 hl.1).mono (fun e w' h=>⟨_,h.1,rfl,h.2⟩));rw[hv]at HV1;generalize vol x.l=v2 at*;clear HC HRd HM;generalize L.q1=q at*;unfold XA.cs at HF;rw[hk]at HF;unfold shC at HS HV1 HV2 HG HM2;unfold grC at HG HC2;unfold zG at HG;generalize x.l.length=n at*;generalize s.length=m at*;clear h hA hk hl hs hv;go_enter Tryz.func24,Tryz.ntmps24
 go_wp2_with fail
 refine HF.out.mono ?_;rintro e w2 ⟨rfl,hw⟩;have HK:=hid hw;have HB2:Hid ((w2.alloc (.cells #[.int .i64 1,.int .i64 x.buf,.int .i64 (nth x.l 0),.int .i64 (nth x.l 1),.int .i64 (nth x.l 2),.int .i64 (nth x.l 3),.int .i64 (n:Int),.int .i64 x.f,.int .i64 (nth x.t 0),.int .i64 (nth x.t 1),.int .i64 (nth x.t 2),.int .i64 (nth x.t 3),.bool x.ro] 109)).heap[w2.heap.size]? =some (.cells #[.int .i64 1,.int .i64 x.buf,.int .i64 (nth x.l 0),.int .i64 (nth x.l 1),.int .i64 (nth x.l 2),.int .i64 (nth x.l 3),.int .i64 (n:Int),.int .i64 x.f,.int .i64 (nth x.t 0),.int .i64 (nth x.t 1),.int .i64 (nth x.t 2),.int .i64 (nth x.t 3),.bool x.ro] 109 (0,0))):=heap_alloc_new w2 _;clear hw
 go_wp2_with fail
 refine(HS.out _ (HK.out.alloc _)).mono ?_;rintro e w3 ⟨rfl,hw⟩;have HB3:=hid (hw.heap HB2.out);have HK3:Hid (Kp0 w w3):=Kp0.trans (HK.out.alloc _) hw;have HN0:Hid (¬S1 w2.heap.size):=hid (fun e=>by have:=HS1.out _ e;have:=HK.out.size;omega);have HN1:Hid (¬S1 w3.heap.size):=hid (fun e=>by have:=HS1.out _ e;have:=HK3.out.size;omega);clear hw HB2;generalize w2.heap.size=b0 at*;go_wp2
 have HB4:=hid (heap_alloc_keeps HB3.out (.cells #[.int .i64 (nth s 0),.int .i64 (nth s 1),.int .i64 (nth s 2),.int .i64 (nth s 3),.int .i64 (m:Int)] 104));have HS4:=hid (heap_alloc_new w3 (.cells #[.int .i64 (nth s 0),.int .i64 (nth s 1),.int .i64 (nth s 2),.int .i64 (nth s 3),.int .i64 (m:Int)] 104));have HK4:=hid (HK3.out.alloc (.cells #[.int .i64 (nth s 0),.int .i64 (nth s 1),.int .i64 (nth s 2),.int .i64 (nth s 3),.int .i64 (m:Int)] 104));clear HB3 HK3;generalize w3.alloc (.cells #[.int .i64 (nth s 0),.int .i64 (nth s 1),.int .i64 (nth s 2),.int .i64 (nth s 3),.int .i64 (m:Int)] 104)=W4 at*;generalize w3.heap.size=b1 at*;obtain⟨y0,y1,y2,y3,y4,y5,y6,y7,y8,y9,y10,y11,y12⟩:=cells13 HB4.out;obtain⟨z0,z1,z2,z3,z4⟩:=cells5 HS4.out;clear y0 y1 y7 y8 y9 y10 y11 y12;have HKc:Hid (Kp0 w W4.drew):=hid HK4.out.drew
 go_cut [44]from 34 (fun s44 W=>s44=.bool false∧Kp0 w W∧W.heap[b0]? =some (.cells #[.int .i64 1,.int .i64 x.buf,.int .i64 (nth x.l 0),.int .i64 (nth x.l 1),.int .i64 (nth x.l 2),.int .i64 (nth x.l 3),.int .i64 (n:Int),.int .i64 x.f,.int .i64 (nth x.t 0),.int .i64 (nth x.t 1),.int .i64 (nth x.t 2),.int .i64 (nth x.t 3),.bool x.ro] 109 (0,0))∧W.heap[b1]? =some (.cells #[.int .i64 (nth s 0),.int .i64 (nth s 1),.int .i64 (nth s 2),.int .i64 (nth s 3),.int .i64 (m:Int)] 104 (0,0)))
 case first=>
  go_region_law ((first
   |(refine step_call1w (by rfl) 57 (.tmp 37) _ (by rfl) _ Tryz.func57 (by kernel_rfl) (by kernel_rfl) _ (by rfl) (HV1.out _) ?_;intro v7 w7 hR7;obtain⟨rfl,hk7⟩:=hR7;have HKc:=hid (Kp0.trans HKc.out hk7);have HB4:=hid (hk7.heap HB4.out);have HS4:=hid (hk7.heap HS4.out);have y2:=hk7.cell y2;have y3:=hk7.cell y3;have y4:=hk7.cell y4;have y5:=hk7.cell y5;have y6:=hk7.cell y6;have z0:=hk7.cell z0;have z1:=hk7.cell z1;have z2:=hk7.cell z2;have z3:=hk7.cell z3;have z4:=hk7.cell z4;clear hk7)
   |(refine step_call1w (by rfl) 57 (.tmp 41) _ (by rfl) _ Tryz.func57 (by kernel_rfl) (by kernel_rfl) _ (by rfl) (HV2.out _) ?_;intro v7 w7 hR7;obtain⟨rfl,hk7⟩:=hR7;have HKc:=hid (Kp0.trans HKc.out hk7);have HB4:=hid (hk7.heap HB4.out);have HS4:=hid (hk7.heap HS4.out);have y2:=hk7.cell y2;have y3:=hk7.cell y3;have y4:=hk7.cell y4;have y5:=hk7.cell y5;have y6:=hk7.cell y6;have z0:=hk7.cell z0;have z1:=hk7.cell z1;have z2:=hk7.cell z2;have z3:=hk7.cell z3;have z4:=hk7.cell z4;clear hk7)))
  all_goals
   go_wp2_with fail
   go_meet
   case rel=>exact⟨rfl,HKc.out,HB4.out,HS4.out⟩
 case rest=>
  obtain⟨rfl,hKc,hB4,hS4⟩:=hcut;have HKc:=hid hKc;have HB4:=hid hB4;have HS4:=hid hS4;clear hKc hB4 hS4 y2 y3 y4 y5 y6 z0 z1 z2 z3 z4 HV1 HV2 HS HF HK HK4;have hlt:=lt_of_heap HB4.out;have hlt1:=lt_of_heap HS4.out;obtain⟨y0,y1,y2,y3,y4,y5,y6,y7,y8,y9,y10,y11,y12⟩:=cells13 HB4.out;obtain⟨z0,z1,z2,z3,z4⟩:=cells5 HS4.out
  go_wp2_with fail
  refine(HG.out _).mono ?_;rintro e w4 ⟨rfl,hw⟩;have HB5:=hid (hw.heap HB4.out);have HS5:=hid (hw.heap HS4.out);have HK5:Hid (Kp0 w w4):=Kp0.trans HKc.out hw;clear hw y0 y1 y2 y3 y4 y5 y6 y7 y8 y9 y10 y11 y12 z0 z1 z2 z3 z4 HB4 HS4 HKc hlt hlt1;go_wp2
  have HB6:=hid (heap_alloc_keeps HB5.out (.cells #[.int .i64 0,.int .i64 0,.int .i64 0,.int .i64 0,.int .i64 0,.int .i64 0,.int .i64 0,.int .i64 0,.int .i64 0,.int .i64 0] 107));have HS6:=hid (heap_alloc_keeps HS5.out (.cells #[.int .i64 0,.int .i64 0,.int .i64 0,.int .i64 0,.int .i64 0,.int .i64 0,.int .i64 0,.int .i64 0,.int .i64 0,.int .i64 0] 107));have HK6:=hid (HK5.out.alloc (.cells #[.int .i64 0,.int .i64 0,.int .i64 0,.int .i64 0,.int .i64 0,.int .i64 0,.int .i64 0,.int .i64 0,.int .i64 0,.int .i64 0] 107));generalize w4.alloc (.cells #[.int .i64 0,.int .i64 0,.int .i64 0,.int .i64 0,.int .i64 0,.int .i64 0,.int .i64 0,.int .i64 0,.int .i64 0,.int .i64 0] 107)=W6 at HB6 HS6 HK6⊢;clear HB5 HS5 HK5;obtain⟨y0,y1,y2,y3,y4,y5,y6,y7,y8,y9,y10,y11,y12⟩:=cells13 HB6.out;obtain⟨z0,z1,z2,z3,z4⟩:=cells5 HS6.out;have HKd:Hid (Kp0 w W6.drew):=hid HK6.out.drew;clear y1 y12
  go_cut [11,18]from 45 (fun s11 s18 W=>∃a b,s11=.int .i64 b∧s18=.int .i64 a∧R a b W)
  case first=>
   go_region_held3 (fun W=>W.cell? ⟨b0,0,none⟩=some (.int .i64 1)∧W.cell? ⟨b0,2,none⟩=some (.int .i64 (nth x.l 0))∧W.cell? ⟨b0,3,none⟩=some (.int .i64 (nth x.l 1))∧W.cell? ⟨b0,4,none⟩=some (.int .i64 (nth x.l 2))∧W.cell? ⟨b0,5,none⟩=some (.int .i64 (nth x.l 3))∧W.cell? ⟨b0,6,none⟩=some (.int .i64 (n:Int))∧W.cell? ⟨b0,7,none⟩=some (.int .i64 x.f)∧W.cell? ⟨b0,8,none⟩=some (.int .i64 (nth x.t 0))∧W.cell? ⟨b0,9,none⟩=some (.int .i64 (nth x.t 1))∧W.cell? ⟨b0,10,none⟩=some (.int .i64 (nth x.t 2))∧W.cell? ⟨b0,11,none⟩=some (.int .i64 (nth x.t 3))∧W.cell? ⟨b1,0,none⟩=some (.int .i64 (nth s 0))∧W.cell? ⟨b1,1,none⟩=some (.int .i64 (nth s 1))∧W.cell? ⟨b1,2,none⟩=some (.int .i64 (nth s 2))∧W.cell? ⟨b1,3,none⟩=some (.int .i64 (nth s 3))∧W.cell? ⟨b1,4,none⟩=some (.int .i64 (m:Int))) (go_keep)
    ((first
    |(refine step_call1 (by rfl) 60 (.tmp 72) _ (by rfl) _ Tryz.func60 (by kernel_rfl) (by kernel_rfl) _ (by rfl) (HC2.out _) ?_;intro v7 w7 hR7;obtain⟨ao,c7,rfl,hk7,hf7⟩:=hR7;have y0:=hk7.cell y0;have y2:=hk7.cell y2;have y3:=hk7.cell y3;have y4:=hk7.cell y4;have y5:=hk7.cell y5;have y6:=hk7.cell y6;have y7:=hk7.cell y7;have y8:=hk7.cell y8;have y9:=hk7.cell y9;have y10:=hk7.cell y10;have y11:=hk7.cell y11;have z0:=hk7.cell z0;have z1:=hk7.cell z1;have z2:=hk7.cell z2;have z3:=hk7.cell z3;have z4:=hk7.cell z4)
    |(refine step_invoke1 (by rfl) (.tmp 76) "Read" (.tmp 73) _ (by rfl) _ (.slice ao mc c7) (by rfl) (by rfl) _ _ (HMR.out _ _) (HR2.out _ _ (Kp0.trans HKd.out hk7) hf7.1) ?_;intro v8 w8 hR8;obtain⟨ao8,c8,rfl,hk8,hf8⟩:=hR8;have y0:=hk8.cell y0;have y2:=hk8.cell y2;have y3:=hk8.cell y3;have y4:=hk8.cell y4;have y5:=hk8.cell y5;have y6:=hk8.cell y6;have y7:=hk8.cell y7;have y8:=hk8.cell y8;have y9:=hk8.cell y9;have y10:=hk8.cell y10;have y11:=hk8.cell y11;have z0:=hk8.cell z0;have z1:=hk8.cell z1;have z2:=hk8.cell z2;have z3:=hk8.cell z3;have z4:=hk8.cell z4)
    |(refine step_call5 (by rfl) 59 (.tmp 65) (.tmp 67) (.tmp 68) (.tmp 69) (.tmp 77) _ (by rfl) _ Tryz.func59 (by kernel_rfl) (by kernel_rfl) _ _ _ _ _ (by rfl) (by rfl) (by rfl) (by rfl) (by rfl) (HM2.out _ _ (Kp0.trans (Kp0.trans HKd.out hk7) hk8) (hf8.le (Kp0.trans HKd.out hk7).size)) ?_;intro v9 w9 hR9;obtain⟨a9,b9,rfl,hR9,hk9⟩:=hR9;have y0:=hk9.cell y0 HN0.out;have y2:=hk9.cell y2 HN0.out;have y3:=hk9.cell y3 HN0.out;have y4:=hk9.cell y4 HN0.out;have y5:=hk9.cell y5 HN0.out;have y6:=hk9.cell y6 HN0.out;have y7:=hk9.cell y7 HN0.out;have y8:=hk9.cell y8 HN0.out;have y9:=hk9.cell y9 HN0.out;have y10:=hk9.cell y10 HN0.out;have y11:=hk9.cell y11 HN0.out;have z0:=hk9.cell z0 HN1.out;have z1:=hk9.cell z1 HN1.out;have z2:=hk9.cell z2 HN1.out;have z3:=hk9.cell z3 HN1.out;have z4:=hk9.cell z4 HN1.out)))
   all_goals
    have HR9:=hid hR9;clear hR9 hk7 hk8 hk9 hf7 hf8 y0 y2 y3 y4 y5 y6 y7 y8 y9 y10 y11 z0 z1 z2 z3 z4
    go_wp2_with fail
    go_meet
    case rel=>exact⟨_,_,rfl,rfl,HR9.out⟩
  case rest=>
   obtain⟨a9,b9,rfl,rfl,hR9⟩:=hcut;have HR9:=hid hR9;clear hR9 y0 y2 y3 y4 y5 y6 y7 y8 y9 y10 y11 z0 z1 z2 z3 z4;go_wp2
   go_ret3
   exact⟨_,_,rfl,HR9.out⟩
theorem xReshapeCopyI{T:Tags}{o:Nat}{w:World}{p:Nat}{L:XL}{X:XS}(h:XAt T o w p L X)(hd:Int)(va:Value)(x:XA)(s:List Int)(hA:X.A hd=some x)(hk:x.kind=2)(hl:okShape x.l)(hs:okShape s)(hv:vol s=vol x.l)(mc:Nat)(P:List Int)(mv:Nat)(V:List Int){S1:Nat→Prop}(HS1:Hid (∀b,S1 b→b<w.heap.size)){R:Int→Int→World→Prop}(HS:Hid (∀W,Kp0 w W→Calls Tryz.prog 56 #[va] W fun e w'=>e=.returned (.tuple #[.agg (shC s).toArray,.bool true])∧Kp0 W w'))(HG:Hid (∀W,Calls Tryz.prog 58 #[.agg (grC x.l x.t x.f).toArray,.agg (shC s).toArray] W fun e w'=>e=.returned (.tuple #[.agg zG,.bool false])∧Kp0 W w'))(HC:Hid (∀W,Calls Tryz.prog 60 #[.agg (grC x.l x.t x.f).toArray] W fun e w'=>∃ao c,e=.returned (.slice ao mc c)∧Kp0 W w'∧Fr W.heap.size w' (.slice ao mc c) P))(HRd:Hid (∀W vp,Kp0 w W→RdI W vp P→Calls Tryz.prog 215 #[.pointer (some ⟨L.q2,0,none⟩),vp] W fun e w'=>∃ao c,e=.returned (.slice ao mv c)∧Kp0 W w'∧Fr W.heap.size w' (.slice ao mv c) V))(HM:Hid (∀W vv,Kp0 w W→Fr w.heap.size W vv V→Calls Tryz.prog 59 #[.pointer (some ⟨p,0,none⟩),.int .i64 2,.iface 127 (.pointer (some ⟨L.q2,0,none⟩)),.agg (shC s).toArray,vv] W fun e w'=>∃a b,e=.returned (.tuple #[.int .i64 a,.int .i64 b])∧R a b w'∧Kp S1 W w')):Calls Tryz.prog 24 #[.pointer (some ⟨p,0,none⟩),.int .i64 hd,va] w fun e w'=>∃a b,e=.returned (.tuple #[.int .i64 a,.bool false,.int .i64 b])∧R a b w':=by
 have HF:=hid (xfind_some h hd x hA (.inr hk));rw[hk,inVI]at HF;have HC2:Hid (∀W,Calls Tryz.prog 60 #[.agg (grC x.l x.t x.f).toArray] W fun e w'=>∃v,e=.returned v∧∃ao c,v=.slice ao mc c∧Kp0 W w'∧Fr W.heap.size w' (.slice ao mc c) P):=hid (fun W=>(HC.out W).mono (fun e w' ⟨ao,c,h1,h2,h3⟩=>⟨_,h1,ao,c,rfl,h2,h3⟩));have HR2:Hid (∀W vp,Kp0 w W→RdI W vp P→Calls Tryz.prog 215 #[.pointer (some ⟨L.q2,0,none⟩),vp] W fun e w'=>∃v,e=.returned v∧∃ao c,v=.slice ao mv c∧Kp0 W w'∧Fr W.heap.size w' (.slice ao mv c) V):=hid (fun W vp k hr=>(HRd.out W vp k hr).mono (fun e w' ⟨ao,c,h1,h2,h3⟩=>⟨_,h1,ao,c,rfl,h2,h3⟩));have HM2:Hid (∀W vv,Kp0 w W→Fr w.heap.size W vv V→Calls Tryz.prog 59 #[.pointer (some ⟨p,0,none⟩),.int .i64 2,.iface 127 (.pointer (some ⟨L.q2,0,none⟩)),.agg (shC s).toArray,vv] W fun e w'=>∃v,e=.returned v∧∃a b,v=.tuple #[.int .i64 a,.int .i64 b]∧R a b w'∧Kp S1 W w'):=hid (fun W vv k hr=>(HM.out W vv k hr).mono (fun e w' ⟨a,b,h1,h2⟩=>⟨_,h1,a,b,rfl,h2⟩));have HMR:=hid (Tryz.mReadI ⟨L.q2,0,none⟩);have hna:=Tryz.nReadI ⟨L.q2,0,none⟩;have HV1:Hid (∀W,Calls Tryz.prog 57 #[.agg (shC s).toArray] W fun e w'=>∃v,e=.returned v∧(v=.int .i64 (vol s)∧Kp0 W w')):=hid (fun W=>(xvolume_calls s W hs.2.1 hs.1).mono (fun e w' h=>⟨_,h.1,rfl,h.2⟩));have HV2:Hid (∀W,Calls Tryz.prog 57 #[.agg (shC x.l).toArray] W fun e w'=>∃v,e=.returned v∧(v=.int .i64 (vol x.l)∧Kp0 W w')):=hid (fun W=>(xvolume_calls x.l W hl.2.1 hl.1).mono (fun e w' h=>⟨_,h.1,rfl,h.2⟩));rw[hv]at HV1;generalize vol x.l=v2 at*;clear HC HRd HM;generalize L.q2=q at*;unfold XA.cs at HF;rw[hk]at HF;unfold shC at HS HV1 HV2 HG HM2;unfold grC at HG HC2;unfold zG at HG;generalize x.l.length=n at*;generalize s.length=m at*;clear h hA hk hl hs hv;go_enter Tryz.func24,Tryz.ntmps24
 go_wp2_with fail
 refine HF.out.mono ?_;rintro e w2 ⟨rfl,hw⟩;have HK:=hid hw;have HB2:Hid ((w2.alloc (.cells #[.int .i64 2,.int .i64 x.buf,.int .i64 (nth x.l 0),.int .i64 (nth x.l 1),.int .i64 (nth x.l 2),.int .i64 (nth x.l 3),.int .i64 (n:Int),.int .i64 x.f,.int .i64 (nth x.t 0),.int .i64 (nth x.t 1),.int .i64 (nth x.t 2),.int .i64 (nth x.t 3),.bool x.ro] 109)).heap[w2.heap.size]? =some (.cells #[.int .i64 2,.int .i64 x.buf,.int .i64 (nth x.l 0),.int .i64 (nth x.l 1),.int .i64 (nth x.l 2),.int .i64 (nth x.l 3),.int .i64 (n:Int),.int .i64 x.f,.int .i64 (nth x.t 0),.int .i64 (nth x.t 1),.int .i64 (nth x.t 2),.int .i64 (nth x.t 3),.bool x.ro] 109 (0,0))):=heap_alloc_new w2 _;clear hw
 go_wp2_with fail
 refine(HS.out _ (HK.out.alloc _)).mono ?_;rintro e w3 ⟨rfl,hw⟩;have HB3:=hid (hw.heap HB2.out);have HK3:Hid (Kp0 w w3):=Kp0.trans (HK.out.alloc _) hw;have HN0:Hid (¬S1 w2.heap.size):=hid (fun e=>by have:=HS1.out _ e;have:=HK.out.size;omega);have HN1:Hid (¬S1 w3.heap.size):=hid (fun e=>by have:=HS1.out _ e;have:=HK3.out.size;omega);clear hw HB2;generalize w2.heap.size=b0 at*;go_wp2
 have HB4:=hid (heap_alloc_keeps HB3.out (.cells #[.int .i64 (nth s 0),.int .i64 (nth s 1),.int .i64 (nth s 2),.int .i64 (nth s 3),.int .i64 (m:Int)] 104));have HS4:=hid (heap_alloc_new w3 (.cells #[.int .i64 (nth s 0),.int .i64 (nth s 1),.int .i64 (nth s 2),.int .i64 (nth s 3),.int .i64 (m:Int)] 104));have HK4:=hid (HK3.out.alloc (.cells #[.int .i64 (nth s 0),.int .i64 (nth s 1),.int .i64 (nth s 2),.int .i64 (nth s 3),.int .i64 (m:Int)] 104));clear HB3 HK3;generalize w3.alloc (.cells #[.int .i64 (nth s 0),.int .i64 (nth s 1),.int .i64 (nth s 2),.int .i64 (nth s 3),.int .i64 (m:Int)] 104)=W4 at*;generalize w3.heap.size=b1 at*;obtain⟨y0,y1,y2,y3,y4,y5,y6,y7,y8,y9,y10,y11,y12⟩:=cells13 HB4.out;obtain⟨z0,z1,z2,z3,z4⟩:=cells5 HS4.out;clear y0 y1 y7 y8 y9 y10 y11 y12;have HKc:Hid (Kp0 w W4.drew):=hid HK4.out.drew
 go_cut [44]from 34 (fun s44 W=>s44=.bool false∧Kp0 w W∧W.heap[b0]? =some (.cells #[.int .i64 2,.int .i64 x.buf,.int .i64 (nth x.l 0),.int .i64 (nth x.l 1),.int .i64 (nth x.l 2),.int .i64 (nth x.l 3),.int .i64 (n:Int),.int .i64 x.f,.int .i64 (nth x.t 0),.int .i64 (nth x.t 1),.int .i64 (nth x.t 2),.int .i64 (nth x.t 3),.bool x.ro] 109 (0,0))∧W.heap[b1]? =some (.cells #[.int .i64 (nth s 0),.int .i64 (nth s 1),.int .i64 (nth s 2),.int .i64 (nth s 3),.int .i64 (m:Int)] 104 (0,0)))
 case first=>
  go_region_law ((first
   |(refine step_call1w (by rfl) 57 (.tmp 37) _ (by rfl) _ Tryz.func57 (by kernel_rfl) (by kernel_rfl) _ (by rfl) (HV1.out _) ?_;intro v7 w7 hR7;obtain⟨rfl,hk7⟩:=hR7;have HKc:=hid (Kp0.trans HKc.out hk7);have HB4:=hid (hk7.heap HB4.out);have HS4:=hid (hk7.heap HS4.out);have y2:=hk7.cell y2;have y3:=hk7.cell y3;have y4:=hk7.cell y4;have y5:=hk7.cell y5;have y6:=hk7.cell y6;have z0:=hk7.cell z0;have z1:=hk7.cell z1;have z2:=hk7.cell z2;have z3:=hk7.cell z3;have z4:=hk7.cell z4;clear hk7)
   |(refine step_call1w (by rfl) 57 (.tmp 41) _ (by rfl) _ Tryz.func57 (by kernel_rfl) (by kernel_rfl) _ (by rfl) (HV2.out _) ?_;intro v7 w7 hR7;obtain⟨rfl,hk7⟩:=hR7;have HKc:=hid (Kp0.trans HKc.out hk7);have HB4:=hid (hk7.heap HB4.out);have HS4:=hid (hk7.heap HS4.out);have y2:=hk7.cell y2;have y3:=hk7.cell y3;have y4:=hk7.cell y4;have y5:=hk7.cell y5;have y6:=hk7.cell y6;have z0:=hk7.cell z0;have z1:=hk7.cell z1;have z2:=hk7.cell z2;have z3:=hk7.cell z3;have z4:=hk7.cell z4;clear hk7)))
  all_goals
   go_wp2_with fail
   go_meet
   case rel=>exact⟨rfl,HKc.out,HB4.out,HS4.out⟩
 case rest=>
  obtain⟨rfl,hKc,hB4,hS4⟩:=hcut;have HKc:=hid hKc;have HB4:=hid hB4;have HS4:=hid hS4;clear hKc hB4 hS4 y2 y3 y4 y5 y6 z0 z1 z2 z3 z4 HV1 HV2 HS HF HK HK4;have hlt:=lt_of_heap HB4.out;have hlt1:=lt_of_heap HS4.out;obtain⟨y0,y1,y2,y3,y4,y5,y6,y7,y8,y9,y10,y11,y12⟩:=cells13 HB4.out;obtain⟨z0,z1,z2,z3,z4⟩:=cells5 HS4.out
  go_wp2_with fail
  refine(HG.out _).mono ?_;rintro e w4 ⟨rfl,hw⟩;have HB5:=hid (hw.heap HB4.out);have HS5:=hid (hw.heap HS4.out);have HK5:Hid (Kp0 w w4):=Kp0.trans HKc.out hw;clear hw y0 y1 y2 y3 y4 y5 y6 y7 y8 y9 y10 y11 y12 z0 z1 z2 z3 z4 HB4 HS4 HKc hlt hlt1;go_wp2
  have HB6:=hid (heap_alloc_keeps HB5.out (.cells #[.int .i64 0,.int .i64 0,.int .i64 0,.int .i64 0,.int .i64 0,.int .i64 0,.int .i64 0,.int .i64 0,.int .i64 0,.int .i64 0] 107));have HS6:=hid (heap_alloc_keeps HS5.out (.cells #[.int .i64 0,.int .i64 0,.int .i64 0,.int .i64 0,.int .i64 0,.int .i64 0,.int .i64 0,.int .i64 0,.int .i64 0,.int .i64 0] 107));have HK6:=hid (HK5.out.alloc (.cells #[.int .i64 0,.int .i64 0,.int .i64 0,.int .i64 0,.int .i64 0,.int .i64 0,.int .i64 0,.int .i64 0,.int .i64 0,.int .i64 0] 107));generalize w4.alloc (.cells #[.int .i64 0,.int .i64 0,.int .i64 0,.int .i64 0,.int .i64 0,.int .i64 0,.int .i64 0,.int .i64 0,.int .i64 0,.int .i64 0] 107)=W6 at HB6 HS6 HK6⊢;clear HB5 HS5 HK5;obtain⟨y0,y1,y2,y3,y4,y5,y6,y7,y8,y9,y10,y11,y12⟩:=cells13 HB6.out;obtain⟨z0,z1,z2,z3,z4⟩:=cells5 HS6.out;have HKd:Hid (Kp0 w W6.drew):=hid HK6.out.drew;clear y1 y12
  go_cut [11,18]from 45 (fun s11 s18 W=>∃a b,s11=.int .i64 b∧s18=.int .i64 a∧R a b W)
  case first=>
   go_region_held3 (fun W=>W.cell? ⟨b0,0,none⟩=some (.int .i64 2)∧W.cell? ⟨b0,2,none⟩=some (.int .i64 (nth x.l 0))∧W.cell? ⟨b0,3,none⟩=some (.int .i64 (nth x.l 1))∧W.cell? ⟨b0,4,none⟩=some (.int .i64 (nth x.l 2))∧W.cell? ⟨b0,5,none⟩=some (.int .i64 (nth x.l 3))∧W.cell? ⟨b0,6,none⟩=some (.int .i64 (n:Int))∧W.cell? ⟨b0,7,none⟩=some (.int .i64 x.f)∧W.cell? ⟨b0,8,none⟩=some (.int .i64 (nth x.t 0))∧W.cell? ⟨b0,9,none⟩=some (.int .i64 (nth x.t 1))∧W.cell? ⟨b0,10,none⟩=some (.int .i64 (nth x.t 2))∧W.cell? ⟨b0,11,none⟩=some (.int .i64 (nth x.t 3))∧W.cell? ⟨b1,0,none⟩=some (.int .i64 (nth s 0))∧W.cell? ⟨b1,1,none⟩=some (.int .i64 (nth s 1))∧W.cell? ⟨b1,2,none⟩=some (.int .i64 (nth s 2))∧W.cell? ⟨b1,3,none⟩=some (.int .i64 (nth s 3))∧W.cell? ⟨b1,4,none⟩=some (.int .i64 (m:Int))) (go_keep)
    ((first
    |(refine step_call1 (by rfl) 60 (.tmp 72) _ (by rfl) _ Tryz.func60 (by kernel_rfl) (by kernel_rfl) _ (by rfl) (HC2.out _) ?_;intro v7 w7 hR7;obtain⟨ao,c7,rfl,hk7,hf7⟩:=hR7;have y0:=hk7.cell y0;have y2:=hk7.cell y2;have y3:=hk7.cell y3;have y4:=hk7.cell y4;have y5:=hk7.cell y5;have y6:=hk7.cell y6;have y7:=hk7.cell y7;have y8:=hk7.cell y8;have y9:=hk7.cell y9;have y10:=hk7.cell y10;have y11:=hk7.cell y11;have z0:=hk7.cell z0;have z1:=hk7.cell z1;have z2:=hk7.cell z2;have z3:=hk7.cell z3;have z4:=hk7.cell z4)
    |(refine step_invoke1 (by rfl) (.tmp 76) "Read" (.tmp 73) _ (by rfl) _ (.slice ao mc c7) (by rfl) (by rfl) _ _ (HMR.out _ _) (HR2.out _ _ (Kp0.trans HKd.out hk7) hf7.1) ?_;intro v8 w8 hR8;obtain⟨ao8,c8,rfl,hk8,hf8⟩:=hR8;have y0:=hk8.cell y0;have y2:=hk8.cell y2;have y3:=hk8.cell y3;have y4:=hk8.cell y4;have y5:=hk8.cell y5;have y6:=hk8.cell y6;have y7:=hk8.cell y7;have y8:=hk8.cell y8;have y9:=hk8.cell y9;have y10:=hk8.cell y10;have y11:=hk8.cell y11;have z0:=hk8.cell z0;have z1:=hk8.cell z1;have z2:=hk8.cell z2;have z3:=hk8.cell z3;have z4:=hk8.cell z4)
    |(refine step_call5 (by rfl) 59 (.tmp 65) (.tmp 67) (.tmp 68) (.tmp 69) (.tmp 77) _ (by rfl) _ Tryz.func59 (by kernel_rfl) (by kernel_rfl) _ _ _ _ _ (by rfl) (by rfl) (by rfl) (by rfl) (by rfl) (HM2.out _ _ (Kp0.trans (Kp0.trans HKd.out hk7) hk8) (hf8.le (Kp0.trans HKd.out hk7).size)) ?_;intro v9 w9 hR9;obtain⟨a9,b9,rfl,hR9,hk9⟩:=hR9;have y0:=hk9.cell y0 HN0.out;have y2:=hk9.cell y2 HN0.out;have y3:=hk9.cell y3 HN0.out;have y4:=hk9.cell y4 HN0.out;have y5:=hk9.cell y5 HN0.out;have y6:=hk9.cell y6 HN0.out;have y7:=hk9.cell y7 HN0.out;have y8:=hk9.cell y8 HN0.out;have y9:=hk9.cell y9 HN0.out;have y10:=hk9.cell y10 HN0.out;have y11:=hk9.cell y11 HN0.out;have z0:=hk9.cell z0 HN1.out;have z1:=hk9.cell z1 HN1.out;have z2:=hk9.cell z2 HN1.out;have z3:=hk9.cell z3 HN1.out;have z4:=hk9.cell z4 HN1.out)))
   all_goals
    have HR9:=hid hR9;clear hR9 hk7 hk8 hk9 hf7 hf8 y0 y2 y3 y4 y5 y6 y7 y8 y9 y10 y11 z0 z1 z2 z3 z4
    go_wp2_with fail
    go_meet
    case rel=>exact⟨_,_,rfl,rfl,HR9.out⟩
  case rest=>
   obtain⟨a9,b9,rfl,rfl,hR9⟩:=hcut;have HR9:=hid hR9;clear hR9 y0 y2 y3 y4 y5 y6 y7 y8 y9 y10 y11 z0 z1 z2 z3 z4;go_wp2
   go_ret3
   exact⟨_,_,rfl,HR9.out⟩
end Go.Proofs.YticbbncdcannlaaGreat
namespace Go.Proofs.YticbbncdcannlaaGreat
open Go.RowKit
theorem RdI.lt{w:World}{v:Value}{xs:List Int}(h:RdI w v xs)(hne:xs≠[]){b:Nat}(hb:v.ownBlock=some b):b<w.heap.size:=by
 obtain⟨a,cap,rfl,h⟩:=h;obtain⟨g,o,rfl,hc⟩:=h hne;have h0:=hc 0 (List.length_pos_iff.2 hne);have:g=b:=by simpa[Value.ownBlock]using hb
 subst this;exact block_lt_of_cell h0
theorem read_eq{σ:Sp}{a:Arr}{x:XA}{h:Int}{c:List Int}{bs:List (Int×Int)}(hx:ATie σ a x)(hf:σ.find h=some a)(ha:a.ok σ)(hk:KTie σ a.kind c bs):(a.cells.map fun q=>nth c q.toNat)=σ.valuesOf a:=by
 refine ext_nth (by simp[Sp.valuesOf]) (fun j hj=>?_);have hj':j<a.cells.length:=by simpa using hj
 have h1:=ha.inside j hj';have h2:=hx.taken hf j hj';unfold Sp.valuesOf;rw[map_nth _ _ _ hj',map_nth _ _ _ hj'];exact hk.at _ h1.1 h1.2 h2
theorem Step.untag{T:Tags}{o:Nat}{w W w':World}{p:Nat}{σ:Sp}{t:Nat×Nat}(h:Step XRep (retag w T t) o W p σ w')(k:Kp0 w W):Step XRep T o w p σ w':=by
 obtain⟨T',h1,h2,h3⟩:=h;exact⟨T',fun b hb=>(h1 b (Nat.lt_of_lt_of_le hb k.size)).trans (retag_to w T t b hb),h2,(Kp.of0 k).trans h3 (fun b hb e=>by rw[retag_to w T t b hb]at e;exact e)⟩
theorem xc_rview{T:Tags}{o:Nat}{w:World}{p:Nat}{σ:Sp}(hok:σ.ok){L:XL}{X:XS}(hX:XAt T o w p L X)(hT:Tie X (Maps.size L.D) σ){h:Int}{a:Arr}{x:XA}(hf:σ.find h=some a)(hx:ATie σ a x)(s:List Int)(hs:okShape s)(hv:vol s=vol a.shape)(he:evenB s a.cells=true)(hm:σ.arrs.length+1≤100000000):∀W,Kp0 w W→Calls Tryz.prog 54 #[.pointer (some ⟨p,0,none⟩),.agg x.cs,.agg (grC s (evenT s a.cells) x.f).toArray] W fun e w'=>∃r b,e=.returned (.tuple #[.int .i64 r,.int .i64 b])∧((r=(σ.reshape h s).2.1∧(b==0)=(σ.reshape h s).2.2.1∧b=(σ.reshape h s).2.2.2)∧Step XRep T o w p (σ.reshape h s).1 w'):=by
 intro W k;have hXW:=hX.kp0 k;have ha:=kind_of hok hf;have hsb:shapeB s=true:=(shapeB_iff s).2 hs;have hc:=hx.cells;have hge:=even_ok (s:=s) hx.g hs (by rw[hc];exact he);rw[hc]at hge;by_cases hl:40≤σ.live
 ·have hR':σ.reshape h s=(σ,0,false,7):=by simp[Sp.reshape,hf,hsb,hv,he,hl]
  rw[hR'];refine(xmakeView_many hXW x s _ _ (by rw[hT.live];exact hl)).mono ?_;rintro e w' ⟨rfl,hk'⟩;exact⟨0,7,rfl,⟨rfl,rfl,rfl⟩,XRep.stay ⟨hok,L,X,hX,hT⟩ (Kp0.trans k hk')⟩
 ·have hR':σ.reshape h s=(σ.lay ⟨a.kind,s,a.cells,a.ro,a.buf⟩,(σ.arrs.length:Int)+1,true,0):=by simp[Sp.reshape,hf,hsb,hv,he,hl]
  rw[hR'];refine(xmakeView_yes hXW x s _ _ (by rw[hT.live];exact hl) (by rw[hT.last];omega)).mono ?_;rintro e w' ⟨rfl,hk',hX'⟩;have hdo:=lay_ok hok ⟨a.kind,s,a.cells,a.ro,a.buf⟩ ⟨ha.kind,hs,by rw[ha.length];exact hv.symm,ha.inside,ha.buf⟩ hm;have hat:ATie (σ.lay ⟨a.kind,s,a.cells,a.ro,a.buf⟩) ⟨a.kind,s,a.cells,a.ro,a.buf⟩ (x.seen s (evenT s a.cells) x.f):=⟨hx.kind,hx.ro,rfl,hge.1,hge.2,hx.buf⟩;refine⟨_,_,rfl,⟨by rw[hT.last],rfl,rfl⟩,T,fun _ _=>rfl,⟨hdo,_,_,hX',?_⟩,(Kp.of0 k).trans hk' (fun _ _ e=>e)⟩;have hub:=used_of hf;exact hT.view (hX.map.tidy Tryz.lawInt) hX.ent _ _ hub hat rfl
theorem xc_reshape{T:Tags}{o:Nat}{w:World}{p:Nat}{σ:Sp}(h:Int)(va:Value)(s:List Int)(hr:RdI w va s)(hR:XRep T o w p σ)(hm:σ.arrs.length+1≤100000000)(hb:σ.bufs.length+1≤100000000):Calls Tryz.prog 24 #[.pointer (some ⟨p,0,none⟩),.int .i64 h,va] w fun e w'=>e=.returned (.tuple #[.int .i64 (σ.reshape h s).2.1,.bool (σ.reshape h s).2.2.1,.int .i64 (σ.reshape h s).2.2.2])∧Step XRep T o w p (σ.reshape h s).1 w':=by
 have hR':=hR;obtain⟨hok,L,X,hX,hT⟩:=hR;cases hf:σ.find h with
 |none=>
  have hres:σ.reshape h s=(σ,0,false,2):=by simp[Sp.reshape,hf]
  rw[hres];refine(xReshape_none hX h va (hT.non h hf)).mono ?_;rintro e w' ⟨rfl,hk⟩;exact⟨rfl,hR'.stay hk⟩
 |some a=>
  obtain⟨x,hA,hx⟩:=hT.som h a hf;have ha:=kind_of hok hf;have hkd:x.kind=1∨x.kind=2:=by rw[hx.kind];exact ha.kind
  have hl:=hx.l;cases hsb:shapeB s with
  |false=>
   have hres:σ.reshape h s=(σ,0,false,4):=by simp[Sp.reshape,hf,hsb]
   rw[hres];refine(xReshape_shape hX h va x hA hkd (hid (fun W k=>by have:=xshape_calls va s W (hr.kp0 k);rw[hsb]at this;exact this))).mono ?_;rintro e w' ⟨rfl,hk⟩;exact⟨rfl,hR'.stay hk⟩
  |true=>
   have hs:okShape s:=(shapeB_iff s).1 hsb;have HS:Hid (∀W,Kp0 w W→Calls Tryz.prog 56 #[va] W fun e w'=>e=.returned (.tuple #[.agg (shC s).toArray,.bool true])∧Kp0 W w'):=hid (fun W k=>by have:=xshape_calls va s W (hr.kp0 k);rw[hsb]at this;exact this);by_cases hv:vol s=vol a.shape
   ·have hv':vol s=vol x.l:=by rw[hl];exact hv
    have hG:=fun W=>xgresh_calls x.l x.t s x.f _ W hx.g hs hv'
    rw[hx.cells]at hG;cases he:evenB s a.cells with
    |true=>
     refine(xReshape_view hX h va x s hA hkd hx.g.shape hs hv' s (evenT s a.cells) x.f HS (hid (fun W=>(hG W).mono ?_)) (hid (xc_rview hok hX hT hf hx s hs hv he hm))).mono ?_
     ·rintro e w' ⟨h1|h1,hk⟩
      ·exact⟨h1.2,hk⟩
      ·rw[he]at h1;exact absurd h1.1 (by simp)
     ·rintro e w' ⟨r,b,rfl,⟨rfl,h2,rfl⟩,hst⟩
      exact⟨by rw[h2],hst⟩
    |false=>
     have hVl:(σ.valuesOf a).length=(vol s).toNat:=by have:=ha.length;simp[Sp.valuesOf];omega
     have hne:σ.valuesOf a≠[]:=fun e=>by rw[e]at hVl;have:=vol_pos_of hs.2.1;simp at hVl;omega
     have h36:a.cells.length≤1000000:=by have:=ha.length;have:=ha.shape.2.2;omega
     have hres:σ.reshape h s=((σ.fresh a.kind s fun i=>asK a.kind (nth (σ.valuesOf a) i)).1,(σ.fresh a.kind s fun i=>asK a.kind (nth (σ.valuesOf a) i)).2.1,false,(σ.fresh a.kind s fun i=>asK a.kind (nth (σ.valuesOf a) i)).2.2):=by simp[Sp.reshape,hf,hsb,hv,he]
     rw[hres];have hG2:∀W,Calls Tryz.prog 58 #[.agg (grC x.l x.t x.f).toArray,.agg (shC s).toArray] W fun e w'=>e=.returned (.tuple #[.agg zG,.bool false])∧Kp0 W w':=fun W=>(hG W).mono (by
      rintro e w' ⟨h1|h1,hk⟩
      ·rw[he]at h1;exact absurd h1.1 (by simp)
      ·exact⟨h1.2,hk⟩)
     have hX1:=hX.tags (retag_to w T (o+1,0));have hS1:∀b,(retag w T (o+1,0) b).1=o→b<w.heap.size:=fun b e=>by
      rcases Nat.lt_or_ge b w.heap.size with h1|h1
      ·exact h1
      ·rw[retag_new h1]at e;simp at e
     have hvo:∀W vv,Kp0 w W→Fr w.heap.size W vv (σ.valuesOf a)→∀b,vv.ownBlock=some b→(retag w T (o+1,0) b).1≠o∧b<W.heap.size:=fun W vv k hfr b e=>⟨by rw[retag_new (hfr.2 b e)];simp,hfr.1.lt hne e⟩
     rcases ha.kind with hk|hk
     ·rw[hk]
      have heq:=read_eq hx hf ha (c:=X.c1) (bs:=X.b1) (by rw[hk];exact hT.k1);refine(xReshapeCopyB hX h va x s hA (by rw[hx.kind,hk]) hx.g.shape hs hv' a.cells.length a.cells (σ.valuesOf a).length (σ.valuesOf a) (hid hS1) (R:=fun r b w'=>(r=(σ.fresh 1 s fun i=>asK 1 (nth (σ.valuesOf a) i)).2.1∧b=(σ.fresh 1 s fun i=>asK 1 (nth (σ.valuesOf a) i)).2.2)∧Step XRep T o w p (σ.fresh 1 s fun i=>asK 1 (nth (σ.valuesOf a) i)).1 w') HS (hid hG2) (hid (fun W=>xc_cells hx W)) (hid (fun W vp k hrd=>?_)) (hid (fun W vv k hfr=>?_))).mono ?_
      ·refine(xReadB_calls (hX.kp0 k).s1 a.cells vp hrd (fun j hj=>by have:=ha.inside j hj;rw[hk]at this;rw[hT.k1.len];exact this) (hT.k1.wrap (.inl rfl)) h36).mono ?_
       rintro e w' ⟨v,rfl,hn⟩;rw[heq]at hn;obtain⟨ao,c,rfl,k',hfr⟩:=hn.fr;exact⟨ao,c,rfl,k',hfr⟩
      ·refine(xc_makeOfB s hok (hX1.kp0 k) hT hsb hm hb (σ.valuesOf a) hVl (fun j=>(hT.valuesIn ha j).1) vv hfr.1 (hvo W vv k hfr)).mono ?_
       rintro e w' ⟨r,b,rfl,hrb,hst⟩;exact⟨r,b,rfl,⟨hrb,hst.untag k⟩,hst.choose_spec.2.2⟩
      ·rintro e w' ⟨r,b,rfl,⟨rfl,rfl⟩,hst⟩
       exact⟨rfl,hst⟩
     ·rw[hk]
      have heq:=read_eq hx hf ha (c:=X.c2) (bs:=X.b2) (by rw[hk];exact hT.k2);refine(xReshapeCopyI hX h va x s hA (by rw[hx.kind,hk]) hx.g.shape hs hv' a.cells.length a.cells (σ.valuesOf a).length (σ.valuesOf a) (hid hS1) (R:=fun r b w'=>(r=(σ.fresh 2 s fun i=>asK 2 (nth (σ.valuesOf a) i)).2.1∧b=(σ.fresh 2 s fun i=>asK 2 (nth (σ.valuesOf a) i)).2.2)∧Step XRep T o w p (σ.fresh 2 s fun i=>asK 2 (nth (σ.valuesOf a) i)).1 w') HS (hid hG2) (hid (fun W=>xc_cells hx W)) (hid (fun W vp k hrd=>?_)) (hid (fun W vv k hfr=>?_))).mono ?_
      ·refine(xReadI_calls (hX.kp0 k).s2 a.cells vp hrd (fun j hj=>by have:=ha.inside j hj;rw[hk]at this;rw[hT.k2.len];exact this) (hT.k2.wrap (.inr rfl)) h36).mono ?_
       rintro e w' ⟨v,rfl,hn⟩;rw[heq]at hn;obtain⟨ao,c,rfl,k',hfr⟩:=hn.fr;exact⟨ao,c,rfl,k',hfr⟩
      ·refine(xc_makeOfI s hok (hX1.kp0 k) hT hsb hm hb (σ.valuesOf a) hVl (fun j=>(hT.valuesIn ha j).1) vv hfr.1 (hvo W vv k hfr)).mono ?_
       rintro e w' ⟨r,b,rfl,hrb,hst⟩;exact⟨r,b,rfl,⟨hrb,hst.untag k⟩,hst.choose_spec.2.2⟩
      ·rintro e w' ⟨r,b,rfl,⟨rfl,rfl⟩,hst⟩
       exact⟨rfl,hst⟩
   ·have hres:σ.reshape h s=(σ,0,false,4):=by simp[Sp.reshape,hf,hv]
    rw[hres];refine(xReshape_vol hX h va x s hA hkd hx.g.shape hs (by rw[hl];exact hv) HS).mono ?_;rintro e w' ⟨rfl,hk⟩;exact⟨rfl,hR'.stay hk⟩
end Go.Proofs.YticbbncdcannlaaGreat
namespace Go.Proofs.YticbbncdcannlaaGreat
open Go.RowKit Go.Maps Go.ChangeMaps Go.MapKept
theorem xFold_op(p:Nat)(op hd axis:Int)(w:World)(he:op<1∨5<op∨op=2):Calls Tryz.prog 30 #[.pointer (some ⟨p,0,none⟩),.int .i64 op,.int .i64 hd,.int .i64 axis] w fun e w'=>e=.returned (.tuple #[.int .i64 0,.int .i64 1])∧Kp0 w w':=by
 have HK:Hid (Kp0 w w):=Kp0.refl w;rcases he with he|he|he
 ·have d1:decide (op≥1)=false:=by simp;omega
  clear he;go_enter Tryz.func30,Tryz.ntmps30
  go_wp2
  go_ret2
  exact⟨rfl,HK.out⟩
 ·have d1:decide (op≥1)=true:=by simp;omega
  have d2:decide (op≤5)=false:=by simp;omega
  clear he;go_enter Tryz.func30,Tryz.ntmps30
  go_wp2
  go_ret2
  exact⟨rfl,HK.out⟩
 ·subst he
  go_enter Tryz.func30,Tryz.ntmps30
  go_wp2
  go_ret2
  exact⟨rfl,HK.out⟩
theorem xFold_none{T:Tags}{o:Nat}{w:World}{p:Nat}{L:XL}{X:XS}(h:XAt T o w p L X)(op hd axis:Int)(h1:1≤op)(h5:op≤5)(h2:op≠2)(hA:X.A hd=none):Calls Tryz.prog 30 #[.pointer (some ⟨p,0,none⟩),.int .i64 op,.int .i64 hd,.int .i64 axis] w fun e w'=>e=.returned (.tuple #[.int .i64 0,.int .i64 2])∧Kp0 w w':=by
 have HF:=hid (xfind_none h hd hA);have HO:=hid (xIsOp_yes op w h1 h5);have b2:(op==2)=false:=by simp[h2]
 unfold xaZ at HF;clear h hA h1 h5 h2;go_enter Tryz.func30,Tryz.ntmps30
 go_wp2_with fail
 refine HO.out.mono ?_;rintro e w1 ⟨rfl,hw⟩;obtain rfl:=hw.symm;clear hw HO
 go_wp2_with fail
 refine HF.out.mono ?_;rintro e w2 ⟨rfl,hw⟩;have HK:=hid hw;clear hw;go_wp2
 go_ret2
 exact⟨rfl,HK.out.alloc _⟩
theorem xFold_axis{T:Tags}{o:Nat}{w:World}{p:Nat}{L:XL}{X:XS}(h:XAt T o w p L X)(op hd axis:Int)(h1:1≤op)(h5:op≤5)(h2:op≠2)(x:XA)(hA:X.A hd=some x)(hk:x.kind=1∨x.kind=2)(hl:x.l.length≤4)(ha:axis<0∨(x.l.length:Int)≤axis):Calls Tryz.prog 30 #[.pointer (some ⟨p,0,none⟩),.int .i64 op,.int .i64 hd,.int .i64 axis] w fun e w'=>e=.returned (.tuple #[.int .i64 0,.int .i64 5])∧Kp0 w w':=by
 have HF:=hid (xfind_some h hd x hA hk);have HO:=hid (xIsOp_yes op w h1 h5);have b2:(op==2)=false:=by simp[h2]
 have HL:=hid (fun W=>xLayers_no x.l x.t x.f axis W hl ha);generalize L.inV x.kind=I at*;unfold XA.cs at HF;unfold grC at HL;clear h hA h1 h5 h2 hk hl ha;go_enter Tryz.func30,Tryz.ntmps30
 go_wp2_with fail
 refine HO.out.mono ?_;rintro e w1 ⟨rfl,hw⟩;obtain rfl:=hw.symm;clear hw HO
 go_wp2_with fail
 refine HF.out.mono ?_;rintro e w2 ⟨rfl,hw⟩;have HK:=hid hw;clear hw
 go_wp2_with fail
 refine(HL.out _).mono ?_;rintro e w3 ⟨rfl,hw⟩;have HK3:Hid (Kp0 w w3):=hid (Kp0.trans (HK.out.alloc _) hw);clear hw;go_wp2
 go_ret2
 exact⟨rfl,HK3.out⟩
theorem ten_cellsB{w:World}{g:Nat}{cur:Array Value}{ty:TypeId}{R:Nat→List Value}{N:Nat}(hg:w.heap[g]? =some (.cells cur ty (0,0)))(h:TenRows cur R N)(q:Nat)(hq:q<N)(c:Nat)(hc:c<10):w.cell? ⟨g,q*10+c,none⟩=(R q)[c]? :=by
 rw[←h q hq c hc];exact cell_of_row _ _ _ _ _ _ hg
theorem xfoldLayersB(op:Int)(q g N:Nat)(hN:1≤N∧N≤60)(cur:Array Value)(l t:List Int)(F:Nat→Int)(w:World)(P V FV:Nat→List Int)(mc:Nat)(HG:Hid (w.heap[g]? =some (.cells cur 107 (0,0))))(HT:Hid (TenRows cur (fun q=>grC l t (F q)) N))(HC:Hid (∀W i,i<N→Calls Tryz.prog 60 #[.agg (grC l t (F i)).toArray] W fun e w'=>∃ao c,e=.returned (.slice ao mc c)∧Kp0 W w'∧Fr W.heap.size w' (.slice ao mc c) (P i)))(HRd:Hid (∀W i vp,i<N→Kp0 w W→RdI W vp (P i)→Calls Tryz.prog 195 #[.pointer (some ⟨q,0,none⟩),vp] W fun e w'=>∃ao c,e=.returned (.slice ao mc c)∧Kp0 W w'∧Fr W.heap.size w' (.slice ao mc c) (V i)))(HCb:Hid (∀W i v0 v1,i+1<N→Kp0 w W→Fr w.heap.size W v0 (FV i)→Fr w.heap.size W v1 (V (i+1))→Calls Tryz.prog 192 #[.pointer (some ⟨q,0,none⟩),.int .i64 op,v0,v1] W fun e w'=>∃ao c,e=.returned (.slice ao mc c)∧Kp0 W w'∧Fr W.heap.size w' (.slice ao mc c) (FV (i+1))))(HV0:Hid (FV 0=V 0)):Calls Tryz.prog 70 #[.int .i64 op,.iface 126 (.pointer (some ⟨q,0,none⟩)),.slice (some ⟨g,0,none⟩) N N] w fun e w'=>∃ao c,e=.returned (.slice ao mc c)∧Kp0 w w'∧Fr w.heap.size w' (.slice ao mc c) (FV (N-1)):=by
 have HC2:Hid (∀W i,i<N→Calls Tryz.prog 60 #[.agg (grC l t (F i)).toArray] W fun e w'=>∃v,e=.returned v∧∃ao c,v=.slice ao mc c∧Kp0 W w'∧Fr W.heap.size w' (.slice ao mc c) (P i)):=hid (fun W i hi=>(HC.out W i hi).mono (fun e w' ⟨ao,c,h1,h2,h3⟩=>⟨_,h1,ao,c,rfl,h2,h3⟩));have HR2:Hid (∀W i vp,i<N→Kp0 w W→RdI W vp (P i)→Calls Tryz.prog 195 #[.pointer (some ⟨q,0,none⟩),vp] W fun e w'=>∃v,e=.returned v∧∃ao c,v=.slice ao mc c∧Kp0 W w'∧Fr W.heap.size w' (.slice ao mc c) (V i)):=hid (fun W i vp hi k hr=>(HRd.out W i vp hi k hr).mono (fun e w' ⟨ao,c,h1,h2,h3⟩=>⟨_,h1,ao,c,rfl,h2,h3⟩));have HCB2:Hid (∀W i v0 v1,i+1<N→Kp0 w W→Fr w.heap.size W v0 (FV i)→Fr w.heap.size W v1 (V (i+1))→Calls Tryz.prog 192 #[.pointer (some ⟨q,0,none⟩),.int .i64 op,v0,v1] W fun e w'=>∃v,e=.returned v∧∃ao c,v=.slice ao mc c∧Kp0 W w'∧Fr W.heap.size w' (.slice ao mc c) (FV (i+1))):=hid (fun W i v0 v1 hi k h0 h1=>(HCb.out W i v0 v1 hi k h0 h1).mono (fun e w' ⟨ao,c,h1,h2,h3⟩=>⟨_,h1,ao,c,rfl,h2,h3⟩));have HMR:=hid (Tryz.mReadB ⟨q,0,none⟩);have hna:=Tryz.nReadB ⟨q,0,none⟩;have HMC:=hid (Tryz.mCombineB ⟨q,0,none⟩);have hnc:=Tryz.nCombineB ⟨q,0,none⟩;have HTC:Hid (∀W,Kp0 w W→∀i,i<N→∀c,c<10→W.cell? ⟨g,i*10+c,none⟩=(grC l t (F i))[c]?):=hid (fun W k i hi c hc=>ten_cellsB (k.heap HG.out) HT.out i hi c hc);clear HC HRd HCb;unfold grC at HC2 HTC;obtain⟨n,hn⟩:∃n,l.length=n:=⟨_,rfl⟩;rw[hn]at HC2 HTC;clear hn;have hN0:0<N:=by omega
 have n0:(0:Int)<(N:Int):=by omega
 have y0:=HTC.out w (Kp0.refl _) 0 hN0 0 (by omega);have y1:=HTC.out w (Kp0.refl _) 0 hN0 1 (by omega);have y2:=HTC.out w (Kp0.refl _) 0 hN0 2 (by omega);have y3:=HTC.out w (Kp0.refl _) 0 hN0 3 (by omega);have y4:=HTC.out w (Kp0.refl _) 0 hN0 4 (by omega);have y5:=HTC.out w (Kp0.refl _) 0 hN0 5 (by omega);have y6:=HTC.out w (Kp0.refl _) 0 hN0 6 (by omega);have y7:=HTC.out w (Kp0.refl _) 0 hN0 7 (by omega);have y8:=HTC.out w (Kp0.refl _) 0 hN0 8 (by omega);have y9:=HTC.out w (Kp0.refl _) 0 hN0 9 (by omega);simp at y0 y1 y2 y3 y4 y5 y6 y7 y8 y9;have HKd:Hid (Kp0 w w.drew):=hid (Kp0.refl w).drew;go_enter Tryz.func70,Tryz.ntmps70
 go_wp2
 go_cut [7]from 10 (fun s7 W=>∃ao c,s7=.slice ao mc c∧Kp0 w W∧Fr w.heap.size W (.slice ao mc c) (FV 0))
 case first=>
  go_region_held3 (fun W=>W.cell? ⟨g,0,none⟩=some (.int .i64 (nth l 0))∧W.cell? ⟨g,1,none⟩=some (.int .i64 (nth l 1))∧W.cell? ⟨g,2,none⟩=some (.int .i64 (nth l 2))∧W.cell? ⟨g,3,none⟩=some (.int .i64 (nth l 3))∧W.cell? ⟨g,4,none⟩=some (.int .i64 (n:Int))∧W.cell? ⟨g,5,none⟩=some (.int .i64 (F 0))∧W.cell? ⟨g,6,none⟩=some (.int .i64 (nth t 0))∧W.cell? ⟨g,7,none⟩=some (.int .i64 (nth t 1))∧W.cell? ⟨g,8,none⟩=some (.int .i64 (nth t 2))∧W.cell? ⟨g,9,none⟩=some (.int .i64 (nth t 3))) (go_keep)
   ((first
     |(refine step_call1 (by rfl) 60 (.tmp 13) _ (by rfl) _ Tryz.func60 (by kernel_rfl) (by kernel_rfl) _ (by rfl) (HC2.out _ 0 hN0) ?_;intro v7 w7 hR7;obtain⟨ao,c7,rfl,hk7,hf7⟩:=hR7;have y0:=hk7.cell y0;have y1:=hk7.cell y1;have y2:=hk7.cell y2;have y3:=hk7.cell y3;have y4:=hk7.cell y4;have y5:=hk7.cell y5;have y6:=hk7.cell y6;have y7:=hk7.cell y7;have y8:=hk7.cell y8;have y9:=hk7.cell y9)
     |(refine step_invoke1 (by rfl) (.tmp 17) "Read" (.tmp 14) _ (by rfl) _ (.slice ao mc c7) (by rfl) (by rfl) _ _ (HMR.out _ _) (HR2.out _ 0 _ hN0 (Kp0.trans HKd.out hk7) hf7.1) ?_;intro v8 w8 hR8;obtain⟨ao8,c8,rfl,hk8,hf8⟩:=hR8;have y0:=hk8.cell y0;have y1:=hk8.cell y1;have y2:=hk8.cell y2;have y3:=hk8.cell y3;have y4:=hk8.cell y4;have y5:=hk8.cell y5;have y6:=hk8.cell y6;have y7:=hk8.cell y7;have y8:=hk8.cell y8;have y9:=hk8.cell y9)))
  all_goals
   have HR9:=hid (And.intro (Kp0.trans (Kp0.trans HKd.out hk7) hk8) (hf8.le (Kp0.trans HKd.out hk7).size));rw[←HV0.out]at HR9;clear hk7 hk8 hf7 hf8 y0 y1 y2 y3 y4 y5 y6 y7 y8 y9
   go_wp2_with fail
   go_meet
   case rel=>exact⟨_,_,rfl,HR9.out.1,HR9.out.2⟩
 case rest=>
  obtain⟨ao,c7,rfl,hK,hF⟩:=hcut;have HK:=hid hK;have HF:=hid hF;clear hK hF y0 y1 y2 y3 y4 y5 y6 y7 y8 y9 HKd;by_cases h1:N=1
  ·subst h1
   go_wp2
   go_loopw [7,9,22] (fun s7 _ a w'=>a=.int .i64 0∧∃ao c,s7=.slice ao mc c∧Hid (Kp0 w w')∧Hid (Fr w.heap.size w' (.slice ao mc c) (FV 0))) (fun _ _ _ _=>0)
   case atStart=>exact⟨rfl,_,_,rfl,HK,HF⟩
   case round=>
    clear HK HF;obtain⟨rfl,ao,c,rfl,HK,HF⟩:=hrel;go_wp2
    go_ret;exact⟨_,_,rfl,HK.out,HF.out⟩
  ·obtain⟨m,hm⟩:∃m,N-1=m:=⟨_,rfl⟩
   have hmN:N=m+1:=by omega
   have HMN:=hid hmN;have HNM:=hid hm;go_wp2
   clear hm hmN
   go_loopw [7,9,22] (fun s7 _ a w'=>∃j:Nat,j≤m∧a=.int .i64 j∧∃ao c,s7=.slice ao mc c∧Hid (Kp0 w w')∧Hid (Fr w.heap.size w' (.slice ao mc c) (FV j))) (fun _ _ a _=>m-(intOf a).toNat)
   case atStart=>exact⟨0,Nat.zero_le _,rfl,_,_,rfl,HK,HF⟩
   case round=>
    clear HK HF;obtain⟨j,hj,rfl,ao,c,rfl,HK,HF⟩:=hrel;by_cases hlt:j<m
    ·have j0:(0:Int)≤(j:Int):=by omega
     have j1:(j:Int)<(m:Int):=by omega
     have hj1:j+1<N:=by have:=HMN.out;omega
     have e10:(j+1)*10=10+j*10:=by omega
     have hy:∀c,c<10→wr.cell? ⟨g,10+j*10+c,none⟩=([.int .i64 (nth l 0),.int .i64 (nth l 1),.int .i64 (nth l 2),.int .i64 (nth l 3),.int .i64 (n:Int),.int .i64 (F (j+1)),.int .i64 (nth t 0),.int .i64 (nth t 1),.int .i64 (nth t 2),.int .i64 (nth t 3)]:List Value)[c]? :=fun c hc=>by rw[←e10];exact HTC.out wr HK.out (j+1) hj1 c hc
     have y0:wr.cell? ⟨g,10+j*10,none⟩=some (.int .i64 (nth l 0)):=hy 0 (by omega);have y1:wr.cell? ⟨g,10+j*10+1,none⟩=some (.int .i64 (nth l 1)):=hy 1 (by omega);have y2:wr.cell? ⟨g,10+j*10+2,none⟩=some (.int .i64 (nth l 2)):=hy 2 (by omega);have y3:wr.cell? ⟨g,10+j*10+3,none⟩=some (.int .i64 (nth l 3)):=hy 3 (by omega);have y4:wr.cell? ⟨g,10+j*10+4,none⟩=some (.int .i64 (n:Int)):=hy 4 (by omega);have y5:wr.cell? ⟨g,10+j*10+5,none⟩=some (.int .i64 (F (j+1))):=hy 5 (by omega);have y6:wr.cell? ⟨g,10+j*10+6,none⟩=some (.int .i64 (nth t 0)):=hy 6 (by omega);have y7:wr.cell? ⟨g,10+j*10+7,none⟩=some (.int .i64 (nth t 1)):=hy 7 (by omega);have y8:wr.cell? ⟨g,10+j*10+8,none⟩=some (.int .i64 (nth t 2)):=hy 8 (by omega);have y9:wr.cell? ⟨g,10+j*10+9,none⟩=some (.int .i64 (nth t 3)):=hy 9 (by omega);clear hy e10;go_wp2
     have HBA:Hid ((wr.alloc (.cells #[.int .i64 (nth l 0),.int .i64 (nth l 1),.int .i64 (nth l 2),.int .i64 (nth l 3),.int .i64 (n:Int),.int .i64 (F (j+1)),.int .i64 (nth t 0),.int .i64 (nth t 1),.int .i64 (nth t 2),.int .i64 (nth t 3)] 107)).heap[wr.heap.size]? =some (.cells #[.int .i64 (nth l 0),.int .i64 (nth l 1),.int .i64 (nth l 2),.int .i64 (nth l 3),.int .i64 (n:Int),.int .i64 (F (j+1)),.int .i64 (nth t 0),.int .i64 (nth t 1),.int .i64 (nth t 2),.int .i64 (nth t 3)] 107 (0,0))):=heap_alloc_new wr _;have HKA:Hid (Kp0 w (wr.alloc (.cells #[.int .i64 (nth l 0),.int .i64 (nth l 1),.int .i64 (nth l 2),.int .i64 (nth l 3),.int .i64 (n:Int),.int .i64 (F (j+1)),.int .i64 (nth t 0),.int .i64 (nth t 1),.int .i64 (nth t 2),.int .i64 (nth t 3)] 107))):=HK.out.alloc _;have HFA:Hid (Fr w.heap.size (wr.alloc (.cells #[.int .i64 (nth l 0),.int .i64 (nth l 1),.int .i64 (nth l 2),.int .i64 (nth l 3),.int .i64 (n:Int),.int .i64 (F (j+1)),.int .i64 (nth t 0),.int .i64 (nth t 1),.int .i64 (nth t 2),.int .i64 (nth t 3)] 107)) (.slice ao mc c) (FV j)):=HF.out.kp0 ((Kp.refl _ wr).alloc _);clear y0 y1 y2 y3 y4 y5 y6 y7 y8 y9;generalize wr.alloc (.cells #[.int .i64 (nth l 0),.int .i64 (nth l 1),.int .i64 (nth l 2),.int .i64 (nth l 3),.int .i64 (n:Int),.int .i64 (F (j+1)),.int .i64 (nth t 0),.int .i64 (nth t 1),.int .i64 (nth t 2),.int .i64 (nth t 3)] 107)=W4 at HBA HKA HFA⊢;generalize wr.heap.size=b0 at HBA⊢;obtain⟨y0,y1,y2,y3,y4,y5,y6,y7,y8,y9⟩:=cells10 HBA.out;have HKd:Hid (Kp0 w W4.drew):=hid HKA.out.drew;have HFd:Hid (Fr w.heap.size W4.drew (.slice ao mc c) (FV j)):=hid (HFA.out.kp0 (Kp0.refl _).drew);clear HBA HKA HFA
     go_region_held3 (fun W=>W.cell? ⟨b0,0,none⟩=some (.int .i64 (nth l 0))∧W.cell? ⟨b0,1,none⟩=some (.int .i64 (nth l 1))∧W.cell? ⟨b0,2,none⟩=some (.int .i64 (nth l 2))∧W.cell? ⟨b0,3,none⟩=some (.int .i64 (nth l 3))∧W.cell? ⟨b0,4,none⟩=some (.int .i64 (n:Int))∧W.cell? ⟨b0,5,none⟩=some (.int .i64 (F (j+1)))∧W.cell? ⟨b0,6,none⟩=some (.int .i64 (nth t 0))∧W.cell? ⟨b0,7,none⟩=some (.int .i64 (nth t 1))∧W.cell? ⟨b0,8,none⟩=some (.int .i64 (nth t 2))∧W.cell? ⟨b0,9,none⟩=some (.int .i64 (nth t 3))) (go_keep)
      ((first
        |(refine step_call1 (by rfl) 60 (.tmp 30) _ (by rfl) _ Tryz.func60 (by kernel_rfl) (by kernel_rfl) _ (by rfl) (HC2.out _ (j+1) hj1) ?_;intro v7 w7 hR7;obtain⟨ao7,c7,rfl,hk7,hf7⟩:=hR7;have y0:=hk7.cell y0;have y1:=hk7.cell y1;have y2:=hk7.cell y2;have y3:=hk7.cell y3;have y4:=hk7.cell y4;have y5:=hk7.cell y5;have y6:=hk7.cell y6;have y7:=hk7.cell y7;have y8:=hk7.cell y8;have y9:=hk7.cell y9)
        |(refine step_invoke1 (by rfl) (.tmp 34) "Read" (.tmp 31) _ (by rfl) _ (.slice ao7 mc c7) (by rfl) (by rfl) _ _ (HMR.out _ _) (HR2.out _ (j+1) _ hj1 (Kp0.trans HKd.out hk7) hf7.1) ?_;intro v8 w8 hR8;obtain⟨ao8,c8,rfl,hk8,hf8⟩:=hR8;have y0:=hk8.cell y0;have y1:=hk8.cell y1;have y2:=hk8.cell y2;have y3:=hk8.cell y3;have y4:=hk8.cell y4;have y5:=hk8.cell y5;have y6:=hk8.cell y6;have y7:=hk8.cell y7;have y8:=hk8.cell y8;have y9:=hk8.cell y9)
        |(refine step_invoke3 (by rfl) (.tmp 38) "Combine" (.tmp 27) (.tmp 28) (.tmp 35) _ (by rfl) _ (.int .i64 op) (.slice ao mc c) (.slice ao8 mc c8) (by rfl) (by rfl) (by rfl) (by rfl) _ _ (HMC.out _ _ _ _) (HCB2.out _ j _ _ hj1 (Kp0.trans (Kp0.trans HKd.out hk7) hk8) (HFd.out.kp0 (Kp0.trans hk7 hk8)) (hf8.le (Kp0.trans HKd.out hk7).size)) ?_;intro v9 w9 hR9;obtain⟨ao9,c9,rfl,hk9,hf9⟩:=hR9;have y0:=hk9.cell y0;have y1:=hk9.cell y1;have y2:=hk9.cell y2;have y3:=hk9.cell y3;have y4:=hk9.cell y4;have y5:=hk9.cell y5;have y6:=hk9.cell y6;have y7:=hk9.cell y7;have y8:=hk9.cell y8;have y9:=hk9.cell y9)))
     all_goals
      have HK9:=hid (Kp0.trans (Kp0.trans (Kp0.trans HKd.out hk7) hk8) hk9);have HF9:=hid (hf9.le (Kp0.trans (Kp0.trans HKd.out hk7) hk8).size);clear hk9 hf9 hk8 hf8 hk7 hf7 y0 y1 y2 y3 y4 y5 y6 y7 y8 y9;go_wp2
      go_roundw
      case rel=>exact⟨j+1,by omega,by go_num,ao9,c9,rfl,HK9,HF9⟩
      case measure=>simp[intOf];omega
    ·obtain rfl:j=m:=by omega
     have j1:¬(j:Int)<(j:Int):=by omega
     go_wp2
     go_ret;exact⟨_,_,rfl,HK.out,by rw[HNM.out];exact HF.out⟩
theorem xFoldOkB{T:Tags}{o:Nat}{w:World}{p:Nat}{L:XL}{X:XS}(h:XAt T o w p L X)(op hd:Int)(k N:Nat)(x:XA)(hA:X.A hd=some x)(hk:x.kind=1)(h1:1≤op)(h5:op≤5)(h2:op≠2)(hN:1≤N)(l t:List Int)(F:Nat→Int)(mv:Nat)(V:List Int){S1:Nat→Prop}(HS1:Hid (∀b,S1 b→b<w.heap.size)){R:Int→Int→World→Prop}(HL:Hid (∀W,Kp0 w W→Calls Tryz.prog 69 #[.agg (grC x.l x.t x.f).toArray,.int .i64 (k:Int)] W fun e w'=>∃g,e=.returned (.tuple #[.slice (some ⟨g,0,none⟩) N N,.bool true])∧Kp0 W w'∧W.heap.size≤g∧∃cur,w'.heap[g]? =some (.cells cur 107 (0,0))∧cur.size=N*10∧TenRows cur (fun q=>grC l t (F q)) N))(HF:Hid (∀W g cur,Kp0 w W→W.heap[g]? =some (.cells cur 107 (0,0))→TenRows cur (fun q=>grC l t (F q)) N→Calls Tryz.prog 70 #[.int .i64 op,.iface 126 (.pointer (some ⟨L.q1,0,none⟩)),.slice (some ⟨g,0,none⟩) N N] W fun e w'=>∃ao c,e=.returned (.slice ao mv c)∧Kp0 W w'∧Fr W.heap.size w' (.slice ao mv c) V))(HM:Hid (∀W vv,Kp0 w W→Fr w.heap.size W vv V→Calls Tryz.prog 59 #[.pointer (some ⟨p,0,none⟩),.int .i64 1,.iface 126 (.pointer (some ⟨L.q1,0,none⟩)),.agg (shC l).toArray,vv] W fun e w'=>∃a b,e=.returned (.tuple #[.int .i64 a,.int .i64 b])∧R a b w'∧Kp S1 W w')):Calls Tryz.prog 30 #[.pointer (some ⟨p,0,none⟩),.int .i64 op,.int .i64 hd,.int .i64 (k:Int)] w fun e w'=>∃a b,e=.returned (.tuple #[.int .i64 a,.int .i64 b])∧R a b w':=by
 have HFD:=hid (xfind_some h hd x hA (.inl hk));rw[hk,inVB]at HFD;have HF2:Hid (∀W g cur,Kp0 w W→W.heap[g]? =some (.cells cur 107 (0,0))→TenRows cur (fun q=>grC l t (F q)) N→Calls Tryz.prog 70 #[.int .i64 op,.iface 126 (.pointer (some ⟨L.q1,0,none⟩)),.slice (some ⟨g,0,none⟩) N N] W fun e w'=>∃v,e=.returned v∧∃ao c,v=.slice ao mv c∧Kp0 W w'∧Fr W.heap.size w' (.slice ao mv c) V):=hid (fun W g cur kk hg ht=>(HF.out W g cur kk hg ht).mono (fun e w' ⟨ao,c,h1,h2,h3⟩=>⟨_,h1,ao,c,rfl,h2,h3⟩));have HM2:Hid (∀W vv,Kp0 w W→Fr w.heap.size W vv V→Calls Tryz.prog 59 #[.pointer (some ⟨p,0,none⟩),.int .i64 1,.iface 126 (.pointer (some ⟨L.q1,0,none⟩)),.agg (shC l).toArray,vv] W fun e w'=>∃v,e=.returned v∧∃a b,v=.tuple #[.int .i64 a,.int .i64 b]∧R a b w'∧Kp S1 W w'):=hid (fun W vv kk hr=>(HM.out W vv kk hr).mono (fun e w' ⟨a,b,h1,h2⟩=>⟨_,h1,a,b,rfl,h2⟩));have HO:=hid (xIsOp_yes op w h1 h5);have b2:(op==2)=false:=by simp[h2]
 clear HF HM;generalize L.q1=q at*;unfold XA.cs at HFD;rw[hk]at HFD;unfold grC at HL;unfold shC at HM2;have HTR:Hid (∀(W:World) g cur,W.heap[g]? =some (.cells cur 107 (0,0))→TenRows cur (fun q=>grC l t (F q)) N→W.cell? ⟨g,0,none⟩=some (.int .i64 (nth l 0))∧W.cell? ⟨g,1,none⟩=some (.int .i64 (nth l 1))∧W.cell? ⟨g,2,none⟩=some (.int .i64 (nth l 2))∧W.cell? ⟨g,3,none⟩=some (.int .i64 (nth l 3))∧W.cell? ⟨g,4,none⟩=some (.int .i64 (l.length:Int))):=hid (fun W g cur hg ht=>by
  have key:=fun c hc=>ten_cellsB hg ht 0 hN c hc
  have k0:=key 0 (by omega);have k1:=key 1 (by omega);have k2:=key 2 (by omega);have k3:=key 3 (by omega);have k4:=key 4 (by omega);simp[grC]at k0 k1 k2 k3 k4;exact⟨k0,k1,k2,k3,k4⟩)
 generalize x.l.length=n at*;obtain⟨m,hm⟩:∃m,l.length=m:=⟨_,rfl⟩;rw[hm]at HM2 HTR;have hN0:0<N:=hN;have n0:(0:Int)<(N:Int):=by omega
 clear h hA hk h1 h5 h2 hm;go_enter Tryz.func30,Tryz.ntmps30
 go_wp2_with fail
 refine HO.out.mono ?_;rintro e w1 ⟨rfl,hw⟩;obtain rfl:=hw.symm;clear hw HO
 go_wp2_with fail
 refine HFD.out.mono ?_;rintro e w2 ⟨rfl,hw⟩;have HK:=hid hw;have HB2:Hid ((w2.alloc (.cells #[.int .i64 1,.int .i64 x.buf,.int .i64 (nth x.l 0),.int .i64 (nth x.l 1),.int .i64 (nth x.l 2),.int .i64 (nth x.l 3),.int .i64 (n:Int),.int .i64 x.f,.int .i64 (nth x.t 0),.int .i64 (nth x.t 1),.int .i64 (nth x.t 2),.int .i64 (nth x.t 3),.bool x.ro] 109)).heap[w2.heap.size]? =some (.cells #[.int .i64 1,.int .i64 x.buf,.int .i64 (nth x.l 0),.int .i64 (nth x.l 1),.int .i64 (nth x.l 2),.int .i64 (nth x.l 3),.int .i64 (n:Int),.int .i64 x.f,.int .i64 (nth x.t 0),.int .i64 (nth x.t 1),.int .i64 (nth x.t 2),.int .i64 (nth x.t 3),.bool x.ro] 109 (0,0))):=heap_alloc_new w2 _;have HK2:Hid (Kp0 w (w2.alloc (.cells #[.int .i64 1,.int .i64 x.buf,.int .i64 (nth x.l 0),.int .i64 (nth x.l 1),.int .i64 (nth x.l 2),.int .i64 (nth x.l 3),.int .i64 (n:Int),.int .i64 x.f,.int .i64 (nth x.t 0),.int .i64 (nth x.t 1),.int .i64 (nth x.t 2),.int .i64 (nth x.t 3),.bool x.ro] 109))):=HK.out.alloc _;clear hw
 go_wp2_with fail
 refine(HL.out _ HK2.out).mono ?_;rintro e w3 ⟨g,rfl,hk3,hg3,cur,hc3,-,ht3⟩;have HB3:=hid (hk3.heap HB2.out);have HK3:Hid (Kp0 w w3):=HK2.out.trans hk3;have HN0:Hid (¬S1 w2.heap.size):=hid (fun e=>by have:=HS1.out _ e;have:=HK.out.size;omega);have HN1:Hid (¬S1 g):=hid (fun e=>by have:=HS1.out _ e;have:=HK2.out.size;omega);have HC3:=hid hc3;have HT3:=hid ht3;clear hk3 hg3 hc3 ht3 HB2 HK2 HK HL HFD;generalize w2.heap.size=b0 at*;obtain⟨y0,-⟩:=cells13 HB3.out;obtain⟨z0,z1,z2,z3,z4⟩:=HTR.out _ _ _ HC3.out HT3.out;have HKd:Hid (Kp0 w w3.drew):=hid HK3.out.drew;have HCd:Hid (w3.drew.heap[g]? =some (.cells cur 107 (0,0))):=hid HC3.out;clear HTR;go_wp2
 go_region_held3 (fun W=>W.cell? ⟨b0,0,none⟩=some (.int .i64 1)∧W.cell? ⟨g,0,none⟩=some (.int .i64 (nth l 0))∧W.cell? ⟨g,1,none⟩=some (.int .i64 (nth l 1))∧W.cell? ⟨g,2,none⟩=some (.int .i64 (nth l 2))∧W.cell? ⟨g,3,none⟩=some (.int .i64 (nth l 3))∧W.cell? ⟨g,4,none⟩=some (.int .i64 (m:Int))) (go_keep)
  ((first
    |(refine step_call3 (by rfl) 70 (.tmp 49) (.tmp 50) (.tmp 51) _ (by rfl) _ Tryz.func70 (by kernel_rfl) (by kernel_rfl) _ _ _ (by rfl) (by rfl) (by rfl) (HF2.out _ _ _ HKd.out HCd.out HT3.out) ?_;intro v7 w7 hR7;obtain⟨ao7,c7,rfl,hk7,hf7⟩:=hR7;have y0:=hk7.cell y0;have z0:=hk7.cell z0;have z1:=hk7.cell z1;have z2:=hk7.cell z2;have z3:=hk7.cell z3;have z4:=hk7.cell z4)
    |(refine step_call5 (by rfl) 59 (.tmp 41) (.tmp 43) (.tmp 44) (.tmp 48) (.tmp 52) _ (by rfl) _ Tryz.func59 (by kernel_rfl) (by kernel_rfl) _ _ _ _ _ (by rfl) (by rfl) (by rfl) (by rfl) (by rfl) (HM2.out _ _ (Kp0.trans HKd.out hk7) (hf7.le HKd.out.size)) ?_;intro v9 w9 hR9;obtain⟨a9,b9,rfl,hR9,hk9⟩:=hR9;have y0:=hk9.cell y0 HN0.out;have z0:=hk9.cell z0 HN1.out;have z1:=hk9.cell z1 HN1.out;have z2:=hk9.cell z2 HN1.out;have z3:=hk9.cell z3 HN1.out;have z4:=hk9.cell z4 HN1.out)))
 all_goals
  have HR9:=hid hR9;clear hR9 hk7 hk9 hf7 y0 z0 z1 z2 z3 z4;go_wp2
  go_ret2
  exact⟨_,_,rfl,HR9.out⟩
end Go.Proofs.YticbbncdcannlaaGreat
