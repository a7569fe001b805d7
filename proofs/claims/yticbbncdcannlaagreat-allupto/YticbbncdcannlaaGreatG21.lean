import Derived.Test.YticbbncdcannlaaGreatG20
import Derived.Deep.RegionLaw
import Derived.BigRegion
import Derived.Deep.QuietTactic
import Derived.BigQuiet
import Derived.Test.YticbbncdcannlaaGreatG19
set_option maxRecDepth 100000
set_option maxHeartbeats 8000000
namespace Go.Proofs.YticbbncdcannlaaGreat
open Go.RowKit Go.Maps Go.ChangeMaps Go.MapKept
def XA.seen(x:XA)(l t:List Int)(f:Int):XA:={x with l:=l,t:=t,f:=f}
theorem xmakeView_many{T:Tags}{o:Nat}{w:World}{p:Nat}{L:XL}{X:XS}(h:XAt T o w p L X)(x:XA)(l t:List Int)(f:Int)(hs:40≤Maps.size L.D):Calls Tryz.prog 54 #[.pointer (some ⟨p,0,none⟩),.agg x.cs,.agg (grC l t f).toArray] w fun e w'=>e=.returned (.tuple #[.int .i64 0,.int .i64 7])∧Kp0 w w':=by
 have HM:=hid (fun W (k:Kp0 w W)=>xisMany_calls (h.kp0 k));rw[show decide (40≤Maps.size L.D)=true by simp[hs]]at HM;unfold XA.cs grC;generalize l.length=n;generalize x.l.length=n';clear h hs;go_enter Tryz.func54,Tryz.ntmps54
 go_wp2_with fail
 refine(HM.out _ (((Kp.refl _ w).alloc _).alloc _)).mono ?_;rintro e w2 ⟨rfl,hw⟩;obtain rfl:=hw.symm;go_wp2
 go_ret2
 exact⟨rfl,((Kp.refl _ w).alloc _).alloc _⟩
theorem xmakeView_yes{T:Tags}{o:Nat}{w:World}{p:Nat}{L:XL}{X:XS}(h:XAt T o w p L X)(x:XA)(l t:List Int)(f:Int)(hs:¬40≤Maps.size L.D)(hl:X.last≤1000000000):Calls Tryz.prog 54 #[.pointer (some ⟨p,0,none⟩),.agg x.cs,.agg (grC l t f).toArray] w fun e w'=>e=.returned (.tuple #[.int .i64 ((X.last:Int)+1),.int .i64 0])∧Kp (fun b=>(T b).1=o) w w'∧XAt T o w' p {L with D:=L.D.put (.int .i64 ((X.last:Int)+1)) (.held (.agg (x.seen l t f).cs))} (X.more (x.seen l t f)):=by
 have HM:=hid (fun W (k:Kp0 w W)=>xisMany_calls (h.kp0 k));rw[show decide (40≤Maps.size L.D)=false by simp[hs]]at HM;have HA:=hid (fun W (k:Kp0 w W)=>xadd_calls (h.kp0 k) (x.seen l t f) hl);have HXC:Hid ((x.seen l t f).cs= #[.int .i64 x.kind,.int .i64 x.buf,.int .i64 (nth l 0),.int .i64 (nth l 1),.int .i64 (nth l 2),.int .i64 (nth l 3),.int .i64 (l.length:Int),.int .i64 f,.int .i64 (nth t 0),.int .i64 (nth t 1),.int .i64 (nth t 2),.int .i64 (nth t 3),.bool x.ro]):=rfl;obtain⟨Y,hY⟩:∃Y,Y=X.more (x.seen l t f):=⟨_,rfl⟩;obtain⟨M,hM⟩:∃M:XL,M={L with D:=L.D.put (.int .i64 ((X.last:Int)+1)) (.held (.agg (x.seen l t f).cs))}:=⟨_,rfl⟩;rw[←hY,←hM]at HA;rw[←hY,←hM];rw[HXC.out]at HA;clear hY hM HXC;unfold XA.cs grC;generalize l.length=n at*;generalize hn':x.l.length=n';clear h hs hl hn';go_enter Tryz.func54,Tryz.ntmps54
 go_wp2_with fail
 refine(HM.out _ (((Kp.refl _ w).alloc _).alloc _)).mono ?_;rintro e w2 ⟨rfl,hw⟩;obtain rfl:=hw.symm;obtain⟨hB0,hB1⟩:=two_heap w (.cells #[.int .i64 x.kind,.int .i64 x.buf,.int .i64 (nth x.l 0),.int .i64 (nth x.l 1),.int .i64 (nth x.l 2),.int .i64 (nth x.l 3),.int .i64 (n':Int),.int .i64 x.f,.int .i64 (nth x.t 0),.int .i64 (nth x.t 1),.int .i64 (nth x.t 2),.int .i64 (nth x.t 3),.bool x.ro] 109) (grB l t f n);have HB0:=hid hB0;have HB1:=hid hB1;have HK:Hid (Kp0 w ((w.alloc (.cells #[.int .i64 x.kind,.int .i64 x.buf,.int .i64 (nth x.l 0),.int .i64 (nth x.l 1),.int .i64 (nth x.l 2),.int .i64 (nth x.l 3),.int .i64 (n':Int),.int .i64 x.f,.int .i64 (nth x.t 0),.int .i64 (nth x.t 1),.int .i64 (nth x.t 2),.int .i64 (nth x.t 3),.bool x.ro] 109)).alloc (grB l t f n))):=((Kp.refl _ w).alloc _).alloc _;clear hB0 hB1;obtain⟨b0,hb0⟩:∃b0,w.heap.size=b0:=⟨_,rfl⟩;rw[hb0]at HB0 HB1⊢;have HBB:=hid hb0;clear hb0 hw;generalize (w.alloc (.cells #[.int .i64 x.kind,.int .i64 x.buf,.int .i64 (nth x.l 0),.int .i64 (nth x.l 1),.int .i64 (nth x.l 2),.int .i64 (nth x.l 3),.int .i64 (n':Int),.int .i64 x.f,.int .i64 (nth x.t 0),.int .i64 (nth x.t 1),.int .i64 (nth x.t 2),.int .i64 (nth x.t 3),.bool x.ro] 109)).alloc (grB l t f n)=W at HB0 HB1 HK⊢;obtain⟨c0,c1,c2,c3,c4,c5,c6,c7,c8,c9⟩:=cells10 HB1.out
 go_wp2_with (refine wpList_storeMid _ rfl 107 109 (.tmp 11) _ rfl b0 2 _ _ rfl rfl HB0.out Tryz.szGrid (by simp) (all10 rfl rfl rfl rfl rfl rfl rfl rfl rfl rfl) ?_;intro w5 hB5 hK5;have HB5:=hid hB5;have HK5:=hid hK5;clear hB5 hK5;clear c0 c1 c2 c3 c4 c5 c6 c7 c8 c9;simp only[laidAt,List.take,List.drop,List.cons_append,List.nil_append,List.length_cons,List.length_nil]at HB5;obtain⟨y0,y1,y2,y3,y4,y5,y6,y7,y8,y9,y10,y11,y12⟩:=cells13 HB5.out)
 have HK6:Hid (Kp0 w w5):=Kp.trans HK.out HK5.out (fun i hi e=>by have:=HBB.out;omega);refine(HA.out _ HK6.out).mono ?_;rintro e w6 ⟨rfl,hk6,hx6⟩;have HX6:=hid hx6;have HK7:=hid ((Kp.of0 HK6.out).trans hk6 (fun _ _ e=>e));clear hk6 hx6;go_wp2
 go_ret2
 exact⟨rfl,HK7.out,HX6.out⟩
theorem xCut_none{T:Tags}{o:Nat}{w:World}{p:Nat}{L:XL}{X:XS}(h:XAt T o w p L X)(hd:Int)(axis start count step:Int)(hA:X.A hd=none):Calls Tryz.prog 21 #[.pointer (some ⟨p,0,none⟩),.int .i64 hd,.int .i64 axis,.int .i64 start,.int .i64 count,.int .i64 step] w fun e w'=>e=.returned (.tuple #[.int .i64 0,.int .i64 2])∧Kp0 w w':=by
 have HF:=hid (xfind_none h hd hA);unfold xaZ at HF;clear h hA;go_enter Tryz.func21,Tryz.ntmps21
 go_wp2_with fail
 refine HF.out.mono ?_;rintro e w2 ⟨rfl,hw⟩;have HK:=hid hw;clear hw;go_wp2
 go_ret2
 exact⟨rfl,HK.out.alloc _⟩
theorem xCut_no{T:Tags}{o:Nat}{w:World}{p:Nat}{L:XL}{X:XS}(h:XAt T o w p L X)(hd:Int)(axis start count step:Int)(x:XA)(hA:X.A hd=some x)(hk:x.kind=1∨x.kind=2)(HG:Hid (∀W,Kp0 w W→Calls Tryz.prog 55 #[.agg (grC x.l x.t x.f).toArray,.int .i64 axis,.int .i64 start,.int .i64 count,.int .i64 step] W fun e w'=>e=.returned (.tuple #[.agg zG,.bool false])∧Kp0 W w')):Calls Tryz.prog 21 #[.pointer (some ⟨p,0,none⟩),.int .i64 hd,.int .i64 axis,.int .i64 start,.int .i64 count,.int .i64 step] w fun e w'=>e=.returned (.tuple #[.int .i64 0,.int .i64 5])∧Kp0 w w':=by
 have HF:=hid (xfind_some h hd x hA hk);generalize L.inV x.kind=I at*;unfold XA.cs at HF;unfold grC zG at HG;generalize x.l.length=n at*;clear h hA hk;go_enter Tryz.func21,Tryz.ntmps21
 go_wp2_with fail
 refine HF.out.mono ?_;rintro e w2 ⟨rfl,hw⟩;have HK:=hid hw;clear hw
 go_wp2_with fail
 refine(HG.out _ (HK.out.alloc _)).mono ?_;rintro e w3 ⟨rfl,hw⟩;have HK3:Hid (Kp0 w w3):=Kp0.trans (HK.out.alloc _) hw;clear hw;go_wp2
 go_ret2
 exact⟨rfl,HK3.out.alloc _⟩
theorem xCut_yes{T:Tags}{o:Nat}{w:World}{p:Nat}{L:XL}{X:XS}(h:XAt T o w p L X)(hd:Int)(axis start count step:Int)(x:XA)(hA:X.A hd=some x)(hk:x.kind=1∨x.kind=2)(l t:List Int)(f:Int){R:Int→Int→World→Prop}(HG:Hid (∀W,Kp0 w W→Calls Tryz.prog 55 #[.agg (grC x.l x.t x.f).toArray,.int .i64 axis,.int .i64 start,.int .i64 count,.int .i64 step] W fun e w'=>e=.returned (.tuple #[.agg (grC l t f).toArray,.bool true])∧Kp0 W w'))(HV:Hid (∀W,Kp0 w W→Calls Tryz.prog 54 #[.pointer (some ⟨p,0,none⟩),.agg x.cs,.agg (grC l t f).toArray] W fun e w'=>∃a b,e=.returned (.tuple #[.int .i64 a,.int .i64 b])∧R a b w')):Calls Tryz.prog 21 #[.pointer (some ⟨p,0,none⟩),.int .i64 hd,.int .i64 axis,.int .i64 start,.int .i64 count,.int .i64 step] w fun e w'=>∃a b,e=.returned (.tuple #[.int .i64 a,.int .i64 b])∧R a b w':=by
 have HF:=hid (xfind_some h hd x hA hk);generalize L.inV x.kind=I at*;unfold XA.cs at HF HV;unfold grC at HG HV;generalize x.l.length=n at*;generalize l.length=m at*;clear h hA hk;go_enter Tryz.func21,Tryz.ntmps21
 go_wp2_with fail
 refine HF.out.mono ?_;rintro e w2 ⟨rfl,hw⟩;have HB2:Hid ((w2.alloc (.cells #[.int .i64 x.kind,.int .i64 x.buf,.int .i64 (nth x.l 0),.int .i64 (nth x.l 1),.int .i64 (nth x.l 2),.int .i64 (nth x.l 3),.int .i64 (n:Int),.int .i64 x.f,.int .i64 (nth x.t 0),.int .i64 (nth x.t 1),.int .i64 (nth x.t 2),.int .i64 (nth x.t 3),.bool x.ro] 109)).heap[w2.heap.size]? =some (.cells #[.int .i64 x.kind,.int .i64 x.buf,.int .i64 (nth x.l 0),.int .i64 (nth x.l 1),.int .i64 (nth x.l 2),.int .i64 (nth x.l 3),.int .i64 (n:Int),.int .i64 x.f,.int .i64 (nth x.t 0),.int .i64 (nth x.t 1),.int .i64 (nth x.t 2),.int .i64 (nth x.t 3),.bool x.ro] 109 (0,0))):=heap_alloc_new w2 _;have HK:=hid hw;clear hw
 go_wp2_with fail
 refine(HG.out _ (HK.out.alloc _)).mono ?_;rintro e w3 ⟨rfl,hw⟩;have HB3:=hid (hw.heap HB2.out);have HK3:Hid (Kp0 w w3):=Kp0.trans (HK.out.alloc _) hw;have hlt:w2.heap.size<w3.heap.size:=lt_of_heap HB3.out;clear hw HB2;generalize w2.heap.size=b0 at*;obtain⟨y0,y1,y2,y3,y4,y5,y6,y7,y8,y9,y10,y11,y12⟩:=cells13 HB3.out
 go_wp2_with fail
 refine(HV.out _ (HK3.out.alloc _)).mono ?_;rintro e w4 ⟨a,b,rfl,hR⟩;have HR:=hid hR;clear hR;go_wp2
 go_ret2
 exact⟨a,b,rfl,HR.out⟩
theorem xTurn_none{T:Tags}{o:Nat}{w:World}{p:Nat}{L:XL}{X:XS}(h:XAt T o w p L X)(hd:Int)(va:Value)(hA:X.A hd=none):Calls Tryz.prog 20 #[.pointer (some ⟨p,0,none⟩),.int .i64 hd,va] w fun e w'=>e=.returned (.tuple #[.int .i64 0,.int .i64 2])∧Kp0 w w':=by
 have HF:=hid (xfind_none h hd hA);unfold xaZ at HF;clear h hA;go_enter Tryz.func20,Tryz.ntmps20
 go_wp2_with fail
 refine HF.out.mono ?_;rintro e w2 ⟨rfl,hw⟩;have HK:=hid hw;clear hw;go_wp2
 go_ret2
 exact⟨rfl,HK.out.alloc _⟩
theorem xTurn_no{T:Tags}{o:Nat}{w:World}{p:Nat}{L:XL}{X:XS}(h:XAt T o w p L X)(hd:Int)(va:Value)(x:XA)(hA:X.A hd=some x)(hk:x.kind=1∨x.kind=2)(HG:Hid (∀W,Kp0 w W→Calls Tryz.prog 53 #[.agg (grC x.l x.t x.f).toArray,va] W fun e w'=>e=.returned (.tuple #[.agg zG,.bool false])∧Kp0 W w')):Calls Tryz.prog 20 #[.pointer (some ⟨p,0,none⟩),.int .i64 hd,va] w fun e w'=>e=.returned (.tuple #[.int .i64 0,.int .i64 4])∧Kp0 w w':=by
 have HF:=hid (xfind_some h hd x hA hk);generalize L.inV x.kind=I at*;unfold XA.cs at HF;unfold grC zG at HG;generalize x.l.length=n at*;clear h hA hk;go_enter Tryz.func20,Tryz.ntmps20
 go_wp2_with fail
 refine HF.out.mono ?_;rintro e w2 ⟨rfl,hw⟩;have HK:=hid hw;clear hw
 go_wp2_with fail
 refine(HG.out _ (HK.out.alloc _)).mono ?_;rintro e w3 ⟨rfl,hw⟩;have HK3:Hid (Kp0 w w3):=Kp0.trans (HK.out.alloc _) hw;clear hw;go_wp2
 go_ret2
 exact⟨rfl,HK3.out.alloc _⟩
theorem xTurn_yes{T:Tags}{o:Nat}{w:World}{p:Nat}{L:XL}{X:XS}(h:XAt T o w p L X)(hd:Int)(va:Value)(x:XA)(hA:X.A hd=some x)(hk:x.kind=1∨x.kind=2)(l t:List Int)(f:Int){R:Int→Int→World→Prop}(HG:Hid (∀W,Kp0 w W→Calls Tryz.prog 53 #[.agg (grC x.l x.t x.f).toArray,va] W fun e w'=>e=.returned (.tuple #[.agg (grC l t f).toArray,.bool true])∧Kp0 W w'))(HV:Hid (∀W,Kp0 w W→Calls Tryz.prog 54 #[.pointer (some ⟨p,0,none⟩),.agg x.cs,.agg (grC l t f).toArray] W fun e w'=>∃a b,e=.returned (.tuple #[.int .i64 a,.int .i64 b])∧R a b w')):Calls Tryz.prog 20 #[.pointer (some ⟨p,0,none⟩),.int .i64 hd,va] w fun e w'=>∃a b,e=.returned (.tuple #[.int .i64 a,.int .i64 b])∧R a b w':=by
 have HF:=hid (xfind_some h hd x hA hk);generalize L.inV x.kind=I at*;unfold XA.cs at HF HV;unfold grC at HG HV;generalize x.l.length=n at*;generalize l.length=m at*;clear h hA hk;go_enter Tryz.func20,Tryz.ntmps20
 go_wp2_with fail
 refine HF.out.mono ?_;rintro e w2 ⟨rfl,hw⟩;have HB2:Hid ((w2.alloc (.cells #[.int .i64 x.kind,.int .i64 x.buf,.int .i64 (nth x.l 0),.int .i64 (nth x.l 1),.int .i64 (nth x.l 2),.int .i64 (nth x.l 3),.int .i64 (n:Int),.int .i64 x.f,.int .i64 (nth x.t 0),.int .i64 (nth x.t 1),.int .i64 (nth x.t 2),.int .i64 (nth x.t 3),.bool x.ro] 109)).heap[w2.heap.size]? =some (.cells #[.int .i64 x.kind,.int .i64 x.buf,.int .i64 (nth x.l 0),.int .i64 (nth x.l 1),.int .i64 (nth x.l 2),.int .i64 (nth x.l 3),.int .i64 (n:Int),.int .i64 x.f,.int .i64 (nth x.t 0),.int .i64 (nth x.t 1),.int .i64 (nth x.t 2),.int .i64 (nth x.t 3),.bool x.ro] 109 (0,0))):=heap_alloc_new w2 _;have HK:=hid hw;clear hw
 go_wp2_with fail
 refine(HG.out _ (HK.out.alloc _)).mono ?_;rintro e w3 ⟨rfl,hw⟩;have HB3:=hid (hw.heap HB2.out);have HK3:Hid (Kp0 w w3):=Kp0.trans (HK.out.alloc _) hw;have hlt:w2.heap.size<w3.heap.size:=lt_of_heap HB3.out;clear hw HB2;generalize w2.heap.size=b0 at*;obtain⟨y0,y1,y2,y3,y4,y5,y6,y7,y8,y9,y10,y11,y12⟩:=cells13 HB3.out
 go_wp2_with fail
 refine(HV.out _ (HK3.out.alloc _)).mono ?_;rintro e w4 ⟨a,b,rfl,hR⟩;have HR:=hid hR;clear hR;go_wp2
 go_ret2
 exact⟨a,b,rfl,HR.out⟩
end Go.Proofs.YticbbncdcannlaaGreat
namespace Go.Proofs.YticbbncdcannlaaGreat
open Go.RowKit
def occ(ax:List Int)(k j:Nat):Int:=if(List.range k).any (fun i=>decide (nth ax i=(j:Int)))=true then 1 else 0
theorem occ_pos(ax:List Int)(k j:Nat):0<occ ax k j↔∃i,i<k∧nth ax i=(j:Int):=by
 unfold occ;split
 ·rename_i h
  rw[List.any_eq_true]at h;obtain⟨i,h1,h2⟩:=h;exact⟨fun _=>⟨i,List.mem_range.1 h1,by simpa using h2⟩,fun _=>by omega⟩
 ·rename_i h
  constructor
  ·intro h0;omega
  ·rintro⟨i,h1,h2⟩
   exact absurd (List.any_eq_true.2 ⟨i,List.mem_range.2 h1,by simpa using h2⟩) h
theorem occ_is(ax:List Int)(k j:Nat):occ ax k j=0∨occ ax k j=1:=by
 unfold occ;split
 ·exact .inr rfl
 ·exact .inl rfl
theorem occ_step(ax:List Int)(k:Nat)(h0:0≤nth ax k)(hz:¬0<occ ax k (nth ax k).toNat):upd (occ ax k) (nth ax k).toNat (occ ax k (nth ax k).toNat+1)=occ ax (k+1):=by
 funext j
 unfold upd;have hz':occ ax k (nth ax k).toNat=0:=by rcases occ_is ax k (nth ax k).toNat with h|h<;>omega
 have e:0<occ ax (k+1) j↔0<occ ax k j∨j=(nth ax k).toNat:=by
  rw[occ_pos,occ_pos];constructor
  ·rintro⟨i,h1,h2⟩
   rcases Nat.lt_succ_iff_lt_or_eq.1 h1 with h|h
   ·exact .inl ⟨i,h,h2⟩
   ·subst h;exact .inr (by omega)
  ·rintro(⟨i,h1,h2⟩|h)
   ·exact⟨i,by omega,h2⟩
   ·exact⟨k,by omega,by omega⟩
 have a:=occ_is ax (k+1) j;have b:=occ_is ax k j;split
 ·rename_i h
  have:=e.2 (.inr h);omega
 ·rename_i h
  by_cases h2:0<occ ax k j
  ·have:=e.2 (.inl h2)
   omega
  ·have:¬0<occ ax (k+1) j:=fun h3=>by
    rcases e.1 h3 with h4|h4
    ·exact h2 h4
    ·exact h h4
   omega
abbrev fourB(F:Nat→Int):Obj:=.cells #[.int .i64 (F 0),.int .i64 (F 1),.int .i64 (F 2),.int .i64 (F 3)] 102
theorem four_cell{w:World}{b:Nat}{F:Nat→Int}(h:w.heap[b]? =some (fourB F))(k:Nat)(hk:k<4):w.cell? ⟨b,k,none⟩=some (.int .i64 (F k)):=by
 rw[cell_of_row _ _ _ _ _ _ h]
 match k,hk with
 |0,_=>rfl
 |1,_=>rfl
 |2,_=>rfl
 |3,_=>rfl
theorem four_set{w:World}{b:Nat}{F:Nat→Int}(h:w.heap[b]? =some (fourB F))(k:Nat)(hk:k<4)(v:Int):(w.setCell ⟨b,k,none⟩ (.int .i64 v)).heap[b]? =some (fourB (upd F k v)):=by
 have h1:=heap_setCell_same w b k _ _ (.int .i64 v) h;rw[h1]
 match k,hk with
 |0,_=>rfl
 |1,_=>rfl
 |2,_=>rfl
 |3,_=>rfl
theorem axesTo_succ{n:Nat}{ax:List Int}{k:Nat}(h:axesTo n ax k)(h0:0≤nth ax k)(h1:nth ax k<(n:Int))(hz:¬0<occ ax k (nth ax k).toNat):axesTo n ax (k+1):=by
 intro i hi;rcases Nat.lt_succ_iff_lt_or_eq.1 hi with h2|h2
 ·exact h i h2
 ·subst h2
  exact⟨⟨h0,h1⟩,fun j hj e=>hz ((occ_pos ax i _).2 ⟨j,hj,by omega⟩)⟩
theorem ret_boolw{b c:Bool}(h:b=c):Ending.returned (.bool b)=Ending.returned (.bool c):=by rw[h]
theorem xisOrder_len(l:List Int)(a:Option Addr)(m c:Nat)(w:World)(h:m≠l.length):Calls Tryz.prog 89 #[.agg (shC l).toArray,.slice a m c] w fun e w'=>e=.returned (.bool false)∧Kp0 w w':=by
 obtain⟨n,hn⟩:∃n,n=l.length:=⟨_,rfl⟩;unfold shC;rw[←hn]at h⊢;have d1:((m:Int)!=(n:Int))=true:=by rw[bne_iff_ne];omega
 clear hn h;go_enter Tryz.func89,Tryz.ntmps89
 go_wp2
 go_ret;exact⟨rfl,(Kp.refl _ w).alloc _⟩
theorem xisOrder_any(l ax:List Int)(a:Option Addr)(n c:Nat)(w:World)(HL:Hid (l.length=n))(HI:Hid (ax.length=n))(hl:n≤4)(HRD:Hid (0<n→∃g o,a=some ⟨g,o,none⟩∧∀j,j<n→w.cell? ⟨g,o+j,none⟩=some (.int .i64 (nth ax j)))):Calls Tryz.prog 89 #[.agg (shC l).toArray,.slice a n c] w fun e w'=>e=.returned (.bool (turnB n ax))∧Kp0 w w':=by
 have HA:=hid (fun W axis=>xhasAxis_calls l axis W);rw[HL.out]at HA;unfold shC at HA⊢;rw[HL.out]at HA⊢;have d1:((n:Int)!=(n:Int))=false:=by simp
 obtain⟨hB0,hB1⟩:=two_heap w (shB l n) (fourB (occ ax 0));have HB0:=hid hB0;have HB1:=hid hB1;have HK:Hid (Kp0 w ((w.alloc (shB l n)).alloc (fourB (occ ax 0)))):=((Kp.refl _ w).alloc _).alloc _;clear hB0 hB1;go_enter Tryz.func89,Tryz.ntmps89
 go_wp2
 have e0:(w.alloc (.cells #[.int .i64 (nth l 0),.int .i64 (nth l 1),.int .i64 (nth l 2),.int .i64 (nth l 3),.int .i64 (n:Int)] 104)).alloc (.cells #[.int .i64 0,.int .i64 0,.int .i64 0,.int .i64 0] 102)=(w.alloc (shB l n)).alloc (fourB (occ ax 0)):=rfl;rw[e0];clear e0;obtain⟨b0,hb0⟩:∃b0,w.heap.size=b0:=⟨_,rfl⟩;rw[hb0]at HB0 HB1⊢;have HBB:=hid hb0;clear hb0;generalize (w.alloc (shB l n)).alloc (fourB (occ ax 0))=W at HB0 HB1 HK⊢
 go_loopw [7,15] (fun _ t w'=>∃k:Nat,k≤n∧t=.int .i64 k∧Hid (axesTo n ax k)∧Hid (Kp0 w w')∧Hid (w'.heap[b0]? =some (shB l n))∧Hid (w'.heap[b0+1]? =some (fourB (occ ax k)))) (fun _ t _=>n-(intOf t).toNat)
 case atStart=>exact⟨0,Nat.zero_le _,rfl,hid (fun j hj=>by omega),HK,HB0,HB1⟩
 case round=>
  clear HB0 HB1 HK;obtain⟨k,hk,rfl,HX,HK,HB0,HB1⟩:=hrel;by_cases hlt:k<n
  ·obtain⟨g,o,rfl,hc⟩:=HRD.out (by omega)
   have q1:=HK.out.cell (hc k hlt);clear hc;obtain⟨c0,c1,c2,c3,c4⟩:=cells5 HB0.out;by_cases hin:0≤nth ax k∧nth ax k<(n:Int)
   ·have HAk:=hid (fun W=>HA.out W (nth ax k))
    rw[show(decide (0≤nth ax k)&&decide (nth ax k<(n:Int)))=true by simp[hin]]at HAk;obtain⟨i0,i1⟩:=hin;have i2:nth ax k<4:=by omega
    by_cases hz:0<occ ax k (nth ax k).toNat
    ·have d2:decide (0<occ ax k (nth ax k).toNat)=true:=by simp[hz]
     have HF:Hid (turnB n ax=false):=hid (by
      rw[←Bool.not_eq_true];intro e;obtain⟨j,h1,h2⟩:=(occ_pos ax k _).1 hz;exact(((turnB_iff n ax).1 e).2 k hlt).2 j h1 (by omega))
     have HB5:=HB1;clear hz
     go_wp2_with fail
     refine(HAk.out _).mono ?_;rintro e w2 ⟨rfl,hw⟩;have z1:=four_cell (hw.heap HB5.out) (nth ax k).toNat (by omega);have HK2:Hid (Kp0 w w2):=Kp0.trans HK.out hw;clear hw c0 c1 c2 c3 c4 q1;go_wp2
     go_ret;exact⟨ret_boolw HF.out.symm,HK2.out⟩
    ·have d2:decide (0<occ ax k (nth ax k).toNat)=false:=by simp[hz]
     have HX2:=hid (axesTo_succ HX.out i0 i1 hz);have HO:=hid (occ_step ax k i0 hz);have o1:=occ_is ax k (nth ax k).toNat;have o2:IntKind.i64.wrap (occ ax k (nth ax k).toNat+1)=occ ax k (nth ax k).toNat+1:=by rcases o1 with h|h<;>rw[h]<;>rfl
     clear hz o1
     go_wp2_with fail
     refine(HAk.out _).mono ?_;rintro e w2 ⟨rfl,hw⟩;have HB5:=hid (hw.heap HB1.out);have HB6:=hid (hw.heap HB0.out);have z1:=four_cell HB5.out (nth ax k).toNat (by omega);have z2:=frozen_of_row w2 (b0+1) (nth ax k).toNat _ _ HB5.out;have HK2:Hid (Kp0 w w2):=Kp0.trans HK.out hw;have HS:Hid _:=four_set HB5.out (nth ax k).toNat (by omega) (occ ax k (nth ax k).toNat+1);rw[HO.out]at HS;clear hw c0 c1 c2 c3 c4 q1;go_wp2
     go_roundw
     case rel=>exact⟨k+1,by omega,by go_num,HX2,HK2.out.setCell _ _ (fun h=>by have:=HBB.out;change b0+1<_ at h;omega),hid (by rw[heap_setCell_other _ _ _ _ (by show b0≠b0+1;omega)];exact HB6.out),HS⟩
     case measure=>simp[intOf];omega
   ·have HAk:=hid (fun W=>HA.out W (nth ax k))
    rw[show(decide (0≤nth ax k)&&decide (nth ax k<(n:Int)))=false by rw[←Bool.not_eq_true];simp;omega]at HAk;have HF:Hid (turnB n ax=false):=hid (by
     rw[←Bool.not_eq_true];exact fun e=>hin (((turnB_iff n ax).1 e).2 k hlt).1)
    clear hin
    go_wp2_with fail
    refine(HAk.out _).mono ?_;rintro e w2 ⟨rfl,hw⟩;have HK2:Hid (Kp0 w w2):=Kp0.trans HK.out hw;clear hw;go_wp2
    go_ret;exact⟨ret_boolw HF.out.symm,HK2.out⟩
  ·obtain rfl:k=n:=by omega
   have HF:Hid (turnB k ax=true):=hid ((turnB_iff k ax).2 ⟨HI.out,HX.out⟩);go_wp2
   go_ret;exact⟨ret_boolw HF.out.symm,HK.out⟩
theorem xisOrder_calls(l ax:List Int)(va:Value)(w:World)(hr:RdI w va ax)(hl:l.length≤4):Calls Tryz.prog 89 #[.agg (shC l).toArray,va] w fun e w'=>e=.returned (.bool (turnB l.length ax))∧Kp0 w w':=by
 obtain⟨a,c,rfl,ha⟩:=rd_parts hr;by_cases h:ax.length=l.length
 ·rw[h]at ha⊢
  exact xisOrder_any l ax a l.length c w (hid rfl) (hid h) hl (hid ha)
 ·have hf:turnB l.length ax=false:=by
   rw[←Bool.not_eq_true];exact fun e=>h ((turnB_iff _ _).1 e).1
  rw[hf];exact xisOrder_len l a ax.length c w h
def mixT(l ax:List Int)(k j:Nat):Int:=if j<k then nth l (nth ax j).toNat else nth l j
theorem mix_zero(l ax:List Int):mixT l ax 0=nth l:=by
 funext j
 simp[mixT]
theorem mix_step(l ax:List Int)(k:Nat):upd (mixT l ax k) k (nth l (nth ax k).toNat)=mixT l ax (k+1):=by
 funext j
 unfold upd mixT;by_cases h:j=k
 ·subst h;simp
 ·rw[if_neg h]
  by_cases h2:j<k
  ·rw[if_pos h2,if_pos (by omega)]
  ·rw[if_neg h2,if_neg (by omega)]
theorem mix_end{l ax:List Int}{n:Nat}(hl:l.length≤n)(ha:ax.length=n)(j:Nat):mixT l ax n j=nth (turnS l ax) j:=by
 unfold mixT;split
 ·rename_i h
  rw[turnS_nth _ _ _ (by omega)]
 ·rename_i h
  rw[nth_out (by omega),nth_out (by rw[turnS_length];omega)]
theorem xgturn_no(l t ax:List Int)(f:Int)(va:Value)(w:World)(hr:RdI w va ax)(hl:l.length≤4)(h:turnB l.length ax=false):Calls Tryz.prog 53 #[.agg (grC l t f).toArray,va] w fun e w'=>e=.returned (.tuple #[.agg zG,.bool false])∧Kp0 w w':=by
 have HA:=hid (fun W (k:Kp0 w W)=>xisOrder_calls l ax va W (hr.kp0 k) hl);rw[h]at HA;unfold shC at HA;unfold grC zG;generalize l.length=n at*;clear h hr hl;obtain⟨hB0,hB1⟩:=two_heap w (grB l t f n) zGB;have HB1:=hid hB1;clear hB0 hB1;go_enter Tryz.func53,Tryz.ntmps53
 go_wp2_with fail
 refine(HA.out _ (((Kp.refl _ w).alloc _).alloc _)).mono ?_;rintro e w2 ⟨rfl,hw⟩;have HB2:=hid (hw.heap HB1.out);have HK:Hid (Kp0 w w2):=Kp0.trans (((Kp.refl _ w).alloc _).alloc _) hw;clear hw HB1;obtain⟨b0,hb0⟩:∃b0,w.heap.size=b0:=⟨_,rfl⟩;rw[hb0]at HB2⊢;have HBB:=hid hb0;clear hb0
 go_wp2_with (refine wpList_storeRow _ rfl 107 (.tmp 4) _ rfl (b0+1) _ _ rfl rfl HB2.out Tryz.szGrid rfl (all10 rfl rfl rfl rfl rfl rfl rfl rfl rfl rfl) ?_;intro w5 hB5 hK5)
 (try simp only[Exit.inBlock,Exit.then])
 refine bodyPost_ret (res_cell2 rfl _ _ (b0+1) _ _ _ _ rfl hB5 Tryz.underlying107 rfl Tryz.szGrid) rfl ?_;exact⟨rfl,Kp.trans HK.out hK5 (fun i hi e=>by have:=HBB.out;omega)⟩
theorem xgturn_any(l t ax:List Int)(f:Int)(a:Option Addr)(n c:Nat)(w:World)(HL:Hid (l.length=n))(HT:Hid (t.length≤n))(HI:Hid (ax.length=n))(hl:n≤4)(HU:Hid (∀k,k<n→nth l k=1→nth t k=0))(HRD:Hid (0<n→∃g o,a=some ⟨g,o,none⟩∧∀j,j<n→w.cell? ⟨g,o+j,none⟩=some (.int .i64 (nth ax j))))(HX:Hid (axesTo n ax n))(HA:Hid (∀W,Kp0 w W→Calls Tryz.prog 89 #[.agg #[.int .i64 (nth l 0),.int .i64 (nth l 1),.int .i64 (nth l 2),.int .i64 (nth l 3),.int .i64 (n:Int)],.slice a n c] W fun e w'=>e=.returned (.bool true)∧Kp0 W w')):Calls Tryz.prog 53 #[.agg #[.int .i64 (nth l 0),.int .i64 (nth l 1),.int .i64 (nth l 2),.int .i64 (nth l 3),.int .i64 (n:Int),.int .i64 f,.int .i64 (nth t 0),.int .i64 (nth t 1),.int .i64 (nth t 2),.int .i64 (nth t 3)],.slice a n c] w fun e w'=>e=.returned (.tuple #[.agg #[.int .i64 (mixT l ax n 0),.int .i64 (mixT l ax n 1),.int .i64 (mixT l ax n 2),.int .i64 (mixT l ax n 3),.int .i64 (n:Int),.int .i64 f,.int .i64 (mixT t ax n 0),.int .i64 (mixT t ax n 1),.int .i64 (mixT t ax n 2),.int .i64 (mixT t ax n 3)],.bool true])∧Kp0 w w':=by
 obtain⟨hB0,hB1⟩:=two_heap w (grB l t f n) zGB;have HB0:=hid hB0;have HB1:=hid hB1;clear hB0 hB1;go_enter Tryz.func53,Tryz.ntmps53
 go_wp2_with fail
 refine(HA.out _ (((Kp.refl _ w).alloc _).alloc _)).mono ?_;rintro e w2 ⟨rfl,hw⟩;have HB2:=hid (hw.heap HB1.out);have HB3:=hid (hw.heap HB0.out);have HK:Hid (Kp0 w w2):=Kp0.trans (((Kp.refl _ w).alloc _).alloc _) hw;clear hw HB1 HB0;obtain⟨b0,hb0⟩:∃b0,w.heap.size=b0:=⟨_,rfl⟩;rw[hb0]at HB2 HB3⊢;have HBB:=hid hb0;clear hb0;obtain⟨c0,c1,c2,c3,c4,c5,c6,c7,c8,c9⟩:=cells10 HB3.out;go_wp2
 have HG2:Hid ((w2.alloc (grG (nth l) (nth t) f n)).heap[w2.heap.size]? =some (grG (nth l) (nth t) f n)):=heap_alloc_new w2 _;have HG0:Hid ((w2.alloc (grG (nth l) (nth t) f n)).heap[b0]? =some (grB l t f n)):=heap_alloc_keeps HB3.out _;have HG1:Hid ((w2.alloc (grG (nth l) (nth t) f n)).heap[b0+1]? =some zGB):=heap_alloc_keeps HB2.out _;have HKW:Hid (Kp0 w (w2.alloc (grG (nth l) (nth t) f n))):=HK.out.alloc _;have h02:b0<w2.heap.size:=lt_of_heap HB3.out;have h12:b0+1<w2.heap.size:=lt_of_heap HB2.out;clear c0 c1 c2 c3 c4 c5 c6 c7 c8 c9 HB3 HB2 HK;generalize w2.alloc (grG (nth l) (nth t) f n)=W at HG2 HG0 HG1 HKW⊢;generalize w2.heap.size=b2 at HG2 h02 h12⊢;have hne:¬b0=b2:=by omega
 go_loopw [7,8,18] (fun _ _ i w'=>∃k:Nat,k≤n∧i=.int .i64 k∧Hid (Kp0 w w')∧Hid (w'.heap[b0]? =some (grB l t f n))∧Hid (w'.heap[b0+1]? =some zGB)∧Hid (w'.heap[b2]? =some (grG (mixT l ax k) (mixT t ax k) f n))) (fun _ _ i _=>n-(intOf i).toNat)
 case atStart=>exact⟨0,Nat.zero_le _,rfl,HKW,HG0,HG1,hid (by rw[mix_zero,mix_zero];exact HG2.out)⟩
 case round=>
  clear HG2 HG0 HG1 HKW;obtain⟨k,hk,rfl,HK,HG0,HG1,HG2⟩:=hrel;by_cases hlt:k<n
  ·obtain⟨g,o,rfl,hc⟩:=HRD.out (by omega)
   have q1:=HK.out.cell (hc k hlt);clear hc;obtain⟨⟨i0,i1⟩,-⟩:=HX.out k hlt;have i2:nth ax k<4:=by omega
   obtain⟨d,hd⟩:∃d:Nat,nth ax k=(d:Int):=⟨(nth ax k).toNat,by omega⟩;have hd4:d<4:=by omega
   have hdn:d<n:=by omega
   have HD:Hid ((nth ax k).toNat=d):=hid (by omega);rw[hd]at q1;have s1:=gr_sizes HG0.out d hd4;have s2:=gr_steps HG0.out d hd4;have HP:Hid (∀W,W.heap[b2]? =some (grG (mixT l ax k) (mixT t ax k) f n)→Calls Tryz.prog 90 #[.pointer (some ⟨b2,0,none⟩),.int .i64 (k:Int),.int .i64 (nth l d),.int .i64 (nth t d)] W fun e w'=>∃v,e=.returned v∧(v=.tuple #[]∧Kp (fun x=>x=b2) W w'∧w'.heap[b2]? =some (grG (mixT l ax (k+1)) (mixT t ax (k+1)) f n))):=fun W hb=>by
    have hu:stepOf (nth l d) (nth t d)=nth t d:=by
     unfold stepOf;split
     ·rename_i h;rw[HU.out d hdn h]
     ·rfl
    refine(xput_calls b2 k (nth l d) (nth t d) _ _ f n W (by omega) hb).mono ?_;rintro e w' ⟨rfl,h1,h2⟩;rw[hu]at h2;have e1:=mix_step l ax k;have e2:=mix_step t ax k;rw[HD.out]at e1 e2;rw[e1,e2]at h2;exact⟨_,rfl,rfl,h1,h2⟩
   have k4:(d:Int)<4:=by omega
   clear hd i0 i1 i2 HD;generalize nth l d=x at*;generalize nth t d=y at*;go_wp2
   go_region_law ((refine step_call4 (by rfl) 90 (.tmp 6) (.tmp 23) (.tmp 28) (.tmp 32) _ (by rfl) _ Tryz.func90 (by kernel_rfl) (by kernel_rfl) _ _ _ _ (by rfl) (by rfl) (by rfl) (by rfl) (HP.out _ HG2.out) ?_;intro v7 w7 hR;obtain⟨rfl,hK7,hB7⟩:=hR))
   all_goals
    have k7:Kp (fun x=>x=b2) wr w7:=Kp.trans ((Kp.refl _ wr).drew) hK7 (fun _ _ e=>e);have HK7:Hid (Kp0 w w7):=Kp.trans HK.out k7 (fun i hi e=>by have:=HBB.out;omega);have HG0':=hid (k7.heap HG0.out (by omega));have HG1':=hid (k7.heap HG1.out (by omega));have HG2':=hid hB7;clear hK7 hB7 k7 q1 s1 s2;go_wp2
    go_roundw
    case rel=>exact⟨k+1,by omega,by go_num,HK7,HG0',HG1',HG2'⟩
    case measure=>simp[intOf];omega
  ·obtain rfl:k=n:=by omega
   obtain⟨y0,y1,y2,y3,y4,y5,y6,y7,y8,y9⟩:=cells10 HG2.out
   go_wp2_with (refine wpList_storeRow _ rfl 107 (.tmp 4) _ rfl (b0+1) _ _ rfl rfl HG1.out Tryz.szGrid rfl (all10 rfl rfl rfl rfl rfl rfl rfl rfl rfl rfl) ?_;intro w5 hB5 hK5)
   (try simp only[Exit.inBlock,Exit.then])
   refine bodyPost_ret (res_cell2 rfl _ _ (b0+1) _ _ _ _ rfl hB5 Tryz.underlying107 rfl Tryz.szGrid) rfl ?_;exact⟨rfl,Kp.trans HK.out hK5 (fun i hi e=>by have:=HBB.out;omega)⟩
theorem xgturn_yes(l t ax:List Int)(f M:Int)(va:Value)(w:World)(hr:RdI w va ax)(hg:GOk l t f M)(h:turnB l.length ax=true):Calls Tryz.prog 53 #[.agg (grC l t f).toArray,va] w fun e w'=>e=.returned (.tuple #[.agg (grC (turnS l ax) (turnS t ax) f).toArray,.bool true])∧Kp0 w w':=by
 obtain⟨h1,h2⟩:=(turnB_iff _ _).1 h;have HA:=hid (fun W (k:Kp0 w W)=>xisOrder_calls l ax va W (hr.kp0 k) hg.shape.1);rw[h]at HA;obtain⟨a,c,rfl,ha⟩:=rd_parts hr;rw[h1]at ha HA⊢;have:=xgturn_any l t ax f a l.length c w (hid rfl) (hid hg.steps) (hid h1) hg.shape.1 (hid hg.unit) (hid ha) (hid h2) HA;unfold grC;rw[turnS_length,h1];simp only[mix_end (Nat.le_refl l.length) h1,mix_end hg.steps h1]at this;exact this
theorem grG_more{w:World}{b:Nat}{S T:Nat→Int}{f:Int}{n:Nat}(h:w.heap[b]? =some (grG S T f n)):(w.setCell ⟨b,4,none⟩ (.int .i64 ((n:Int)+1))).heap[b]? =some (grG S T f (n+1)):=by
 rw[heap_setCell_same w b 4 _ _ (.int .i64 ((n:Int)+1)) h];rfl
theorem xpush_calls(b:Nat)(size step:Int)(S T:Nat→Int)(f:Int)(n:Nat)(w:World)(hk:n<4)(hb:w.heap[b]? =some (grG S T f n)):Calls Tryz.prog 133 #[.pointer (some ⟨b,0,none⟩),.int .i64 size,.int .i64 step] w fun e w'=>e=.returned (.tuple #[])∧Kp (fun x=>x=b) w w'∧w'.heap[b]? =some (grG (upd S n size) (upd T n (stepOf size step)) f (n+1)):=by
 obtain⟨z0,z1,z2,z3,z4,z5,z6,z7,z8,z9⟩:=cells10 hb;have f4:=frozen_of_row w b 4 _ _ hb;have HB1:=hid (grG_more hb);have HP:=hid (xput_calls b n size step S T f (n+1) _ hk HB1.out);have HK1:Hid (Kp (fun x=>x=b) w (w.setCell ⟨b,4,none⟩ (.int .i64 ((n:Int)+1)))):=(Kp.refl _ w).setCell ⟨b,4,none⟩ _ (fun _=>rfl);have e1:IntKind.i64.wrap ((n:Int)+1)=(n:Int)+1:=by simp[IntKind.wrap,IntKind.signed,IntKind.bits];omega
 have e2:(n:Int)+1-1=(n:Int):=by omega
 have e3:IntKind.i64.wrap (n:Int)=(n:Int):=by simp[IntKind.wrap,IntKind.signed,IntKind.bits];omega
 clear hb z0 z1 z2 z3 z5 z6 z7 z8 z9;go_enter Tryz.func133,Tryz.ntmps133
 go_wp2_with fail
 refine HP.out.mono ?_;rintro e w2 ⟨rfl,hk2,hb2⟩;have HK2:=hid (Kp.trans HK1.out hk2 (fun _ _ e=>e));have HB2:=hid hb2;clear hk2 hb2;go_wp2
 go_end0
 exact⟨rfl,HK2.out,HB2.out⟩
theorem xnth_calls(l t:List Int)(f r:Int)(w:World)(hs:sized l)(hl:l.length≤4)(ht:∀k,k<l.length→ -1000000≤nth t k∧nth t k≤1000000)(hf:0≤f∧f≤1000000)(hr:0≤r∧r≤100000000):Calls Tryz.prog 95 #[.agg (grC l t f).toArray,.int .i64 r] w fun e w'=>e=.returned (.int .i64 (f+roff (stk l t l.length) r))∧Kp0 w w':=by
 obtain⟨R,hR⟩:∃R,f+roff (stk l t l.length) r=R:=⟨_,rfl⟩;rw[hR];have HR:=hid hR;have HS:=hid hs;have HT:=hid ht;unfold grC;obtain⟨n,hn⟩:∃n,l.length=n:=⟨_,rfl⟩;rw[hn];have HN:=hid hn;have hn4:n≤4:=by omega
 have HB0:Hid ((w.alloc (grB l t f n)).heap[w.heap.size]? =some (grB l t f n)):=heap_alloc_new w _;have HK:Hid (Kp0 w (w.alloc (grB l t f n))):=(Kp.refl _ w).alloc _;clear hR hs ht hn hl;go_enter Tryz.func95,Tryz.ntmps95
 go_wp2
 generalize w.alloc (grB l t f n)=W at HB0 HK⊢;generalize w.heap.size=b0 at HB0⊢
 go_loopw [1,5,6] (fun s1 s5 s6 w'=>∃(k:Nat) (q c:Int),k≤n∧s6=.int .i64 ((k:Int)-1)∧s1=.int .i64 q∧s5=.int .i64 c∧0≤q∧q≤100000000∧ -1000000000+(k:Int)*100000000≤c∧c≤1000000000-(k:Int)*100000000∧Hid (c+roff (stk l t k) q=R)∧Hid (Kp0 w w')∧Hid (w'.heap[b0]? =some (grB l t f n))) (fun _ _ s6 _=>(intOf s6+1).toNat)
 case atStart=>exact⟨n,r,f,Nat.le_refl _,rfl,rfl,rfl,hr.1,hr.2,by omega,by omega,hid (by have:=HR.out;rwa [HN.out]at this),HK,HB0⟩
 case round=>
  clear HB0 HK;obtain⟨k,q,c,hk,rfl,rfl,rfl,q0,q1,c0,c1,HC,HK,HB0⟩:=hrel;cases k with
  |zero=>
   have HE:Hid (c=R):=hid (by have:=HC.out;simpa[stk,roff]using this);obtain rfl:=HE.out;go_wp2
   go_ret;exact⟨rfl,HK.out⟩
  |succ k=>
   have y1:=gr_sizes HB0.out k (by omega);have y2:=gr_steps HB0.out k (by omega);obtain⟨s1,s2⟩:=HS.out k (by have:=HN.out;omega);obtain⟨t1,t2⟩:=HT.out k (by have:=HN.out;omega);have HC2:Hid (c+(q%nth l k*nth t k)+roff (stk l t k) (q / nth l k)=R):=hid (by
    have:=HC.out;simp only[stk,roff]at this;omega)
   generalize hz:nth l k=z at*;generalize hy:nth t k=y at*;clear hz hy HC;have ek:(((k+1:Nat):Int)-1)=(k:Int):=by omega
   rw[ek];have k1:(k:Int)<4:=by omega
   have z0:¬z=0:=by omega
   have zb:(z==0)=false:=by simp;omega
   have zm:¬z= -1:=by omega
   have m1:q.tmod z=q%z:=Int.tmod_eq_emod_of_nonneg q0;have m2:q.tdiv z=q / z:=Int.tdiv_eq_ediv_of_nonneg q0;have r0:0≤q%z:=Int.emod_nonneg _ (by omega);have r1:q%z<z:=Int.emod_lt_of_pos _ (by omega);have d0:0≤q / z:=Int.ediv_nonneg q0 (by omega);have d1:q / z≤q:=Int.ediv_le_self _ q0;have p1: -60000000≤q%z*y∧q%z*y≤60000000:=by
    have h1:q%z*y≤q%z*1000000:=Int.mul_le_mul_of_nonneg_left t2 r0;have h2:q%z*(-1000000)≤q%z*y:=Int.mul_le_mul_of_nonneg_left t1 r0;omega
   have e1:IntKind.i64.wrap (q.tmod z*y)=q%z*y:=by rw[m1];simp[IntKind.wrap,IntKind.signed,IntKind.bits];omega
   have e2:IntKind.i64.wrap (c+q%z*y)=c+q%z*y:=by simp[IntKind.wrap,IntKind.signed,IntKind.bits];omega
   have e3:IntKind.i64.wrap (q.tdiv z)=q / z:=by rw[m2];simp[IntKind.wrap,IntKind.signed,IntKind.bits];omega
   have HKD:Hid (∀j:Nat,Kp0 w (wr.drewN j)):=hid (fun j=>HK.out.drewN j);go_wp2
   go_quiet (fail)
   have HBD:Hid (∀j:Nat,(wr.drewN j).heap[b0]? =some (grB l t f n)):=hid (fun j=>((Kp.refl (fun _=>False) wr).drewN j).heap HB0.out (fun e=>e));go_wp2
   go_roundw
   case rel=>exact⟨k,q / z,c+q%z*y,by omega,rfl,rfl,rfl,d0,by omega,by omega,by omega,HC2,hid (HKD.out _),hid (HBD.out _)⟩
   case measure=>simp[intOf]
def strF(t:List Int)(d k j:Nat):Int:=if d≤j∧j<d+k then nth t (j-d)else 0
theorem strF_zero(t:List Int)(d:Nat):strF t d 0=fun _=>0:=by
 funext j
 unfold strF;rw[if_neg (by omega)]
theorem strF_step(t:List Int)(d k:Nat):upd (strF t d k) (d+k) (nth t k)=strF t d (k+1):=by
 funext j
 unfold upd strF;by_cases h:j=d+k
 ·rw[if_pos h,if_pos (by omega),h,show d+k-d=k by omega]
 ·rw[if_neg h]
  by_cases h2:d≤j∧j<d+k
  ·rw[if_pos h2,if_pos (by omega)]
  ·rw[if_neg h2,if_neg (by omega)]
theorem strF_end{l t s:List Int}(hls:l.length≤s.length)(j:Nat):strF t (s.length-l.length) l.length j=nth (strT l t s) j:=by
 unfold strF strT;rw[mkL_nth];by_cases h:j<s.length
 ·rw[if_pos h]
  by_cases h2:s.length-l.length≤j
  ·rw[if_pos h2,if_pos (by omega)]
  ·rw[if_neg h2,if_neg (by omega)]
 ·rw[if_neg h,if_neg (by omega)]
theorem grG_setT{w:World}{b:Nat}{S T:Nat→Int}{f:Int}{n:Nat}(h:w.heap[b]? =some (grG S T f n))(k:Nat)(hk:k<4)(v:Int):(w.setCell ⟨b,6+k,none⟩ (.int .i64 v)).heap[b]? =some (grG S (upd T k v) f n):=by
 have h1:=heap_setCell_same w b (6+k) _ _ (.int .i64 v) h;rw[h1]
 match k,hk with
 |0,_=>rfl
 |1,_=>rfl
 |2,_=>rfl
 |3,_=>rfl
theorem three_heap(w:World)(A B C:Obj):(((w.alloc A).alloc B).alloc C).heap[w.heap.size]? =some A∧(((w.alloc A).alloc B).alloc C).heap[w.heap.size+1]? =some B∧(((w.alloc A).alloc B).alloc C).heap[w.heap.size+2]? =some C:=by
 obtain⟨h1,h2⟩:=two_heap w A B;have h3:=heap_alloc_new ((w.alloc A).alloc B) C;have e:((w.alloc A).alloc B).heap.size=w.heap.size+2:=by simp
 rw[e]at h3;exact⟨heap_alloc_keeps h1 C,heap_alloc_keeps h2 C,h3⟩
theorem xgstr_gap(l t s:List Int)(f:Int)(w:World)(hl:l.length≤4)(h:s.length<l.length):Calls Tryz.prog 127 #[.agg (grC l t f).toArray,.agg (shC s).toArray] w fun e w'=>e=.returned (.tuple #[.agg zG,.bool false])∧Kp0 w w':=by
 unfold grC shC zG;generalize l.length=n at*;generalize s.length=m at*;have d1:decide ((m:Int)-(n:Int)<0)=true:=by simp;omega
 obtain⟨hB0,hB1,hB2⟩:=three_heap w (grB l t f n) (shB s m) zGB;have HB2:=hid hB2;have HK:Hid (Kp0 w (((w.alloc (grB l t f n)).alloc (shB s m)).alloc zGB)):=(((Kp.refl _ w).alloc _).alloc _).alloc _;have hn:(n:Int)≤4:=by omega
 have hm:(m:Int)≤4:=by omega
 clear h hB0 hB1 hB2 hl;go_enter Tryz.func127,Tryz.ntmps127
 go_wp2_with (refine wpList_storeRow _ rfl 107 (.tmp 4) _ rfl (w.heap.size+2) _ _ rfl rfl HB2.out Tryz.szGrid rfl (all10 rfl rfl rfl rfl rfl rfl rfl rfl rfl rfl) ?_;intro w5 hB5 hK5)
 (try simp only[Exit.inBlock,Exit.then])
 refine bodyPost_ret (res_cell2 rfl _ _ (w.heap.size+2) _ _ _ _ rfl hB5 Tryz.underlying107 rfl Tryz.szGrid) rfl ?_;exact⟨rfl,Kp.trans HK.out hK5 (fun i hi e=>by omega)⟩
theorem xgstr_any(l t s:List Int)(f:Int)(n m d:Nat)(w:World)(HL:Hid (l.length=n))(HM:Hid (s.length=m))(hd:(m:Int)-(n:Int)=(d:Int))(hm:m≤4)(HD:Hid (m-n=d)):Calls Tryz.prog 127 #[.agg #[.int .i64 (nth l 0),.int .i64 (nth l 1),.int .i64 (nth l 2),.int .i64 (nth l 3),.int .i64 (n:Int),.int .i64 f,.int .i64 (nth t 0),.int .i64 (nth t 1),.int .i64 (nth t 2),.int .i64 (nth t 3)],.agg #[.int .i64 (nth s 0),.int .i64 (nth s 1),.int .i64 (nth s 2),.int .i64 (nth s 3),.int .i64 (m:Int)]] w fun e w'=>((stretchB l s=true∧e=.returned (.tuple #[.agg #[.int .i64 (nth s 0),.int .i64 (nth s 1),.int .i64 (nth s 2),.int .i64 (nth s 3),.int .i64 (m:Int),.int .i64 f,.int .i64 (strF t d n 0),.int .i64 (strF t d n 1),.int .i64 (strF t d n 2),.int .i64 (strF t d n 3)],.bool true]))∨(stretchB l s=false∧e=.returned (.tuple #[.agg zG,.bool false])))∧Kp0 w w':=by
 unfold zG;have d1:decide ((d:Int)<0)=false:=by simp
 have hnm:n≤m:=by omega
 obtain⟨hB0,hB1,hB2⟩:=three_heap w (grB l t f n) (shB s m) zGB;have HB0:=hid (heap_alloc_keeps hB0 (grG (nth s) (strF t d 0) f m));have HB1:=hid (heap_alloc_keeps hB1 (grG (nth s) (strF t d 0) f m));have HB2:=hid (heap_alloc_keeps hB2 (grG (nth s) (strF t d 0) f m));have HB3:Hid (((((w.alloc (grB l t f n)).alloc (shB s m)).alloc zGB).alloc (grG (nth s) (strF t d 0) f m)).heap[w.heap.size+1+1+1]? =some (grG (nth s) (strF t d 0) f m)):=hid (by
  have:=heap_alloc_new (((w.alloc (grB l t f n)).alloc (shB s m)).alloc zGB) (grG (nth s) (strF t d 0) f m);simpa using this)
 have HK:Hid (Kp0 w ((((w.alloc (grB l t f n)).alloc (shB s m)).alloc zGB).alloc (grG (nth s) (strF t d 0) f m))):=((((Kp.refl _ w).alloc _).alloc _).alloc _).alloc _;clear hB0 hB1 hB2;have hn4:(n:Int)≤4:=by omega
 have hm4:(m:Int)≤4:=by omega
 go_enter Tryz.func127,Tryz.ntmps127
 go_wp2
 have z:∀j,strF t d 0 j=0:=fun j=>by rw[strF_zero]
 have e0:(((w.alloc (.cells #[.int .i64 (nth l 0),.int .i64 (nth l 1),.int .i64 (nth l 2),.int .i64 (nth l 3),.int .i64 (n:Int),.int .i64 f,.int .i64 (nth t 0),.int .i64 (nth t 1),.int .i64 (nth t 2),.int .i64 (nth t 3)] 107)).alloc (.cells #[.int .i64 (nth s 0),.int .i64 (nth s 1),.int .i64 (nth s 2),.int .i64 (nth s 3),.int .i64 (m:Int)] 104)).alloc (.cells #[.int .i64 0,.int .i64 0,.int .i64 0,.int .i64 0,.int .i64 0,.int .i64 0,.int .i64 0,.int .i64 0,.int .i64 0,.int .i64 0] 107)).alloc
   (.cells #[.int .i64 (nth s 0),.int .i64 (nth s 1),.int .i64 (nth s 2),.int .i64 (nth s 3),.int .i64 (m:Int),.int .i64 f,.int .i64 0,.int .i64 0,.int .i64 0,.int .i64 0] 107)=(((w.alloc (grB l t f n)).alloc (shB s m)).alloc zGB).alloc (grG (nth s) (strF t d 0) f m):=by
  simp[grG,z]
 rw[e0];clear e0 z;obtain⟨b0,hb0⟩:∃b0,w.heap.size=b0:=⟨_,rfl⟩;rw[hb0]at HB0 HB1 HB2 HB3⊢;have HBB:=hid hb0;clear hb0;generalize (((w.alloc (grB l t f n)).alloc (shB s m)).alloc zGB).alloc (grG (nth s) (strF t d 0) f m)=W at HB0 HB1 HB2 HB3 HK⊢
 go_loopw [8,9,26] (fun _ _ i w'=>∃k:Nat,k≤n∧i=.int .i64 k∧Hid (fitsTo l s k)∧Hid (Kp0 w w')∧Hid (w'.heap[b0]? =some (grB l t f n))∧Hid (w'.heap[b0+1]? =some (shB s m))∧Hid (w'.heap[b0+2]? =some zGB)∧Hid (w'.heap[b0+1+1+1]? =some (grG (nth s) (strF t d k) f m))) (fun _ _ i _=>n-(intOf i).toNat)
 case atStart=>exact⟨0,Nat.zero_le _,rfl,hid (fun j hj=>by omega),HK,HB0,HB1,HB2,HB3⟩
 case round=>
  clear HB0 HB1 HB2 HB3 HK;obtain⟨k,hk,rfl,HF,HK,HB0,HB1,HB2,HB3⟩:=hrel;by_cases hlt:k<n
  ·have q1:=gr_sizes HB0.out k (by omega)
   have q2:=sh_cell HB1.out (d+k) (by omega);have q3:=gr_steps HB0.out k (by omega);have q4:=grG_step HB3.out (d+k) (by omega);have q5:=frozen_of_row _ (b0+1+1+1) (6+(d+k)) _ _ HB3.out;have k1:(k:Int)<4:=by omega
   have k2:(d:Int)+(k:Int)<4:=by omega
   have e1:s.length-l.length+k=d+k:=by rw[HM.out,HL.out,HD.out]
   have HFK:Hid ((nth l k=nth s (d+k)∨nth l k=1)↔fitsTo l s (k+1)):=hid (by
    constructor
    ·intro h j hj
     rcases Nat.lt_succ_iff_lt_or_eq.1 hj with h2|h2
     ·exact HF.out j h2
     ·subst h2;rw[e1];exact h
    ·intro h
     have:=h k (by omega)
     rwa [e1]at this)
   have HBAD:Hid (¬fitsTo l s (k+1)→stretchB l s=false):=hid (fun h=>by
    rw[←Bool.not_eq_true];intro e;exact h (fun j hj=>((stretchB_iff l s).1 e).2 j (by rw[HL.out];omega)))
   clear e1;have HS:Hid _:=grG_setT HB3.out (d+k) (by omega) (nth t k);rw[strF_step]at HS;generalize hx:nth l k=x at*;generalize hy:nth s (d+k)=y at*;generalize hz:nth t k=z at*;clear hx hy hz;by_cases h1:x=1
   ·have d2:(x !=1)=false:=by simp[h1]
    have HF2:=hid (HFK.out.1 (.inr h1));clear h1;go_wp2
    go_roundw
    case rel=>exact⟨k+1,by omega,by go_num,HF2,HK.out.setCell _ _ (fun h=>by have:=HBB.out;change b0+1+1+1<_ at h;omega),hid (by rw[heap_setCell_other _ _ _ _ (by show b0≠b0+1+1+1;omega)];exact HB0.out),hid (by rw[heap_setCell_other _ _ _ _ (by show b0+1≠b0+1+1+1;omega)];exact HB1.out),hid (by rw[heap_setCell_other _ _ _ _ (by show b0+2≠b0+1+1+1;omega)];exact HB2.out),HS⟩
    case measure=>simp[intOf];omega
   ·have d2:(x !=1)=true:=by simp[h1]
    by_cases h2:x=y
    ·have d3:(x !=y)=false:=by simp[h2]
     have HF2:=hid (HFK.out.1 (.inl h2));clear h1 h2;go_wp2
     go_roundw
     case rel=>exact⟨k+1,by omega,by go_num,HF2,HK.out.setCell _ _ (fun h=>by have:=HBB.out;change b0+1+1+1<_ at h;omega),hid (by rw[heap_setCell_other _ _ _ _ (by show b0≠b0+1+1+1;omega)];exact HB0.out),hid (by rw[heap_setCell_other _ _ _ _ (by show b0+1≠b0+1+1+1;omega)];exact HB1.out),hid (by rw[heap_setCell_other _ _ _ _ (by show b0+2≠b0+1+1+1;omega)];exact HB2.out),HS⟩
     case measure=>simp[intOf];omega
    ·have d3:(x !=y)=true:=by simp[h2]
     have HN:=hid (HBAD.out (fun h=>(HFK.out.2 h).elim h2 h1));clear h1 h2 HS q4 q5
     go_wp2_with (refine wpList_storeRow _ rfl 107 (.tmp 4) _ rfl (b0+2) _ _ rfl rfl HB2.out Tryz.szGrid rfl (all10 rfl rfl rfl rfl rfl rfl rfl rfl rfl rfl) ?_;intro w5 hB5 hK5)
     (try simp only[Exit.inBlock,Exit.then])
     refine bodyPost_ret (res_cell2 rfl _ _ (b0+2) _ _ _ _ rfl hB5 Tryz.underlying107 rfl Tryz.szGrid) rfl ?_;exact⟨.inr ⟨HN.out,rfl⟩,Kp.trans HK.out hK5 (fun i hi e=>by have:=HBB.out;omega)⟩
  ·obtain rfl:k=n:=by omega
   have HN:Hid (stretchB l s=true):=hid ((stretchB_iff l s).2 ⟨by rw[HL.out,HM.out];exact hnm,by rw[HL.out];exact HF.out⟩);obtain⟨y0,y1,y2,y3,y4,y5,y6,y7,y8,y9⟩:=cells10 HB3.out
   go_wp2_with (refine wpList_storeRow _ rfl 107 (.tmp 4) _ rfl (b0+2) _ _ rfl rfl HB2.out Tryz.szGrid rfl (all10 rfl rfl rfl rfl rfl rfl rfl rfl rfl rfl) ?_;intro w5 hB5 hK5)
   (try simp only[Exit.inBlock,Exit.then])
   refine bodyPost_ret (res_cell2 rfl _ _ (b0+2) _ _ _ _ rfl hB5 Tryz.underlying107 rfl Tryz.szGrid) rfl ?_;exact⟨.inl ⟨HN.out,rfl⟩,Kp.trans HK.out hK5 (fun i hi e=>by have:=HBB.out;omega)⟩
theorem xgstr_calls(l t s:List Int)(f:Int)(w:World)(hl:l.length≤4)(hs:s.length≤4):Calls Tryz.prog 127 #[.agg (grC l t f).toArray,.agg (shC s).toArray] w fun e w'=>((stretchB l s=true∧e=.returned (.tuple #[.agg (grC s (strT l t s) f).toArray,.bool true]))∨(stretchB l s=false∧e=.returned (.tuple #[.agg zG,.bool false])))∧Kp0 w w':=by
 by_cases h:s.length<l.length
 ·refine(xgstr_gap l t s f w hl h).mono ?_
  rintro e w' ⟨rfl,hk⟩;refine⟨.inr ⟨?_,rfl⟩,hk⟩;rw[←Bool.not_eq_true];intro e;have:=((stretchB_iff l s).1 e).1;omega
 ·have:=xgstr_any l t s f l.length s.length (s.length-l.length) w (hid rfl) (hid rfl) (by omega) hs (hid rfl)
  simp only[strF_end (t:=t) (show l.length≤s.length by omega)]at this;exact this
def sS(A:List (Int×Int))(j:Nat):Int:=(A.reverse.getD j (0,0)).1
def sT(A:List (Int×Int))(j:Nat):Int:=(A.reverse.getD j (0,0)).2
theorem getD_snoc{α:Type}(l:List α)(x d:α)(j:Nat):(l++[x]).getD j d=if j=l.length then x else l.getD j d:=by
 unfold List.getD;rw[List.getElem?_append];by_cases h:j<l.length
 ·rw[if_pos h,if_neg (by omega)]
 ·rw[if_neg h]
  by_cases e:j=l.length
  ·rw[if_pos e,e];simp
  ·rw[if_neg e,List.getElem?_eq_none (by simp;omega),List.getElem?_eq_none (by omega)]
theorem sS_push(A:List (Int×Int))(z t:Int):sS ((z,t)::A)=upd (sS A) A.length z∧sT ((z,t)::A)=upd (sT A) A.length t:=by
 constructor<;>funext j
 ·unfold sS upd
  rw[List.reverse_cons,getD_snoc,List.length_reverse];split<;>rfl
 ·unfold sT upd
  rw[List.reverse_cons,getD_snoc,List.length_reverse];split<;>rfl
theorem upd_upd(S:Nat→Int)(k:Nat)(a b:Int):upd (upd S k a) k b=upd S k b:=by
 funext j
 unfold upd;split<;>rfl
theorem sS_top(A:List (Int×Int))(z t:Int):sS ((z,t)::A) A.length=z∧sT ((z,t)::A) A.length=t:=by
 rw[(sS_push A z t).1,(sS_push A z t).2];simp[upd]
theorem sST_eq{A B:List (Int×Int)}(hl:A.length=B.length)(h:∀j,j<A.length→sS A j=sS B j∧sT A j=sT B j):A=B:=by
 have:A.reverse=B.reverse:=by
  refine List.ext_getElem (by simp[hl]) (fun j h1 h2=>?_);have hj:=h j (by simpa using h1);unfold sS sT List.getD at hj;rw[List.getElem?_eq_getElem h1,List.getElem?_eq_getElem h2]at hj;exact Prod.ext hj.1 hj.2
 simpa using this
theorem mstep_length(A:List (Int×Int))(z t:Int):(mstep A z t).length≤A.length+1:=by
 unfold mstep;split
 ·omega
 ·split
  ·simp
  ·split<;>simp
theorem mstk_length(l t:List Int)(k:Nat):(mstk l t k).length≤k:=by
 induction k with
 |zero=>simp[mstk]
 |succ k ih=>have:=mstep_length (mstk l t k) (nth l k) (nth t k);rw[mstk];omega
theorem mstk_bd(l t:List Int)(hs:sized l)(ht:∀k,k<l.length→ -1000000≤nth t k∧nth t k≤1000000)(k:Nat)(hk:k≤l.length):∀x∈mstk l t k,2≤x.1∧x.1≤(60:Int) ^ k∧ -1000000≤x.2∧x.2≤1000000:=by
 induction k with
 |zero=>intro x hx;cases hx
 |succ k ih=>
  have i0:=ih (by omega);have h1:=hs k (by omega);have h2:=ht k (by omega);have p60:(60:Int) ^ (k+1)=60 ^ k*60:=Int.pow_succ 60 k;have pos:(1:Int)≤60 ^ k:=by
   have:(0:Int)<60 ^ k:=Int.pow_pos (by omega);omega
  have up:∀x∈mstk l t k,2≤x.1∧x.1≤(60:Int) ^ (k+1)∧ -1000000≤x.2∧x.2≤1000000:=fun x hx=>by
   have:=i0 x hx;omega
  rw[mstk];unfold mstep;split
  ·exact up
  ·split
   ·intro x hx
    simp at hx;rw[hx];refine⟨by show 2≤nth l k;omega,by show nth l k≤_;omega,h2.1,h2.2⟩
   ·rename_i z0 t0 rest hA
    rw[hA]at up i0;split
    ·intro x hx
     rcases List.mem_cons.1 hx with rfl|hx
     ·have j0:=i0 (z0,t0) (List.mem_cons_self ..)
      have hm:=Int.mul_le_mul j0.2.1 h1.2 (by omega) (by omega);have hm2:=Int.mul_le_mul j0.1 h1.1 (by omega) (by have:=j0.1;omega);refine⟨by show 2≤z0*nth l k;simp only at hm2;omega,by show z0*nth l k≤_;rw[p60];exact hm,h2.1,h2.2⟩
     ·exact up x (List.mem_cons_of_mem _ hx)
    ·intro x hx
     rcases List.mem_cons.1 hx with rfl|hx
     ·refine⟨by show 2≤nth l k;omega,by show nth l k≤_;omega,h2.1,h2.2⟩
     ·exact up x hx
def stC(A:List (Int×Int))(f:Int):Array Value:= #[.int .i64 (sS A 0),.int .i64 (sS A 1),.int .i64 (sS A 2),.int .i64 (sS A 3),.int .i64 (A.length:Int),.int .i64 f,.int .i64 (sT A 0),.int .i64 (sT A 1),.int .i64 (sT A 2),.int .i64 (sT A 3)]
theorem mul_in{z y:Int}(h1:1≤z)(h2:z≤60)(h3: -1000000≤y∧y≤1000000):IntKind.i64.wrap (z*y)=z*y:=by
 have a:z*y≤z*1000000:=Int.mul_le_mul_of_nonneg_left h3.2 (by omega);have b:z*(-1000000)≤z*y:=Int.mul_le_mul_of_nonneg_left h3.1 (by omega);simp[IntKind.wrap,IntKind.signed,IntKind.bits];omega
theorem xmerged_calls(l t:List Int)(f:Int)(w:World)(hs:sized l)(hl:l.length≤4)(ht:∀k,k<l.length→ -1000000≤nth t k∧nth t k≤1000000):Calls Tryz.prog 96 #[.agg (grC l t f).toArray] w fun e w'=>e=.returned (.agg (stC (mstk l t l.length) f))∧Kp0 w w':=by
 have HBD:=hid (mstk_bd l t hs ht);have HLE:=hid (mstk_length l t);have HS:=hid hs;have HT:=hid ht;unfold grC;obtain⟨n,hn⟩:∃n,l.length=n:=⟨_,rfl⟩;rw[hn];have HN:=hid hn;have hn4:n≤4:=by omega
 obtain⟨hB0,hB1,hB2⟩:=three_heap w (grB l t f n) zGB (grG (fun _=>0) (fun _=>0) f 0);have HB0:=hid hB0;have HB1:=hid hB1;have HB2:Hid ((((w.alloc (grB l t f n)).alloc zGB).alloc (grG (fun _=>0) (fun _=>0) f 0)).heap[w.heap.size+1+1]? =some (grG (sS []) (sT []) f 0)):=hid hB2;have HK:Hid (Kp0 w (((w.alloc (grB l t f n)).alloc zGB).alloc (grG (fun _=>0) (fun _=>0) f 0))):=(((Kp.refl _ w).alloc _).alloc _).alloc _;clear hs hl ht hn hB0 hB1 hB2;go_enter Tryz.func96,Tryz.ntmps96
 go_wp2
 obtain⟨b0,hb0⟩:∃b0,w.heap.size=b0:=⟨_,rfl⟩;rw[hb0]at HB0 HB1 HB2⊢;have HBB:=hid hb0;clear hb0;generalize ((w.alloc (grB l t f n)).alloc zGB).alloc (grG (fun _=>0) (fun _=>0) f 0)=W at HB0 HB1 HB2 HK⊢
 go_loopw [4,5,6,7,14] (fun _ _ _ _ i w'=>∃k:Nat,k≤n∧i=.int .i64 k∧Hid (Kp0 w w')∧Hid (w'.heap[b0]? =some (grB l t f n))∧Hid (w'.heap[b0+1]? =some zGB)∧Hid (w'.heap[b0+1+1]? =some (grG (sS (mstk l t k)) (sT (mstk l t k)) f (mstk l t k).length))) (fun _ _ _ _ i _=>n-(intOf i).toNat)
 case atStart=>exact⟨0,Nat.zero_le _,rfl,HK,HB0,HB1,HB2⟩
 case round=>
  clear HB0 HB1 HB2 HK;obtain⟨k,hk,rfl,HK,HB0,HB1,HB2⟩:=hrel;by_cases hlt:k<n
  ·have y1:=gr_sizes HB0.out k (by omega)
   have y2:=gr_steps HB0.out k (by omega);obtain⟨s1,s2⟩:=HS.out k (by have:=HN.out;omega);have HTK:=hid (HT.out k (by have:=HN.out;omega));have HAB:=hid (HBD.out k (by have:=HN.out;omega));have HAL:=hid (HLE.out k);have HNX:Hid (mstk l t (k+1)=mstep (mstk l t k) (nth l k) (nth t k)):=rfl;have k1:(k:Int)<4:=by omega
   have em:=mul_in s1 s2 HTK.out;have HKD:Hid (∀j:Nat,Kp0 wr (wr.drewN j)):=hid (fun j=>(Kp.refl (fun _=>False) wr).drewN j);generalize nth l k=z at*;generalize nth t k=y at*;generalize mstk l t k=A at*;by_cases hz1:z=1
   ·have d1:(z==1)=true:=by simp[hz1]
    have HE:Hid (mstk l t (k+1)=A):=hid (by rw[HNX.out];unfold mstep;rw[if_pos hz1]);clear hz1;go_wp2
    go_quiet (fail)
    go_wp2
    go_roundw
    case rel=>exact⟨k+1,by omega,by go_num,hid (HK.out.trans (HKD.out _)),hid ((HKD.out _).heap HB0.out),hid ((HKD.out _).heap HB1.out),hid (by rw[HE.out];exact(HKD.out _).heap HB2.out)⟩
    case measure=>simp[intOf];omega
   ·have d1:(z==1)=false:=by simp[hz1]
    go_wp2
    go_quiet (fail)
    have HB0':=hid ((HKD.out nq).heap HB0.out);have HB1':=hid ((HKD.out nq).heap HB1.out);have HB2':=hid ((HKD.out nq).heap HB2.out);have HK':=hid (HK.out.trans (HKD.out nq));generalize wr.drewN nq=W2 at HB0' HB1' HB2' HK'⊢;clear HB0 HB1 HB2 HK HKD y1 y2;cases A with
    |nil=>
     have y4:W2.cell? ⟨b0+1+1,4,none⟩=some (.int .i64 0):=(cells10 HB2'.out).2.2.2.2.1;have HE:Hid (mstk l t (k+1)=[(z,y)]):=hid (by rw[HNX.out];unfold mstep;rw[if_neg hz1]);have HP:=hid (xpush_calls (b0+1+1) z y (sS []) (sT []) f 0 W2 (by omega) HB2'.out);have HST:Hid (stepOf z y=y):=hid (by unfold stepOf;rw[if_neg hz1]);rw[HST.out]at HP;clear hz1
     go_wp2_with fail
     refine HP.out.mono ?_;rintro e w3 ⟨rfl,hk3,hb3⟩;have HB3:Hid (w3.heap[b0+1+1]? =some (grG (sS [(z,y)]) (sT [(z,y)]) f 1)):=hid (by rw[(sS_push [] z y).1,(sS_push [] z y).2];exact hb3);have HB03:=hid (hk3.heap HB0'.out (by omega));have HB13:=hid (hk3.heap HB1'.out (by omega));have HK3:Hid (Kp0 w w3):=hid (Kp.trans HK'.out hk3 (fun i hi e=>by have:=HBB.out;omega));clear hk3 hb3;go_wp2
     go_roundw
     case rel=>exact⟨k+1,by omega,by go_num,HK3,HB03,HB13,hid (by rw[HE.out];exact HB3.out)⟩
     case measure=>simp[intOf];omega
    |cons x R=>
     obtain⟨z0,t0⟩:=x;have hRl:R.length+1≤k:=by have:=HAL.out;simpa using this
     have y4:W2.cell? ⟨b0+1+1,4,none⟩=some (.int .i64 ((R.length:Int)+1)):=(cells10 HB2'.out).2.2.2.2.1;have y5:=grG_step HB2'.out R.length (by omega);have y6:=grG_cell HB2'.out R.length (by omega);rw[(sS_top R z0 t0).2]at y5;rw[(sS_top R z0 t0).1]at y6;obtain⟨b1,b2,-,-⟩:=HAB.out (z0,t0) (List.mem_cons_self ..);simp only at b1 b2;have b3:z0≤12960000:=by
      have:(60:Int) ^ k≤12960000:=by
       have hk4:k≤4:=by omega
       match k,hk4 with
       |0,_=>decide
       |1,_=>decide
       |2,_=>decide
       |3,_=>decide
       |4,_=>decide
      omega
     have ez:IntKind.i64.wrap (z0*z)=z0*z:=by
      have h1:=Int.mul_le_mul b3 s2 (by omega) (by omega);have h2:=Int.mul_nonneg (show(0:Int)≤z0 by omega) (show(0:Int)≤z by omega);simp[IntKind.wrap,IntKind.signed,IntKind.bits];omega
     have e1:(R.length:Int)+1-1=(R.length:Int):=by omega
     have e2:IntKind.i64.wrap (R.length:Int)=(R.length:Int):=by simp[IntKind.wrap,IntKind.signed,IntKind.bits];omega
     have r4:(R.length:Int)<4:=by omega
     by_cases ht0:t0=z*y
     ·have d2:(t0==z*y)=true:=by simp[ht0]
      have HE:Hid (mstk l t (k+1)=(z0*z,y)::R):=hid (by rw[HNX.out];unfold mstep;rw[if_neg hz1];simp only;rw[if_pos ht0]);have HP:=hid (xput_calls (b0+1+1) R.length (z0*z) y (sS ((z0,t0)::R)) (sT ((z0,t0)::R)) f (R.length+1) W2 (by omega) HB2'.out);have HST:Hid (stepOf (z0*z) y=y):=hid (by
       have:=Int.mul_le_mul b1 s1 (by omega) (by omega);unfold stepOf;rw[if_neg (by omega)])
      rw[HST.out]at HP;clear hz1 ht0 b1 b2 b3;generalize hr:R.length=r at*;have HRL:=hid hr;clear hr
      go_wp2_with fail
      refine HP.out.mono ?_;rintro e w3 ⟨rfl,hk3,hb3⟩;have HB3:Hid (w3.heap[b0+1+1]? =some (grG (sS ((z0*z,y)::R)) (sT ((z0*z,y)::R)) f (R.length+1))):=hid (by
       rw[(sS_push R (z0*z) y).1,(sS_push R (z0*z) y).2];rw[(sS_push R z0 t0).1,(sS_push R z0 t0).2,HRL.out,upd_upd,upd_upd]at hb3;rw[HRL.out];exact hb3)
      have HB03:=hid (hk3.heap HB0'.out (by omega));have HB13:=hid (hk3.heap HB1'.out (by omega));have HK3:Hid (Kp0 w w3):=hid (Kp.trans HK'.out hk3 (fun i hi e=>by have:=HBB.out;omega));clear hk3 hb3;go_wp2
      go_roundw
      case rel=>exact⟨k+1,by omega,by go_num,HK3,HB03,HB13,hid (by rw[HE.out];exact HB3.out)⟩
      case measure=>simp[intOf];omega
     ·have d2:(t0==z*y)=false:=by simp[ht0]
      have HE:Hid (mstk l t (k+1)=(z,y)::(z0,t0)::R):=hid (by rw[HNX.out];unfold mstep;rw[if_neg hz1];simp only;rw[if_neg ht0]);have HP:=hid (xpush_calls (b0+1+1) z y (sS ((z0,t0)::R)) (sT ((z0,t0)::R)) f (R.length+1) W2 (by omega) HB2'.out);have HST:Hid (stepOf z y=y):=hid (by unfold stepOf;rw[if_neg hz1]);rw[HST.out]at HP;clear hz1 ht0 b1 b2 b3;generalize hr:R.length=r at*;have HRL:=hid hr;clear hr
      go_wp2_with fail
      refine HP.out.mono ?_;rintro e w3 ⟨rfl,hk3,hb3⟩;have HB3:Hid (w3.heap[b0+1+1]? =some (grG (sS ((z,y)::(z0,t0)::R)) (sT ((z,y)::(z0,t0)::R)) f ((z0,t0)::R).length.succ)):=hid (by
       rw[(sS_push ((z0,t0)::R) z y).1,(sS_push ((z0,t0)::R) z y).2];simp only[List.length_cons,HRL.out];exact hb3)
      have HB03:=hid (hk3.heap HB0'.out (by omega));have HB13:=hid (hk3.heap HB1'.out (by omega));have HK3:Hid (Kp0 w w3):=hid (Kp.trans HK'.out hk3 (fun i hi e=>by have:=HBB.out;omega));clear hk3 hb3;go_wp2
      go_roundw
      case rel=>exact⟨k+1,by omega,by go_num,HK3,HB03,HB13,hid (by rw[HE.out];exact HB3.out)⟩
      case measure=>simp[intOf];omega
  ·obtain rfl:k=n:=by omega
   obtain⟨c0,c1,c2,c3,c4,c5,c6,c7,c8,c9⟩:=cells10 HB2.out
   go_wp2_with (refine wpList_storeRow _ rfl 107 (.tmp 2) _ rfl (b0+1) _ _ rfl rfl HB1.out Tryz.szGrid rfl (all10 rfl rfl rfl rfl rfl rfl rfl rfl rfl rfl) ?_;intro w5 hB5 hK5)
   (try simp only[Exit.inBlock,Exit.then])
   refine bodyPost_ret (res_cell rfl _ _ (b0+1) _ _ _ _ rfl hB5 Tryz.underlying107 rfl Tryz.szGrid) rfl ?_;exact⟨rfl,Kp.trans HK.out hK5 (fun i hi e=>by have:=HBB.out;omega)⟩
end Go.Proofs.YticbbncdcannlaaGreat
namespace Go.Proofs.YticbbncdcannlaaGreat
open Go.RowKit Go.Maps Go.ChangeMaps Go.MapKept
theorem str_okB{l t s:List Int}{f M:Int}(hg:GOk l t f M)(hs:okShape s)(h:stretchB l s=true):GOk s (strT l t s) f M:=by
 obtain⟨h1,h2⟩:=(stretchB_iff l s).1 h;refine hg.view hs (by unfold strT;rw[mkL_length];exact Nat.le_refl _) (fun k hk hk1=>?_) (meantOf l s) (fun i hi=>meantOf_in l s i hg.shape.2.1 h1 h2 hi) (fun i hi=>by rw[str_dot h1 hg.unit hg.shape.2.1 i]);unfold strT;rw[mkL_nth,if_pos hk];split
 ·rename_i hd
  have h3:=h2 (k-(s.length-l.length)) (by omega);rw[show s.length-l.length+(k-(s.length-l.length))=k by omega]at h3;exact hg.unit _ (by omega) (by omega)
 ·rfl
theorem xvaluesNoB(p:Nat)(w:World)(x:XA)(s:List Int)(hl:x.l.length≤4)(hs:s.length≤4)(hb:stretchB x.l s=false):Calls Tryz.prog 134 #[.pointer (some ⟨p,0,none⟩),.agg x.cs,.agg (shC s).toArray] w fun e w'=>e=.returned (.tuple #[.slice none 0 0,.bool false])∧Kp0 w w':=by
 have HS:Hid (∀W,Calls Tryz.prog 127 #[.agg (grC x.l x.t x.f).toArray,.agg (shC s).toArray] W fun e w'=>e=.returned (.tuple #[.agg zG,.bool false])∧Kp0 W w'):=fun W=>by
  refine(xgstr_calls x.l x.t s x.f W hl hs).mono ?_;rintro e w' ⟨h|h,hk⟩
  ·rw[hb]at h;exact absurd h.1 (by simp)
  ·exact⟨h.2,hk⟩
 unfold XA.cs;unfold zG at HS;unfold shC at HS⊢;unfold grC at HS;generalize s.length=m at*;generalize x.l.length=n at*;clear hb hl hs;go_enter Tryz.func134,Tryz.ntmps134
 go_wp2_with fail
 refine(HS.out _).mono ?_;rintro e w2 ⟨rfl,hw⟩;have HK:Hid (Kp0 w w2):=Kp0.trans (((Kp.refl _ w).alloc _).alloc _) hw;clear hw;go_wp2
 go_ret2
 exact⟨rfl,HK.out.alloc _⟩
theorem xvaluesOverB{T:Tags}{o:Nat}{w:World}{p:Nat}{L:XL}{X:XS}(h:XAt T o w p L X)(x:XA)(hk:x.kind=1)(hg0:GOk x.l x.t x.f X.c1.length)(s:List Int)(hs:okShape s)(hb:stretchB x.l s=true)(hw:∀j,j<X.c1.length→IntKind.i64.wrap (nth X.c1 j)=nth X.c1 j):Calls Tryz.prog 134 #[.pointer (some ⟨p,0,none⟩),.agg x.cs,.agg (shC s).toArray] w fun e w'=>∃v,e=.returned (.tuple #[v,.bool true])∧NewI w w' v ((gc s (strT x.l x.t s) x.f s.length).map fun c=>nth X.c1 c.toNat):=by
 have HS:Hid (∀W,Calls Tryz.prog 127 #[.agg (grC x.l x.t x.f).toArray,.agg (shC s).toArray] W fun e w'=>e=.returned (.tuple #[.agg (grC s (strT x.l x.t s) x.f).toArray,.bool true])∧Kp0 W w'):=fun W=>by
  refine(xgstr_calls x.l x.t s x.f W hg0.shape.1 hs.1).mono ?_;rintro e w' ⟨h|h,hk⟩
  ·exact⟨h.2,hk⟩
  ·rw[hb]at h;exact absurd h.1 (by simp)
 have hg:=str_okB hg0 hs hb;obtain⟨t,ht⟩:∃t,t=strT x.l x.t s:=⟨_,rfl⟩;rw[←ht]at hg HS⊢;have hlen:(gc s t x.f s.length).length≤1000000:=by
  have h1:=gc_length s t x.f hg.shape.2.1 s.length (Nat.le_refl _);rw[List.take_length]at h1;have:=hg.shape.2.2;omega
 have HC:Hid (∀W,Kp0 w W→Calls Tryz.prog 60 #[.agg (grC s t x.f).toArray] W fun e w'=>∃v,e=.returned v∧(NewI W w' v (gc s t x.f s.length)∧Kp0 w w')):=fun W k=>(xcells_calls s t x.f _ W hg).mono (fun e w' ⟨v,h1,h2⟩=>⟨v,h1,h2,by obtain⟨_,_,_,_,h3,_⟩:=h2;exact Kp0.trans k h3⟩)
 generalize hP:gc s t x.f s.length=P at*;have hin:=hg.inside;rw[hP]at hin;have HR:Hid (∀W vp W0,Kp0 w W→NewI W0 W vp P→Calls Tryz.prog 195 #[.pointer (some ⟨L.q1,0,none⟩),vp] W fun e w'=>∃v,e=.returned v∧NewI w w' v (P.map fun c=>nth X.c1 c.toNat)):=fun W vp W0 k hn=>by
  have hr0:RdI W vp P:=by obtain⟨_,_,rfl,h1,_⟩:=hn;exact h1.rd
  refine(xReadB_calls (h.kp0 k).s1 P vp hr0 hin hw hlen).mono ?_;rintro e w' ⟨v,rfl,ao,c,rfl,h1,h2,h3⟩;exact⟨_,rfl,ao,c,rfl,h1,Kp0.trans k h2,fun b hb=>Nat.le_trans k.size (h3 b hb)⟩
 generalize (P.map fun c=>nth X.c1 c.toNat)=V at*;have HO:Hid (∀W,Kp0 w W→Calls Tryz.prog 62 #[.pointer (some ⟨p,0,none⟩),.int .i64 1] W fun e w'=>e=.returned (.tuple #[L.inV 1,.bool true])∧w'=W):=fun W k=>xstoreOf_calls (h.kp0 k) 1 (by omega)
 rw[inVB]at HO;unfold XA.cs;rw[hk];unfold grC at HC HS;unfold shC at HS⊢;generalize s.length=m at*;generalize x.l.length=n at*;have HMR:=hid (Tryz.mReadB ⟨L.q1,0,none⟩);clear h hg hg0 hw hlen hP hin hb hs ht;go_enter Tryz.func134,Tryz.ntmps134
 go_wp2_with fail
 obtain⟨hB0,hB1⟩:=two_heap w (.cells #[.int .i64 1,.int .i64 x.buf,.int .i64 (nth x.l 0),.int .i64 (nth x.l 1),.int .i64 (nth x.l 2),.int .i64 (nth x.l 3),.int .i64 (n:Int),.int .i64 x.f,.int .i64 (nth x.t 0),.int .i64 (nth x.t 1),.int .i64 (nth x.t 2),.int .i64 (nth x.t 3),.bool x.ro] 109) (shB s m);have HB0:=hid hB0;clear hB0 hB1;refine(HS.out _).mono ?_;rintro e w2 ⟨rfl,hw⟩;have HK:Hid (Kp0 w w2):=Kp0.trans (((Kp.refl _ w).alloc _).alloc _) hw;have HB2:=hid (hw.heap HB0.out);clear hw HB0;obtain⟨b0,hb0⟩:∃b0,w.heap.size=b0:=⟨_,rfl⟩;rw[hb0]at HB2⊢;clear hb0;have hlt:b0<w2.heap.size:=lt_of_heap HB2.out;have y0:=(cells13 HB2.out).1
 go_wp2_with fail
 refine(HO.out _ (HK.out.alloc _)).mono ?_;rintro e w3 ⟨rfl,hw⟩;obtain rfl:=hw.symm;clear hw;have HB:Hid ((w2.alloc (grB s t x.f m)).heap[w2.heap.size]? =some (grB s t x.f m)):=heap_alloc_new w2 _;have HKW:Hid (Kp0 w (w2.alloc (grB s t x.f m))):=HK.out.alloc _;clear y0;go_wp2
 generalize w2.alloc (grB s t x.f m)=W at HB HKW⊢;generalize w2.heap.size=b at HB⊢;obtain⟨z0,z1,z2,z3,z4,z5,z6,z7,z8,z9⟩:=cells10 HB.out;have HKD:Hid (Kp0 w W.drew):=HKW.out.drew;have hna:=Tryz.nReadB ⟨L.q1,0,none⟩
 go_region_law ((first
  |(refine step_call1 (by rfl) 60 (.tmp 29) _ (by rfl) _ Tryz.func60 (by kernel_rfl) (by kernel_rfl) _ (by rfl) (HC.out _ HKD.out) ?_;intro v7 w7 hR;obtain⟨hn7,hk7⟩:=hR)
  |(refine step_invoke1 (by rfl) (.tmp 33) "Read" (.tmp 30) _ (by rfl) _ v7 (by rfl) (by rfl) _ _ (HMR.out v7 w7) (HR.out w7 v7 W.drew hk7 hn7) ?_;intro v8 w8 hR8)))
 all_goals
  have HR8:=hid hR8;clear hR8 hn7 hk7;go_wp2
  go_ret2
  exact⟨_,rfl,HR8.out⟩
end Go.Proofs.YticbbncdcannlaaGreat
namespace Go.Proofs.YticbbncdcannlaaGreat
open Go.RowKit
def skT(l:List Int)(k j:Nat):Int:=if j<k then nth l j else nth l (j+1)
def skTo(l:List Int)(k c j:Nat):Int:=if j<c then skT l k j else 0
def skC(k o:Nat):Nat:=if o≤k then o else o-1
theorem skTo_zero(l:List Int)(k:Nat):skTo l k 0=fun _=>0:=by
 funext j
 simp[skTo]
theorem skTo_step(l:List Int)(k o:Nat)(h:o≠k):upd (skTo l k (skC k o)) (skC k o) (nth l o)=skTo l k (skC k (o+1))∧skC k (o+1)=skC k o+1:=by
 have e1:skC k (o+1)=skC k o+1:=by unfold skC;split<;>split<;>omega
 refine⟨?_,e1⟩;rw[e1]
 funext j
 unfold upd skTo;by_cases hj:j=skC k o
 ·rw[if_pos hj,if_pos (by omega)]
  unfold skT;unfold skC at hj;split at hj
  ·rw[if_pos (by omega),hj]
  ·rw[if_neg (by omega),show j+1=o by omega]
 ·rw[if_neg hj]
  by_cases h2:j<skC k o
  ·rw[if_pos h2,if_pos (by omega)]
  ·rw[if_neg h2,if_neg (by omega)]
theorem skC_same(k:Nat):skC k (k+1)=skC k k:=by unfold skC;split<;>split<;>omega
theorem skC_end{k n:Nat}(h:k<n):skC k n=n-1:=by unfold skC;rw[if_neg (by omega)]
theorem foldS_length(l:List Int)(k:Nat)(h:k<l.length):(foldS l k).length=l.length-1:=by simp[foldS];omega
theorem foldS_nth(l:List Int)(k j:Nat):nth (foldS l k) j=skT l k j:=by
 unfold foldS skT nth List.getD;rw[List.getElem?_append,List.length_take];by_cases h:j<k
 ·rw[if_pos h]
  by_cases h2:j<l.length
  ·rw[if_pos (by omega),List.getElem?_take_of_lt h]
  ·rw[if_neg (by omega),List.getElem?_drop,List.getElem?_eq_none (by omega),List.getElem?_eq_none (by omega)]
 ·rw[if_neg h,if_neg (by omega),List.getElem?_drop]
  by_cases h2:k<l.length
  ·rw[show k+1+(j-min k l.length)=j+1 by omega]
  ·rw[List.getElem?_eq_none (by omega),List.getElem?_eq_none (by omega)]
theorem skTo_end{l:List Int}{k n:Nat}(hl:l.length≤n)(hk:k<n)(j:Nat):skTo l k (n-1) j=nth (foldS l k) j:=by
 rw[foldS_nth];unfold skTo;by_cases h:j<n-1
 ·rw[if_pos h]
 ·rw[if_neg h]
  unfold skT;rw[if_neg (by omega),nth_out (by omega)]
theorem skTo_grG(l t:List Int)(k:Nat)(f:Int):grG (skTo l k (skC k 0)) (skTo t k (skC k 0)) f (skC k 0)=grG (fun _=>0) (fun _=>0) f 0:=by rw[show skC k 0=0 by unfold skC;simp,skTo_zero,skTo_zero]
theorem xlayer_any(l t:List Int)(f i:Int)(n k:Nat)(w:World)(hn4:n≤4)(hk:k<n)(HU:Hid (∀j,j<n→nth l j=1→nth t j=0))(hi:0≤i∧i≤60)(hf:0≤f∧f≤1000000)(ht: -1000000≤nth t k∧nth t k≤1000000):Calls Tryz.prog 100 #[.agg #[.int .i64 (nth l 0),.int .i64 (nth l 1),.int .i64 (nth l 2),.int .i64 (nth l 3),.int .i64 (n:Int),.int .i64 f,.int .i64 (nth t 0),.int .i64 (nth t 1),.int .i64 (nth t 2),.int .i64 (nth t 3)],.int .i64 (k:Int),.int .i64 i] w fun e w'=>e=.returned (.agg #[.int .i64 (skTo l k (n-1) 0),.int .i64 (skTo l k (n-1) 1),.int .i64 (skTo l k (n-1) 2),.int .i64 (skTo l k (n-1) 3),.int .i64 ((n-1:Nat):Int),.int .i64 (f+i*nth t k),.int .i64 (skTo t k (n-1) 0),.int .i64 (skTo t k (n-1) 1),.int .i64 (skTo t k (n-1) 2),.int .i64 (skTo t k (n-1) 3)])∧Kp0 w w':=by
 obtain⟨hB0,hB1⟩:=two_heap w (grB l t f n) zGB;have HB0:=hid hB0;have HB1:=hid hB1;have HK:Hid (Kp0 w ((w.alloc (grB l t f n)).alloc zGB)):=((Kp.refl _ w).alloc _).alloc _;have HSZ:Hid (((w.alloc (grB l t f n)).alloc zGB).heap.size=w.heap.size+2):=hid (by simp);clear hB0 hB1;have k4:(k:Int)<4:=by omega
 have hk4:k<4:=by omega
 have p1: -60000000≤i*nth t k∧i*nth t k≤60000000:=by
  have h1:i*nth t k≤i*1000000:=Int.mul_le_mul_of_nonneg_left ht.2 hi.1;have h2:i*(-1000000)≤i*nth t k:=Int.mul_le_mul_of_nonneg_left ht.1 hi.1;omega
 have e1:IntKind.i64.wrap (i*nth t k)=i*nth t k:=by simp[IntKind.wrap,IntKind.signed,IntKind.bits];omega
 have e2:IntKind.i64.wrap (f+i*nth t k)=f+i*nth t k:=by simp[IntKind.wrap,IntKind.signed,IntKind.bits];omega
 obtain⟨F,hF⟩:∃F,f+i*nth t k=F:=⟨_,rfl⟩;rw[hF];have e2:IntKind.i64.wrap (f+i*nth t k)=F:=by rw[e2,hF]
 have HF:=hid hF;have x1:=gr_steps HB0.out k hk4;obtain⟨-,-,-,-,-,x2,-,-,-,-⟩:=cells10 HB0.out;have x3:((w.alloc (grB l t f n)).alloc zGB).cell? ⟨w.heap.size,4,none⟩=some (.int .i64 (n:Int)):=by rw[cell_of_row _ _ _ _ _ _ HB0.out];rfl
 clear hF;go_enter Tryz.func100,Tryz.ntmps100
 go_wp2
 obtain⟨b0,hb0⟩:∃b0,w.heap.size=b0:=⟨_,rfl⟩;have HBB:=hid hb0;rw[hb0]at HB0 HB1 HSZ x1 x2 x3⊢;generalize (w.alloc (grB l t f n)).alloc zGB=W at HB0 HB1 HK HSZ x1 x2 x3⊢;clear hb0;generalize nth t k=tk at*;have hbl:b0<W.heap.size:=lt_of_heap HB0.out;have hbn:¬b0=W.heap.size:=by omega
 go_region
 rw[HF.out];have HG2:Hid ((W.alloc (grG (fun _=>0) (fun _=>0) F 0)).drew.heap[W.heap.size]? =some (grG (fun _=>0) (fun _=>0) F 0)):=heap_alloc_new W _;have HKD:Hid (Kp0 W (W.alloc (grG (fun _=>0) (fun _=>0) F 0)).drew):=Kp0.drew ((Kp.refl _ W).alloc _);have HG0:Hid ((W.alloc (grG (fun _=>0) (fun _=>0) F 0)).drew.heap[b0]? =some (grB l t f n)):=HKD.out.heap HB0.out;have HG1:Hid ((W.alloc (grG (fun _=>0) (fun _=>0) F 0)).drew.heap[b0+1]? =some zGB):=HKD.out.heap HB1.out;have HKW:Hid (Kp0 w (W.alloc (grG (fun _=>0) (fun _=>0) F 0)).drew):=HK.out.trans HKD.out;have h12:b0+1<W.heap.size:=lt_of_heap HB1.out;clear x1 x2 x3 HB0 HB1 HK HKD HSZ e1 e2 p1 ht hbn;generalize (W.alloc (grG (fun _=>0) (fun _=>0) F 0)).drew=W2 at HG2 HG0 HG1 HKW⊢;generalize W.heap.size=b2 at HG2 hbl h12⊢;have x3:W2.cell? ⟨b0,4,none⟩=some (.int .i64 (n:Int)):=by rw[cell_of_row _ _ _ _ _ _ HG0.out];rfl
 have hne:¬b0=b2:=by omega
 go_wp2
 go_loopw [8,22] (fun _ a w'=>∃o:Nat,o≤n∧a=.int .i64 o∧Hid (Kp0 w w')∧Hid (w'.heap[b0]? =some (grB l t f n))∧Hid (w'.heap[b0+1]? =some zGB)∧Hid (w'.heap[b2]? =some (grG (skTo l k (skC k o)) (skTo t k (skC k o)) F (skC k o)))) (fun _ a _=>n-(intOf a).toNat)
 case atStart=>exact⟨0,Nat.zero_le _,rfl,HKW,HG0,HG1,hid (by rw[skTo_grG];exact HG2.out)⟩
 case round=>
  clear HG2 HG0 HG1 HKW x3;obtain⟨o,ho,rfl,HK,HG0,HG1,HG2⟩:=hrel;by_cases hlt:o<n
  ·have o4:(o:Int)<4:=by omega
   have o1:(o:Int)<(n:Int):=by omega
   by_cases hok:o=k
   ·have bk:((o:Int)!=(k:Int))=false:=by simp;omega
    have HG2':Hid (wr.heap[b2]? =some (grG (skTo l k (skC k (o+1))) (skTo t k (skC k (o+1))) F (skC k (o+1)))):=hid (by
     have e:skC k (o+1)=skC k o:=by rw[hok,skC_same]
     rw[e];exact HG2.out)
    clear hok;go_wp2
    go_roundw
    case rel=>exact⟨o+1,by omega,by go_num,HK,HG0,HG1,HG2'⟩
    case measure=>simp[intOf];omega
   ·have bk:((o:Int)!=(k:Int))=true:=by simp;omega
    have s1:=gr_sizes HG0.out o (by omega);have s2:=gr_steps HG0.out o (by omega);have HP:Hid (∀W,W.heap[b2]? =some (grG (skTo l k (skC k o)) (skTo t k (skC k o)) F (skC k o))→Calls Tryz.prog 133 #[.pointer (some ⟨b2,0,none⟩),.int .i64 (nth l o),.int .i64 (nth t o)] W fun e w'=>∃v,e=.returned v∧(v=.tuple #[]∧Kp (fun x=>x=b2) W w'∧w'.heap[b2]? =some (grG (skTo l k (skC k (o+1))) (skTo t k (skC k (o+1))) F (skC k (o+1))))):=fun W hb=>by
     have hu:stepOf (nth l o) (nth t o)=nth t o:=by
      unfold stepOf;split
      ·rename_i h;rw[HU.out o hlt h]
      ·rfl
     have hc4:skC k o<4:=by unfold skC;split<;>omega
     refine(xpush_calls b2 (nth l o) (nth t o) _ _ F _ W hc4 hb).mono ?_;rintro e w' ⟨rfl,h1,h2⟩;rw[hu]at h2;have e1:=skTo_step l k o hok;have e2:=skTo_step t k o hok;rw[e1.1,e2.1,←e1.2]at h2;exact⟨_,rfl,rfl,h1,h2⟩
    clear hok;generalize nth l o=x at*;generalize nth t o=y at*;go_wp2
    go_region_law ((refine step_call3 (by rfl) 133 (.tmp 7) (.tmp 32) (.tmp 36) _ (by rfl) _ Tryz.func133 (by kernel_rfl) (by kernel_rfl) _ _ _ (by rfl) (by rfl) (by rfl) (HP.out _ HG2.out) ?_;intro v7 w7 hR;obtain⟨rfl,hK7,hB7⟩:=hR))
    all_goals
     have k7:Kp (fun x=>x=b2) wr w7:=Kp.trans ((Kp.refl _ wr).drew) hK7 (fun _ _ e=>e);have HK7:Hid (Kp0 w w7):=Kp.trans HK.out k7 (fun i hi e=>by have:=HBB.out;omega);have HG0':=hid (k7.heap HG0.out (by omega));have HG1':=hid (k7.heap HG1.out (by omega));have HG2':=hid hB7;clear hK7 hB7 k7 s1 s2;go_wp2
     go_roundw
     case rel=>exact⟨o+1,by omega,by go_num,HK7,HG0',HG1',HG2'⟩
     case measure=>simp[intOf];omega
  ·obtain rfl:o=n:=by omega
   have HE:=hid HG2.out;rw[skC_end hk]at HE;obtain⟨y0,y1,y2,y3,y4,y5,y6,y7,y8,y9⟩:=cells10 HE.out
   go_wp2_with (refine wpList_storeRow _ rfl 107 (.tmp 6) _ rfl (b0+1) _ _ rfl rfl HG1.out Tryz.szGrid rfl (all10 rfl rfl rfl rfl rfl rfl rfl rfl rfl rfl) ?_;intro w5 hB5 hK5)
   (try simp only[Exit.inBlock,Exit.then])
   refine bodyPost_ret (res_cell rfl _ _ (b0+1) _ _ _ _ rfl hB5 Tryz.underlying107 rfl Tryz.szGrid) rfl ?_;exact⟨rfl,Kp.trans HK.out hK5 (fun i hi e=>by have:=HBB.out;omega)⟩
theorem xlayer_calls(l t:List Int)(f M:Int)(k:Nat)(i:Int)(w:World)(hg:GOk l t f M)(hk:k<l.length)(hi:0≤i∧i<nth l k)(hf:0≤f∧f≤1000000)(ht: -1000000≤nth t k∧nth t k≤1000000):Calls Tryz.prog 100 #[.agg (grC l t f).toArray,.int .i64 (k:Int),.int .i64 i] w fun e w'=>e=.returned (.agg (grC (foldS l k) (foldS t k) (f+i*nth t k)).toArray)∧Kp0 w w':=by
 have h6:=hg.shape.2.1 k hk;have:=xlayer_any l t f i l.length k w hg.shape.1 hk (hid hg.unit) (by omega) hf ht;unfold grC;rw[foldS_length l k hk];simp only[skTo_end (Nat.le_refl l.length) hk,skTo_end hg.steps hk]at this;exact this
end Go.Proofs.YticbbncdcannlaaGreat
namespace Go.Proofs.YticbbncdcannlaaGreat
open Go.RowKit Go.Maps Go.ChangeMaps Go.MapKept
theorem str_okI{l t s:List Int}{f M:Int}(hg:GOk l t f M)(hs:okShape s)(h:stretchB l s=true):GOk s (strT l t s) f M:=by
 obtain⟨h1,h2⟩:=(stretchB_iff l s).1 h;refine hg.view hs (by unfold strT;rw[mkL_length];exact Nat.le_refl _) (fun k hk hk1=>?_) (meantOf l s) (fun i hi=>meantOf_in l s i hg.shape.2.1 h1 h2 hi) (fun i hi=>by rw[str_dot h1 hg.unit hg.shape.2.1 i]);unfold strT;rw[mkL_nth,if_pos hk];split
 ·rename_i hd
  have h3:=h2 (k-(s.length-l.length)) (by omega);rw[show s.length-l.length+(k-(s.length-l.length))=k by omega]at h3;exact hg.unit _ (by omega) (by omega)
 ·rfl
theorem xvaluesOverI{T:Tags}{o:Nat}{w:World}{p:Nat}{L:XL}{X:XS}(h:XAt T o w p L X)(x:XA)(hk:x.kind=2)(hg0:GOk x.l x.t x.f X.c2.length)(s:List Int)(hs:okShape s)(hb:stretchB x.l s=true)(hw:∀j,j<X.c2.length→IntKind.i64.wrap (nth X.c2 j)=nth X.c2 j):Calls Tryz.prog 134 #[.pointer (some ⟨p,0,none⟩),.agg x.cs,.agg (shC s).toArray] w fun e w'=>∃v,e=.returned (.tuple #[v,.bool true])∧NewI w w' v ((gc s (strT x.l x.t s) x.f s.length).map fun c=>nth X.c2 c.toNat):=by
 have HS:Hid (∀W,Calls Tryz.prog 127 #[.agg (grC x.l x.t x.f).toArray,.agg (shC s).toArray] W fun e w'=>e=.returned (.tuple #[.agg (grC s (strT x.l x.t s) x.f).toArray,.bool true])∧Kp0 W w'):=fun W=>by
  refine(xgstr_calls x.l x.t s x.f W hg0.shape.1 hs.1).mono ?_;rintro e w' ⟨h|h,hk⟩
  ·exact⟨h.2,hk⟩
  ·rw[hb]at h;exact absurd h.1 (by simp)
 have hg:=str_okI hg0 hs hb;obtain⟨t,ht⟩:∃t,t=strT x.l x.t s:=⟨_,rfl⟩;rw[←ht]at hg HS⊢;have hlen:(gc s t x.f s.length).length≤1000000:=by
  have h1:=gc_length s t x.f hg.shape.2.1 s.length (Nat.le_refl _);rw[List.take_length]at h1;have:=hg.shape.2.2;omega
 have HC:Hid (∀W,Kp0 w W→Calls Tryz.prog 60 #[.agg (grC s t x.f).toArray] W fun e w'=>∃v,e=.returned v∧(NewI W w' v (gc s t x.f s.length)∧Kp0 w w')):=fun W k=>(xcells_calls s t x.f _ W hg).mono (fun e w' ⟨v,h1,h2⟩=>⟨v,h1,h2,by obtain⟨_,_,_,_,h3,_⟩:=h2;exact Kp0.trans k h3⟩)
 generalize hP:gc s t x.f s.length=P at*;have hin:=hg.inside;rw[hP]at hin;have HR:Hid (∀W vp W0,Kp0 w W→NewI W0 W vp P→Calls Tryz.prog 215 #[.pointer (some ⟨L.q2,0,none⟩),vp] W fun e w'=>∃v,e=.returned v∧NewI w w' v (P.map fun c=>nth X.c2 c.toNat)):=fun W vp W0 k hn=>by
  have hr0:RdI W vp P:=by obtain⟨_,_,rfl,h1,_⟩:=hn;exact h1.rd
  refine(xReadI_calls (h.kp0 k).s2 P vp hr0 hin hw hlen).mono ?_;rintro e w' ⟨v,rfl,ao,c,rfl,h1,h2,h3⟩;exact⟨_,rfl,ao,c,rfl,h1,Kp0.trans k h2,fun b hb=>Nat.le_trans k.size (h3 b hb)⟩
 generalize (P.map fun c=>nth X.c2 c.toNat)=V at*;have HO:Hid (∀W,Kp0 w W→Calls Tryz.prog 62 #[.pointer (some ⟨p,0,none⟩),.int .i64 2] W fun e w'=>e=.returned (.tuple #[L.inV 2,.bool true])∧w'=W):=fun W k=>xstoreOf_calls (h.kp0 k) 2 (by omega)
 rw[inVI]at HO;unfold XA.cs;rw[hk];unfold grC at HC HS;unfold shC at HS⊢;generalize s.length=m at*;generalize x.l.length=n at*;have HMR:=hid (Tryz.mReadI ⟨L.q2,0,none⟩);clear h hg hg0 hw hlen hP hin hb hs ht;go_enter Tryz.func134,Tryz.ntmps134
 go_wp2_with fail
 obtain⟨hB0,hB1⟩:=two_heap w (.cells #[.int .i64 2,.int .i64 x.buf,.int .i64 (nth x.l 0),.int .i64 (nth x.l 1),.int .i64 (nth x.l 2),.int .i64 (nth x.l 3),.int .i64 (n:Int),.int .i64 x.f,.int .i64 (nth x.t 0),.int .i64 (nth x.t 1),.int .i64 (nth x.t 2),.int .i64 (nth x.t 3),.bool x.ro] 109) (shB s m);have HB0:=hid hB0;clear hB0 hB1;refine(HS.out _).mono ?_;rintro e w2 ⟨rfl,hw⟩;have HK:Hid (Kp0 w w2):=Kp0.trans (((Kp.refl _ w).alloc _).alloc _) hw;have HB2:=hid (hw.heap HB0.out);clear hw HB0;obtain⟨b0,hb0⟩:∃b0,w.heap.size=b0:=⟨_,rfl⟩;rw[hb0]at HB2⊢;clear hb0;have hlt:b0<w2.heap.size:=lt_of_heap HB2.out;have y0:=(cells13 HB2.out).1
 go_wp2_with fail
 refine(HO.out _ (HK.out.alloc _)).mono ?_;rintro e w3 ⟨rfl,hw⟩;obtain rfl:=hw.symm;clear hw;have HB:Hid ((w2.alloc (grB s t x.f m)).heap[w2.heap.size]? =some (grB s t x.f m)):=heap_alloc_new w2 _;have HKW:Hid (Kp0 w (w2.alloc (grB s t x.f m))):=HK.out.alloc _;clear y0;go_wp2
 generalize w2.alloc (grB s t x.f m)=W at HB HKW⊢;generalize w2.heap.size=b at HB⊢;obtain⟨z0,z1,z2,z3,z4,z5,z6,z7,z8,z9⟩:=cells10 HB.out;have HKD:Hid (Kp0 w W.drew):=HKW.out.drew;have hna:=Tryz.nReadI ⟨L.q2,0,none⟩
 go_region_law ((first
  |(refine step_call1 (by rfl) 60 (.tmp 29) _ (by rfl) _ Tryz.func60 (by kernel_rfl) (by kernel_rfl) _ (by rfl) (HC.out _ HKD.out) ?_;intro v7 w7 hR;obtain⟨hn7,hk7⟩:=hR)
  |(refine step_invoke1 (by rfl) (.tmp 33) "Read" (.tmp 30) _ (by rfl) _ v7 (by rfl) (by rfl) _ _ (HMR.out v7 w7) (HR.out w7 v7 W.drew hk7 hn7) ?_;intro v8 w8 hR8)))
 all_goals
  have HR8:=hid hR8;clear hR8 hn7 hk7;go_wp2
  go_ret2
  exact⟨_,rfl,HR8.out⟩
end Go.Proofs.YticbbncdcannlaaGreat
namespace Go.Proofs.YticbbncdcannlaaGreat
open Go.RowKit
theorem laidAt_get(cur:Array Value)(o:Nat)(cs:List Value)(h:o+cs.length≤cur.size)(j:Nat):(laidAt cur o cs)[j]? =if o≤j∧j<o+cs.length then cs[j-o]? else cur[j]? :=by
 unfold laidAt;rw[List.getElem?_toArray];have h1:(cur.toList.take o).length=o:=by simp;omega
 by_cases ha:j<o
 ·rw[if_neg (by omega),List.append_assoc,List.getElem?_append_left (by omega),List.getElem?_take_of_lt ha,Array.getElem?_toList]
 ·by_cases hb:j<o+cs.length
  ·rw[if_pos (by omega),List.append_assoc,List.getElem?_append_right (by omega),h1,List.getElem?_append_left (by omega)]
  ·rw[if_neg (by omega),List.getElem?_append_right (by rw[List.length_append];omega),List.length_append,h1,List.getElem?_drop,show o+cs.length+(j-(o+cs.length))=j by omega,Array.getElem?_toList]
def TenRows(cur:Array Value)(R:Nat→List Value)(N:Nat):Prop:=∀q,q<N→∀c,c<10→cur[q*10+c]? =(R q)[c]?
theorem TenRows.more{cur:Array Value}{R:Nat→List Value}{N:Nat}(h:TenRows cur R N)(hs:N*10+10≤cur.size)(hl:(R N).length=10):TenRows (laidAt cur (N*10) (R N)) R (N+1):=fun q hq c hc=>by
 rw[laidAt_get _ _ _ (by omega)];by_cases e:q=N
 ·subst e
  rw[if_pos (by omega),show q*10+c-q*10=c by omega]
 ·rw[if_neg (by omega)]
  exact h q (by omega) c hc
theorem info_grid:∃i z,Tryz.prog.info? 107=some i∧i.zero=some z∧i.size=10∧i.bytes≤100:=by
 have h:(Tryz.prog.info? 107).map (fun i=>(i.zero.isSome,i.size,decide (i.bytes≤100)))=some (true,10,true):=by kernel_rfl
 cases hi:Tryz.prog.info? 107 with
 |none=>rw[hi]at h;simp at h
 |some i=>
  rw[hi]at h;simp at h;obtain⟨h1,h2,h3⟩:=h;obtain⟨z,hz⟩:=Option.isSome_iff_exists.1 h1;exact⟨i,z,rfl,hz,h2,h3⟩
theorem mk_grids(N:Nat)(hN:N≤60)(W:World):∃cur:Array Value,cur.size=N*10∧(Instr.makeSlice 140 (.int .i64 (N:Int)) (.int .i64 (N:Int))).run Tryz.prog W=.ok (.slice (some ⟨W.heap.size,0,none⟩) N N) (W.alloc (.cells cur 107)):=by
 obtain⟨i,z,h1,h2,h3,h4⟩:=info_grid;have hb:(i.bytes:Int)*(N:Int)≤281474976710656:=by
  have:i.bytes*N≤100*60:=Nat.mul_le_mul h4 hN;omega
 have:=run_make (P:=Tryz.prog) W 140 107 i z Tryz.underlying140 h1 h2 .i64 .i64 N N (by omega) (Int.le_refl _) hb (by omega);rw[h3]at this;exact⟨_,size_madeCells _ _,this⟩
theorem xLayers_no(l t:List Int)(f axis:Int)(w:World)(_hl:l.length≤4)(h:axis<0∨(l.length:Int)≤axis):Calls Tryz.prog 69 #[.agg (grC l t f).toArray,.int .i64 axis] w fun e w'=>e=.returned (.tuple #[.slice none 0 0,.bool false])∧Kp0 w w':=by
 have HA:Hid (∀W,Calls Tryz.prog 93 #[.agg (shC l).toArray,.int .i64 axis] W fun e w'=>e=.returned (.bool false)∧Kp0 W w'):=hid (fun W=>by
  have:=xhasAxis_calls l axis W;rw[show(decide (0≤axis)&&decide (axis<(l.length:Int)))=false by simp;omega]at this;exact this)
 unfold shC at HA;unfold grC;generalize l.length=n at*;clear h;go_enter Tryz.func69,Tryz.ntmps69
 go_wp2_with fail
 refine(HA.out _).mono ?_;rintro e w2 ⟨rfl,hw⟩;have HK:Hid (Kp0 w w2):=Kp0.trans ((Kp.refl _ w).alloc _) hw;clear hw;go_wp2
 go_ret2
 exact⟨rfl,HK.out⟩
theorem xLayers_yes(l t:List Int)(f:Int)(k N:Nat)(w:World)(M:Int)(hg:GOk l t f M)(hk:k<l.length)(hN:nth l k=(N:Int))(hf:0≤f∧f≤1000000)(ht: -1000000≤nth t k∧nth t k≤1000000):Calls Tryz.prog 69 #[.agg (grC l t f).toArray,.int .i64 (k:Int)] w fun e w'=>∃g,e=.returned (.tuple #[.slice (some ⟨g,0,none⟩) N N,.bool true])∧Kp0 w w'∧w.heap.size≤g∧∃cur,w'.heap[g]? =some (.cells cur 107 (0,0))∧cur.size=N*10∧TenRows cur (fun q=>grC (foldS l k) (foldS t k) (f+(q:Int)*nth t k)) N:=by
 have h6:=hg.shape.2.1 k hk;have hN6:1≤N∧N≤60:=by omega
 have HA:Hid (∀W,Calls Tryz.prog 93 #[.agg (shC l).toArray,.int .i64 (k:Int)] W fun e w'=>e=.returned (.bool true)∧Kp0 W w'):=hid (fun W=>by
  have:=xhasAxis_calls l (k:Int) W;rw[show(decide (0≤(k:Int))&&decide ((k:Int)<(l.length:Int)))=true by simp;omega]at this;exact this)
 obtain⟨R,hR⟩:∃R:Nat→List Value,R=fun q:Nat=>grC (foldS l k) (foldS t k) (f+(q:Int)*nth t k):=⟨_,rfl⟩
 have HLY:Hid (∀W (q:Nat),q<N→Calls Tryz.prog 100 #[.agg (grC l t f).toArray,.int .i64 (k:Int),.int .i64 (q:Int)] W fun e w'=>e=.returned (.agg (R q).toArray)∧Kp0 W w'):=hid (fun W q hq=>by
  rw[hR];exact xlayer_calls l t f M k q W hg hk (by omega) hf ht)
 have HRL:Hid (∀q,(R q).length=10∧(R q).toArray.all (·.oneCell')=true):=hid (fun q=>by
  rw[hR];exact⟨rfl,all10 rfl rfl rfl rfl rfl rfl rfl rfl rfl rfl⟩)
 rw[←hR];have hk4:k<4:=by have:=hg.shape.1;omega
 have k4:(k:Int)<4:=by omega
 have HNK:=hid hN;unfold shC at HA;unfold grC at HLY⊢;generalize l.length=n at*;have HB0:Hid ((w.alloc (grB l t f n)).heap[w.heap.size]? =some (grB l t f n)):=heap_alloc_new w _;have HK0:Hid (Kp0 w (w.alloc (grB l t f n))):=(Kp.refl _ w).alloc _;clear hg hk hN h6 hR hf ht;go_enter Tryz.func69,Tryz.ntmps69
 go_wp2_with fail
 refine(HA.out _).mono ?_;rintro e w2 ⟨rfl,hw⟩;have HK:Hid (Kp0 w w2):=HK0.out.trans hw;have HB2:=hid (hw.heap HB0.out);have HSZ:Hid (w.heap.size<w2.heap.size):=hid (lt_of_heap HB2.out);clear hw HK0 HB0;obtain⟨b0,hb0⟩:∃b0,w.heap.size=b0:=⟨_,rfl⟩;have HW0:=hid hb0;rw[hb0]at HB2 HSZ⊢;clear hb0;obtain⟨cur0,hc0,hmk⟩:=mk_grids N hN6.2 w2;have s1:=gr_sizes HB2.out k hk4;rw[HNK.out]at s1;go_wp2
 obtain⟨g,hgz⟩:∃g,w2.heap.size=g:=⟨_,rfl⟩;have HG0:Hid ((w2.alloc (.cells cur0 107)).heap[g]? =some (.cells cur0 107 (0,0))):=hid (by rw[←hgz];exact heap_alloc_new w2 _);have HB3:Hid ((w2.alloc (.cells cur0 107)).heap[b0]? =some (grB l t f n)):=heap_alloc_keeps HB2.out _;have HK3:Hid (Kp0 w (w2.alloc (.cells cur0 107))):=HK.out.alloc _;have hgb:b0<g:=by have:=HSZ.out;omega
 rw[hgz];have HC0:=hid hc0;clear hmk s1 hgz hc0 HB2 HK HSZ;generalize w2.alloc (.cells cur0 107)=W at*
 go_loopw [7,21] (fun _ a w'=>∃q:Nat,q≤N∧a=.int .i64 q∧Hid (Kp0 w w')∧Hid (w'.heap[b0]? =some (grB l t f n))∧∃cur,Hid (w'.heap[g]? =some (.cells cur 107 (0,0)))∧Hid (cur.size=N*10∧TenRows cur R q)) (fun _ a _=>N-(intOf a).toNat)
 case atStart=>exact⟨0,Nat.zero_le _,rfl,HK3,HB3,cur0,HG0,hid ⟨HC0.out,fun q hq=>by omega⟩⟩
 case round=>
  clear HG0 HB3 HK3;obtain⟨q,hq,rfl,HK,HB,cur,HG,HC⟩:=hrel;by_cases hlt:q<N
  ·have q1:(q:Int)<(N:Int):=by omega
   have q0:(0:Int)≤(q:Int):=by omega
   obtain⟨y0,y1,y2,y3,y4,y5,y6,y7,y8,y9⟩:=cells10 HB.out
   go_wp2_with fail
   refine(HLY.out _ q hlt).mono ?_;rintro e w5 ⟨rfl,hw⟩;have HK5:Hid (Kp0 w w5):=HK.out.trans hw;have HB5:=hid (hw.heap HB.out);have HG5:=hid (hw.heap HG.out);clear hw y0 y1 y2 y3 y4 y5 y6 y7 y8 y9;have HSS:Hid (q*10+(R q).toArray.size≤cur.size):=hid (by rw[HC.out.1];simp[(HRL.out q).1];omega);have HSI:Hid ((Tryz.prog.info? 107).map (·.size)=some (R q).toArray.size):=hid (by rw[Tryz.szGrid];simp[(HRL.out q).1])
   go_wp2_with (refine wpList_storeMid _ rfl 107 107 (.tmp 30) _ rfl g (q*10) cur (R q).toArray rfl rfl HG5.out HSI.out HSS.out (HRL.out q).2 ?_;intro w6 hB6 hK6)
   have HK6:Hid (Kp0 w w6):=Kp.trans HK5.out hK6 (fun i hi e=>by have:=HW0.out;omega);have HB6:=hid (hK6.heap HB5.out (by omega));refine⟨⟨q+1,by omega,by go_num,HK6,HB6,_,hid hB6,hid ⟨?_,?_⟩⟩,by simp[intOf];omega⟩
   ·rw[laidAt_size (by rw[HC.out.1];simp[(HRL.out q).1];omega)]
    exact HC.out.1
   ·exact HC.out.2.more (by rw[HC.out.1];omega) (HRL.out q).1
  ·obtain rfl:q=N:=by omega
   have q1:¬(q:Int)<(q:Int):=by omega
   go_wp2
   go_ret2
   exact⟨g,rfl,HK.out,by have:=HW0.out;omega,cur,HG.out,HC.out.1,HC.out.2⟩
end Go.Proofs.YticbbncdcannlaaGreat
