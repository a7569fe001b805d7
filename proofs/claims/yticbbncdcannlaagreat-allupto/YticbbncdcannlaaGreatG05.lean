import Derived.Deep.RegionHeld3
import Derived.Deep.Cut
import Derived.Test.YticbbncdcannlaaGreatG04
set_option maxRecDepth 100000
set_option maxHeartbeats 8000000
namespace Go.Proofs.YticbbncdcannlaaGreat
open Go.RowKit
theorem Inv.kpZ{R:Tags→Nat→World→Nat→Sp→Prop}(X:XC R){T:Tags}{Z:Nat→Prop}{w w':World}{p:Nat}{S:WS}{L:List SD}(h:Inv R T w p S L)(k:Kp Z w w')(hs:∀b,b<w.heap.size→5≤(T b).1→¬Z b):Inv R T w' p S L:=by
 have k':Kp (fun b=>b<w.heap.size∧Z b) w w':=k.mono (fun b hb e=>⟨hb,e⟩);exact⟨h.wat.kp k' (fun b e z=>hs b z.1 (by omega) z.2),h.sides,fun j e he=>(h.side j e he).kp X (fun _ _=>rfl) k (fun b hb ho z=>hs b hb (by omega) z)⟩
theorem kp_new{Z:Nat→Prop}{w0 w3:World}{x y z:Value}{t:TypeId}(hk:Kp Z (w0.alloc (.cells #[x,y,z] t)).drew w3)(hz:¬Z w0.heap.size):(w3.cell? ⟨w0.heap.size,0,none⟩=some x∧w3.cell? ⟨w0.heap.size,1,none⟩=some y∧w3.cell? ⟨w0.heap.size,2,none⟩=some z)∧(∀j,w3.frozen? ⟨w0.heap.size,j,none⟩=false)∧w0.heap.size<w3.heap.size:=by
 have h:w3.heap[w0.heap.size]? =some (.cells #[x,y,z] t (0,0)):=hk.heap (heap_alloc_new w0 _) hz;exact⟨by simp[World.cell?,h],fun j=>frozen_blk h,lt_of_heap h⟩
theorem three_kp(w:World)(A:Nat)(x y z:Value):Kp (fun b=>b=A) w (((w.setCell ⟨A,0,none⟩ x).setCell ⟨A,1,none⟩ y).setCell ⟨A,2,none⟩ z):=by
 have k0:=Kp.refl (fun b=>b=A) w;have k1:=k0.setCell ⟨A,0,none⟩ x (fun _=>rfl);have k2:=k1.setCell ⟨A,1,none⟩ y (fun _=>rfl);exact k2.setCell ⟨A,2,none⟩ z (fun _=>rfl)
theorem three_cells{w:World}{A:Nat}{x y z x' y' z':Value}(c0:w.cell? ⟨A,0,none⟩=some x)(c1:w.cell? ⟨A,1,none⟩=some y)(c2:w.cell? ⟨A,2,none⟩=some z):(((w.setCell ⟨A,0,none⟩ x').setCell ⟨A,1,none⟩ y').setCell ⟨A,2,none⟩ z').cell? ⟨A,0,none⟩=some x'∧(((w.setCell ⟨A,0,none⟩ x').setCell ⟨A,1,none⟩ y').setCell ⟨A,2,none⟩ z').cell? ⟨A,1,none⟩=some y'∧(((w.setCell ⟨A,0,none⟩ x').setCell ⟨A,1,none⟩ y').setCell ⟨A,2,none⟩ z').cell? ⟨A,2,none⟩=some z':=by
 refine⟨?_,?_,?_⟩
 ·rw[World.cell?_setCell_other _ _ _ _ (by simp),World.cell?_setCell_other _ _ _ _ (by simp)]
  exact World.cell?_setCell_same _ _ _ c0
 ·rw[World.cell?_setCell_other _ _ _ _ (by simp)]
  exact World.cell?_setCell_same _ _ _ (by rw[World.cell?_setCell_other _ _ _ _ (by simp)];exact c1)
 ·exact World.cell?_setCell_same _ _ _ (by rw[World.cell?_setCell_other _ _ _ _ (by simp),World.cell?_setCell_other _ _ _ _ (by simp)];exact c2)
theorem three_inv{R:Tags→Nat→World→Nat→Sp→Prop}(X:XC R){T1 T3:Tags}{W w3:World}{p:Nat}{S:WS}{L:List SD}{A:Nat}{x y z:Value}(h:Inv R T3 w3 p S L)(ht:TagsTo W T1 T3)(hA:A<W.heap.size)(ha:T1 A=(0,0)):Inv R T3 (((w3.setCell ⟨A,0,none⟩ x).setCell ⟨A,1,none⟩ y).setCell ⟨A,2,none⟩ z) p S L:=
 h.kpZ X (three_kp w3 A x y z) (fun b _ h5 e=>by rw[e,ht A hA,ha]at h5;simp at h5)
theorem step_store{R:Tags→Nat→World→Nat→Sp→Prop}(X:XC R){T:Tags}{w:World}{p:Nat}{S:WS}{L:List SD}(hI:Inv R T w p S L){i:Nat}{d:SD}(hd:L[i]? =some d)(hσ:d.σx=d.σy)(oH oA oB oC oD:Int)(a:Option Addr)(n c:Nat)(wh:Bool):Calls Tryz.prog 40 #[.pointer (some ⟨p,0,none⟩),.pointer (some ⟨d.sb,0,none⟩),.agg #[.int .i64 8,.int .i64 oH,.int .i64 oA,.int .i64 oB,.int .i64 oC,.int .i64 oD,.slice a n c,.bool wh]] w fun e w'=>e=.returned (.bool true)∧Went R T w p S L 0 0 w':=by
 have hsd:=hI.side i d hd;have z0:w.cell? ⟨d.sb,0,none⟩=some (.pointer (some ⟨d.px,0,none⟩)):=by simp[World.cell?,hsd.blk]
 have z1:w.cell? ⟨d.sb,1,none⟩=some (.pointer (some ⟨d.py,0,none⟩)):=by simp[World.cell?,hsd.blk]
 have hsb:d.sb<w.heap.size:=lt_of_heap hsd.blk;have HI:=hid hI;have HD:=hid hd;have HX:=hid X;have HS:=hid hσ;have HSD:=hid hsd;clear hI hd hσ hsd X;obtain⟨T1,hT1⟩:∃T1,retag w T (0,0)=T1:=⟨_,rfl⟩;have HT1:Hid (TagsTo w T T1):=hid (by rw[←hT1];exact retag_to w T _);have HNEW:Hid (∀b,w.heap.size≤b→T1 b=(0,0)):=hid (fun b hb=>by rw[←hT1];exact retag_new hb);clear hT1;have HI1:=hid (HI.out.kp0 HX.out HT1.out (Kp0.refl _));obtain⟨ce,us,tp,er,hst⟩:∃ce us tp er,d.σy.store oA=(ce,us,tp,er):=⟨_,_,_,_,rfl⟩;have hsx:d.σx.store oA=(ce,us,tp,er):=by rw[HS.out,hst]
 obtain⟨w0,hw0⟩:∃w0,w.alloc (.cells #[.int .i64 8,.int .i64 oH,.int .i64 oA,.int .i64 oB,.int .i64 oC,.int .i64 oD,.slice a n c,.bool wh] 87)=w0:=⟨_,rfl⟩;have HW0:=hid hw0;have v0:w0.cell? ⟨d.sb,0,none⟩=some (.pointer (some ⟨d.px,0,none⟩)):=by rw[←hw0,World.cell?_alloc_lt _ _ _ hsb];exact z0
 have v1:w0.cell? ⟨d.sb,1,none⟩=some (.pointer (some ⟨d.py,0,none⟩)):=by rw[←hw0,World.cell?_alloc_lt _ _ _ hsb];exact z1
 have v2:w0.cell? ⟨w.heap.size,2,none⟩=some (.int .i64 oA):=by rw[←hw0];simp
 have v00:w0.cell? ⟨w.heap.size,0,none⟩=some (.int .i64 8):=by rw[←hw0];simp
 have hs0:w0.heap.size=w.heap.size+1:=by rw[←hw0];simp
 have HK0:Hid (Kp0 w w0):=hid (by rw[←hw0];exact Kp.alloc (Kp.refl _ _) _);clear hw0;have HXC:Hid (∀W,Kp0 w0 W→Calls Tryz.prog 27 #[.pointer (some ⟨d.px,0,none⟩),.int .i64 oA] W fun e w3=>e=.returned (.tuple #[.agg #[.int .i64 ce,.int .i64 us,.int .i64 tp],.int .i64 er])∧∃T3,TagsTo W T1 T3∧Inv R T3 w3 p S L∧Kp (fun b=>(T1 b).1=10+2*i) W w3∧Kp (fun b=>(T1 b).1=10+2*i) w0 w3):=hid (fun W kW=>by
  have hIW:=HI1.out.kp0 HX.out (fun _ _=>rfl) (HK0.out.trans kW);refine(HX.out.store oA (hIW.side i d HD.out).x).mono ?_;rintro e w3 ⟨rfl,T3,ht3,hr3,hk3⟩;rw[hsx];have h:=hIW.stepX HX.out HD.out ht3 hr3 hk3;rw[set_same _ _ _ (show L[i]? =some {d with σx:=d.σx}from HD.out)]at h;exact⟨rfl,T3,ht3,h,hk3,(Kp.of0 kW).trans hk3 (fun _ _ e=>e)⟩)
 have HYC:Hid (∀T3 W,Inv R T3 W p S L→Calls Tryz.prog 79 #[.pointer (some ⟨d.py,0,none⟩),.int .i64 oA] W fun e w4=>e=.returned (.tuple #[.agg #[.int .i64 ce,.int .i64 us,.int .i64 tp],.int .i64 er])∧Kp0 W w4):=hid (fun T3 W hIW=>by
  refine(yStore_calls (hIW.side i d HD.out).y oA).mono ?_;rintro e w4 ⟨rfl,hk⟩;rw[hst];exact⟨rfl,hk⟩)
 have hnx:Hid (∀b,w.heap.size≤b→¬(T1 b).1=10+2*i):=hid (fun b hb=>by rw[HNEW.out b hb];simp;omega);have hsx':Hid (¬(T1 d.sb).1=10+2*i):=hid (by rw[HT1.out _ hsb,HSD.out.tag];simp;omega);have HS0:=hid hs0;have hs0':w.heap.size<w0.heap.size:=by omega
 have n1:¬w0.heap.size=d.sb:=by omega
 have n2:¬w0.heap.size=w.heap.size:=by omega
 clear hst hsx z0 z1 hs0;go_enter Tryz.func40,Tryz.ntmps40
 go_wp2_with fail
 rw[HW0.out]
 go_cut [7,8]from 17 (fun s7 s8 W=>∃A T3,s7=.pointer (some ⟨A,0,none⟩)∧s8=.int .i64 er∧(∀b,b<w.heap.size→T3 b=T1 b)∧Inv R T3 W p S L∧Kp (fun b=>5≤(T b).1) w W∧W.cell? ⟨A,0,none⟩=some (.int .i64 ce)∧W.cell? ⟨A,1,none⟩=some (.int .i64 us)∧W.cell? ⟨A,2,none⟩=some (.int .i64 tp)∧W.cell? ⟨w.heap.size,2,none⟩=some (.int .i64 oA)∧w.heap.size<W.heap.size)
 case first=>
  go_region_held3 (fun w'=>w'.cell? ⟨d.sb,0,none⟩=some (.pointer (some ⟨d.px,0,none⟩))∧w'.cell? ⟨w.heap.size,2,none⟩=some (.int .i64 oA)) (go_keep)
   ((go_at_call 27;refine(HXC.out _ ?_).mono ?_;(first|exact Kp.refl _ _|exact Kp.drew (Kp.refl _ _)|exact Kp.alloc (Kp.refl _ _) _|exact Kp.drew (Kp.alloc (Kp.refl _ _) _));rintro e w3 ⟨rfl,T3,ht3,hI3,hkW,hk3⟩;
     have x0:=hk3.cell v0 hsx'.out;have x1:=hk3.cell v1 hsx'.out;have x2:=hk3.cell v2 (hnx.out _ (Nat.le_refl _));
     have hs3:w0.heap.size≤w3.heap.size:=hk3.size;
     (first|(have c:=kp_new hkW (hnx.out _ (Nat.le_of_lt hs0'));obtain⟨⟨c0,c1,c2⟩,cf,cl⟩:=c;have cf0:=cf 0;have cf1:=cf 1;have cf2:=cf 2)|skip)))
  ·have HTT:Hid (∀b,b<w.heap.size→T3 b=T1 b):=hid (fun b hb=>ht3 b (by simp;omega))
   have HI5:=hid (hI3.kp0 HX.out (fun _ _=>rfl) (Kp.alloc (Kp.refl (fun _=>False) w3) (.cells #[.int .i64 ce,.int .i64 us,.int .i64 tp] 61)));have HKF:Hid (Kp (fun b=>5≤(T b).1) w (w3.alloc (.cells #[.int .i64 ce,.int .i64 us,.int .i64 tp] 61))):=hid (((Kp.of0 HK0.out).trans hk3 (fun b hb e=>by rw[HT1.out b hb]at e;omega)).alloc _);have hu:Hid ((w3.alloc (.cells #[.int .i64 ce,.int .i64 us,.int .i64 tp] 61)).cell? ⟨w3.heap.size,0,none⟩=some (.int .i64 ce)∧(w3.alloc (.cells #[.int .i64 ce,.int .i64 us,.int .i64 tp] 61)).cell? ⟨w3.heap.size,1,none⟩=some (.int .i64 us)∧(w3.alloc (.cells #[.int .i64 ce,.int .i64 us,.int .i64 tp] 61)).cell? ⟨w3.heap.size,2,none⟩=some (.int .i64 tp)):=hid (by simp);have hy2:=hid ((Kp.alloc (Kp.refl (fun _=>False) w3) (.cells #[.int .i64 ce,.int .i64 us,.int .i64 tp] 61)).cell x2 (fun e=>e))
   go_wp2_with fail
   go_meet
   case rel=>exact⟨w3.heap.size,T3,rfl,rfl,HTT.out,HI5.out,HKF.out,hu.out.1,hu.out.2.1,hu.out.2.2,hy2.out,by simp;omega⟩
  ·have HTT:Hid (∀b,b<w.heap.size→T3 b=T1 b):=hid (fun b hb=>ht3 b (by simp;omega))
   have HI5:=hid (three_inv (x:=.int .i64 ce) (y:=.int .i64 us) (z:=.int .i64 tp) HX.out hI3 ht3 (show w0.heap.size<_ by simp) (HNEW.out w0.heap.size (Nat.le_of_lt hs0')));have HKF:=hid (((Kp.of0 HK0.out:Kp (fun b=>5≤(T b).1) w w0).trans hk3 (fun b hb e=>by rw[HT1.out b hb]at e;omega)).trans (three_kp w3 w0.heap.size (.int .i64 ce) (.int .i64 us) (.int .i64 tp)) (fun b hb e=>by omega));have hu:=hid (three_cells (x':=.int .i64 ce) (y':=.int .i64 us) (z':=.int .i64 tp) c0 c1 c2);have hy2:=hid ((three_kp w3 w0.heap.size (.int .i64 ce) (.int .i64 us) (.int .i64 tp)).cell x2 (fun e=>n2 e.symm));clear c0 c1 c2 cf cf0 cf1 cf2 hkW hk3 hI3 ht3
   go_wp2_with fail
   go_meet
   case rel=>exact⟨w0.heap.size,T3,rfl,rfl,HTT.out,HI5.out,HKF.out,hu.out.1,hu.out.2.1,hu.out.2.2,hy2.out,by simp;omega⟩
 case rest=>
  obtain⟨A,T3,rfl,rfl,hTT,hI5,hKF,u0,u1,u2,y2,hws⟩:=hcut;have hsd:=hI5.side i d HD.out;have y1:wc.cell? ⟨d.sb,1,none⟩=some (.pointer (some ⟨d.py,0,none⟩)):=by simp[World.cell?,hsd.blk]
  have HYC5:Hid (∀W,Kp0 wc W→Calls Tryz.prog 79 #[.pointer (some ⟨d.py,0,none⟩),.int .i64 oA] W fun e w4=>e=.returned (.tuple #[.agg #[.int .i64 ce,.int .i64 us,.int .i64 tp],.int .i64 er])∧Kp0 W w4∧Kp0 wc w4):=hid (fun W kW=>
   (HYC.out T3 W (hI5.kp0 HX.out (fun _ _=>rfl) kW)).mono (by
    rintro e w4 ⟨rfl,hk⟩;exact⟨rfl,hk,kW.trans hk⟩))
  have hAl:A<wc.heap.size:=block_lt_of_cell u0;have hsb5:d.sb<wc.heap.size:=by omega
  have HTT:=hid hTT;have HI5:=hid hI5;have HKF:=hid hKF;clear hTT hI5 hKF hsd HYC HXC v0 v1 v2 v00 n1 n2;have m1:¬wc.heap.size=d.sb:=by omega
  have m2:¬wc.heap.size=w.heap.size:=by omega
  have m3:¬wc.heap.size=A:=by omega
  go_wp2_with fail
  go_cut [9,10]from 17 (fun s9 s10 W=>∃B,s9=.pointer (some ⟨B,0,none⟩)∧s10=.int .i64 er∧Kp0 wc W∧W.cell? ⟨B,0,none⟩=some (.int .i64 ce)∧W.cell? ⟨B,1,none⟩=some (.int .i64 us)∧W.cell? ⟨B,2,none⟩=some (.int .i64 tp))
  case first=>
   go_region_held3 (fun w'=>w'.cell? ⟨d.sb,1,none⟩=some (.pointer (some ⟨d.py,0,none⟩))∧w'.cell? ⟨w.heap.size,2,none⟩=some (.int .i64 oA)) (go_keep)
    ((go_at_call 79;refine(HYC5.out _ ?_).mono ?_;(first|exact Kp.refl _ _|exact Kp.drew (Kp.refl _ _)|exact Kp.alloc (Kp.refl _ _) _|exact Kp.drew (Kp.alloc (Kp.refl _ _) _));rintro e w6 ⟨rfl,hkW6,hk6⟩;
      have x3:=hk6.cell y1;have x4:=hk6.cell y2;
      have hs6:wc.heap.size≤w6.heap.size:=hk6.size;
      (first|(have q:=kp_new hkW6 (fun e=>e);obtain⟨⟨q0,q1,q2⟩,qf,ql⟩:=q;have qf0:=qf 0;have qf1:=qf 1;have qf2:=qf 2)|skip)))
   ·have hu:Hid ((w6.alloc (.cells #[.int .i64 ce,.int .i64 us,.int .i64 tp] 61)).cell? ⟨w6.heap.size,0,none⟩=some (.int .i64 ce)∧(w6.alloc (.cells #[.int .i64 ce,.int .i64 us,.int .i64 tp] 61)).cell? ⟨w6.heap.size,1,none⟩=some (.int .i64 us)∧(w6.alloc (.cells #[.int .i64 ce,.int .i64 us,.int .i64 tp] 61)).cell? ⟨w6.heap.size,2,none⟩=some (.int .i64 tp)):=hid (by simp)
    have HK6:=hid hk6;clear hk6 hkW6
    go_wp2_with fail
    go_meet
    case rel=>exact⟨w6.heap.size,rfl,rfl,Kp.alloc HK6.out _,hu.out.1,hu.out.2.1,hu.out.2.2⟩
   ·have hu:=hid (three_cells (x':=.int .i64 ce) (y':=.int .i64 us) (z':=.int .i64 tp) q0 q1 q2)
    clear q0 q1 q2 qf qf0 qf1 qf2;have HK6:=hid hk6;clear hk6 hkW6
    go_wp2_with fail
    go_meet
    case rel=>exact⟨wc.heap.size,rfl,rfl,Kp.trans HK6.out (three_kp w6 wc.heap.size (.int .i64 ce) (.int .i64 us) (.int .i64 tp)) (fun b hb e=>by omega),hu.out.1,hu.out.2.1,hu.out.2.2⟩
  case rest=>
   obtain⟨B,rfl,rfl,hk7,q0,q1,q2⟩:=hcut;have p0:=hk7.cell u0;have p1:=hk7.cell u1;have p2:=hk7.cell u2;have HK7:=hid hk7;clear hk7 u0 u1 u2 y1 y2 HYC5;go_wp2
   go_ret;refine⟨ret_bool (by simp),T3,S,fun b hb=>by rw[HTT.out b hb,HT1.out b hb],HI5.out.kp0 HX.out (fun _ _=>rfl) HK7.out,by omega,by omega,by omega,?_⟩;exact HKF.out.trans0 HK7.out
def stepSp(σ:Sp)(k oH oA:Int)(xs:List Int):Sp:=
 if k=1 then(σ.make oA xs).1 else if k=2 then(σ.set oH oA xs).1 else if k=4 then(σ.fill oH oA).1 else if k=5 then(σ.free oH).1 else σ
theorem make_len(σ:Sp)(kind:Int)(s:List Int):(σ.make kind s).1.arrs.length≤σ.arrs.length+1∧(σ.make kind s).1.bufs.length≤σ.bufs.length+1:=by
 unfold Sp.make
 repeat' split
 all_goals first|exact⟨Nat.le_succ _,Nat.le_succ _⟩|skip
 obtain⟨h1,h2,-⟩:=puts_arrs (σ.more ⟨kind,σ.place kind (vol s).toNat,((vol s).toNat:Nat)⟩) kind (σ.place kind (vol s).toNat) (fun _=>0) (vol s).toNat;constructor
 ·show(Sp.lay _ _).arrs.length≤_
  unfold Sp.lay;rw[List.length_append,h1];exact Nat.le_refl _
 ·show(Sp.lay _ _).bufs.length≤_
  unfold Sp.lay;show(Sp.puts _ _ _ _ _).bufs.length≤_;rw[h2];simp[Sp.more]
theorem stepSp_len(σ:Sp)(k oH oA:Int)(xs:List Int):(stepSp σ k oH oA xs).arrs.length≤σ.arrs.length+1∧(stepSp σ k oH oA xs).bufs.length≤σ.bufs.length+1:=by
 unfold stepSp;split
 ·exact make_len σ oA xs
 ·split
  ·unfold Sp.set
   split
   ·exact⟨Nat.le_succ _,Nat.le_succ _⟩
   ·split
    ·exact⟨Nat.le_succ _,Nat.le_succ _⟩
    ·split
     ·exact⟨Nat.le_succ _,Nat.le_succ _⟩
     ·rename_i a _ _ _
      obtain⟨h1,h2,-⟩:=put_same σ a.kind (nth a.cells (rank a.shape xs).toNat).toNat (asK a.kind oA);exact⟨by rw[h1];exact Nat.le_succ _,by rw[h2];exact Nat.le_succ _⟩
  ·split
   ·unfold Sp.fill
    split
    ·exact⟨Nat.le_succ _,Nat.le_succ _⟩
    ·split
     ·exact⟨Nat.le_succ _,Nat.le_succ _⟩
     ·rename_i a _ _
      obtain⟨h1,h2,-⟩:=writes_same σ a.kind a.cells (fun _=>asK a.kind oA) a.cells.length;exact⟨by rw[h1];exact Nat.le_succ _,by rw[h2];exact Nat.le_succ _⟩
   ·split
    ·unfold Sp.free
     split
     ·exact⟨Nat.le_succ _,Nat.le_succ _⟩
     ·exact⟨by simp,Nat.le_succ _⟩
    ·exact⟨Nat.le_succ _,Nat.le_succ _⟩
theorem find_some{σ:Sp}{h:Int}{a:Arr}(e:σ.find h=some a):σ.arrs[ix h]? =some (some a):=by
 unfold Sp.find at e;split at e
 ·cases ha:σ.arrs[ix h]? with
  |none=>simp[List.getD,ha]at e
  |some x=>simp[List.getD,ha]at e;rw[e]
 ·simp at e
theorem values_len{σ:Sp}(h:σ.ok)(d:Int):(σ.values d).1.length≤3600:=by
 unfold Sp.values;cases e:σ.find d with
 |none=>simp
 |some a=>
  have ha:=find_ok h (find_some e);have h1:=ha.length;have h2:=ha.shape.2.2;simp only[Sp.valuesOf,List.length_map];omega
theorem look_len{σ:Sp}(h:σ.ok)(d:Int):(σ.look d).2.1.length≤3600:=by
 unfold Sp.look;cases e:σ.find d with
 |none=>simp
 |some a=>
  have ha:=find_ok h (find_some e);have:=ha.shape.1;simp only;omega
theorem Went.kp0{R:Tags→Nat→World→Nat→Sp→Prop}{T:Tags}{w W w':World}{p:Nat}{S:WS}{L:List SD}{nl nt:Nat}(k:Kp0 w W)(h:Went R T W p S L nl nt w'):Went R T w p S L nl nt w':=by
 obtain⟨T',S',h1,h2,h3,h4,h5,h6⟩:=h;exact⟨T',S',fun b hb=>h1 b (Nat.lt_of_lt_of_le hb k.size),h2,h3,h4,h5,(Kp.of0 k).trans h6 (fun _ _ e=>e)⟩
theorem Went.more{R:Tags→Nat→World→Nat→Sp→Prop}{T:Tags}{w w':World}{p:Nat}{S:WS}{L:List SD}{nl nt nl' nt':Nat}(h:Went R T w p S L nl nt w')(a:nl≤nl')(b:nt≤nt'):Went R T w p S L nl' nt' w':=by
 obtain⟨T',S',h1,h2,h3,h4,h5,h6⟩:=h;exact⟨T',S',h1,h2,by omega,by omega,by omega,h6⟩
theorem OpL.kp0{T:Tags}{w W:World}{vL:Value}{a:Option Addr}{n c:Nat}{xs:List Int}(h:OpL T w vL a n c xs)(k:Kp0 w W):OpL T W vL a n c xs:=
 ⟨h.form,h.len,h.rd.kp0 k,fun hx b hb=>⟨Nat.lt_of_lt_of_le (h.tag hx b hb).1 k.size,(h.tag hx b hb).2⟩,h.big⟩
theorem step_calls{R:Tags→Nat→World→Nat→Sp→Prop}(X:XC R){T:Tags}{w:World}{p:Nat}{S:WS}{L:List SD}(hI:Inv R T w p S L){i:Nat}{d:SD}(hd:L[i]? =some d)(hσ:d.σx=d.σy)(k oH oA oB oC oD:Int)(vL:Value)(wh:Bool)(xs:List Int)(a:Option Addr)(n c:Nat)(hL:OpL T w vL a n c xs)(hA:IntKind.i64.wrap oA=oA)(hk:k≤8)(hnl:S.lists.length+4≤1000000000)(hla: -1000000000≤S.last-1)(hnt:S.turned.length+1≤1000000000)(hm:d.σy.arrs.length+1≤100000000)(hb:d.σy.bufs.length+1≤100000000):Calls Tryz.prog 40 #[.pointer (some ⟨p,0,none⟩),.pointer (some ⟨d.sb,0,none⟩),.agg #[.int .i64 k,.int .i64 oH,.int .i64 oA,.int .i64 oB,.int .i64 oC,.int .i64 oD,vL,.bool wh]] w fun e w'=>e=.returned (.bool true)∧Went R T w p S (L.set i {d with σx:=stepSp d.σy k oH oA xs,σy:=stepSp d.σy k oH oA xs}) 4 1 w':=by
 have hyok:d.σy.ok:=(hI.side i d hd).y.1;have hset:L.set i {d with σx:=d.σy,σy:=d.σy}=L:=set_same _ _ _ (by
  rw[hd];congr 1
  cases d
  simp at hσ⊢;exact hσ)
 obtain⟨rfl,hL2,hL3,hL4,hL5⟩:=hL;have hL:OpL T w (.slice a n c) a n c xs:=⟨rfl,hL2,hL3,hL4,hL5⟩;have hI0:∀W,Kp0 w W→Inv R T W p S L:=fun W kW=>hI.kp0 X (fun _ _=>rfl) kW
 by_cases h0:k<1
 ·refine(step_low (w:=w) p d.sb k oH oA oB oC oD a n c wh h0).mono ?_
  rintro e w' ⟨rfl,hk0⟩;refine⟨rfl,?_⟩;have:stepSp d.σy k oH oA xs=d.σy:=by
   unfold stepSp;rw[if_neg (by omega),if_neg (by omega),if_neg (by omega),if_neg (by omega)]
  rw[this,hset];exact⟨T,S,fun _ _=>rfl,hI0 _ hk0,by omega,by omega,by omega,Kp.of0 hk0⟩
 ·have h8:k=1∨k=2∨k=3∨k=4∨k=5∨k=6∨k=7∨k=8:=by omega
  rcases h8 with rfl|rfl|rfl|rfl|rfl|rfl|rfl|rfl
  ·exact step_plain p d.sb 1 oH oA oB oC oD a n c wh _ (by omega) (fun W kW=>(plain_make X (hI0 W kW) hd hσ oH oA oB oC oD _ wh xs a n c (hL.kp0 kW) hA hnt hm hb).mono (by
    rintro e w' ⟨rfl,h⟩;exact⟨rfl,(h.kp0 kW).more (by omega) (by omega)⟩))
  ·exact step_plain p d.sb 2 oH oA oB oC oD a n c wh _ (by omega) (fun W kW=>(plain_set X (hI0 W kW) hd hσ oH oA oB oC oD _ wh xs a n c (hL.kp0 kW) hA hnt hm hb).mono (by
    rintro e w' ⟨rfl,h⟩;exact⟨rfl,(h.kp0 kW).more (by omega) (by omega)⟩))
  ·exact step_plain p d.sb 3 oH oA oB oC oD a n c wh _ (by omega) (fun W kW=>(plain_get X (hI0 W kW) hd hσ oH oA oB oC oD _ wh xs a n c (hL.kp0 kW) hA hnt hm hb).mono (by
    rintro e w' ⟨rfl,h⟩;exact⟨rfl,(h.kp0 kW).more (by omega) (by omega)⟩))
  ·exact step_plain p d.sb 4 oH oA oB oC oD a n c wh _ (by omega) (fun W kW=>(plain_fill X (hI0 W kW) hd hσ oH oA oB oC oD _ wh xs a n c (hL.kp0 kW) hA hnt hm hb).mono (by
    rintro e w' ⟨rfl,h⟩;exact⟨rfl,(h.kp0 kW).more (by omega) (by omega)⟩))
  ·exact step_plain p d.sb 5 oH oA oB oC oD a n c wh _ (by omega) (fun W kW=>(plain_free X (hI0 W kW) hd hσ oH oA oB oC oD _ wh xs a n c (hL.kp0 kW) hA hnt hm hb).mono (by
    rintro e w' ⟨rfl,h⟩;exact⟨rfl,(h.kp0 kW).more (by omega) (by omega)⟩))
  ·refine step_told p d.sb oH oA oB oC oD a n c wh _ (fun W kW=>(told_calls X (hI0 W kW) hd hσ oH (values_len hyok oH) hnl hla).mono ?_)
   rintro e w' ⟨rfl,h⟩;refine⟨rfl,?_⟩;show Went R T w p S (L.set i {d with σx:=d.σy,σy:=d.σy}) 4 1 w';rw[hset];exact(h.kp0 kW).more (by omega) (by omega)
  ·refine step_looked p d.sb oH oA oB oC oD a n c wh _ (fun W kW=>(looked_calls X (hI0 W kW) hd hσ oH (look_len hyok oH) hnl hla).mono ?_)
   rintro e w' ⟨rfl,h⟩;refine⟨rfl,?_⟩;show Went R T w p S (L.set i {d with σx:=d.σy,σy:=d.σy}) 4 1 w';rw[hset];exact(h.kp0 kW).more (by omega) (by omega)
  ·refine(step_store X hI hd hσ oH oA oB oC oD a n c wh).mono ?_
   rintro e w' ⟨rfl,h⟩;refine⟨rfl,?_⟩;show Went R T w p S (L.set i {d with σx:=d.σy,σy:=d.σy}) 4 1 w';rw[hset];exact h.more (by omega) (by omega)
theorem Went.trans{R:Tags→Nat→World→Nat→Sp→Prop}{T T1:Tags}{w w1 w2:World}{p:Nat}{S S1:WS}{L:List SD}{nl nt nl1 nt1:Nat}(h1:TagsTo w T T1)(hs:w.heap.size≤w1.heap.size)(h2:S1.lists.length≤S.lists.length+nl)(h3:S1.turned.length≤S.turned.length+nt)(h4:S.last-nl≤S1.last)(h5:Kp (fun b=>5≤(T b).1) w w1)(h:Went R T1 w1 p S1 L nl1 nt1 w2):Went R T w p S L (nl+nl1) (nt+nt1) w2:=by
 obtain⟨T',S',g1,g2,g3,g4,g5,g6⟩:=h;exact⟨T',S',fun b hb=>by rw[g1 b (by omega),h1 b hb],g2,by omega,by omega,by omega,h5.trans g6 (fun b hb e=>by rw[h1 b hb]at e;exact e)⟩
theorem ended_calls{R:Tags→Nat→World→Nat→Sp→Prop}(X:XC R){T:Tags}{w:World}{p:Nat}{S:WS}{L:List SD}(hI:Inv R T w p S L){i:Nat}{d:SD}(hd:L[i]? =some d)(hσ:d.σx=d.σy)(hnl:S.lists.length+8*(d.σy.arrs.length+2)≤999999990)(hla: -999999990≤S.last-8*((d.σy.arrs.length+2:Nat):Int)):Calls Tryz.prog 41 #[.pointer (some ⟨p,0,none⟩),.pointer (some ⟨d.sb,0,none⟩)] w fun e w'=>e=.returned (.bool true)∧Went R T w p S L (8*(d.σy.arrs.length+2)) 0 w':=by
 have hyok:d.σy.ok:=(hI.side i d hd).y.1;have hmany:=hyok.many;have HI:=hid hI;have HD:=hid hd;have HX:=hid X;have HS:=hid hσ;have HOK:=hid hyok;clear hI hd hσ X hyok;generalize hM:d.σy.arrs.length=M at*;have HM:=hid hM;clear hM;go_enter Tryz.func41,Tryz.ntmps41
 go_wp2
 go_loopw [5] (fun t w'=>∃k:Nat,k≤M+2∧t=.int .i64 k∧Went R T w p S L (8*k) 0 w') (fun t _=>M+2-(intOf t).toNat)
 case atStart=>exact⟨0,by omega,rfl,T,S,fun _ _=>rfl,HI.out,by omega,by omega,by omega,Kp.refl _ _⟩
 case round=>
  obtain⟨k,hk,rfl,hW⟩:=hrel;obtain⟨T1,S1,g1,g2,g3,g4,g5,g6⟩:=hW;have hsd:=g2.side i d HD.out;have z1:wr.cell? ⟨d.sb,1,none⟩=some (.pointer (some ⟨d.py,0,none⟩)):=by simp[World.cell?,hsd.blk]
  obtain⟨hok,LY,hy⟩:=hsd.y;obtain⟨-,-,-,-,-,q6,-⟩:=hy.cells;obtain⟨av,cv,hva,-⟩:=row_any hy.va;rw[hva,HM.out]at q6;have HW:=hid (And.intro g1 (And.intro g2 (And.intro g3 (And.intro g4 (And.intro g5 g6)))));clear g1 g2 hsd hok hy hva;have e1:(0:Int)≤(k:Int):=by omega
  by_cases hlt:k≤M+1
  ·have d1:(k:Int)≤(M:Int)+1:=by omega
   have HT:Hid (∀W,W=wr→Calls Tryz.prog 77 #[.pointer (some ⟨p,0,none⟩),.pointer (some ⟨d.sb,0,none⟩),.int .i64 (k:Int)] W fun e w'=>e=.returned (.bool true)∧Went R T1 wr p S1 L 4 0 w'):=hid (fun W e=>by
    subst e;exact told_calls HX.out HW.out.2.1 HD.out HS.out k (values_len HOK.out k) (by omega) (by omega))
   clear g3 g4 g5 g6
   go_wp2_with fail
   refine(HT.out _ rfl).mono ?_;rintro e w2 ⟨rfl,hW2⟩;obtain⟨T2,S2,u1,u2,u3,u4,u5,u6⟩:=hW2;obtain⟨g1,g2,g3,g4,g5,g6⟩:=HW.out;have HL:Hid (Calls Tryz.prog 78 #[.pointer (some ⟨p,0,none⟩),.pointer (some ⟨d.sb,0,none⟩),.int .i64 (k:Int)] w2 fun e w'=>e=.returned (.bool true)∧Went R T2 w2 p S2 L 4 0 w'):=hid (looked_calls HX.out u2 HD.out HS.out k (look_len HOK.out k) (by omega) (by omega));have HU:=hid (And.intro u1 (And.intro u2 (And.intro u3 (And.intro u4 (And.intro u5 u6)))));clear u1 u2 u3 u4 u5 u6 g1 g2 g3 g4 g5 g6
   go_wp2_with fail
   refine HL.out.mono ?_;rintro e w3 ⟨rfl,hW3⟩;have HW3:=hid hW3;clear hW3;go_wp2
   go_roundw
   case rel=>
    obtain⟨g1,g2,g3,g4,g5,g6⟩:=HW.out;obtain⟨u1,u2,u3,u4,u5,u6⟩:=HU.out;have h2:=Went.trans u1 u6.size u3 u4 u5 u6 HW3.out;have h1:=Went.trans g1 g6.size g3 g4 g5 g6 h2;exact⟨k+1,by omega,by go_num,h1.more (by omega) (by omega)⟩
   case measure=>simp[intOf];omega
  ·have d1:¬(k:Int)≤(M:Int)+1:=by omega
   have HKM:Hid (k=M+2):=hid (by omega);clear g3 g4 g5 g6;go_wp2
   go_loopw [8] (fun t w'=>∃j:Nat,j≤4∧t=.int .i64 j∧Went R T w p S L (8*k) 0 w') (fun t _=>4-(intOf t).toNat)
   case atStart=>
    obtain⟨g1,g2,g3,g4,g5,g6⟩:=HW.out;exact⟨0,by omega,rfl,T1,S1,g1,g2,g3,g4,g5,g6⟩
   case round=>
    obtain⟨j,hj,rfl,hWj⟩:=hrel;obtain⟨T4,S4,u1,u2,u3,u4,u5,u6⟩:=hWj;by_cases hj3:j≤3
    ·have d2:(j:Int)≤3:=by omega
     have HST:=hid (step_store HX.out u2 HD.out HS.out 0 (j:Int) 0 0 0 none 0 0 false);have HU:=hid (And.intro u1 (And.intro u3 (And.intro u4 (And.intro u5 u6))));clear u1 u2 u3 u4 u5 u6
     go_wp2_with fail
     refine HST.out.mono ?_;rintro e w3 ⟨rfl,hW3⟩;have HW3:=hid hW3;clear hW3;go_wp2
     go_roundw
     case rel=>
      obtain⟨u1,u3,u4,u5,u6⟩:=HU.out;exact⟨j+1,by omega,by go_num,(Went.trans u1 u6.size u3 u4 u5 u6 HW3.out).more (by omega) (by omega)⟩
     case measure=>simp[intOf];omega
    ·have d2:¬(j:Int)≤3:=by omega
     have HWF:Hid (Went R T w p S L (8*k) 0 wr):=hid ⟨T4,S4,u1,u2,u3,u4,u5,u6⟩;clear u1 u2 u3 u4 u5 u6;go_wp2
     go_ret;have h:=HWF.out;rw[HKM.out]at h;exact⟨rfl,h⟩
structure OpD where
 k:Int
 oH:Int
 oA:Int
 oB:Int
 oC:Int
 oD:Int
 a:Option Addr
 n:Nat
 c:Nat
 xs:List Int
 wh:Bool
def OpD.cells(o:OpD):List Value:=[.int .i64 o.k,.int .i64 o.oH,.int .i64 o.oA,.int .i64 o.oB,.int .i64 o.oC,.int .i64 o.oD,.slice o.a o.n o.c,.bool o.wh]
structure Script(T:Tags)(w:World)(g off:Nat)(ops:List OpD):Prop where
 cell:∀(j:Nat) (o:OpD),ops[j]? =some o→∀(f:Nat) (v:Value),o.cells[f]? =some v→w.cell? ⟨g,off+j*8+f,none⟩=some v
 tag:ops≠[]→(T g).1=0∧g<w.heap.size
 list:∀(j:Nat) (o:OpD),ops[j]? =some o→OpL T w (.slice o.a o.n o.c) o.a o.n o.c o.xs∧IntKind.i64.wrap o.oA=o.oA
theorem OpL.went{T T':Tags}{w w':World}{vL:Value}{a:Option Addr}{n c:Nat}{xs:List Int}(h:OpL T w vL a n c xs)(ht:TagsTo w T T')(k:Kp (fun b=>5≤(T b).1) w w'):OpL T' w' vL a n c xs:=
 ⟨h.form,h.len,h.rd.kpne k (fun hx b hb e=>by have:=(h.tag hx b hb).2;omega),fun hx b hb=>⟨Nat.lt_of_lt_of_le (h.tag hx b hb).1 k.size,by rw[ht b (h.tag hx b hb).1];exact(h.tag hx b hb).2⟩,h.big⟩
theorem Script.went{T T':Tags}{w w':World}{g off:Nat}{ops:List OpD}(h:Script T w g off ops)(ht:TagsTo w T T')(k:Kp (fun b=>5≤(T b).1) w w'):Script T' w' g off ops:=
 ⟨fun j o ho f v hv=>by
  have hne:ops≠[]:=fun e=>by rw[e]at ho;simp at ho
  exact k.cell (h.cell j o ho f v hv) (by have:=(h.tag hne).1;show¬5≤(T g).1;omega),fun hne=>by
  obtain⟨h1,h2⟩:=h.tag hne;exact⟨by rw[ht g h2];exact h1,Nat.lt_of_lt_of_le h2 k.size⟩,fun j o ho=>⟨(h.list j o ho).1.went ht k,(h.list j o ho).2⟩⟩
def Good(R:Tags→Nat→World→Nat→Sp→Prop)(T:Tags)(w:World)(p:Nat)(S:WS)(L:List SD)(nl nt B:Nat)(w':World):Prop:=
 ∃T' S' L',TagsTo w T T'∧Inv R T' w' p S' L'∧L'.length=L.length∧(∀(i:Nat) (d:SD),L'[i]? =some d→d.σx=d.σy∧d.σy.arrs.length≤B∧d.σy.bufs.length≤B)∧S'.lists.length≤S.lists.length+nl∧S'.turned.length≤S.turned.length+nt∧S.last-nl≤S'.last∧Kp (fun b=>5≤(T b).1) w w'
theorem Inv.sdCells{R:Tags→Nat→World→Nat→Sp→Prop}{T:Tags}{w:World}{p:Nat}{S:WS}{L:List SD}(h:Inv R T w p S L)(hne:0<L.length):∃g cap,w.cell? ⟨p,0,none⟩=some (.slice (some ⟨g,0,none⟩) L.length cap)∧∀(j:Nat) (d:SD),L[j]? =some d→w.cell? ⟨g,j,none⟩=some (.pointer (some ⟨d.sb,0,none⟩)):=by
 have hl:S.sides.length=L.length:=by rw[h.sides,List.length_map]
 obtain⟨q0,-⟩:=h.wat.cells;rcases row_form h.wat.sd with⟨_,h0⟩|⟨g,cap,hv,_,_,hc⟩
 ·omega
 ·rw[hv,hl]at q0
  refine⟨g,cap,q0,fun j d hd=>?_⟩;have hj:j<L.length:=by
   rcases Nat.lt_or_ge j L.length with h'|h'
   ·exact h'
   ·rw[List.getElem?_eq_none h']at hd;cases hd
  rw[hc j (by omega),h.sides,List.map_map,List.getElem?_map,hd];rfl
theorem good_step{R:Tags→Nat→World→Nat→Sp→Prop}{T T1:Tags}{w w1 w2:World}{p:Nat}{S S1:WS}{L L1:List SD}{nl nt B:Nat}{i:Nat}{d:SD}{st:Sp}(h1:TagsTo w T T1)(hL:L1.length=L.length)(hs:∀(i:Nat) (d:SD),L1[i]? =some d→d.σx=d.σy∧d.σy.arrs.length≤B∧d.σy.bufs.length≤B)(h2:S1.lists.length≤S.lists.length+nl)(h3:S1.turned.length≤S.turned.length+nt)(h4:S.last-nl≤S1.last)(h5:Kp (fun b=>5≤(T b).1) w w1)(hst:st.arrs.length≤B+1∧st.bufs.length≤B+1)(h:Went R T1 w1 p S1 (L1.set i {d with σx:=st,σy:=st}) 4 1 w2):Good R T w p S L (nl+4) (nt+1) (B+1) w2:=by
 obtain⟨T',S',g1,g2,g3,g4,g5,g6⟩:=h;refine⟨T',S',_,fun b hb=>by rw[g1 b (by have:=h5.size;omega),h1 b hb],g2,by simp[hL],fun j e he=>?_,by omega,by omega,by omega,h5.trans g6 (fun b hb e=>by rw[h1 b hb]at e;exact e)⟩;rcases set_get L1 i j _ e he with⟨_,rfl⟩|⟨_,he'⟩
 ·exact⟨rfl,hst.1,hst.2⟩
 ·obtain⟨e1,e2,e3⟩:=hs j e he'
  exact⟨e1,by omega,by omega⟩
theorem good_kp0{R:Tags→Nat→World→Nat→Sp→Prop}(X:XC R){T:Tags}{w w1 w2:World}{p:Nat}{S:WS}{L:List SD}{nl nt B:Nat}(h:Good R T w p S L nl nt B w1)(k:Kp0 w1 w2):Good R T w p S L nl nt B w2:=by
 obtain⟨T',S',L',g1,g2,g3,g4,g5,g6,g7,g8⟩:=h;exact⟨T',S',L',g1,g2.kp0 X (fun _ _=>rfl) k,g3,g4,g5,g6,g7,g8.trans0 k⟩
theorem good_more{R:Tags→Nat→World→Nat→Sp→Prop}{T:Tags}{w w1:World}{p:Nat}{S:WS}{L:List SD}{nl nt B nl' nt' B':Nat}(h:Good R T w p S L nl nt B w1)(a:nl≤nl')(b:nt≤nt')(c:B≤B'):Good R T w p S L nl' nt' B' w1:=by
 obtain⟨T',S',L',g1,g2,g3,g4,g5,g6,g7,g8⟩:=h;exact⟨T',S',L',g1,g2,g3,fun i d hd=>⟨(g4 i d hd).1,by have:=(g4 i d hd).2.1;omega,by have:=(g4 i d hd).2.2;omega⟩,by omega,by omega,by omega,g8⟩
theorem play_none{R:Tags→Nat→World→Nat→Sp→Prop}{T:Tags}{w:World}{p:Nat}{S:WS}(hI:Inv R T w p S [])(vs:Value)(most:Int):Calls Tryz.prog 13 #[.pointer (some ⟨p,0,none⟩),vs,.int .i64 most] w fun e w'=>e=.returned (.bool true)∧Kp0 w w':=by
 obtain⟨q0,-⟩:=hI.wat.cells;have hl:S.sides.length=0:=by rw[hI.sides];rfl
 obtain⟨av,cv,hva,-⟩:=row_any hI.wat.sd;rw[hva,hl]at q0;have HW:=hid hI.wat;clear hI hva hl;go_enter Tryz.func13,Tryz.ntmps13
 go_wp2_with fail
 refine(kept_calls HW.out).mono ?_;rintro e w1 ⟨rfl,hk⟩;have HK:=hid hk;clear hk;go_wp2
 go_ret;exact⟨rfl,HK.out⟩
theorem first_make:((Sp.new 10 10).make 2 [2]).2=(1,0):=by decide+kernel
theorem first_set:(((Sp.new 10 10).make 2 [2]).1.set 1 7 [1]).2=0:=by decide+kernel
theorem first_get:((((Sp.new 10 10).make 2 [2]).1.set 1 7 [1]).1.get 1 [1])=(7,0):=by decide+kernel
theorem first_len:(Sp.new 10 10).arrs.length+1≤100000000∧(Sp.new 10 10).bufs.length+1≤100000000:=⟨by simp[Sp.new],by simp[Sp.new]⟩
theorem first_calls{R:Tags→Nat→World→Nat→Sp→Prop}(X:XC R)(w:World):Calls Tryz.prog 11 #[] w fun e w'=>e=.returned (.bool true)∧Kp0 w w':=by
 have HX:=hid X;clear X;go_enter Tryz.func11,Tryz.ntmps11
 go_wp2_with fail
 refine(HX.out.newYes 10 10 w (fun _=>(0,0)) 1000 (by omega) (by omega)).mono ?_;rintro e w1 ⟨p,rfl,T1,ht1,hr1,hk1⟩;obtain⟨T2,hT2⟩:∃T2,retag w1 T1 (0,0)=T2:=⟨_,rfl⟩;have ht2:TagsTo w1 T1 T2:=by rw[←hT2];exact retag_to _ _ _
 have hn2:∀b,w1.heap.size≤b→T2 b=(0,0):=fun b hb=>by rw[←hT2];exact retag_new hb
 have HM:Hid (∀x,Calls Tryz.prog 28 #[.pointer (some ⟨p,0,none⟩),.int .i64 2,.slice (some ⟨w1.heap.size,0,none⟩) 1 1] (w1.alloc (.cells #[.int .i64 x] 3)) fun e w'=>e=.returned (.tuple #[.int .i64 ((Sp.new 10 10).make 2 [x]).2.1,.int .i64 ((Sp.new 10 10).make 2 [x]).2.2])∧Step R T2 1000 (w1.alloc (.cells #[.int .i64 x] 3)) p ((Sp.new 10 10).make 2 [x]).1 w'):=hid (fun x=>
  HX.out.make 2 _ [x] (HX.out.kp (HX.out.tags hr1 ht2) (Kp.alloc (Kp.refl (fun _=>False) _) _) (fun _ _ e=>e)) (RdI.one _ _) (fun b hb=>by
   simp[Value.ownBlock]at hb;subst hb;rw[hn2 _ (Nat.le_refl _)];simp) (by simp) first_len.1 first_len.2)
 have HK1:=hid hk1;have HT1:=hid ht1;have HT2:=hid ht2;have HN2:=hid hn2;clear hr1 hk1 ht1 ht2 hn2 hT2
 go_wp2_with fail
 refine(HM.out 2).mono ?_;rintro e w3 ⟨rfl,T3,ht3,hr3,hk3⟩;rw[show((Sp.new 10 10).make 2 [2]).2.1=1 by rw[first_make],show((Sp.new 10 10).make 2 [2]).2.2=0 by rw[first_make]];have HKK:Hid (Kp0 w w3):=hid (by
  have k2:Kp0 w (w1.alloc (.cells #[.int .i64 2] 3)):=Kp.alloc HK1.out _;have s1:=HK1.out.size;exact Kp.trans k2 hk3 (fun b hb e=>by
   rw[HT2.out b (by omega),HT1.out b hb]at e;simp at e))
 have hs13:w1.heap.size<w3.heap.size:=by have:=hk3.size;simp at this;omega
 have HTB:Hid (∀b,b<w.heap.size→T3 b=(0,0)):=hid (fun b hb=>by
  have s1:=HK1.out.size;rw[ht3 b (by simp;omega),HT2.out b (by omega),HT1.out b hb])
 obtain⟨T4,hT4⟩:∃T4,retag w3 T3 (0,0)=T4:=⟨_,rfl⟩;have ht4:TagsTo w3 T3 T4:=by rw[←hT4];exact retag_to _ _ _
 have hn4:∀b,w3.heap.size≤b→T4 b=(0,0):=fun b hb=>by rw[←hT4];exact retag_new hb
 have HST:Hid (∀x,Calls Tryz.prog 36 #[.pointer (some ⟨p,0,none⟩),.int .i64 1,.int .i64 7,.slice (some ⟨w3.heap.size,0,none⟩) 1 1] (w3.alloc (.cells #[.int .i64 x] 3)) fun e w'=>e=.returned (.int .i64 (((Sp.new 10 10).make 2 [2]).1.set 1 7 [x]).2)∧Step R T4 1000 (w3.alloc (.cells #[.int .i64 x] 3)) p (((Sp.new 10 10).make 2 [2]).1.set 1 7 [x]).1 w'):=hid (fun x=>
  HX.out.set 1 7 _ [x] (HX.out.kp (HX.out.tags hr3 ht4) (Kp.alloc (Kp.refl (fun _=>False) _) _) (fun _ _ e=>e)) (RdI.one _ _) (fun b hb=>by
   simp[Value.ownBlock]at hb;subst hb;rw[hn4 _ (Nat.le_refl _)];simp) (by simp) (by decide))
 have HT4:=hid ht4;clear hr3 hk3 ht3 ht4 hn4 hT4 HM
 go_wp2_with fail
 refine(HST.out 1).mono ?_;rintro e w5 ⟨rfl,T5,ht5,hr5,hk5⟩;rw[first_set];have HKK5:Hid (Kp0 w w5):=hid (by
  have k2:Kp0 w (w3.alloc (.cells #[.int .i64 1] 3)):=Kp.alloc HKK.out _;have s3:=HKK.out.size;exact Kp.trans k2 hk5 (fun b hb e=>by
   rw[HT4.out b (by omega),HTB.out b hb]at e;simp at e))
 have HTB5:Hid (∀b,b<w.heap.size→T5 b=(0,0)):=hid (fun b hb=>by
  have s3:=HKK.out.size;rw[ht5 b (by simp;omega),HT4.out b (by omega),HTB.out b hb])
 obtain⟨T6,hT6⟩:∃T6,retag w5 T5 (0,0)=T6:=⟨_,rfl⟩;have ht6:TagsTo w5 T5 T6:=by rw[←hT6];exact retag_to _ _ _
 have hn6:∀b,w5.heap.size≤b→T6 b=(0,0):=fun b hb=>by rw[←hT6];exact retag_new hb
 have HGT:Hid (∀x,Calls Tryz.prog 37 #[.pointer (some ⟨p,0,none⟩),.int .i64 1,.slice (some ⟨w5.heap.size,0,none⟩) 1 1] (w5.alloc (.cells #[.int .i64 x] 3)) fun e w'=>e=.returned (.tuple #[.int .i64 ((((Sp.new 10 10).make 2 [2]).1.set 1 7 [1]).1.get 1 [x]).1,.int .i64 ((((Sp.new 10 10).make 2 [2]).1.set 1 7 [1]).1.get 1 [x]).2])∧Step R T6 1000 (w5.alloc (.cells #[.int .i64 x] 3)) p (((Sp.new 10 10).make 2 [2]).1.set 1 7 [1]).1 w'):=hid (fun x=>
  HX.out.get 1 _ [x] (HX.out.kp (HX.out.tags hr5 ht6) (Kp.alloc (Kp.refl (fun _=>False) _) _) (fun _ _ e=>e)) (RdI.one _ _) (fun b hb=>by
   simp[Value.ownBlock]at hb;subst hb;rw[hn6 _ (Nat.le_refl _)];simp) (by simp))
 have HT6:=hid ht6;clear hr5 hk5 ht5 ht6 hn6 hT6 HST
 go_wp2_with fail
 refine(HGT.out 1).mono ?_;rintro e w7 ⟨rfl,T7,ht7,hr7,hk7⟩;rw[first_get];have HKK7:Hid (Kp0 w w7):=hid (by
  have k2:Kp0 w (w5.alloc (.cells #[.int .i64 1] 3)):=Kp.alloc HKK5.out _;have s5:=HKK5.out.size;exact Kp.trans k2 hk7 (fun b hb e=>by
   rw[HT6.out b (by omega),HTB5.out b hb]at e;simp at e))
 clear hr7 hk7 ht7 HGT;go_wp2
 go_ret;exact⟨rfl,HKK7.out⟩
theorem Tryz.infoSide:(Tryz.prog.info? 83).map (fun i=>(i.zero,i.size,i.bytes))=some (some (.pointer none),1,8):=by kernel_rfl
def openTags(w:World)(T:Tags):Tags:=fun b=>if b<w.heap.size then T b else if b=w.heap.size then(6,0)else(5,2)
def WS.open'(S:WS)(vsd:Value)(sb:Nat):WS:={S with vsd:=vsd,sides:=S.sides++[sb]}
theorem Inv.opened{R:Tags→Nat→World→Nat→Sp→Prop}(X:XC R){T:Tags}{w w3:World}{p:Nat}{S:WS}{L:List SD}(h:Inv R T w p S L){px py:Nat}{σ:Sp}(hx:R T (10+2*L.length) w px σ)(hy:YRep T (11+2*L.length) w py σ){y:Obj}{g1 cap1:Nat}(own:w3.ownsRow 0 83 1 (.slice (some ⟨g1,0,none⟩) (S.sides.length+1) cap1) (S.sides.length+1) ((S.sides.map fun b=>ptr (some b))++[.pointer (some ⟨w.heap.size,0,none⟩)]))(grow:((w.alloc (.cells #[.pointer (some ⟨px,0,none⟩),.pointer (some ⟨py,0,none⟩)] 85)).alloc y).grownBy w3 S.vsd.ownBlock)(hat:S.vsd.ownBlock=some g1∨g1=w.heap.size+2):Inv R (openTags w T) (w3.setCell ⟨p,0,none⟩ (.slice (some ⟨g1,0,none⟩) (S.sides.length+1) cap1)) p (S.open' (.slice (some ⟨g1,0,none⟩) (S.sides.length+1) cap1) w.heap.size) (L++[⟨w.heap.size,px,py,σ,σ⟩])∧TagsTo w T (openTags w T)∧Kp (fun b=>(T b).1=5) w (w3.setCell ⟨p,0,none⟩ (.slice (some ⟨g1,0,none⟩) (S.sides.length+1) cap1)):=by
 have hw:=h.wat;have hpl:p<w.heap.size:=lt_of_heap hw.blk;have tr:TagsTo w T (openTags w T):=fun b hb=>if_pos hb
 have hpS:some p≠S.vsd.ownBlock:=fun e=>by have:=hw.ts p e.symm;rw[hw.tp]at this;simp at this
 have s3:w.heap.size+2≤w3.heap.size:=by have:=grow.size;simpa using this
 have tg1:openTags w T g1=(5,2):=by
  rcases hat with e|e
  ·rw[tr g1 (own_lt hw.sd e)];exact hw.ts g1 e
  ·unfold openTags;rw[if_neg (by omega),if_neg (by omega)]
 have hg1p:g1≠p:=fun e=>by
  have t:=tr p hpl;have t3:openTags w T p=openTags w T g1:=congrArg _ e.symm;rw[t3,tg1,hw.tp]at t;simp at t
 have k3:Kp (fun b=>T b=(5,2)) w w3:=(((Kp.refl _ _).alloc _).alloc y).grown grow (fun b hb _=>hw.ts b hb);have hK:Kp (fun b=>T b=(5,1)∨T b=(5,2)) w (w3.setCell ⟨p,0,none⟩ (.slice (some ⟨g1,0,none⟩) (S.sides.length+1) cap1)):=(k3.mono (fun b _ e=>.inr e)).setCell _ _ (fun _=>.inl hw.tp);have no:∀(b t:Nat),t≠1→t≠2→T b=(5,t)→¬(T b=(5,1)∨T b=(5,2)):=by
  intro b t h1 h2 ht hh;rw[ht]at hh;simp at hh;omega
 have hsb:(w3.setCell ⟨p,0,none⟩ (.slice (some ⟨g1,0,none⟩) (S.sides.length+1) cap1)).heap[w.heap.size]? =some (.cells #[.pointer (some ⟨px,0,none⟩),.pointer (some ⟨py,0,none⟩)] 85 (0,0)):=by
  rw[heap_setCell_other _ _ _ _ (by show¬w.heap.size=p;omega)];refine grown_heap (heap_alloc_new w _) grow (fun e=>?_);have:=own_lt hw.sd e.symm;omega
 have lift:∀v m,Same w v m→Tagged T v (5,9)→Tagged (openTags w T) v (5,9):=fun v m hs hv b e=>by
  obtain⟨_,_,_,hb⟩:=hs;rw[tr b (hb b e)];exact hv b e
 refine⟨⟨?_,?_,?_⟩,tr,hK.mono (fun b _ e=>by rcases e with e|e<;>rw[e])⟩
 ·exact{
   blk:=by
    have hp3:w3.heap[p]? =w.heap[p]? :=(grow.block p (by simp;omega) hpS).trans ((Below.heap_alloc _ _ p (by simp;omega)).trans (Below.heap_alloc _ _ p hpl));rw[heap_setCell_same w3 p 0 _ _ _ (hp3.trans hw.blk)];rfl
   sd:=by
    have:=ownsRow_setCell_other own (a:=⟨p,0,none⟩) (by simp[Value.ownBlock];exact hg1p) (.slice (some ⟨g1,0,none⟩) (S.sides.length+1) cap1);simpa[WS.open',ptr]using this
   li:=row_kp hw.li hK (fun b hb=>no b 3 (by omega) (by omega) (hw.tl b hb))
   ma:=hw.ma.kp hK (fun b hb=>no b 4 (by omega) (by omega) (hw.tm b hb))
   tu:=row_kp hw.tu hK (fun b hb=>no b 5 (by omega) (by omega) (hw.tt b hb))
   len:=hw.len
   okl:=fun i v m hv hm=>⟨(hw.okl i v m hv hm).1.kp hK (fun b hb=>no b 9 (by omega) (by omega) ((hw.okl i v m hv hm).2 b hb)),lift _ _ (hw.okl i v m hv hm).1 (hw.okl i v m hv hm).2⟩
   okt:=fun i v hv=>⟨(hw.okt i v hv).1.kp hK (fun b hb=>no b 9 (by omega) (by omega) ((hw.okt i v hv).2 b hb)),lift _ _ (hw.okt i v hv).1 (hw.okt i v hv).2⟩
   tp:=by rw[tr p hpl];exact hw.tp
   ts:=by
    intro b hb;simp[WS.open',Value.ownBlock]at hb;subst hb;exact tg1
   tl:=fun b hb=>by rw[tr b (own_lt hw.li hb)];exact hw.tl b hb
   tm:=fun b hb=>by rw[tr b (own_lt hw.ma hb)];exact hw.tm b hb
   tt:=fun b hb=>by rw[tr b (own_lt hw.tu hb)];exact hw.tt b hb
   nl:=hw.nl
   nt:=hw.nt
   l0:=hw.l0
   l1:=hw.l1}
 ·show S.sides++[w.heap.size]=_
  rw[h.sides,List.map_append];rfl
 ·intro i d hd
  rw[List.getElem?_append]at hd;split at hd
  ·exact(h.side i d hd).kp X tr hK (fun b hb ho z=>by rcases z with z|z<;>rw[z]at ho<;>simp at ho<;>omega)
  ·rename_i hge
   cases hj:i-L.length with
   |zero=>
    rw[hj]at hd;simp at hd;subst hd;have hi:i=L.length:=by omega
    subst hi;have k':Kp (fun b=>b<w.heap.size∧(T b=(5,1)∨T b=(5,2))) w _:=hK.mono (fun b hb e=>⟨hb,e⟩);refine⟨hsb,?_,X.kp (X.tags hx tr) k' (fun b e z=>?_),(hy.tags tr).kp k' (fun b e z=>?_)⟩
    ·show openTags w T w.heap.size=(6,0)
     unfold openTags;rw[if_neg (by omega),if_pos rfl]
    ·rw[tr b z.1]at e
     rcases z.2 with z|z<;>rw[z]at e<;>simp at e<;>omega
    ·rw[tr b z.1]at e
     rcases z.2 with z|z<;>rw[z]at e<;>simp at e<;>omega
   |succ j=>rw[hj]at hd;simp at hd
theorem opens_no{R:Tags→Nat→World→Nat→Sp→Prop}(X:XC R)(w:World)(p:Nat)(b i:Int)(hm:mayNew b i=false):Calls Tryz.prog 12 #[.pointer (some ⟨p,0,none⟩),.int .i64 b,.int .i64 i] w fun e w'=>e=.returned (.bool true)∧Kp0 w w':=by
 have HX:=hid X;have HM:=hid hm;clear X hm;go_enter Tryz.func12,Tryz.ntmps12
 go_wp2_with fail
 refine(HX.out.newNo b i w HM.out).mono ?_;rintro e w1 ⟨rfl,hk1⟩;have HK1:=hid hk1;clear hk1
 go_wp2_with fail
 refine(ynew_no b i w1 HM.out).mono ?_;rintro e w2 ⟨rfl,hw2⟩;obtain rfl:=hw2.symm;go_wp2
 go_ret;exact⟨rfl,HK1.out⟩
theorem opens_yes{R:Tags→Nat→World→Nat→Sp→Prop}(X:XC R){T:Tags}{w:World}{p:Nat}{S:WS}{L:List SD}(hI:Inv R T w p S L)(b i:Nat)(hb:b≤10000)(hi:i≤10000)(hL:L.length≤10):Calls Tryz.prog 12 #[.pointer (some ⟨p,0,none⟩),.int .i64 (b:Int),.int .i64 (i:Int)] w fun e w'=>e=.returned (.bool true)∧∃T' vsd sb px py,TagsTo w T T'∧Inv R T' w' p (S.open' vsd sb) (L++[⟨sb,px,py,Sp.new b i,Sp.new b i⟩])∧Kp (fun b=>(T b).1=5) w w':=by
 have HX:=hid X;have HI:=hid hI;have hsl:S.sides.length=L.length:=by rw[hI.sides,List.length_map]
 clear X hI;obtain⟨ti,hti,hz0,hz1,hz2⟩:=info_parts Tryz.infoSide;have h63:Hid (S.sides.length+1≤maxLen):=hid (by unfold maxLen;omega);have hbytes:Hid ((S.sides.length+1)*8≤140737488355328):=hid (by omega);have HSL:=hid hsl;clear hsl;go_enter Tryz.func12,Tryz.ntmps12
 go_wp2_with fail
 refine(HX.out.newYes b i w T (10+2*L.length) hb hi).mono ?_;rintro e w1 ⟨px,rfl,T1,ht1,hr1,hk1⟩;have HI1:=hid (HI.out.kp0 HX.out ht1 hk1);have HR1:=hid hr1;have HK1:=hid hk1;have HT1:=hid ht1;clear hr1 hk1 ht1
 go_wp2_with fail
 refine(ynew_yes b i w1 hb hi T1 (11+2*L.length)).mono ?_;rintro e w2 ⟨py,rfl,T2,ht2,hr2,hk2,-⟩;have HI2:=hid (HI1.out.kp0 HX.out ht2 hk2);have HX2:=hid (HX.out.kp (HX.out.tags HR1.out ht2) hk2 (fun _ _ e=>e));have HY2:=hid hr2;have HK2:=hid hk2;have HT2:=hid ht2;clear hr2 hk2 ht2;obtain⟨q0,-⟩:=HI2.out.wat.cells;have f0:w2.frozen? ⟨p,0,none⟩=false:=frozen_blk HI2.out.wat.blk;have hpl:p<w2.heap.size:=lt_of_heap HI2.out.wat.blk;have HNP:Hid (some p≠S.vsd.ownBlock):=hid (fun e=>by
  have:=HI2.out.wat.ts p e.symm;rw[HI2.out.wat.tp]at this;simp at this)
 have HSD:=hid HI2.out.wat.sd
 go_wp2_with (at_builtin;refine wpList_append_lies _ rfl _ _ _ rfl 0 83 ti (.pointer none) 1 8 Tryz.underlying24 hti hz0 hz1 hz2 rfl (by omega) S.vsd S.sides.length _ rfl ((HSD.out.alloc _).alloc _) ⟨w2.heap.size+1,0,none⟩ 1 1 [.pointer (some ⟨w2.heap.size,0,none⟩)] rfl rfl (World.news_of_block (heap_alloc2_new _ _ _)) (by intro u hu;simp at hu;subst hu;rfl) (by omega) h63.out hbytes.out (Nat.zero_le _) (w2.heap.size+2) (by simp) ?_)
 intro g1 cap1 w3 own1 grow1 at1 glt1;have hp3:w3.heap[p]? =w2.heap[p]? :=(grow1.block p (by simp;omega) HNP.out).trans ((Below.heap_alloc _ _ p (by simp;omega)).trans (Below.heap_alloc _ _ p hpl));have c0:w3.cell? ⟨p,0,none⟩=some S.vsd:=(lists_get hp3 0).trans q0;have e0:w3.frozen? ⟨p,0,none⟩=false:=(World.frozen?_of_block hp3).trans f0;have HOPEN:=hid (HI2.out.opened HX.out HX2.out HY2.out own1 grow1 at1);clear own1 grow1 at1 hp3;go_wp2
 go_ret;obtain⟨h1,h2,h3⟩:=HOPEN.out;have s1:=HK1.out.size;have s2:=HK2.out.size;refine⟨rfl,_,_,_,px,py,fun b hb=>by rw[h2 b (by omega),HT2.out b (by omega),HT1.out b hb],h1,?_⟩;exact(Kp.of0 (HK1.out.trans HK2.out)).trans h3 (fun b hb e=>by rw[HT2.out b (by omega),HT1.out b hb]at e;exact e)
def WS.zero:WS:=⟨.slice none 0 0,.slice none 0 0,.slice none 0 0,.slice none 0 0,[],[],[],[],0⟩
def startTags(w:World):Tags:=fun b=>if b=w.heap.size then(5,1)else(0,0)
theorem start_inv{R:Tags→Nat→World→Nat→Sp→Prop}(w:World):Inv R (startTags w) (w.alloc (.cells #[.slice none 0 0,.slice none 0 0,.slice none 0 0,.slice none 0 0,.int .i64 0] 28)) w.heap.size WS.zero []:=
 ⟨{blk:=heap_alloc_new _ _,sd:=World.ownsRow_nil _ _ _ _,li:=World.ownsRow_nil _ _ _ _,ma:=OwI.nil _,tu:=World.ownsRow_nil _ _ _ _,len:=rfl
   okl:=fun i v m hv _=>by simp[WS.zero]at hv
   okt:=fun i v hv=>by simp[WS.zero]at hv
   tp:=by simp[startTags]
   ts:=fun b hb=>by simp[WS.zero,Value.ownBlock]at hb
   tl:=fun b hb=>by simp[WS.zero,Value.ownBlock]at hb
   tm:=fun b hb=>by simp[WS.zero,Value.ownBlock]at hb
   tt:=fun b hb=>by simp[WS.zero,Value.ownBlock]at hb
   nl:=by simp[WS.zero],nt:=by simp[WS.zero],l0:=by simp[WS.zero],l1:=by simp[WS.zero]},rfl,fun i d hd=>by simp at hd⟩
end Go.Proofs.YticbbncdcannlaaGreat
