import Derived.Test.YticbbncdcannlaaGreatG19
import Derived.Test.YticbbncdcannlaaGreatG27
set_option maxRecDepth 100000
set_option maxHeartbeats 8000000
namespace Go.Proofs.YticbbncdcannlaaGreat
open Go.RowKit Go.Maps Go.ChangeMaps Go.MapKept
theorem inVfB(L:XL):L.inV 1=.iface 126 (.pointer (some ⟨L.q1,0,none⟩)):=rfl
theorem xFreeUsedB{T:Tags}{o:Nat}{w:World}{p:Nat}{L:XL}{X:XS}(h:XAt T o w p L X)(hd:Int)(x:XA)(hA:X.A hd=some x)(hk:x.kind=1)(hu:∃a y,(X.drop hd).A a=some y∧y.kind=x.kind∧y.buf=x.buf):Calls Tryz.prog 25 #[.pointer (some ⟨p,0,none⟩),.int .i64 hd] w fun e w'=>e=.returned (.int .i64 0)∧Kp (fun b=>(T b).1=o) w w'∧XAt T o w' p {L with D:=L.D.del (.int .i64 hd)} (X.drop hd):=by
 have HF:=hid (xfind_some h hd x hA (by omega));have HU:=hid hu;have hwf:=(h.ent.som hd x hA).1;have HH:=hid h;obtain⟨z0,z1,z2,z3⟩:=cells4 h.blk;have bp:p<w.heap.size:=lt_of_heap h.blk;rw[hk,inVfB]at HF;have HXK:=hid hk;unfold XA.cs at HF;rw[hk]at HF;have HWF:=hid hwf;clear h hA hu hwf;go_enter Tryz.func25,Tryz.ntmps25
 go_wp2_with fail
 refine HF.out.mono ?_;rintro e w2 ⟨rfl,hw⟩;have HK:=hid hw;have y2:=hw.cell z2;have bp2:p<w2.heap.size:=block_lt_of_cell y2;clear hw z0 z1 z2 z3 bp;have HM2:Hid (∀O,(w2.alloc O).ownsMap Tryz.prog 3 elemR L.bm X.last L.D):=fun O=>map_kp HH.out.map (HK.out.alloc O) (fun e=>e)
 have HC:Hid (∀w3,(w2.alloc (.cells #[.int .i64 1,.int .i64 x.buf,.int .i64 (nth x.l 0),.int .i64 (nth x.l 1),.int .i64 (nth x.l 2),.int .i64 (nth x.l 3),.int .i64 (x.l.length:Int),.int .i64 x.f,.int .i64 (nth x.t 0),.int .i64 (nth x.t 1),.int .i64 (nth x.t 2),.int .i64 (nth x.t 3),.bool x.ro] 109)).mapTurned w3 L.bm→w3.heap[w2.heap.size]? =some (.cells #[.int .i64 1,.int .i64 x.buf,.int .i64 (nth x.l 0),.int .i64 (nth x.l 1),.int .i64 (nth x.l 2),.int .i64 (nth x.l 3),.int .i64 (x.l.length:Int),.int .i64 x.f,.int .i64 (nth x.t 0),.int .i64 (nth x.t 1),.int .i64 (nth x.t 2),.int .i64 (nth x.t 3),.bool x.ro] 109 (0,0))):=fun w3 ht=>(turned_kp ht).heap (heap_alloc_new w2 _) (fun e=>by have:=HH.out.map.lt;have:=HK.out.size;omega)
 go_wp2_with (at_delete;refine wpList_delete_own _ rfl _ _ 128 3 rfl 109 Tryz.lawInt Tryz.underlying128 _ L.bm _ L.D rfl (HM2.out _) _ _ rfl (keyOf_int_mk Tryz.underlying3 HWF.out) ?_;intro w3 hm3 ht3;have c3:=cells13 (HC.out w3 ht3);obtain⟨c0,c1,-⟩:=c3)
 have HX3:Hid (XAt T o w3 p {L with D:=L.D.del (.int .i64 hd)} (X.drop hd)):=(HH.out.kp0 (HK.out.alloc _)).drop hd (turned_kp ht3) hm3;have HK3:Hid (Kp (fun b=>(T b).1=o) w w3):=(Kp.of0 (HK.out.alloc _)).trans (turned_kp ht3) (fun b _ e=>by rw[e,HH.out.tm]);have HB3:=hid (HC.out w3 ht3);refine(xisUsed_calls HX3.out 1 x.buf).mono ?_;rintro e w4 ⟨u,rfl,hu4,hk4⟩;have HK4:Hid (Kp (fun b=>(T b).1=o) w w4):=HK3.out.trans0 hk4;have HX4:Hid (XAt T o w4 p {L with D:=L.D.del (.int .i64 hd)} (X.drop hd)):=HX3.out.kp0 hk4;obtain rfl:u=true:=hu4.2 (by rw[←HXK.out];exact HU.out);clear hu4 hk4 hm3 ht3;go_wp2
 go_ret;exact⟨rfl,HK4.out,HX4.out⟩
theorem xFreeLastB{T:Tags}{o:Nat}{w:World}{p:Nat}{L:XL}{X:XS}(h:XAt T o w p L X)(hd:Int)(x:XA)(hA:X.A hd=some x)(hk:x.kind=1)(hu:¬∃a y,(X.drop hd).A a=some y∧y.kind=x.kind∧y.buf=x.buf)(i:Nat)(hi:i<X.b1.length)(hs:(bth X.b1 i).1=x.buf)(hne:∀j,j<i→(bth X.b1 j).1≠x.buf)(hin:bufsIn X.c1.length X.b1)(hpos:1≤(bth X.b1 i).2)(hc:X.c1.length≤10000)(hbl:X.b1.length≤1000000):Calls Tryz.prog 25 #[.pointer (some ⟨p,0,none⟩),.int .i64 hd] w fun e w'=>e=.returned (.int .i64 0)∧Kp (fun b=>(T b).1=o) w w'∧∃L',XAt T o w' p L' {X.drop hd with c1:=wipe X.c1 x.buf.toNat (bth X.b1 i).2.toNat,b1:=X.b1.take i++X.b1.drop (i+1)}∧L'.D=L.D.del (.int .i64 hd):=by
 have HF:=hid (xfind_some h hd x hA (by omega));have HU:=hid hu;have hwf:=(h.ent.som hd x hA).1;have HH:=hid h;obtain⟨z0,z1,z2,z3⟩:=cells4 h.blk;have bp:p<w.heap.size:=lt_of_heap h.blk;rw[hk,inVfB]at HF;have HXK:=hid hk;unfold XA.cs at HF;rw[hk]at HF;have HWF:=hid hwf;have hnq:L.vb1.ownBlock≠some L.q1∧L.q1≠L.g1∧L.vb1.ownBlock≠some L.g1:=by
  have t1:=h.tq1;have t2:=h.tg1;have t3:=h.tb1;refine⟨fun e=>?_,fun e=>?_,fun e=>?_⟩
  ·have:=t3 _ e;rw[t1]at this;simp at this
  ·rw[e,t2]at t1;simp at t1
  ·have:=t3 _ e;rw[t2]at this;simp at this
 have HG:Hid (∀W L',XAt T o W p L' (X.drop hd)→L'.q1=L.q1→L'.g1=L.g1→L'.vb1=L.vb1→Calls Tryz.prog 194 #[.pointer (some ⟨L.q1,0,none⟩),.int .i64 x.buf] W fun e w'=>e=.returned (.tuple #[])∧Kp (fun b=>(T b).1=o) W w'∧∃L'',XAt T o w' p L'' {X.drop hd with c1:=wipe X.c1 x.buf.toNat (bth X.b1 i).2.toNat,b1:=X.b1.take i++X.b1.drop (i+1)}∧L''.D=L'.D):=fun W L' hX e1 e2 e3=>by
  have hst:StAtB W L.q1 L.g1 L.vb1 X.c1 X.b1:=by have:=hX.s1;rw[e1,e2,e3]at this;exact this
  refine(xGiveBackB_calls hst x.buf i hi hs hne hin hpos hc hbl hnq.1 hnq.2.1 hnq.2.2).mono ?_;rintro e w' ⟨rfl,hk,vb',hs',ho⟩;have g1:=hX.tp;have g2:=hX.tq1;have g3:=hX.tg1;have g4:=hX.tb1;have g5:=hX.tq2;have g6:=hX.tg2;have g7:=hX.tb2;have g8:=hX.tm;rw[←e1,←e2,←e3]at hk;rw[←e1,←e2]at hs';rw[←e3]at ho;have ne:∀{b n},T b=(o,n)→n≠2→n≠3→n≠4→¬(b=L'.q1∨b=L'.g1∨L'.vb1.ownBlock=some b):=fun{b n} hb h1 h2 h3 e=>by
   rcases e with e|e|e
   ·rw[e,g2]at hb;simp at hb;omega
   ·rw[e,g3]at hb;simp at hb;omega
   ·rw[g4 b e]at hb;simp at hb;omega
  refine⟨rfl,hk.mono (fun b _ e=>?_),{L' with vb1:=vb'},⟨hk.heap hX.blk (ne g1 (by omega) (by omega) (by omega)),hs',hX.s2.kp hk (ne g5 (by omega) (by omega) (by omega)) (ne g6 (by omega) (by omega) (by omega)) (fun b hb=>ne (g7 b hb) (by omega) (by omega) (by omega)),map_kp hX.map hk (ne g8 (by omega) (by omega) (by omega)),hX.ent,g1,g2,g3,fun b hb=>g4 b (by rw[←ho];exact hb),g5,g6,g7,g8⟩,rfl⟩;rcases e with e|e|e
  ·rw[e,g2]
  ·rw[e,g3]
  ·rw[g4 b e]
 generalize hXF:({X.drop hd with c1:=wipe X.c1 x.buf.toNat (bth X.b1 i).2.toNat,b1:=X.b1.take i++X.b1.drop (i+1)}:XS)=XF at*;clear h hA hu hwf hi hs hne hin hpos hc hbl hnq hXF;go_enter Tryz.func25,Tryz.ntmps25
 go_wp2_with fail
 refine HF.out.mono ?_;rintro e w2 ⟨rfl,hw⟩;have HK:=hid hw;have y2:=hw.cell z2;have bp2:p<w2.heap.size:=block_lt_of_cell y2;clear hw z0 z1 z2 z3 bp;have HM2:Hid (∀O,(w2.alloc O).ownsMap Tryz.prog 3 elemR L.bm X.last L.D):=fun O=>map_kp HH.out.map (HK.out.alloc O) (fun e=>e)
 have HC:Hid (∀w3,(w2.alloc (.cells #[.int .i64 1,.int .i64 x.buf,.int .i64 (nth x.l 0),.int .i64 (nth x.l 1),.int .i64 (nth x.l 2),.int .i64 (nth x.l 3),.int .i64 (x.l.length:Int),.int .i64 x.f,.int .i64 (nth x.t 0),.int .i64 (nth x.t 1),.int .i64 (nth x.t 2),.int .i64 (nth x.t 3),.bool x.ro] 109)).mapTurned w3 L.bm→w3.heap[w2.heap.size]? =some (.cells #[.int .i64 1,.int .i64 x.buf,.int .i64 (nth x.l 0),.int .i64 (nth x.l 1),.int .i64 (nth x.l 2),.int .i64 (nth x.l 3),.int .i64 (x.l.length:Int),.int .i64 x.f,.int .i64 (nth x.t 0),.int .i64 (nth x.t 1),.int .i64 (nth x.t 2),.int .i64 (nth x.t 3),.bool x.ro] 109 (0,0))):=fun w3 ht=>(turned_kp ht).heap (heap_alloc_new w2 _) (fun e=>by have:=HH.out.map.lt;have:=HK.out.size;omega)
 go_wp2_with (at_delete;refine wpList_delete_own _ rfl _ _ 128 3 rfl 109 Tryz.lawInt Tryz.underlying128 _ L.bm _ L.D rfl (HM2.out _) _ _ rfl (keyOf_int_mk Tryz.underlying3 HWF.out) ?_;intro w3 hm3 ht3;have c3:=cells13 (HC.out w3 ht3);obtain⟨c0,c1,-⟩:=c3)
 have HX3:Hid (XAt T o w3 p {L with D:=L.D.del (.int .i64 hd)} (X.drop hd)):=(HH.out.kp0 (HK.out.alloc _)).drop hd (turned_kp ht3) hm3;have HK3:Hid (Kp (fun b=>(T b).1=o) w w3):=(Kp.of0 (HK.out.alloc _)).trans (turned_kp ht3) (fun b _ e=>by rw[e,HH.out.tm]);have HB3:=hid (HC.out w3 ht3);refine(xisUsed_calls HX3.out 1 x.buf).mono ?_;rintro e w4 ⟨u,rfl,hu4,hk4⟩;have HK4:Hid (Kp (fun b=>(T b).1=o) w w4):=HK3.out.trans0 hk4;have HX4:Hid (XAt T o w4 p {L with D:=L.D.del (.int .i64 hd)} (X.drop hd)):=HX3.out.kp0 hk4;obtain rfl:u=false:=by
  cases u with
  |false=>rfl
  |true=>exact absurd (hu4.1 rfl) (by rw[←HXK.out];exact HU.out)
 have HB4:=hid (hk4.heap HB3.out);obtain⟨d0,d1,-⟩:=cells13 HB4.out;clear hu4 hk4 hm3 ht3 c0 c1
 go_wp2_with fail
 refine(HG.out _ _ HX4.out rfl rfl rfl).mono ?_;rintro e w5 ⟨rfl,hk5,L5,hX5,hD5⟩;have HX5:Hid (Kp (fun b=>(T b).1=o) w w5∧XAt T o w5 p L5 XF∧L5.D=L.D.del (.int .i64 hd)):=⟨HK4.out.trans hk5 (fun b _ e=>e),hX5,hD5⟩;clear hk5 hX5 hD5;go_wp2
 go_ret;exact⟨rfl,HX5.out.1,L5,HX5.out.2.1,HX5.out.2.2⟩
end Go.Proofs.YticbbncdcannlaaGreat
