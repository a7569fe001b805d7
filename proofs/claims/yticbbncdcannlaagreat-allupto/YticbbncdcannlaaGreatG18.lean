import Derived.Test.YticbbncdcannlaaGreatG15
import Derived.Test.YticbbncdcannlaaGreatG17
set_option maxRecDepth 100000
set_option maxHeartbeats 8000000
namespace Go.Proofs.YticbbncdcannlaaGreat
open Go.RowKit Go.Maps Go.ChangeMaps Go.MapKept
theorem xfindw_none{T:Tags}{o:Nat}{w:World}{p:Nat}{L:XL}{X:XS}(h:XAt T o w p L X)(hd:Int)(hA:X.A hd=none):Calls Tryz.prog 73 #[.pointer (some ⟨p,0,none⟩),.int .i64 hd] w fun e w'=>e=.returned (.tuple #[.agg xaZ,.nilIface,.int .i64 2])∧Kp0 w w':=by
 have HF:Hid (∀W,Kp0 w W→Calls Tryz.prog 52 #[.pointer (some ⟨p,0,none⟩),.int .i64 hd] W fun e w'=>e=.returned (.tuple #[.agg xaZ,.nilIface,.int .i64 2])∧Kp0 W w'):=fun W k=>xfind_none (h.kp0 k) hd hA
 clear h hA;have HB0:Hid ((w.alloc (arrB xaZ)).heap[w.heap.size]? =some (arrB xaZ)):=heap_alloc_new w _;unfold xaZ at*;go_enter Tryz.func73,Tryz.ntmps73
 go_wp2_with fail
 refine(HF.out _ ((Kp.refl _ w).alloc _)).mono ?_;rintro e w2 ⟨rfl,hw⟩;have HB2:=hid (hw.heap HB0.out);have HK:Hid (Kp0 w w2):=Kp0.trans ((Kp.refl _ w).alloc _) hw;clear hw HB0;obtain⟨b0,hb0⟩:∃b0,w.heap.size=b0:=⟨_,rfl⟩;rw[hb0]at HB2⊢;have HBB:=hid hb0;clear hb0;have hlt:b0<w2.heap.size:=lt_of_heap HB2.out;have HB3:Hid (∀O,(w2.alloc O).heap[b0]? =some (.cells #[.int .i64 0,.int .i64 0,.int .i64 0,.int .i64 0,.int .i64 0,.int .i64 0,.int .i64 0,.int .i64 0,.int .i64 0,.int .i64 0,.int .i64 0,.int .i64 0,.bool false] 109 (0,0))):=fun O=>heap_alloc_keeps HB2.out O
 go_wp2_with (refine wpList_storeRow _ rfl 109 (.tmp 4) _ rfl b0 _ _ rfl rfl (HB3.out _) Tryz.szArr rfl (all13 rfl rfl rfl rfl rfl rfl rfl rfl rfl rfl rfl rfl rfl) ?_;intro w5 hB5 hK5)
 (try simp only[Exit.inBlock,Exit.then])
 refine bodyPost_ret (res_cell3 rfl _ _ b0 _ _ _ _ rfl hB5 Tryz.underlying109 rfl Tryz.szArr) rfl ?_;exact⟨rfl,Kp.trans (HK.out.alloc _) hK5 (fun i hi e=>by have:=HBB.out;omega)⟩
theorem xfindw_ro{T:Tags}{o:Nat}{w:World}{p:Nat}{L:XL}{X:XS}(h:XAt T o w p L X)(hd:Int)(x:XA)(hA:X.A hd=some x)(hk:x.kind=1∨x.kind=2)(hro:x.ro=true):Calls Tryz.prog 73 #[.pointer (some ⟨p,0,none⟩),.int .i64 hd] w fun e w'=>e=.returned (.tuple #[.agg xaZ,.nilIface,.int .i64 6])∧Kp0 w w':=by
 have HF:Hid (∀W,Kp0 w W→Calls Tryz.prog 52 #[.pointer (some ⟨p,0,none⟩),.int .i64 hd] W fun e w'=>e=.returned (.tuple #[.agg x.cs,L.inV x.kind,.int .i64 0])∧Kp0 W w'):=fun W k=>xfind_some (h.kp0 k) hd x hA hk
 clear h hA;generalize L.inV x.kind=I at*;unfold XA.cs at*;rw[hro]at HF;have HB0:Hid ((w.alloc (arrB xaZ)).heap[w.heap.size]? =some (arrB xaZ)):=heap_alloc_new w _;unfold xaZ at*;go_enter Tryz.func73,Tryz.ntmps73
 go_wp2_with fail
 refine(HF.out _ ((Kp.refl _ w).alloc _)).mono ?_;rintro e w2 ⟨rfl,hw⟩;have HB2:=hid (hw.heap HB0.out);have HK:Hid (Kp0 w w2):=Kp0.trans ((Kp.refl _ w).alloc _) hw;clear hw HB0;obtain⟨b0,hb0⟩:∃b0,w.heap.size=b0:=⟨_,rfl⟩;rw[hb0]at HB2⊢;have HBB:=hid hb0;clear hb0;have hlt:b0<w2.heap.size:=lt_of_heap HB2.out;have HB3:Hid (∀O,(w2.alloc O).heap[b0]? =some (.cells #[.int .i64 0,.int .i64 0,.int .i64 0,.int .i64 0,.int .i64 0,.int .i64 0,.int .i64 0,.int .i64 0,.int .i64 0,.int .i64 0,.int .i64 0,.int .i64 0,.bool false] 109 (0,0))):=fun O=>heap_alloc_keeps HB2.out O
 go_wp2_with (refine wpList_storeRow _ rfl 109 (.tmp 4) _ rfl b0 _ _ rfl rfl (HB3.out _) Tryz.szArr rfl (all13 rfl rfl rfl rfl rfl rfl rfl rfl rfl rfl rfl rfl rfl) ?_;intro w5 hB5 hK5)
 (try simp only[Exit.inBlock,Exit.then])
 refine bodyPost_ret (res_cell3 rfl _ _ b0 _ _ _ _ rfl hB5 Tryz.underlying109 rfl Tryz.szArr) rfl ?_;exact⟨rfl,Kp.trans (HK.out.alloc _) hK5 (fun i hi e=>by have:=HBB.out;omega)⟩
theorem xfindw_some{T:Tags}{o:Nat}{w:World}{p:Nat}{L:XL}{X:XS}(h:XAt T o w p L X)(hd:Int)(x:XA)(hA:X.A hd=some x)(hk:x.kind=1∨x.kind=2)(hro:x.ro=false):Calls Tryz.prog 73 #[.pointer (some ⟨p,0,none⟩),.int .i64 hd] w fun e w'=>e=.returned (.tuple #[.agg x.cs,L.inV x.kind,.int .i64 0])∧Kp0 w w':=by
 have HF:Hid (∀W,Kp0 w W→Calls Tryz.prog 52 #[.pointer (some ⟨p,0,none⟩),.int .i64 hd] W fun e w'=>e=.returned (.tuple #[.agg x.cs,L.inV x.kind,.int .i64 0])∧Kp0 W w'):=fun W k=>xfind_some (h.kp0 k) hd x hA hk
 clear h hA;generalize L.inV x.kind=I at*;unfold XA.cs at*;rw[hro]at HF⊢;have HB0:Hid ((w.alloc (arrB xaZ)).heap[w.heap.size]? =some (arrB xaZ)):=heap_alloc_new w _;unfold xaZ at*;go_enter Tryz.func73,Tryz.ntmps73
 go_wp2_with fail
 refine(HF.out _ ((Kp.refl _ w).alloc _)).mono ?_;rintro e w2 ⟨rfl,hw⟩;have HB2:=hid (hw.heap HB0.out);have HK:Hid (Kp0 w w2):=Kp0.trans ((Kp.refl _ w).alloc _) hw;clear hw HB0;obtain⟨b0,hb0⟩:∃b0,w.heap.size=b0:=⟨_,rfl⟩;rw[hb0]at HB2⊢;have HBB:=hid hb0;clear hb0;have hlt:b0<w2.heap.size:=lt_of_heap HB2.out;have HB3:Hid (∀O,(w2.alloc O).heap[b0]? =some (.cells #[.int .i64 0,.int .i64 0,.int .i64 0,.int .i64 0,.int .i64 0,.int .i64 0,.int .i64 0,.int .i64 0,.int .i64 0,.int .i64 0,.int .i64 0,.int .i64 0,.bool false] 109 (0,0))):=fun O=>heap_alloc_keeps HB2.out O
 go_wp2_with (refine wpList_storeRow _ rfl 109 (.tmp 4) _ rfl b0 _ _ rfl rfl (HB3.out _) Tryz.szArr rfl (all13 rfl rfl rfl rfl rfl rfl rfl rfl rfl rfl rfl rfl rfl) ?_;intro w5 hB5 hK5)
 (try simp only[Exit.inBlock,Exit.then])
 refine bodyPost_ret (res_cell3 rfl _ _ b0 _ _ _ _ rfl hB5 Tryz.underlying109 rfl Tryz.szArr) rfl ?_;exact⟨rfl,Kp.trans (HK.out.alloc _) hK5 (fun i hi e=>by have:=HBB.out;omega)⟩
theorem xisMany_calls{T:Tags}{o:Nat}{w:World}{p:Nat}{L:XL}{X:XS}(h:XAt T o w p L X):Calls Tryz.prog 91 #[.pointer (some ⟨p,0,none⟩)] w fun e w'=>e=.returned (.bool (decide (40≤Maps.size L.D)))∧w'=w:=by
 obtain⟨z0,z1,z2,z3⟩:=cells4 h.blk;have HM:=hid h.map;clear h;by_cases hs:40≤Maps.size L.D
 ·have d1:decide ((40:Int)≤(Maps.size L.D:Int))=true:=by simp;omega
  rw[show decide (40≤Maps.size L.D)=true by simp[hs]];go_enter Tryz.func91,Tryz.ntmps91
  go_wp2_with (at_len;refine wpList_len_own _ rfl _ 128 rfl 3 109 Tryz.underlying128 _ L.bm _ L.D rfl HM.out ?_)
  go_ret;exact⟨rfl,rfl⟩
 ·have d1:decide ((40:Int)≤(Maps.size L.D:Int))=false:=by simp;omega
  rw[show decide (40≤Maps.size L.D)=false by simp[hs]];go_enter Tryz.func91,Tryz.ntmps91
  go_wp2_with (at_len;refine wpList_len_own _ rfl _ 128 rfl 3 109 Tryz.underlying128 _ L.bm _ L.D rfl HM.out ?_)
  go_ret;exact⟨rfl,rfl⟩
def XS.more(X:XS)(x:XA):XS:={X with A:=fun a=>if a=(X.last:Int)+1 then some x else X.A a,last:=X.last+1}
theorem wf_small{n:Nat}(h:n≤1000000000):(Lit.int .i64 ((n:Int)+1)).wf=true:=by simp[Lit.wf,IntKind.min,IntKind.max,IntKind.signed,IntKind.bits];omega
theorem XMap.more{D:DataW Value}{X:XS}(h:XMap D X.A)(hm:Maps.IsMap D)(hl:X.last≤1000000000)(x:XA):XMap (D.put (.int .i64 ((X.last:Int)+1)) (.held (.agg x.cs))) (X.more x).A:=by
 refine⟨fun a ha=>?_,fun a y ha=>?_⟩
 ·simp only[XS.more]at ha
  split at ha
  ·cases ha
  ·rename_i hne
   rw[Maps.has_put_other (by simpa using hne)];exact h.non a ha
 ·simp only[XS.more]at ha
  split at ha
  ·rename_i e
   cases ha
   subst e;have hkl:WideAt.IsKeyLit (.int .i64 ((X.last:Int)+1)):=trivial;exact⟨wf_small hl,Maps.has_put_same hm hkl _,fun z=>Maps.atKey_put_same hm hkl _ z⟩
  ·rename_i hne
   obtain⟨h1,h2,h3⟩:=h.som a y ha;exact⟨h1,by rw[Maps.has_put_other (by simpa using hne)];exact h2,fun z=>by rw[Maps.atKey_put_other (by simpa using hne)];exact h3 z⟩
theorem xadd_calls{T:Tags}{o:Nat}{w:World}{p:Nat}{L:XL}{X:XS}(h:XAt T o w p L X)(x:XA)(hl:X.last≤1000000000):Calls Tryz.prog 92 #[.pointer (some ⟨p,0,none⟩),.agg x.cs] w fun e w'=>e=.returned (.int .i64 ((X.last:Int)+1))∧Kp (fun b=>(T b).1=o) w w'∧XAt T o w' p {L with D:=L.D.put (.int .i64 ((X.last:Int)+1)) (.held (.agg x.cs))} (X.more x):=by
 obtain⟨z0,z1,z2,z3⟩:=cells4 h.blk;have f3:=frozen_of_row _ p 3 _ _ h.blk;have bp:p<w.heap.size:=lt_of_heap h.blk;have HH:=hid h;have w1:IntKind.i64.wrap ((X.last:Int)+1)=(X.last:Int)+1:=by simp[IntKind.wrap,IntKind.signed,IntKind.bits];omega
 have k0:Kp (fun b=>b=p) w ((w.setCell ⟨p,3,none⟩ (.int .i64 ((X.last:Int)+1))).alloc (arrB x.cs)):=((Kp.refl (fun b=>b=p) w).setCell ⟨p,3,none⟩ _ (fun _=>rfl)).alloc _;have hmp:¬L.bm=p:=fun e=>by have:=h.tm;rw[e,h.tp]at this;simp at this
 obtain⟨z4,z5,z6,z7⟩:=cells4 (heap_alloc_keeps (heap_setCell_same _ p 3 _ _ (.int .i64 ((X.last:Int)+1)) h.blk) (arrB x.cs));have HBX:Hid (((w.setCell ⟨p,3,none⟩ (.int .i64 ((X.last:Int)+1))).alloc (arrB x.cs)).heap[w.heap.size]? =some (arrB x.cs)):=hid (by have:=heap_alloc_new (w.setCell ⟨p,3,none⟩ (.int .i64 ((X.last:Int)+1))) (arrB x.cs);simpa using this);have HPB:Hid (((w.setCell ⟨p,3,none⟩ (.int .i64 ((X.last:Int)+1))).alloc (arrB x.cs)).heap[p]? =some (.cells #[.pointer (some ⟨L.q1,0,none⟩),.pointer (some ⟨L.q2,0,none⟩),.map (some L.bm),.int .i64 ((X.last:Int)+1)] 130 (0,0))):=hid (heap_alloc_keeps (heap_setCell_same _ p 3 _ _ _ h.blk) _);have HK0:=hid k0;have HHM:=hid (map_kp h.map k0 hmp);unfold XA.cs at HBX HHM HK0 HPB z4 z5 z6 z7;have HXC:Hid (x.cs= #[.int .i64 x.kind,.int .i64 x.buf,.int .i64 (nth x.l 0),.int .i64 (nth x.l 1),.int .i64 (nth x.l 2),.int .i64 (nth x.l 3),.int .i64 (x.l.length:Int),.int .i64 x.f,.int .i64 (nth x.t 0),.int .i64 (nth x.t 1),.int .i64 (nth x.t 2),.int .i64 (nth x.t 3),.bool x.ro]):=rfl;rw[HXC.out];clear h k0;go_enter Tryz.func92,Tryz.ntmps92
 go_wp2
 clear z0 z1 z2 z3 f3;generalize hWW:(w.setCell ⟨p,3,none⟩ (.int .i64 ((X.last:Int)+1))).alloc (.cells #[.int .i64 x.kind,.int .i64 x.buf,.int .i64 (nth x.l 0),.int .i64 (nth x.l 1),.int .i64 (nth x.l 2),.int .i64 (nth x.l 3),.int .i64 (x.l.length:Int),.int .i64 x.f,.int .i64 (nth x.t 0),.int .i64 (nth x.t 1),.int .i64 (nth x.t 2),.int .i64 (nth x.t 3),.bool x.ro] 109)=W at HBX HHM HK0 HPB z4 z5 z6 z7⊢;clear hWW;generalize w.heap.size=b at HBX⊢;obtain⟨y0,y1,y2,y3,y4,y5,y6,y7,y8,y9,y10,y11,y12⟩:=cells13 HBX.out;obtain⟨w7,hst,hm7,ht7⟩:=(World.ownsMap.drew HHM.out).store (e:=109) Tryz.lawInt Tryz.underlying128 (by unfold maxLen;omega) (keyOf_int_mk Tryz.underlying3 (wf_small hl)) (val:=.agg #[.int .i64 x.kind,.int .i64 x.buf,.int .i64 (nth x.l 0),.int .i64 (nth x.l 1),.int .i64 (nth x.l 2),.int .i64 (nth x.l 3),.int .i64 (x.l.length:Int),.int .i64 x.f,.int .i64 (nth x.t 0),.int .i64 (nth x.t 1),.int .i64 (nth x.t 2),.int .i64 (nth x.t 3),.bool x.ro]) (d:=.held (.agg x.cs)) (ps:=[]) rfl;have k7:Kp (fun b=>b=L.bm) W w7:=Kp.grown (Kp.drew (Kp.refl _ _)) ht7.grown (fun k e _=>by injection e with e;exact e.symm);have q7:=k7.cell z7 (fun e=>hmp e.symm);have HK7:=hid k7;have HM7:=hid hm7;clear k7 hm7 ht7
 go_region
 all_goals
  go_wp2
  go_ret;have hh:=HH.out;have kall:Kp (fun b=>(T b).1=o) w w7:=(HK0.out.mono (fun b _ e=>by rw[e,hh.tp])).trans HK7.out (fun b _ e=>by rw[e,hh.tm]);have nm:∀{b n},T b=(o,n)→n≠8→¬b=L.bm:=fun{b n} hb hn e=>by rw[e,hh.tm]at hb;simp at hb;omega
  have np:∀{b n},T b=(o,n)→n≠1→¬b=p:=fun{b n} hb hn e=>by rw[e,hh.tp]at hb;simp at hb;omega
  refine⟨rfl,kall,⟨?_,?_,?_,HM7.out,hh.ent.more hh.map.isMap hl x,hh.tp,hh.tq1,hh.tg1,hh.tb1,hh.tq2,hh.tg2,hh.tb2,hh.tm⟩⟩
  ·have:=HK7.out.heap HPB.out (fun e=>hmp e.symm)
   simpa[XS.more]using this
  ·exact(hh.s1.kp HK0.out (np hh.tq1 (by omega)) (np hh.tg1 (by omega)) (fun b hb=>np (hh.tb1 b hb) (by omega))).kp HK7.out (nm hh.tq1 (by omega)) (nm hh.tg1 (by omega)) (fun b hb=>nm (hh.tb1 b hb) (by omega))
  ·exact(hh.s2.kp HK0.out (np hh.tq2 (by omega)) (np hh.tg2 (by omega)) (fun b hb=>np (hh.tb2 b hb) (by omega))).kp HK7.out (nm hh.tq2 (by omega)) (nm hh.tg2 (by omega)) (fun b hb=>nm (hh.tb2 b hb) (by omega))
end Go.Proofs.YticbbncdcannlaaGreat
namespace Go.Proofs.YticbbncdcannlaaGreat
structure KTie(σ:Sp)(k:Int)(c:List Int)(bs:List (Int×Int)):Prop where
 len:c.length=σ.cap k
 sorted:sortedB bs
 inn:bufsIn c.length bs
 mem:∀s z,(∃j,j<bs.length∧bth bs j=(s,z))↔∃(i:Nat) (b:Buf),σ.bufs[i]? =some b∧σ.used i=true∧b.kind=k∧b.at'=s∧b.size=z
 val:∀j,j<σ.cap k→nth c j=if σ.taken k j=true then nth (σ.vals k) j else 0
 wf1:k=1→∀j,j<σ.cap k→0≤nth (σ.vals k) j∧nth (σ.vals k) j<256
 wf2:k=2→∀j,j<σ.cap k→IntKind.i64.wrap (nth (σ.vals k) j)=nth (σ.vals k) j
structure ATie(σ:Sp)(a:Arr)(x:XA):Prop where
 kind:x.kind=a.kind
 ro:x.ro=a.ro
 l:x.l=a.shape
 g:GOk x.l x.t x.f (σ.cap a.kind)
 cells:gc x.l x.t x.f x.l.length=a.cells
 buf:∃b,σ.bufs[a.buf]? =some b∧x.buf=b.at'∧b.kind=a.kind∧∀j,j<a.cells.length→b.at'≤nth a.cells j∧nth a.cells j<b.at'+b.size
def BApart(σ:Sp):Prop:=∀(i j:Nat) (b c:Buf),σ.bufs[i]? =some b→σ.bufs[j]? =some c→σ.used i=true→σ.used j=true→b.kind=c.kind→i≠j→b.at'+b.size≤c.at'∨c.at'+c.size≤b.at'
structure Tie(X:XS)(sz:Nat)(σ:Sp):Prop where
 last:X.last=σ.arrs.length
 k1:KTie σ 1 X.c1 X.b1
 k2:KTie σ 2 X.c2 X.b2
 non:∀h,σ.find h=none→X.A h=none
 som:∀h a,σ.find h=some a→∃x,X.A h=some x∧ATie σ a x
 live:sz=σ.live
 apart:BApart σ
theorem taken_iff(σ:Sp)(k c:Int):σ.taken k c=true↔∃(i:Nat) (b:Buf),σ.bufs[i]? =some b∧σ.used i=true∧b.kind=k∧b.at'≤c∧c<b.at'+b.size:=by
 unfold Sp.taken takenTo;rw[List.any_eq_true];constructor
 ·rintro⟨i,hi,h⟩
  cases hb:σ.bufs[i]? with
  |none=>rw[hb]at h;simp at h
  |some b=>
   rw[hb]at h;simp at h;exact⟨i,b,hb,h.1,h.2.1,h.2.2.1,h.2.2.2⟩
 ·rintro⟨i,b,hb,h1,h2,h3,h4⟩
  have hi:i<σ.bufs.length:=(List.getElem?_eq_some_iff.1 hb).1;refine⟨i,List.mem_range.2 hi,?_⟩;rw[hb];simp[h1,h2,h3,h4]
theorem KTie.taken{σ:Sp}{k:Int}{c:List Int}{bs:List (Int×Int)}(h:KTie σ k c bs)(x:Int):σ.taken k x=true↔inBufs bs x:=by
 rw[taken_iff];constructor
 ·rintro⟨i,b,hb,h1,h2,h3,h4⟩
  obtain⟨j,hj,e⟩:=(h.mem b.at' b.size).2 ⟨i,b,hb,h1,h2,rfl,rfl⟩;exact⟨j,hj,by rw[e];exact h3,by rw[e];exact h4⟩
 ·rintro⟨j,hj,h1,h2⟩
  obtain⟨i,b,hb,h3,h4,h5,h6⟩:=(h.mem (bth bs j).1 (bth bs j).2).1 ⟨j,hj,rfl⟩;exact⟨i,b,hb,h3,h4,by omega,by omega⟩
theorem used_of{σ:Sp}{h:Int}{a:Arr}(hf:σ.find h=some a):σ.used a.buf=true:=by
 unfold Sp.find at hf;split at hf
 ·have hg:σ.arrs[ix h]? =some (some a):=by
   cases e:σ.arrs[ix h]? with
   |none=>simp[List.getD,e]at hf
   |some y=>simp[List.getD,e]at hf;rw[hf]
  unfold Sp.used usedTo;rw[List.any_eq_true];refine⟨some a,?_,by simp⟩;rw[List.take_length];exact List.mem_of_getElem? hg
 ·cases hf
theorem ATie.taken{σ:Sp}{h:Int}{a:Arr}{x:XA}(ht:ATie σ a x)(hf:σ.find h=some a)(j:Nat)(hj:j<a.cells.length):σ.taken a.kind (nth a.cells j)=true:=by
 obtain⟨b,hb,-,hk,hc⟩:=ht.buf;exact(taken_iff σ a.kind _).2 ⟨a.buf,b,hb,used_of hf,hk,(hc j hj).1,(hc j hj).2⟩
theorem ATie.at{σ:Sp}{a:Arr}{x:XA}(ht:ATie σ a x)(i:List Int)(hin:inBb x.l i=true):0≤rank a.shape i∧(rank a.shape i).toNat<a.cells.length∧nth a.cells (rank a.shape i).toNat=x.f+dotTo i x.t x.l.length:=by
 have hin':=hin;rw[ht.l]at hin';have h1:=nth_gc x.l x.t i x.f ht.g.shape.2.1 x.l.length (Nat.le_refl _) ((inBb_iff x.l i).1 hin).2;have hr:rank a.shape i=rankTo x.l i x.l.length:=by
  unfold rank;rw[if_pos hin',ht.l]
 rw[hr,←ht.cells];exact⟨h1.1,by omega,h1.2.2⟩
theorem ATie.none{σ:Sp}{a:Arr}{x:XA}(ht:ATie σ a x)(i:List Int)(hin:inBb x.l i=false):rank a.shape i= -1:=by
 unfold rank;rw[←ht.l,if_neg (by rw[hin];simp)]
theorem KTie.at{σ:Sp}{k:Int}{c:List Int}{bs:List (Int×Int)}(h:KTie σ k c bs)(x:Int)(h0:0≤x)(h1:x<σ.cap k)(ht:σ.taken k x=true):nth c x.toNat=nth (σ.vals k) x.toNat:=by
 have e:((x.toNat:Nat):Int)=x:=by omega
 rw[h.val x.toNat (by omega),e,if_pos ht]
theorem KTie.wrap{σ:Sp}{k:Int}{c:List Int}{bs:List (Int×Int)}(h:KTie σ k c bs)(hk:k=1∨k=2)(j:Nat)(hj:j<c.length):IntKind.i64.wrap (nth c j)=nth c j:=by
 rw[h.len]at hj;rw[h.val j hj];split
 ·rcases hk with hk|hk
  ·have:=h.wf1 hk j hj
   simp[IntKind.wrap,IntKind.signed,IntKind.bits];omega
  ·exact h.wf2 hk j hj
 ·simp[IntKind.wrap,IntKind.signed,IntKind.bits]
theorem KTie.few{σ:Sp}{k:Int}{c:List Int}{bs:List (Int×Int)}(h:KTie σ k c bs):bs.length≤c.length:=by
 have key:∀j,j<bs.length→(j:Int)≤(bth bs j).1:=by
  intro j
  induction j with
  |zero=>intro hj;have:=(h.sorted.1 0 hj).1;omega
  |succ j ih=>
   intro hj;have h1:=ih (by omega);have h2:=h.sorted.2 j (j+1) (by omega) hj;have h3:=(h.sorted.1 j (by omega)).2;omega
 rcases Nat.eq_zero_or_pos bs.length with h0|h0
 ·omega
 ·have h1:=key (bs.length-1) (by omega)
  have h2:=h.inn (bs.length-1) (by omega);have h3:=(h.sorted.1 (bs.length-1) (by omega)).2;omega
open Go.RowKit Go.Maps Go.ChangeMaps Go.MapKept
theorem inVB(L:XL):L.inV 1=.iface 126 (.pointer (some ⟨L.q1,0,none⟩)):=rfl
theorem xGetNoB{T:Tags}{o:Nat}{w:World}{p:Nat}{L:XL}{X:XS}(h:XAt T o w p L X)(hd:Int)(x:XA)(hA:X.A hd=some x)(hk:x.kind=1)(vi:Value)(i:List Int)(hr:RdI w vi i)(hl:x.l.length≤4)(hin:inBb x.l i=false):Calls Tryz.prog 37 #[.pointer (some ⟨p,0,none⟩),.int .i64 hd,vi] w fun e w'=>e=.returned (.tuple #[.int .i64 0,.int .i64 5])∧Kp0 w w':=by
 have HF:=hid (xfind_some h hd x hA (by omega));have HC:Hid (∀W,Kp0 w W→Calls Tryz.prog 74 #[.agg (grC x.l x.t x.f).toArray,vi] W fun e w'=>e=.returned (.tuple #[.int .i64 0,.bool false])∧Kp0 W w'):=fun W k=>xcell_no x.l x.t i x.f vi W hl (hr.kp0 k) hin
 unfold grC at HC;rw[hk,inVB]at HF;unfold XA.cs at HF;rw[hk]at HF;clear h hA hr hin;go_enter Tryz.func37,Tryz.ntmps37
 go_wp2_with fail
 refine HF.out.mono ?_;rintro e w2 ⟨rfl,hw⟩;have HK:=hid hw;clear hw
 go_wp2_with fail
 refine(HC.out _ (HK.out.alloc _)).mono ?_;rintro e w3 ⟨rfl,hw⟩;have HK3:Hid (Kp0 w w3):=Kp0.trans (HK.out.alloc _) hw;clear hw;go_wp2
 go_ret2
 exact⟨rfl,HK3.out⟩
theorem xGetYesB{T:Tags}{o:Nat}{w:World}{p:Nat}{L:XL}{X:XS}(h:XAt T o w p L X)(hd:Int)(x:XA)(hA:X.A hd=some x)(hk:x.kind=1)(vi:Value)(i:List Int)(hr:RdI w vi i)(hg:GOk x.l x.t x.f X.c1.length)(hin:inBb x.l i=true)(hw:∀j,j<X.c1.length→IntKind.i64.wrap (nth X.c1 j)=nth X.c1 j):Calls Tryz.prog 37 #[.pointer (some ⟨p,0,none⟩),.int .i64 hd,vi] w fun e w'=>e=.returned (.tuple #[.int .i64 (nth X.c1 (x.f+dotTo i x.t x.l.length).toNat),.int .i64 0])∧Kp0 w w':=by
 have HF:=hid (xfind_some h hd x hA (by omega));have HC:Hid (∀W,Kp0 w W→Calls Tryz.prog 74 #[.agg (grC x.l x.t x.f).toArray,vi] W fun e w'=>e=.returned (.tuple #[.int .i64 (x.f+dotTo i x.t x.l.length),.bool true])∧Kp0 W w'):=fun W k=>by
  have:=xcell_calls x.l x.t i x.f _ vi W hg (hr.kp0 k);rw[if_pos hin,hin]at this;exact this
 have hd2:=dot_in hg.shape.2.1 hg.inside x.l.length (Nat.le_refl _) ((inBb_iff x.l i).1 hin).2;generalize hcell:x.f+dotTo i x.t x.l.length=cell at*;have HR:Hid (∀W vp,Kp0 w W→RdI W vp [cell]→Calls Tryz.prog 195 #[.pointer (some ⟨L.q1,0,none⟩),vp] W fun e w'=>∃v,e=.returned v∧NewI W w' v [nth X.c1 cell.toNat]):=fun W vp k hr0=>xReadB_calls (h.kp0 k).s1 [cell] vp hr0 (places_one hd2) hw (by simp)
 unfold grC at HC;rw[hk,inVB]at HF;unfold XA.cs at HF;rw[hk]at HF;clear h hA hr hin hg hw hd2 hcell;generalize nth X.c1 cell.toNat=y at*;go_enter Tryz.func37,Tryz.ntmps37
 go_wp2_with fail
 refine HF.out.mono ?_;rintro e w2 ⟨rfl,hw⟩;have HK:=hid hw;clear hw
 go_wp2_with fail
 refine(HC.out _ (HK.out.alloc _)).mono ?_;rintro e w3 ⟨rfl,hw⟩;have HK3:Hid (Kp0 w w3):=Kp0.trans (HK.out.alloc _) hw;clear hw
 go_wp2_with fail
 refine(HR.out _ _ (HK3.out.alloc _) (RdI.one w3 cell)).mono ?_;rintro e w4 ⟨v,rfl,hn⟩;obtain⟨g4,c4,rfl,q4,hk4⟩:=hn.one;have HK4:Hid (Kp0 w w4):=Kp0.trans (HK3.out.alloc _) hk4;clear hn hk4;go_wp2
 go_ret2
 exact⟨rfl,HK4.out⟩
theorem xSetNoB{T:Tags}{o:Nat}{w:World}{p:Nat}{L:XL}{X:XS}(h:XAt T o w p L X)(hd v:Int)(x:XA)(hA:X.A hd=some x)(hk:x.kind=1)(hro:x.ro=false)(vi:Value)(i:List Int)(hr:RdI w vi i)(hl:x.l.length≤4)(hin:inBb x.l i=false):Calls Tryz.prog 36 #[.pointer (some ⟨p,0,none⟩),.int .i64 hd,.int .i64 v,vi] w fun e w'=>e=.returned (.int .i64 5)∧Kp0 w w':=by
 have HF:=hid (xfindw_some h hd x hA (by omega) hro);have HC:Hid (∀W,Kp0 w W→Calls Tryz.prog 74 #[.agg (grC x.l x.t x.f).toArray,vi] W fun e w'=>e=.returned (.tuple #[.int .i64 0,.bool false])∧Kp0 W w'):=fun W k=>xcell_no x.l x.t i x.f vi W hl (hr.kp0 k) hin
 unfold grC at HC;rw[hk,inVB]at HF;unfold XA.cs at HF;rw[hk]at HF;clear h hA hr hin;go_enter Tryz.func36,Tryz.ntmps36
 go_wp2_with fail
 refine HF.out.mono ?_;rintro e w2 ⟨rfl,hw⟩;have HK:=hid hw;clear hw
 go_wp2_with fail
 refine(HC.out _ (HK.out.alloc _)).mono ?_;rintro e w3 ⟨rfl,hw⟩;have HK3:Hid (Kp0 w w3):=Kp0.trans (HK.out.alloc _) hw;clear hw;go_wp2
 go_ret;exact⟨rfl,HK3.out⟩
def XS.putB(X:XS)(c:List Int):XS:={X with c1:=c}
theorem XAt.putB{T:Tags}{o:Nat}{w w':World}{p:Nat}{L:XL}{X:XS}(h:XAt T o w p L X)(k:Kp (fun b=>b=L.g1) w w'){c:List Int}(hc:w'.heap[L.g1]? =some (cellsBB c))(hl:c.length=X.c1.length):XAt T o w' p L (X.putB c):=by
 have tp:=h.tp;have t1:=h.tq1;have t2:=h.tg1;have t3:=h.tb1;have t4:=h.tq2;have t5:=h.tg2;have t6:=h.tb2;have t7:=h.tm;have ne:∀{b n},T b=(o,n)→n≠3*1→¬b=L.g1:=fun{b n} hb hn e=>by
  rw[e,t2]at hb;simp at hb;omega
 refine⟨k.heap h.blk (ne tp (by omega)),?_,?_,map_kp h.map k (ne t7 (by omega)),h.ent,tp,t1,t2,t3,t4,t5,t6,t7⟩
 ·exact h.s1.wrote k hc hl (ne t1 (by omega)) (fun e=>ne (t3 _ e) (by omega) rfl)
 ·exact h.s2.kp k (ne t4 (by omega)) (ne t5 (by omega)) (fun b hb=>ne (t6 b hb) (by omega))
theorem xSetYesB{T:Tags}{o:Nat}{w:World}{p:Nat}{L:XL}{X:XS}(h:XAt T o w p L X)(hd v:Int)(x:XA)(hA:X.A hd=some x)(hk:x.kind=1)(hro:x.ro=false)(vi:Value)(i:List Int)(hr:RdI w vi i)(hg:GOk x.l x.t x.f X.c1.length)(hin:inBb x.l i=true)(hv:IntKind.i64.wrap v=v):Calls Tryz.prog 36 #[.pointer (some ⟨p,0,none⟩),.int .i64 hd,.int .i64 v,vi] w fun e w'=>e=.returned (.int .i64 0)∧Kp (fun b=>(T b).1=o) w w'∧XAt T o w' p L (X.putB (X.c1.set (x.f+dotTo i x.t x.l.length).toNat (IntKind.wrap .u8 v))):=by
 have HF:=hid (xfindw_some h hd x hA (by omega) hro);have HC:Hid (∀W,Kp0 w W→Calls Tryz.prog 74 #[.agg (grC x.l x.t x.f).toArray,vi] W fun e w'=>e=.returned (.tuple #[.int .i64 (x.f+dotTo i x.t x.l.length),.bool true])∧Kp0 W w'):=fun W k=>by
  have:=xcell_calls x.l x.t i x.f _ vi W hg (hr.kp0 k);rw[if_pos hin,hin]at this;exact this
 have hd2:=dot_in hg.shape.2.1 hg.inside x.l.length (Nat.le_refl _) ((inBb_iff x.l i).1 hin).2;generalize hcell:x.f+dotTo i x.t x.l.length=cell at*;have HR:Hid (∀W vp,Kp0 w W→RdI W vp [cell]→vp.ownBlock≠some L.g1→Calls Tryz.prog 193 #[.pointer (some ⟨L.q1,0,none⟩),.int .i64 v,vp] W fun e w'=>e=.returned (.tuple #[])∧Kp (fun b=>b=L.g1) W w'∧w'.heap[L.g1]? =some (cellsBB (X.c1.set cell.toNat (IntKind.wrap .u8 v)))):=fun W vp k hr0 hne=>by
  have:=xFillB_calls (h.kp0 k).s1 v [cell] vp hr0 (fun _=>hne) (places_one hd2) (by simp) hv _ rfl;simpa[wrTo,nth]using this
 have HG:Hid (L.g1<w.heap.size):=lt_of_heap h.s1.cells;have HH:=hid h;generalize hcc:X.c1.set cell.toNat (IntKind.wrap .u8 v)=cc at*;have HLC:Hid (cc.length=X.c1.length):=hid (by rw[←hcc];simp);unfold grC at HC;rw[hk,inVB]at HF;unfold XA.cs at HF;rw[hk]at HF;clear h hA hr hin hg hd2 hcell hv hcc;go_enter Tryz.func36,Tryz.ntmps36
 go_wp2_with fail
 refine HF.out.mono ?_;rintro e w2 ⟨rfl,hw⟩;have HK:=hid hw;clear hw
 go_wp2_with fail
 refine(HC.out _ (HK.out.alloc _)).mono ?_;rintro e w3 ⟨rfl,hw⟩;have HK3:Hid (Kp0 w w3):=Kp0.trans (HK.out.alloc _) hw;clear hw
 go_wp2_with fail
 refine(HR.out _ _ (HK3.out.alloc _) (RdI.one w3 cell) (fun e=>by have:=HG.out;have:=HK3.out.size;simp[Value.ownBlock]at e;omega)).mono ?_;rintro e w4 ⟨rfl,hk4,hb4⟩;have HK4:Hid (Kp (fun b=>(T b).1=o) w w4∧XAt T o w4 p L (X.putB cc)):=by
  have kk:=HK3.out.alloc (.cells #[.int .i64 cell] 3);refine⟨(Kp.of0 kk).trans hk4 (fun b _ e=>by rw[e,HH.out.tg1]),(HH.out.kp0 kk).putB hk4 hb4 HLC.out⟩
 clear hk4 hb4;go_wp2
 go_ret;exact⟨rfl,HK4.out.1,HK4.out.2⟩
theorem inVI(L:XL):L.inV 2=.iface 127 (.pointer (some ⟨L.q2,0,none⟩)):=rfl
theorem xGetNoI{T:Tags}{o:Nat}{w:World}{p:Nat}{L:XL}{X:XS}(h:XAt T o w p L X)(hd:Int)(x:XA)(hA:X.A hd=some x)(hk:x.kind=2)(vi:Value)(i:List Int)(hr:RdI w vi i)(hl:x.l.length≤4)(hin:inBb x.l i=false):Calls Tryz.prog 37 #[.pointer (some ⟨p,0,none⟩),.int .i64 hd,vi] w fun e w'=>e=.returned (.tuple #[.int .i64 0,.int .i64 5])∧Kp0 w w':=by
 have HF:=hid (xfind_some h hd x hA (by omega));have HC:Hid (∀W,Kp0 w W→Calls Tryz.prog 74 #[.agg (grC x.l x.t x.f).toArray,vi] W fun e w'=>e=.returned (.tuple #[.int .i64 0,.bool false])∧Kp0 W w'):=fun W k=>xcell_no x.l x.t i x.f vi W hl (hr.kp0 k) hin
 unfold grC at HC;rw[hk,inVI]at HF;unfold XA.cs at HF;rw[hk]at HF;clear h hA hr hin;go_enter Tryz.func37,Tryz.ntmps37
 go_wp2_with fail
 refine HF.out.mono ?_;rintro e w2 ⟨rfl,hw⟩;have HK:=hid hw;clear hw
 go_wp2_with fail
 refine(HC.out _ (HK.out.alloc _)).mono ?_;rintro e w3 ⟨rfl,hw⟩;have HK3:Hid (Kp0 w w3):=Kp0.trans (HK.out.alloc _) hw;clear hw;go_wp2
 go_ret2
 exact⟨rfl,HK3.out⟩
theorem xGetYesI{T:Tags}{o:Nat}{w:World}{p:Nat}{L:XL}{X:XS}(h:XAt T o w p L X)(hd:Int)(x:XA)(hA:X.A hd=some x)(hk:x.kind=2)(vi:Value)(i:List Int)(hr:RdI w vi i)(hg:GOk x.l x.t x.f X.c2.length)(hin:inBb x.l i=true)(hw:∀j,j<X.c2.length→IntKind.i64.wrap (nth X.c2 j)=nth X.c2 j):Calls Tryz.prog 37 #[.pointer (some ⟨p,0,none⟩),.int .i64 hd,vi] w fun e w'=>e=.returned (.tuple #[.int .i64 (nth X.c2 (x.f+dotTo i x.t x.l.length).toNat),.int .i64 0])∧Kp0 w w':=by
 have HF:=hid (xfind_some h hd x hA (by omega));have HC:Hid (∀W,Kp0 w W→Calls Tryz.prog 74 #[.agg (grC x.l x.t x.f).toArray,vi] W fun e w'=>e=.returned (.tuple #[.int .i64 (x.f+dotTo i x.t x.l.length),.bool true])∧Kp0 W w'):=fun W k=>by
  have:=xcell_calls x.l x.t i x.f _ vi W hg (hr.kp0 k);rw[if_pos hin,hin]at this;exact this
 have hd2:=dot_in hg.shape.2.1 hg.inside x.l.length (Nat.le_refl _) ((inBb_iff x.l i).1 hin).2;generalize hcell:x.f+dotTo i x.t x.l.length=cell at*;have HR:Hid (∀W vp,Kp0 w W→RdI W vp [cell]→Calls Tryz.prog 215 #[.pointer (some ⟨L.q2,0,none⟩),vp] W fun e w'=>∃v,e=.returned v∧NewI W w' v [nth X.c2 cell.toNat]):=fun W vp k hr0=>xReadI_calls (h.kp0 k).s2 [cell] vp hr0 (places_one hd2) hw (by simp)
 unfold grC at HC;rw[hk,inVI]at HF;unfold XA.cs at HF;rw[hk]at HF;clear h hA hr hin hg hw hd2 hcell;generalize nth X.c2 cell.toNat=y at*;go_enter Tryz.func37,Tryz.ntmps37
 go_wp2_with fail
 refine HF.out.mono ?_;rintro e w2 ⟨rfl,hw⟩;have HK:=hid hw;clear hw
 go_wp2_with fail
 refine(HC.out _ (HK.out.alloc _)).mono ?_;rintro e w3 ⟨rfl,hw⟩;have HK3:Hid (Kp0 w w3):=Kp0.trans (HK.out.alloc _) hw;clear hw
 go_wp2_with fail
 refine(HR.out _ _ (HK3.out.alloc _) (RdI.one w3 cell)).mono ?_;rintro e w4 ⟨v,rfl,hn⟩;obtain⟨g4,c4,rfl,q4,hk4⟩:=hn.one;have HK4:Hid (Kp0 w w4):=Kp0.trans (HK3.out.alloc _) hk4;clear hn hk4;go_wp2
 go_ret2
 exact⟨rfl,HK4.out⟩
theorem xSetNoI{T:Tags}{o:Nat}{w:World}{p:Nat}{L:XL}{X:XS}(h:XAt T o w p L X)(hd v:Int)(x:XA)(hA:X.A hd=some x)(hk:x.kind=2)(hro:x.ro=false)(vi:Value)(i:List Int)(hr:RdI w vi i)(hl:x.l.length≤4)(hin:inBb x.l i=false):Calls Tryz.prog 36 #[.pointer (some ⟨p,0,none⟩),.int .i64 hd,.int .i64 v,vi] w fun e w'=>e=.returned (.int .i64 5)∧Kp0 w w':=by
 have HF:=hid (xfindw_some h hd x hA (by omega) hro);have HC:Hid (∀W,Kp0 w W→Calls Tryz.prog 74 #[.agg (grC x.l x.t x.f).toArray,vi] W fun e w'=>e=.returned (.tuple #[.int .i64 0,.bool false])∧Kp0 W w'):=fun W k=>xcell_no x.l x.t i x.f vi W hl (hr.kp0 k) hin
 unfold grC at HC;rw[hk,inVI]at HF;unfold XA.cs at HF;rw[hk]at HF;clear h hA hr hin;go_enter Tryz.func36,Tryz.ntmps36
 go_wp2_with fail
 refine HF.out.mono ?_;rintro e w2 ⟨rfl,hw⟩;have HK:=hid hw;clear hw
 go_wp2_with fail
 refine(HC.out _ (HK.out.alloc _)).mono ?_;rintro e w3 ⟨rfl,hw⟩;have HK3:Hid (Kp0 w w3):=Kp0.trans (HK.out.alloc _) hw;clear hw;go_wp2
 go_ret;exact⟨rfl,HK3.out⟩
def XS.putI(X:XS)(c:List Int):XS:={X with c2:=c}
theorem XAt.putI{T:Tags}{o:Nat}{w w':World}{p:Nat}{L:XL}{X:XS}(h:XAt T o w p L X)(k:Kp (fun b=>b=L.g2) w w'){c:List Int}(hc:w'.heap[L.g2]? =some (cellsBI c))(hl:c.length=X.c2.length):XAt T o w' p L (X.putI c):=by
 have tp:=h.tp;have t1:=h.tq1;have t2:=h.tg1;have t3:=h.tb1;have t4:=h.tq2;have t5:=h.tg2;have t6:=h.tb2;have t7:=h.tm;have ne:∀{b n},T b=(o,n)→n≠3*2→¬b=L.g2:=fun{b n} hb hn e=>by
  rw[e,t5]at hb;simp at hb;omega
 refine⟨k.heap h.blk (ne tp (by omega)),?_,?_,map_kp h.map k (ne t7 (by omega)),h.ent,tp,t1,t2,t3,t4,t5,t6,t7⟩
 ·exact h.s1.kp k (ne t1 (by omega)) (ne t2 (by omega)) (fun b hb=>ne (t3 b hb) (by omega))
 ·exact h.s2.wrote k hc hl (ne t4 (by omega)) (fun e=>ne (t6 _ e) (by omega) rfl)
theorem xSetYesI{T:Tags}{o:Nat}{w:World}{p:Nat}{L:XL}{X:XS}(h:XAt T o w p L X)(hd v:Int)(x:XA)(hA:X.A hd=some x)(hk:x.kind=2)(hro:x.ro=false)(vi:Value)(i:List Int)(hr:RdI w vi i)(hg:GOk x.l x.t x.f X.c2.length)(hin:inBb x.l i=true)(hv:IntKind.i64.wrap v=v):Calls Tryz.prog 36 #[.pointer (some ⟨p,0,none⟩),.int .i64 hd,.int .i64 v,vi] w fun e w'=>e=.returned (.int .i64 0)∧Kp (fun b=>(T b).1=o) w w'∧XAt T o w' p L (X.putI (X.c2.set (x.f+dotTo i x.t x.l.length).toNat (IntKind.wrap .i64 v))):=by
 have HF:=hid (xfindw_some h hd x hA (by omega) hro);have HC:Hid (∀W,Kp0 w W→Calls Tryz.prog 74 #[.agg (grC x.l x.t x.f).toArray,vi] W fun e w'=>e=.returned (.tuple #[.int .i64 (x.f+dotTo i x.t x.l.length),.bool true])∧Kp0 W w'):=fun W k=>by
  have:=xcell_calls x.l x.t i x.f _ vi W hg (hr.kp0 k);rw[if_pos hin,hin]at this;exact this
 have hd2:=dot_in hg.shape.2.1 hg.inside x.l.length (Nat.le_refl _) ((inBb_iff x.l i).1 hin).2;generalize hcell:x.f+dotTo i x.t x.l.length=cell at*;have HR:Hid (∀W vp,Kp0 w W→RdI W vp [cell]→vp.ownBlock≠some L.g2→Calls Tryz.prog 213 #[.pointer (some ⟨L.q2,0,none⟩),.int .i64 v,vp] W fun e w'=>e=.returned (.tuple #[])∧Kp (fun b=>b=L.g2) W w'∧w'.heap[L.g2]? =some (cellsBI (X.c2.set cell.toNat (IntKind.wrap .i64 v)))):=fun W vp k hr0 hne=>by
  have:=xFillI_calls (h.kp0 k).s2 v [cell] vp hr0 (fun _=>hne) (places_one hd2) (by simp) hv _ rfl;simpa[wrTo,nth]using this
 have HG:Hid (L.g2<w.heap.size):=lt_of_heap h.s2.cells;have HH:=hid h;generalize hcc:X.c2.set cell.toNat (IntKind.wrap .i64 v)=cc at*;have HLC:Hid (cc.length=X.c2.length):=hid (by rw[←hcc];simp);unfold grC at HC;rw[hk,inVI]at HF;unfold XA.cs at HF;rw[hk]at HF;clear h hA hr hin hg hd2 hcell hv hcc;go_enter Tryz.func36,Tryz.ntmps36
 go_wp2_with fail
 refine HF.out.mono ?_;rintro e w2 ⟨rfl,hw⟩;have HK:=hid hw;clear hw
 go_wp2_with fail
 refine(HC.out _ (HK.out.alloc _)).mono ?_;rintro e w3 ⟨rfl,hw⟩;have HK3:Hid (Kp0 w w3):=Kp0.trans (HK.out.alloc _) hw;clear hw
 go_wp2_with fail
 refine(HR.out _ _ (HK3.out.alloc _) (RdI.one w3 cell) (fun e=>by have:=HG.out;have:=HK3.out.size;simp[Value.ownBlock]at e;omega)).mono ?_;rintro e w4 ⟨rfl,hk4,hb4⟩;have HK4:Hid (Kp (fun b=>(T b).1=o) w w4∧XAt T o w4 p L (X.putI cc)):=by
  have kk:=HK3.out.alloc (.cells #[.int .i64 cell] 3);refine⟨(Kp.of0 kk).trans hk4 (fun b _ e=>by rw[e,HH.out.tg2]),(HH.out.kp0 kk).putI hk4 hb4 HLC.out⟩
 clear hk4 hb4;go_wp2
 go_ret;exact⟨rfl,HK4.out.1,HK4.out.2⟩
end Go.Proofs.YticbbncdcannlaaGreat
namespace Go.Proofs.YticbbncdcannlaaGreat
theorem put_taken(σ:Sp)(k:Int)(x:Nat)(v:Int)(j:Int):(σ.put k x v).taken j=σ.taken j:=by unfold Sp.put;split<;>rfl
theorem put_used(σ:Sp)(k:Int)(x:Nat)(v:Int)(i:Nat):(σ.put k x v).used i=σ.used i:=by unfold Sp.put;split<;>rfl
theorem put_bufs(σ:Sp)(k:Int)(x:Nat)(v:Int):(σ.put k x v).bufs=σ.bufs:=by unfold Sp.put;split<;>rfl
theorem put_cap(σ:Sp)(k:Int)(x:Nat)(v:Int)(j:Int):(σ.put k x v).cap j=σ.cap j:=by unfold Sp.put;split<;>rfl
theorem put_find(σ:Sp)(k:Int)(x:Nat)(v:Int)(h:Int):(σ.put k x v).find h=σ.find h:=by unfold Sp.put;split<;>rfl
theorem put_live(σ:Sp)(k:Int)(x:Nat)(v:Int):(σ.put k x v).live=σ.live:=by unfold Sp.put;split<;>rfl
theorem put_arrs(σ:Sp)(k:Int)(x:Nat)(v:Int):(σ.put k x v).arrs=σ.arrs:=by unfold Sp.put;split<;>rfl
theorem put_vals_same(σ:Sp)(k:Int)(x:Nat)(v:Int):(σ.put k x v).vals k=(σ.vals k).set x v:=by
 unfold Sp.put Sp.vals;by_cases h:k=1
 ·simp[h]
 ·simp[h]
theorem put_vals_other(σ:Sp)(k j:Int)(x:Nat)(v:Int)(h:(k=1)≠(j=1)):(σ.put k x v).vals j=σ.vals j:=by
 unfold Sp.put Sp.vals;by_cases h1:k=1<;>by_cases h2:j=1<;>simp_all
theorem nth_set(l:List Int)(i j:Nat)(v:Int):nth (l.set i v) j=if j=i∧i<l.length then v else nth l j:=by
 unfold nth List.getD;rw[List.getElem?_set];by_cases h:i=j
 ·subst h
  by_cases h2:i<l.length
  ·simp[h2]
  ·simp[h2]
 ·simp[h,Ne.symm h]
theorem KTie.put{σ:Sp}{k:Int}{c:List Int}{bs:List (Int×Int)}(h:KTie σ k c bs)(hv:(σ.vals k).length=σ.cap k)(x:Nat)(hx:x<σ.cap k)(ht:σ.taken k x=true)(v:Int)(w1:k=1→0≤v∧v<256)(w2:k=2→IntKind.i64.wrap v=v):KTie (σ.put k x v) k (c.set x v) bs:=by
 refine⟨by rw[List.length_set,put_cap];exact h.len,h.sorted,by rw[List.length_set];exact h.inn,fun s z=>?_,fun j hj=>?_,fun hk j hj=>?_,fun hk j hj=>?_⟩
 ·rw[h.mem s z]
  simp only[put_bufs,put_used]
 ·rw[put_cap]at hj
  rw[put_taken,put_vals_same,nth_set,nth_set,h.len,hv,h.val j hj];by_cases e:j=x
  ·subst e;rw[if_pos ⟨rfl,hx⟩,if_pos ht,if_pos ⟨rfl,hx⟩]
  ·simp[e]
 ·rw[put_cap]at hj
  rw[put_vals_same,nth_set];split
  ·exact w1 hk
  ·exact h.wf1 hk j hj
 ·rw[put_cap]at hj
  rw[put_vals_same,nth_set];split
  ·exact w2 hk
  ·exact h.wf2 hk j hj
theorem KTie.putOther{σ:Sp}{k j:Int}{c:List Int}{bs:List (Int×Int)}(h:KTie σ j c bs)(x:Nat)(v:Int)(hkj:(k=1)≠(j=1)):KTie (σ.put k x v) j c bs:=by
 refine⟨by rw[put_cap];exact h.len,h.sorted,h.inn,fun s z=>?_,fun i hi=>?_,fun hk i hi=>?_,fun hk i hi=>?_⟩
 ·rw[h.mem s z]
  simp only[put_bufs,put_used]
 ·rw[put_cap]at hi
  rw[put_taken,put_vals_other _ _ _ _ _ hkj];exact h.val i hi
 ·rw[put_cap]at hi
  rw[put_vals_other _ _ _ _ _ hkj];exact h.wf1 hk i hi
 ·rw[put_cap]at hi
  rw[put_vals_other _ _ _ _ _ hkj];exact h.wf2 hk i hi
theorem ATie.put{σ:Sp}{a:Arr}{y:XA}(h:ATie σ a y)(k:Int)(x:Nat)(v:Int):ATie (σ.put k x v) a y:=
 ⟨h.kind,h.ro,h.l,by rw[put_cap];exact h.g,h.cells,by
  obtain⟨b,hb,r⟩:=h.buf;exact⟨b,by rw[put_bufs];exact hb,r⟩⟩
theorem BApart.put{σ:Sp}(h:BApart σ)(k:Int)(x:Nat)(v:Int):BApart (σ.put k x v):=by
 intro i j b c hb hc hi hj;rw[put_bufs]at hb hc;rw[put_used]at hi hj;exact h i j b c hb hc hi hj
theorem Tie.putB{X:XS}{sz:Nat}{σ:Sp}(h:Tie X sz σ)(hok:σ.ok)(x:Nat)(hx:x<σ.cap 1)(ht:σ.taken 1 x=true)(v:Int)(w1:0≤v∧v<256):Tie (X.putB (X.c1.set x v)) sz (σ.put 1 x v):=
 ⟨by rw[put_arrs];exact h.last,h.k1.put (by have:=hok.v1;simpa[Sp.vals,Sp.cap]using this) x hx ht v (fun _=>w1) (fun e=>by omega),h.k2.putOther x v (by simp),fun d hd=>h.non d (by rw[←put_find σ 1 x v];exact hd),fun d a hd=>by
  rw[put_find]at hd;obtain⟨y,h1,h2⟩:=h.som d a hd;exact⟨y,h1,h2.put 1 x v⟩,by rw[put_live];exact h.live,h.apart.put 1 x v⟩
theorem Tie.putI{X:XS}{sz:Nat}{σ:Sp}(h:Tie X sz σ)(hok:σ.ok)(x:Nat)(hx:x<σ.cap 2)(ht:σ.taken 2 x=true)(v:Int)(w2:IntKind.i64.wrap v=v):Tie (X.putI (X.c2.set x v)) sz (σ.put 2 x v):=
 ⟨by rw[put_arrs];exact h.last,h.k1.putOther x v (by simp),h.k2.put (by have:=hok.v2;simpa[Sp.vals,Sp.cap]using this) x hx ht v (fun e=>by omega) (fun _=>w2),fun d hd=>h.non d (by rw[←put_find σ 2 x v];exact hd),fun d a hd=>by
  rw[put_find]at hd;obtain⟨y,h1,h2⟩:=h.som d a hd;exact⟨y,h1,h2.put 2 x v⟩,by rw[put_live];exact h.live,h.apart.put 2 x v⟩
theorem wrap_u8(v:Int):IntKind.wrap .u8 v=v%256:=by simp[IntKind.wrap,IntKind.signed,IntKind.bits]
theorem Tie.writesB{X:XS}{sz:Nat}{σ:Sp}(h:Tie X sz σ)(hok:σ.ok)(P:List Int)(hP:∀j,j<P.length→0≤nth P j∧nth P j<σ.cap 1∧σ.taken 1 (nth P j)=true)(v:Int)(w1:0≤v∧v<256)(n:Nat)(hn:n≤P.length):Tie (X.putB (wrTo X.c1 P (fun _=>v) n)) sz (σ.writes 1 P (fun _=>v) n)∧∀j,(σ.writes 1 P (fun _=>v) n).taken j=σ.taken j:=by
 induction n with
 |zero=>exact⟨h,fun _=>rfl⟩
 |succ n ih=>
  obtain⟨i1,i2⟩:=ih (by omega);obtain⟨p1,p2,p3⟩:=hP n (by omega);have hc:=(writes_same σ 1 P (fun _=>v) n).2.2 1;have:=i1.putB (writes_ok hok 1 P (fun _=>v) n) (nth P n).toNat (by rw[hc];omega) (by rw[i2,show(((nth P n).toNat:Nat):Int)=nth P n by omega];exact p3) v w1;exact⟨this,fun j=>by rw[Sp.writes,put_taken];exact i2 j⟩
theorem Tie.writesI{X:XS}{sz:Nat}{σ:Sp}(h:Tie X sz σ)(hok:σ.ok)(P:List Int)(hP:∀j,j<P.length→0≤nth P j∧nth P j<σ.cap 2∧σ.taken 2 (nth P j)=true)(v:Int)(w2:IntKind.i64.wrap v=v)(n:Nat)(hn:n≤P.length):Tie (X.putI (wrTo X.c2 P (fun _=>v) n)) sz (σ.writes 2 P (fun _=>v) n)∧∀j,(σ.writes 2 P (fun _=>v) n).taken j=σ.taken j:=by
 induction n with
 |zero=>exact⟨h,fun _=>rfl⟩
 |succ n ih=>
  obtain⟨i1,i2⟩:=ih (by omega);obtain⟨p1,p2,p3⟩:=hP n (by omega);have hc:=(writes_same σ 2 P (fun _=>v) n).2.2 2;have:=i1.putI (writes_ok hok 2 P (fun _=>v) n) (nth P n).toNat (by rw[hc];omega) (by rw[i2,show(((nth P n).toNat:Nat):Int)=nth P n by omega];exact p3) v w2;exact⟨this,fun j=>by rw[Sp.writes,put_taken];exact i2 j⟩
open Go.RowKit Go.Maps Go.ChangeMaps Go.MapKept
theorem xGet_none{T:Tags}{o:Nat}{w:World}{p:Nat}{L:XL}{X:XS}(h:XAt T o w p L X)(hd:Int)(vi:Value)(hA:X.A hd=none):Calls Tryz.prog 37 #[.pointer (some ⟨p,0,none⟩),.int .i64 hd,vi] w fun e w'=>e=.returned (.tuple #[.int .i64 0,.int .i64 2])∧Kp0 w w':=by
 have HF:=hid (xfind_none h hd hA);unfold xaZ at HF;clear h;go_enter Tryz.func37,Tryz.ntmps37
 go_wp2_with fail
 refine HF.out.mono ?_;rintro e w2 ⟨rfl,hw⟩;have HK:=hid hw;clear hw;go_wp2
 go_ret2
 exact⟨rfl,HK.out.alloc _⟩
theorem xValues_none{T:Tags}{o:Nat}{w:World}{p:Nat}{L:XL}{X:XS}(h:XAt T o w p L X)(hd:Int)(hA:X.A hd=none):Calls Tryz.prog 26 #[.pointer (some ⟨p,0,none⟩),.int .i64 hd] w fun e w'=>e=.returned (.tuple #[.slice none 0 0,.int .i64 2])∧Kp0 w w':=by
 have HF:=hid (xfind_none h hd hA);unfold xaZ at HF;clear h;go_enter Tryz.func26,Tryz.ntmps26
 go_wp2_with fail
 refine HF.out.mono ?_;rintro e w2 ⟨rfl,hw⟩;have HK:=hid hw;clear hw;go_wp2
 go_ret2
 exact⟨rfl,HK.out.alloc _⟩
theorem xSet_none{T:Tags}{o:Nat}{w:World}{p:Nat}{L:XL}{X:XS}(h:XAt T o w p L X)(hd:Int)(v:Int)(vi:Value)(hA:X.A hd=none):Calls Tryz.prog 36 #[.pointer (some ⟨p,0,none⟩),.int .i64 hd,.int .i64 v,vi] w fun e w'=>e=.returned (.int .i64 2)∧Kp0 w w':=by
 have HF:=hid (xfindw_none h hd hA);unfold xaZ at HF;clear h;go_enter Tryz.func36,Tryz.ntmps36
 go_wp2_with fail
 refine HF.out.mono ?_;rintro e w2 ⟨rfl,hw⟩;have HK:=hid hw;clear hw;go_wp2
 go_ret;exact⟨rfl,HK.out.alloc _⟩
theorem xSet_ro{T:Tags}{o:Nat}{w:World}{p:Nat}{L:XL}{X:XS}(h:XAt T o w p L X)(hd:Int)(v:Int)(vi:Value)(x:XA)(hA:X.A hd=some x)(hk:x.kind=1∨x.kind=2)(hro:x.ro=true):Calls Tryz.prog 36 #[.pointer (some ⟨p,0,none⟩),.int .i64 hd,.int .i64 v,vi] w fun e w'=>e=.returned (.int .i64 6)∧Kp0 w w':=by
 have HF:=hid (xfindw_ro h hd x hA hk hro);unfold xaZ at HF;clear h;go_enter Tryz.func36,Tryz.ntmps36
 go_wp2_with fail
 refine HF.out.mono ?_;rintro e w2 ⟨rfl,hw⟩;have HK:=hid hw;clear hw;go_wp2
 go_ret;exact⟨rfl,HK.out.alloc _⟩
theorem xFill_none{T:Tags}{o:Nat}{w:World}{p:Nat}{L:XL}{X:XS}(h:XAt T o w p L X)(hd:Int)(v:Int)(hA:X.A hd=none):Calls Tryz.prog 64 #[.pointer (some ⟨p,0,none⟩),.int .i64 hd,.int .i64 v] w fun e w'=>e=.returned (.int .i64 2)∧Kp0 w w':=by
 have HF:=hid (xfindw_none h hd hA);unfold xaZ at HF;clear h;go_enter Tryz.func64,Tryz.ntmps64
 go_wp2_with fail
 refine HF.out.mono ?_;rintro e w2 ⟨rfl,hw⟩;have HK:=hid hw;clear hw;go_wp2
 go_ret;exact⟨rfl,HK.out.alloc _⟩
theorem xFill_ro{T:Tags}{o:Nat}{w:World}{p:Nat}{L:XL}{X:XS}(h:XAt T o w p L X)(hd:Int)(v:Int)(x:XA)(hA:X.A hd=some x)(hk:x.kind=1∨x.kind=2)(hro:x.ro=true):Calls Tryz.prog 64 #[.pointer (some ⟨p,0,none⟩),.int .i64 hd,.int .i64 v] w fun e w'=>e=.returned (.int .i64 6)∧Kp0 w w':=by
 have HF:=hid (xfindw_ro h hd x hA hk hro);unfold xaZ at HF;clear h;go_enter Tryz.func64,Tryz.ntmps64
 go_wp2_with fail
 refine HF.out.mono ?_;rintro e w2 ⟨rfl,hw⟩;have HK:=hid hw;clear hw;go_wp2
 go_ret;exact⟨rfl,HK.out.alloc _⟩
theorem xFree_none{T:Tags}{o:Nat}{w:World}{p:Nat}{L:XL}{X:XS}(h:XAt T o w p L X)(hd:Int)(hA:X.A hd=none):Calls Tryz.prog 25 #[.pointer (some ⟨p,0,none⟩),.int .i64 hd] w fun e w'=>e=.returned (.int .i64 2)∧Kp0 w w':=by
 have HF:=hid (xfind_none h hd hA);unfold xaZ at HF;clear h;go_enter Tryz.func25,Tryz.ntmps25
 go_wp2_with fail
 refine HF.out.mono ?_;rintro e w2 ⟨rfl,hw⟩;have HK:=hid hw;clear hw;go_wp2
 go_ret;exact⟨rfl,HK.out.alloc _⟩
theorem Tryz.szLook:(Tryz.prog.info? 96).map (·.size)=some 3:=by kernel_rfl
theorem xStore_none(p:Nat)(w:World)(kind:Int)(h1:kind≠1)(h2:kind≠2):Calls Tryz.prog 27 #[.pointer (some ⟨p,0,none⟩),.int .i64 kind] w fun e w'=>e=.returned (.tuple #[.agg #[.int .i64 0,.int .i64 0,.int .i64 0],.int .i64 3])∧Kp0 w w':=by
 have HS:=hid (fun W=>xstoreOf_none p W kind h1 h2);go_enter Tryz.func27,Tryz.ntmps27
 go_wp2_with fail
 refine(HS.out _).mono ?_;rintro e w2 ⟨rfl,hw⟩;obtain rfl:=hw.symm;go_wp2
 go_returns
 exact⟨rfl,(Kp.refl _ w).alloc _⟩
def XS.told(X:XS)(kind:Int):Int×Int×Int:=if kind=1 then(X.c1.length,sumTo X.b1 X.b1.length,endTo X.b1 X.b1.length)else(X.c2.length,sumTo X.b2 X.b2.length,endTo X.b2 X.b2.length)
theorem xStore_some{T:Tags}{o:Nat}{w:World}{p:Nat}{L:XL}{X:XS}(h:XAt T o w p L X)(kind:Int)(hk:kind=1∨kind=2)(i1:bufsIn X.c1.length X.b1)(i2:bufsIn X.c2.length X.b2)(c1:X.c1.length≤10000)(c2:X.c2.length≤10000)(l1:X.b1.length≤100000000)(l2:X.b2.length≤100000000):Calls Tryz.prog 27 #[.pointer (some ⟨p,0,none⟩),.int .i64 kind] w fun e w'=>e=.returned (.tuple #[.agg #[.int .i64 (X.told kind).1,.int .i64 (X.told kind).2.1,.int .i64 (X.told kind).2.2],.int .i64 0])∧Kp0 w w':=by
 have HS:=hid (fun W (k:Kp0 w W)=>xstoreOf_calls (h.kp0 k) kind hk);have H1:Hid (∀W,Kp0 w W→Calls Tryz.prog 196 #[.pointer (some ⟨L.q1,0,none⟩)] W fun e w'=>e=.returned (.agg #[.int .i64 (X.told 1).1,.int .i64 (X.told 1).2.1,.int .i64 (X.told 1).2.2])∧Kp0 W w'):=fun W k=>xStateB_calls (h.kp0 k).s1 i1 c1 l1
 have H2:Hid (∀W,Kp0 w W→Calls Tryz.prog 216 #[.pointer (some ⟨L.q2,0,none⟩)] W fun e w'=>e=.returned (.agg #[.int .i64 (X.told 2).1,.int .i64 (X.told 2).2.1,.int .i64 (X.told 2).2.2])∧Kp0 W w'):=fun W k=>xStateI_calls (h.kp0 k).s2 i2 c2 l2
 have HB:Hid ((w.alloc (.cells #[.int .i64 0,.int .i64 0,.int .i64 0] 61)).heap[w.heap.size]? =some (.cells #[.int .i64 0,.int .i64 0,.int .i64 0] 61 (0,0))):=heap_alloc_new w _;have HKW:Hid (Kp0 w (w.alloc (.cells #[.int .i64 0,.int .i64 0,.int .i64 0] 61))):=(Kp.refl _ w).alloc _;have HBB:Hid (w.heap.size=w.heap.size):=rfl;clear h i1 i2 c1 c2 l1 l2;rcases hk with rfl|rfl
 ·generalize (X.told 1).1=a1 at*
  generalize (X.told 1).2.1=a2 at*;generalize (X.told 1).2.2=a3 at*;go_enter Tryz.func27,Tryz.ntmps27
  go_wp2_with fail
  refine(HS.out _ HKW.out).mono ?_;rintro e w2 ⟨rfl,hw⟩;obtain rfl:=hw.symm;rw[show L.inV 1=.iface 126 (.pointer (some ⟨L.q1,0,none⟩))from rfl]
  go_wp2_with fail
  refine(H1.out _ HKW.out).mono ?_;rintro e w3 ⟨rfl,hw⟩;have HB3:=hid (hw.heap HB.out);have HK3:Hid (Kp0 w w3):=Kp0.trans HKW.out hw;clear hw
  go_wp2_with (refine wpList_storeRow _ rfl 61 (.tmp 4) _ rfl w.heap.size _ _ rfl rfl HB3.out Tryz.szStoreB rfl (all3 rfl rfl rfl) ?_;intro w5 hB5 hK5)
  (try simp only[Exit.inBlock,Exit.then])
  refine bodyPost_ret (res_cell2 rfl _ _ w.heap.size _ _ _ _ rfl hB5 Tryz.underlying61 rfl Tryz.szStoreB) rfl ?_;exact⟨rfl,Kp.trans HK3.out hK5 (fun i hi e=>by omega)⟩
 ·generalize (X.told 2).1=a1 at*
  generalize (X.told 2).2.1=a2 at*;generalize (X.told 2).2.2=a3 at*;go_enter Tryz.func27,Tryz.ntmps27
  go_wp2_with fail
  refine(HS.out _ HKW.out).mono ?_;rintro e w2 ⟨rfl,hw⟩;obtain rfl:=hw.symm;rw[show L.inV 2=.iface 127 (.pointer (some ⟨L.q2,0,none⟩))from rfl]
  go_wp2_with fail
  refine(H2.out _ HKW.out).mono ?_;rintro e w3 ⟨rfl,hw⟩;have HB3:=hid (hw.heap HB.out);have HK3:Hid (Kp0 w w3):=Kp0.trans HKW.out hw;clear hw
  go_wp2_with (refine wpList_storeRow _ rfl 61 (.tmp 4) _ rfl w.heap.size _ _ rfl rfl HB3.out Tryz.szStoreB rfl (all3 rfl rfl rfl) ?_;intro w5 hB5 hK5)
  (try simp only[Exit.inBlock,Exit.then])
  refine bodyPost_ret (res_cell2 rfl _ _ w.heap.size _ _ _ _ rfl hB5 Tryz.underlying61 rfl Tryz.szStoreB) rfl ?_;exact⟨rfl,Kp.trans HK3.out hK5 (fun i hi e=>by omega)⟩
theorem xLook_none{T:Tags}{o:Nat}{w:World}{p:Nat}{L:XL}{X:XS}(h:XAt T o w p L X)(hd:Int)(hA:X.A hd=none):Calls Tryz.prog 49 #[.pointer (some ⟨p,0,none⟩),.int .i64 hd] w fun e w'=>e=.returned (.tuple #[.agg #[.int .i64 0,.slice none 0 0,.bool false],.int .i64 2])∧Kp0 w w':=by
 have HF:=hid (fun W (k:Kp0 w W)=>xfind_none (h.kp0 k) hd hA);unfold xaZ at HF;have HB:Hid ((w.alloc (.cells #[.int .i64 0,.slice none 0 0,.bool false] 96)).heap[w.heap.size]? =some (.cells #[.int .i64 0,.slice none 0 0,.bool false] 96 (0,0))):=heap_alloc_new w _;have HKW:Hid (Kp0 w (w.alloc (.cells #[.int .i64 0,.slice none 0 0,.bool false] 96))):=(Kp.refl _ w).alloc _;clear h hA;go_enter Tryz.func49,Tryz.ntmps49
 go_wp2_with fail
 refine(HF.out _ HKW.out).mono ?_;rintro e w2 ⟨rfl,hw⟩;have HB3:Hid (∀O,(w2.alloc O).heap[w.heap.size]? =some (.cells #[.int .i64 0,.slice none 0 0,.bool false] 96 (0,0))):=fun O=>heap_alloc_keeps (hw.heap HB.out) O
 have HK3:Hid (Kp0 w w2):=Kp0.trans HKW.out hw;clear hw
 go_wp2_with (refine wpList_storeRow _ rfl 96 (.tmp 4) _ rfl w.heap.size _ _ rfl rfl (HB3.out _) Tryz.szLook rfl (all3 rfl rfl rfl) ?_;intro w5 hB5 hK5)
 (try simp only[Exit.inBlock,Exit.then])
 refine bodyPost_ret (res_cell2 rfl _ _ w.heap.size _ _ _ _ rfl hB5 Tryz.underlying96 rfl Tryz.szLook) rfl ?_;exact⟨rfl,Kp.trans (HK3.out.alloc _) hK5 (fun i hi e=>by omega)⟩
theorem Tryz.mFillB(a:Addr)(x y:Value)(w:World):(callMethod (.iface 126 (.pointer (some a))) "Fill" #[x,y]).run Tryz.prog w=.ok (.enter 193 #[.pointer (some a),x,y]) w:=by kernel_rfl
theorem Tryz.mReadB(a:Addr)(x:Value)(w:World):(callMethod (.iface 126 (.pointer (some a))) "Read" #[x]).run Tryz.prog w=.ok (.enter 195 #[.pointer (some a),x]) w:=by kernel_rfl
theorem Tryz.nFillB(a:Addr)(w:World):(nilAhead 367 126 (.pointer (some a)) "Fill").run Tryz.prog w=.ok (some false) w:=by kernel_rfl
theorem Tryz.nReadB(a:Addr)(w:World):(nilAhead 367 126 (.pointer (some a)) "Read").run Tryz.prog w=.ok (some false) w:=by kernel_rfl
theorem xValuesB{T:Tags}{o:Nat}{w:World}{p:Nat}{L:XL}{X:XS}(h:XAt T o w p L X)(hd:Int)(x:XA)(hA:X.A hd=some x)(hk:x.kind=1)(hg:GOk x.l x.t x.f X.c1.length)(hw:∀j,j<X.c1.length→IntKind.i64.wrap (nth X.c1 j)=nth X.c1 j):Calls Tryz.prog 26 #[.pointer (some ⟨p,0,none⟩),.int .i64 hd] w fun e w'=>∃v,e=.returned (.tuple #[v,.int .i64 0])∧NewI w w' v ((gc x.l x.t x.f x.l.length).map fun c=>nth X.c1 c.toNat):=by
 have HF:=hid (xfind_some h hd x hA (by omega));have hlen:(gc x.l x.t x.f x.l.length).length≤1000000:=by
  have h1:=gc_length x.l x.t x.f hg.shape.2.1 x.l.length (Nat.le_refl _);rw[List.take_length]at h1;have:=hg.shape.2.2;omega
 have HC:Hid (∀W,Kp0 w W→Calls Tryz.prog 60 #[.agg (grC x.l x.t x.f).toArray] W fun e w'=>∃v,e=.returned v∧(NewI W w' v (gc x.l x.t x.f x.l.length)∧Kp0 w w')):=fun W k=>(xcells_calls x.l x.t x.f _ W hg).mono (fun e w' ⟨v,h1,h2⟩=>⟨v,h1,h2,by obtain⟨_,_,_,_,h3,_⟩:=h2;exact Kp0.trans k h3⟩)
 generalize hP:gc x.l x.t x.f x.l.length=P at*;have hin:=hg.inside;rw[hP]at hin;have HR:Hid (∀W vp W0,Kp0 w W→NewI W0 W vp P→Calls Tryz.prog 195 #[.pointer (some ⟨L.q1,0,none⟩),vp] W fun e w'=>∃v,e=.returned v∧NewI w w' v (P.map fun c=>nth X.c1 c.toNat)):=fun W vp W0 k hn=>by
  have hr0:RdI W vp P:=by obtain⟨_,_,rfl,h1,_⟩:=hn;exact h1.rd
  refine(xReadB_calls (h.kp0 k).s1 P vp hr0 hin hw hlen).mono ?_;rintro e w' ⟨v,rfl,ao,c,rfl,h1,h2,h3⟩;exact⟨_,rfl,ao,c,rfl,h1,Kp0.trans k h2,fun b hb=>Nat.le_trans k.size (h3 b hb)⟩
 generalize (P.map fun c=>nth X.c1 c.toNat)=V at*;unfold grC at HC;rw[hk,inVB]at HF;unfold XA.cs at HF;rw[hk]at HF;have HMR:=hid (Tryz.mReadB ⟨L.q1,0,none⟩);clear h hA hg hw hlen hP hin;go_enter Tryz.func26,Tryz.ntmps26
 go_wp2_with fail
 refine HF.out.mono ?_;rintro e w2 ⟨rfl,hw⟩;have HK:=hid hw;clear hw;have HB:Hid ((w2.alloc (.cells #[.int .i64 1,.int .i64 x.buf,.int .i64 (nth x.l 0),.int .i64 (nth x.l 1),.int .i64 (nth x.l 2),.int .i64 (nth x.l 3),.int .i64 (x.l.length:Int),.int .i64 x.f,.int .i64 (nth x.t 0),.int .i64 (nth x.t 1),.int .i64 (nth x.t 2),.int .i64 (nth x.t 3),.bool x.ro] 109)).heap[w2.heap.size]? =some (.cells #[.int .i64 1,.int .i64 x.buf,.int .i64 (nth x.l 0),.int .i64 (nth x.l 1),.int .i64 (nth x.l 2),.int .i64 (nth x.l 3),.int .i64 (x.l.length:Int),.int .i64 x.f,.int .i64 (nth x.t 0),.int .i64 (nth x.t 1),.int .i64 (nth x.t 2),.int .i64 (nth x.t 3),.bool x.ro] 109 (0,0))):=heap_alloc_new w2 _;have HKW:Hid (Kp0 w (w2.alloc (.cells #[.int .i64 1,.int .i64 x.buf,.int .i64 (nth x.l 0),.int .i64 (nth x.l 1),.int .i64 (nth x.l 2),.int .i64 (nth x.l 3),.int .i64 (x.l.length:Int),.int .i64 x.f,.int .i64 (nth x.t 0),.int .i64 (nth x.t 1),.int .i64 (nth x.t 2),.int .i64 (nth x.t 3),.bool x.ro] 109))):=HK.out.alloc _;go_wp2
 generalize w2.alloc (.cells #[.int .i64 1,.int .i64 x.buf,.int .i64 (nth x.l 0),.int .i64 (nth x.l 1),.int .i64 (nth x.l 2),.int .i64 (nth x.l 3),.int .i64 (x.l.length:Int),.int .i64 x.f,.int .i64 (nth x.t 0),.int .i64 (nth x.t 1),.int .i64 (nth x.t 2),.int .i64 (nth x.t 3),.bool x.ro] 109)=W at HB HKW⊢;generalize w2.heap.size=b at HB⊢;obtain⟨z0,z1,z2,z3,z4,z5,z6,z7,z8,z9,z10,z11,z12⟩:=cells13 HB.out;have HKD:Hid (Kp0 w W.drew):=HKW.out.drew;have hna:=Tryz.nReadB ⟨L.q1,0,none⟩
 go_region_law ((first
  |(refine step_call1 (by rfl) 60 (.tmp 21) _ (by rfl) _ Tryz.func60 (by kernel_rfl) (by kernel_rfl) _ (by rfl) (HC.out _ HKD.out) ?_;intro v7 w7 hR;obtain⟨hn7,hk7⟩:=hR)
  |(refine step_invoke1 (by rfl) (.tmp 25) "Read" (.tmp 22) _ (by rfl) _ v7 (by rfl) (by rfl) _ _ (HMR.out v7 w7) (HR.out w7 v7 W.drew hk7 hn7) ?_;intro v8 w8 hR8)))
 all_goals
  have HR8:=hid hR8;clear hR8 hn7 hk7;go_wp2
  go_ret2
  exact⟨v8,rfl,HR8.out⟩
theorem xSpFillB{T:Tags}{o:Nat}{w:World}{p:Nat}{L:XL}{X:XS}(h:XAt T o w p L X)(hd v:Int)(x:XA)(hA:X.A hd=some x)(hk:x.kind=1)(hro:x.ro=false)(hg:GOk x.l x.t x.f X.c1.length)(hv:IntKind.i64.wrap v=v):Calls Tryz.prog 64 #[.pointer (some ⟨p,0,none⟩),.int .i64 hd,.int .i64 v] w fun e w'=>e=.returned (.int .i64 0)∧Kp (fun b=>(T b).1=o) w w'∧XAt T o w' p L (X.putB (wrTo X.c1 (gc x.l x.t x.f x.l.length) (fun _=>IntKind.wrap .u8 v) (gc x.l x.t x.f x.l.length).length)):=by
 have HF:=hid (xfindw_some h hd x hA (by omega) hro);have hlen:(gc x.l x.t x.f x.l.length).length≤1000000:=by
  have h1:=gc_length x.l x.t x.f hg.shape.2.1 x.l.length (Nat.le_refl _);rw[List.take_length]at h1;have:=hg.shape.2.2;omega
 have HC:Hid (∀W,Kp0 w W→Calls Tryz.prog 60 #[.agg (grC x.l x.t x.f).toArray] W fun e w'=>∃v,e=.returned v∧(NewI W w' v (gc x.l x.t x.f x.l.length)∧Kp0 w w')):=fun W k=>(xcells_calls x.l x.t x.f _ W hg).mono (fun e w' ⟨v,h1,h2⟩=>⟨v,h1,h2,by obtain⟨_,_,_,_,h3,_⟩:=h2;exact Kp0.trans k h3⟩)
 have hin:=hg.inside;generalize gc x.l x.t x.f x.l.length=P at*;have HR:Hid (∀W vp W0,Kp0 w W→Kp0 w W0→NewI W0 W vp P→Calls Tryz.prog 193 #[.pointer (some ⟨L.q1,0,none⟩),.int .i64 v,vp] W fun e w'=>∃u,e=.returned u∧(Kp (fun b=>(T b).1=o) w w'∧XAt T o w' p L (X.putB (wrTo X.c1 P (fun _=>IntKind.wrap .u8 v) P.length)))):=fun W vp W0 k k0 hn=>by
  have hr0:RdI W vp P:=by obtain⟨_,_,rfl,h1,_⟩:=hn;exact h1.rd
  have hne:vp.ownBlock≠some L.g1:=fun e=>by
   obtain⟨ao,c,rfl,_,_,h3⟩:=hn;have:=h3 _ e;have:=k0.size;have:=lt_of_heap h.s1.cells;omega
  refine(xFillB_calls (h.kp0 k).s1 v P vp hr0 (fun _=>hne) hin hlen hv _ rfl).mono ?_;rintro e w' ⟨rfl,hk',hb⟩;exact⟨_,rfl,(Kp.of0 k).trans hk' (fun b _ e=>by rw[e,h.tg1]),(h.kp0 k).putB hk' hb (wrTo_length _ _ _ _)⟩
 generalize X.putB (wrTo X.c1 P (fun _=>IntKind.wrap .u8 v) P.length)=X' at*;unfold grC at HC;rw[hk,inVB]at HF;unfold XA.cs at HF;rw[hk,hro]at HF;have HMR:=hid (Tryz.mFillB ⟨L.q1,0,none⟩);clear h hA hg hv hlen hin;go_enter Tryz.func64,Tryz.ntmps64
 go_wp2_with fail
 refine HF.out.mono ?_;rintro e w2 ⟨rfl,hw⟩;have HK:=hid hw;clear hw;have HB:Hid ((w2.alloc (.cells #[.int .i64 1,.int .i64 x.buf,.int .i64 (nth x.l 0),.int .i64 (nth x.l 1),.int .i64 (nth x.l 2),.int .i64 (nth x.l 3),.int .i64 (x.l.length:Int),.int .i64 x.f,.int .i64 (nth x.t 0),.int .i64 (nth x.t 1),.int .i64 (nth x.t 2),.int .i64 (nth x.t 3),.bool false] 109)).heap[w2.heap.size]? =some (.cells #[.int .i64 1,.int .i64 x.buf,.int .i64 (nth x.l 0),.int .i64 (nth x.l 1),.int .i64 (nth x.l 2),.int .i64 (nth x.l 3),.int .i64 (x.l.length:Int),.int .i64 x.f,.int .i64 (nth x.t 0),.int .i64 (nth x.t 1),.int .i64 (nth x.t 2),.int .i64 (nth x.t 3),.bool false] 109 (0,0))):=heap_alloc_new w2 _;have HKW:Hid (Kp0 w (w2.alloc (.cells #[.int .i64 1,.int .i64 x.buf,.int .i64 (nth x.l 0),.int .i64 (nth x.l 1),.int .i64 (nth x.l 2),.int .i64 (nth x.l 3),.int .i64 (x.l.length:Int),.int .i64 x.f,.int .i64 (nth x.t 0),.int .i64 (nth x.t 1),.int .i64 (nth x.t 2),.int .i64 (nth x.t 3),.bool false] 109))):=HK.out.alloc _;go_wp2
 generalize w2.alloc (.cells #[.int .i64 1,.int .i64 x.buf,.int .i64 (nth x.l 0),.int .i64 (nth x.l 1),.int .i64 (nth x.l 2),.int .i64 (nth x.l 3),.int .i64 (x.l.length:Int),.int .i64 x.f,.int .i64 (nth x.t 0),.int .i64 (nth x.t 1),.int .i64 (nth x.t 2),.int .i64 (nth x.t 3),.bool false] 109)=W at HB HKW⊢;generalize w2.heap.size=b at HB⊢;obtain⟨z0,z1,z2,z3,z4,z5,z6,z7,z8,z9,z10,z11,z12⟩:=cells13 HB.out;have HKD:Hid (Kp0 w W.drew):=HKW.out.drew;have hna:=Tryz.nFillB ⟨L.q1,0,none⟩
 go_region_law ((first
  |(refine step_call1 (by rfl) 60 (.tmp 23) _ (by rfl) _ Tryz.func60 (by kernel_rfl) (by kernel_rfl) _ (by rfl) (HC.out _ HKD.out) ?_;intro v7 w7 hR;obtain⟨hn7,hk7⟩:=hR)
  |(refine step_invoke2 (by rfl) (.tmp 27) "Fill" (.tmp 21) (.tmp 24) _ (by rfl) _ (.int .i64 v) v7 (by rfl) (by rfl) (by rfl) _ _ (HMR.out (.int .i64 v) v7 w7) (HR.out w7 v7 W.drew hk7 HKD.out hn7) ?_;intro v8 w8 hR8)))
 all_goals
  have HR8:=hid hR8;clear hR8 hn7 hk7;go_wp2
  go_ret;exact⟨rfl,HR8.out.1,HR8.out.2⟩
end Go.Proofs.YticbbncdcannlaaGreat
