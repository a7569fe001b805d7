import Derived.Test.YticbbncdcannlaaGreatG18
set_option maxRecDepth 100000
set_option maxHeartbeats 8000000
namespace Go.Proofs.YticbbncdcannlaaGreat
open Go.RowKit Go.Maps Go.ChangeMaps Go.MapKept
theorem xLook_some{T:Tags}{o:Nat}{w:World}{p:Nat}{L:XL}{X:XS}(h:XAt T o w p L X)(hd:Int)(x:XA)(hA:X.A hd=some x)(hk:x.kind=1∨x.kind=2)(hl:x.l.length≤4):Calls Tryz.prog 49 #[.pointer (some ⟨p,0,none⟩),.int .i64 hd] w fun e w'=>∃v,e=.returned (.tuple #[.agg #[.int .i64 x.kind,v,.bool x.ro],.int .i64 0])∧NewI w w' v x.l:=by
 have HF:=hid (fun W (k:Kp0 w W)=>xfind_some (h.kp0 k) hd x hA hk);unfold XA.cs at HF;generalize L.inV x.kind=I at*;have HB:Hid ((w.alloc (.cells #[.int .i64 0,.slice none 0 0,.bool false] 96)).heap[w.heap.size]? =some (.cells #[.int .i64 0,.slice none 0 0,.bool false] 96 (0,0))):=heap_alloc_new w _;have HKW:Hid (Kp0 w (w.alloc (.cells #[.int .i64 0,.slice none 0 0,.bool false] 96))):=(Kp.refl _ w).alloc _;obtain⟨b0,hb0⟩:∃b0,w.heap.size=b0:=⟨_,rfl⟩;have HLC:Hid (∀W,Kp0 w W→W.heap[b0]? =some (.cells #[.int .i64 0,.slice none 0 0,.bool false] 96 (0,0))→Calls Tryz.prog 84 #[.agg (shC x.l).toArray] W fun e w'=>∃v,e=.returned v∧(∃ao n c,v=.slice ao n c∧Hid (NewI w w' v x.l∧w'.heap[b0]? =some (.cells #[.int .i64 0,.slice none 0 0,.bool false] 96 (0,0))∧Kp0 w w'∧Kp0 W w'∧∀b,v.ownBlock=some b→b≠b0)∧
   (w'.cell? ⟨b0,0,none⟩=some (.int .i64 0)∧w'.cell? ⟨b0,1,none⟩=some (.slice none 0 0)∧w'.cell? ⟨b0,2,none⟩=some (.bool false))∧(w'.frozen? ⟨b0,0,none⟩=false∧w'.frozen? ⟨b0,1,none⟩=false∧w'.frozen? ⟨b0,2,none⟩=false))):=fun W k hb=>by
  refine(xlist_calls x.l W hl).mono ?_;rintro e w' ⟨v,rfl,ao,c,rfl,h1,h2,h3⟩;have hb':=h2.heap hb;exact⟨_,rfl,ao,_,c,rfl,⟨⟨ao,c,rfl,h1,Kp0.trans k h2,fun b e=>Nat.le_trans k.size (h3 b e)⟩,hb',Kp0.trans k h2,h2,fun b e=>by have:=h3 b e;have:=lt_of_heap hb;omega⟩,⟨cell_of_row _ _ 0 _ _ _ hb',cell_of_row _ _ 1 _ _ _ hb',cell_of_row _ _ 2 _ _ _ hb'⟩,frozen_of_row _ _ _ _ _ hb',frozen_of_row _ _ _ _ _ hb',frozen_of_row _ _ _ _ _ hb'⟩
 unfold shC at HLC;rw[hb0]at HB;have HBB:=hid hb0;clear h hA hl;go_enter Tryz.func49,Tryz.ntmps49
 go_wp2_with fail
 refine(HF.out _ HKW.out).mono ?_;rintro e w2 ⟨rfl,hw⟩;have HB2:=hid (hw.heap HB.out);have HK2:Hid (Kp0 w w2):=Kp0.trans HKW.out hw;clear hw;clear hb0;have hlt:b0<w2.heap.size:=lt_of_heap HB2.out;have HBA:Hid ((w2.alloc (.cells #[.int .i64 x.kind,.int .i64 x.buf,.int .i64 (nth x.l 0),.int .i64 (nth x.l 1),.int .i64 (nth x.l 2),.int .i64 (nth x.l 3),.int .i64 (x.l.length:Int),.int .i64 x.f,.int .i64 (nth x.t 0),.int .i64 (nth x.t 1),.int .i64 (nth x.t 2),.int .i64 (nth x.t 3),.bool x.ro] 109)).heap[w2.heap.size]? =some (.cells #[.int .i64 x.kind,.int .i64 x.buf,.int .i64 (nth x.l 0),.int .i64 (nth x.l 1),.int .i64 (nth x.l 2),.int .i64 (nth x.l 3),.int .i64 (x.l.length:Int),.int .i64 x.f,.int .i64 (nth x.t 0),.int .i64 (nth x.t 1),.int .i64 (nth x.t 2),.int .i64 (nth x.t 3),.bool x.ro] 109 (0,0))):=heap_alloc_new w2 _;have HB3:=hid (heap_alloc_keeps HB2.out (.cells #[.int .i64 x.kind,.int .i64 x.buf,.int .i64 (nth x.l 0),.int .i64 (nth x.l 1),.int .i64 (nth x.l 2),.int .i64 (nth x.l 3),.int .i64 (x.l.length:Int),.int .i64 x.f,.int .i64 (nth x.t 0),.int .i64 (nth x.t 1),.int .i64 (nth x.t 2),.int .i64 (nth x.t 3),.bool x.ro] 109));have HK3:Hid (Kp0 w (w2.alloc (.cells #[.int .i64 x.kind,.int .i64 x.buf,.int .i64 (nth x.l 0),.int .i64 (nth x.l 1),.int .i64 (nth x.l 2),.int .i64 (nth x.l 3),.int .i64 (x.l.length:Int),.int .i64 x.f,.int .i64 (nth x.t 0),.int .i64 (nth x.t 1),.int .i64 (nth x.t 2),.int .i64 (nth x.t 3),.bool x.ro] 109))):=HK2.out.alloc _;have HNB:Hid (w2.heap.size≠b0):=hid (by omega);go_wp2
 generalize w2.alloc (.cells #[.int .i64 x.kind,.int .i64 x.buf,.int .i64 (nth x.l 0),.int .i64 (nth x.l 1),.int .i64 (nth x.l 2),.int .i64 (nth x.l 3),.int .i64 (x.l.length:Int),.int .i64 x.f,.int .i64 (nth x.t 0),.int .i64 (nth x.t 1),.int .i64 (nth x.t 2),.int .i64 (nth x.t 3),.bool x.ro] 109)=W at HB3 HK3 HBA⊢;clear hlt;generalize w2.heap.size=b at HBA HNB⊢;obtain⟨z0,z1,z2,z3,z4,z5,z6,z7,z8,z9,z10,z11,z12⟩:=cells13 HBA.out;have HLD:=hid (HLC.out W.drew HK3.out.drew HB3.out)
 go_region_law ((refine step_call1 (by rfl) 84 (.tmp 24) _ (by rfl) _ Tryz.func84 (by kernel_rfl) (by kernel_rfl) _ (by rfl) HLD.out ?_;intro v7 w7 hR;obtain⟨ao7,n7,c7,rfl,hR7,⟨y0,y1,y2⟩,f0,f1,f2⟩:=hR;have x0:=hR7.out.2.2.2.1.cell z0;have x12:=hR7.out.2.2.2.1.cell z12))
 all_goals
  have HR7:=hid hR7.out;clear hR7;go_wp2
  (try simp only[Exit.inBlock,Exit.then])
  refine bodyPost_ret (res_cell2 rfl _ _ b0 _ _ _ _ rfl (chain3 _ b0 _ _ _ _ _ _ _ HR7.out.2.1) Tryz.underlying96 rfl Tryz.szLook) rfl ?_;obtain⟨⟨ao,c,e1,h1,h2,h3⟩,hb7,hk7,-,hnb⟩:=HR7.out;have e2:=e1;simp at e2;obtain⟨rfl,rfl,rfl⟩:=e2;have kc:Kp (fun b=>b=b0) w7 (((w7.setCell ⟨b0,0,none⟩ (.int .i64 x.kind)).setCell ⟨b0,1,none⟩ (.slice ao7 x.l.length c7)).setCell ⟨b0,2,none⟩ (.bool x.ro)):=kchain3 (Kp.refl _ w7) b0 _ _ _ (fun _=>rfl);refine⟨_,rfl,ao7,c7,rfl,h1.kp kc (fun b hb e=>hnb b hb e),Kp.trans h2 kc (fun b hb e=>by have:=HBB.out;omega),h3⟩
theorem Tryz.mFillI(a:Addr)(x y:Value)(w:World):(callMethod (.iface 127 (.pointer (some a))) "Fill" #[x,y]).run Tryz.prog w=.ok (.enter 213 #[.pointer (some a),x,y]) w:=by kernel_rfl
theorem Tryz.mReadI(a:Addr)(x:Value)(w:World):(callMethod (.iface 127 (.pointer (some a))) "Read" #[x]).run Tryz.prog w=.ok (.enter 215 #[.pointer (some a),x]) w:=by kernel_rfl
theorem Tryz.nFillI(a:Addr)(w:World):(nilAhead 367 127 (.pointer (some a)) "Fill").run Tryz.prog w=.ok (some false) w:=by kernel_rfl
theorem Tryz.nReadI(a:Addr)(w:World):(nilAhead 367 127 (.pointer (some a)) "Read").run Tryz.prog w=.ok (some false) w:=by kernel_rfl
theorem xValuesI{T:Tags}{o:Nat}{w:World}{p:Nat}{L:XL}{X:XS}(h:XAt T o w p L X)(hd:Int)(x:XA)(hA:X.A hd=some x)(hk:x.kind=2)(hg:GOk x.l x.t x.f X.c2.length)(hw:∀j,j<X.c2.length→IntKind.i64.wrap (nth X.c2 j)=nth X.c2 j):Calls Tryz.prog 26 #[.pointer (some ⟨p,0,none⟩),.int .i64 hd] w fun e w'=>∃v,e=.returned (.tuple #[v,.int .i64 0])∧NewI w w' v ((gc x.l x.t x.f x.l.length).map fun c=>nth X.c2 c.toNat):=by
 have HF:=hid (xfind_some h hd x hA (by omega));have hlen:(gc x.l x.t x.f x.l.length).length≤1000000:=by
  have h1:=gc_length x.l x.t x.f hg.shape.2.1 x.l.length (Nat.le_refl _);rw[List.take_length]at h1;have:=hg.shape.2.2;omega
 have HC:Hid (∀W,Kp0 w W→Calls Tryz.prog 60 #[.agg (grC x.l x.t x.f).toArray] W fun e w'=>∃v,e=.returned v∧(NewI W w' v (gc x.l x.t x.f x.l.length)∧Kp0 w w')):=fun W k=>(xcells_calls x.l x.t x.f _ W hg).mono (fun e w' ⟨v,h1,h2⟩=>⟨v,h1,h2,by obtain⟨_,_,_,_,h3,_⟩:=h2;exact Kp0.trans k h3⟩)
 generalize hP:gc x.l x.t x.f x.l.length=P at*;have hin:=hg.inside;rw[hP]at hin;have HR:Hid (∀W vp W0,Kp0 w W→NewI W0 W vp P→Calls Tryz.prog 215 #[.pointer (some ⟨L.q2,0,none⟩),vp] W fun e w'=>∃v,e=.returned v∧NewI w w' v (P.map fun c=>nth X.c2 c.toNat)):=fun W vp W0 k hn=>by
  have hr0:RdI W vp P:=by obtain⟨_,_,rfl,h1,_⟩:=hn;exact h1.rd
  refine(xReadI_calls (h.kp0 k).s2 P vp hr0 hin hw hlen).mono ?_;rintro e w' ⟨v,rfl,ao,c,rfl,h1,h2,h3⟩;exact⟨_,rfl,ao,c,rfl,h1,Kp0.trans k h2,fun b hb=>Nat.le_trans k.size (h3 b hb)⟩
 generalize (P.map fun c=>nth X.c2 c.toNat)=V at*;unfold grC at HC;rw[hk,inVI]at HF;unfold XA.cs at HF;rw[hk]at HF;have HMR:=hid (Tryz.mReadI ⟨L.q2,0,none⟩);clear h hA hg hw hlen hP hin;go_enter Tryz.func26,Tryz.ntmps26
 go_wp2_with fail
 refine HF.out.mono ?_;rintro e w2 ⟨rfl,hw⟩;have HK:=hid hw;clear hw;have HB:Hid ((w2.alloc (.cells #[.int .i64 2,.int .i64 x.buf,.int .i64 (nth x.l 0),.int .i64 (nth x.l 1),.int .i64 (nth x.l 2),.int .i64 (nth x.l 3),.int .i64 (x.l.length:Int),.int .i64 x.f,.int .i64 (nth x.t 0),.int .i64 (nth x.t 1),.int .i64 (nth x.t 2),.int .i64 (nth x.t 3),.bool x.ro] 109)).heap[w2.heap.size]? =some (.cells #[.int .i64 2,.int .i64 x.buf,.int .i64 (nth x.l 0),.int .i64 (nth x.l 1),.int .i64 (nth x.l 2),.int .i64 (nth x.l 3),.int .i64 (x.l.length:Int),.int .i64 x.f,.int .i64 (nth x.t 0),.int .i64 (nth x.t 1),.int .i64 (nth x.t 2),.int .i64 (nth x.t 3),.bool x.ro] 109 (0,0))):=heap_alloc_new w2 _;have HKW:Hid (Kp0 w (w2.alloc (.cells #[.int .i64 2,.int .i64 x.buf,.int .i64 (nth x.l 0),.int .i64 (nth x.l 1),.int .i64 (nth x.l 2),.int .i64 (nth x.l 3),.int .i64 (x.l.length:Int),.int .i64 x.f,.int .i64 (nth x.t 0),.int .i64 (nth x.t 1),.int .i64 (nth x.t 2),.int .i64 (nth x.t 3),.bool x.ro] 109))):=HK.out.alloc _;go_wp2
 generalize w2.alloc (.cells #[.int .i64 2,.int .i64 x.buf,.int .i64 (nth x.l 0),.int .i64 (nth x.l 1),.int .i64 (nth x.l 2),.int .i64 (nth x.l 3),.int .i64 (x.l.length:Int),.int .i64 x.f,.int .i64 (nth x.t 0),.int .i64 (nth x.t 1),.int .i64 (nth x.t 2),.int .i64 (nth x.t 3),.bool x.ro] 109)=W at HB HKW⊢;generalize w2.heap.size=b at HB⊢;obtain⟨z0,z1,z2,z3,z4,z5,z6,z7,z8,z9,z10,z11,z12⟩:=cells13 HB.out;have HKD:Hid (Kp0 w W.drew):=HKW.out.drew;have hna:=Tryz.nReadI ⟨L.q2,0,none⟩
 go_region_law ((first
  |(refine step_call1 (by rfl) 60 (.tmp 21) _ (by rfl) _ Tryz.func60 (by kernel_rfl) (by kernel_rfl) _ (by rfl) (HC.out _ HKD.out) ?_;intro v7 w7 hR;obtain⟨hn7,hk7⟩:=hR)
  |(refine step_invoke1 (by rfl) (.tmp 25) "Read" (.tmp 22) _ (by rfl) _ v7 (by rfl) (by rfl) _ _ (HMR.out v7 w7) (HR.out w7 v7 W.drew hk7 hn7) ?_;intro v8 w8 hR8)))
 all_goals
  have HR8:=hid hR8;clear hR8 hn7 hk7;go_wp2
  go_ret2
  exact⟨v8,rfl,HR8.out⟩
theorem xSpFillI{T:Tags}{o:Nat}{w:World}{p:Nat}{L:XL}{X:XS}(h:XAt T o w p L X)(hd v:Int)(x:XA)(hA:X.A hd=some x)(hk:x.kind=2)(hro:x.ro=false)(hg:GOk x.l x.t x.f X.c2.length)(hv:IntKind.i64.wrap v=v):Calls Tryz.prog 64 #[.pointer (some ⟨p,0,none⟩),.int .i64 hd,.int .i64 v] w fun e w'=>e=.returned (.int .i64 0)∧Kp (fun b=>(T b).1=o) w w'∧XAt T o w' p L (X.putI (wrTo X.c2 (gc x.l x.t x.f x.l.length) (fun _=>IntKind.wrap .i64 v) (gc x.l x.t x.f x.l.length).length)):=by
 have HF:=hid (xfindw_some h hd x hA (by omega) hro);have hlen:(gc x.l x.t x.f x.l.length).length≤1000000:=by
  have h1:=gc_length x.l x.t x.f hg.shape.2.1 x.l.length (Nat.le_refl _);rw[List.take_length]at h1;have:=hg.shape.2.2;omega
 have HC:Hid (∀W,Kp0 w W→Calls Tryz.prog 60 #[.agg (grC x.l x.t x.f).toArray] W fun e w'=>∃v,e=.returned v∧(NewI W w' v (gc x.l x.t x.f x.l.length)∧Kp0 w w')):=fun W k=>(xcells_calls x.l x.t x.f _ W hg).mono (fun e w' ⟨v,h1,h2⟩=>⟨v,h1,h2,by obtain⟨_,_,_,_,h3,_⟩:=h2;exact Kp0.trans k h3⟩)
 have hin:=hg.inside;generalize gc x.l x.t x.f x.l.length=P at*;have HR:Hid (∀W vp W0,Kp0 w W→Kp0 w W0→NewI W0 W vp P→Calls Tryz.prog 213 #[.pointer (some ⟨L.q2,0,none⟩),.int .i64 v,vp] W fun e w'=>∃u,e=.returned u∧(Kp (fun b=>(T b).1=o) w w'∧XAt T o w' p L (X.putI (wrTo X.c2 P (fun _=>IntKind.wrap .i64 v) P.length)))):=fun W vp W0 k k0 hn=>by
  have hr0:RdI W vp P:=by obtain⟨_,_,rfl,h1,_⟩:=hn;exact h1.rd
  have hne:vp.ownBlock≠some L.g2:=fun e=>by
   obtain⟨ao,c,rfl,_,_,h3⟩:=hn;have:=h3 _ e;have:=k0.size;have:=lt_of_heap h.s2.cells;omega
  refine(xFillI_calls (h.kp0 k).s2 v P vp hr0 (fun _=>hne) hin hlen hv _ rfl).mono ?_;rintro e w' ⟨rfl,hk',hb⟩;exact⟨_,rfl,(Kp.of0 k).trans hk' (fun b _ e=>by rw[e,h.tg2]),(h.kp0 k).putI hk' hb (wrTo_length _ _ _ _)⟩
 generalize X.putI (wrTo X.c2 P (fun _=>IntKind.wrap .i64 v) P.length)=X' at*;unfold grC at HC;rw[hk,inVI]at HF;unfold XA.cs at HF;rw[hk,hro]at HF;have HMR:=hid (Tryz.mFillI ⟨L.q2,0,none⟩);clear h hA hg hv hlen hin;go_enter Tryz.func64,Tryz.ntmps64
 go_wp2_with fail
 refine HF.out.mono ?_;rintro e w2 ⟨rfl,hw⟩;have HK:=hid hw;clear hw;have HB:Hid ((w2.alloc (.cells #[.int .i64 2,.int .i64 x.buf,.int .i64 (nth x.l 0),.int .i64 (nth x.l 1),.int .i64 (nth x.l 2),.int .i64 (nth x.l 3),.int .i64 (x.l.length:Int),.int .i64 x.f,.int .i64 (nth x.t 0),.int .i64 (nth x.t 1),.int .i64 (nth x.t 2),.int .i64 (nth x.t 3),.bool false] 109)).heap[w2.heap.size]? =some (.cells #[.int .i64 2,.int .i64 x.buf,.int .i64 (nth x.l 0),.int .i64 (nth x.l 1),.int .i64 (nth x.l 2),.int .i64 (nth x.l 3),.int .i64 (x.l.length:Int),.int .i64 x.f,.int .i64 (nth x.t 0),.int .i64 (nth x.t 1),.int .i64 (nth x.t 2),.int .i64 (nth x.t 3),.bool false] 109 (0,0))):=heap_alloc_new w2 _;have HKW:Hid (Kp0 w (w2.alloc (.cells #[.int .i64 2,.int .i64 x.buf,.int .i64 (nth x.l 0),.int .i64 (nth x.l 1),.int .i64 (nth x.l 2),.int .i64 (nth x.l 3),.int .i64 (x.l.length:Int),.int .i64 x.f,.int .i64 (nth x.t 0),.int .i64 (nth x.t 1),.int .i64 (nth x.t 2),.int .i64 (nth x.t 3),.bool false] 109))):=HK.out.alloc _;go_wp2
 generalize w2.alloc (.cells #[.int .i64 2,.int .i64 x.buf,.int .i64 (nth x.l 0),.int .i64 (nth x.l 1),.int .i64 (nth x.l 2),.int .i64 (nth x.l 3),.int .i64 (x.l.length:Int),.int .i64 x.f,.int .i64 (nth x.t 0),.int .i64 (nth x.t 1),.int .i64 (nth x.t 2),.int .i64 (nth x.t 3),.bool false] 109)=W at HB HKW⊢;generalize w2.heap.size=b at HB⊢;obtain⟨z0,z1,z2,z3,z4,z5,z6,z7,z8,z9,z10,z11,z12⟩:=cells13 HB.out;have HKD:Hid (Kp0 w W.drew):=HKW.out.drew;have hna:=Tryz.nFillI ⟨L.q2,0,none⟩
 go_region_law ((first
  |(refine step_call1 (by rfl) 60 (.tmp 23) _ (by rfl) _ Tryz.func60 (by kernel_rfl) (by kernel_rfl) _ (by rfl) (HC.out _ HKD.out) ?_;intro v7 w7 hR;obtain⟨hn7,hk7⟩:=hR)
  |(refine step_invoke2 (by rfl) (.tmp 27) "Fill" (.tmp 21) (.tmp 24) _ (by rfl) _ (.int .i64 v) v7 (by rfl) (by rfl) (by rfl) _ _ (HMR.out (.int .i64 v) v7 w7) (HR.out w7 v7 W.drew hk7 HKD.out hn7) ?_;intro v8 w8 hR8)))
 all_goals
  have HR8:=hid hR8;clear hR8 hn7 hk7;go_wp2
  go_ret;exact⟨rfl,HR8.out.1,HR8.out.2⟩
end Go.Proofs.YticbbncdcannlaaGreat
namespace Go.Proofs.YticbbncdcannlaaGreat
open Go.RowKit
def XRep(T:Tags)(o:Nat)(w:World)(p:Nat)(σ:Sp):Prop:=σ.ok∧∃L X,XAt T o w p L X∧Tie X (Maps.size L.D) σ
theorem XRep.kp{T:Tags}{o:Nat}{Z:Nat→Prop}{w w':World}{p:Nat}{σ:Sp}(h:XRep T o w p σ)(k:Kp Z w w')(hs:∀b,(T b).1=o→¬Z b):XRep T o w' p σ:=by
 obtain⟨h1,L,X,h2,h3⟩:=h;exact⟨h1,L,X,h2.kp k hs,h3⟩
theorem XRep.tags{T T':Tags}{o:Nat}{w:World}{p:Nat}{σ:Sp}(h:XRep T o w p σ)(k:TagsTo w T T'):XRep T' o w p σ:=by
 obtain⟨h1,L,X,h2,h3⟩:=h;exact⟨h1,L,X,h2.tags k,h3⟩
theorem XRep.stay{T:Tags}{o:Nat}{w w':World}{p:Nat}{σ:Sp}(h:XRep T o w p σ)(k:Kp0 w w'):Step XRep T o w p σ w':=
 ⟨T,fun _ _=>rfl,h.kp k (fun _ _ e=>e),Kp.of0 k⟩
theorem XRep.stayL{T:Tags}{o:Nat}{w w':World}{p:Nat}{σ:Sp}{v:Value}{xs:List Int}(t:Nat×Nat)(h:XRep T o w p σ)(hn:NewI w w' v xs):StepL XRep T o w p σ w' t v xs:=by
 obtain⟨ao,c,rfl,h1,h2,h3⟩:=hn;exact⟨retag w T t,retag_to w T t,(h.tags (retag_to w T t)).kp h2 (fun _ _ e=>e),Kp.of0 h2,ao,c,rfl,h1,fun b hb=>retag_new (h3 b hb),h3⟩
theorem kind_of{σ:Sp}(hok:σ.ok){h:Int}{a:Arr}(hf:σ.find h=some a):a.ok σ:=by
 unfold Sp.find at hf;split at hf
 ·have hg:σ.arrs[ix h]? =some (some a):=by
   cases e:σ.arrs[ix h]? with
   |none=>simp[List.getD,e]at hf
   |some y=>simp[List.getD,e]at hf;rw[hf]
  exact hok.arr _ a hg
 ·cases hf
theorem xc_get{T:Tags}{o:Nat}{w:World}{p:Nat}{σ:Sp}(h:Int)(vi:Value)(i:List Int)(hR:XRep T o w p σ)(hr:RdI w vi i):Calls Tryz.prog 37 #[.pointer (some ⟨p,0,none⟩),.int .i64 h,vi] w fun e w'=>e=.returned (.tuple #[.int .i64 (σ.get h i).1,.int .i64 (σ.get h i).2])∧Step XRep T o w p σ w':=by
 have hR':=hR;obtain⟨hok,L,X,hX,hT⟩:=hR;cases hf:σ.find h with
 |none=>
  refine(xGet_none hX h vi (hT.non h hf)).mono ?_;rintro e w' ⟨rfl,hk⟩;exact⟨by simp[Sp.get,hf],hR'.stay hk⟩
 |some a=>
  obtain⟨x,hA,hx⟩:=hT.som h a hf;have ha:=kind_of hok hf;cases hin:inBb x.l i with
  |false=>
   have hrk:=hx.none i hin;have hres:σ.get h i=(0,5):=by simp[Sp.get,hf,hrk]
   rw[hres];rcases ha.kind with hk|hk
   ·refine(xGetNoB hX h x hA (by rw[hx.kind,hk]) vi i hr hx.g.shape.1 hin).mono ?_
    rintro e w' ⟨rfl,hk'⟩;exact⟨rfl,hR'.stay hk'⟩
   ·refine(xGetNoI hX h x hA (by rw[hx.kind,hk]) vi i hr hx.g.shape.1 hin).mono ?_
    rintro e w' ⟨rfl,hk'⟩;exact⟨rfl,hR'.stay hk'⟩
  |true=>
   obtain⟨r1,r2,r3⟩:=hx.at i hin;have hbd:=ha.inside _ r2;have htk:=hx.taken hf _ r2;have hres:σ.get h i=(nth (σ.vals a.kind) (nth a.cells (rank a.shape i).toNat).toNat,0):=by
    simp only[Sp.get,hf];rw[if_neg (by omega)]
   rw[hres];rcases ha.kind with hk|hk
   ·have hg:=hx.g
    rw[hk,←hT.k1.len]at hg;refine(xGetYesB hX h x hA (by rw[hx.kind,hk]) vi i hr hg hin (hT.k1.wrap (.inl rfl))).mono ?_;rintro e w' ⟨rfl,hk'⟩;refine⟨?_,hR'.stay hk'⟩;rw[hk]at htk hbd⊢;rw[←r3,hT.k1.at _ hbd.1 hbd.2 htk]
   ·have hg:=hx.g
    rw[hk,←hT.k2.len]at hg;refine(xGetYesI hX h x hA (by rw[hx.kind,hk]) vi i hr hg hin (hT.k2.wrap (.inr rfl))).mono ?_;rintro e w' ⟨rfl,hk'⟩;refine⟨?_,hR'.stay hk'⟩;rw[hk]at htk hbd⊢;rw[←r3,hT.k2.at _ hbd.1 hbd.2 htk]
theorem xc_set{T:Tags}{o:Nat}{w:World}{p:Nat}{σ:Sp}(h v:Int)(vi:Value)(i:List Int)(hR:XRep T o w p σ)(hr:RdI w vi i)(hv:IntKind.i64.wrap v=v):Calls Tryz.prog 36 #[.pointer (some ⟨p,0,none⟩),.int .i64 h,.int .i64 v,vi] w fun e w'=>e=.returned (.int .i64 (σ.set h v i).2)∧Step XRep T o w p (σ.set h v i).1 w':=by
 have hR':=hR;obtain⟨hok,L,X,hX,hT⟩:=hR;cases hf:σ.find h with
 |none=>
  have hres:σ.set h v i=(σ,2):=by simp[Sp.set,hf]
  rw[hres];refine(xSet_none hX h v vi (hT.non h hf)).mono ?_;rintro e w' ⟨rfl,hk⟩;exact⟨rfl,hR'.stay hk⟩
 |some a=>
  obtain⟨x,hA,hx⟩:=hT.som h a hf;have ha:=kind_of hok hf;have hkd:x.kind=1∨x.kind=2:=by rw[hx.kind];exact ha.kind
  cases hro:x.ro with
  |true=>
   have hres:σ.set h v i=(σ,6):=by simp[Sp.set,hf,←hx.ro,hro]
   rw[hres];refine(xSet_ro hX h v vi x hA hkd hro).mono ?_;rintro e w' ⟨rfl,hk⟩;exact⟨rfl,hR'.stay hk⟩
  |false=>
   cases hin:inBb x.l i with
   |false=>
    have hrk:=hx.none i hin;have hres:σ.set h v i=(σ,5):=by simp[Sp.set,hf,←hx.ro,hro,hrk]
    rw[hres];rcases ha.kind with hk|hk
    ·refine(xSetNoB hX h v x hA (by rw[hx.kind,hk]) hro vi i hr hx.g.shape.1 hin).mono ?_
     rintro e w' ⟨rfl,hk'⟩;exact⟨rfl,hR'.stay hk'⟩
    ·refine(xSetNoI hX h v x hA (by rw[hx.kind,hk]) hro vi i hr hx.g.shape.1 hin).mono ?_
     rintro e w' ⟨rfl,hk'⟩;exact⟨rfl,hR'.stay hk'⟩
   |true=>
    obtain⟨r1,r2,r3⟩:=hx.at i hin;have hbd:=ha.inside _ r2;have htk:=hx.taken hf _ r2;have hres:σ.set h v i=(σ.put a.kind (nth a.cells (rank a.shape i).toNat).toNat (asK a.kind v),0):=by
     simp only[Sp.set,hf];rw[if_neg (by rw[←hx.ro,hro];simp),if_neg (by omega)]
    rw[hres];rcases ha.kind with hk|hk
    ·have hg:=hx.g
     rw[hk,←hT.k1.len]at hg;rw[hk]at htk hbd⊢;have hw1:IntKind.wrap .u8 v=asK 1 v:=by rw[wrap_u8];simp[asK]
     have hn:=hT.putB hok (nth a.cells (rank a.shape i).toNat).toNat (by omega) (by rw[show(((nth a.cells (rank a.shape i).toNat).toNat:Nat):Int)=nth a.cells (rank a.shape i).toNat by omega];exact htk) (asK 1 v) (by simp only[asK,if_true];omega);refine(xSetYesB hX h v x hA (by rw[hx.kind,hk]) hro vi i hr hg hin hv).mono ?_;rintro e w' ⟨rfl,hk',hX'⟩;rw[←r3,hw1]at hX';exact⟨rfl,T,fun _ _=>rfl,(⟨put_ok hok _ _ _,L,_,hX',hn⟩:XRep T o w' p (σ.put _ _ _)),hk'⟩
    ·have hg:=hx.g
     rw[hk,←hT.k2.len]at hg;rw[hk]at htk hbd⊢;have hw2:IntKind.wrap .i64 v=asK 2 v:=by rw[hv];simp[asK]
     have hn:=hT.putI hok (nth a.cells (rank a.shape i).toNat).toNat (by omega) (by rw[show(((nth a.cells (rank a.shape i).toNat).toNat:Nat):Int)=nth a.cells (rank a.shape i).toNat by omega];exact htk) (asK 2 v) (by rw[←hw2,hv];exact hv);refine(xSetYesI hX h v x hA (by rw[hx.kind,hk]) hro vi i hr hg hin hv).mono ?_;rintro e w' ⟨rfl,hk',hX'⟩;rw[←r3,hw2]at hX';exact⟨rfl,T,fun _ _=>rfl,(⟨put_ok hok _ _ _,L,_,hX',hn⟩:XRep T o w' p (σ.put _ _ _)),hk'⟩
theorem xc_fill{T:Tags}{o:Nat}{w:World}{p:Nat}{σ:Sp}(h v:Int)(hR:XRep T o w p σ)(hv:IntKind.i64.wrap v=v):Calls Tryz.prog 64 #[.pointer (some ⟨p,0,none⟩),.int .i64 h,.int .i64 v] w fun e w'=>e=.returned (.int .i64 (σ.fill h v).2)∧Step XRep T o w p (σ.fill h v).1 w':=by
 have hR':=hR;obtain⟨hok,L,X,hX,hT⟩:=hR;cases hf:σ.find h with
 |none=>
  have hres:σ.fill h v=(σ,2):=by simp[Sp.fill,hf]
  rw[hres];refine(xFill_none hX h v (hT.non h hf)).mono ?_;rintro e w' ⟨rfl,hk⟩;exact⟨rfl,hR'.stay hk⟩
 |some a=>
  obtain⟨x,hA,hx⟩:=hT.som h a hf;have ha:=kind_of hok hf;have hkd:x.kind=1∨x.kind=2:=by rw[hx.kind];exact ha.kind
  cases hro:x.ro with
  |true=>
   have hres:σ.fill h v=(σ,6):=by simp[Sp.fill,hf,←hx.ro,hro]
   rw[hres];refine(xFill_ro hX h v x hA hkd hro).mono ?_;rintro e w' ⟨rfl,hk⟩;exact⟨rfl,hR'.stay hk⟩
  |false=>
   have hres:σ.fill h v=(σ.writes a.kind a.cells (fun _=>asK a.kind v) a.cells.length,0):=by
    simp only[Sp.fill,hf];rw[if_neg (by rw[←hx.ro,hro];simp)]
   rw[hres];have hP:∀j,j<a.cells.length→0≤nth a.cells j∧nth a.cells j<σ.cap a.kind∧σ.taken a.kind (nth a.cells j)=true:=fun j hj=>⟨(ha.inside j hj).1,(ha.inside j hj).2,hx.taken hf j hj⟩
   rcases ha.kind with hk|hk
   ·have hg:=hx.g
    rw[hk,←hT.k1.len]at hg;rw[hk]at hP⊢;have hw1:IntKind.wrap .u8 v=asK 1 v:=by rw[wrap_u8];simp[asK]
    have hn:=(hT.writesB hok a.cells hP (asK 1 v) (by simp only[asK,if_true];omega) a.cells.length (Nat.le_refl _)).1;refine(xSpFillB hX h v x hA (by rw[hx.kind,hk]) hro hg hv).mono ?_;rintro e w' ⟨rfl,hk',hX'⟩;rw[hx.cells,hw1]at hX';exact⟨rfl,T,fun _ _=>rfl,⟨writes_ok hok _ _ _ _,L,_,hX',hn⟩,hk'⟩
   ·have hg:=hx.g
    rw[hk,←hT.k2.len]at hg;rw[hk]at hP⊢;have hw2:IntKind.wrap .i64 v=asK 2 v:=by rw[hv];simp[asK]
    have hn:=(hT.writesI hok a.cells hP (asK 2 v) (by rw[←hw2,hv];exact hv) a.cells.length (Nat.le_refl _)).1;refine(xSpFillI hX h v x hA (by rw[hx.kind,hk]) hro hg hv).mono ?_;rintro e w' ⟨rfl,hk',hX'⟩;rw[hx.cells,hw2]at hX';exact⟨rfl,T,fun _ _=>rfl,⟨writes_ok hok _ _ _ _,L,_,hX',hn⟩,hk'⟩
theorem values_eq{σ:Sp}{h:Int}{a:Arr}{x:XA}(hx:ATie σ a x)(hf:σ.find h=some a)(ha:a.ok σ){c:List Int}{bs:List (Int×Int)}(hk:KTie σ a.kind c bs):((gc x.l x.t x.f x.l.length).map fun y=>nth c y.toNat)=σ.valuesOf a:=by
 rw[hx.cells];unfold Sp.valuesOf;apply List.map_congr_left
 intro y hy;obtain⟨j,hj,e⟩:=List.getElem_of_mem hy;have e':nth a.cells j=y:=by rw[nth_lt hj];exact e
 have h1:=ha.inside j hj;have h2:=hx.taken hf j hj;rw[e']at h1 h2;exact hk.at y h1.1 h1.2 h2
theorem xc_values{T:Tags}{o:Nat}{w:World}{p:Nat}{σ:Sp}(h:Int)(t:Nat×Nat)(hR:XRep T o w p σ):Calls Tryz.prog 26 #[.pointer (some ⟨p,0,none⟩),.int .i64 h] w fun e w'=>∃v,e=.returned (.tuple #[v,.int .i64 (σ.values h).2])∧StepL XRep T o w p σ w' t v (σ.values h).1:=by
 have hR':=hR;obtain⟨hok,L,X,hX,hT⟩:=hR;cases hf:σ.find h with
 |none=>
  have hres:σ.values h=([],2):=by simp[Sp.values,hf]
  rw[hres];refine(xValues_none hX h (hT.non h hf)).mono ?_;rintro e w' ⟨rfl,hk⟩;exact⟨_,rfl,hR'.stayL t (NewI.nil hk)⟩
 |some a=>
  obtain⟨x,hA,hx⟩:=hT.som h a hf;have ha:=kind_of hok hf;have hres:σ.values h=(σ.valuesOf a,0):=by simp[Sp.values,hf]
  rw[hres];rcases ha.kind with hk|hk
  ·have hg:=hx.g
   rw[hk,←hT.k1.len]at hg;have hv:=values_eq hx hf ha (c:=X.c1) (bs:=X.b1) (by rw[hk];exact hT.k1);refine(xValuesB hX h x hA (by rw[hx.kind,hk]) hg (hT.k1.wrap (.inl rfl))).mono ?_;rintro e w' ⟨v,rfl,hn⟩;rw[hv]at hn;exact⟨v,rfl,hR'.stayL t hn⟩
  ·have hg:=hx.g
   rw[hk,←hT.k2.len]at hg;have hv:=values_eq hx hf ha (c:=X.c2) (bs:=X.b2) (by rw[hk];exact hT.k2);refine(xValuesI hX h x hA (by rw[hx.kind,hk]) hg (hT.k2.wrap (.inr rfl))).mono ?_;rintro e w' ⟨v,rfl,hn⟩;rw[hv]at hn;exact⟨v,rfl,hR'.stayL t hn⟩
theorem xc_look{T:Tags}{o:Nat}{w:World}{p:Nat}{σ:Sp}(h:Int)(t:Nat×Nat)(hR:XRep T o w p σ):Calls Tryz.prog 49 #[.pointer (some ⟨p,0,none⟩),.int .i64 h] w fun e w'=>∃v,e=.returned (.tuple #[.agg #[.int .i64 (σ.look h).1,v,.bool (σ.look h).2.2.1],.int .i64 (σ.look h).2.2.2])∧StepL XRep T o w p σ w' t v (σ.look h).2.1:=by
 have hR':=hR;obtain⟨hok,L,X,hX,hT⟩:=hR;cases hf:σ.find h with
 |none=>
  have hres:σ.look h=(0,[],false,2):=by simp[Sp.look,hf]
  rw[hres];refine(xLook_none hX h (hT.non h hf)).mono ?_;rintro e w' ⟨rfl,hk⟩;exact⟨_,rfl,hR'.stayL t (NewI.nil hk)⟩
 |some a=>
  obtain⟨x,hA,hx⟩:=hT.som h a hf;have ha:=kind_of hok hf;have hres:σ.look h=(a.kind,a.shape,a.ro,0):=by simp[Sp.look,hf]
  rw[hres];refine(xLook_some hX h x hA (by rw[hx.kind];exact ha.kind) hx.g.shape.1).mono ?_;rintro e w' ⟨v,rfl,hn⟩;rw[hx.l]at hn;exact⟨v,by rw[hx.kind,hx.ro],hR'.stayL t hn⟩
end Go.Proofs.YticbbncdcannlaaGreat
namespace Go.Proofs.YticbbncdcannlaaGreat
open Go.RowKit Go.Maps Go.ChangeMaps Go.MapKept
theorem xMake_kind(p:Nat)(w:World)(kind:Int)(vs:Value)(h1:kind≠1)(h2:kind≠2):Calls Tryz.prog 28 #[.pointer (some ⟨p,0,none⟩),.int .i64 kind,vs] w fun e w'=>e=.returned (.tuple #[.int .i64 0,.int .i64 3])∧w'=w:=by
 have HS:=hid (fun W=>xstoreOf_none p W kind h1 h2);clear h1 h2;go_enter Tryz.func28,Tryz.ntmps28
 go_wp2_with fail
 refine(HS.out _).mono ?_;rintro e w2 ⟨rfl,hw⟩;obtain rfl:=hw.symm;go_wp2
 go_ret2
 exact⟨rfl,rfl⟩
theorem xMake_shape{T:Tags}{o:Nat}{w:World}{p:Nat}{L:XL}{X:XS}(h:XAt T o w p L X)(kind:Int)(hk:kind=1∨kind=2)(vs:Value)(s:List Int)(hr:RdI w vs s)(hs:shapeB s=false):Calls Tryz.prog 28 #[.pointer (some ⟨p,0,none⟩),.int .i64 kind,vs] w fun e w'=>e=.returned (.tuple #[.int .i64 0,.int .i64 4])∧Kp0 w w':=by
 have HS:=hid (xstoreOf_calls h kind hk);have HC:=hid (xshape_calls vs s w hr);rw[hs]at HC;rw[show(if false=true then s else([]:List Int))=[]from rfl]at HC;unfold shC at HC;generalize L.inV kind=I at*;clear h hr hk hs;go_enter Tryz.func28,Tryz.ntmps28
 go_wp2_with fail
 refine HS.out.mono ?_;rintro e w2 ⟨rfl,hw⟩;obtain rfl:=hw.symm
 go_wp2_with fail
 refine HC.out.mono ?_;rintro e w3 ⟨rfl,hw⟩;have HK:=hid hw;clear hw;go_wp2
 go_ret2
 exact⟨rfl,HK.out.alloc _⟩
theorem xMake_whole{T:Tags}{o:Nat}{w:World}{p:Nat}{L:XL}{X:XS}(h:XAt T o w p L X)(kind:Int)(hk:kind=1∨kind=2)(vs:Value)(s:List Int)(hr:RdI w vs s)(hs:shapeB s=true){R:Int→Int→World→Prop}(HW:Hid (∀W,Kp0 w W→Calls Tryz.prog 63 #[.pointer (some ⟨p,0,none⟩),.int .i64 kind,L.inV kind,.agg (shC s).toArray] W fun e w'=>∃a b,e=.returned (.tuple #[.int .i64 a,.int .i64 b])∧R a b w')):Calls Tryz.prog 28 #[.pointer (some ⟨p,0,none⟩),.int .i64 kind,vs] w fun e w'=>∃a b,e=.returned (.tuple #[.int .i64 a,.int .i64 b])∧R a b w':=by
 have HS:=hid (xstoreOf_calls h kind hk);have HC:=hid (xshape_calls vs s w hr);rw[hs]at HC;rw[show(if true=true then s else([]:List Int))=s from rfl]at HC;unfold shC at HC HW;generalize L.inV kind=I at*;clear h hr hk hs;go_enter Tryz.func28,Tryz.ntmps28
 go_wp2_with fail
 refine HS.out.mono ?_;rintro e w2 ⟨rfl,hw⟩;obtain rfl:=hw.symm
 go_wp2_with fail
 refine HC.out.mono ?_;rintro e w3 ⟨rfl,hw⟩;have HK:=hid hw;clear hw
 go_wp2_with fail
 refine(HW.out _ (HK.out.alloc _)).mono ?_;rintro e w4 ⟨a,b,rfl,hR⟩;have HR:=hid hR;clear hR;go_wp2
 go_ret2
 exact⟨a,b,rfl,HR.out⟩
theorem xNew_no(b i:Int)(w:World)(h:¬(0≤b∧b≤10000∧0≤i∧i≤10000)):Calls Tryz.prog 35 #[.int .i64 b,.int .i64 i] w fun e w'=>e=.returned (.tuple #[.pointer none,.int .i64 1])∧Kp0 w w':=by
 by_cases h1:0≤b
 ·have d1:decide (0≤b)=true:=by simp[h1]
  by_cases h2:b≤10000
  ·have d2:decide (b≤10000)=true:=by simp[h2]
   by_cases h3:0≤i
   ·have d3:decide (0≤i)=true:=by simp[h3]
    have d4:decide (i≤10000)=false:=by simp;omega
    clear h;go_enter Tryz.func35,Tryz.ntmps35
    go_wp2
    go_ret2
    exact⟨rfl,Kp0.refl w⟩
   ·have d3:decide (0≤i)=false:=by simp;omega
    clear h;go_enter Tryz.func35,Tryz.ntmps35
    go_wp2
    go_ret2
    exact⟨rfl,Kp0.refl w⟩
  ·have d2:decide (b≤10000)=false:=by simp;omega
   clear h;go_enter Tryz.func35,Tryz.ntmps35
   go_wp2
   go_ret2
   exact⟨rfl,Kp0.refl w⟩
 ·have d1:decide (0≤b)=false:=by simp;omega
  clear h;go_enter Tryz.func35,Tryz.ntmps35
  go_wp2
  go_ret2
  exact⟨rfl,Kp0.refl w⟩
theorem wpList_next_xa(w:World){ops:Array Oper}{rest:List Oper}{o:Oper}{a:Act}{Q:Exit→Act→World→Prop}(hg:o.guard=none)(it:Operand)(hop:o.op=Op.next it false)(b r n:Nat)(D:DataW Value)(A:Int→Option XA)(left:Lit→Bool)(cnt:Nat)(hit:a.eval it=.pointer (some ⟨r,0,none⟩))(h:w.ranges Tryz.prog 3 elemR b r n D left cnt)(hm:XMap D A)(hDone:(∀kl,left kl=false)→wpList Tryz.prog ops Q rest (a.put o.dst (.tuple #[.bool false])) w)(hMore:∀(k:Int) (x:XA) (w':World) (cnt':Nat),A k=some x→left (.int .i64 k)=true→w'.ranges Tryz.prog 3 elemR b r n D (fun z=>left z&& !z.sameKey (.int .i64 k)) cnt'→cnt'<cnt→w.grownBy w' (some r)→w'.heap.size=w.heap.size→(Instr.entry (.pointer (some ⟨r,0,none⟩))).run Tryz.prog w'=.ok (.tuple #[.int .i64 k,.agg x.cs]) w'→wpList Tryz.prog ops Q rest (a.put o.dst (.tuple #[.bool true,.int .i64 k,.agg x.cs])) w'):wpList Tryz.prog ops Q (o::rest) a w:=
 wpList_next_ranges w hg it hop 3 Tryz.lawInt elemR (Value.int .i64) (fun v:Value=>v) (fun key kl hkey=>by obtain⟨x,rfl,_⟩:=Maps.keyOf_int_inv Tryz.underlying3 hkey;exact⟨x,rfl⟩) (fun v y _=>⟨v,rfl⟩) b r n D left cnt hit h (fun _ hl=>hDone hl)
  (fun k v kl y w' cnt' hkey hlk hv hat hrg hlt hgr hsz hen=>by
   obtain⟨k',ek,rfl,hwk⟩:=Maps.keyOf_int_inv Tryz.underlying3 hkey;cases ek
   have hh:=Maps.has_true_of_atKey hat;cases hA:A k with
   |none=>rw[hm.non k hA]at hh;cases hh
   |some x=>
    obtain⟨-,-,h3⟩:=hm.som k x hA;have e1:y.1=.held (.agg x.cs):=(hat .nil).symm.trans (h3 .nil);have e2:v=.agg x.cs:=by
     simp only[elemR,Option.some.injEq]at hv;rw[←hv]at e1;injection e1
    subst e2;exact hMore k x w' cnt' hA hlk hrg hlt hgr hsz hen)
theorem xisUsed_calls{T:Tags}{o:Nat}{w:World}{p:Nat}{L:XL}{X:XS}(h:XAt T o w p L X)(kind buf:Int):Calls Tryz.prog 61 #[.pointer (some ⟨p,0,none⟩),.int .i64 kind,.int .i64 buf] w fun e w'=>∃u,e=.returned (.bool u)∧(u=true↔∃a x,X.A a=some x∧x.kind=kind∧x.buf=buf)∧Kp0 w w':=by
 obtain⟨z0,z1,z2,z3⟩:=cells4 h.blk;have HM:=hid h.map;have HE:=hid h.ent;clear h;go_enter Tryz.func61,Tryz.ntmps61
 go_wp2_with (first|(at_range;refine wpList_range_own _ rfl _ 128 rfl 3 109 Tryz.lawInt Tryz.underlying128 _ L.bm _ L.D rfl HM.out ?_;intro w0 hrg0 hg0 hs0)|go_in)
 go_frame
 obtain⟨r,hr⟩:∃r,w.heap.size=r:=⟨_,rfl⟩;rw[hr]at hrg0⊢;have HRG:=hid hrg0;have HK0:Hid (Kp0 w w0):=Kp.grown (Kp.refl _ w) hg0 (fun k e=>by cases e);have HRR:=hid hr;clear hrg0 hg0 hs0 hr z0 z1 z2 z3
 go_loopw [8,14] (fun _ _ wr=>∃left cnt,Hid (wr.ranges Tryz.prog 3 elemR L.bm r X.last L.D left cnt)∧Hid (∀a x,X.A a=some x→left (.int .i64 a)=false→¬(x.kind=kind∧x.buf=buf))∧Hid (Kp0 w wr)) (fun _ _ wr=>wr.rangeLeft L.bm r)
 case atStart=>exact⟨_,_,HRG,hid (fun a x hA hl=>by have:=(HE.out.som a x hA).2.1;rw[this]at hl;cases hl),HK0⟩
 case round=>
  clear HRG HK0;obtain⟨left,cnt,HRG,HN,HK⟩:=hrel
  go_wp2_with (first|(at_next;refine wpList_next_xa _ rfl _ rfl L.bm r X.last L.D X.A left cnt rfl HRG.out HE.out ?_ ?_)|go_in)
  ·intro hl0
   have HF:Hid (¬∃a x,X.A a=some x∧x.kind=kind∧x.buf=buf):=hid (fun⟨a,x,hA,hx⟩=>HN.out a x hA (hl0 _) hx);clear hl0;go_wp2
   go_ret;exact⟨false,rfl,⟨fun e=>(Bool.noConfusion e),fun e=>absurd e HF.out⟩,HK.out⟩
  ·intro k x w1 cnt1 hA hlk hrg1 hlt hgr hsz hen
   have HA:=hid hA;have HRG1:=hid hrg1;have HLT:=hid hlt;have HK1:Hid (Kp0 w w1):=Kp.grown HK.out hgr (fun j e h=>by cases e;have:=HRR.out;omega);have HEN:=hid hen;unfold XA.cs at hen⊢;clear hA hlk hrg1 hlt hgr hsz;by_cases hk1:x.kind=kind
   ·have d1:(x.kind==kind)=true:=by simp[hk1]
    by_cases hk2:x.buf=buf
    ·have d2:(x.buf==buf)=true:=by simp[hk2]
     have HX:Hid (∃a x,X.A a=some x∧x.kind=kind∧x.buf=buf):=⟨k,x,HA.out,hk1,hk2⟩;clear hk1 hk2;go_wp2
     go_ret;exact⟨true,rfl,⟨fun _=>HX.out,fun _=>rfl⟩,HK1.out.alloc _⟩
    ·have d2:(x.buf==buf)=false:=by simp[hk2]
     have HX:Hid (¬(x.kind=kind∧x.buf=buf)):=fun e=>hk2 e.2
     clear hk1 hk2;go_wp2
     go_roundw
     case rel=>
      refine⟨_,_,HRG1.out.alloc _,hid (fun a y hy hl=>?_),HK1.out.alloc _⟩;by_cases ha:a=k
      ·subst ha;rw[HA.out]at hy;cases hy;exact HX.out
      ·refine HN.out a y hy ?_
       have:(Lit.int .i64 a).sameKey (.int .i64 k)=false:=Maps.sameKey_ne (by simpa using ha);rw[this]at hl;simpa using hl
     case measure=>
      rw[(HRG1.out.alloc _).left_eq,HRG.out.left_eq];exact HLT.out
   ·have d1:(x.kind==kind)=false:=by simp[hk1]
    have HX:Hid (¬(x.kind=kind∧x.buf=buf)):=fun e=>hk1 e.1
    clear hk1;go_wp2
    go_roundw
    case rel=>
     refine⟨_,_,HRG1.out.alloc _,hid (fun a y hy hl=>?_),HK1.out.alloc _⟩;by_cases ha:a=k
     ·subst ha;rw[HA.out]at hy;cases hy;exact HX.out
     ·refine HN.out a y hy ?_
      have:(Lit.int .i64 a).sameKey (.int .i64 k)=false:=Maps.sameKey_ne (by simpa using ha);rw[this]at hl;simpa using hl
    case measure=>
     rw[(HRG1.out.alloc _).left_eq,HRG.out.left_eq];exact HLT.out
def XS.drop(X:XS)(hd:Int):XS:={X with A:=fun a=>if a=hd then none else X.A a}
theorem XMap.drop{D:DataW Value}{X:XS}(h:XMap D X.A)(hd:Int):XMap (D.del (.int .i64 hd)) (X.drop hd).A:=by
 refine⟨fun a ha=>?_,fun a y ha=>?_⟩
 ·by_cases e:a=hd
  ·subst e;exact Maps.has_del_same
  ·rw[Maps.has_del_other (by simpa using e)]
   simp only[XS.drop,if_neg e]at ha;exact h.non a ha
 ·simp only[XS.drop]at ha
  split at ha
  ·cases ha
  ·rename_i e
   obtain⟨h1,h2,h3⟩:=h.som a y ha;exact⟨h1,by rw[Maps.has_del_other (by simpa using e)];exact h2,fun z=>by rw[Maps.atKey_del_other (by simpa using e)];exact h3 z⟩
theorem XAt.drop{T:Tags}{o:Nat}{w w':World}{p:Nat}{L:XL}{X:XS}(h:XAt T o w p L X)(hd:Int)(k:Kp (fun b=>b=L.bm) w w')(hm:w'.ownsMap Tryz.prog 3 elemR L.bm X.last (L.D.del (.int .i64 hd))):XAt T o w' p {L with D:=L.D.del (.int .i64 hd)} (X.drop hd):=by
 have nm:∀{b n},T b=(o,n)→n≠8→¬b=L.bm:=fun{b n} hb hn e=>by rw[e,h.tm]at hb;simp at hb;omega
 exact⟨k.heap h.blk (nm h.tp (by omega)),h.s1.kp k (nm h.tq1 (by omega)) (nm h.tg1 (by omega)) (fun b hb=>nm (h.tb1 b hb) (by omega)),h.s2.kp k (nm h.tq2 (by omega)) (nm h.tg2 (by omega)) (fun b hb=>nm (h.tb2 b hb) (by omega)),hm,h.ent.drop hd,h.tp,h.tq1,h.tg1,h.tb1,h.tq2,h.tg2,h.tb2,h.tm⟩
theorem turned_kp{w w':World}{b:Nat}(h:w.mapTurned w' b):Kp (fun x=>x=b) w w':=Kp.grown (Kp.refl _ w) h.grown (fun k e _=>by injection e with e;exact e.symm)
end Go.Proofs.YticbbncdcannlaaGreat
