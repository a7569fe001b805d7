import Derived.Maps.RangeWalk
import Derived.Maps.OwnSet
import Derived.Test.YticbbncdcannlaaGreatG14
import Derived.Test.YticbbncdcannlaaGreatG11
import Derived.Handy
set_option maxRecDepth 100000
set_option maxHeartbeats 8000000
namespace Go.Proofs.YticbbncdcannlaaGreat
open Go.RowKit Go.Maps Go.ChangeMaps Go.MapKept
structure XA where
 kind:Int
 buf:Int
 l:List Int
 t:List Int
 f:Int
 ro:Bool
def XA.cs(x:XA):Array Value:= #[.int .i64 x.kind,.int .i64 x.buf,.int .i64 (nth x.l 0),.int .i64 (nth x.l 1),.int .i64 (nth x.l 2),.int .i64 (nth x.l 3),.int .i64 (x.l.length:Int),.int .i64 x.f,.int .i64 (nth x.t 0),.int .i64 (nth x.t 1),.int .i64 (nth x.t 2),.int .i64 (nth x.t 3),.bool x.ro]
def xaZ:Array Value:= #[.int .i64 0,.int .i64 0,.int .i64 0,.int .i64 0,.int .i64 0,.int .i64 0,.int .i64 0,.int .i64 0,.int .i64 0,.int .i64 0,.int .i64 0,.int .i64 0,.bool false]
def elemR(v:Value):Option (DataW Value×List MemPlace):=some (.held v,[])
theorem Tryz.lawInt:Keyed Tryz.prog 3:=int_keyed Tryz.underlying3
theorem Tryz.zeroArr(w:World):(zeroValue 109).run Tryz.prog w=.ok (.agg xaZ) w:=by kernel_rfl
theorem Tryz.szArr:(Tryz.prog.info? 109).map (·.size)=some 13:=by kernel_rfl
structure XMap(D:DataW Value)(A:Int→Option XA):Prop where
 non:∀a,A a=none→Maps.has D (.int .i64 a)=false
 som:∀a x,A a=some x→(Lit.int .i64 a).wf=true∧Maps.has D (.int .i64 a)=true∧∀z,D.atKey (.int .i64 a) z=.held (.agg x.cs)
theorem look_run{w:World}{b n:Nat}{D:DataW Value}{A:Int→Option XA}(h:w.ownsMap Tryz.prog 3 elemR b n D)(hm:XMap D A)(a:Int):(Instr.lookup 128 (.map (some b)) (.int .i64 a) true).run Tryz.prog w=.ok (match A a with|none=>.tuple #[.agg xaZ,.bool false]|some x=>.tuple #[.agg x.cs,.bool true]) w:=by
 by_cases hw:(Lit.int .i64 a).wf=true
 ·obtain⟨v,ps,hrun,hv⟩:=h.look_ok (e:=109) Tryz.lawInt Tryz.underlying128 (Tryz.zeroArr w) (zd:=.held (.agg xaZ)) (zp:=[]) rfl (keyOf_int_mk Tryz.underlying3 hw)
  rw[hrun];simp only[elemR,Option.some.injEq,Prod.mk.injEq]at hv;cases hA:A a with
  |none=>
   have h0:=hm.non a hA;rw[h0];rw[atKey_of_not_has h0]at hv;have:v=.agg xaZ:=by injection hv.1
   rw[this]
  |some x=>
   obtain⟨-,h1,h2⟩:=hm.som a x hA;rw[h1];rw[h2]at hv;have:v=.agg x.cs:=by injection hv.1
   rw[this]
 ·have hA:A a=none:=by
   cases e:A a with
   |none=>rfl
   |some x=>exact absurd (hm.som a x e).1 hw
  rw[hA];obtain⟨es,clock,hb,F,hs,rfl⟩:=h;have hks:∀y∈es.toList,∃x,y.key=.int .i64 x∧(Lit.int .i64 x).wf=true:=fun y hy=>by
   obtain⟨l,hl⟩:∃l,keyOf Tryz.prog 3 y.key=some l:=by
    obtain⟨z,hz⟩:=F.reads y hy;unfold WideElems.rd at hz;cases hk:keyOf Tryz.prog 3 y.key with
    |none=>rw[hk]at hz;simp at hz
    |some l=>exact⟨l,rfl⟩
   obtain⟨x,h1,-,h3⟩:=Maps.keyOf_int_inv Tryz.underlying3 hl;exact⟨x,h1,h3⟩
  have hf:(Instr.findKey 3 (.int .i64 a) es.toList).run Tryz.prog w=.ok none w:=by
   rcases findNow_spec (d:=.int .i64) (k:=.int .i64 a) (by simp[IsKey]) es.toList 0 (fun y hy=>by obtain⟨x,e,_⟩:=hks y hy;rw[e];simp[IsKey])with⟨h1,h2⟩|⟨j,e0,h1,h2,h3⟩
   ·exact run_findKey Tryz.underlying3 h1
   ·obtain⟨x,e,hx⟩:=hks e0 (List.mem_of_getElem? h2)
    rw[h3]at e;have e':a=x:=by injection e
    subst e';exact absurd hx hw
  have hck:∀em,(Instr.checkKey em 10000 3 (.int .i64 a)).run Tryz.prog w=.ok () w:=fun em=>run_checkKey Tryz.underlying3 (by simp[IsKey]) em 9999
  simp[Instr.lookup,run_underlying Tryz.underlying128,MapKept.run_getObj_map hb,hck,hf,Result.andThen,xaZ]
structure XS where
 c1:List Int
 c2:List Int
 b1:List (Int×Int)
 b2:List (Int×Int)
 A:Int→Option XA
 last:Nat
structure XL where
 q1:Nat
 g1:Nat
 q2:Nat
 g2:Nat
 bm:Nat
 vb1:Value
 vb2:Value
 D:DataW Value
structure XAt(T:Tags)(o:Nat)(w:World)(p:Nat)(L:XL)(X:XS):Prop where
 blk:w.heap[p]? =some (.cells #[.pointer (some ⟨L.q1,0,none⟩),.pointer (some ⟨L.q2,0,none⟩),.map (some L.bm),.int .i64 (X.last:Int)] 130 (0,0))
 s1:StAtB w L.q1 L.g1 L.vb1 X.c1 X.b1
 s2:StAtI w L.q2 L.g2 L.vb2 X.c2 X.b2
 map:w.ownsMap Tryz.prog 3 elemR L.bm X.last L.D
 ent:XMap L.D X.A
 tp:T p=(o,1)
 tq1:T L.q1=(o,2)
 tg1:T L.g1=(o,3)
 tb1:Tagged T L.vb1 (o,4)
 tq2:T L.q2=(o,5)
 tg2:T L.g2=(o,6)
 tb2:Tagged T L.vb2 (o,7)
 tm:T L.bm=(o,8)
theorem map_kp{S:Nat→Prop}{w w':World}{b n:Nat}{D:DataW Value}(h:w.ownsMap Tryz.prog 3 elemR b n D)(k:Kp S w w')(hs:¬S b):w'.ownsMap Tryz.prog 3 elemR b n D:=by
 obtain⟨es,clock,hb,r⟩:=h;exact⟨es,clock,k.heap hb hs,r⟩
theorem XAt.kp{T:Tags}{o:Nat}{S:Nat→Prop}{w w':World}{p:Nat}{L:XL}{X:XS}(h:XAt T o w p L X)(k:Kp S w w')(hs:∀b,(T b).1=o→¬S b):XAt T o w' p L X:=
 ⟨k.heap h.blk (hs _ (by rw[h.tp])),h.s1.kp k (hs _ (by rw[h.tq1])) (hs _ (by rw[h.tg1])) (fun b hb=>hs b (by rw[h.tb1 b hb])),h.s2.kp k (hs _ (by rw[h.tq2])) (hs _ (by rw[h.tg2])) (fun b hb=>hs b (by rw[h.tb2 b hb])),map_kp h.map k (hs _ (by rw[h.tm])),h.ent,h.tp,h.tq1,h.tg1,h.tb1,h.tq2,h.tg2,h.tb2,h.tm⟩
theorem XAt.kp0{T:Tags}{o:Nat}{w w':World}{p:Nat}{L:XL}{X:XS}(h:XAt T o w p L X)(k:Kp0 w w'):XAt T o w' p L X:=h.kp k (fun _ _ e=>e)
theorem XAt.tags{T T':Tags}{o:Nat}{w:World}{p:Nat}{L:XL}{X:XS}(h:XAt T o w p L X)(k:TagsTo w T T'):XAt T' o w p L X:=
 ⟨h.blk,h.s1,h.s2,h.map,h.ent,(k _ (lt_of_heap h.blk)).trans h.tp,(k _ (lt_of_heap h.s1.blk)).trans h.tq1,(k _ (lt_of_heap h.s1.cells)).trans h.tg1,fun b hb=>(k b (own_lt h.s1.bufs hb)).trans (h.tb1 b hb),
  (k _ (lt_of_heap h.s2.blk)).trans h.tq2,(k _ (lt_of_heap h.s2.cells)).trans h.tg2,fun b hb=>(k b (own_lt h.s2.bufs hb)).trans (h.tb2 b hb),(k _ h.map.lt).trans h.tm⟩
theorem cells4{w:World}{g:Nat}{t:TypeId}{c0 c1 c2 c3:Value}{fr:Nat×Nat}(h:w.heap[g]? =some (.cells #[c0,c1,c2,c3] t fr)):w.cell? ⟨g,0,none⟩=some c0∧w.cell? ⟨g,1,none⟩=some c1∧w.cell? ⟨g,2,none⟩=some c2∧w.cell? ⟨g,3,none⟩=some c3:=
 ⟨cell_of_row w g 0 _ _ _ h,cell_of_row w g 1 _ _ _ h,cell_of_row w g 2 _ _ _ h,cell_of_row w g 3 _ _ _ h⟩
def XL.inV(L:XL)(kind:Int):Value:=if kind=1 then .iface 126 (.pointer (some ⟨L.q1,0,none⟩))else .iface 127 (.pointer (some ⟨L.q2,0,none⟩))
theorem xstoreOf_calls{T:Tags}{o:Nat}{w:World}{p:Nat}{L:XL}{X:XS}(h:XAt T o w p L X)(kind:Int)(hk:kind=1∨kind=2):Calls Tryz.prog 62 #[.pointer (some ⟨p,0,none⟩),.int .i64 kind] w fun e w'=>e=.returned (.tuple #[L.inV kind,.bool true])∧w'=w:=by
 obtain⟨z0,z1,z2,z3⟩:=cells4 h.blk;clear h;rcases hk with rfl|rfl
 ·go_enter Tryz.func62,Tryz.ntmps62
  go_wp2
  go_ret2
  exact⟨rfl,rfl⟩
 ·go_enter Tryz.func62,Tryz.ntmps62
  go_wp2
  go_ret2
  exact⟨rfl,rfl⟩
theorem xstoreOf_none(p:Nat)(w:World)(kind:Int)(h1:kind≠1)(h2:kind≠2):Calls Tryz.prog 62 #[.pointer (some ⟨p,0,none⟩),.int .i64 kind] w fun e w'=>e=.returned (.tuple #[.nilIface,.bool false])∧w'=w:=by
 have d1:(kind==1)=false:=by rw[beq_eq_false_iff_ne];exact h1
 have d2:(kind==2)=false:=by rw[beq_eq_false_iff_ne];exact h2
 go_enter Tryz.func62,Tryz.ntmps62
 go_wp2
 go_ret2
 exact⟨rfl,rfl⟩
abbrev arrB(cs:Array Value):Obj:=.cells cs 109 (0,0)
theorem xfind_none{T:Tags}{o:Nat}{w:World}{p:Nat}{L:XL}{X:XS}(h:XAt T o w p L X)(hd:Int)(hA:X.A hd=none):Calls Tryz.prog 52 #[.pointer (some ⟨p,0,none⟩),.int .i64 hd] w fun e w'=>e=.returned (.tuple #[.agg xaZ,.nilIface,.int .i64 2])∧Kp0 w w':=by
 obtain⟨z0,z1,z2,z3⟩:=cells4 h.blk;have bp:p<w.heap.size:=lt_of_heap h.blk;have hlk:=look_run (map_kp h.map ((Kp.refl (fun _=>False) w).alloc (arrB xaZ)) (fun e=>e)) h.ent hd;rw[hA]at hlk;unfold xaZ at hlk⊢;clear h;go_enter Tryz.func52,Tryz.ntmps52
 go_wp2
 go_returns
 exact⟨rfl,((Kp.refl _ w).alloc _).alloc _⟩
theorem xfind_some{T:Tags}{o:Nat}{w:World}{p:Nat}{L:XL}{X:XS}(h:XAt T o w p L X)(hd:Int)(x:XA)(hA:X.A hd=some x)(hk:x.kind=1∨x.kind=2):Calls Tryz.prog 52 #[.pointer (some ⟨p,0,none⟩),.int .i64 hd] w fun e w'=>e=.returned (.tuple #[.agg x.cs,L.inV x.kind,.int .i64 0])∧Kp0 w w':=by
 obtain⟨z0,z1,z2,z3⟩:=cells4 h.blk;have bp:p<w.heap.size:=lt_of_heap h.blk;have hlk:=look_run (map_kp h.map ((Kp.refl (fun _=>False) w).alloc (arrB xaZ)) (fun e=>e)) h.ent hd;rw[hA]at hlk;have HSO:Hid (∀W,Kp0 w W→Calls Tryz.prog 62 #[.pointer (some ⟨p,0,none⟩),.int .i64 x.kind] W fun e w'=>e=.returned (.tuple #[L.inV x.kind,.bool true])∧w'=W):=fun W k=>xstoreOf_calls (h.kp0 k) x.kind hk
 generalize hI:L.inV x.kind=I at*;unfold xaZ at hlk;unfold XA.cs at hlk⊢;clear h hA;go_enter Tryz.func52,Tryz.ntmps52
 go_wp2_with fail
 refine(HSO.out _ (((Kp.refl _ w).alloc _).alloc _)).mono ?_;rintro e w2 ⟨rfl,hw⟩;obtain rfl:=hw.symm;go_wp2
 go_returns
 exact⟨rfl,((Kp.refl _ w).alloc _).alloc _⟩
end Go.Proofs.YticbbncdcannlaaGreat
