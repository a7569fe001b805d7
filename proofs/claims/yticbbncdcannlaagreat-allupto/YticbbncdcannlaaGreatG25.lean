import Derived.Test.YticbbncdcannlaaGreatG21
import Derived.Test.YticbbncdcannlaaGreatG24
set_option maxRecDepth 100000
set_option maxHeartbeats 8000000
namespace Go.Proofs.YticbbncdcannlaaGreat
open Go.RowKit
theorem Tryz.allocGrid(a:Act)(o:Oper)(ho:o.op=.alloc 107)(w:World):(execOp a.eval o).run Tryz.prog w=.ok (.value (.pointer (some ⟨w.heap.size,0,none⟩))) (w.alloc zGB):=by
 unfold execOp;rw[ho];kernel_rfl
abbrev pB(b:Nat):Value:=.pointer (some ⟨b,0,none⟩)
abbrev gO(cs:Array Value):Obj:=.cells cs 107 (0,0)
theorem region_joined{id:Nat}{ops:Array Oper}{a0:Act}{w:World}{Q:Exit→Act→World→Prop}(hm:Tryz.prog.follows .mixedOrders=true)(hac:(List.range ops.size).all (fun i=>((ops[i]?).map fun o=>o.after.all fun e=>decide (e.on<i)).getD true)=true)(o0 o1 o2 o3 o4 o5 o6 o7:Oper)(hops:ops= #[o0,o1,o2,o3,o4,o5,o6,o7])(ts1 ts3:Array TypeId)(e0:o0.guard=none∧o0.op=.load 107 (.tmp 2)∧o0.dst=some 40)(e1:o1.guard=none∧o1.op=.call {callee:=.value (.func 96),args:= #[.tmp 40],argTypes:=ts1}∧o1.dst=some 41)(e2:o2.guard=none∧o2.op=.load 107 (.tmp 6)∧o2.dst=some 42)(e3:o3.guard=none∧o3.op=.call {callee:=.value (.func 96),args:= #[.tmp 42],argTypes:=ts3}∧o3.dst=some 43)(e4:o4.guard=none∧o4.op=.alloc 107∧o4.dst=some 9)(e5:o5.guard=none∧o5.op=.alloc 107∧o5.dst=some 10)(e6:o6.guard=none∧o6.op=.store 107 (.tmp 9) (.tmp 41)∧o6.dst=none)(e7:o7.guard=none∧o7.op=.store 107 (.tmp 10) (.tmp 43)∧o7.dst=none)(d1:∀L:Array Bool,(o1.after.all fun e=> !Region.binds .any e||L.getD e.on false)=true→L.getD 0 false=true)(d3:∀L:Array Bool,(o3.after.all fun e=> !Region.binds .any e||L.getD e.on false)=true→L.getD 2 false=true)(d6:∀L:Array Bool,(o6.after.all fun e=> !Region.binds .any e||L.getD e.on false)=true→L.getD 1 false=true∧L.getD 4 false=true)(d7:∀L:Array Bool,(o7.after.all fun e=> !Region.binds .any e||L.getD e.on false)=true→L.getD 3 false=true∧L.getD 5 false=true)(b0 b3:Nat)(h2:a0.eval (.tmp 2)=pB b0)(h6:a0.eval (.tmp 6)=pB b3)(hz:44≤a0.tmps.size)(c1 c2 s1 s2:Array Value)(hb0:w.heap[b0]? =some (gO c1))(hb3:w.heap[b3]? =some (gO c2))(k1:c1.size=10)(k2:c2.size=10)(k3:s1.size=10∧s1.all (·.oneCell')=true)(k4:s2.size=10∧s2.all (·.oneCell')=true)(HM1:∀U,Calls Tryz.prog 96 #[.agg c1] U fun e w'=>∃v,e=.returned v∧(v=.agg s1∧Kp0 U w'))(HM2:∀U,Calls Tryz.prog 96 #[.agg c2] U fun e w'=>∃v,e=.returned v∧(v=.agg s2∧Kp0 U w'))(hQ:∀A B W',Kp0 w W'→W'.heap[A]? =some (gO s1)→W'.heap[B]? =some (gO s2)→w.heap.size≤A→w.heap.size≤B→Q .normal ((((((a0.put (some 40) (.agg c1)).put (some 41) (.agg s1)).put (some 42) (.agg c2)).put (some 43) (.agg s2)).put (some 9) (pB A)).put (some 10) (pB B)) W'):(Code.region id ops true).wp Tryz.prog Q a0 w:=by
 have hsz:ops.size=8:=by rw[hops];rfl
 have z10:∀c:Array Value,c.size=10→(Tryz.prog.info? 107).map (·.size)=some c.size:=fun c h=>by rw[h];exact Tryz.szGrid
 refine wp_region_inv hm (fun L a W'=>∃(g:Nat→Option Value) (l0 l1 l2 l3 l4 l5 l6 l7:Bool),L= #[l0,l1,l2,l3,l4,l5,l6,l7]∧a=ovr a0 g∧(∀j,j≠9→j≠10→j≠40→j≠41→j≠42→j≠43→g j=none)∧
   (l0=true→g 40=some (.agg c1))∧(l1=true→g 41=some (.agg s1))∧(l2=true→g 42=some (.agg c2))∧(l3=true→g 43=some (.agg s2))∧Kp0 w W'∧
   (l4=true→∃A,g 9=some (pB A)∧w.heap.size≤A∧∃z,z.size=10∧W'.heap[A]? =some (gO z)∧(l6=true→z=s1))∧(l5=true→∃B,g 10=some (pB B)∧w.heap.size≤B∧∃z,z.size=10∧W'.heap[B]? =some (gO z)∧(l7=true→z=s2))∧(l4=true→l5=true→g 9≠g 10)∧(l6=true→l4=true)∧(l7=true→l5=true)) ?_ hac ?_ ?_ ?_
 ·refine⟨fun _=>none,false,false,false,false,false,false,false,false,by rw[hsz];rfl,(over_none a0).symm,fun _ _ _ _ _ _ _=>rfl,fun h=>(by cases h),fun h=>(by cases h),fun h=>(by cases h),fun h=>(by cases h),(Kp.refl _ w).drew,fun h=>(by cases h),fun h=>(by cases h),fun h=>(by cases h),fun h=>(by cases h),fun h=>(by cases h)⟩
 ·rintro L a W' ⟨g,l0,l1,l2,l3,l4,l5,l6,l7,rfl,-⟩
  rw[hsz];rfl
 ·rintro L a W' ⟨g,l0,l1,l2,l3,l4,l5,l6,l7,rfl,rfl,hg,g0,g1,g2,g3,hk,hA,hB,hne,-⟩ hall
  rw[hsz]at hall;have t0:l0=true:=hall 0 (by omega);have t1:l1=true:=hall 1 (by omega);have t2:l2=true:=hall 2 (by omega);have t3:l3=true:=hall 3 (by omega);have t4:l4=true:=hall 4 (by omega);have t5:l5=true:=hall 5 (by omega);have t6:l6=true:=hall 6 (by omega);have t7:l7=true:=hall 7 (by omega);obtain⟨A,a1,a2,z,-,a3,a4⟩:=hA t4;obtain⟨B,b1,b2,z',-,b3',b4⟩:=hB t5;rw[a4 t6]at a3;rw[b4 t7]at b3';have:=hQ A B W' hk a3 b3' a2 b2;have e:ovr a0 g=(((((a0.put (some 40) (.agg c1)).put (some 41) (.agg s1)).put (some 42) (.agg c2)).put (some 43) (.agg s2)).put (some 9) (pB A)).put (some 10) (pB B):=by
   conv=>rhs;rw[←over_none a0]
   simp only[ovr_put];congr 1
   funext j
   by_cases j10:j=10
   ·rw[j10,b1];simp
   ·by_cases j9:j=9
    ·rw[j9,a1];simp
    ·by_cases j43:j=43
     ·rw[j43,g3 t3];simp
     ·by_cases j42:j=42
      ·rw[j42,g2 t2];simp
      ·by_cases j41:j=41
       ·rw[j41,g1 t1];simp
       ·by_cases j40:j=40
        ·rw[j40,g0 t0];simp
        ·rw[hg j j9 j10 j40 j41 j42 j43];simp[j9,j10,j40,j41,j42,j43]
  rw[e];exact this
 ·rintro L a W' i o ⟨g,l0,l1,l2,l3,l4,l5,l6,l7,rfl,rfl,hg,g0,g1,g2,g3,hk,hA,hB,hne,h64,h75⟩ ho hi haf K' hK'
  have hi8:i<8:=by
   have:=(Array.getElem?_eq_some_iff.1 ho).1;omega
  rw[hops]at ho;have key:i=0∨i=1∨i=2∨i=3∨i=4∨i=5∨i=6∨i=7:=by omega
  rcases key with rfl|rfl|rfl|rfl|rfl|rfl|rfl|rfl
  ·obtain rfl:o0=o:=by simpa using ho
   have hl:l0=false:=hi;subst hl;refine step_loadRow e0.1 107 (.tmp 2) e0.2.1 b0 c1 _ ((over_eval_none a0 g 2 (hg 2 (by omega) (by omega) (by omega) (by omega) (by omega) (by omega))).trans h2) (hk.heap hb0) Tryz.underlying107 rfl (z10 c1 k1) (hK' _ _ ?_);rw[e0.2.2,ovr_put];refine⟨_,true,l1,l2,l3,l4,l5,l6,l7,rfl,rfl,fun j j1 j2 j3 j4 j5 j6=>by simp[j3];exact hg j j1 j2 j3 j4 j5 j6,fun _=>by simp,fun h=>by simp;exact g1 h,fun h=>by simp;exact g2 h,fun h=>by simp;exact g3 h,hk,fun h=>by simpa using hA h,fun h=>by simpa using hB h,fun x y=>by simpa using hne x y,h64,h75⟩
  ·obtain rfl:o1=o:=by simpa using ho
   have hl:l1=false:=hi;subst hl;have t0:l0=true:=d1 _ haf;refine step_call1 e1.1 96 (.tmp 40) ts1 e1.2.1 _ Tryz.func96 (by kernel_rfl) (by kernel_rfl) (.agg c1) (ovr_eval a0 g 40 _ (by omega) (g0 t0)) (HM1 W') (fun v w7 hR=>hK' _ _ ?_);obtain⟨rfl,k7⟩:=hR;rw[e1.2.2,ovr_put];refine⟨_,l0,true,l2,l3,l4,l5,l6,l7,rfl,rfl,fun j j1 j2 j3 j4 j5 j6=>by simp[j4];exact hg j j1 j2 j3 j4 j5 j6,fun h=>by simp;exact g0 h,fun _=>by simp,fun h=>by simp;exact g2 h,fun h=>by simp;exact g3 h,Kp0.trans hk k7,fun h=>?_,fun h=>?_,fun x y=>by simpa using hne x y,h64,h75⟩
   ·obtain⟨A,a1,a2,z,a3,a4,a5⟩:=hA h
    exact⟨A,by simpa using a1,a2,z,a3,k7.heap a4,a5⟩
   ·obtain⟨B,a1,a2,z,a3,a4,a5⟩:=hB h
    exact⟨B,by simpa using a1,a2,z,a3,k7.heap a4,a5⟩
  ·obtain rfl:o2=o:=by simpa using ho
   have hl:l2=false:=hi;subst hl;refine step_loadRow e2.1 107 (.tmp 6) e2.2.1 b3 c2 _ ((over_eval_none a0 g 6 (hg 6 (by omega) (by omega) (by omega) (by omega) (by omega) (by omega))).trans h6) (hk.heap hb3) Tryz.underlying107 rfl (z10 c2 k2) (hK' _ _ ?_);rw[e2.2.2,ovr_put];refine⟨_,l0,l1,true,l3,l4,l5,l6,l7,rfl,rfl,fun j j1 j2 j3 j4 j5 j6=>by simp[j5];exact hg j j1 j2 j3 j4 j5 j6,fun h=>by simp;exact g0 h,fun h=>by simp;exact g1 h,fun _=>by simp,fun h=>by simp;exact g3 h,hk,fun h=>by simpa using hA h,fun h=>by simpa using hB h,fun x y=>by simpa using hne x y,h64,h75⟩
  ·obtain rfl:o3=o:=by simpa using ho
   have hl:l3=false:=hi;subst hl;have t2:l2=true:=d3 _ haf;refine step_call1 e3.1 96 (.tmp 42) ts3 e3.2.1 _ Tryz.func96 (by kernel_rfl) (by kernel_rfl) (.agg c2) (ovr_eval a0 g 42 _ (by omega) (g2 t2)) (HM2 W') (fun v w7 hR=>hK' _ _ ?_);obtain⟨rfl,k7⟩:=hR;rw[e3.2.2,ovr_put];refine⟨_,l0,l1,l2,true,l4,l5,l6,l7,rfl,rfl,fun j j1 j2 j3 j4 j5 j6=>by simp[j6];exact hg j j1 j2 j3 j4 j5 j6,fun h=>by simp;exact g0 h,fun h=>by simp;exact g1 h,fun h=>by simp;exact g2 h,fun _=>by simp,Kp0.trans hk k7,fun h=>?_,fun h=>?_,fun x y=>by simpa using hne x y,h64,h75⟩
   ·obtain⟨A,a1,a2,z,a3,a4,a5⟩:=hA h
    exact⟨A,by simpa using a1,a2,z,a3,k7.heap a4,a5⟩
   ·obtain⟨B,a1,a2,z,a3,a4,a5⟩:=hB h
    exact⟨B,by simpa using a1,a2,z,a3,k7.heap a4,a5⟩
  ·obtain rfl:o4=o:=by simpa using ho
   have hl:l4=false:=hi;subst hl;have t6:l6=false:=by cases h:l6 with|false=>rfl|true=>exact absurd (h64 h) (by simp)
   subst t6;refine step_alloc e4.1 107 e4.2.1 zGB (Tryz.allocGrid _ _ e4.2.1 W') (hK' _ _ ?_);rw[e4.2.2,ovr_put];refine⟨_,l0,l1,l2,l3,true,l5,false,l7,rfl,rfl,fun j j1 j2 j3 j4 j5 j6=>by simp[j1];exact hg j j1 j2 j3 j4 j5 j6,fun h=>by simp;exact g0 h,fun h=>by simp;exact g1 h,fun h=>by simp;exact g2 h,fun h=>by simp;exact g3 h,hk.alloc _,fun _=>?_,fun h=>?_,fun _ y=>?_,fun h=>(by cases h),h75⟩
   ·exact⟨W'.heap.size,by simp,hk.size,_,rfl,heap_alloc_new W' zGB,fun h=>(by cases h)⟩
   ·obtain⟨B,a1,a2,z,a3,a4,a5⟩:=hB h
    exact⟨B,by simpa using a1,a2,z,a3,heap_alloc_keeps a4 _,a5⟩
   ·obtain⟨B,a1,a2,z,a3,a4,a5⟩:=hB y
    have:=lt_of_heap a4;simp[a1]
  ·obtain rfl:o5=o:=by simpa using ho
   have hl:l5=false:=hi;subst hl;have t7:l7=false:=by cases h:l7 with|false=>rfl|true=>exact absurd (h75 h) (by simp)
   subst t7;refine step_alloc e5.1 107 e5.2.1 zGB (Tryz.allocGrid _ _ e5.2.1 W') (hK' _ _ ?_);rw[e5.2.2,ovr_put];refine⟨_,l0,l1,l2,l3,l4,true,l6,false,rfl,rfl,fun j j1 j2 j3 j4 j5 j6=>by simp[j2];exact hg j j1 j2 j3 j4 j5 j6,fun h=>by simp;exact g0 h,fun h=>by simp;exact g1 h,fun h=>by simp;exact g2 h,fun h=>by simp;exact g3 h,hk.alloc _,fun h=>?_,fun _=>?_,fun y _=>?_,h64,fun h=>(by cases h)⟩
   ·obtain⟨A,a1,a2,z,a3,a4,a5⟩:=hA h
    exact⟨A,by simpa using a1,a2,z,a3,heap_alloc_keeps a4 _,a5⟩
   ·exact⟨W'.heap.size,by simp,hk.size,_,rfl,heap_alloc_new W' zGB,fun h=>(by cases h)⟩
   ·obtain⟨A,a1,a2,z,a3,a4,a5⟩:=hA y
    have:=lt_of_heap a4;simp[a1]
  ·obtain rfl:o6=o:=by simpa using ho
   have hl:l6=false:=hi;subst hl;obtain⟨t1,t4⟩:l1=true∧l4=true:=d6 _ haf;obtain⟨A,a1,a2,z,a3,a4,-⟩:=hA t4;refine step_storeRow e6.1 107 (.tmp 9) (.tmp 41) e6.2.1 A z s1 (ovr_eval a0 g 9 _ (by omega) a1) (ovr_eval a0 g 41 _ (by omega) (g1 t1)) a4 (z10 s1 k3.1) (by rw[a3,k3.1]) k3.2 (fun w5 hB5 hK5=>hK' _ _ ?_);rw[e6.2.2];refine⟨g,l0,l1,l2,l3,l4,l5,true,l7,rfl,rfl,hg,g0,g1,g2,g3,Kp.trans hk hK5 (fun i hi e=>by omega),fun _=>⟨A,a1,a2,s1,k3.1,hB5,fun _=>rfl⟩,fun h=>?_,hne,fun _=>t4,h75⟩;obtain⟨B,b1,b2,z',b3',b4,b5⟩:=hB h;refine⟨B,b1,b2,z',b3',hK5.heap b4 (fun e=>hne t4 h (by rw[a1,b1,e])),b5⟩
  ·obtain rfl:o7=o:=by simpa using ho
   have hl:l7=false:=hi;subst hl;obtain⟨t3,t5⟩:l3=true∧l5=true:=d7 _ haf;obtain⟨B,a1,a2,z,a3,a4,-⟩:=hB t5;refine step_storeRow e7.1 107 (.tmp 10) (.tmp 43) e7.2.1 B z s2 (ovr_eval a0 g 10 _ (by omega) a1) (ovr_eval a0 g 43 _ (by omega) (g3 t3)) a4 (z10 s2 k4.1) (by rw[a3,k4.1]) k4.2 (fun w5 hB5 hK5=>hK' _ _ ?_);rw[e7.2.2];refine⟨g,l0,l1,l2,l3,l4,l5,l6,true,rfl,rfl,hg,g0,g1,g2,g3,Kp.trans hk hK5 (fun i hi e=>by omega),fun h=>?_,fun _=>⟨B,a1,a2,s2,k4.1,hB5,fun _=>rfl⟩,hne,h64,fun _=>t5⟩;obtain⟨A,b1,b2,z',b3',b4,b5⟩:=hA h;refine⟨A,b1,b2,z',b3',hK5.heap b4 (fun e=>hne h t5 (by rw[a1,b1,e])),b5⟩
end Go.Proofs.YticbbncdcannlaaGreat
