import Derived.RegionTactic
import Derived.Test.YticbbncdcannlaaGreatG17
set_option maxRecDepth 100000
set_option maxHeartbeats 8000000
namespace Go.Proofs.YticbbncdcannlaaGreat
open Go.RowKit
variable {P:Program}
def unL(L:Array Bool):Nat→Nat
 |0=>0
 |n+1=>unL L n+if L.getD n true then 0 else 1
theorem unL_zero{L:Array Bool}{n:Nat}(h:unL L n=0)(j:Nat)(hj:j<n):L.getD j true=true:=by
 induction n with
 |zero=>omega
 |succ n ih=>
  simp only[unL]at h;rcases Nat.lt_succ_iff_lt_or_eq.1 hj with h1|h1
  ·exact ih (by omega) h1
  ·subst h1
   by_cases hl:L.getD j true=true
   ·exact hl
   ·rw[if_neg hl]at h;omega
theorem getD_set(L:Array Bool)(i j:Nat):(L.setIfInBounds i true).getD j true=if j=i then true else L.getD j true:=by
 simp only[Array.getD_eq_getD_getElem?,Array.getElem?_setIfInBounds];by_cases h:i=j
 ·subst h
  by_cases h2:i<L.size<;>simp[h2]
 ·simp[h,Ne.symm h]
theorem unL_set(L:Array Bool)(i n:Nat)(hi:L.getD i true=false):unL (L.setIfInBounds i true) n≤unL L n∧(i<n→unL (L.setIfInBounds i true) n+1≤unL L n):=by
 induction n with
 |zero=>exact⟨Nat.le_refl _,fun h=>by omega⟩
 |succ n ih=>
  obtain⟨i1,i2⟩:=ih;simp only[unL,getD_set];by_cases h:n=i
  ·subst h
   rw[if_pos rfl,if_pos rfl,hi];simp;omega
  ·rw[if_neg h]
   exact⟨by omega,fun h2=>by have:=i2 (by omega);omega⟩
theorem unL_le(L:Array Bool)(n:Nat):unL L n≤n:=by
 induction n with
 |zero=>exact Nat.le_refl _
 |succ n ih=>simp only[unL];split<;>omega
theorem wpAny_inv{ops:Array Oper}{Q:Exit→Act→World→Prop}(I:Array Bool→Act→World→Prop)(hdone:∀L a w,I L a w→Region.ready .any ops L=[]→Q .normal a w)(hstep:∀L a w i o,I L a w→ops[i]? =some o→L.getD i true=false→(o.after.all fun e=> !Region.binds .any e||L.getD e.on false)=true→∀K':Act→World→Prop,(∀a' w',I (L.setIfInBounds i true) a' w'→K' a' w')→if Region.wanted o (yielded ops a.tmps)=true then Oper.wp P o a w K' Q else K' (a.put o.dst undef) w):∀(fuel:Nat) (L:Array Bool) (a:Act) (w:World),I L a w→unL L ops.size≤fuel→wpAny P .any ops Q fuel L a w:=by
 intro fuel;have rdy:∀L i,i∈Region.ready .any ops L→∃o,ops[i]? =some o∧i<ops.size∧L.getD i true=false∧(o.after.all fun e=> !Region.binds .any e||L.getD e.on false)=true:=by
  intro L i hi;unfold Region.ready at hi;rw[List.mem_filter]at hi;obtain⟨h1,h2⟩:=hi;have h1:=List.mem_range.1 h1;rw[Bool.and_eq_true]at h2;refine⟨ops[i],by rw[Array.getElem?_eq_getElem h1],h1,by simpa using h2.1,?_⟩;have h3:=h2.2;rw[Array.getElem?_eq_getElem h1]at h3;exact h3
 induction fuel with
 |zero=>
  intro L a w hI hL;have hr:Region.ready .any ops L=[]:=by
   rw[List.eq_nil_iff_forall_not_mem];intro i hi;obtain⟨o,-,h1,h2,-⟩:=rdy L i hi;rw[unL_zero (by omega) i h1]at h2;cases h2
  exact⟨hr,hdone L a w hI hr⟩
 |succ fuel ih=>
  intro L a w hI hL;refine⟨hdone L a w hI,fun i hi=>?_⟩;obtain⟨o,ho,h1,h2,h3⟩:=rdy L i hi;have hu:=(unL_set L i ops.size h2).2 h1;exact wpOp_step ho (fun K' hK'=>hstep L a w i o hI ho h2 h3 K' (fun a' w' hI'=>hK' a' w' (ih _ a' w' hI' (by omega))))
theorem all_listed{ops:Array Oper}{L:Array Bool}(hac:(List.range ops.size).all (fun i=>((ops[i]?).map fun o=>o.after.all fun e=>decide (e.on<i)).getD true)=true)(hL:L.size=ops.size)(hr:Region.ready .any ops L=[])(j:Nat)(hj:j<ops.size):L.getD j true=true:=by
 induction j using Nat.strongRecOn with
 |_ j ih=>
  by_cases h:L.getD j true=true
  ·exact h
  ·exfalso
   have hac':=List.all_eq_true.1 hac j (List.mem_range.2 hj);rw[Array.getElem?_eq_getElem hj]at hac';simp only[Option.map_some,Option.getD_some]at hac';have:j∈Region.ready .any ops L:=by
    unfold Region.ready;rw[List.mem_filter];refine⟨List.mem_range.2 hj,?_⟩;rw[Array.getElem?_eq_getElem hj,Bool.and_eq_true];refine⟨by simpa using h,?_⟩;simp only[Option.map_some,Option.getD_some];rw[Array.all_eq_true_iff_forall_mem]at hac'⊢;intro e he;have h1:e.on<j:=of_decide_eq_true (hac' e he);have h2:=ih e.on h1 (by omega);have h3:L.getD e.on false=true:=by
     simp only[Array.getD_eq_getD_getElem?]at h2⊢;rw[Array.getElem?_eq_getElem (by omega)]at h2⊢;exact h2
    rw[h3];simp
   rw[hr]at this;cases this
theorem wp_region_inv{id:Nat}{ops:Array Oper}{a:Act}{w:World}{Q:Exit→Act→World→Prop}(hm:P.follows .mixedOrders=true)(I:Array Bool→Act→World→Prop)(h0:I (Array.replicate ops.size false) a w.drew)(hac:(List.range ops.size).all (fun i=>((ops[i]?).map fun o=>o.after.all fun e=>decide (e.on<i)).getD true)=true)(hsize:∀L a w,I L a w→L.size=ops.size)(hdone:∀L a w,I L a w→(∀j,j<ops.size→L.getD j true=true)→Q .normal a w)(hstep:∀L a w i o,I L a w→ops[i]? =some o→L.getD i true=false→(o.after.all fun e=> !Region.binds .any e||L.getD e.on false)=true→∀K':Act→World→Prop,(∀a' w',I (L.setIfInBounds i true) a' w'→K' a' w')→if Region.wanted o (yielded ops a.tmps)=true then Oper.wp P o a w K' Q else K' (a.put o.dst undef) w):(Code.region id ops true).wp P Q a w:=
 wp_region_any hm (wpAny_inv I (fun L a w hI hr=>hdone L a w hI (all_listed hac (hsize L a w hI) hr)) hstep ops.size _ a _ h0 (unL_le _ _))
def ovr(a:Act)(g:Nat→Option Value):Act:={a with tmps:=a.tmps.mapIdx fun j v=>(g j).getD v}
theorem over_none(a:Act):ovr a (fun _=>none)=a:=by
 unfold ovr;have:a.tmps.mapIdx (fun _ v=>(none:Option Value).getD v)=a.tmps:=by
  apply Array.ext (by simp)
  intro i h1 h2;simp
 rw[this]
theorem ovr_put(a:Act)(g:Nat→Option Value)(d:Nat)(u:Value):(ovr a g).put (some d) u=ovr a (fun j=>if j=d then some u else g j):=by
 have:(a.tmps.mapIdx fun j v=>(g j).getD v).setIfInBounds d u=a.tmps.mapIdx fun j v=>((fun j=>if j=d then some u else g j) j).getD v:=by
  apply Array.ext_getElem?
  intro i;rw[Array.getElem?_setIfInBounds,Array.getElem?_mapIdx,Array.getElem?_mapIdx];by_cases h:d=i
  ·subst h
   by_cases h2:d<a.tmps.size
   ·simp[h2]
   ·simp[h2]
  ·rw[if_neg h]
   simp[Ne.symm h]
 unfold ovr Act.put;simp only[this]
theorem ovr_eval(a:Act)(g:Nat→Option Value)(j:Nat)(v:Value)(hj:j<a.tmps.size)(hg:g j=some v):(ovr a g).eval (.tmp j)=v:=by simp[ovr,Act.eval,Array.getD_eq_getD_getElem?,hj,hg]
theorem over_eval_none(a:Act)(g:Nat→Option Value)(j:Nat)(hg:g j=none):(ovr a g).eval (.tmp j)=a.eval (.tmp j):=by
 simp only[ovr,Act.eval,Array.getD_eq_getD_getElem?,Array.getElem?_mapIdx,hg];cases a.tmps[j]? <;>simp
theorem step_alloc{ops:Array Oper}{o:Oper}{a:Act}{w:World}{K:Act→World→Prop}{Q:Exit→Act→World→Prop}{E:Prop}(hgd:o.guard=none)(ty:TypeId)(_ho:o.op=.alloc ty)(O:Obj)(hr:(execOp a.eval o).run P w=.ok (.value (.pointer (some ⟨w.heap.size,0,none⟩))) (w.alloc O))(h:K (a.put o.dst (.pointer (some ⟨w.heap.size,0,none⟩))) (w.alloc O)):if Region.wanted o (yielded ops a.tmps)=true then Oper.wp P o a w K Q else E:=by
 have hw:Region.wanted o (yielded ops a.tmps)=true:=by simp[Region.wanted,hgd]
 rw[if_pos hw];unfold Oper.wp;rw[hr];exact h
end Go.Proofs.YticbbncdcannlaaGreat
