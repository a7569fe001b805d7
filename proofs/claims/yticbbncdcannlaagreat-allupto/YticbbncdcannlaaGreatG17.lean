import Derived.Laws.Tables
import Derived.Test.YticbbncdcannlaaGreatG16
import Derived.Test.YticbbncdcannlaaGreatG10
import Derived.Laws.Rows
set_option maxRecDepth 100000
set_option maxHeartbeats 8000000
namespace Go.Proofs.YticbbncdcannlaaGreat
open Go.RowKit
variable {P:Program}
theorem wpList_storeRow(w:World){ops:Array Oper}{rest:List Oper}{o:Oper}{a:Act}{Q:Exit→Act→World→Prop}(hgd:o.guard=none)(ty:TypeId)(x y:Operand)(ho:o.op=.store ty x y)(g:Nat)(cur cs:Array Value)(hx:a.eval x=.pointer (some ⟨g,0,none⟩))(hy:a.eval y=.agg cs)(hg:w.heap[g]? =some (.cells cur ty (0,0)))(hi:(P.info? ty).map (·.size)=some cs.size)(hs:cur.size=cs.size)(h1:cs.all (·.oneCell')=true)(h:∀w',w'.heap[g]? =some (.cells cs ty (0,0))→Kp (fun b=>b=g) w w'→wpList P ops Q rest (a.put o.dst undef) w'):wpList P ops Q (o::rest) a w:=by
 refine wpList_plain hgd fun K hK=>?_
 have hr:(Instr.storeAt ty (.pointer (some ⟨g,0,none⟩)) (.agg cs)).run P w=.ok () (w.setRow g cs):=by
  simp only[Instr.storeAt,Instr.sureAddr,Sem.run_bind,Sem.run_pure,Result.andThen];exact run_storeVar_row _ _ ty ty cur cs hg hi hs h1
 unfold Oper.wp;simp[execOp,ho,hx,hy,hr,Result.andThen];exact hK _ _ (h _ (setRow_new hg) (setRow_kp hg))
theorem wpList_storeMid(w:World){ops:Array Oper}{rest:List Oper}{o:Oper}{a:Act}{Q:Exit→Act→World→Prop}(hgd:o.guard=none)(ty t:TypeId)(x y:Operand)(ho:o.op=.store ty x y)(g off:Nat)(cur cs:Array Value)(hx:a.eval x=.pointer (some ⟨g,off,none⟩))(hy:a.eval y=.agg cs)(hg:w.heap[g]? =some (.cells cur t (0,0)))(hi:(P.info? ty).map (·.size)=some cs.size)(hs:off+cs.size≤cur.size)(h1:cs.all (·.oneCell')=true)(h:∀w',w'.heap[g]? =some (.cells (laidAt cur off cs.toList) t (0,0))→Kp (fun b=>b=g) w w'→wpList P ops Q rest (a.put o.dst undef) w'):wpList P ops Q (o::rest) a w:=by
 refine wpList_plain hgd fun K hK=>?_
 have hst:=run_storeCells_at P g off t cs.toList 0 cur w hg (by simpa using hs) (fun v hv=>(Array.all_eq_true_iff_forall_mem.1 h1) v (by simpa using hv));have hr:(Instr.storeAt ty (.pointer (some ⟨g,off,none⟩)) (.agg cs)).run P w=.ok () (w.setRow g (laidAt cur off cs.toList)):=by
  simp only[Instr.storeAt,Instr.sureAddr,Sem.run_bind,Sem.run_pure,Result.andThen];cases hq:P.info? ty with
  |none=>simp[hq]at hi
  |some i=>
   have hz:cs.size=i.size:=by simp[hq]at hi;omega
   simp[storeVar,sizeOf,typeInfo,hq,Value.cells,hz,hst,laidAt]
 unfold Oper.wp;simp[execOp,ho,hx,hy,hr,Result.andThen];exact hK _ _ (h _ (setRow_new hg) (setRow_kp hg))
theorem all3{c0 c1 c2:Value}(h0:c0.oneCell'=true)(h1:c1.oneCell'=true)(h2:c2.oneCell'=true):(#[c0,c1,c2]:Array Value).all (·.oneCell')=true:=by simp[h0,h1,h2]
theorem all5{c0 c1 c2 c3 c4:Value}(h0:c0.oneCell'=true)(h1:c1.oneCell'=true)(h2:c2.oneCell'=true)(h3:c3.oneCell'=true)(h4:c4.oneCell'=true):(#[c0,c1,c2,c3,c4]:Array Value).all (·.oneCell')=true:=by simp[h0,h1,h2,h3,h4]
theorem all10{c0 c1 c2 c3 c4 c5 c6 c7 c8 c9:Value}(h0:c0.oneCell'=true)(h1:c1.oneCell'=true)(h2:c2.oneCell'=true)(h3:c3.oneCell'=true)(h4:c4.oneCell'=true)(h5:c5.oneCell'=true)(h6:c6.oneCell'=true)(h7:c7.oneCell'=true)(h8:c8.oneCell'=true)(h9:c9.oneCell'=true):(#[c0,c1,c2,c3,c4,c5,c6,c7,c8,c9]:Array Value).all (·.oneCell')=true:=by simp[h0,h1,h2,h3,h4,h5,h6,h7,h8,h9]
theorem all13{c0 c1 c2 c3 c4 c5 c6 c7 c8 c9 c10 c11 c12:Value}(h0:c0.oneCell'=true)(h1:c1.oneCell'=true)(h2:c2.oneCell'=true)(h3:c3.oneCell'=true)(h4:c4.oneCell'=true)(h5:c5.oneCell'=true)(h6:c6.oneCell'=true)(h7:c7.oneCell'=true)(h8:c8.oneCell'=true)(h9:c9.oneCell'=true)(h10:c10.oneCell'=true)(h11:c11.oneCell'=true)(h12:c12.oneCell'=true):(#[c0,c1,c2,c3,c4,c5,c6,c7,c8,c9,c10,c11,c12]:Array Value).all (·.oneCell')=true:=by simp[h0,h1,h2,h3,h4,h5,h6,h7,h8,h9,h10,h11,h12]
end Go.Proofs.YticbbncdcannlaaGreat
namespace Go.Proofs.YticbbncdcannlaaGreat
open Go.RowKit
variable {P:Program}
theorem step_invoke{ops:Array Oper}{o:Oper}{a:Act}{w:World}{K:Act→World→Prop}{Q:Exit→Act→World→Prop}{E:Prop}(hgd:o.guard=none)(recv:Operand)(name:String)(xs:Array Operand)(ts:Array TypeId)(ho:o.op=.call {callee:=.invoke recv name,args:=xs,argTypes:=ts})(rv:Value)(vs:Array Value)(hx:a.eval recv=rv)(hxs:xs.map a.eval=vs)(f:FuncId)(as:Array Value)(hm:(callMethod rv name vs).run P w=.ok (.enter f as) w){R:Value→World→Prop}(hc:Calls P f as w fun e w'=>∃v,e=.returned v∧R v w')(h:∀v w',R v w'→K (a.put o.dst v) w'):if Region.wanted o (yielded ops a.tmps)=true then Oper.wp P o a w K Q else E:=by
 have hw:Region.wanted o (yielded ops a.tmps)=true:=by simp[Region.wanted,hgd]
 rw[if_pos hw];unfold Oper.wp execOp;have e:((#[rv]++vs).extract 1 (#[rv]++vs).size)=vs:=by
  apply Array.ext'
  simp
 have e0:(#[rv]++vs)[0]? =some rv:=by rw[Array.getElem?_append_left (by simp)];rfl
 simp only[ho,resolve,hx,hxs,invoke,Sem.run_bind,Sem.run_pure,Result.andThen_ok,e0,e,hm,Oper.upon];refine hc.mono ?_;rintro e w' ⟨v,rfl,hR⟩;exact h v w' hR
theorem step_invoke1{ops:Array Oper}{o:Oper}{a:Act}{w:World}{K:Act→World→Prop}{Q:Exit→Act→World→Prop}{E:Prop}(hgd:o.guard=none)(recv:Operand)(name:String)(x0:Operand)(ts:Array TypeId)(ho:o.op=.call {callee:=.invoke recv name,args:= #[x0],argTypes:=ts})(rv v0:Value)(hx:a.eval recv=rv)(h0:a.eval x0=v0)(f:FuncId)(as:Array Value)(hm:(callMethod rv name #[v0]).run P w=.ok (.enter f as) w){R:Value→World→Prop}(hc:Calls P f as w fun e w'=>∃v,e=.returned v∧R v w')(h:∀v w',R v w'→K (a.put o.dst v) w'):if Region.wanted o (yielded ops a.tmps)=true then Oper.wp P o a w K Q else E:=
 step_invoke hgd recv name #[x0] ts ho rv #[v0] hx (by simp[h0]) f as hm hc h
theorem step_invoke2{ops:Array Oper}{o:Oper}{a:Act}{w:World}{K:Act→World→Prop}{Q:Exit→Act→World→Prop}{E:Prop}(hgd:o.guard=none)(recv:Operand)(name:String)(x0 x1:Operand)(ts:Array TypeId)(ho:o.op=.call {callee:=.invoke recv name,args:= #[x0,x1],argTypes:=ts})(rv v0 v1:Value)(hx:a.eval recv=rv)(h0:a.eval x0=v0)(h1:a.eval x1=v1)(f:FuncId)(as:Array Value)(hm:(callMethod rv name #[v0,v1]).run P w=.ok (.enter f as) w){R:Value→World→Prop}(hc:Calls P f as w fun e w'=>∃v,e=.returned v∧R v w')(h:∀v w',R v w'→K (a.put o.dst v) w'):if Region.wanted o (yielded ops a.tmps)=true then Oper.wp P o a w K Q else E:=
 step_invoke hgd recv name #[x0,x1] ts ho rv #[v0,v1] hx (by simp[h0,h1]) f as hm hc h
end Go.Proofs.YticbbncdcannlaaGreat
namespace Go.Proofs.YticbbncdcannlaaGreat
open Go.RowKit
variable {P:Program}
theorem step_storeRow{ops:Array Oper}{o:Oper}{a:Act}{w:World}{K:Act→World→Prop}{Q:Exit→Act→World→Prop}{E:Prop}(hgd:o.guard=none)(ty:TypeId)(x y:Operand)(ho:o.op=.store ty x y)(g:Nat)(cur cs:Array Value)(hx:a.eval x=.pointer (some ⟨g,0,none⟩))(hy:a.eval y=.agg cs)(hg:w.heap[g]? =some (.cells cur ty (0,0)))(hi:(P.info? ty).map (·.size)=some cs.size)(hs:cur.size=cs.size)(h1:cs.all (·.oneCell')=true)(h:∀w',w'.heap[g]? =some (.cells cs ty (0,0))→Kp (fun b=>b=g) w w'→K (a.put o.dst undef) w'):if Region.wanted o (yielded ops a.tmps)=true then Oper.wp P o a w K Q else E:=by
 have hw:Region.wanted o (yielded ops a.tmps)=true:=by simp[Region.wanted,hgd]
 rw[if_pos hw];have hr:(Instr.storeAt ty (.pointer (some ⟨g,0,none⟩)) (.agg cs)).run P w=.ok () (w.setRow g cs):=by
  simp only[Instr.storeAt,Instr.sureAddr,Sem.run_bind,Sem.run_pure,Result.andThen];exact run_storeVar_row _ _ ty ty cur cs hg hi hs h1
 unfold Oper.wp;simp[execOp,ho,hx,hy,hr,Result.andThen];exact h _ (setRow_new hg) (setRow_kp hg)
theorem step_loadRow{ops:Array Oper}{o:Oper}{a:Act}{w:World}{K:Act→World→Prop}{Q:Exit→Act→World→Prop}{E:Prop}(hgd:o.guard=none)(ty:TypeId)(x:Operand)(ho:o.op=.load ty x)(g:Nat)(cs:Array Value)(d:TypeDesc)(hx:a.eval x=.pointer (some ⟨g,0,none⟩))(hg:w.heap[g]? =some (.cells cs ty (0,0)))(hu:P.underlying ty=some d)(hd:(match d with|.struct _|.array _ _=>true|_=>false)=true)(hi:(P.info? ty).map (·.size)=some cs.size)(h:K (a.put o.dst (.agg cs)) w):if Region.wanted o (yielded ops a.tmps)=true then Oper.wp P o a w K Q else E:=by
 have hw:Region.wanted o (yielded ops a.tmps)=true:=by simp[Region.wanted,hgd]
 rw[if_pos hw];exact wp_load_row ty x ho g hx ty cs (0,0) d hg hu hd hi h
end Go.Proofs.YticbbncdcannlaaGreat
namespace Go.Proofs.YticbbncdcannlaaGreat
open Go.RowKit
variable {P:Program}
theorem step_callv2{ops:Array Oper}{o:Oper}{a:Act}{w:World}{K:Act→World→Prop}{Q:Exit→Act→World→Prop}{E:Prop}(hgd:o.guard=none)(f:FuncId)(z x y:Operand)(ts:Array TypeId)(ho:o.op=.call {callee:=.value z,args:= #[x,y],argTypes:=ts})(hz:a.eval z=.func (.func f) #[] #[])(fn:Func)(hf:P.funcs[f]? =some fn)(hname:(fn.name== "runtime.NumGoroutine")=false)(hb:fn.body.isSome=true)(vx vy:Value)(hx:a.eval x=vx)(hy:a.eval y=vy){R:Value→World→Prop}(hc:Calls P f #[vx,vy] w fun e w'=>∃v,e=.returned v∧R v w')(h:∀v w',R v w'→K (a.put o.dst v) w'):if Region.wanted o (yielded ops a.tmps)=true then Oper.wp P o a w K Q else E:=by
 have hw:Region.wanted o (yielded ops a.tmps)=true:=by simp[Region.wanted,hgd]
 rw[if_pos hw];have hr:=run_callFunc_body (P:=P) hf hname hb;unfold Oper.wp execOp;simp[ho,resolve,hz,Deferred.ofValue,invoke,hx,hy,hr,Oper.upon];refine hc.mono ?_;rintro e w' ⟨v,rfl,hR⟩;exact h v w' hR
theorem step_invoke3{ops:Array Oper}{o:Oper}{a:Act}{w:World}{K:Act→World→Prop}{Q:Exit→Act→World→Prop}{E:Prop}(hgd:o.guard=none)(recv:Operand)(name:String)(x0 x1 x2:Operand)(ts:Array TypeId)(ho:o.op=.call {callee:=.invoke recv name,args:= #[x0,x1,x2],argTypes:=ts})(rv v0 v1 v2:Value)(hx:a.eval recv=rv)(h0:a.eval x0=v0)(h1:a.eval x1=v1)(h2:a.eval x2=v2)(f:FuncId)(as:Array Value)(hm:(callMethod rv name #[v0,v1,v2]).run P w=.ok (.enter f as) w){R:Value→World→Prop}(hc:Calls P f as w fun e w'=>∃v,e=.returned v∧R v w')(h:∀v w',R v w'→K (a.put o.dst v) w'):if Region.wanted o (yielded ops a.tmps)=true then Oper.wp P o a w K Q else E:=
 step_invoke hgd recv name #[x0,x1,x2] ts ho rv #[v0,v1,v2] hx (by simp[h0,h1,h2]) f as hm hc h
end Go.Proofs.YticbbncdcannlaaGreat
