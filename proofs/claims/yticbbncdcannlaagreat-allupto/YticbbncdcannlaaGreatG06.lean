import Derived.Test.YticbbncdcannlaaGreatRows
import Derived.ProofKit
import Derived.OpenShut
import Derived.JoinedCond
import Derived.ChangeOld
import Derived.Below
import Derived.Deep.Slices
import Derived.Test.YticbbncdcannlaaGreatG05
set_option maxRecDepth 100000
set_option maxHeartbeats 8000000
namespace Go.Proofs.YticbbncdcannlaaGreat
open Go.ChangeShapes Go.WideShapes Go.ChangeAt Go.RowKit
theorem bulk_pos{H:Type}(d:DataW H):1≤Rows.uptoBulk d:=by
 cases d with
 |lit l=>cases l<;>simp[Rows.uptoBulk]
 |_=>simp[Rows.uptoBulk]
theorem bulk_mem{H:Type}{d:DataW H}:∀{l:List (DataW H)},d∈l→Rows.uptoBulk d≤Rows.uptoBulkAll l
 |x::r,h=>by
  rw[Rows.uptoBulkAll];rcases List.mem_cons.1 h with rfl|h'
  ·omega
  ·have:=bulk_mem h';omega
theorem bulk_len{H:Type}:∀(l:List (DataW H)),l.length≤Rows.uptoBulkAll l
 |[]=>by simp
 |x::r=>by have:=bulk_len r;have:=bulk_pos x;rw[Rows.uptoBulkAll,List.length_cons];omega
theorem bulk_slice{H:Type}(xs ys:List (DataW H)):xs.length+ys.length+1≤Rows.uptoBulk (.slice xs ys)∧Rows.uptoBulkAll xs+1≤Rows.uptoBulk (.slice xs ys):=by
 have h1:=bulk_len xs;have h2:=bulk_len ys;rw[Rows.uptoBulk];omega
theorem Tryz.opShape:(Tryz.prog.underlying 87).map (fun u=>match u with|.struct fs=>fs.toList.map (fun f=>(f.type,f.offset))|_=>[])=some [(3,0),(3,1),(3,2),(3,3),(3,4),(3,5),(26,6),(4,7)]:=by kernel_rfl
theorem Tryz.opCells:Tryz.prog.cellsOf 87=8:=by kernel_rfl
theorem Tryz.intCells:Tryz.prog.cellsOf 3=1:=by kernel_rfl
theorem Tryz.intsCells:Tryz.prog.cellsOf 26=1:=by kernel_rfl
theorem Tryz.boolCells:Tryz.prog.cellsOf 4=1:=by kernel_rfl
theorem Tryz.opFields:∃fs,Tryz.prog.underlying 87=some (.struct fs)∧fs.toList.map (fun f=>(f.type,f.offset))=[(3,0),(3,1),(3,2),(3,3),(3,4),(3,5),(26,6),(4,7)]:=by
 have h:=Tryz.opShape;generalize Tryz.prog.underlying 87=u at h
 match u,h with
 |some (.struct fs),h=>exact⟨fs,rfl,by simpa using h⟩
theorem wrap_wf{k:IntKind}{n:Int}(h:(Lit.int k n).wf=true)(hk:k=.i64):IntKind.i64.wrap n=n:=by
 subst hk;have hx: -9223372036854775808≤n∧n≤9223372036854775807:=by simpa[Lit.wf,IntKind.min,IntKind.max,IntKind.signed,IntKind.bits]using h
 simp[IntKind.wrap,IntKind.signed,IntKind.bits];omega
section
variable {H:Type}{enc:TypeId×Value→H}
theorem open_op{W:World}{fuel:Nat}{cs:List Value}{x:DataW H×List MemPlace}(h:DataW.trod enc Tryz.prog W 0 (fun _=>true) true fuel 87 cs=some x)(hb:Rows.uptoBulk x.1≤1048576):∃o:OpD,cs=o.cells∧OpL (fun _=>(0,0)) W (.slice o.a o.n o.c) o.a o.n o.c o.xs∧IntKind.i64.wrap o.oA=o.oA:=by
 obtain⟨fs,hfs,hm⟩:=Tryz.opFields;obtain⟨xs,n,rfl,rfl,hlen,hxl,hf⟩:=DataW.trod_struct hfs h;rw[Tryz.opCells]at hlen;have hsz:fs.size=8:=by have:=congrArg List.length hm;simpa using this
 have fld:∀(i:Nat) (t o:Nat),(fs.toList.map (fun f=>(f.type,f.offset)))[i]? =some (t,o)→DataW.trod enc Tryz.prog W 0 (fun _=>true) true n t ((cs.drop o).take (Tryz.prog.cellsOf t))=xs[i]? :=fun i t o e=>by
  rw[List.getElem?_map,Option.map_eq_some_iff]at e;obtain⟨f,e1,e2⟩:=e;have:=hf i f (by simpa using e1);injection e2 with e3 e4
  rw[e3,e4]at this;exact this
 rw[hm]at fld
 match cs,hlen with
 |[c0,c1,c2,c3,c4,c5,c6,c7],_=>
 match xs,hxl.trans hsz with
 |[x0,x1,x2,x3,x4,x5,x6,x7],_=>
 have f0:=fld 0 _ _ rfl;have f1:=fld 1 _ _ rfl;have f2:=fld 2 _ _ rfl;have f3:=fld 3 _ _ rfl;have f4:=fld 4 _ _ rfl;have f5:=fld 5 _ _ rfl;have f6:=fld 6 _ _ rfl;have f7:=fld 7 _ _ rfl;rw[Tryz.intCells]at f0 f1 f2 f3 f4 f5;rw[Tryz.intsCells]at f6;rw[Tryz.boolCells]at f7;simp only[List.drop,List.take,List.getElem?_cons_zero,List.getElem?_cons_succ]at f0 f1 f2 f3 f4 f5 f6 f7;obtain⟨n0,e0,-,-⟩:=DataW.trod_int Tryz.underlying3 f0;obtain⟨n1,e1,-,-⟩:=DataW.trod_int Tryz.underlying3 f1;obtain⟨n2,e2,-,w2⟩:=DataW.trod_int Tryz.underlying3 f2;obtain⟨n3,e3,-,-⟩:=DataW.trod_int Tryz.underlying3 f3;obtain⟨n4,e4,-,-⟩:=DataW.trod_int Tryz.underlying3 f4;obtain⟨n5,e5,-,-⟩:=DataW.trod_int Tryz.underlying3 f5;obtain⟨b7,e7,-⟩:=DataW.trod_bool Tryz.underlying4 f7;have hb6:Rows.uptoBulk x6.1≤1048576:=by
  have:Rows.uptoBulk x6.1≤Rows.uptoBulkAll (([x0,x1,x2,x3,x4,x5,x6,x7]:List (DataW H×List MemPlace)).map (·.1)):=bulk_mem (by simp);rw[Rows.uptoBulk]at hb;omega
 simp only[List.cons.injEq,and_true]at e0 e1 e2 e3 e4 e5 e7;subst e0 e1 e2 e3 e4 e5 e7;rcases open_ints Tryz.underlying26 Tryz.underlying3 Tryz.intCells f6 with⟨e6,-⟩|⟨a,len,cap,zs,e6,-,hl,-,hz,ex,hcell,-⟩
 ·simp only[List.cons.injEq,and_true]at e6
  subst e6;exact⟨⟨n0,n1,n2,n3,n4,n5,none,0,0,[],b7⟩,rfl,⟨rfl,rfl,⟨none,0,rfl,fun hne=>absurd rfl hne⟩,fun hne=>absurd rfl hne,by simp⟩,wrap_wf w2 rfl⟩
 ·simp only[List.cons.injEq,and_true]at e6
  subst e6;rw[if_pos rfl]at hz;have hlt:(zs.take len).length=len:=by rw[List.length_take];omega
  have hsp:len≠0→a=⟨a.block,a.off,none⟩:=fun hne=>by
   have:=World.cell?_spot (hcell 0 (by omega));obtain⟨b,o,s⟩:=a;simp[Addr.add]at this;subst this;rfl
  refine⟨⟨n0,n1,n2,n3,n4,n5,some a,len,cap,zs.take len,b7⟩,rfl,⟨rfl,hlt,⟨some a,cap,by rw[hlt],fun hne=>?_⟩,fun hne b e=>?_,?_⟩,wrap_wf w2 rfl⟩
  ·have hne':len≠0:=fun e=>hne (by rw[e];rfl)
   refine⟨a.block,a.off,congrArg some (hsp hne'),fun j hj=>?_⟩;rw[hlt]at hj;have hc:=hcell j (by omega);rw[hsp hne']at hc;have e1:(zs.take len)[j]? =zs[j]? :=by rw[List.getElem?_take_of_lt hj]
   have:nth (zs.take len) j=zs.getD j 0:=by
    unfold nth;simp[List.getD,e1]
   rw[this,←hc];simp only[Addr.add];by_cases hj0:j=0
   ·subst hj0;simp
   ·simp[hj0]
  ·have hne':len≠0:=fun e=>hne (by rw[e];rfl)
   simp[Value.ownBlock]at e;subst e;have:=block_lt_of_cell (hcell 0 (by omega));refine⟨?_,rfl⟩;simpa[Addr.add]using this
  ·have hs:=(bulk_slice (lits .i64 (zs.take len)) (lits .i64 (zs.drop len):List (DataW H))).1
   rw[ex]at hb6;have:(lits .i64 (zs.take len):List (DataW H)).length=len:=by simp only[lits,List.length_map];exact hlt
   simp only at hb6;show len≤_;omega
theorem open_script{W:World}{a:Option Addr}{N c:Nat}{d:DataW H}{ps:List MemPlace}(h:DataW.Trod enc Tryz.prog W 0 (fun _=>true) true 22 (.slice a N c) d ps)(hb:Rows.uptoBulk d≤1048576):∃ops:List OpD,ops.length=N∧N≤1048576∧(0<N→∃g off,a=some ⟨g,off,none⟩∧Script (fun _=>(0,0)) W g off ops):=by
 obtain⟨fuel,h⟩:=h;rcases Go.Deep.open_slice Tryz.underlying22 h with⟨e,-⟩|⟨a',len,cap,m,n,D,Pl,e,-,hl,-,hm,hx,hel⟩
 ·simp[Value.cells]at e
  obtain⟨rfl,rfl,rfl⟩:=e;exact⟨[],rfl,by omega,fun h=>absurd h (by omega)⟩
 ·simp[Value.cells]at e
  obtain⟨rfl,rfl,rfl⟩:=e;rw[if_pos rfl]at hm;subst hm;injection hx with hx1 hx2
  subst hx1;have hbs:=bulk_slice ((List.range N).map D) ((List.range (m-N)).map fun j=>D (N+j));simp only[List.length_map,List.length_range]at hbs;rw[Tryz.opCells]at hel;have hinh:Inhabited OpD:=⟨⟨0,0,0,0,0,0,none,0,0,[],false⟩⟩;obtain⟨O,hO⟩:=Go.Deep.choose_lt (α:=OpD) (n:=N) (p:=fun i o=>W.cells? 0 (a'.add (i*8)) 8=some o.cells∧OpL (fun _=>(0,0)) W (.slice o.a o.n o.c) o.a o.n o.c o.xs∧IntKind.i64.wrap o.oA=o.oA) (fun i hi=>by
   obtain⟨cs,h1,h2⟩:=hel i (by omega);obtain⟨o,rfl,h3⟩:=open_op h2 (by
    have:Rows.uptoBulk (D i)≤Rows.uptoBulkAll ((List.range N).map D):=bulk_mem (List.mem_map.2 ⟨i,List.mem_range.2 hi,rfl⟩);show Rows.uptoBulk (D i)≤_;omega)
   exact⟨o,h1,h3⟩)
  refine⟨(List.range N).map O,by simp,by omega,fun hN=>?_⟩;have hc0:∀i,i<N→∀f,f<8→W.cell? (a'.add (i*8+f))=(O i).cells[f]? :=fun i hi f hf=>by
   have:=(World.cells?_some (hO i hi).1).2.2 f hf
   rwa [Go.Deep.add_add]at this
  have hspot:a'.spot=none:=by
   have:=World.cell?_spot ((hc0 0 hN 0 (by omega)).trans (by rfl));obtain⟨b,o,s⟩:=a';simpa[Addr.add]using this
  obtain⟨g,off,s⟩:=a';simp only at hspot;subst hspot;refine⟨g,off,rfl,⟨fun j o ho f v hv=>?_,fun _=>⟨rfl,?_⟩,fun j o ho=>?_⟩⟩
  ·have hj:j<N:=by have:=(List.getElem?_eq_some_iff.1 ho).1;simpa using this
   have ho':O j=o:=by simpa[hj]using ho
   have hf:f<8:=by have:=(List.getElem?_eq_some_iff.1 hv).1;simpa[OpD.cells]using this
   have:=hc0 j hj f hf;rw[ho',hv]at this;rw[←this];simp only[Addr.add];by_cases h0:j*8+f=0
   ·rw[h0];simp[show off+j*8+f=off by omega]
   ·rw[if_neg h0,Nat.add_assoc]
  ·have:=block_lt_of_cell ((hc0 0 hN 0 (by omega)).trans (by rfl))
   simpa[Addr.add]using this
  ·have hj:j<N:=by have:=(List.getElem?_eq_some_iff.1 ho).1;simpa using this
   have ho':O j=o:=by simpa[hj]using ho
   rw[←ho'];exact(hO j hj).2
end
end Go.Proofs.YticbbncdcannlaaGreat
