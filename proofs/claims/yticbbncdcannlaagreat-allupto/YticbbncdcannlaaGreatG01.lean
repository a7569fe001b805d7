import Derived.WalkKit
import Derived.WalkSpells
import Derived.WalkLawsBesides
import Derived.Deep.QuietTactic
import Derived.BigQuiet
import Derived.Deep.AppendLies
set_option maxRecDepth 100000
set_option maxHeartbeats 8000000
namespace Go.Proofs.YticbbncdcannlaaGreat
open Go.RowKit
structure Kp(S:Nat→Prop)(w w':World):Prop where
 os:w'.os=w.os
 tape:w'.tape=w.tape
 output:w'.output=w.output
 size:w.heap.size≤w'.heap.size
 block:∀b,b<w.heap.size→¬S b→w'.heap[b]? =w.heap[b]?
def Kp0(w w':World):Prop:=Kp (fun _=>False) w w'
theorem Kp.refl(S:Nat→Prop)(w:World):Kp S w w:=⟨rfl,rfl,rfl,Nat.le_refl _,fun _ _ _=>rfl⟩
theorem Kp0.refl(w:World):Kp0 w w:=Kp.refl _ w
theorem Kp.trans{S S':Nat→Prop}{a b c:World}(h:Kp S a b)(k:Kp S' b c)(hs:∀i,i<a.heap.size→S' i→S i):Kp S a c:=
 ⟨k.os.trans h.os,k.tape.trans h.tape,k.output.trans h.output,Nat.le_trans h.size k.size,fun i hi hn=>(k.block i (Nat.lt_of_lt_of_le hi h.size) (fun e=>hn (hs i hi e))).trans (h.block i hi hn)⟩
theorem Kp.mono{S S':Nat→Prop}{a b:World}(h:Kp S a b)(hs:∀i,i<a.heap.size→S i→S' i):Kp S' a b:=
 (Kp.refl S' a).trans h hs
theorem Kp.of0{S:Nat→Prop}{a b:World}(h:Kp0 a b):Kp S a b:=Kp.mono h (fun _ _ e=>e.elim)
theorem Kp.trans0{S:Nat→Prop}{a b c:World}(h:Kp S a b)(k:Kp0 b c):Kp S a c:=h.trans k (fun _ _ e=>e.elim)
theorem Kp0.trans{a b c:World}(h:Kp0 a b)(k:Kp0 b c):Kp0 a c:=Kp.trans h k (fun _ _ e=>e)
theorem Kp.drew{S:Nat→Prop}{a w:World}(h:Kp S a w):Kp S a w.drew:=⟨h.os,h.tape,h.output,h.size,h.block⟩
theorem Kp0.drew{a w:World}(h:Kp0 a w):Kp0 a w.drew:=Kp.drew h
theorem Kp.drewN{S:Nat→Prop}{a w:World}(h:Kp S a w)(n:Nat):Kp S a (w.drewN n):=by
 induction n with
 |zero=>exact h
 |succ n ih=>exact ih.drew
theorem Kp.alloc{S:Nat→Prop}{a w:World}(h:Kp S a w)(o:Obj):Kp S a (w.alloc o):=
 ⟨h.os,h.tape,h.output,by simp;exact Nat.le_succ_of_le h.size,fun i hi hn=>(Below.heap_alloc w o i (Nat.lt_of_lt_of_le hi h.size)).trans (h.block i hi hn)⟩
theorem Kp.setCell{S:Nat→Prop}{a w:World}(h:Kp S a w)(p:Addr)(u:Value)(hp:p.block<a.heap.size→S p.block):Kp S a (w.setCell p u):=
 ⟨h.os,h.tape,h.output,by simp;exact h.size,fun i hi hn=>(heap_setCell_other w p i u (fun e=>hn (e▸hp (e▸hi)))).trans (h.block i hi hn)⟩
theorem Kp.grown{S:Nat→Prop}{a w w':World}{row:Option Nat}(h:Kp S a w)(hg:w.grownBy w' row)(hr:∀k,row=some k→k<a.heap.size→S k):Kp S a w':=
 ⟨hg.os.trans h.os,hg.tape.trans h.tape,hg.output.trans h.output,Nat.le_trans h.size hg.size,fun i hi hn=>(hg.block i (Nat.lt_of_lt_of_le hi h.size) (fun e=>hn (hr i e.symm hi))).trans (h.block i hi hn)⟩
theorem lt_of_heap{w:World}{b:Nat}{o:Obj}(h:w.heap[b]? =some o):b<w.heap.size:=by
 rcases Nat.lt_or_ge b w.heap.size with h'|h'
 ·exact h'
 ·rw[Array.getElem?_eq_none h']at h;cases h
theorem Kp.heap{S:Nat→Prop}{w w':World}(h:Kp S w w'){b:Nat}{o:Obj}(hb:w.heap[b]? =some o)(hs:¬S b):w'.heap[b]? =some o:=
 (h.block b (lt_of_heap hb) hs).trans hb
theorem Kp.cell{S:Nat→Prop}{w w':World}(h:Kp S w w'){a:Addr}{v:Value}(hc:w.cell? a=some v)(hs:¬S a.block):w'.cell? a=some v:=
 (World.cell?_of_block (h.block a.block (World.block_lt_of_cell? w a hc) hs)).trans hc
theorem Kp0.heap{w w':World}(h:Kp0 w w'){b:Nat}{o:Obj}(hb:w.heap[b]? =some o):w'.heap[b]? =some o:=Kp.heap h hb (fun e=>e)
theorem Kp0.cell{w w':World}(h:Kp0 w w'){a:Addr}{v:Value}(hc:w.cell? a=some v):w'.cell? a=some v:=Kp.cell h hc (fun e=>e)
theorem Kp0.below{w w':World}(h:Kp0 w w'):Below w.heap.size w w':=⟨h.os,h.tape,h.output,h.size,fun k hk=>h.block k hk (fun e=>e)⟩
def nth(xs:List Int)(j:Nat):Int:=xs.getD j 0
theorem nth_lt{xs:List Int}{j:Nat}(h:j<xs.length):nth xs j=xs[j]:=by simp[nth,List.getD,h]
theorem ext_nth{xs ys:List Int}(h:xs.length=ys.length)(e:∀j,j<xs.length→nth xs j=nth ys j):xs=ys:=by
 refine List.ext_getElem h (fun i h1 h2=>?_);have:=e i h1
 rwa [nth_lt h1,nth_lt h2]at this
def ints(xs:List Int):List Value:=xs.map (Value.int .i64)
theorem ints_length(xs:List Int):(ints xs).length=xs.length:=by simp[ints]
theorem ints_get{xs:List Int}{j:Nat}(h:j<xs.length):(ints xs)[j]? =some (.int .i64 (nth xs j)):=by simp[ints,nth_lt h,h]
theorem ints_append(xs ys:List Int):ints (xs++ys)=ints xs++ints ys:=by simp[ints]
theorem ints_cell(xs:List Int):∀u∈ints xs,u.oneCell'=true:=by
 intro u hu;simp[ints]at hu;obtain⟨a,_,rfl⟩:=hu;rfl
def RdI(w:World)(v:Value)(xs:List Int):Prop:=
 ∃a cap,v=.slice a xs.length cap∧(xs≠[]→∃g o,a=some ⟨g,o,none⟩∧∀j,j<xs.length→w.cell? ⟨g,o+j,none⟩=some (.int .i64 (nth xs j)))
theorem RdI.kp{S:Nat→Prop}{w w':World}{v:Value}{xs:List Int}(h:RdI w v xs)(k:Kp S w w')(hs:∀b,v.ownBlock=some b→¬S b):RdI w' v xs:=by
 obtain⟨a,cap,rfl,h⟩:=h;refine⟨a,cap,rfl,fun hne=>?_⟩;obtain⟨g,o,rfl,hc⟩:=h hne;exact⟨g,o,rfl,fun j hj=>k.cell (hc j hj) (hs g rfl)⟩
theorem RdI.kp0{w w':World}{v:Value}{xs:List Int}(h:RdI w v xs)(k:Kp0 w w'):RdI w' v xs:=h.kp k (fun _ _ e=>e)
def OwI(w:World)(v:Value)(xs:List Int):Prop:=w.ownsRow 0 3 1 v xs.length (ints xs)
theorem OwI.rd{w:World}{v:Value}{xs:List Int}(h:OwI w v xs):RdI w v xs:=by
 rcases h.2 with⟨rfl,h0⟩|⟨g,cap,cur,rfl,_,hg,hn,_,hs,ht⟩
 ·exact⟨none,0,by rw[h0],fun hne=>absurd (List.length_eq_zero_iff.1 h0) hne⟩
 ·refine⟨_,cap,rfl,fun _=>⟨g,0,rfl,fun j hj=>?_⟩⟩
  rw[Nat.zero_add,cell_of_row w g j cur _ _ hg];have:=ints_get hj;rw[←ht,List.getElem?_take,if_pos (by omega)]at this;simpa using this
theorem OwI.nil(w:World):OwI w (.slice none 0 0) []:=World.ownsRow_nil w 0 _ 1
theorem OwI.kp{S:Nat→Prop}{w w':World}{v:Value}{xs:List Int}(h:OwI w v xs)(k:Kp S w w')(hs:∀b,v.ownBlock=some b→¬S b):OwI w' v xs:=by
 refine⟨h.1,?_⟩;rcases h.2 with hn|⟨g,cap,cur,rfl,hb,hg,rest⟩
 ·exact .inl hn
 ·exact .inr ⟨g,cap,cur,rfl,hb,k.heap hg (hs g rfl),rest⟩
theorem row_kp{S:Nat→Prop}{w w':World}{base:Nat}{e:TypeId}{size:Nat}{v:Value}{n:Nat}{xs:List Value}(h:w.ownsRow base e size v n xs)(k:Kp S w w')(hs:∀b,v.ownBlock=some b→¬S b):w'.ownsRow base e size v n xs:=by
 refine⟨h.1,?_⟩;rcases h.2 with hn|⟨g,cap,cur,rfl,hb,hg,rest⟩
 ·exact .inl hn
 ·exact .inr ⟨g,cap,cur,rfl,hb,k.heap hg (hs g rfl),rest⟩
end Go.Proofs.YticbbncdcannlaaGreat
namespace Go.Proofs.YticbbncdcannlaaGreat
theorem take_snoc(l:List Int)(k:Nat)(h:k<l.length):l.take (k+1)=l.take k++[nth l k]:=by rw[nth_lt h,List.take_succ_eq_append_getElem h]
def vol(l:List Int):Int:=l.foldl (fun a b=>a*b) 1
theorem vol_snoc(l:List Int)(x:Int):vol (l++[x])=vol l*x:=by simp[vol]
theorem vol_take(l:List Int)(k:Nat)(h:k<l.length):vol (l.take (k+1))=vol (l.take k)*nth l k:=by rw[take_snoc l k h,vol_snoc]
def sized(l:List Int):Prop:=∀j,j<l.length→1≤nth l j∧nth l j≤60
theorem mul_bd{a b A B:Int}(h1:1≤a)(h2:a≤A)(h3:1≤b)(h4:b≤B):1≤a*b∧a*b≤A*B:=by
 constructor
 ·have:=Int.mul_le_mul h1 h3 (by omega) (by omega)
  omega
 ·exact Int.mul_le_mul h2 h4 (by omega) (by omega)
theorem vol_bd(l:List Int)(hs:sized l)(hl:l.length≤4)(k:Nat)(hk:k≤l.length):1≤vol (l.take k)∧vol (l.take k)≤12960000:=by
 have key:∀k,k≤l.length→1≤vol (l.take k)∧vol (l.take k)≤(60:Int) ^ k:=by
  intro k
  induction k with
  |zero=>intro _;simp[vol]
  |succ k ih=>
   intro hk;obtain⟨i1,i2⟩:=ih (by omega);obtain⟨s1,s2⟩:=hs k (by omega);rw[vol_take l k (by omega)];have:=mul_bd i1 i2 s1 s2;rw[Int.pow_succ];exact this
 obtain⟨a,b⟩:=key k hk;refine⟨a,Int.le_trans b ?_⟩;have hk4:k≤4:=by omega
 match k,hk4 with
 |0,_=>decide
 |1,_=>decide
 |2,_=>decide
 |3,_=>decide
 |4,_=>decide
def okShape(l:List Int):Prop:=l.length≤4∧sized l∧vol l≤3600
def sizedB(l:List Int):Bool:=(List.range l.length).all fun j=>decide (1≤nth l j)&&decide (nth l j≤60)
theorem sizedB_iff(l:List Int):sizedB l=true↔sized l:=by simp[sizedB,sized]
def shapeB(l:List Int):Bool:=decide (l.length≤4)&&(sizedB l&&decide (vol l≤3600))
theorem shapeB_iff(l:List Int):shapeB l=true↔okShape l:=by simp[shapeB,okShape,sizedB_iff]
def inB(s i:List Int):Prop:=s.length=i.length∧∀j,j<s.length→0≤nth i j∧nth i j<nth s j
def inBb(s i:List Int):Bool:=decide (s.length=i.length)&&(List.range s.length).all fun j=>decide (0≤nth i j)&&decide (nth i j<nth s j)
theorem inBb_iff(s i:List Int):inBb s i=true↔inB s i:=by simp[inBb,inB]
def rankTo(s i:List Int):Nat→Int
 |0=>0
 |k+1=>rankTo s i k*nth s k+nth i k
def rank(s i:List Int):Int:=if inBb s i=true then rankTo s i s.length else-1
theorem rank_bd(s i:List Int)(hs:sized s)(hi:∀j,j<s.length→0≤nth i j∧nth i j<nth s j)(k:Nat)(hk:k≤s.length):0≤rankTo s i k∧rankTo s i k<vol (s.take k):=by
 induction k with
 |zero=>simp[rankTo,vol]
 |succ k ih=>
  obtain⟨a,b⟩:=ih (by omega);obtain⟨s1,s2⟩:=hs k (by omega);obtain⟨i1,i2⟩:=hi k (by omega);rw[vol_take s k (by omega)];simp only[rankTo];constructor
  ·have:=Int.mul_nonneg a (show(0:Int)≤nth s k by omega)
   omega
  ·have h1:(rankTo s i k+1)*nth s k≤vol (s.take k)*nth s k:=Int.mul_le_mul_of_nonneg_right (by omega) (by omega)
   rw[Int.add_mul]at h1;omega
def asK(k v:Int):Int:=if k=1 then v%256 else v
theorem asK_neg{v:Int}(h:v.tmod 256<0):v.tmod 256+256=v%256:=by
 have:=Int.tmod_eq_emod (a:=v) (b:=256);split at this<;>simp at this<;>omega
theorem asK_pos{v:Int}(h:¬v.tmod 256<0):v.tmod 256=v%256:=by
 have:=Int.tmod_eq_emod (a:=v) (b:=256);split at this<;>simp at this<;>omega
open Go.RowKit
structure Arr where
 kind:Int
 shape:List Int
 cells:List Int
 ro:Bool
 buf:Nat
structure Buf where
 kind:Int
 at':Int
 size:Int
structure Sp where
 n1:Nat
 n2:Nat
 v1:List Int
 v2:List Int
 arrs:List (Option Arr)
 bufs:List Buf
def Sp.cap(σ:Sp)(k:Int):Nat:=if k=1 then σ.n1 else σ.n2
def Sp.vals(σ:Sp)(k:Int):List Int:=if k=1 then σ.v1 else σ.v2
def ix(h:Int):Nat:=h.toNat-1
def Sp.find(σ:Sp)(h:Int):Option Arr:=if 1≤h then(σ.arrs.getD (ix h) none)else none
structure Arr.ok(a:Arr)(σ:Sp):Prop where
 kind:a.kind=1∨a.kind=2
 shape:okShape a.shape
 length:(a.cells.length:Int)=vol a.shape
 inside:∀j,j<a.cells.length→0≤nth a.cells j∧nth a.cells j<σ.cap a.kind
 buf:∃b,σ.bufs[a.buf]? =some b
structure Sp.ok(σ:Sp):Prop where
 n1:σ.n1≤10000
 n2:σ.n2≤10000
 v1:σ.v1.length=σ.n1
 v2:σ.v2.length=σ.n2
 arr:∀(i:Nat) (a:Arr),σ.arrs[i]? =some (some a)→a.ok σ
 buf:∀(i:Nat) (b:Buf),σ.bufs[i]? =some b→(b.kind=1∨b.kind=2)∧0≤b.at'∧1≤b.size∧b.size≤3600∧b.at'+b.size≤σ.cap b.kind
 many:σ.arrs.length≤100000000
 bufs:σ.bufs.length≤100000000
def ptr:Option Nat→Value
 |none=>.pointer none
 |some b=>.pointer (some ⟨b,0,none⟩)
def Buf.row(b:Buf):List Value:=[.int .i64 b.kind,.int .i64 b.at',.int .i64 b.size]
abbrev Tags:=Nat→Nat×Nat
def Tagged(T:Tags)(v:Value)(t:Nat×Nat):Prop:=∀b,v.ownBlock=some b→T b=t
structure YArr(T:Tags)(o:Nat)(w:World)(q:Nat)(vs vc:Value)(a:Arr):Prop where
 blk:w.heap[q]? =some (.cells #[.int .i64 a.kind,vs,vc,.bool a.ro,.int .i64 (a.buf:Int)] 181 (0,0))
 shape:OwI w vs a.shape
 cells:OwI w vc a.cells
 tag:T q=(o,6)
 tags:Tagged T vs (o,6)
 tagc:Tagged T vc (o,6)
structure YL where
 g1:Nat
 g2:Nat
 va:Value
 vb:Value
 ps:List (Option Nat)
structure YAt(T:Tags)(o:Nat)(w:World)(p:Nat)(L:YL)(σ:Sp):Prop where
 blk:w.heap[p]? =some (.cells #[.int .i64 0,.int .i64 (σ.n1:Int),.int .i64 (σ.n2:Int),.slice none 0 0,.slice (some ⟨L.g1,0,none⟩) σ.n1 σ.n1,.slice (some ⟨L.g2,0,none⟩) σ.n2 σ.n2,L.va,L.vb] 153 (0,0))
 c1:w.heap[L.g1]? =some (.cells (ints σ.v1).toArray 3 (0,0))
 c2:w.heap[L.g2]? =some (.cells (ints σ.v2).toArray 3 (0,0))
 va:w.ownsRow 0 178 1 L.va σ.arrs.length (L.ps.map ptr)
 vb:w.ownsRow 0 213 3 L.vb σ.bufs.length (σ.bufs.flatMap Buf.row)
 len:L.ps.length=σ.arrs.length
 non:∀i:Nat,σ.arrs[i]? =some none→L.ps[i]? =some none
 som:∀(i:Nat) (a:Arr),σ.arrs[i]? =some (some a)→∃q vs vc,L.ps[i]? =some (some q)∧YArr T o w q vs vc a
 tp:T p=(o,1)
 t1:T L.g1=(o,2)
 t2:T L.g2=(o,3)
 ta:Tagged T L.va (o,4)
 tb:Tagged T L.vb (o,5)
theorem YArr.kp{T:Tags}{o:Nat}{S:Nat→Prop}{w w':World}{q:Nat}{vs vc:Value}{a:Arr}(h:YArr T o w q vs vc a)(k:Kp S w w')(hs:∀b,T b=(o,6)→¬S b):YArr T o w' q vs vc a:=
 ⟨k.heap h.blk (hs q h.tag),h.shape.kp k (fun b hb=>hs b (h.tags b hb)),h.cells.kp k (fun b hb=>hs b (h.tagc b hb)),h.tag,h.tags,h.tagc⟩
def TagsTo(w:World)(T T':Tags):Prop:=∀b,b<w.heap.size→T' b=T b
theorem own_lt{w:World}{base:Nat}{e:TypeId}{size:Nat}{v:Value}{n:Nat}{xs:List Value}(h:w.ownsRow base e size v n xs){b:Nat}(hb:v.ownBlock=some b):b<w.heap.size:=(h.lt b hb).2
theorem YArr.tags'{T T':Tags}{o:Nat}{w:World}{q:Nat}{vs vc:Value}{a:Arr}(h:YArr T o w q vs vc a)(k:TagsTo w T T'):YArr T' o w q vs vc a:=
 ⟨h.blk,h.shape,h.cells,(k q (lt_of_heap h.blk)).trans h.tag,fun b hb=>(k b (own_lt h.shape hb)).trans (h.tags b hb),fun b hb=>(k b (own_lt h.cells hb)).trans (h.tagc b hb)⟩
theorem YAt.kp{T:Tags}{o:Nat}{S:Nat→Prop}{w w':World}{p:Nat}{L:YL}{σ:Sp}(h:YAt T o w p L σ)(k:Kp S w w')(hs:∀b,(T b).1=o→¬S b):YAt T o w' p L σ:=
 ⟨k.heap h.blk (hs p (by rw[h.tp])),k.heap h.c1 (hs _ (by rw[h.t1])),k.heap h.c2 (hs _ (by rw[h.t2])),row_kp h.va k (fun b hb=>hs b (by rw[h.ta b hb])),row_kp h.vb k (fun b hb=>hs b (by rw[h.tb b hb])),
  h.len,h.non,fun i a ha=>by
   obtain⟨q,vs,vc,hq,hy⟩:=h.som i a ha;exact⟨q,vs,vc,hq,hy.kp k (fun b hb=>hs b (by rw[hb]))⟩,h.tp,h.t1,h.t2,h.ta,h.tb⟩
theorem YAt.tags{T T':Tags}{o:Nat}{w:World}{p:Nat}{L:YL}{σ:Sp}(h:YAt T o w p L σ)(k:TagsTo w T T'):YAt T' o w p L σ:=
 ⟨h.blk,h.c1,h.c2,h.va,h.vb,h.len,h.non,fun i a ha=>by
   obtain⟨q,vs,vc,hq,hy⟩:=h.som i a ha;exact⟨q,vs,vc,hq,hy.tags' k⟩,(k p (lt_of_heap h.blk)).trans h.tp,(k _ (lt_of_heap h.c1)).trans h.t1,(k _ (lt_of_heap h.c2)).trans h.t2,
  fun b hb=>(k b (own_lt h.va hb)).trans (h.ta b hb),fun b hb=>(k b (own_lt h.vb hb)).trans (h.tb b hb)⟩
theorem YAt.cells{T:Tags}{o:Nat}{w:World}{p:Nat}{L:YL}{σ:Sp}(h:YAt T o w p L σ):w.cell? ⟨p,0,none⟩=some (.int .i64 0)∧w.cell? ⟨p,1,none⟩=some (.int .i64 (σ.n1:Int))∧w.cell? ⟨p,2,none⟩=some (.int .i64 (σ.n2:Int))∧w.cell? ⟨p,4,none⟩=some (.slice (some ⟨L.g1,0,none⟩) σ.n1 σ.n1)∧w.cell? ⟨p,5,none⟩=some (.slice (some ⟨L.g2,0,none⟩) σ.n2 σ.n2)∧w.cell? ⟨p,6,none⟩=some L.va∧w.cell? ⟨p,7,none⟩=some L.vb:=by simp[World.cell?,h.blk]
def YL.at(L:YL)(h:Int):Option Nat:=if 1≤h then(L.ps.getD (ix h) none)else none
theorem row_form{w:World}{e:TypeId}{size:Nat}{v:Value}{n:Nat}{xs:List Value}(h:w.ownsRow 0 e size v n xs):(v=.slice none 0 0∧n=0)∨∃g cap,v=.slice (some ⟨g,0,none⟩) n cap∧n≤cap∧g<w.heap.size∧∀j,j<n*size→w.cell? ⟨g,j,none⟩=xs[j]? :=by
 rcases h.2 with hn|⟨g,cap,cur,rfl,hb,hg,hn,hc,hs,ht⟩
 ·exact .inl hn
 ·exact .inr ⟨g,cap,rfl,hn,lt_of_heap hg,fun j hj=>h.cellAt j hj⟩
theorem YAt.ptrs{T:Tags}{o:Nat}{w:World}{p:Nat}{L:YL}{σ:Sp}(h:YAt T o w p L σ):(L.va=.slice none 0 0∧σ.arrs.length=0)∨∃g cap,L.va=.slice (some ⟨g,0,none⟩) σ.arrs.length cap∧∀j,j<σ.arrs.length→w.cell? ⟨g,j,none⟩=some (ptr (L.ps.getD j none)):=by
 rcases row_form h.va with hn|⟨g,cap,hv,_,_,hc⟩
 ·exact .inl hn
 ·refine .inr ⟨g,cap,hv,fun j hj=>?_⟩
  rw[hc j (by omega)];have hj':j<L.ps.length:=by rw[h.len];exact hj
  simp[hj',List.getD]
theorem YAt.find{T:Tags}{o:Nat}{w:World}{p:Nat}{L:YL}{σ:Sp}(h:YAt T o w p L σ)(hd:Int):(σ.find hd=none∧L.at hd=none)∨∃a q vs vc,σ.find hd=some a∧L.at hd=some q∧YArr T o w q vs vc a∧σ.arrs[(ix hd)]? =some (some a)∧1≤hd:=by
 unfold Sp.find YL.at;by_cases h1:1≤hd
 ·simp only[h1,if_true]
  by_cases hl:(ix hd)<σ.arrs.length
  ·have hl':(ix hd)<L.ps.length:=by rw[h.len];exact hl
   cases ha:σ.arrs[(ix hd)]with
   |none=>
    have:=h.non (ix hd) (by rw[List.getElem?_eq_getElem hl,ha]);left
    simp[List.getD,hl,ha,this]
   |some a=>
    have e:σ.arrs[(ix hd)]? =some (some a):=by rw[List.getElem?_eq_getElem hl,ha]
    obtain⟨q,vs,vc,hq,hy⟩:=h.som _ a e;right
    refine⟨a,q,vs,vc,by simp[List.getD,e],by simp[List.getD,hq],hy,e,trivial⟩
  ·left
   have hl':¬(ix hd)<L.ps.length:=by rw[h.len];exact hl
   simp[List.getD,List.getElem?_eq_none (Nat.le_of_not_lt hl),List.getElem?_eq_none (Nat.le_of_not_lt hl')]
 ·simp[h1]
def Sp.live(σ:Sp):Nat:=(σ.arrs.filter Option.isSome).length
def usedTo(l:List (Option Arr))(b:Nat)(k:Nat):Bool:=(l.take k).any fun x=>match x with|none=>false|some a=>a.buf==b
def Sp.used(σ:Sp)(b:Nat):Bool:=usedTo σ.arrs b σ.arrs.length
theorem usedTo_succ(l:List (Option Arr))(b k:Nat)(h:k<l.length):usedTo l b (k+1)=(usedTo l b k||match l[k]with|none=>false|some a=>a.buf==b):=by
 unfold usedTo;rw[List.take_succ_eq_append_getElem h,List.any_append];simp
theorem usedTo_mono(l:List (Option Arr))(b k m:Nat)(h:k≤m)(hu:usedTo l b k=true):usedTo l b m=true:=by
 unfold usedTo at*;rw[List.any_eq_true]at*;obtain⟨x,hx,h1⟩:=hu;refine⟨x,?_,h1⟩;have:l.take k=(l.take m).take k:=by rw[List.take_take,Nat.min_eq_left h]
 rw[this]at hx;exact List.mem_of_mem_take hx
def takenTo(σ:Sp)(kind:Int)(m:Nat)(c:Int):Bool:=
 (List.range m).any fun i=>match σ.bufs[i]? with|none=>false|some b=>σ.used i&&(b.kind==kind&&(decide (b.at'≤c)&&decide (c<b.at'+b.size)))
def Sp.taken(σ:Sp)(kind:Int)(c:Int):Bool:=takenTo σ kind σ.bufs.length c
def runTo(t:Int→Bool):Nat→Nat
 |0=>0
 |i+1=>if t i then 0 else runTo t i+1
theorem runTo_le(t:Int→Bool)(i:Nat):runTo t i≤i:=by
 induction i with
 |zero=>exact Nat.le_refl _
 |succ i ih=>simp only[runTo];split<;>omega
def placeIn(t:Int→Bool)(size:Nat):Nat→Nat→Int
 |0,_=> -1
 |f+1,i=>if runTo t (i+1)=size then(i:Int)+1-size else placeIn t size f (i+1)
def Sp.place(σ:Sp)(kind:Int)(size:Nat):Int:=placeIn (σ.taken kind) size (σ.cap kind) 0
end Go.Proofs.YticbbncdcannlaaGreat
namespace Go.Proofs.YticbbncdcannlaaGreat
def spread(cs:List Int)(n:Nat)(s:Int):List Int:=cs.flatMap fun c=>(List.range n).map fun i=>c+((i:Nat):Int)*s
theorem spread_append(a b:List Int)(n:Nat)(s:Int):spread (a++b) n s=spread a n s++spread b n s:=by simp[spread]
theorem spread_one(c:Int)(n:Nat)(s:Int):spread [c] n s=(List.range n).map fun i=>c+((i:Nat):Int)*s:=by simp[spread]
theorem spread_cons(c:Int)(cs:List Int)(n:Nat)(s:Int):spread (c::cs) n s=spread [c] n s++spread cs n s:=by simp[spread]
theorem spread_length(cs:List Int)(n:Nat)(s:Int):(spread cs n s).length=cs.length*n:=by
 induction cs with
 |nil=>simp[spread]
 |cons c cs ih=>rw[spread_cons,List.length_append,ih,spread_one];simp;rw[Nat.succ_mul];omega
theorem nth_append_left{a b:List Int}{j:Nat}(h:j<a.length):nth (a++b) j=nth a j:=by simp[nth,List.getD,List.getElem?_append,h]
theorem nth_append_right{a b:List Int}{j:Nat}(h:a.length≤j):nth (a++b) j=nth b (j-a.length):=by simp[nth,List.getD,List.getElem?_append,Nat.not_lt.2 h]
theorem nth_spread(cs:List Int)(n:Nat)(s:Int)(j i:Nat)(hj:j<cs.length)(hi:i<n):nth (spread cs n s) (j*n+i)=nth cs j+(i:Int)*s:=by
 induction cs generalizing j with
 |nil=>simp at hj
 |cons c cs ih=>
  rw[spread_cons];cases j with
  |zero=>
   rw[nth_append_left (by rw[spread_one];simp;omega)];rw[nth_lt (by rw[spread_one];simp;omega)];simp[spread_one,nth]
  |succ j=>
   have hl:(spread [c] n s).length=n:=by rw[spread_one];simp
   rw[nth_append_right (by rw[hl,Nat.succ_mul];omega),hl];have:(j+1)*n+i-n=j*n+i:=by rw[Nat.succ_mul];omega
   rw[this,ih j (by simpa using hj)];simp[nth,List.getD]
def gc(l t:List Int)(f:Int):Nat→List Int
 |0=>[f]
 |k+1=>spread (gc l t f k) (nth l k).toNat (nth t k)
def dotTo(i t:List Int):Nat→Int
 |0=>0
 |k+1=>dotTo i t k+nth i k*nth t k
theorem gc_length(l t:List Int)(f:Int)(hs:sized l)(k:Nat)(hk:k≤l.length):((gc l t f k).length:Int)=vol (l.take k):=by
 induction k with
 |zero=>simp[gc,vol]
 |succ k ih=>
  have h1:=hs k (by omega);rw[gc,spread_length,vol_take l k (by omega),←ih (by omega),Int.natCast_mul];congr 1
  omega
theorem nth_gc(l t i:List Int)(f:Int)(hs:sized l)(k:Nat)(hk:k≤l.length)(hi:∀j,j<k→0≤nth i j∧nth i j<nth l j):0≤rankTo l i k∧rankTo l i k<((gc l t f k).length:Int)∧nth (gc l t f k) (rankTo l i k).toNat=f+dotTo i t k:=by
 induction k with
 |zero=>simp[gc,rankTo,dotTo,nth]
 |succ k ih=>
  obtain⟨i1,i2,i3⟩:=ih (by omega) (fun j hj=>hi j (by omega));obtain⟨h1,h2⟩:=hi k (by omega);have h3:=hs k (by omega);have e1:rankTo l i (k+1)=rankTo l i k*nth l k+nth i k:=rfl;have n1:((nth l k).toNat:Int)=nth l k:=by omega
  have p1:0≤rankTo l i k*nth l k:=Int.mul_nonneg i1 (by omega);have e2:(rankTo l i (k+1)).toNat=(rankTo l i k).toNat*(nth l k).toNat+(nth i k).toNat:=by
   apply Int.ofNat.inj
   show(((rankTo l i (k+1)).toNat:Nat):Int)=(((rankTo l i k).toNat*(nth l k).toNat+(nth i k).toNat:Nat):Int);rw[Int.natCast_add,Int.natCast_mul,Int.toNat_of_nonneg (by rw[e1];omega),Int.toNat_of_nonneg i1,n1,Int.toNat_of_nonneg h1,e1]
  refine⟨by rw[e1];omega,?_,?_⟩
  ·rw[gc,spread_length,Int.natCast_mul,n1,e1]
   have:(rankTo l i k+1)*nth l k≤((gc l t f k).length:Int)*nth l k:=Int.mul_le_mul_of_nonneg_right (by omega) (by omega);rw[Int.add_mul]at this;omega
  ·rw[e2,gc,nth_spread _ _ _ _ _ (by omega) (by omega),i3,dotTo]
   have:(((nth i k).toNat:Nat):Int)=nth i k:=by omega
   rw[this];omega
def within(M:Int)(cs:List Int):Prop:=∀j,j<cs.length→0≤nth cs j∧nth cs j<M
theorem within_down{l t:List Int}{f M:Int}(hs:sized l){k:Nat}(hk:k<l.length)(h:within M (gc l t f (k+1))):within M (gc l t f k):=by
 intro j hj;have h1:=hs k hk;have:=h (j*(nth l k).toNat+0) (by
  rw[gc,spread_length];have:(j+1)*(nth l k).toNat≤(gc l t f k).length*(nth l k).toNat:=Nat.mul_le_mul_right _ hj;rw[Nat.succ_mul]at this;omega)
 rw[gc,nth_spread _ _ _ _ _ hj (by omega)]at this;simpa using this
theorem within_to{l t:List Int}{f M:Int}(hs:sized l)(h:within M (gc l t f l.length))(k:Nat)(hk:k≤l.length):within M (gc l t f k):=by
 have key:∀d,d≤l.length→within M (gc l t f (l.length-d)):=by
  intro d
  induction d with
  |zero=>intro _;exact h
  |succ d ih=>
   intro hd;have e:l.length-d=(l.length-(d+1))+1:=by omega
   have:=ih (by omega);rw[e]at this;exact within_down hs (by omega) this
 have:=key (l.length-k) (by omega)
 rwa [show l.length-(l.length-k)=k by omega]at this
theorem dot_in{l t i:List Int}{f M:Int}(hs:sized l)(h:within M (gc l t f l.length))(k:Nat)(hk:k≤l.length)(hi:∀j,j<k→0≤nth i j∧nth i j<nth l j):0≤f+dotTo i t k∧f+dotTo i t k<M:=by
 obtain⟨h1,h2,h3⟩:=nth_gc l t i f hs k hk hi;have:=within_to hs h k hk (rankTo l i k).toNat (by omega)
 rwa [h3]at this
theorem step_in{l t:List Int}{f M:Int}(hs:sized l)(h:within M (gc l t f l.length))(k:Nat)(hk:k<l.length)(j i:Nat)(hj:j<(gc l t f k).length)(hi:(i:Int)<nth l k):0≤nth (gc l t f k) j+(i:Int)*nth t k∧nth (gc l t f k) j+(i:Int)*nth t k<M:=by
 have h1:=hs k hk;have:=within_to hs h (k+1) (by omega) (j*(nth l k).toNat+i) (by
  rw[gc,spread_length];have:(j+1)*(nth l k).toNat≤(gc l t f k).length*(nth l k).toNat:=Nat.mul_le_mul_right _ hj;rw[Nat.succ_mul]at this;omega)
 rw[gc,nth_spread _ _ _ _ _ hj (by omega)]at this;exact this
theorem gc_pos(l t:List Int)(f:Int)(hs:sized l)(k:Nat)(hk:k≤l.length):0<(gc l t f k).length:=by
 have h1:=gc_length l t f hs k hk;have key:∀k,k≤l.length→1≤vol (l.take k):=by
  intro k
  induction k with
  |zero=>intro _;simp[vol]
  |succ k ih=>
   intro hk;rw[vol_take l k (by omega)];have:=ih (by omega);have h2:=hs k (by omega);exact(mul_bd this (Int.le_refl _) h2.1 (Int.le_refl _)).1
 have:=key k hk;omega
theorem first_in{l t:List Int}{f M:Int}(hs:sized l)(h:within M (gc l t f l.length)):0≤f∧f<M:=by
 have:=within_to hs h 0 (Nat.zero_le _) 0 (by simp[gc]);simpa[gc,nth]using this
theorem step_bd{l t:List Int}{f M:Int}(hs:sized l)(h:within M (gc l t f l.length))(k:Nat)(hk:k<l.length)(hu:nth l k=1→nth t k=0): -M<nth t k∧nth t k<M:=by
 have h0:=first_in hs h;by_cases h1:nth l k=1
 ·rw[hu h1];omega
 ·have h2:=hs k hk
  have hp:=gc_pos l t f hs k (by omega);have a:=step_in hs h k hk 0 0 hp (by omega);have b:=step_in hs h k hk 0 1 hp (by omega);simp at a b;omega
end Go.Proofs.YticbbncdcannlaaGreat
