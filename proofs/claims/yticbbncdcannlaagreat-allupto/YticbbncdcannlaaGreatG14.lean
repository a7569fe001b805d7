import Derived.Deep.RegionLaw
import Derived.BigRegion
import Derived.Test.YticbbncdcannlaaGreatG13
import Derived.Test.YticbbncdcannlaaGreatG09
set_option maxRecDepth 100000
set_option maxHeartbeats 8000000
namespace Go.Proofs.YticbbncdcannlaaGreat
open Go.RowKit
abbrev grG(S T:Nat→Int)(f:Int)(n:Nat):Obj:=.cells #[.int .i64 (S 0),.int .i64 (S 1),.int .i64 (S 2),.int .i64 (S 3),.int .i64 (n:Int),.int .i64 f,.int .i64 (T 0),.int .i64 (T 1),.int .i64 (T 2),.int .i64 (T 3)] 107
def upd(S:Nat→Int)(k:Nat)(v:Int):Nat→Int:=fun j=>if j=k then v else S j
theorem grG_cell{w:World}{b:Nat}{S T:Nat→Int}{f:Int}{n:Nat}(h:w.heap[b]? =some (grG S T f n))(k:Nat)(hk:k<4):w.cell? ⟨b,k,none⟩=some (.int .i64 (S k)):=by
 rw[cell_of_row _ _ _ _ _ _ h]
 match k,hk with
 |0,_=>rfl
 |1,_=>rfl
 |2,_=>rfl
 |3,_=>rfl
theorem grG_step{w:World}{b:Nat}{S T:Nat→Int}{f:Int}{n:Nat}(h:w.heap[b]? =some (grG S T f n))(k:Nat)(hk:k<4):w.cell? ⟨b,6+k,none⟩=some (.int .i64 (T k)):=by
 rw[cell_of_row _ _ _ _ _ _ h]
 match k,hk with
 |0,_=>rfl
 |1,_=>rfl
 |2,_=>rfl
 |3,_=>rfl
theorem grG_put{w:World}{b:Nat}{S T:Nat→Int}{f:Int}{n:Nat}(h:w.heap[b]? =some (grG S T f n))(k:Nat)(hk:k<4)(u v:Int):((w.setCell ⟨b,k,none⟩ (.int .i64 u)).setCell ⟨b,6+k,none⟩ (.int .i64 v)).heap[b]? =some (grG (upd S k u) (upd T k v) f n):=by
 have h1:=heap_setCell_same w b k _ _ (.int .i64 u) h;have h2:=heap_setCell_same _ b (6+k) _ _ (.int .i64 v) h1;rw[h2]
 match k,hk with
 |0,_=>rfl
 |1,_=>rfl
 |2,_=>rfl
 |3,_=>rfl
theorem kput(w:World)(b i j:Nat)(u v:Value):Kp (fun x=>x=b) w ((w.setCell ⟨b,i,none⟩ u).setCell ⟨b,j,none⟩ v).drew:=by
 have h1:Kp (fun x=>x=b) w (w.setCell ⟨b,i,none⟩ u):=(Kp.refl _ w).setCell ⟨b,i,none⟩ u (fun _=>rfl);exact(h1.setCell ⟨b,j,none⟩ v (fun _=>rfl)).drew
def stepOf(size step:Int):Int:=if size=1 then 0 else step
theorem xput_calls(b k:Nat)(size step:Int)(S T:Nat→Int)(f:Int)(n:Nat)(w:World)(hk:k<4)(hb:w.heap[b]? =some (grG S T f n)):Calls Tryz.prog 90 #[.pointer (some ⟨b,0,none⟩),.int .i64 (k:Int),.int .i64 size,.int .i64 step] w fun e w'=>e=.returned (.tuple #[])∧Kp (fun x=>x=b) w w'∧w'.heap[b]? =some (grG (upd S k size) (upd T k (stepOf size step)) f n):=by
 have q1:=grG_cell hb k hk;have q2:=grG_step hb k hk;have f1:=frozen_of_row w b k _ _ hb;have f2:=frozen_of_row w b (6+k) _ _ hb;have k1:(k:Int)<4:=by omega
 have HB:=hid hb;clear hb;by_cases h1:size=1
 ·have d1:(size==1)=true:=by simp[h1]
  have HS:Hid (stepOf size step=0):=hid (by simp[stepOf,h1]);clear h1;go_enter Tryz.func90,Tryz.ntmps90
  go_wp2
  go_region
  go_end0
  rw[HS.out];exact⟨rfl,kput _ _ _ _ _ _,grG_put HB.out k hk _ _⟩
 ·have d1:(size==1)=false:=by simp[h1]
  have HS:Hid (stepOf size step=step):=hid (by simp[stepOf,h1]);clear h1;go_enter Tryz.func90,Tryz.ntmps90
  go_wp2
  go_region
  go_end0
  rw[HS.out];exact⟨rfl,kput _ _ _ _ _ _,grG_put HB.out k hk _ _⟩
def wst(l:List Int)(k:Nat):Int:=stepOf (nth l k) (vol (l.drop (k+1)))
theorem vol_cons(x:Int)(l:List Int):vol (x::l)=x*vol l:=by
 unfold vol;have key:∀(l:List Int) (a:Int),l.foldl (fun a b=>a*b) a=a*l.foldl (fun a b=>a*b) 1:=by
  intro l
  induction l with
  |nil=>intro a;simp
  |cons y l ih=>intro a;rw[List.foldl_cons,List.foldl_cons,ih,ih (1*y),Int.one_mul,Int.mul_assoc]
 rw[List.foldl_cons,key,Int.one_mul]
theorem vol_drop(l:List Int)(k:Nat)(h:k<l.length):vol (l.drop k)=nth l k*vol (l.drop (k+1)):=by rw[List.drop_eq_getElem_cons h,vol_cons,nth_lt h]
theorem vol_drop_bd(l:List Int)(hs:sized l)(hl:l.length≤4)(k:Nat)(hk:k≤l.length):1≤vol (l.drop k)∧vol (l.drop k)≤12960000:=by
 have hs':sized (l.drop k):=fun j hj=>by
  have:=hs (k+j) (by simp at hj;omega);have e:nth (l.drop k) j=nth l (k+j):=by simp[nth,List.getD]
  rw[e];exact this
 have:=vol_bd (l.drop k) hs' (by simp;omega) (l.drop k).length (Nat.le_refl _)
 rwa [List.take_length]at this
def wstFrom(l:List Int)(k j:Nat):Int:=if k≤j∧j<l.length then wst l j else 0
theorem wst_step(l:List Int)(k:Nat)(hk:k<l.length):upd (wstFrom l (k+1)) k (wst l k)=wstFrom l k:=by
 funext j
 unfold upd wstFrom;by_cases h:j=k
 ·subst h;simp[hk]
 ·rw[if_neg h]
  by_cases h2:k+1≤j∧j<l.length
  ·rw[if_pos h2,if_pos (by omega)]
  ·rw[if_neg h2,if_neg (by omega)]
theorem upd_same(S:Nat→Int)(k:Nat):upd S k (S k)=S:=by
 funext j
 unfold upd;split
 ·rename_i h;rw[h]
 ·rfl
theorem Tryz.szGrid:(Tryz.prog.info? 107).map (·.size)=some 10:=by kernel_rfl
theorem sh_cell{w:World}{b:Nat}{l:List Int}{n:Nat}(h:w.heap[b]? =some (shB l n))(k:Nat)(hk:k<4):w.cell? ⟨b,k,none⟩=some (.int .i64 (nth l k)):=by
 rw[cell_of_row _ _ _ _ _ _ h]
 match k,hk with
 |0,_=>rfl
 |1,_=>rfl
 |2,_=>rfl
 |3,_=>rfl
theorem xwhole_calls(l:List Int)(f:Int)(w:World)(hs:okShape l):Calls Tryz.prog 98 #[.agg (shC l).toArray,.int .i64 f] w fun e w'=>∃t:List Int,t.length=l.length∧(∀k,k<l.length→nth t k=wst l k)∧e=.returned (.agg (grC l t f).toArray)∧Kp0 w w':=by
 obtain⟨n,hn⟩:∃n,n=l.length:=⟨_,rfl⟩;have hn4:n≤4:=by have:=hs.1;omega
 have HS:=hid hs;unfold shC;rw[←hn];have HN:=hid hn.symm;clear hn hs;go_enter Tryz.func98,Tryz.ntmps98
 go_wp2
 have HB0:Hid ((((w.alloc (shB l n)).alloc (grG (fun _=>0) (fun _=>0) 0 0)).alloc (grG (nth l) (wstFrom l n) f n)).heap[w.heap.size]? =some (shB l n)):=hid (by exact(Below.heap_alloc _ _ _ (by simp;omega)).trans (heap_alloc2_old w _ _));have HB1:Hid ((((w.alloc (shB l n)).alloc (grG (fun _=>0) (fun _=>0) 0 0)).alloc (grG (nth l) (wstFrom l n) f n)).heap[w.heap.size+1]? =some (grG (fun _=>0) (fun _=>0) 0 0)):=hid (by exact(Below.heap_alloc _ _ _ (by simp)).trans (heap_alloc2_new w _ _));have HB2:Hid ((((w.alloc (shB l n)).alloc (grG (fun _=>0) (fun _=>0) 0 0)).alloc (grG (nth l) (wstFrom l n) f n)).heap[w.heap.size+1+1]? =some (grG (nth l) (wstFrom l n) f n)):=hid (by
  have:=heap_alloc_new ((w.alloc (shB l n)).alloc (grG (fun _=>0) (fun _=>0) 0 0)) (grG (nth l) (wstFrom l n) f n);simpa using this)
 have HK:Hid (Kp0 w (((w.alloc (shB l n)).alloc (grG (fun _=>0) (fun _=>0) 0 0)).alloc (grG (nth l) (wstFrom l n) f n))):=(((Kp.refl _ w).alloc _).alloc _).alloc _;have z:∀j,wstFrom l n j=0:=fun j=>by unfold wstFrom;rw[if_neg (by have:=HN.out;omega)]
 have e0:(((w.alloc (.cells #[.int .i64 (nth l 0),.int .i64 (nth l 1),.int .i64 (nth l 2),.int .i64 (nth l 3),.int .i64 (n:Int)] 104)).alloc (.cells #[.int .i64 0,.int .i64 0,.int .i64 0,.int .i64 0,.int .i64 0,.int .i64 0,.int .i64 0,.int .i64 0,.int .i64 0,.int .i64 0] 107)).alloc
   (.cells #[.int .i64 (nth l 0),.int .i64 (nth l 1),.int .i64 (nth l 2),.int .i64 (nth l 3),.int .i64 (n:Int),.int .i64 f,.int .i64 0,.int .i64 0,.int .i64 0,.int .i64 0] 107))=((w.alloc (shB l n)).alloc (grG (fun _=>0) (fun _=>0) 0 0)).alloc (grG (nth l) (wstFrom l n) f n):=by
  simp[grG,z]
 rw[e0];clear e0 z;obtain⟨b0,hb0⟩:∃b0,b0=w.heap.size:=⟨_,rfl⟩;rw[←hb0]at HB0 HB1 HB2⊢;have HBB:=hid hb0;clear hb0;generalize ((w.alloc (shB l n)).alloc (grG (fun _=>0) (fun _=>0) 0 0)).alloc (grG (nth l) (wstFrom l n) f n)=W at HB0 HB1 HB2 HK⊢
 go_loopw [6,7] (fun s a w'=>∃k:Nat,k≤n∧a=.int .i64 ((k:Int)-1)∧s=.int .i64 (vol (l.drop k))∧Hid (Kp0 w w')∧Hid (w'.heap[b0]? =some (shB l n))∧Hid (w'.heap[b0+1]? =some (grG (fun _=>0) (fun _=>0) 0 0))∧Hid (w'.heap[b0+1+1]? =some (grG (nth l) (wstFrom l k) f n))) (fun _ a _=>(intOf a+1).toNat)
 case atStart=>exact⟨n,Nat.le_refl _,rfl,by rw[List.drop_of_length_le (by have:=HN.out;omega)];rfl,HK,HB0,HB1,HB2⟩
 case round=>
  clear HB0 HB1 HB2 HK;obtain⟨k,hk,rfl,rfl,HK,HB0,HB1,HB2⟩:=hrel;cases k with
  |zero=>
   obtain⟨c0,c1,c2,c3,c4,c5,c6,c7,c8,c9⟩:=cells10 HB2.out;obtain⟨z0,z1,z2,z3,z4,z5,z6,z7,z8,z9⟩:=cells10 HB1.out;obtain⟨f0,f1,f2,f3,f4,f5,f6,f7,f8,f9⟩:=frozen10 HB1.out;go_wp2
   (try simp only[Exit.inBlock,Exit.then])
   refine bodyPost_ret (res_cell rfl _ _ (b0+1) _ _ _ _ rfl (chain10 _ (b0+1) _ _ _ _ _ _ _ _ _ _ _ _ _ _ _ _ _ _ _ _ _ HB1.out) Tryz.underlying107 rfl Tryz.szGrid) rfl ?_;refine⟨(List.range n).map (wst l),by simp,fun k hk=>?_,?_,kchain10 HK.out (b0+1) _ _ _ _ _ _ _ _ _ _ (fun h=>by have:=HBB.out;omega)⟩
   ·rw[nth_lt (by simpa using hk)];simp
   ·have e:∀j,nth ((List.range n).map (wst l)) j=wstFrom l 0 j:=fun j=>by
     unfold wstFrom;by_cases hj:j<n
     ·rw[nth_lt (by simpa using hj),if_pos (by have:=HN.out;omega)];simp
     ·rw[nth_out (by simp;omega),if_neg (by have:=HN.out;omega)]
    simp[grC,e,HN.out]
  |succ k=>
   have q1:=sh_cell HB0.out k (by omega);have b1:=vol_drop_bd l HS.out.2.1 HS.out.1 k (by have:=HN.out;omega);have HV:Hid (vol (l.drop k)=vol (l.drop (k+1))*nth l k):=hid (by rw[vol_drop l k (by have:=HN.out;omega),Int.mul_comm]);rw[HV.out]at b1;have k1:(k:Int)<4:=by omega
   have HP:=hid (xput_calls (b0+1+1) k (nth l k) (vol (l.drop (k+1))) (nth l) (wstFrom l (k+1)) f n _ (by omega) HB2.out);rw[upd_same,show stepOf (nth l k) (vol (l.drop (k+1)))=wst l k from rfl,wst_step l k (by have:=HN.out;omega)]at HP;have ek:(((k+1:Nat):Int)-1)=(k:Int):=by omega
   rw[ek];clear ek
   go_wp2_with fail
   refine HP.out.mono ?_;rintro e w2 ⟨rfl,hw,hb⟩;have HB2':Hid (w2.heap[b0+1+1]? =some (grG (nth l) (wstFrom l k) f n)):=hb;have HB1':Hid (w2.heap[b0+1]? =some (grG (fun _=>0) (fun _=>0) 0 0)):=hw.heap HB1.out (by omega);have HB0':Hid (w2.heap[b0]? =some (shB l n)):=hw.heap HB0.out (by omega);have HK':Hid (Kp0 w w2):=Kp.trans HK.out hw (fun i hi e=>by have:=HBB.out;omega);clear hw hb;have q2:=sh_cell HB0'.out k (by omega);go_wp2
   go_roundw
   case rel=>exact⟨k,by omega,by go_num,by rw[HV.out],HK',HB0',HB1',HB2'⟩
   case measure=>simp[intOf]
theorem run_mk0{P:Program}(t e:TypeId)(z:Value)(bytes:Nat)(ht:P.underlying t=some (.slice e))(hi:(P.info? e).map (fun i=>(i.zero,i.size,i.bytes))=some (some z,1,bytes))(hz:z.cells= #[z])(hby:bytes≤100)(n:Nat)(hn:n≤1000000000000)(W:World):(Instr.makeSlice t (.int .i64 0) (.int .i64 (n:Int))).run P W=.ok (.slice (some ⟨W.heap.size,0,none⟩) 0 n) (W.alloc (.cells (rep n z) e)):=by
 obtain⟨i,hi,hz0,hz1,hz2⟩:=info_parts hi;have hb:(i.bytes:Int)*(n:Int)≤281474976710656:=by
  have h1:i.bytes*n≤100*1000000000000:=Nat.mul_le_mul (by omega) hn;have h2:((i.bytes*n:Nat):Int)≤281474976710656:=by omega
  rwa [Int.natCast_mul]at h2
 have:=run_make (P:=P) W t e i z ht hi hz0 .i64 .i64 0 n (by omega) (by omega) hb (by omega);rw[this,hz1,hz];simp only[Int.toNat_natCast,Nat.mul_one];congr 4
 unfold rep;rw[←toList_madeCells_one]
theorem OwI.empty{w:World}{b n:Nat}{cs:Array Value}(hn:n≤1000000000000)(hs:cs.size=n)(hb:w.heap[b]? =some (.cells cs 3 (0,0))):OwI w (.slice (some ⟨b,0,none⟩) 0 n) []:=
 ⟨rfl,.inr ⟨b,n,cs,rfl,Nat.zero_le _,hb,Nat.zero_le _,by unfold maxLen;omega,by omega,by simp[ints]⟩⟩
def runOf(c s:Int)(i:Nat):List Int:=(List.range i).map fun i=>c+((i:Nat):Int)*s
theorem runOf_succ(c s:Int)(i:Nat):runOf c s (i+1)=runOf c s i++[c+(i:Int)*s]:=by simp[runOf,List.range_succ]
theorem spread_snoc(xs:List Int)(k n:Nat)(s:Int)(h:k<xs.length):spread (xs.take (k+1)) n s=spread (xs.take k) n s++runOf (nth xs k) s n:=by
 rw[take_snoc xs k h,spread_append,spread_one];rfl
def OwN(w0 w:World)(v:Value)(n:Nat)(xs:List Int):Prop:=∃ao c,v=.slice ao n c∧OwI w (.slice ao n c) xs∧Kp0 w0 w∧∀b,(Value.slice ao n c).ownBlock=some b→w0.heap.size≤b
theorem xrepeat_calls(vx:Value)(xs:List Int)(n:Nat)(s M:Int)(w:World)(hr:RdI w vx xs)(hsz:xs.length*n≤1000000)(hn1:1≤n)(hn:n≤1000)(hM:M≤1000000)(hb:∀j i:Nat,j<xs.length→i<n→0≤nth xs j+(i:Int)*s∧nth xs j+(i:Int)*s<M)(h0:∀j:Nat,j<xs.length→0≤nth xs j∧nth xs j<M):Calls Tryz.prog 97 #[vx,.int .i64 (n:Int),.int .i64 s] w fun e w'=>∃v,e=.returned v∧NewI w w' v (spread xs n s):=by
 obtain⟨m,hm⟩:∃m,m=xs.length*n:=⟨_,rfl⟩;have hmm:m≤1000000:=by omega
 obtain⟨a,c,rfl,hra⟩:=hr;obtain⟨L,hL⟩:∃L,L=xs.length:=⟨_,rfl⟩;have hml:IntKind.i64.wrap ((L:Int)*(n:Int))=(m:Int):=by
  have:(L:Int)*(n:Int)=(m:Int):=by rw[hm,hL,Int.natCast_mul]
  rw[this];simp[IntKind.wrap,IntKind.signed,IntKind.bits];omega
 have HL:=hid hL.symm;have HM:Hid (m=L*n):=hid (by rw[hL];exact hm);rw[←hL];have HB:=hid hb;have H0:=hid h0;have HRA:=hid hra;have hL1:L≤1000000:=by
  have:=Nat.le_mul_of_pos_right xs.length (show 0<n by omega);omega
 have hmk:=fun W=>run_mk0 (P:=Tryz.prog) 26 3 (.int .i64 0) 8 Tryz.underlying26 Tryz.infoInt rfl (by omega) m (by omega) W
 clear hm hL hb h0 hra hsz;go_enter Tryz.func97,Tryz.ntmps97
 go_wp2
 have HO:Hid (OwN w (w.alloc (.cells (rep m (.int .i64 0)) 3)) (.slice (some ⟨w.heap.size,0,none⟩) 0 m) 0 []):=
  ⟨some ⟨w.heap.size,0,none⟩,m,rfl,OwI.empty (by omega) (by simp[rep]) (heap_alloc_new w _),(Kp.refl _ w).alloc _,fun b hb=>by simp[Value.ownBlock]at hb;omega⟩
 generalize w.alloc (.cells (rep m (.int .i64 0)) 3)=W at HO⊢;generalize (Value.slice (some ⟨w.heap.size,0,none⟩) 0 m)=V0 at HO⊢;clear hmk hml
 go_loopw [7,18] (fun l t w'=>∃j:Nat,j≤L∧t=.int .i64 j∧Hid (OwN w w' l (j*n) (spread (xs.take j) n s))) (fun _ t _=>L-(intOf t).toNat)
 case atStart=>exact⟨0,Nat.zero_le _,rfl,hid (by simpa[spread]using HO.out)⟩
 case round=>
  clear HO;obtain⟨j,hj,rfl,HO⟩:=hrel;by_cases hlt:j<L
  ·obtain⟨g,o,rfl,hc⟩:=HRA.out (fun e=>by have:=HL.out;rw[e]at this;simp at this;omega)
   have HK0:Hid (Kp0 w wr):=by obtain⟨_,_,_,_,h,_⟩:=HO.out;exact h
   have q1:=HK0.out.cell (hc j (by have:=HL.out;omega));clear hc;go_wp2
   go_loopw [7,23] (fun l t w'=>∃i:Nat,i≤n∧t=.int .i64 i∧Hid (OwN w w' l (j*n+i) (spread (xs.take j) n s++runOf (nth xs j) s i))) (fun _ t _=>n-(intOf t).toNat)
   case atStart=>exact⟨0,Nat.zero_le _,rfl,hid (by simpa[runOf]using HO.out)⟩
   case round=>
    clear HO HK0;obtain⟨i,hi,rfl,HO⟩:=hrel;by_cases hlt2:i<n
    ·obtain⟨ao,c2,rfl,hO,hK,hB⟩:=HO.out
     have HOw:=hid hO;have HK:=hid hK;have HBo:=hid hB;clear hO hK hB HO;have b1:=HB.out j i (by have:=HL.out;omega) hlt2;have b0:=H0.out j (by have:=HL.out;omega);have HR:Hid (runOf (nth xs j) s (i+1)=runOf (nth xs j) s i++[nth xs j+(i:Int)*s]):=runOf_succ _ _ _;generalize hmi:(i:Int)*s=d at b1 HR;have w1:IntKind.i64.wrap ((i:Int)*s)=d:=by rw[hmi];simp[IntKind.wrap,IntKind.signed,IntKind.bits];omega
     have w2:IntKind.i64.wrap (nth xs j+d)=nth xs j+d:=by simp[IntKind.wrap,IntKind.signed,IntKind.bits];omega
     have HBN:Hid (j*n+i+[nth xs j+d].length≤1000000000000):=hid (by
      have:=HM.out;have:(j+1)*n≤L*n:=Nat.mul_le_mul_right _ hlt;rw[Nat.succ_mul]at this;simp;omega)
     clear hmi
     go_wp2_with (at_builtin;refine wpList_app rfl _ _ rfl ao (j*n+i) c2 (spread (xs.take j) n s++runOf (nth xs j) s i) [nth xs j+d] _ rfl rfl (HOw.out.alloc _) (RdI.one _ _) HBN.out _ rfl ?_;intro ao' c' w7 hC7 hG7 hB7)
     go_roundw
     case rel=>
      refine⟨i+1,by omega,by go_num,ao',c',rfl,?_,Kp.grown (Kp.alloc HK.out _) hG7 (fun b hb h=>by have:=HBo.out b hb;omega),fun b hb=>?_⟩
      ·rw[HR.out,←List.append_assoc];exact hC7
      ·rcases hB7 b hb with h|h
       ·exact HBo.out b h
       ·have:=HK.out.size;simp at h;omega
     case measure=>simp[intOf];omega
    ·obtain rfl:i=n:=by omega
     have HO2:Hid (OwN w wr u7 ((j+1)*i) (spread (xs.take (j+1)) i s)):=hid (by rw[spread_snoc xs j i s (by have:=HL.out;omega),Nat.succ_mul];exact HO.out);clear HO;go_wp2
     go_roundw
     case rel=>exact⟨j+1,by omega,by go_num,HO2⟩
     case measure=>simp[intOf];omega
  ·obtain rfl:j=L:=by omega
   go_wp2
   go_ret;obtain⟨ao,c2,rfl,hO,hK,hB⟩:=HO.out;have hx:xs.take j=xs:=List.take_of_length_le (by have:=HL.out;omega);rw[hx]at hO;have hl:j*n=(spread xs n s).length:=by rw[spread_length,HL.out]
   refine⟨.slice ao (j*n) c2,rfl,ao,c2,by rw[hl],?_,hK,?_⟩
   ·rw[←hl];exact hO
   ·rw[←hl];exact hB
theorem gc_bounds{l t:List Int}{f M:Int}(hg:GOk l t f M)(k:Nat)(hk:k<l.length):(∀j i:Nat,j<(gc l t f k).length→i<(nth l k).toNat→0≤nth (gc l t f k) j+(i:Int)*nth t k∧nth (gc l t f k) j+(i:Int)*nth t k<M)∧(∀j:Nat,j<(gc l t f k).length→0≤nth (gc l t f k) j∧nth (gc l t f k) j<M)∧(gc l t f k).length*(nth l k).toNat≤1000000:=by
 have hs:=hg.shape.2.1;refine⟨fun j i hj hi=>step_in hs hg.inside k hk j i hj (by have:=hs k hk;omega),fun j hj=>within_to hs hg.inside k (by omega) j hj,?_⟩;have h1:=gc_length l t f hs (k+1) (by omega);rw[gc,spread_length]at h1;have h2:vol (l.take (k+1))≤vol l:=by
  have key:∀d,k+1+d≤l.length→vol (l.take (k+1))≤vol (l.take (k+1+d)):=by
   intro d
   induction d with
   |zero=>intro _;exact Int.le_refl _
   |succ d ih=>
    intro hd;have h3:=ih (by omega);have h4:=hs (k+1+d) (by omega);have h5:=vol_bd l hs hg.shape.1 (k+1+d) (by omega);rw[show k+1+(d+1)=(k+1+d)+1 by omega,vol_take l (k+1+d) (by omega)];have:=Int.mul_le_mul_of_nonneg_left h4.1 (show 0≤vol (l.take (k+1+d)) by omega);rw[Int.mul_one]at this;omega
  have:=key (l.length-(k+1)) (by omega)
  rwa [show k+1+(l.length-(k+1))=l.length by omega,List.take_length]at this
 have:=hg.shape.2.2;omega
theorem xcells_calls(l t:List Int)(f M:Int)(w:World)(hg:GOk l t f M):Calls Tryz.prog 60 #[.agg (grC l t f).toArray] w fun e w'=>∃v,e=.returned v∧NewI w w' v (gc l t f l.length):=by
 obtain⟨n,hn⟩:∃n,n=l.length:=⟨_,rfl⟩;have hn4:n≤4:=by have:=hg.shape.1;omega
 have HG:=hid hg;unfold grC;rw[←hn];have HN:=hid hn.symm;clear hn hg;go_enter Tryz.func60,Tryz.ntmps60
 go_wp2
 have HB0:Hid (((w.alloc (grB l t f n)).alloc (.cells #[.int .i64 f] 3)).heap[w.heap.size]? =some (grB l t f n)):=heap_alloc2_old w _ _;have HO:Hid (NewI w ((w.alloc (grB l t f n)).alloc (.cells #[.int .i64 f] 3)) (.slice (some ⟨w.heap.size+1,0,none⟩) 1 1) (gc l t f 0)):=
  NewI.made (xs:=[f]) rfl (by omega) (heap_alloc2_new w _ _) (((Kp.refl _ w).alloc _).alloc _) (by omega)
 obtain⟨b0,hb0⟩:∃b0,b0=w.heap.size:=⟨_,rfl⟩;rw[←hb0]at HB0 HO⊢;have HBB:=hid hb0;clear hb0;generalize (w.alloc (grB l t f n)).alloc (.cells #[.int .i64 f] 3)=W at HB0 HO⊢;generalize (Value.slice (some ⟨b0+1,0,none⟩) 1 1)=V0 at HO⊢
 go_loopw [3,11] (fun v a w'=>∃k:Nat,k≤n∧a=.int .i64 k∧Hid (w'.heap[b0]? =some (grB l t f n))∧Hid (NewI w w' v (gc l t f k))) (fun _ a _=>n-(intOf a).toNat)
 case atStart=>exact⟨0,Nat.zero_le _,rfl,HB0,HO⟩
 case round=>
  clear HB0 HO;obtain⟨k,hk,rfl,HB0,HO⟩:=hrel;by_cases hlt:k<n
  ·have q1:=gr_sizes HB0.out k (by omega)
   have q2:=gr_steps HB0.out k (by omega);have k1:(k:Int)<4:=by omega
   have k0:(0:Int)≤(k:Int):=by omega
   obtain⟨g1,g2,g3⟩:=gc_bounds HG.out k (by have:=HN.out;omega);have hs:=HG.out.shape.2.1 k (by have:=HN.out;omega);have hrd:RdI wr u3 (gc l t f k):=by obtain⟨ao,c,rfl,h,_⟩:=HO.out;exact h.rd
   have HR:=hid hrd;have HC:=hid (fun w0 hr=>xrepeat_calls u3 (gc l t f k) (nth l k).toNat (nth t k) M w0 hr g3 (by omega) (by omega) HG.out.small g1 g2);rw[show(((nth l k).toNat:Nat):Int)=nth l k by omega]at HC;clear g1 g2 g3 hrd hs;go_wp2
   go_region_with (go_at_call 97;refine(HC.out wr.drew HR.out).mono ?_;rintro e w7 ⟨v7,rfl,hN7⟩)
   all_goals
    have HB0':Hid (w7.heap[b0]? =some (grB l t f n)):=by obtain⟨_,_,_,_,h,_⟩:=hN7;exact h.heap HB0.out
    have HO':Hid (NewI w w7 v7 (gc l t f (k+1))):=by
     obtain⟨_,_,_,_,h0,_⟩:=HO.out;obtain⟨ao,c,rfl,h1,h2,h3⟩:=hN7;exact⟨ao,c,rfl,h1,Kp0.trans h0.drew h2,fun b hb=>Nat.le_trans h0.size (h3 b hb)⟩
    clear hN7
    (try simp only[Act.put,List.setIfInBounds_toArray])
    go_wp2
    go_roundw
    case rel=>exact⟨k+1,by omega,by go_num,HB0',HO'⟩
    case measure=>simp[intOf];omega
  ·obtain rfl:k=n:=by omega
   go_wp2
   go_ret;exact⟨u3,rfl,HO.out⟩
theorem gc_whole(l t:List Int)(f:Int)(hs:sized l)(ht:∀k,k<l.length→nth t k=wst l k)(k:Nat)(hk:k≤l.length):gc l t f k=(List.range (vol (l.take k)).toNat).map fun r=>f+((r:Nat):Int)*vol (l.drop k):=by
 induction k with
 |zero=>simp[gc,vol]
 |succ k ih=>
  have hlt:k<l.length:=by omega
  have h1:=hs k hlt;have hp:1≤vol (l.take k):=by have:=gc_pos l t f hs k (by omega);have:=gc_length l t f hs k (by omega);omega
  have e1:(vol (l.take (k+1))).toNat=(vol (l.take k)).toNat*(nth l k).toNat:=by
   rw[vol_take l k hlt];apply Int.ofNat.inj
   show(((vol (l.take k)*nth l k).toNat:Nat):Int)=(((vol (l.take k)).toNat*(nth l k).toNat:Nat):Int);rw[Int.natCast_mul,Int.toNat_of_nonneg (Int.mul_nonneg (by omega) (by omega)),Int.toNat_of_nonneg (by omega),Int.toNat_of_nonneg (by omega)]
  have el:(gc l t f k).length=(vol (l.take k)).toNat:=by have:=gc_length l t f hs k (by omega);omega
  rw[gc];refine ext_nth (by rw[spread_length,el];simp[e1]) (fun j hj=>?_);rw[spread_length]at hj;have hn0:0<(nth l k).toNat:=by omega
  have hq:j / (nth l k).toNat<(gc l t f k).length:=Nat.div_lt_of_lt_mul (by rw[Nat.mul_comm];exact hj);have hr:j% (nth l k).toNat<(nth l k).toNat:=Nat.mod_lt _ hn0;have ej:j=j / (nth l k).toNat*(nth l k).toNat+j% (nth l k).toNat:=by rw[Nat.mul_comm];exact(Nat.div_add_mod j _).symm
  have hj2:j<(vol (l.take (k+1))).toNat:=by rw[e1,←el];exact hj
  rw[nth_lt (xs:=(List.range (vol (l.take (k+1))).toNat).map _) (by simpa using hj2)];simp only[List.getElem_map,List.getElem_range];generalize hqv:j / (nth l k).toNat=q at*;generalize hrv:j% (nth l k).toNat=r at*;rw[ej,nth_spread _ _ _ _ _ hq hr,ih (by omega),nth_lt (xs:=(List.range (vol (l.take k)).toNat).map _) (by simp;omega)];simp only[List.getElem_map,List.getElem_range];rw[vol_drop l k hlt,ht k hlt];have n1:(((nth l k).toNat:Nat):Int)=nth l k:=by omega
  have e3:((r:Nat):Int)*wst l k=(r:Int)*vol (l.drop (k+1)):=by
   unfold wst stepOf;split
   ·have:r=0:=by omega
    subst this;simp
   ·rfl
  rw[e3,Int.natCast_add,Int.natCast_mul,n1,Int.add_mul,Int.mul_assoc];omega
theorem gc_whole_all(l t:List Int)(f:Int)(hs:sized l)(ht:∀k,k<l.length→nth t k=wst l k):gc l t f l.length=rng f (vol l).toNat:=by
 rw[gc_whole l t f hs ht l.length (Nat.le_refl _),List.take_length,List.drop_length];simp[rng,vol]
theorem whole_ok(l t:List Int)(f M:Int)(hs:okShape l)(hl:t.length=l.length)(ht:∀k,k<l.length→nth t k=wst l k)(h0:0≤f)(hM:f+vol l≤M)(hb:M≤1000000):GOk l t f M:=by
 refine⟨hs,Nat.le_of_eq hl,fun k hk h1=>?_,?_,hb⟩
 ·rw[ht k hk,wst,stepOf,if_pos h1]
 ·rw[gc_whole_all l t f hs.2.1 ht]
  intro j hj;rw[rng_length]at hj;rw[nth_rng _ _ _ hj];have:=vol_bd l hs.2.1 hs.1 l.length (Nat.le_refl _);rw[List.take_length]at this;omega
end Go.Proofs.YticbbncdcannlaaGreat
namespace Go.Proofs.YticbbncdcannlaaGreat
def mkL(n:Nat)(F:Nat→Int):List Int:=(List.range n).map F
theorem mkL_length(n:Nat)(F:Nat→Int):(mkL n F).length=n:=by simp[mkL]
theorem mkL_nth(n:Nat)(F:Nat→Int)(j:Nat):nth (mkL n F) j=if j<n then F j else 0:=by
 unfold mkL;by_cases h:j<n
 ·rw[if_pos h,nth_lt (by simpa using h)];simp
 ·rw[if_neg h,nth_out (by simp;omega)]
theorem rank_in{s i:List Int}(h:inB s i):rank s i=rankTo s i s.length:=by
 unfold rank;rw[if_pos ((inBb_iff s i).2 h)]
theorem gc_view{l t s t':List Int}{f f':Int}(hl:sized l)(hs:sized s)(φ:List Int→List Int)(hin:∀i,inB s i→inB l (φ i))(hd:∀i,inB s i→f'+dotTo i t' s.length=f+dotTo (φ i) t l.length):gc s t' f' s.length=picked (gc l t f l.length) ((List.range (vol s).toNat).map fun r:Nat=>rank l (φ (idx s r))):=by
 have hlen:=gc_length s t' f' hs s.length (Nat.le_refl _);rw[List.take_length]at hlen;refine ext_nth (by simp[picked];omega) (fun r hr=>?_);have hr':(r:Int)<vol s:=by omega
 have hi:=idx_in s r hs;have h1:=(nth_gc s t' (idx s r) f' hs s.length (Nat.le_refl _) (fun j hj=>hi.2 j hj)).2.2;have h2:=rank_idx s r hs (by omega) hr';rw[rank_in hi]at h2;rw[h2]at h1;have h3:=hin _ hi;have h4:=(nth_gc l t (φ (idx s r)) f hl l.length (Nat.le_refl _) (fun j hj=>h3.2 j hj)).2.2;have hrl:r<((List.range (vol s).toNat).map fun r:Nat=>rank l (φ (idx s r))).length:=by simp;omega
 rw[picked_nth _ _ _ hrl,nth_lt hrl];have e:((List.range (vol s).toNat).map fun r:Nat=>rank l (φ (idx s r)))[r]=rank l (φ (idx s r)):=by simp
 rw[e,rank_in h3,h4,←hd _ hi,←h1];simp
theorem gc_rank{l t s:List Int}{f:Int}(hl:sized l)(φ:List Int→List Int)(hin:∀i,inB s i→inB l (φ i))(hs:sized s)(j:Nat)(hj:j<((List.range (vol s).toNat).map fun r:Nat=>rank l (φ (idx s r))).length):0≤nth ((List.range (vol s).toNat).map fun r:Nat=>rank l (φ (idx s r))) j∧(nth ((List.range (vol s).toNat).map fun r:Nat=>rank l (φ (idx s r))) j).toNat<(gc l t f l.length).length:=by
 have e:nth ((List.range (vol s).toNat).map fun r:Nat=>rank l (φ (idx s r))) j=rank l (φ (idx s j)):=by rw[nth_lt hj];simp
 have h3:=hin _ (idx_in s j hs);have h4:=nth_gc l t (φ (idx s j)) f hl l.length (Nat.le_refl _) (fun j hj=>h3.2 j hj);rw[e,rank_in h3];exact⟨h4.1,by omega⟩
theorem GOk.view{l t s t':List Int}{f f' M:Int}(hg:GOk l t f M)(hs:okShape s)(ht:t'.length≤s.length)(hu:∀k,k<s.length→nth s k=1→nth t' k=0)(φ:List Int→List Int)(hin:∀i,inB s i→inB l (φ i))(hd:∀i,inB s i→f'+dotTo i t' s.length=f+dotTo (φ i) t l.length):GOk s t' f' M:=by
 refine⟨hs,ht,hu,fun j hj=>?_,hg.small⟩;rw[gc_view hg.shape.2.1 hs.2.1 φ hin hd]at hj⊢;have hj':j<((List.range (vol s).toNat).map fun r:Nat=>rank l (φ (idx s r))).length:=by simpa[picked]using hj
 rw[picked_nth _ _ _ hj'];exact hg.inside _ (gc_rank hg.shape.2.1 φ hin hs.2.1 j hj').2
theorem dot_one(a b c d:List Int)(k:Nat)(n:Nat)(h:∀j,j<n→j≠k→nth a j*nth b j=nth c j*nth d j):dotTo a b n+(if k<n then nth c k*nth d k else 0)=dotTo c d n+(if k<n then nth a k*nth b k else 0):=by
 induction n with
 |zero=>simp[dotTo]
 |succ n ih=>
  have:=ih (fun j hj=>h j (by omega));simp only[dotTo];by_cases hk:k<n
  ·rw[if_pos hk,if_pos hk]at this
   rw[if_pos (by omega),if_pos (by omega),h n (by omega) (by omega)];omega
  ·rw[if_neg hk,if_neg hk]at this
   by_cases hk2:k=n
   ·subst hk2
    rw[if_pos (by omega),if_pos (by omega)];omega
   ·rw[if_neg (by omega),if_neg (by omega),h n (by omega) (by omega)]
    omega
def cutT(l t:List Int)(k:Nat)(count step:Int):List Int:=mkL l.length (upd (nth t) k (stepOf count (step*nth t k)))
theorem cut_dot{l t:List Int}{f start step:Int}{k cn:Nat}(hk:k<l.length)(hc:1≤cn)(i:List Int)(hi:inB (l.set k (cn:Int)) i):(f+start*nth t k)+dotTo i (cutT l t k cn step) (l.set k (cn:Int)).length=f+dotTo (cutL i k start cn step) t l.length:=by
 have hil:i.length=l.length:=by have:=hi.1;simp at this;omega
 have ht:∀j,j<l.length→nth (cutT l t k cn step) j=if j=k then stepOf cn (step*nth t k)else nth t j:=fun j hj=>by
  unfold cutT;rw[mkL_nth,if_pos hj];rfl
 have hcl:∀j,nth (cutL i k start cn step) j=if j=k then(if 1<(cn:Int)then start+nth i k*step else start)else nth i j:=fun j=>by
  unfold cutL;rw[nth_setN _ _ _ _ (by omega)]
 have h:=dot_one i (cutT l t k cn step) (cutL i k start cn step) t k l.length (fun j hj hne=>by rw[ht j hj,if_neg hne,hcl,if_neg hne]);rw[if_pos hk,if_pos hk,ht k hk,if_pos rfl,hcl,if_pos rfl]at h;rw[List.length_set];have hik:=hi.2 k (by simpa using hk);rw[nth_setN _ _ _ _ hk,if_pos rfl]at hik;have key:start*nth t k+nth i k*stepOf cn (step*nth t k)=(if 1<(cn:Int)then start+nth i k*step else start)*nth t k:=by
  by_cases h1:1<(cn:Int)
  ·rw[if_pos h1,stepOf,if_neg (by omega),Int.add_mul,Int.mul_assoc]
  ·rw[if_neg h1,stepOf,if_pos (by omega),Int.mul_zero,Int.add_zero]
 omega
theorem turnTo_zero{n:Nat}{ax l:List Int}{k:Nat}(p:Nat)(h:∀j,j<k→(nth ax j).toNat≠p):nth (turnTo n ax l k) p=0:=by
 induction k with
 |zero=>
  unfold turnTo nth List.getD;rw[List.getElem?_replicate];split<;>rfl
 |succ k ih=>
  rw[turnTo];have h1:=h k (by omega);have e:∀(L:List Int) (q:Nat) (x:Int),q≠p→nth (L.set q x) p=nth L p:=fun L q x hq=>by
   unfold nth List.getD;rw[List.getElem?_set_ne hq]
  rw[e _ _ _ h1];exact ih (fun j hj=>h j (by omega))
theorem turn_dot{n:Nat}{ax t:List Int}(hl:ax.length=n)(ha:axesTo n ax n)(i:List Int)(k:Nat)(hk:k≤n):dotTo (turnTo n ax i k) t n=dotTo i (turnS t ax) k:=by
 induction k with
 |zero=>
  have key:∀m,dotTo (turnTo n ax i 0) t m=0:=fun m=>by
   induction m with
   |zero=>rfl
   |succ m ih=>rw[dotTo,ih,turnTo_zero m (fun j hj=>by omega)];simp
  rw[key];rfl
 |succ k ih=>
  have h0:=ih (by omega);obtain⟨⟨a1,a2⟩,a3⟩:=ha k (by omega);have hp:(nth ax k).toNat<n:=by omega
  have hz:nth (turnTo n ax i k) (nth ax k).toNat=0:=turnTo_zero _ (fun j hj e=>by
   have b:=(ha j (by omega)).1;exact a3 j hj (by omega))
  have e:∀j,nth (turnTo n ax i (k+1)) j=if j=(nth ax k).toNat then nth i k else nth (turnTo n ax i k) j:=fun j=>by rw[turnTo,nth_setN _ _ _ _ (by rw[turnTo_length];exact hp)]
  have h:=dot_one (turnTo n ax i (k+1)) t (turnTo n ax i k) t (nth ax k).toNat n (fun j hj hne=>by rw[e,if_neg hne]);rw[if_pos hp,if_pos hp,hz,e,if_pos rfl,Int.zero_mul]at h;rw[dotTo,turnS_nth _ _ _ (by omega),←h0];omega
def strT(l t s:List Int):List Int:=mkL s.length fun j=>if s.length-l.length≤j then nth t (j-(s.length-l.length))else 0
theorem str_dot{l t s:List Int}(hls:l.length≤s.length)(hu:∀k,k<l.length→nth l k=1→nth t k=0)(hs:sized l)(i:List Int):dotTo i (strT l t s) s.length=dotTo (meantOf l s i) t l.length:=by
 have hn:∀j,j<s.length→nth (strT l t s) j=if s.length-l.length≤j then nth t (j-(s.length-l.length))else 0:=fun j hj=>by
  unfold strT;rw[mkL_nth,if_pos hj]
 have z:∀m,m≤s.length-l.length→dotTo i (strT l t s) m=0:=fun m=>by
  induction m with
  |zero=>intro _;rfl
  |succ m ih=>
   intro hm;rw[dotTo,ih (by omega),hn m (by omega),if_neg (by omega)];simp
 have key:∀k,k≤l.length→dotTo i (strT l t s) (s.length-l.length+k)=dotTo (meantOf l s i) t k:=fun k=>by
  induction k with
  |zero=>intro _;exact z _ (Nat.le_refl _)
  |succ k ih=>
   intro hk;rw[←Nat.add_assoc,dotTo,dotTo,ih (by omega),hn _ (by omega),if_pos (by omega),meantOf_nth l s i k (by omega),show s.length-l.length+k-(s.length-l.length)=k by omega];by_cases h1:1<nth l k
   ·rw[if_pos h1]
   ·have:=hs k (by omega)
    rw[if_neg h1,hu k (by omega) (by omega)];simp
 have:=key l.length (Nat.le_refl _)
 rwa [show s.length-l.length+l.length=s.length by omega]at this
def roff:List (Int×Int)→Int→Int
 |[],_=>0
 |(z,t)::rest,r=>(r%z)*t+roff rest (r / z)
def svol:List (Int×Int)→Int
 |[]=>1
 |(z,_)::rest=>z*svol rest
def mstep(acc:List (Int×Int))(z t:Int):List (Int×Int):=
 if z=1 then acc else
 match acc with
 |[]=>[(z,t)]
 |(z0,t0)::rest=>if t0=z*t then(z0*z,t)::rest else(z,t)::(z0,t0)::rest
def bigs(A:List (Int×Int)):Prop:=∀x∈A,2≤x.1
def canonS:List (Int×Int)→Prop
 |[]=>True
 |[_]=>True
 |(z,t)::(z0,t0)::rest=>t0≠z*t∧canonS ((z0,t0)::rest)
theorem roff_zero(A:List (Int×Int))(h:∀x∈A,1≤x.1):roff A 0=0:=by
 induction A with
 |nil=>rfl
 |cons x A ih=>
  obtain⟨z,t⟩:=x;simp only[roff,Int.zero_emod,Int.zero_mul,Int.zero_ediv,Int.zero_add];exact ih (fun y hy=>h y (List.mem_cons_of_mem _ hy))
theorem svol_pos(A:List (Int×Int))(h:bigs A):1≤svol A:=by
 induction A with
 |nil=>exact Int.le_refl _
 |cons x A ih=>
  obtain⟨z,t⟩:=x;have h1:=ih (fun y hy=>h y (List.mem_cons_of_mem _ hy));have h2:2≤z:=h (z,t) (List.mem_cons_self ..);simp only[svol];have:=Int.mul_le_mul (show(1:Int)≤z by omega) h1 (by omega) (by omega);omega
theorem bigs_mstep{A:List (Int×Int)}(h:bigs A){z:Int}(hz:1≤z)(t:Int):bigs (mstep A z t):=by
 unfold mstep;split
 ·exact h
 ·rename_i hz1
  split
  ·intro x hx
   simp at hx;rw[hx];show 2≤z;omega
  ·rename_i z0 t0 rest
   have h0:2≤z0:=h (z0,t0) (List.mem_cons_self ..);split
   ·intro x hx
    rcases List.mem_cons.1 hx with rfl|hx
    ·show 2≤z0*z
     have:=Int.mul_le_mul h0 (show(1:Int)≤z by omega) (by omega) (by omega);omega
    ·exact h x (List.mem_cons_of_mem _ hx)
   ·intro x hx
    rcases List.mem_cons.1 hx with rfl|hx
    ·show 2≤z;omega
    ·exact h x hx
theorem canonS_mstep{A:List (Int×Int)}(hc:canonS A)(z t:Int):canonS (mstep A z t):=by
 unfold mstep;split
 ·exact hc
 ·split
  ·trivial
  ·rename_i z0 t0 rest
   split
   ·rename_i e
    cases rest with
    |nil=>trivial
    |cons y rest=>
     obtain⟨z1,t1⟩:=y;refine⟨?_,hc.2⟩;have:=hc.1;rw[e]at this;rw[Int.mul_assoc];exact this
   ·rename_i e
    exact⟨e,hc⟩
theorem svol_mstep(A:List (Int×Int))(z t:Int):svol (mstep A z t)=z*svol A:=by
 unfold mstep;split
 ·rename_i e;rw[e];omega
 ·split
  ·rfl
  ·rename_i z0 t0 rest
   split
   ·simp only[svol]
    rw[Int.mul_comm z0 z,Int.mul_assoc]
   ·rfl
theorem roff_mstep(A:List (Int×Int)){z:Int}(hz:1≤z)(h:∀x∈A,1≤x.1)(t:Int)(ht:z=1→t=0)(r:Int):roff (mstep A z t) r=(r%z)*t+roff A (r / z):=by
 unfold mstep;split
 ·rename_i e;subst e;simp[ht rfl]
 ·split
  ·rfl
  ·rename_i z0 t0 rest
   split
   ·rename_i e
    have h0:1≤z0:=h (z0,t0) (List.mem_cons_self ..);simp only[roff];rw[e];have e1:r / (z0*z)=r / z / z0:=by rw[Int.mul_comm,Int.ediv_ediv_of_nonneg (by omega)]
    have e2:r% (z0*z)=r%z+z*(r / z%z0):=by
     have a1:=Int.mul_ediv_add_emod r (z0*z);have a2:=Int.mul_ediv_add_emod r z;have a3:=Int.mul_ediv_add_emod (r / z) z0;rw[e1]at a1;have a4:z*(r / z)=z0*z*(r / z / z0)+z*(r / z%z0):=by
      conv=>lhs;rw[←a3]
      rw[Int.mul_add];congr 1
      rw[←Int.mul_assoc,Int.mul_comm z z0]
     omega
    rw[e1,e2,Int.add_mul,Int.add_assoc];congr 2
    rw[Int.mul_comm z,Int.mul_assoc]
   ·rfl
theorem roff_small{z t:Int}{A:List (Int×Int)}(h:∀x∈A,1≤x.1)(r:Int)(h0:0≤r)(h1:r<z):roff ((z,t)::A) r=r*t:=by
 simp only[roff];rw[Int.emod_eq_of_lt h0 h1,Int.ediv_eq_zero_of_lt h0 h1,roff_zero A h,Int.add_zero]
theorem bigs_one{A:List (Int×Int)}(h:bigs A):∀x∈A,1≤x.1:=fun x hx=>by have:=h x hx;omega
theorem roff_next{z t:Int}{A:List (Int×Int)}(hz:1≤z)(q:Int):roff ((z,t)::A) (q*z)=roff A q:=by
 simp only[roff];rw[Int.mul_emod_left,Int.zero_mul,Int.zero_add,Int.mul_ediv_cancel _ (by omega)]
theorem head_lt{z t y u:Int}{A B:List (Int×Int)}(hA:bigs ((z,t)::A))(hB:bigs ((y,u)::B))(cA:canonS ((z,t)::A))(hv:svol ((z,t)::A)=svol ((y,u)::B))(he:∀r,0≤r→r<svol ((z,t)::A)→roff ((z,t)::A) r=roff ((y,u)::B) r)(htu:t=u):¬z<y:=by
 intro hlt;have hz:2≤z:=hA (z,t) (List.mem_cons_self ..);have bA:bigs A:=fun x hx=>hA x (List.mem_cons_of_mem _ hx)
 have bB:bigs B:=fun x hx=>hB x (List.mem_cons_of_mem _ hx)
 have vB:=svol_pos B bB;have hyv:y≤svol ((y,u)::B):=by
  simp only[svol];have:=Int.mul_le_mul_of_nonneg_left vB (show(0:Int)≤y by omega);omega
 have e:=he z (by omega) (by omega);rw[roff_small (bigs_one bB) z (by omega) hlt]at e;have e2:roff ((z,t)::A) z=roff A 1:=by have:=roff_next (t:=t) (A:=A) (show 1≤z by omega) 1;rwa [Int.one_mul]at this
 rw[e2]at e;cases A with
 |nil=>simp only[svol]at hv hyv;omega
 |cons x A=>
  obtain⟨z0,t0⟩:=x;have hz0:2≤z0:=bA (z0,t0) (List.mem_cons_self ..);rw[roff_small (fun x hx=>bigs_one bA x (List.mem_cons_of_mem _ hx)) 1 (by omega) (by omega),Int.one_mul]at e;exact cA.1 (by rw[e,htu])
theorem canonS_unique:∀(A B:List (Int×Int)),bigs A→bigs B→canonS A→canonS B→svol A=svol B→(∀r,0≤r→r<svol A→roff A r=roff B r)→A=B:=by
 intro A
 induction A with
 |nil=>
  intro B _ hB _ _ hv _;cases B with
  |nil=>rfl
  |cons y B=>
   exfalso
   obtain⟨y,u⟩:=y;have h1:2≤y:=hB (y,u) (List.mem_cons_self ..);have h2:=svol_pos B (fun x hx=>hB x (List.mem_cons_of_mem _ hx));simp only[svol]at hv;have:=Int.mul_le_mul h1 h2 (by omega) (by omega);omega
 |cons x A ih=>
  obtain⟨z,t⟩:=x;intro B hA hB cA cB hv he;have bA:bigs A:=fun x hx=>hA x (List.mem_cons_of_mem _ hx)
  have vA:=svol_pos A bA;have hz:2≤z:=hA (z,t) (List.mem_cons_self ..);have hzv:z≤svol ((z,t)::A):=by
   simp only[svol];have:=Int.mul_le_mul_of_nonneg_left vA (show(0:Int)≤z by omega);omega
  cases B with
  |nil=>exfalso;simp only[svol]at hv hzv;omega
  |cons y B=>
   obtain⟨y,u⟩:=y;have bB:bigs B:=fun x hx=>hB x (List.mem_cons_of_mem _ hx)
   have hy:2≤y:=hB (y,u) (List.mem_cons_self ..);have htu:t=u:=by
    have e:=he 1 (by omega) (by omega);rw[roff_small (bigs_one bA) 1 (by omega) (by omega),roff_small (bigs_one bB) 1 (by omega) (by omega)]at e;omega
   have h1:=head_lt hA hB cA hv he htu;have h2:=head_lt hB hA cB hv.symm (fun r h0 h1=>(he r h0 (by omega)).symm) htu.symm;have hzy:z=y:=by omega
   subst hzy;subst htu;have hv':svol A=svol B:=by
    simp only[svol]at hv;exact Int.eq_of_mul_eq_mul_left (by omega) hv
   have:=ih B bA bB (by cases A with|nil=>trivial|cons a A=>exact cA.2) (by cases B with|nil=>trivial|cons b B=>exact cB.2) hv' (fun q h0 h1=>by
    have e:=he (q*z) (Int.mul_nonneg h0 (by omega)) (by
     simp only[svol];rw[Int.mul_comm z];exact Int.mul_lt_mul_of_pos_right h1 (by omega))
    rwa [roff_next (by omega),roff_next (by omega)]at e)
   rw[this]
theorem vol_pos_of{l:List Int}(hs:sized l):1≤vol l:=by
 have:=gc_length l [] 0 hs l.length (Nat.le_refl _);have h2:=gc_pos l [] 0 hs l.length (Nat.le_refl _);rw[List.take_length]at this;omega
def stk(l t:List Int):Nat→List (Int×Int)
 |0=>[]
 |k+1=>(nth l k,nth t k)::stk l t k
def mstk(l t:List Int):Nat→List (Int×Int)
 |0=>[]
 |k+1=>mstep (mstk l t k) (nth l k) (nth t k)
theorem gc_roff(l t:List Int)(f:Int)(hs:sized l)(k:Nat)(hk:k≤l.length)(r:Nat)(hr:(r:Int)<vol (l.take k)):nth (gc l t f k) r=f+roff (stk l t k) r:=by
 induction k generalizing r with
 |zero=>
  simp[vol]at hr;have:r=0:=by omega
  subst this;simp[gc,stk,roff,nth]
 |succ k ih=>
  have h1:=hs k (by omega);rw[vol_take l k (by omega)]at hr;have hn:(((nth l k).toNat:Nat):Int)=nth l k:=by omega
  have hq:((r / (nth l k).toNat:Nat):Int)<vol (l.take k):=by
   rw[Int.natCast_ediv,hn];exact Int.ediv_lt_of_lt_mul (by omega) hr
  have hlen:=gc_length l t f hs k (by omega);have e:r=r / (nth l k).toNat*(nth l k).toNat+r% (nth l k).toNat:=by rw[Nat.mul_comm];exact(Nat.div_add_mod _ _).symm
  conv=>lhs;rw[e]
  rw[gc,nth_spread _ _ _ _ _ (by omega) (Nat.mod_lt _ (by omega)),ih (by omega) _ hq];simp only[stk,roff];rw[Int.natCast_ediv,Int.natCast_emod,hn];omega
theorem mstk_ok(l t:List Int)(hs:sized l)(hu:∀k,k<l.length→nth l k=1→nth t k=0)(k:Nat)(hk:k≤l.length):bigs (mstk l t k)∧canonS (mstk l t k)∧svol (mstk l t k)=vol (l.take k)∧∀r,roff (mstk l t k) r=roff (stk l t k) r:=by
 induction k with
 |zero=>exact⟨fun x hx=>(by cases hx),trivial,by simp[mstk,svol,vol],fun _=>rfl⟩
 |succ k ih=>
  obtain⟨i1,i2,i3,i4⟩:=ih (by omega);have h1:=hs k (by omega);refine⟨bigs_mstep i1 h1.1 _,canonS_mstep i2 _ _,?_,fun r=>?_⟩
  ·rw[mstk,svol_mstep,i3,vol_take l k (by omega),Int.mul_comm]
  ·rw[mstk,roff_mstep _ h1.1 (bigs_one i1) _ (hu k (by omega)),i4]
   rfl
theorem same_cells{l t s u:List Int}{f:Int}(hl:sized l)(hs:sized s)(hlu:∀k,k<l.length→nth l k=1→nth t k=0)(hsu:∀k,k<s.length→nth s k=1→nth u k=0)(hv:vol s=vol l):gc s u f s.length=gc l t f l.length↔mstk s u s.length=mstk l t l.length:=by
 obtain⟨a1,a2,a3,a4⟩:=mstk_ok l t hl hlu l.length (Nat.le_refl _);obtain⟨b1,b2,b3,b4⟩:=mstk_ok s u hs hsu s.length (Nat.le_refl _);have ll:=gc_length l t f hl l.length (Nat.le_refl _);have ls:=gc_length s u f hs s.length (Nat.le_refl _);have hvs:=vol_pos_of hs;rw[List.take_length]at a3 b3 ll ls;have key:∀r:Nat,(r:Int)<vol l→nth (gc s u f s.length) r=f+roff (mstk s u s.length) r∧nth (gc l t f l.length) r=f+roff (mstk l t l.length) r:=fun r hr=>by
  rw[a4,b4];exact⟨gc_roff s u f hs s.length (Nat.le_refl _) r (by rw[List.take_length];omega),gc_roff l t f hl l.length (Nat.le_refl _) r (by rw[List.take_length];omega)⟩
 constructor
 ·intro e
  refine canonS_unique _ _ b1 a1 b2 a2 (by rw[b3,a3,hv]) (fun r h0 h1=>?_);rw[b3,hv]at h1;have h2:=key r.toNat (by omega);rw[e]at h2;rw[show((r.toNat:Nat):Int)=r by omega]at h2;omega
 ·intro e
  refine ext_nth (by omega) (fun r hr=>?_);obtain⟨k1,k2⟩:=key r (by omega);rw[k1,k2,e]
open Go.RowKit
def Sp.seen(σ:Sp)(a:Arr)(s:List Int):List Int:=picked (σ.valuesOf a) (meant a.shape s)
def Sp.assign(σ:Sp)(to fr:Int):Sp×Int:=match σ.find to,σ.find fr with
 |some a,some b=>if a.ro=true then(σ,6)else if stretchB b.shape a.shape=true then(σ.writes a.kind a.cells (fun i=>asK a.kind (nth (σ.seen b a.shape) i)) a.cells.length,0)else(σ,4)
 |_,_=>(σ,2)
def wrapK(k v:Int):Int:=if k=1 then v%256 else IntKind.i64.wrap v
def opK(op k a b:Int):Int:=
 if op=1 then wrapK k (a+b)else if op=2 then wrapK k (a-b)else if op=3 then wrapK k (a*b)else if op=4 then(if b<a then b else a)else(if a<b then b else a)
def Sp.work(σ:Sp)(op to x y:Int):Sp×Int:=
 if op<1∨5<op then(σ,1)else match σ.find to,σ.find x,σ.find y with
 |some t,some a,some b=>
  if t.ro=true then(σ,6)else if stretchB a.shape t.shape=true∧stretchB b.shape t.shape=true then
   (σ.writes t.kind t.cells (fun i=>opK op t.kind (asK t.kind (nth (σ.seen a t.shape) i)) (asK t.kind (nth (σ.seen b t.shape) i))) t.cells.length,0)else(σ,4)
 |_,_,_=>(σ,2)
def Sp.fresh(σ:Sp)(kind:Int)(s:List Int)(f:Nat→Int):Sp×Int×Int:=
 if 40≤σ.live then(σ,0,7)
 else if σ.place kind (vol s).toNat<0 then(σ,0,8)
 else(σ.made kind (σ.place kind (vol s).toNat) s (vol s).toNat f,(σ.arrs.length:Int)+1,0)
def foldS(s:List Int)(k:Nat):List Int:=s.take k++s.drop (k+1)
def foldL(i:List Int)(k:Nat)(x:Int):List Int:=i.take k++[x]++i.drop k
def foldV(op kind:Int)(f:Nat→Int):Nat→Int
 |0=>f 0
 |n+1=>opK op kind (foldV op kind f n) (f (n+1))
def Sp.folded(σ:Sp)(op:Int)(a:Arr)(k:Nat)(r:Nat):Int:=
 foldV op a.kind (fun x=>nth (σ.valuesOf a) (rank a.shape (foldL (idx (foldS a.shape k) r) k x)).toNat) ((nth a.shape k).toNat -1)
def Sp.fold(σ:Sp)(op h axis:Int):Sp×Int×Int:=
 if op<1∨5<op∨op=2 then(σ,0,1)else match σ.find h with
 |none=>(σ,0,2)
 |some a=>if axis<0∨(a.shape.length:Int)≤axis then(σ,0,5)else σ.fresh a.kind (foldS a.shape axis.toNat) (fun r=>asK a.kind (σ.folded op a axis.toNat r))
def evenT(s at':List Int):List Int:=mkL s.length fun k=>if 1<nth s k then nth at' (vol (s.drop (k+1))).toNat -nth at' 0 else 0
def evenB(s at':List Int):Bool:=decide (gc s (evenT s at') (nth at' 0) s.length=at')
def Sp.reshape(σ:Sp)(h:Int)(s:List Int):Sp×Int×Bool×Int:=match σ.find h with
 |none=>(σ,0,false,2)
 |some a=>
  if shapeB s=false∨vol s≠vol a.shape then(σ,0,false,4)
  else if evenB s a.cells=true then
   (if 40≤σ.live then(σ,0,false,7)else(σ.lay ⟨a.kind,s,a.cells,a.ro,a.buf⟩,(σ.arrs.length:Int)+1,true,0))
  else((σ.fresh a.kind s (fun i=>asK a.kind (nth (σ.valuesOf a) i))).1,(σ.fresh a.kind s (fun i=>asK a.kind (nth (σ.valuesOf a) i))).2.1,false,(σ.fresh a.kind s (fun i=>asK a.kind (nth (σ.valuesOf a) i))).2.2)
theorem yfreshv_ok{T:Tags}{o:Nat}{w:World}{p:Nat}{L:YL}{σ:Sp}(hy:YAt T o w p L σ)(hok:σ.ok)(kind:Int)(hk:kind=1∨kind=2)(vs:Value)(s:List Int)(hs:okShape s)(hr:RdI w vs s)(hl:σ.live<40)(hmb:σ.bufs.length+1≤100000000)(at':Int)(hat:σ.place kind (vol s).toNat=at')(h0:0≤at')(hts:s≠[]→∀b,vs.ownBlock=some b→¬Mut o (T b))(vv:Value)(V:List Int)(hV:RdI w vv V)(hVl:V.length=(vol s).toNat)(htv:∀b,vv.ownBlock=some b→¬Mut o (T b)):Calls Tryz.prog 138 #[.pointer (some ⟨p,0,none⟩),.int .i64 kind,vs,vv] w fun e w'=>e=.returned (.tuple #[.int .i64 ((σ.arrs.length:Int)+1),.int .i64 0])∧∃T' L',TagsTo w T T'∧YAt T' o w' p L' (σ.made kind at' s (vol s).toNat fun i=>asK kind (nth V i))∧Kp (fun b=>Mut o (T b)) w w':=by
 have HY:=hid hy;have HO:=hid hok;have HR:=hid hr;have HS:=hid hs;have HK:=hid hk;obtain⟨m,hm⟩:∃m,(vol s).toNat=m:=⟨_,rfl⟩;rw[hm]at hat;have HV:Hid (vol s=(m:Int)):=hid (by
  have:=vol_bd s hs.2.1 hs.1 s.length (Nat.le_refl _);rw[List.take_length]at this;omega)
 have hvs:m≤3600:=by have:=hs.2.2;omega
 have HAT:=hid hat;have HM:=hid hm;have hn:=hok.bufs;obtain⟨-,-,-,-,-,-,q7⟩:=hy.cells;have f7:w.frozen? ⟨p,7,none⟩=false:=frozen_blk hy.blk;have hp:p<w.heap.size:=lt_of_heap hy.blk;have HNE:Hid (some p≠L.vb.ownBlock):=hid (fun e=>by
  have:=hy.tb p e.symm;rw[hy.tp]at this;simp at this)
 have HVB:=hid hy.vb;obtain⟨gv,ov,cv,rfl,hvc⟩:∃gv ov cv,vv=.slice (some ⟨gv,ov,none⟩) m cv∧∀j,j<m→w.cell? ⟨gv,ov+j,none⟩=some (.int .i64 (nth V j)):=by
  obtain⟨a,c,e,h⟩:=rd_parts hV;have hv:=vol_bd s hs.2.1 hs.1 s.length (Nat.le_refl _);rw[List.take_length]at hv;obtain⟨g,o',rfl,hc⟩:=h (by omega);exact⟨g,o',c,by rw[e,hVl,hm],fun j hj=>hc j (by omega)⟩
 have HVC:=hid hvc;have htg:¬Mut o (T gv):=htv gv rfl;have HTG:=hid htg;obtain⟨f,hf⟩:∃f:Nat→Int,f=fun i=>asK kind (nth V i):=⟨_,rfl⟩
 rw[←hf];have HFJ:Hid (∀j,asK kind (nth V j)=f j):=hid (fun j=>by rw[hf]);have hneq:=fun W=>run_neq_slice_nil_any (P:=Tryz.prog) W 26 3 (some ⟨gv,ov,none⟩) m cv 0 0 Tryz.underlying26
 simp only[Option.isNone_some,Bool.not_false]at hneq;clear hvc htg htv hV hVl hf;have HOM:Hid ((σ.more (Buf.mk kind at' m)).ok):=hid (by
  have hb:=place_bd σ kind m (by rw[hat];exact h0);rw[hat]at hb;have hv:=vol_bd s hs.2.1 hs.1 s.length (Nat.le_refl _);rw[List.take_length]at hv;exact more_ok hok _ hk h0 (by show(1:Int)≤(m:Int);omega) (by show(m:Int)≤3600;omega) hb hmb)
 have HLV:=hid hl;have HCAP:Hid (at'+m≤σ.cap kind∧σ.cap kind≤10000):=hid (by
  have h:=place_bd σ kind m (by rw[hat];exact h0);rw[hat]at h;exact⟨h,hok.cap kind⟩)
 have HTS:=hid hts;have HSL:Hid (0+s.length≤1000000000000):=hid (by have:=hs.1;omega);obtain⟨i,hi,hz0,hz1,hz2⟩:=info_parts Tryz.infoBuf;clear hy hok hr hs hk hat hm hts;generalize hnb:σ.bufs.length=nb at*;have HNB:=hid hnb;clear hnb;have d40:decide ((40:Int)≤(σ.live:Int))=false:=by simp;omega
 have dat:decide (at'<0)=false:=by simp;omega
 have h63:Hid (nb+1≤maxLen):=hid (by unfold maxLen;omega);have hbytes:Hid ((nb+1)*24≤140737488355328):=hid (by omega);have h1:Hid (∀u∈(Buf.mk kind at' m).row,u.oneCell'=true):=hid (by intro u hu;simp[Buf.row]at hu;rcases hu with rfl|rfl|rfl<;>rfl);go_enter Tryz.func138,Tryz.ntmps138
 go_wp2_with fail
 refine(ylive_calls HY.out HO.out).mono ?_;rintro e w' ⟨rfl,hw⟩;obtain rfl:=hw.symm
 go_wp2_with fail
 refine(volume_calls _ _ _ HR.out HS.out.2.1 HS.out.1).mono ?_;rintro e w' ⟨rfl,hw⟩;obtain rfl:=hw.symm
 go_wp2_with fail
 rw[HV.out];refine(yplace_calls HY.out HO.out kind HK.out _ hvs).mono ?_;rintro e w1 ⟨rfl,hK⟩;rw[HAT.out];have q7':=hK.cell q7;have f7':w1.frozen? ⟨p,7,none⟩=false:=(World.frozen?_of_block (hK.block p hp (fun e=>e))).trans f7;have hp1:p<w1.heap.size:=Nat.lt_of_lt_of_le hp hK.size;have HVB1:=hid (row_kp HVB.out hK (fun _ _ e=>e));have HK1:=hid hK;clear hK
 go_wp2_with (at_builtin;refine wpList_append_lies _ rfl _ _ _ rfl 0 213 i (.agg #[.int .i64 0,.int .i64 0,.int .i64 0]) 3 24 Tryz.underlying151 hi hz0 hz1 hz2 rfl (by omega) L.vb nb _ rfl (HVB1.out.alloc _) ⟨w1.heap.size,0,none⟩ 1 1 (Buf.mk kind at' m).row rfl rfl (World.news_of_block (heap_alloc_new _ _)) h1.out (by omega) h63.out hbytes.out (Nat.zero_le _) (w1.heap.size+1) (by simp) ?_)
 intro g cap w2 hown hgrow hat2 hlt2;have hp2:p<w2.heap.size:=Nat.lt_of_lt_of_le (by simp;omega) hgrow.size;have c7:w2.cell? ⟨p,7,none⟩=some L.vb:=hgrow.cell (by rw[World.cell?_alloc_lt _ _ _ hp1];exact q7') HNE.out;have e7:w2.frozen? ⟨p,7,none⟩=false:=by rw[hgrow.frozen_far _ (by simp;omega) HNE.out,World.frozen?_alloc_past _ _ _ hp1];exact f7'
 have hY:=HY.out.kp0 HK1.out;have hmore:=hY.more _ (Buf.mk kind at' m) g cap (by rw[HNB.out];exact hown) hgrow hat2;rw[HNB.out]at hmore;obtain⟨hY2,hKm⟩:=hmore;have hKw:Kp (fun b=>Mut o (T b)) w (w2.setCell ⟨p,7,none⟩ (.slice (some ⟨g,0,none⟩) (nb+1) cap)):=
  (Kp.of0 HK1.out).trans hKm (fun i hi h=>by rcases h with h|h<;>rw[h]<;>simp[Mut])
 have hRS:∀y,RdI ((w2.setCell ⟨p,7,none⟩ (.slice (some ⟨g,0,none⟩) (nb+1) cap)).alloc y) vs s:=fun y=>HR.out.kpne (hKw.alloc y) (fun hx b hb=>HTS.out hx b hb)
 have HRS:=hid hRS;have HY2:=hid hY2;have HKw:=hid hKw;clear hown hgrow hat2 hlt2 hY hY2 hKm hKw hRS
 go_wp2_with (at_builtin;refine wpList_app rfl _ _ rfl none 0 0 [] s vs rfl rfl (OwI.nil _) (HRS.out _) HSL.out (w2.heap.size+1) (by simp) ?_)
 intro ao c w4 hownS hgrowS hatS;generalize hW2:w2.setCell ⟨p,7,none⟩ (.slice (some ⟨g,0,none⟩) (nb+1) cap)=W2 at*;have hWs:W2.heap.size=w2.heap.size:=by rw[←hW2];simp
 have HWS:=hid hWs;have HW2:=hid hW2;clear hW2;have hA4:w4.heap[w2.heap.size]? =some (.cells #[.int .i64 kind,.slice none 0 0,.slice none 0 0,.bool false,.int .i64 (nb:Int)] 181 (0,0)):=by
  rw[hgrowS.block _ (by simp;omega) (by simp[Value.ownBlock]),←hWs];exact heap_alloc_new _ _
 have hK4:Kp0 W2 w4:=((Kp.refl _ _).alloc _).grown hgrowS (by simp[Value.ownBlock]);have hao:∀b,(Value.slice ao s.length c).ownBlock=some b→b=w2.heap.size+1:=fun b hb=>(hatS b hb).resolve_left (by simp[Value.ownBlock])
 have cA:w4.cell? ⟨w2.heap.size,1,none⟩=some (.slice none 0 0):=by simp[World.cell?,hA4]
 have fA:w4.frozen? ⟨w2.heap.size,1,none⟩=false:=frozen_blk hA4;have hS5:OwI (w4.setCell ⟨w2.heap.size,1,none⟩ (.slice ao s.length c)) (.slice ao s.length c) s:=hownS.setCell _ (fun e=>by
  have:=hao _ e;simp at this)
 have hK5:Kp0 W2 (w4.setCell ⟨w2.heap.size,1,none⟩ (.slice ao s.length c)):=Kp.setCell hK4 _ _ (fun h=>by simp at h;omega);have hA5:(w4.setCell ⟨w2.heap.size,1,none⟩ (.slice ao s.length c)).heap[w2.heap.size]? =some (.cells #[.int .i64 kind,.slice ao s.length c,.slice none 0 0,.bool false,.int .i64 (nb:Int)] 181 (0,0)):=by
  rw[heap_setCell_same _ _ _ _ _ _ hA4];rfl
 have HA4:=hid hA4;have HAO:=hid hao;have HS5:=hid hS5;have HK5:=hid hK5;have HA5:=hid hA5;clear hWs hgrowS hatS hownS hA4 hK4 hao hS5 hK5 hA5 HRS q7 f7 q7' f7' c7 e7;go_wp2
 go_loopw [14] (fun t w'=>∃k:Nat,k≤m∧t=.int .i64 k∧∃ac cc,Kp0 W2 w'∧w'.heap[w2.heap.size]? =some (.cells #[.int .i64 kind,.slice ao s.length c,.slice ac k cc,.bool false,.int .i64 (nb:Int)] 181 (0,0))∧
   OwI w' (.slice ao s.length c) s∧OwI w' (.slice ac k cc) (rng at' k)∧(∀b,(Value.slice ac k cc).ownBlock=some b→w2.heap.size<b∧(Value.slice ao s.length c).ownBlock≠some b)) (fun t _=>m-(intOf t).toNat)
 case atStart=>exact⟨0,Nat.zero_le _,rfl,none,0,HK5.out,HA5.out,HS5.out,OwI.nil _,fun b hb=>by simp[Value.ownBlock]at hb⟩
 case round=>
  obtain⟨k,hk,rfl,ac,cc,hK6,hA6,hS6,hC6,hB6⟩:=hrel;by_cases hlt:k<m
  ·have cA:wr.cell? ⟨w2.heap.size,2,none⟩=some (.slice ac k cc):=by simp[World.cell?,hA6]
   have hAlt:w2.heap.size<wr.heap.size:=lt_of_heap hA6;have HAT0:Hid (k+[at'+(k:Int)].length≤1000000000000):=hid (by simp;omega);have HK6:=hid hK6;have HA6:=hid hA6;have HS6:=hid hS6;have HC6:=hid hC6;have HB6:=hid hB6;have hcap:=HCAP.out;clear hK6 hA6 hS6 hC6 hB6
   go_wp2_with (at_builtin;refine wpList_app rfl _ _ rfl ac k cc (rng at' k) [at'+(k:Int)] _ rfl rfl (HC6.out.alloc _) (RdI.one _ _) HAT0.out (wr.heap.size+1) (by simp) ?_)
   intro ac' cc' w7 hC7 hG7 hB7;have hne:∀b,(Value.slice ac k cc).ownBlock=some b→w2.heap.size<b:=fun b hb=>(HB6.out b hb).1
   have hA7:=grown_heap HA6.out hG7 (fun e=>by have:=hne _ e.symm;omega);have hS7:OwI w7 (.slice ao s.length c) s:=(HS6.out.alloc _).grown hG7 (fun b hb e=>(HB6.out b e.symm).2 hb);have hK7:Kp0 W2 w7:=(Kp.alloc HK6.out _).grown hG7 (fun b hb h=>by have:=hne b hb;have:=HWS.out;omega);have hB7':∀b,(Value.slice ac' (k+1) cc').ownBlock=some b→w2.heap.size<b∧(Value.slice ao s.length c).ownBlock≠some b:=by
    intro b hb;rcases hB7 b hb with h|h
    ·exact HB6.out b h
    ·refine⟨by omega,fun e=>?_⟩
     have:=HS6.out.lt e;omega
   have cA7:w7.cell? ⟨w2.heap.size,2,none⟩=some (.slice ac k cc):=by simp[World.cell?,hA7]
   have fA7:w7.frozen? ⟨w2.heap.size,2,none⟩=false:=frozen_blk hA7;have HA7:=hid hA7;have HS7:=hid hS7;have HK7:=hid hK7;have HB7:=hid hB7';have HC7:=hid hC7;clear hne hA7 hS7 hK7 hB7 hB7' hC7 hG7;go_wp2
   go_roundw
   case rel=>
    refine⟨k+1,by omega,by go_num,ac',cc',Kp.setCell HK7.out _ _ (fun h=>by have:=HWS.out;simp at h;omega),?_,HS7.out.setCell _ (fun e=>?_),?_,HB7.out⟩
    ·rw[heap_setCell_same _ _ _ _ _ _ HA7.out]
     rfl
    ·have:=HAO.out _ e
     simp at this
    ·rw[rng_succ]
     exact HC7.out.setCell _ (fun e=>by have:=(HB7.out _ e).1;simp at this)
   case measure=>simp[intOf];omega
  ·have hkm:k=m:=by omega
   have HKM:=hid hkm;have hy3:YAt (retag W2 (retag w1 T (o,5)) (o,6)) o wr p {L with vb:=.slice (some ⟨g,0,none⟩) (nb+1) cap} (σ.more (Buf.mk kind at' m)):=(HY2.out.tags (retag_to W2 _ _)).kp0 hK6;have ha3:YArr (retag W2 (retag w1 T (o,5)) (o,6)) o wr w2.heap.size (.slice ao s.length c) (.slice ac k cc) ⟨kind,s,rng at' m,false,nb⟩:=by
    have hw:=HWS.out;refine⟨hA6,hS6,by rw[←hkm];exact hC6,retag_new (by omega),fun b hb=>retag_new ?_,fun b hb=>retag_new ?_⟩
    ·have:=HAO.out b hb;omega
    ·have:=(hB6 b hb).1;omega
   have HK6:=hid hK6;generalize hL2:({L with vb:=.slice (some ⟨g,0,none⟩) (nb+1) cap}:YL)=L2 at*;clear hL2;generalize hT3:retag W2 (retag w1 T (o,5)) (o,6)=T3 at*;have HT3:=hid hT3;have HY3:=hid hy3;have HA3:=hid ha3;clear hK6 hA6 hS6 hC6 hB6 hT3 hy3 ha3 hkm;go_wp2
   obtain⟨w8,hw8⟩:∃w8:World,w8=wr:=⟨_,rfl⟩;have HW8:=hid hw8;clear hw8;have HT3W:Hid (∀b,b<w.heap.size→T3 b=T b):=hid (fun b hb=>by
    have s1:=HK1.out.size;have s2:=HKw.out.size;rw[←HT3.out,retag_to W2 _ _ b (by omega),retag_to w1 _ _ b (by omega)])
   have HKV:Hid (∀w',Kp (fun b=>T3 b=(o,2)∨T3 b=(o,3)) w8 w'→∀j,j<m→w'.cell? ⟨gv,ov+j,none⟩=some (.int .i64 (nth V j))):=hid (fun w' hk j hj=>by
    have k1:Kp (fun b=>Mut o (T b)) w w8:=HKw.out.trans0 (by rw[HW8.out];exact HK6.out);have k2:Kp (fun b=>Mut o (T b)) w w':=k1.trans hk (fun i hi h=>by
     rw[HT3W.out i hi]at h;rcases h with h|h<;>rw[h]<;>simp[Mut])
    exact k2.cell (HVC.out j hj) HTG.out)
   go_loopw [15] (fun t w'=>∃j:Nat,j≤m∧t=.int .i64 j∧YAt T3 o w' p L2 ((σ.more (Buf.mk kind at' m)).puts kind at' f j)∧YArr T3 o w' w2.heap.size (.slice ao s.length c) (.slice ac k cc) ⟨kind,s,rng at' m,false,nb⟩∧
     Kp (fun b=>T3 b=(o,2)∨T3 b=(o,3)) w8 w') (fun t _=>m-(intOf t).toNat)
   case atStart=>exact⟨0,Nat.zero_le _,rfl,HY3.out,HA3.out,by rw[HW8.out];exact Kp.refl _ _⟩
   case round=>
    obtain⟨j,hj,rfl,hy9,ha9,hk9⟩:=hrel;have HY9:=hid hy9;have HA9:=hid ha9;have HK9:=hid hk9;clear hy9 ha9 hk9;by_cases hjm:j<m
    ·have hvc:=HY9.out.vcell kind HK.out
     rw[puts_cap]at hvc;have hcp:at'+m≤σ.cap kind∧σ.cap kind≤10000:=HCAP.out;have hcell:=HY9.out.vthere kind HK.out (at'+j).toNat (by
      rw[puts_vals];show _<(σ.vals kind).length;rw[HO.out.vals kind];omega)
     have hfz:wr.frozen? ⟨L2.gk kind,(at'+j).toNat,none⟩=false:=frozen_blk (HY9.out.vblk kind HK.out);have hkk:1≤kind∧kind≤2:=by have:=HK.out;omega
     have HP:=hid (HY9.out.put kind HK.out (at'+j).toNat (f j));have hvj:=HKV.out wr HK9.out j hjm;have HFj:=hid (HFJ.out j);have j0:(0:Int)≤(j:Int):=by omega
     change wr.cell? _=some (.slice (some ⟨L2.gk kind,0,none⟩) (σ.cap kind) (σ.cap kind))at hvc;generalize σ.cap kind=n at*;generalize nth V j=xv at*
     go_wp2_with fail
     refine(as_calls kind xv wr).mono ?_;rintro e w' ⟨rfl,hw⟩;obtain rfl:=hw.symm;rw[HFj.out];go_wp2
     go_roundw
     case rel=>exact⟨j+1,by omega,by go_num,HP.out.1,HA9.out.kp HP.out.2 (fun b hb h=>by rw[hb]at h;simp at h),HK9.out.trans HP.out.2 (fun _ _ h=>h)⟩
     case measure=>simp[intOf];omega
    ·have HJM:Hid (j=m):=hid (by omega)
     have HL40:Hid (((σ.more (Buf.mk kind at' m)).puts kind at' f j).live<40):=hid (by
      unfold Sp.live;rw[(puts_arrs _ kind at' _ j).1];exact HLV.out)
     have HOJ:=hid (puts_ok HOM.out kind at' f j);have HLEN:Hid (((σ.more (Buf.mk kind at' m)).puts kind at' f j).arrs.length=σ.arrs.length):=hid (by rw[(puts_arrs _ kind at' _ j).1];rfl)
     go_wp2_with fail
     refine(ylay_calls HY9.out HOJ.out _ _ _ _ HA9.out HL40.out).mono ?_;rintro e w10 ⟨rfl,hex⟩;have HEX:=hid hex;clear hex;go_wp2
     go_ret2
     refine⟨by rw[HLEN.out];rfl,?_⟩;obtain⟨T',L',ht,hy10,hk10⟩:=HEX.out;have t3:∀b,b<w.heap.size→T3 b=T b:=by
      intro b hb;have s1:=HK1.out.size;have s2:=HKw.out.size;rw[←HT3.out,retag_to W2 _ _ b (by omega),retag_to w1 _ _ b (by omega)]
     have s3:w.heap.size≤wr.heap.size:=by
      have:=HK9.out.size;have:=HK6.out.size;have:=HKw.out.size;rw[HW8.out]at*;omega
     refine⟨T',L',fun b hb=>by rw[ht b (by omega),t3 b hb],?_,?_⟩
     ·unfold Sp.made
      rw[HNB.out,HM.out,←HJM.out];rw[←HJM.out]at hy10;exact hy10
     ·have k1:Kp (fun b=>Mut o (T b)) w w8:=HKw.out.trans0 (by rw[HW8.out];exact HK6.out)
      have k2:Kp (fun b=>Mut o (T b)) w wr:=k1.trans HK9.out (fun i hi h=>by
       rw[t3 i hi]at h;rcases h with h|h<;>rw[h]<;>simp[Mut])
      exact k2.trans hk10 (fun i hi h=>by
       rw[t3 i hi]at h;rcases h with h|h<;>rw[h]<;>simp[Mut])
theorem wrap_as(k v:Int)(hk:k=1∨k=2):asK k (IntKind.i64.wrap v)=wrapK k v:=by
 unfold asK wrapK;rcases hk with rfl|rfl
 ·rw[if_pos rfl,if_pos rfl]
  simp[IntKind.wrap,IntKind.signed,IntKind.bits];omega
 ·rfl
theorem wrap64_as(k v:Int)(hk:k=1∨k=2):asK k (wrap64 v)=wrapK k v:=by
 have:wrap64 v=IntKind.i64.wrap v:=by unfold wrap64;exact(IntKind.wrap_i64 v).symm
 rw[this];exact wrap_as k v hk
theorem yop_calls(op k a b:Int)(w:World)(hk:k=1∨k=2)(h1:1≤op)(h5:op≤5):Calls Tryz.prog 125 #[.int .i64 op,.int .i64 k,.int .i64 a,.int .i64 b] w fun e w'=>e=.returned (.int .i64 (opK op k a b))∧w'=w:=by
 have HK:=hid hk;rcases(by omega:op=1∨op=2∨op=3∨op=4∨op=5)with rfl|rfl|rfl|rfl|rfl
 ·clear h1 h5 hk
  go_enter Tryz.func125,Tryz.ntmps125
  go_wp2_with fail
  refine(as_calls _ _ _).mono ?_;rintro e w' ⟨rfl,rfl⟩;go_wp2
  go_ret;refine⟨?_,rfl⟩;simp[opK,wrap64_as _ _ HK.out]
 ·clear h1 h5 hk
  go_enter Tryz.func125,Tryz.ntmps125
  go_wp2_with fail
  refine(as_calls _ _ _).mono ?_;rintro e w' ⟨rfl,rfl⟩;go_wp2
  go_ret;refine⟨?_,rfl⟩;simp[opK,wrap64_as _ _ HK.out]
 ·clear h1 h5 hk
  go_enter Tryz.func125,Tryz.ntmps125
  go_wp2_with fail
  refine(as_calls _ _ _).mono ?_;rintro e w' ⟨rfl,rfl⟩;go_wp2
  go_ret;refine⟨?_,rfl⟩;simp[opK,wrap64_as _ _ HK.out]
 ·clear h1 h5 hk
  by_cases hab:b<a
  ·go_enter Tryz.func125,Tryz.ntmps125
   go_wp2
   go_ret;exact⟨by simp[opK];omega,rfl⟩
  ·go_enter Tryz.func125,Tryz.ntmps125
   go_wp2
   go_ret;exact⟨by simp[opK];omega,rfl⟩
 ·clear h1 h5 hk
  by_cases hab:a<b
  ·go_enter Tryz.func125,Tryz.ntmps125
   go_wp2
   go_ret;exact⟨by simp[opK];omega,rfl⟩
  ·go_enter Tryz.func125,Tryz.ntmps125
   go_wp2
   go_ret;exact⟨by simp[opK];omega,rfl⟩
theorem seenY_length(σ:Sp)(a:Arr)(s:List Int):(σ.seen a s).length=(vol s).toNat:=by simp[Sp.seen,picked,meant_length]
theorem yseen_calls{T:Tags}{o:Nat}{w:World}{p:Nat}{L:YL}{σ:Sp}(hy:YAt T o w p L σ)(hok:σ.ok)(q:Nat)(vs vc:Value)(a:Arr)(hya:YArr T o w q vs vc a)(hao:a.ok σ)(vt:Value)(s:List Int)(hs:okShape s)(hr:RdI w vt s):Calls Tryz.prog 123 #[.pointer (some ⟨p,0,none⟩),.pointer (some ⟨q,0,none⟩),vt] w fun e w'=>Kp0 w w'∧((stretchB a.shape s=false∧e=.returned (.tuple #[.slice none 0 0,.bool false]))∨(stretchB a.shape s=true∧∃ao c,e=.returned (.tuple #[.slice ao (vol s).toNat c,.bool true])∧OwI w' (.slice ao (vol s).toNat c) (σ.seen a s)∧∀b,(Value.slice ao (vol s).toNat c).ownBlock=some b→w.heap.size≤b)):=by
 obtain⟨-,z1,-,-,-⟩:=hya.parts;have HM:=hid (meant_calls _ vt a.shape s w hya.shape.rd hr hao.shape hs);have HY:=hid hy;have HO:=hid hok;have HYA:=hid hya;have HAO:=hid hao;have HSL:Hid ((σ.seen a s).length=(vol s).toNat):=hid (seenY_length σ a s);have hv:=vol_bd s hs.2.1 hs.1 s.length (Nat.le_refl _);rw[List.take_length]at hv;have hv2:=hs.2.2;have HBD:Hid (stretchB a.shape s=true→∀j,j<(vol s).toNat→0≤nth (meant a.shape s) j∧nth (meant a.shape s) j<a.cells.length):=hid (fun hst j hj=>by
  have:=meant_bd a.shape s hao.shape hs hst j hj;rw[hao.length];exact this)
 have HTK:Hid (∀j,j<(vol s).toNat→(σ.seen a s).take (j+1)=(σ.seen a s).take j++[nth (σ.valuesOf a) (nth (meant a.shape s) j).toNat]):=hid (fun j hj=>by
  rw[take_snoc _ j (by rw[seenY_length];exact hj)];unfold Sp.seen;rw[picked_nth _ _ _ (by rw[meant_length];exact hj)])
 clear hy hok hya hao hr hs;go_enter Tryz.func123,Tryz.ntmps123
 go_wp2_with fail
 refine HM.out.mono ?_;rintro e w1 ⟨hk1,h1⟩;rcases h1 with⟨h1,rfl⟩|⟨h1,ao,cc,rfl,ho1⟩
 ·have HK1:=hid hk1
  have HF:=hid h1;clear hk1 h1;go_wp2
  go_ret2
  exact⟨HK1.out,.inl ⟨HF.out,rfl⟩⟩
 ·have HK1:=hid hk1
  have HF:=hid h1;have HO1:=hid ho1;have HB:=hid (HBD.out h1);clear hk1 h1 ho1 HBD HM z1;obtain⟨N,hN⟩:∃N,(vol s).toNat=N:=⟨_,rfl⟩;have HML:Hid ((meant a.shape s).length=N):=hid (by rw[meant_length,hN]);rw[hN]at HO1 HB HTK HSL⊢;have hN1:1≤N∧N≤3600:=by omega
  have HVN:=hid hN;clear hN hv hv2;obtain⟨gm,hgm,hcm⟩:∃gm,ao=some ⟨gm,0,none⟩∧∀j,j<N→w1.cell? ⟨gm,j,none⟩=some (.int .i64 (nth (meant a.shape s) j)):=by
   obtain⟨g,cap,hv,_,_,hc⟩:=HO1.out.slice (by rw[HML.out];omega);simp at hv;exact⟨g,hv.1,fun j hj=>hc j (by rw[HML.out];exact hj)⟩
  subst hgm;have HCM:=hid hcm;have hnv:(σ.valuesOf a).length=a.cells.length:=by simp[Sp.valuesOf]
  have HNV:=hid hnv;have hcl:1≤a.cells.length∧a.cells.length≤3600:=by
   have h1:=HAO.out.length;have h2:=HAO.out.shape;have h3:=vol_bd a.shape h2.2.1 h2.1 a.shape.length (Nat.le_refl _);rw[List.take_length]at h3;have h4:=h2.2.2;omega
  clear hcm hnv
  go_wp2_with fail
  refine(yvalues_calls (HY.out.kp0 HK1.out) HO.out q vs vc a (HYA.out.kp HK1.out (fun _ _ e=>e)) HAO.out).mono ?_;rintro e w2 ⟨av,cv,rfl,ho2,hk2,hb2⟩;rw[HNV.out]at ho2⊢;obtain⟨vals,hvals⟩:∃vals,σ.valuesOf a=vals:=⟨_,rfl⟩;rw[hvals]at ho2 HTK HNV;generalize a.cells.length=M at*;obtain⟨gv,hgv,hcv⟩:∃gv,av=some ⟨gv,0,none⟩∧∀j,j<M→w2.cell? ⟨gv,j,none⟩=some (.int .i64 (nth vals j)):=by
   obtain⟨g,cap,hv,_,_,hc⟩:=ho2.slice (by rw[HNV.out];omega);simp at hv;exact⟨g,hv.1,fun j hj=>hc j (by rw[HNV.out];exact hj)⟩
  subst hgv;have HCV:=hid hcv;have HK2:Hid (Kp0 w w2):=hid (HK1.out.trans hk2);have HCM2:Hid (∀j,j<N→w2.cell? ⟨gm,j,none⟩=some (.int .i64 (nth (meant a.shape s) j))):=hid (fun j hj=>hk2.cell (HCM.out j hj));clear ho2 hk2 hb2 hcv HCM HK1 HY HYA HAO HO1 HML hvals;obtain⟨sn,hsn⟩:∃sn,σ.seen a s=sn:=⟨_,rfl⟩;rw[hsn]at HTK HSL;have HSN:=hid hsn;obtain⟨mt,hmt⟩:∃mt,meant a.shape s=mt:=⟨_,rfl⟩;rw[hmt]at HTK HB HCM2;clear hsn hmt;go_wp2
  go_loopw [11,12] (fun l t w'=>∃k:Nat,k≤N∧t=.int .i64 k∧∃ao c,l=.slice ao k c∧OwI w' (.slice ao k c) (sn.take k)∧Kp0 w2 w'∧(∀b,(Value.slice ao k c).ownBlock=some b→w2.heap.size≤b)) (fun _ t _=>N-(intOf t).toNat)
  case atStart=>exact⟨0,Nat.zero_le _,rfl,none,0,rfl,OwI.nil _,Kp0.refl _,fun b hb=>by simp[Value.ownBlock]at hb⟩
  case round=>
   obtain⟨k,hk,rfl,ao,c,rfl,hO,hK,hBb⟩:=hrel;have HOw:=hid hO;have HK:=hid hK;have HBb:=hid hBb;clear hO hK hBb;by_cases hlt:k<N
   ·obtain⟨c0,c1⟩:=HB.out k hlt
    have y1:=HK.out.cell (HCM2.out k hlt);have y2:=HK.out.cell (HCV.out (nth mt k).toNat (by omega));have HTE:=hid (HTK.out k hlt);have e1:(0:Int)≤(k:Int):=by omega
    have e2:(k:Int)<(N:Int):=by omega
    generalize nth mt k=r at*;generalize nth vals r.toNat=x at*;have HBN:Hid (k+[x].length≤1000000000000):=hid (by simp;omega)
    go_wp2_with (at_builtin;refine wpList_app (by rfl) _ _ (by rfl) ao k c (sn.take k) [x] _ (by rfl) (by rfl) (HOw.out.alloc _) (RdI.one _ _) HBN.out (wr.heap.size+1) (by simp) ?_)
    intro ao' c' w7 hC7 hG7 hB7;have HC7:Hid (OwI w7 (.slice ao' (k+1) c') (sn.take (k+1))):=hid (by rw[HTE.out];exact hC7);have HK7:Hid (Kp0 w2 w7):=hid (Kp.grown (Kp.alloc HK.out _) hG7 (fun b hb h=>by have:=HBb.out b hb;omega));have HB7:Hid (∀b,(Value.slice ao' (k+1) c').ownBlock=some b→w2.heap.size≤b):=hid (fun b hb=>by
     rcases hB7 b hb with h|h
     ·exact HBb.out b h
     ·have:=HK.out.size;omega)
    clear hC7 hG7 hB7 y1 y2;go_wp2
    go_roundw
    case rel=>exact⟨k+1,by omega,by go_num,ao',c',rfl,HC7.out,HK7.out,HB7.out⟩
    case measure=>simp[intOf];omega
   ·obtain rfl:k=N:=by omega
    have e2:¬(k:Int)<(k:Int):=by omega
    have HOF:Hid (OwI wr (.slice ao k c) sn):=hid (by have:=HOw.out;rw[List.take_of_length_le (by rw[HSL.out];exact Nat.le_refl _)]at this;exact this);have HKF:=hid (HK2.out.trans HK.out);have HBF:Hid (∀b,(Value.slice ao k c).ownBlock=some b→w.heap.size≤b):=hid (fun b hb=>by have:=HBb.out b hb;have:=HK2.out.size;omega);clear hlt hk;go_wp2
    go_ret2
    rw[HVN.out,HSN.out];exact⟨HKF.out,.inr ⟨HF.out,ao,c,rfl,HOF.out,HBF.out⟩⟩
theorem yput_calls{T:Tags}{o:Nat}{w:World}{p:Nat}{L:YL}{σ:Sp}(hy:YAt T o w p L σ)(hok:σ.ok)(q:Nat)(vs vc:Value)(a:Arr)(hya:YArr T o w q vs vc a)(hao:a.ok σ)(gl cl:Nat)(l:List Int)(n:Nat)(hn:a.cells.length=n)(hl:∀j,j<n→w.cell? ⟨gl,j,none⟩=some (.int .i64 (nth l j)))(htl:¬(T gl=(o,2)∨T gl=(o,3))):Calls Tryz.prog 124 #[.pointer (some ⟨p,0,none⟩),.pointer (some ⟨q,0,none⟩),.slice (some ⟨gl,0,none⟩) n cl] w fun e w'=>e=.returned (.tuple #[])∧YAt T o w' p L (σ.writes a.kind a.cells (fun i=>asK a.kind (nth l i)) n)∧Kp (fun b=>T b=(o,2)∨T b=(o,3)) w w':=by
 have HO:=hid hok;obtain⟨z0,z1,z2,z3,-⟩:=hya.parts;have hsh:=hao.shape;have hlen:=hao.length;have hv:=vol_bd a.shape hsh.2.1 hsh.1 a.shape.length (Nat.le_refl _);rw[List.take_length]at hv;obtain⟨gc,cap,rfl,hcap,hgc,hcc⟩:=hya.cells.slice (by omega);have HY:=hid hy;have hkd:=hao.kind;have hcpm:=hok.cap a.kind;have hnl:a.cells.length≤3600:=by have:=hsh.2.2;omega
 have HAO:=hid hao;have HYA:=hid hya;have HKD:=hid hkd;have HCC:=hid hcc;have HLL:=hid hl;have HTL:=hid htl;have htg:T (L.gk a.kind)=(o,2)∨T (L.gk a.kind)=(o,3):=by
  rcases hkd with e|e<;>rw[e]
  ·exact .inl hy.t1
  ·exact .inr hy.t2
 have n1:¬L.gk a.kind=q:=fun e=>by rw[e,hya.tag]at htg;simp at htg
 have n2:¬L.gk a.kind=p:=fun e=>by rw[e,hy.tp]at htg;simp at htg
 have n3:¬L.gk a.kind=gc:=fun e=>by rw[e,hya.tagc gc rfl]at htg;simp at htg
 have n4:¬L.gk a.kind=gl:=fun e=>by rw[e]at htg;exact htl htg
 have k0:0≤a.kind:=by omega
 have k3:a.kind<3:=by omega
 have htq:=hya.tag;have htc:=hya.tagc gc rfl;have HTQ:=hid htq;have HTC:=hid htc;rw[hn]at z2 hcap hnl HCC;have HNN:=hid hn;clear hy hok hao hsh hlen hv hcc hya hkd htg htq htc hl htl hn z1 z3;go_enter Tryz.func124,Tryz.ntmps124
 go_wp2
 go_loopw [6] (fun t w'=>∃k:Nat,k≤n∧t=.int .i64 k∧YAt T o w' p L (σ.writes a.kind a.cells (fun i=>asK a.kind (nth l i)) k)∧Kp (fun b=>T b=(o,2)∨T b=(o,3)) w w') (fun t _=>n-(intOf t).toNat)
 case atStart=>exact⟨0,Nat.zero_le _,rfl,HY.out,Kp.refl _ _⟩
 case round=>
  obtain⟨k,hk,rfl,hyk,hkk⟩:=hrel;have t2:∀(b t:Nat),t≠2→t≠3→T b=(o,t)→¬(T b=(o,2)∨T b=(o,3)):=by
   intro b t h1 h4 ht h;rw[ht]at h;simp at h;omega
  have y2:=hkk.cell z2 (t2 q 6 (by omega) (by omega) HTQ.out);have HYK:=hid hyk;have HKK:=hid hkk;by_cases hlt:k<n
  ·have y0:=hkk.cell z0 (t2 q 6 (by omega) (by omega) HTQ.out)
   have yc:=hkk.cell (HCC.out k hlt) (t2 gc 6 (by omega) (by omega) HTC.out);have yl:=hkk.cell (HLL.out k hlt) HTL.out;have hvc:=hyk.vcell a.kind HKD.out;rw[(writes_same σ a.kind a.cells _ k).2.2]at hvc;obtain⟨c0,c1⟩:=HAO.out.inside k (by rw[HNN.out];exact hlt);have hvt:=hyk.vat (writes_ok HO.out _ _ _ _) a.kind HKD.out (nth a.cells k).toNat (by rw[(writes_same σ a.kind a.cells _ k).2.2];omega);have hfz:wr.frozen? ⟨L.gk a.kind,(nth a.cells k).toNat,none⟩=false:=frozen_blk (hyk.vblk a.kind HKD.out);have e1:(0:Int)≤(k:Int):=by omega
   have e2:(k:Int)<(n:Int):=by omega
   generalize nth (Sp.vals _ a.kind) (nth a.cells k).toNat=x at hvt;have HP:=hid (hyk.put a.kind HKD.out (nth a.cells k).toNat (asK a.kind (nth l k)));generalize hcc:nth a.cells k=c at*;have HCE:=hid hcc;generalize hvv:nth l k=v at*;have HVE:=hid hvv;clear t2 hyk hkk hcc hvv;go_wp2
   go_region_held3 (fun w'=>w'.cell? ⟨q,0,none⟩=some (.int .i64 a.kind)∧w'.cell? ⟨p,3+a.kind.toNat,none⟩=some (.slice (some ⟨L.gk a.kind,0,none⟩) (σ.cap a.kind) (σ.cap a.kind))∧w'.cell? ⟨q,2,none⟩=some (.slice (some ⟨gc,0,none⟩) n cap)∧w'.cell? ⟨gc,k,none⟩=some (.int .i64 c)∧w'.cell? ⟨gl,k,none⟩=some (.int .i64 v)) (go_keep)
    (first|(go_at_call 126;refine(as_calls _ _ _).mono ?_;rintro e w' ⟨rfl,rfl⟩))
   go_wp2
   go_roundw
   case rel=>
    refine⟨k+1,by omega,by go_num,?_,HKK.out.trans HP.out.2.drew (fun _ _ e=>e)⟩;have:=HP.out.1.kp0 (Kp.drew (Kp.refl _ _));show YAt T o _ p L ((σ.writes a.kind a.cells (fun i=>asK a.kind (nth l i)) k).put a.kind (nth a.cells k).toNat (asK a.kind (nth l k)));rw[HCE.out,HVE.out];exact this
   case measure=>simp[intOf];omega
  ·obtain rfl:k=n:=by omega
   clear t2 hyk hkk;go_wp2
   go_end0
   exact⟨rfl,HYK.out,HKK.out⟩
theorem YStep.of{T:Tags}{o:Nat}{w w1 w':World}{p:Nat}{L:YL}{σ':Sp}(hok:σ'.ok)(k1:Kp0 w w1)(hy:YAt (retag w T (o,6)) o w' p L σ')(k:Kp (fun b=>retag w T (o,6) b=(o,2)∨retag w T (o,6) b=(o,3)) w1 w'):YStep T o w p σ' w':=
 ⟨retag w T (o,6),retag_to w T _,⟨hok,L,hy⟩,Kp.trans (Kp.of0 k1) k (fun i hi e=>by
  rw[retag_to w T _ i hi]at e;rcases e with e|e<;>rw[e]<;>simp[Mut])⟩
theorem yassign_calls{T:Tags}{o:Nat}{w:World}{p:Nat}{σ:Sp}(hy:YRep T o w p σ)(to fr:Int):Calls Tryz.prog 81 #[.pointer (some ⟨p,0,none⟩),.int .i64 to,.int .i64 fr] w fun e w'=>e=.returned (.int .i64 (σ.assign to fr).2)∧YStep T o w p (σ.assign to fr).1 w':=by
 have HYR:=hid hy;obtain⟨hok,L,hy⟩:=hy;have HO:=hid hok;have HY:=hid hy;rcases hy.find to with⟨hf,hl⟩|⟨a,q,vs,vc,hf,hl,hya,hat,-⟩
 ·have HF:Hid (σ.assign to fr=(σ,2)):=hid (by unfold Sp.assign;rw[hf])
  have HL:=hid hl;rcases hy.find fr with⟨-,hl2⟩|⟨b,r,us,uc,-,hl2,-,-,-⟩
  ·have HL2:=hid hl2
   clear hy hok hf hl hl2;go_enter Tryz.func81,Tryz.ntmps81
   go_wp2_with fail
   refine(yfind_calls HY.out HO.out to).mono ?_;rintro e w' ⟨rfl,hw⟩;obtain rfl:=hw.symm;rw[HL.out];simp only[ptr]
   go_wp2_with fail
   refine(yfind_calls HY.out HO.out fr).mono ?_;rintro e w' ⟨rfl,hw⟩;obtain rfl:=hw.symm;rw[HL2.out];simp only[ptr];go_wp2
   go_ret;rw[HF.out];exact⟨rfl,YStep.same HYR.out (Kp0.refl _)⟩
  ·have HL2:=hid hl2
   clear hy hok hf hl hl2;go_enter Tryz.func81,Tryz.ntmps81
   go_wp2_with fail
   refine(yfind_calls HY.out HO.out to).mono ?_;rintro e w' ⟨rfl,hw⟩;obtain rfl:=hw.symm;rw[HL.out];simp only[ptr]
   go_wp2_with fail
   refine(yfind_calls HY.out HO.out fr).mono ?_;rintro e w' ⟨rfl,hw⟩;obtain rfl:=hw.symm;rw[HL2.out];simp only[ptr];go_wp2
   go_ret;rw[HF.out];exact⟨rfl,YStep.same HYR.out (Kp0.refl _)⟩
 ·have HL:=hid hl
  rcases hy.find fr with⟨hf2,hl2⟩|⟨b,r,us,uc,hf2,hl2,hyb,hat2,-⟩
  ·have HF:Hid (σ.assign to fr=(σ,2)):=hid (by unfold Sp.assign;rw[hf,hf2])
   have HL2:=hid hl2;clear hy hok hf hl hl2 hf2 hya hat;go_enter Tryz.func81,Tryz.ntmps81
   go_wp2_with fail
   refine(yfind_calls HY.out HO.out to).mono ?_;rintro e w' ⟨rfl,hw⟩;obtain rfl:=hw.symm;rw[HL.out];simp only[ptr]
   go_wp2_with fail
   refine(yfind_calls HY.out HO.out fr).mono ?_;rintro e w' ⟨rfl,hw⟩;obtain rfl:=hw.symm;rw[HL2.out];simp only[ptr];go_wp2
   go_ret;rw[HF.out];exact⟨rfl,YStep.same HYR.out (Kp0.refl _)⟩
  ·have HL2:=hid hl2
   have hao:=find_ok hok hat;have hbo:=find_ok hok hat2;obtain⟨-,z1,-,z3,-⟩:=hya.parts;have HYA:=hid hya;have HYB:=hid hyb;have HAO:=hid hao;have HBO:=hid hbo;cases hro:a.ro with
   |true=>
    have HF:Hid (σ.assign to fr=(σ,6)):=hid (by unfold Sp.assign;rw[hf,hf2];simp[hro]);rw[hro]at z3;clear hy hok hf hl hl2 hf2 hya hyb hat hat2 hao hbo hro z1;go_enter Tryz.func81,Tryz.ntmps81
    go_wp2_with fail
    refine(yfind_calls HY.out HO.out to).mono ?_;rintro e w' ⟨rfl,hw⟩;obtain rfl:=hw.symm;rw[HL.out];simp only[ptr]
    go_wp2_with fail
    refine(yfind_calls HY.out HO.out fr).mono ?_;rintro e w' ⟨rfl,hw⟩;obtain rfl:=hw.symm;rw[HL2.out];simp only[ptr];go_wp2
    go_ret;rw[HF.out];exact⟨rfl,YStep.same HYR.out (Kp0.refl _)⟩
   |false=>
    rw[hro]at z3;have HS:=hid (yseen_calls HY.out HO.out r us uc b HYB.out HBO.out vs a.shape hao.shape hya.shape.rd);have HFN:Hid (stretchB b.shape a.shape=false→σ.assign to fr=(σ,4)):=hid (fun h=>by unfold Sp.assign;rw[hf,hf2];simp[hro,h]);have HFY:Hid (stretchB b.shape a.shape=true→σ.assign to fr=(σ.writes a.kind a.cells (fun i=>asK a.kind (nth (σ.seen b a.shape) i)) a.cells.length,0)):=hid (fun h=>by unfold Sp.assign;rw[hf,hf2];simp[hro,h]);have HVN:Hid ((vol a.shape).toNat=a.cells.length∧1≤a.cells.length):=hid (by
     have h1:=hao.length;have h2:=vol_bd a.shape hao.shape.2.1 hao.shape.1 a.shape.length (Nat.le_refl _);rw[List.take_length]at h2;omega)
    rw[HVN.out.1]at HS;clear hy hok hf hl hl2 hf2 hya hyb hat hat2 hao hbo hro;go_enter Tryz.func81,Tryz.ntmps81
    go_wp2_with fail
    refine(yfind_calls HY.out HO.out to).mono ?_;rintro e w' ⟨rfl,hw⟩;obtain rfl:=hw.symm;rw[HL.out];simp only[ptr]
    go_wp2_with fail
    refine(yfind_calls HY.out HO.out fr).mono ?_;rintro e w' ⟨rfl,hw⟩;obtain rfl:=hw.symm;rw[HL2.out];simp only[ptr]
    go_wp2_with fail
    refine HS.out.mono ?_;rintro e w1 ⟨hk1,h1⟩;rcases h1 with⟨h1,rfl⟩|⟨h1,ao,c,rfl,ho1,hb1⟩
    ·have HK1:=hid hk1
     have HF:=hid (HFN.out h1);clear hk1 h1;go_wp2
     go_ret;rw[HF.out];exact⟨rfl,YStep.same HYR.out HK1.out⟩
    ·have HK1:=hid hk1
     have HF:=hid (HFY.out h1);obtain⟨gl,cap,hv,_,_,hc⟩:=ho1.slice (by rw[seenY_length,HVN.out.1];exact HVN.out.2);simp at hv;obtain⟨rfl,-,-⟩:=hv;have hgl:=hb1 gl rfl;rw[seenY_length,HVN.out.1]at hc;have HP:=hid (yput_calls (T:=retag w T (o,6)) ((HY.out.tags (retag_to w T _)).kp0 hk1) HO.out q vs vc a ((HYA.out.tags' (retag_to w T _)).kp hk1 (fun _ _ e=>e)) HAO.out gl c (σ.seen b a.shape) a.cells.length rfl hc (by rw[retag_new hgl];simp));clear hk1 h1 ho1 hb1 hc hgl
     go_wp2_with fail
     refine HP.out.mono ?_;rintro e w2 ⟨rfl,hy2,hk2⟩;have HY2:=hid hy2;have HK2:=hid hk2;clear hy2 hk2;go_wp2
     go_ret;rw[HF.out];exact⟨rfl,YStep.of (writes_ok HO.out _ _ _ _) HK1.out HY2.out HK2.out⟩
end Go.Proofs.YticbbncdcannlaaGreat
