import Derived.Test.YticbbncdcannlaaGreatG04
import Derived.Test.YticbbncdcannlaaGreatG10
import Derived.Test.YticbbncdcannlaaGreatRows
import Derived.Deep.QuietTactic
import Derived.BigQuiet
set_option maxRecDepth 100000
set_option maxHeartbeats 8000000
namespace Go.Proofs.YticbbncdcannlaaGreat
open Go.RowKit
def vcs(k:IntKind)(c:List Int):List Value:=c.map (Value.int k)
theorem vcs_length(k:IntKind)(c:List Int):(vcs k c).length=c.length:=by simp[vcs]
theorem vcs_get(k:IntKind){c:List Int}{j:Nat}(h:j<c.length):(vcs k c)[j]? =some (.int k (nth c j)):=by simp[vcs,nth_lt h,h]
theorem vcs_set(k:IntKind)(c:List Int)(j:Nat)(v:Int):(vcs k c).toArray.setIfInBounds j (.int k v)=(vcs k (c.set j v)).toArray:=by simp[vcs,List.map_set]
def wrTo(c ps:List Int)(f:Nat→Int):Nat→List Int
 |0=>c
 |k+1=>(wrTo c ps f k).set (nth ps k).toNat (f k)
theorem wrTo_length(c ps:List Int)(f:Nat→Int)(k:Nat):(wrTo c ps f k).length=c.length:=by
 induction k with
 |zero=>rfl
 |succ k ih=>rw[wrTo,List.length_set,ih]
theorem vc_cell{w:World}{g:Nat}{k:IntKind}{c:List Int}{t:TypeId}{fr:Nat×Nat}(h:w.heap[g]? =some (.cells (vcs k c).toArray t fr))(j:Nat)(hj:j<c.length):w.cell? ⟨g,j,none⟩=some (.int k (nth c j)):=by rw[cell_of_row _ _ _ _ _ _ h,List.getElem?_toArray,vcs_get k hj]
theorem vc_set{w:World}{g:Nat}{k:IntKind}{c:List Int}{t:TypeId}(h:w.heap[g]? =some (.cells (vcs k c).toArray t (0,0)))(j:Nat)(v:Int):(w.setCell ⟨g,j,none⟩ (.int k v)).heap[g]? =some (.cells (vcs k (c.set j v)).toArray t (0,0)):=by rw[heap_setCell_same w g j _ _ _ h,vcs_set]
def placesIn(n:Nat)(ps:List Int):Prop:=∀j,j<ps.length→0≤nth ps j∧nth ps j<n
theorem map_nth(ps:List Int)(f:Int→Int)(k:Nat)(h:k<ps.length):nth (ps.map f) k=f (nth ps k):=by rw[nth_lt (by simpa using h),nth_lt h];simp
abbrev cellsBB(c:List Int):Obj:=.cells (vcs .u8 c).toArray 5 (0,0)
theorem xreadB_calls(g n:Nat)(c ps:List Int)(vp:Value)(w:World)(hg:w.heap[g]? =some (cellsBB c))(hn:c.length=n)(hr:RdI w vp ps)(hp:placesIn n ps)(hw:∀j,j<n→IntKind.i64.wrap (nth c j)=nth c j)(hb:ps.length≤1000000):Calls Tryz.prog 204 #[.slice (some ⟨g,0,none⟩) n n,vp] w fun e w'=>∃v,e=.returned v∧NewI w w' v (ps.map fun p=>nth c p.toNat):=by
 obtain⟨a,cap,rfl,hra⟩:=hr;obtain⟨m,hm⟩:∃m,m=ps.length:=⟨_,rfl⟩;have hmb:m≤1000000:=by omega
 obtain⟨xs,hxs⟩:∃xs,xs=ps.map fun p=>nth c p.toNat:=⟨_,rfl⟩
 have HX:=hid hxs;have HXL:Hid (xs.length=m):=hid (by rw[hxs,hm];simp);rw[←hxs,←hm];have HM:=hid hm.symm;have HG:=hid hg;have HRA:=hid hra;have HP:=hid hp;have HW:=hid hw;have HN:=hid hn;have hmk:=fun W=>run_mk (P:=Tryz.prog) 26 3 (.int .i64 0) 8 Tryz.underlying26 Tryz.infoInt rfl (by omega) m (by omega) W
 clear hm hxs hg hra hp hw hb hn;go_enter Tryz.func204,Tryz.ntmps204
 go_wp2
 have HB0:Hid ((w.alloc (.cells (rep m (.int .i64 0)) 3)).heap[w.heap.size]? =some (.cells (ints (fillI xs 0 m)).toArray 3 (0,0))):=hid (by rw[fillI_zero,←rep_ints];exact heap_alloc_new w _);have HK:Hid (Kp0 w (w.alloc (.cells (rep m (.int .i64 0)) 3))):=(Kp.refl _ w).alloc _;obtain⟨b0,hb0⟩:∃b0,b0=w.heap.size:=⟨_,rfl⟩;rw[←hb0]at HB0⊢;have HBB:=hid hb0;clear hb0 hmk;generalize w.alloc (.cells (rep m (.int .i64 0)) 3)=W at HB0 HK⊢
 go_loopw [6,7,13] (fun _ _ t w'=>∃k:Nat,k≤m∧t=.int .i64 k∧Hid (Kp0 w w')∧Hid (w'.heap[b0]? =some (.cells (ints (fillI xs k m)).toArray 3 (0,0)))) (fun _ _ t _=>m-(intOf t).toNat)
 case atStart=>exact⟨0,Nat.zero_le _,rfl,HK,HB0⟩
 case round=>
  clear HB0 HK;obtain⟨k,hk,rfl,HK,HB0⟩:=hrel;by_cases hlt:k<m
  ·obtain⟨g',o',rfl,hc⟩:=HRA.out (fun e=>by have:=HM.out;rw[e]at this;simp at this;omega)
   have q1:=HK.out.cell (hc k (by have:=HM.out;omega));clear hc;obtain⟨p0,p1⟩:=HP.out k (by have:=HM.out;omega);have q2:=vc_cell (HK.out.heap HG.out) (nth ps k).toNat (by have:=HN.out;omega);have q3:=HW.out (nth ps k).toNat (by omega);have HV:Hid (nth xs k=nth c (nth ps k).toNat):=hid (by rw[HX.out,map_nth _ _ _ (by have:=HM.out;omega)]);obtain⟨v1,q4⟩:=fillI_cell _ b0 xs k m HXL.out hlt HB0.out;have f1:=frozen_of_row _ b0 k _ _ HB0.out;have HST:=hid (fillI_step _ b0 xs k m HXL.out hlt HB0.out);rw[HV.out]at HST;generalize nth c (nth ps k).toNat=x at*;generalize nth ps k=p at*;go_wp2
   go_roundw
   case rel=>exact⟨k+1,by omega,by go_num,HK.out.setCell _ _ (fun h=>by have:=HBB.out;change b0<_ at h;omega),HST⟩
   case measure=>simp[intOf];omega
  ·obtain rfl:k=m:=by omega
   go_wp2
   go_ret;exact⟨_,rfl,NewI.made HXL.out (by omega) (by have:=HB0.out;rwa [fillI_end xs k HXL.out]at this) HK.out (by have:=HBB.out;omega)⟩
theorem xfillB_calls(g n:Nat)(c ps:List Int)(vp:Value)(x:Int)(w:World)(hg:w.heap[g]? =some (cellsBB c))(hn:c.length=n)(hr:RdI w vp ps)(hne:ps≠[]→vp.ownBlock≠some g)(hp:placesIn n ps)(hb:ps.length≤1000000):Calls Tryz.prog 201 #[.slice (some ⟨g,0,none⟩) n n,vp,.int .u8 x] w fun e w'=>e=.returned (.tuple #[])∧Kp (fun b=>b=g) w w'∧w'.heap[g]? =some (cellsBB (wrTo c ps (fun _=>x) ps.length)):=by
 obtain⟨a,cap,rfl,hra⟩:=hr;obtain⟨m,hm⟩:∃m,m=ps.length:=⟨_,rfl⟩;have hmb:m≤1000000:=by omega
 rw[←hm];have HM:=hid hm.symm;have HG:=hid hg;have HRA:=hid hra;have HNE:=hid hne;have HP:=hid hp;have HN:=hid hn;clear hm hg hra hp hb hn hne;go_enter Tryz.func201,Tryz.ntmps201
 go_wp2
 go_loopw [7,10] (fun _ t w'=>∃k:Nat,k≤m∧t=.int .i64 k∧Hid (Kp (fun b=>b=g) w w')∧Hid (w'.heap[g]? =some (cellsBB (wrTo c ps (fun _=>x) k)))) (fun _ t _=>m-(intOf t).toNat)
 case atStart=>exact⟨0,Nat.zero_le _,rfl,Kp.refl _ w,HG⟩
 case round=>
  obtain⟨k,hk,rfl,HK,HB0⟩:=hrel;by_cases hlt:k<m
  ·obtain⟨g',o',rfl,hc⟩:=HRA.out (fun e=>by have:=HM.out;rw[e]at this;simp at this;omega)
   have hgg:¬g'=g:=fun e=>HNE.out (fun e=>by have:=HM.out;rw[e]at this;simp at this;omega) (by rw[e];rfl)
   have q1:=HK.out.cell (hc k (by have:=HM.out;omega)) hgg;clear hc;obtain⟨p0,p1⟩:=HP.out k (by have:=HM.out;omega);have q2:=vc_cell HB0.out (nth ps k).toNat (by rw[wrTo_length];have:=HN.out;omega);have f1:=frozen_of_row _ g (nth ps k).toNat _ _ HB0.out;have HST:Hid _:=vc_set HB0.out (nth ps k).toNat x;have HE:Hid (wrTo c ps (fun _=>x) (k+1)=(wrTo c ps (fun _=>x) k).set (nth ps k).toNat x):=rfl;generalize nth (wrTo c ps (fun _=>x) k) (nth ps k).toNat=y at*;generalize nth ps k=p at*;go_wp2
   go_roundw
   case rel=>exact⟨k+1,by omega,by go_num,HK.out.setCell _ _ (fun _=>rfl),hid (by rw[HE.out];exact HST.out)⟩
   case measure=>simp[intOf];omega
  ·obtain rfl:k=m:=by omega
   go_wp2
   go_end0
   exact⟨rfl,HK.out,HB0.out⟩
theorem xwriteB_calls(g n:Nat)(c ps vs:List Int)(vp vv:Value)(w:World)(hg:w.heap[g]? =some (cellsBB c))(hn:c.length=n)(hr:RdI w vp ps)(hne:ps≠[]→vp.ownBlock≠some g)(hr2:RdI w vv vs)(hne2:vs≠[]→vv.ownBlock≠some g)(hvl:vs.length=ps.length)(hwv:∀j,j<vs.length→IntKind.i64.wrap (nth vs j)=nth vs j)(hp:placesIn n ps)(hb:ps.length≤1000000):Calls Tryz.prog 207 #[.slice (some ⟨g,0,none⟩) n n,vp,vv] w fun e w'=>e=.returned (.tuple #[])∧Kp (fun b=>b=g) w w'∧w'.heap[g]? =some (cellsBB (wrTo c ps (fun j=>IntKind.wrap .u8 (nth vs j)) ps.length)):=by
 obtain⟨a,cap,rfl,hra⟩:=hr;obtain⟨a2,cap2,rfl,hra2⟩:=hr2;obtain⟨m,hm⟩:∃m,m=ps.length:=⟨_,rfl⟩;have hmb:m≤1000000:=by omega
 have HVL:Hid (vs.length=m):=hid (by omega);rw[hvl,←hm];have HM:=hid hm.symm;have HG:=hid hg;have HRA:=hid hra;have HNE:=hid hne;have HRA2:=hid hra2;have HNE2:=hid hne2;have HP:=hid hp;have HN:=hid hn;obtain⟨F,hF⟩:∃F:Nat→Int,F=fun j=>IntKind.wrap .u8 (nth vs j):=⟨_,rfl⟩
 rw[←hF];have HWV:=hid hwv;have HF:Hid (∀j,F j=IntKind.wrap .u8 (nth vs j)):=fun j=>by rw[hF]
 clear hm hg hra hp hb hn hne hra2 hne2 hvl hF hwv;go_enter Tryz.func207,Tryz.ntmps207
 go_wp2
 go_loopw [6,7,10] (fun _ _ t w'=>∃k:Nat,k≤m∧t=.int .i64 k∧Hid (Kp (fun b=>b=g) w w')∧Hid (w'.heap[g]? =some (cellsBB (wrTo c ps F k)))) (fun _ _ t _=>m-(intOf t).toNat)
 case atStart=>exact⟨0,Nat.zero_le _,rfl,Kp.refl _ w,HG⟩
 case round=>
  obtain⟨k,hk,rfl,HK,HB0⟩:=hrel;by_cases hlt:k<m
  ·obtain⟨g',o',rfl,hc⟩:=HRA.out (fun e=>by have:=HM.out;rw[e]at this;simp at this;omega)
   have hgg:¬g'=g:=fun e=>HNE.out (fun e=>by have:=HM.out;rw[e]at this;simp at this;omega) (by rw[e];rfl)
   have q1:=HK.out.cell (hc k (by have:=HM.out;omega)) hgg;obtain⟨g2,o2,rfl,hc2⟩:=HRA2.out (fun e=>by have:=HVL.out;rw[e]at this;simp at this;omega);have hgg2:¬g2=g:=fun e=>HNE2.out (fun e=>by have:=HVL.out;rw[e]at this;simp at this;omega) (by rw[e];rfl)
   have q5:=HK.out.cell (hc2 k (by have:=HVL.out;omega)) hgg2;clear hc hc2;obtain⟨p0,p1⟩:=HP.out k (by have:=HM.out;omega);have q2:=vc_cell HB0.out (nth ps k).toNat (by rw[wrTo_length];have:=HN.out;omega);have f1:=frozen_of_row _ g (nth ps k).toNat _ _ HB0.out;have HST:Hid _:=vc_set HB0.out (nth ps k).toNat (F k);have HE:Hid (wrTo c ps F (k+1)=(wrTo c ps F k).set (nth ps k).toNat (F k)):=rfl;have hfk:=(HF.out k).symm;have HFK:=hid hfk;have HVF:=hid (HWV.out k (by have:=HVL.out;omega));generalize nth (wrTo c ps F k) (nth ps k).toNat=y at*;generalize nth ps k=p at*;generalize nth vs k=v at*;generalize F k=fk at*;go_wp2
   go_roundw
   case rel=>exact⟨k+1,by omega,by go_num,HK.out.setCell _ _ (fun _=>rfl),hid (by rw[HE.out];first|exact HST.out|(have e:v=fk:=HVF.out.symm.trans HFK.out;rw[e];exact HST.out))⟩
   case measure=>simp[intOf];omega
  ·obtain rfl:k=m:=by omega
   go_wp2
   go_end0
   exact⟨rfl,HK.out,HB0.out⟩
def bufRow(b:Int×Int):List Value:=[.int .i64 b.1,.int .i64 b.2]
def bth(bs:List (Int×Int))(j:Nat):Int×Int:=bs.getD j (0,0)
theorem bufRow_get(bs:List (Int×Int))(j:Nat)(h:j<bs.length):(bs.flatMap bufRow)[j*2]? =some (.int .i64 (bth bs j).1)∧(bs.flatMap bufRow)[j*2+1]? =some (.int .i64 (bth bs j).2):=by
 induction bs generalizing j with
 |nil=>simp at h
 |cons b bs ih=>
  cases j with
  |zero=>simp[bufRow,bth]
  |succ j=>
   have:=ih j (by simpa using h);rw[Nat.succ_mul];simpa[bufRow,bth]using this
theorem bufRow_length(bs:List (Int×Int)):(bs.flatMap bufRow).length=bs.length*2:=by
 induction bs with
 |nil=>rfl
 |cons b bs ih=>simp[bufRow,ih];omega
def BsAt(w:World)(vb:Value)(bs:List (Int×Int)):Prop:=w.ownsRow 0 252 2 vb bs.length (bs.flatMap bufRow)
theorem BsAt.form{w:World}{vb:Value}{bs:List (Int×Int)}(h:BsAt w vb bs):∃ao cap,vb=.slice ao bs.length cap∧bs.length≤cap∧(0<bs.length→∃gb,ao=some ⟨gb,0,none⟩∧∀j,j<bs.length→w.cell? ⟨gb,j*2,none⟩=some (.int .i64 (bth bs j).1)∧w.cell? ⟨gb,j*2+1,none⟩=some (.int .i64 (bth bs j).2)):=by
 rcases row_form h with⟨rfl,h0⟩|⟨g,cap,rfl,hn,hg,hc⟩
 ·exact⟨none,0,by rw[h0],by omega,fun hp=>by omega⟩
 ·refine⟨_,cap,rfl,hn,fun _=>⟨g,rfl,fun j hj=>?_⟩⟩
  obtain⟨h1,h2⟩:=bufRow_get bs j hj;exact⟨(hc _ (by omega)).trans h1,(hc _ (by omega)).trans h2⟩
theorem BsAt.kp{S:Nat→Prop}{w w':World}{vb:Value}{bs:List (Int×Int)}(h:BsAt w vb bs)(k:Kp S w w')(hs:∀b,vb.ownBlock=some b→¬S b):BsAt w' vb bs:=row_kp h k hs
theorem BsAt.kp0{w w':World}{vb:Value}{bs:List (Int×Int)}(h:BsAt w vb bs)(k:Kp0 w w'):BsAt w' vb bs:=h.kp k (fun _ _ e=>e)
def lowGo(size:Int)(bs:List (Int×Int)):Nat→Nat→Int→Int×Nat
 |0,i,start=>(start,i)
 |f+1,i,start=>if size≤(bth bs i).1 -start then(start,i)else lowGo size bs f (i+1) ((bth bs i).1+(bth bs i).2)
def low(size:Int)(bs:List (Int×Int)):Int×Nat:=lowGo size bs bs.length 0 0
def endTo(bs:List (Int×Int)):Nat→Int
 |0=>0
 |i+1=>(bth bs i).1+(bth bs i).2
def sumTo(bs:List (Int×Int)):Nat→Int
 |0=>0
 |i+1=>sumTo bs i+(bth bs i).2
def bufsIn(n:Int)(bs:List (Int×Int)):Prop:=∀j,j<bs.length→0≤(bth bs j).1∧0≤(bth bs j).2∧(bth bs j).1+(bth bs j).2≤n
theorem endTo_bd{n:Int}{bs:List (Int×Int)}(h:bufsIn n bs)(hn:0≤n)(i:Nat)(hi:i≤bs.length):0≤endTo bs i∧endTo bs i≤n:=by
 cases i with
 |zero=>simp[endTo,hn]
 |succ i=>have:=h i (by omega);simp only[endTo];omega
theorem sumTo_bd{n:Int}{bs:List (Int×Int)}(h:bufsIn n bs)(_hn:0≤n)(i:Nat)(hi:i≤bs.length):0≤sumTo bs i∧sumTo bs i≤n*i:=by
 induction i with
 |zero=>simp[sumTo]
 |succ i ih=>
  have h1:=ih (by omega);have h2:=h i (by omega);simp only[sumTo];have:n*((i+1:Nat):Int)=n*(i:Int)+n:=by rw[Int.natCast_add,Int.mul_add];simp
  omega
def wipe(c:List Int)(s n:Nat):List Int:=c.take s++List.replicate n 0++c.drop (s+n)
theorem wipe_length(c:List Int)(s n:Nat)(h:s+n≤c.length):(wipe c s n).length=c.length:=by simp[wipe];omega
def addB(bs:List (Int×Int))(r:Nat)(x:Int×Int):List (Int×Int):=bs.take r++[x]++bs.drop r
abbrev opB1:Value:=.func (.func 159) #[] #[]
abbrev opB2:Value:=.func (.func 160) #[] #[]
abbrev opB3:Value:=.func (.func 161) #[] #[]
abbrev opB4:Value:=.func (.func 162) #[] #[]
abbrev opB5:Value:=.func (.func 163) #[] #[]
structure StAtB(w:World)(q g:Nat)(vb:Value)(c:List Int)(bs:List (Int×Int)):Prop where
 blk:w.heap[q]? =some (.cells #[.slice (some ⟨g,0,none⟩) c.length c.length,vb,opB1,opB2,opB3,opB4,opB5] 199 (0,0))
 cells:w.heap[g]? =some (cellsBB c)
 bufs:BsAt w vb bs
theorem xend_callsB(s z:Int)(w:World)(h:IntKind.i64.wrap (s+z)=s+z):Calls Tryz.prog 202 #[.agg #[.int .i64 s,.int .i64 z]] w fun e w'=>e=.returned (.int .i64 (s+z))∧Kp0 w w':=by
 go_enter Tryz.func202,Tryz.ntmps202
 go_wp2
 go_ret;exact⟨rfl,(Kp.refl _ w).alloc _⟩
theorem xReadB_calls{w:World}{q g:Nat}{vb:Value}{c:List Int}{bs:List (Int×Int)}(h:StAtB w q g vb c bs)(ps:List Int)(vp:Value)(hr:RdI w vp ps)(hp:placesIn c.length ps)(hw:∀j,j<c.length→IntKind.i64.wrap (nth c j)=nth c j)(hb:ps.length≤1000000):Calls Tryz.prog 195 #[.pointer (some ⟨q,0,none⟩),vp] w fun e w'=>∃v,e=.returned v∧NewI w w' v (ps.map fun p=>nth c p.toNat):=by
 have HC:=hid (xreadB_calls g c.length c ps vp w h.cells rfl hr hp hw hb);obtain⟨q0,q1⟩:=cells7 h.blk;clear h hr hp hw hb;go_enter Tryz.func195,Tryz.ntmps195
 go_wp2_with fail
 refine HC.out.mono ?_;rintro e w2 ⟨v,rfl,hn⟩;have HN:=hid hn;clear hn;go_wp2
 go_ret;exact⟨v,rfl,HN.out⟩
theorem xlowestB_calls{w:World}{q g:Nat}{vb:Value}{c:List Int}{bs:List (Int×Int)}(h:StAtB w q g vb c bs)(size:Int)(hin:bufsIn c.length bs)(hc:c.length≤10000)(hbl:bs.length≤100000000):Calls Tryz.prog 205 #[.pointer (some ⟨q,0,none⟩),.int .i64 size] w fun e w'=>e=.returned (.tuple #[.int .i64 (low size bs).1,.int .i64 ((low size bs).2:Int)])∧Kp0 w w':=by
 obtain⟨n,hn⟩:∃n,n=c.length:=⟨_,rfl⟩;obtain⟨q0,q1⟩:=cells7 h.blk;obtain⟨ao,cap,hvb,hcap,hbf⟩:=h.bufs.form;subst hvb;rw[←hn]at q0 hin hc;obtain⟨m,hm⟩:∃m,m=bs.length:=⟨_,rfl⟩;obtain⟨R,hR⟩:∃R,R=low size bs:=⟨_,rfl⟩;rw[←hR];rw[←hm]at q1 hbf hcap hbl;have HM:=hid hm.symm;have HR:=hid hR;have HBF:=hid hbf;have HIN:=hid hin;clear h hn hm hbf hin hR;go_enter Tryz.func205,Tryz.ntmps205
 go_wp2
 go_loopw [4,6,13] (fun s _ t w'=>∃k:Nat,k≤m∧t=.int .i64 k∧s=.int .i64 (endTo bs k)∧Hid (R=lowGo size bs (m-k) k (endTo bs k))∧Hid (Kp0 w w')) (fun _ _ t _=>m-(intOf t).toNat)
 case atStart=>exact⟨0,Nat.zero_le _,rfl,rfl,hid (by rw[HR.out,low,HM.out];rfl),Kp0.refl w⟩
 case round=>
  obtain⟨k,hk,rfl,rfl,HRK,HK⟩:=hrel;by_cases hlt:k<m
  ·obtain⟨gb,rfl,hc2⟩:=HBF.out (by omega)
   have p1:=HK.out.cell (hc2 k hlt).1;have p2:=HK.out.cell (hc2 k hlt).2;clear hc2;obtain⟨b1,b2,b3⟩:=HIN.out k (by have:=HM.out;omega);obtain⟨e1,e2⟩:=endTo_bd HIN.out (by omega) k (by have:=HM.out;omega);have HE:Hid (endTo bs (k+1)=(bth bs k).1+(bth bs k).2):=rfl;have HL:Hid (lowGo size bs (m-k) k (endTo bs k)=if size≤(bth bs k).1 -endTo bs k then(endTo bs k,k)else lowGo size bs (m-(k+1)) (k+1) ((bth bs k).1+(bth bs k).2)):=hid (by rw[show m-k=(m-(k+1))+1 by omega,lowGo]);generalize (bth bs k).1=s at*;generalize (bth bs k).2=z at*;by_cases hz:size≤s-endTo bs k
   ·have d1:decide (size≤s-endTo bs k)=true:=by simp[hz]
    have HF:Hid (R=(endTo bs k,k)):=hid (by rw[HRK.out,HL.out,if_pos hz]);clear hz;go_wp2
    go_ret2
    rw[HF.out];exact⟨rfl,HK.out.alloc _⟩
   ·have d1:decide (size≤s-endTo bs k)=false:=by simp[hz]
    have HF:Hid (R=lowGo size bs (m-(k+1)) (k+1) (endTo bs (k+1))):=hid (by rw[HRK.out,HL.out,if_neg hz,HE.out]);clear hz;go_wp2
    go_roundw
    case rel=>exact⟨k+1,by omega,by go_num,by rw[HE.out];rfl,HF,(HK.out.alloc _).alloc _⟩
    case measure=>simp[intOf];omega
  ·obtain rfl:k=m:=by omega
   have HF:Hid (R=(endTo bs k,k)):=hid (by rw[HRK.out,Nat.sub_self,lowGo]);have p3:=HK.out.cell q1;have p4:=HK.out.cell q0;go_wp2
   go_quiet (fail)
   go_wp2
   go_ret2
   rw[HF.out];exact⟨rfl,HK.out.drewN _⟩
theorem StAtB.wrote{w w':World}{q g:Nat}{vb:Value}{c c':List Int}{bs:List (Int×Int)}(h:StAtB w q g vb c bs)(k:Kp (fun b=>b=g) w w')(hc:w'.heap[g]? =some (cellsBB c'))(hl:c'.length=c.length)(hqg:q≠g)(hbg:vb.ownBlock≠some g):StAtB w' q g vb c' bs:=
 ⟨by rw[hl];exact k.heap h.blk hqg,hc,h.bufs.kp k (fun b hb e=>hbg (e▸hb))⟩
theorem StAtB.kp{S:Nat→Prop}{w w':World}{q g:Nat}{vb:Value}{c:List Int}{bs:List (Int×Int)}(h:StAtB w q g vb c bs)(k:Kp S w w')(hq:¬S q)(hg:¬S g)(hb:∀b,vb.ownBlock=some b→¬S b):StAtB w' q g vb c bs:=
 ⟨k.heap h.blk hq,k.heap h.cells hg,h.bufs.kp k hb⟩
theorem xFillB_calls{w:World}{q g:Nat}{vb:Value}{c:List Int}{bs:List (Int×Int)}(h:StAtB w q g vb c bs)(x:Int)(ps:List Int)(vp:Value)(hr:RdI w vp ps)(hne:ps≠[]→vp.ownBlock≠some g)(hp:placesIn c.length ps)(hb:ps.length≤1000000)(hx:IntKind.i64.wrap x=x)(y:Int)(hy:IntKind.wrap .u8 x=y):Calls Tryz.prog 193 #[.pointer (some ⟨q,0,none⟩),.int .i64 x,vp] w fun e w'=>e=.returned (.tuple #[])∧Kp (fun b=>b=g) w w'∧w'.heap[g]? =some (cellsBB (wrTo c ps (fun _=>y) ps.length)):=by
 have HC:=hid (xfillB_calls g c.length c ps vp y w h.cells rfl hr hne hp hb);obtain⟨q0,q1⟩:=cells7 h.blk;clear h hr hp hb hne;have _:=hx;go_enter Tryz.func193,Tryz.ntmps193
 go_wp2_with fail
 refine HC.out.mono ?_;rintro e w2 ⟨rfl,hn⟩;have HN:=hid hn;clear hn;go_wp2
 go_end0
 exact⟨rfl,HN.out⟩
theorem xWriteB_calls{w:World}{q g:Nat}{vb:Value}{c:List Int}{bs:List (Int×Int)}(h:StAtB w q g vb c bs)(ps vs:List Int)(vp vv:Value)(hr:RdI w vp ps)(hne:ps≠[]→vp.ownBlock≠some g)(hr2:RdI w vv vs)(hne2:vs≠[]→vv.ownBlock≠some g)(hvl:vs.length=ps.length)(hwv:∀j,j<vs.length→IntKind.i64.wrap (nth vs j)=nth vs j)(hp:placesIn c.length ps)(hb:ps.length≤1000000):Calls Tryz.prog 198 #[.pointer (some ⟨q,0,none⟩),vp,vv] w fun e w'=>e=.returned (.tuple #[])∧Kp (fun b=>b=g) w w'∧w'.heap[g]? =some (cellsBB (wrTo c ps (fun j=>IntKind.wrap .u8 (nth vs j)) ps.length)):=by
 have HC:=hid (xwriteB_calls g c.length c ps vs vp vv w h.cells rfl hr hne hr2 hne2 hvl hwv hp hb);obtain⟨q0,q1⟩:=cells7 h.blk;generalize (fun j=>IntKind.wrap .u8 (nth vs j))=F at*;clear h hr hp hb hne hr2 hne2 hvl hwv;go_enter Tryz.func198,Tryz.ntmps198
 go_wp2_with fail
 refine HC.out.mono ?_;rintro e w2 ⟨rfl,hn⟩;have HN:=hid hn;clear hn;go_wp2
 go_end0
 exact⟨rfl,HN.out⟩
abbrev stBB(a b c:Int):Obj:=.cells #[.int .i64 a,.int .i64 b,.int .i64 c] 61 (0,0)
theorem Tryz.szStoreB:(Tryz.prog.info? 61).map (·.size)=some 3:=by kernel_rfl
theorem xStateB_calls{w:World}{q g:Nat}{vb:Value}{c:List Int}{bs:List (Int×Int)}(h:StAtB w q g vb c bs)(hin:bufsIn c.length bs)(hc:c.length≤10000)(hbl:bs.length≤100000000):Calls Tryz.prog 196 #[.pointer (some ⟨q,0,none⟩)] w fun e w'=>e=.returned (.agg #[.int .i64 (c.length:Int),.int .i64 (sumTo bs bs.length),.int .i64 (endTo bs bs.length)])∧Kp0 w w':=by
 obtain⟨n,hn⟩:∃n,n=c.length:=⟨_,rfl⟩;obtain⟨q0,q1⟩:=cells7 h.blk;obtain⟨ao,cap,hvb,hcap,hbf⟩:=h.bufs.form;subst hvb;rw[←hn]at q0 hin hc⊢;obtain⟨m,hm⟩:∃m,m=bs.length:=⟨_,rfl⟩;rw[←hm]at q1 hbf hcap hbl⊢;have HM:=hid hm.symm;have HBF:=hid hbf;have HIN:=hid hin;clear h hn hm hbf hin;have bq:q<w.heap.size:=block_lt_of_cell q0;have HB0:Hid (((w.alloc (stBB 0 0 0)).alloc (stBB n 0 0)).heap[w.heap.size]? =some (stBB 0 0 0)):=heap_alloc2_old w _ _;have HB1:Hid (((w.alloc (stBB 0 0 0)).alloc (stBB n 0 0)).heap[w.heap.size+1]? =some (stBB n (sumTo bs 0) (endTo bs 0))):=heap_alloc2_new w _ _;have HK:Hid (Kp0 w ((w.alloc (stBB 0 0 0)).alloc (stBB n 0 0))):=((Kp.refl _ w).alloc _).alloc _;go_enter Tryz.func196,Tryz.ntmps196
 go_wp2
 obtain⟨b0,hb0⟩:∃b0,b0=w.heap.size:=⟨_,rfl⟩;rw[←hb0]at HB0 HB1⊢;have HBB:=hid hb0;clear hb0 bq;generalize (w.alloc (stBB 0 0 0)).alloc (stBB n 0 0)=W at HB0 HB1 HK⊢
 go_loopw [5,17] (fun _ t w'=>∃k:Nat,k≤m∧t=.int .i64 k∧Hid (w'.heap[b0]? =some (stBB 0 0 0))∧Hid (w'.heap[b0+1]? =some (stBB n (sumTo bs k) (endTo bs k)))∧Hid (Kp0 w w')) (fun _ t _=>m-(intOf t).toNat)
 case atStart=>exact⟨0,Nat.zero_le _,rfl,HB0,HB1,HK⟩
 case round=>
  clear HB0 HB1 HK;obtain⟨k,hk,rfl,HB0,HB1,HK⟩:=hrel;have y0:=cell_of_row _ (b0+1) 0 _ _ _ HB1.out;have y1:=cell_of_row _ (b0+1) 1 _ _ _ HB1.out;have y2:=cell_of_row _ (b0+1) 2 _ _ _ HB1.out;simp at y0 y1 y2;by_cases hlt:k<m
  ·obtain⟨gb,rfl,hc2⟩:=HBF.out (by omega)
   have p1:=HK.out.cell (hc2 k hlt).1;have p2:=HK.out.cell (hc2 k hlt).2;clear hc2;obtain⟨b1,b2,b3⟩:=HIN.out k (by have:=HM.out;omega);obtain⟨e1,e2⟩:=sumTo_bd HIN.out (by omega) k (by have:=HM.out;omega);have e3:(n:Int)*(k:Int)≤1000000000000:=by
    have:n*k≤10000*100000000:=Nat.mul_le_mul hc (by omega);have h2:((n*k:Nat):Int)≤1000000000000:=by omega
    rwa [Int.natCast_mul]at h2
   have e4:sumTo bs k≤1000000000000:=by omega
   have w1:IntKind.i64.wrap (sumTo bs k+(bth bs k).2)=sumTo bs k+(bth bs k).2:=by simp[IntKind.wrap,IntKind.signed,IntKind.bits];omega
   have f1:=frozen_of_row _ (b0+1) 1 _ _ HB1.out;have f2:=frozen_of_row _ (b0+1) 2 _ _ HB1.out;have HE:Hid (endTo bs (k+1)=(bth bs k).1+(bth bs k).2):=rfl;have HS:Hid (sumTo bs (k+1)=sumTo bs k+(bth bs k).2):=rfl;have bb:b0+1<wr.heap.size:=lt_of_heap HB1.out;have fz:∀(A B:Obj) (v:Value),(((wr.setCell ⟨b0+1,1,none⟩ v).alloc A).alloc B).frozen? ⟨b0+1,2,none⟩=false:=fun A B v=>by
    refine frozen_of_row _ (b0+1) 2 _ _ ((Below.heap_alloc _ _ _ ?_).trans ((Below.heap_alloc _ _ _ ?_).trans (heap_setCell_same _ _ _ _ _ _ HB1.out)))
    ·simp;omega
    ·simpa using bb
   have cz:∀(A B:Obj) (v:Value),(((wr.setCell ⟨b0+1,1,none⟩ v).alloc A).alloc B).cell? ⟨b0+1,2,none⟩=some (.int .i64 (endTo bs k)):=fun A B v=>by
    refine(cell_of_row _ (b0+1) 2 _ _ _ ((Below.heap_alloc _ _ _ ?_).trans ((Below.heap_alloc _ _ _ ?_).trans (heap_setCell_same _ _ _ _ _ _ HB1.out)))).trans rfl
    ·simp;omega
    ·simpa using bb
   clear e2 e3;generalize (bth bs k).1=s at*;generalize (bth bs k).2=z at*;go_wp2
   go_roundw
   case rel=>
    have kk:∀(A B:Obj) (u v:Value),Kp (fun x=>x=b0+1) wr ((((wr.setCell ⟨b0+1,1,none⟩ u).alloc A).alloc B).setCell ⟨b0+1,2,none⟩ v):=fun A B u v=>by
     have h1:Kp (fun x=>x=b0+1) wr (wr.setCell ⟨b0+1,1,none⟩ u):=(Kp.refl _ wr).setCell ⟨b0+1,1,none⟩ u (fun _=>rfl);exact((h1.alloc A).alloc B).setCell ⟨b0+1,2,none⟩ v (fun _=>rfl)
    refine⟨k+1,by omega,by go_num,hid ((kk _ _ _ _).heap HB0.out (by omega)),hid ?_,Kp.trans HK.out (kk _ _ _ _) (fun i hi e=>by have:=HBB.out;omega)⟩;rw[HE.out,HS.out];refine heap_setCell_same _ _ 2 _ _ _ ((Below.heap_alloc _ _ _ ?_).trans ((Below.heap_alloc _ _ _ ?_).trans (heap_setCell_same _ _ _ _ _ _ HB1.out)))
    ·simp;omega
    ·simpa using bb
   case measure=>simp[intOf];omega
  ·obtain rfl:k=m:=by omega
   have z0:=cell_of_row _ b0 0 _ _ _ HB0.out;have z1:=cell_of_row _ b0 1 _ _ _ HB0.out;have z2:=cell_of_row _ b0 2 _ _ _ HB0.out;have f0:=frozen_of_row _ b0 0 _ _ HB0.out;have f1:=frozen_of_row _ b0 1 _ _ HB0.out;have f2:=frozen_of_row _ b0 2 _ _ HB0.out;simp at z0 z1 z2;go_wp2
   (try simp only[Exit.inBlock,Exit.then])
   refine bodyPost_ret (res_cell rfl _ _ b0 _ _ _ _ rfl (chain3 _ b0 _ _ _ _ _ _ _ HB0.out) Tryz.underlying61 rfl Tryz.szStoreB) rfl ?_;exact⟨rfl,kchain3 HK.out b0 _ _ _ (fun h=>by have:=HBB.out;omega)⟩
abbrev cellsBI(c:List Int):Obj:=.cells (vcs .i64 c).toArray 2 (0,0)
theorem xreadI_calls(g n:Nat)(c ps:List Int)(vp:Value)(w:World)(hg:w.heap[g]? =some (cellsBI c))(hn:c.length=n)(hr:RdI w vp ps)(hp:placesIn n ps)(hw:∀j,j<n→IntKind.i64.wrap (nth c j)=nth c j)(hb:ps.length≤1000000):Calls Tryz.prog 223 #[.slice (some ⟨g,0,none⟩) n n,vp] w fun e w'=>∃v,e=.returned v∧NewI w w' v (ps.map fun p=>nth c p.toNat):=by
 obtain⟨a,cap,rfl,hra⟩:=hr;obtain⟨m,hm⟩:∃m,m=ps.length:=⟨_,rfl⟩;have hmb:m≤1000000:=by omega
 obtain⟨xs,hxs⟩:∃xs,xs=ps.map fun p=>nth c p.toNat:=⟨_,rfl⟩
 have HX:=hid hxs;have HXL:Hid (xs.length=m):=hid (by rw[hxs,hm];simp);rw[←hxs,←hm];have HM:=hid hm.symm;have HG:=hid hg;have HRA:=hid hra;have HP:=hid hp;have HW:=hid hw;have HN:=hid hn;have hmk:=fun W=>run_mk (P:=Tryz.prog) 26 3 (.int .i64 0) 8 Tryz.underlying26 Tryz.infoInt rfl (by omega) m (by omega) W
 clear hm hxs hg hra hp hw hb hn;go_enter Tryz.func223,Tryz.ntmps223
 go_wp2
 have HB0:Hid ((w.alloc (.cells (rep m (.int .i64 0)) 3)).heap[w.heap.size]? =some (.cells (ints (fillI xs 0 m)).toArray 3 (0,0))):=hid (by rw[fillI_zero,←rep_ints];exact heap_alloc_new w _);have HK:Hid (Kp0 w (w.alloc (.cells (rep m (.int .i64 0)) 3))):=(Kp.refl _ w).alloc _;obtain⟨b0,hb0⟩:∃b0,b0=w.heap.size:=⟨_,rfl⟩;rw[←hb0]at HB0⊢;have HBB:=hid hb0;clear hb0 hmk;generalize w.alloc (.cells (rep m (.int .i64 0)) 3)=W at HB0 HK⊢
 go_loopw [6,7,13] (fun _ _ t w'=>∃k:Nat,k≤m∧t=.int .i64 k∧Hid (Kp0 w w')∧Hid (w'.heap[b0]? =some (.cells (ints (fillI xs k m)).toArray 3 (0,0)))) (fun _ _ t _=>m-(intOf t).toNat)
 case atStart=>exact⟨0,Nat.zero_le _,rfl,HK,HB0⟩
 case round=>
  clear HB0 HK;obtain⟨k,hk,rfl,HK,HB0⟩:=hrel;by_cases hlt:k<m
  ·obtain⟨g',o',rfl,hc⟩:=HRA.out (fun e=>by have:=HM.out;rw[e]at this;simp at this;omega)
   have q1:=HK.out.cell (hc k (by have:=HM.out;omega));clear hc;obtain⟨p0,p1⟩:=HP.out k (by have:=HM.out;omega);have q2:=vc_cell (HK.out.heap HG.out) (nth ps k).toNat (by have:=HN.out;omega);have q3:=HW.out (nth ps k).toNat (by omega);have HV:Hid (nth xs k=nth c (nth ps k).toNat):=hid (by rw[HX.out,map_nth _ _ _ (by have:=HM.out;omega)]);obtain⟨v1,q4⟩:=fillI_cell _ b0 xs k m HXL.out hlt HB0.out;have f1:=frozen_of_row _ b0 k _ _ HB0.out;have HST:=hid (fillI_step _ b0 xs k m HXL.out hlt HB0.out);rw[HV.out]at HST;generalize nth c (nth ps k).toNat=x at*;generalize nth ps k=p at*;go_wp2
   go_roundw
   case rel=>exact⟨k+1,by omega,by go_num,HK.out.setCell _ _ (fun h=>by have:=HBB.out;change b0<_ at h;omega),HST⟩
   case measure=>simp[intOf];omega
  ·obtain rfl:k=m:=by omega
   go_wp2
   go_ret;exact⟨_,rfl,NewI.made HXL.out (by omega) (by have:=HB0.out;rwa [fillI_end xs k HXL.out]at this) HK.out (by have:=HBB.out;omega)⟩
theorem xfillI_calls(g n:Nat)(c ps:List Int)(vp:Value)(x:Int)(w:World)(hg:w.heap[g]? =some (cellsBI c))(hn:c.length=n)(hr:RdI w vp ps)(hne:ps≠[]→vp.ownBlock≠some g)(hp:placesIn n ps)(hb:ps.length≤1000000):Calls Tryz.prog 222 #[.slice (some ⟨g,0,none⟩) n n,vp,.int .i64 x] w fun e w'=>e=.returned (.tuple #[])∧Kp (fun b=>b=g) w w'∧w'.heap[g]? =some (cellsBI (wrTo c ps (fun _=>x) ps.length)):=by
 obtain⟨a,cap,rfl,hra⟩:=hr;obtain⟨m,hm⟩:∃m,m=ps.length:=⟨_,rfl⟩;have hmb:m≤1000000:=by omega
 rw[←hm];have HM:=hid hm.symm;have HG:=hid hg;have HRA:=hid hra;have HNE:=hid hne;have HP:=hid hp;have HN:=hid hn;clear hm hg hra hp hb hn hne;go_enter Tryz.func222,Tryz.ntmps222
 go_wp2
 go_loopw [7,10] (fun _ t w'=>∃k:Nat,k≤m∧t=.int .i64 k∧Hid (Kp (fun b=>b=g) w w')∧Hid (w'.heap[g]? =some (cellsBI (wrTo c ps (fun _=>x) k)))) (fun _ t _=>m-(intOf t).toNat)
 case atStart=>exact⟨0,Nat.zero_le _,rfl,Kp.refl _ w,HG⟩
 case round=>
  obtain⟨k,hk,rfl,HK,HB0⟩:=hrel;by_cases hlt:k<m
  ·obtain⟨g',o',rfl,hc⟩:=HRA.out (fun e=>by have:=HM.out;rw[e]at this;simp at this;omega)
   have hgg:¬g'=g:=fun e=>HNE.out (fun e=>by have:=HM.out;rw[e]at this;simp at this;omega) (by rw[e];rfl)
   have q1:=HK.out.cell (hc k (by have:=HM.out;omega)) hgg;clear hc;obtain⟨p0,p1⟩:=HP.out k (by have:=HM.out;omega);have q2:=vc_cell HB0.out (nth ps k).toNat (by rw[wrTo_length];have:=HN.out;omega);have f1:=frozen_of_row _ g (nth ps k).toNat _ _ HB0.out;have HST:Hid _:=vc_set HB0.out (nth ps k).toNat x;have HE:Hid (wrTo c ps (fun _=>x) (k+1)=(wrTo c ps (fun _=>x) k).set (nth ps k).toNat x):=rfl;generalize nth (wrTo c ps (fun _=>x) k) (nth ps k).toNat=y at*;generalize nth ps k=p at*;go_wp2
   go_roundw
   case rel=>exact⟨k+1,by omega,by go_num,HK.out.setCell _ _ (fun _=>rfl),hid (by rw[HE.out];exact HST.out)⟩
   case measure=>simp[intOf];omega
  ·obtain rfl:k=m:=by omega
   go_wp2
   go_end0
   exact⟨rfl,HK.out,HB0.out⟩
theorem xwriteI_calls(g n:Nat)(c ps vs:List Int)(vp vv:Value)(w:World)(hg:w.heap[g]? =some (cellsBI c))(hn:c.length=n)(hr:RdI w vp ps)(hne:ps≠[]→vp.ownBlock≠some g)(hr2:RdI w vv vs)(hne2:vs≠[]→vv.ownBlock≠some g)(hvl:vs.length=ps.length)(hwv:∀j,j<vs.length→IntKind.i64.wrap (nth vs j)=nth vs j)(hp:placesIn n ps)(hb:ps.length≤1000000):Calls Tryz.prog 224 #[.slice (some ⟨g,0,none⟩) n n,vp,vv] w fun e w'=>e=.returned (.tuple #[])∧Kp (fun b=>b=g) w w'∧w'.heap[g]? =some (cellsBI (wrTo c ps (fun j=>IntKind.wrap .i64 (nth vs j)) ps.length)):=by
 obtain⟨a,cap,rfl,hra⟩:=hr;obtain⟨a2,cap2,rfl,hra2⟩:=hr2;obtain⟨m,hm⟩:∃m,m=ps.length:=⟨_,rfl⟩;have hmb:m≤1000000:=by omega
 have HVL:Hid (vs.length=m):=hid (by omega);rw[hvl,←hm];have HM:=hid hm.symm;have HG:=hid hg;have HRA:=hid hra;have HNE:=hid hne;have HRA2:=hid hra2;have HNE2:=hid hne2;have HP:=hid hp;have HN:=hid hn;obtain⟨F,hF⟩:∃F:Nat→Int,F=fun j=>IntKind.wrap .i64 (nth vs j):=⟨_,rfl⟩
 rw[←hF];have HWV:=hid hwv;have HF:Hid (∀j,F j=IntKind.wrap .i64 (nth vs j)):=fun j=>by rw[hF]
 clear hm hg hra hp hb hn hne hra2 hne2 hvl hF hwv;go_enter Tryz.func224,Tryz.ntmps224
 go_wp2
 go_loopw [6,7,10] (fun _ _ t w'=>∃k:Nat,k≤m∧t=.int .i64 k∧Hid (Kp (fun b=>b=g) w w')∧Hid (w'.heap[g]? =some (cellsBI (wrTo c ps F k)))) (fun _ _ t _=>m-(intOf t).toNat)
 case atStart=>exact⟨0,Nat.zero_le _,rfl,Kp.refl _ w,HG⟩
 case round=>
  obtain⟨k,hk,rfl,HK,HB0⟩:=hrel;by_cases hlt:k<m
  ·obtain⟨g',o',rfl,hc⟩:=HRA.out (fun e=>by have:=HM.out;rw[e]at this;simp at this;omega)
   have hgg:¬g'=g:=fun e=>HNE.out (fun e=>by have:=HM.out;rw[e]at this;simp at this;omega) (by rw[e];rfl)
   have q1:=HK.out.cell (hc k (by have:=HM.out;omega)) hgg;obtain⟨g2,o2,rfl,hc2⟩:=HRA2.out (fun e=>by have:=HVL.out;rw[e]at this;simp at this;omega);have hgg2:¬g2=g:=fun e=>HNE2.out (fun e=>by have:=HVL.out;rw[e]at this;simp at this;omega) (by rw[e];rfl)
   have q5:=HK.out.cell (hc2 k (by have:=HVL.out;omega)) hgg2;clear hc hc2;obtain⟨p0,p1⟩:=HP.out k (by have:=HM.out;omega);have q2:=vc_cell HB0.out (nth ps k).toNat (by rw[wrTo_length];have:=HN.out;omega);have f1:=frozen_of_row _ g (nth ps k).toNat _ _ HB0.out;have HST:Hid _:=vc_set HB0.out (nth ps k).toNat (F k);have HE:Hid (wrTo c ps F (k+1)=(wrTo c ps F k).set (nth ps k).toNat (F k)):=rfl;have hfk:=(HF.out k).symm;have HFK:=hid hfk;have HVF:=hid (HWV.out k (by have:=HVL.out;omega));generalize nth (wrTo c ps F k) (nth ps k).toNat=y at*;generalize nth ps k=p at*;generalize nth vs k=v at*;generalize F k=fk at*;go_wp2
   go_roundw
   case rel=>exact⟨k+1,by omega,by go_num,HK.out.setCell _ _ (fun _=>rfl),hid (by rw[HE.out];first|exact HST.out|(have e:v=fk:=HVF.out.symm.trans HFK.out;rw[e];exact HST.out))⟩
   case measure=>simp[intOf];omega
  ·obtain rfl:k=m:=by omega
   go_wp2
   go_end0
   exact⟨rfl,HK.out,HB0.out⟩
abbrev opI1:Value:=.func (.func 164) #[] #[]
abbrev opI2:Value:=.func (.func 165) #[] #[]
abbrev opI3:Value:=.func (.func 166) #[] #[]
abbrev opI4:Value:=.func (.func 167) #[] #[]
abbrev opI5:Value:=.func (.func 168) #[] #[]
structure StAtI(w:World)(q g:Nat)(vb:Value)(c:List Int)(bs:List (Int×Int)):Prop where
 blk:w.heap[q]? =some (.cells #[.slice (some ⟨g,0,none⟩) c.length c.length,vb,opI1,opI2,opI3,opI4,opI5] 206 (0,0))
 cells:w.heap[g]? =some (cellsBI c)
 bufs:BsAt w vb bs
theorem xend_callsI(s z:Int)(w:World)(h:IntKind.i64.wrap (s+z)=s+z):Calls Tryz.prog 202 #[.agg #[.int .i64 s,.int .i64 z]] w fun e w'=>e=.returned (.int .i64 (s+z))∧Kp0 w w':=by
 go_enter Tryz.func202,Tryz.ntmps202
 go_wp2
 go_ret;exact⟨rfl,(Kp.refl _ w).alloc _⟩
theorem xReadI_calls{w:World}{q g:Nat}{vb:Value}{c:List Int}{bs:List (Int×Int)}(h:StAtI w q g vb c bs)(ps:List Int)(vp:Value)(hr:RdI w vp ps)(hp:placesIn c.length ps)(hw:∀j,j<c.length→IntKind.i64.wrap (nth c j)=nth c j)(hb:ps.length≤1000000):Calls Tryz.prog 215 #[.pointer (some ⟨q,0,none⟩),vp] w fun e w'=>∃v,e=.returned v∧NewI w w' v (ps.map fun p=>nth c p.toNat):=by
 have HC:=hid (xreadI_calls g c.length c ps vp w h.cells rfl hr hp hw hb);obtain⟨q0,q1⟩:=cells7 h.blk;clear h hr hp hw hb;go_enter Tryz.func215,Tryz.ntmps215
 go_wp2_with fail
 refine HC.out.mono ?_;rintro e w2 ⟨v,rfl,hn⟩;have HN:=hid hn;clear hn;go_wp2
 go_ret;exact⟨v,rfl,HN.out⟩
theorem xlowestI_calls{w:World}{q g:Nat}{vb:Value}{c:List Int}{bs:List (Int×Int)}(h:StAtI w q g vb c bs)(size:Int)(hin:bufsIn c.length bs)(hc:c.length≤10000)(hbl:bs.length≤100000000):Calls Tryz.prog 219 #[.pointer (some ⟨q,0,none⟩),.int .i64 size] w fun e w'=>e=.returned (.tuple #[.int .i64 (low size bs).1,.int .i64 ((low size bs).2:Int)])∧Kp0 w w':=by
 obtain⟨n,hn⟩:∃n,n=c.length:=⟨_,rfl⟩;obtain⟨q0,q1⟩:=cells7 h.blk;obtain⟨ao,cap,hvb,hcap,hbf⟩:=h.bufs.form;subst hvb;rw[←hn]at q0 hin hc;obtain⟨m,hm⟩:∃m,m=bs.length:=⟨_,rfl⟩;obtain⟨R,hR⟩:∃R,R=low size bs:=⟨_,rfl⟩;rw[←hR];rw[←hm]at q1 hbf hcap hbl;have HM:=hid hm.symm;have HR:=hid hR;have HBF:=hid hbf;have HIN:=hid hin;clear h hn hm hbf hin hR;go_enter Tryz.func219,Tryz.ntmps219
 go_wp2
 go_loopw [4,6,13] (fun s _ t w'=>∃k:Nat,k≤m∧t=.int .i64 k∧s=.int .i64 (endTo bs k)∧Hid (R=lowGo size bs (m-k) k (endTo bs k))∧Hid (Kp0 w w')) (fun _ _ t _=>m-(intOf t).toNat)
 case atStart=>exact⟨0,Nat.zero_le _,rfl,rfl,hid (by rw[HR.out,low,HM.out];rfl),Kp0.refl w⟩
 case round=>
  obtain⟨k,hk,rfl,rfl,HRK,HK⟩:=hrel;by_cases hlt:k<m
  ·obtain⟨gb,rfl,hc2⟩:=HBF.out (by omega)
   have p1:=HK.out.cell (hc2 k hlt).1;have p2:=HK.out.cell (hc2 k hlt).2;clear hc2;obtain⟨b1,b2,b3⟩:=HIN.out k (by have:=HM.out;omega);obtain⟨e1,e2⟩:=endTo_bd HIN.out (by omega) k (by have:=HM.out;omega);have HE:Hid (endTo bs (k+1)=(bth bs k).1+(bth bs k).2):=rfl;have HL:Hid (lowGo size bs (m-k) k (endTo bs k)=if size≤(bth bs k).1 -endTo bs k then(endTo bs k,k)else lowGo size bs (m-(k+1)) (k+1) ((bth bs k).1+(bth bs k).2)):=hid (by rw[show m-k=(m-(k+1))+1 by omega,lowGo]);generalize (bth bs k).1=s at*;generalize (bth bs k).2=z at*;by_cases hz:size≤s-endTo bs k
   ·have d1:decide (size≤s-endTo bs k)=true:=by simp[hz]
    have HF:Hid (R=(endTo bs k,k)):=hid (by rw[HRK.out,HL.out,if_pos hz]);clear hz;go_wp2
    go_ret2
    rw[HF.out];exact⟨rfl,HK.out.alloc _⟩
   ·have d1:decide (size≤s-endTo bs k)=false:=by simp[hz]
    have HF:Hid (R=lowGo size bs (m-(k+1)) (k+1) (endTo bs (k+1))):=hid (by rw[HRK.out,HL.out,if_neg hz,HE.out]);clear hz;go_wp2
    go_roundw
    case rel=>exact⟨k+1,by omega,by go_num,by rw[HE.out];rfl,HF,(HK.out.alloc _).alloc _⟩
    case measure=>simp[intOf];omega
  ·obtain rfl:k=m:=by omega
   have HF:Hid (R=(endTo bs k,k)):=hid (by rw[HRK.out,Nat.sub_self,lowGo]);have p3:=HK.out.cell q1;have p4:=HK.out.cell q0;go_wp2
   go_quiet (fail)
   go_wp2
   go_ret2
   rw[HF.out];exact⟨rfl,HK.out.drewN _⟩
theorem StAtI.wrote{w w':World}{q g:Nat}{vb:Value}{c c':List Int}{bs:List (Int×Int)}(h:StAtI w q g vb c bs)(k:Kp (fun b=>b=g) w w')(hc:w'.heap[g]? =some (cellsBI c'))(hl:c'.length=c.length)(hqg:q≠g)(hbg:vb.ownBlock≠some g):StAtI w' q g vb c' bs:=
 ⟨by rw[hl];exact k.heap h.blk hqg,hc,h.bufs.kp k (fun b hb e=>hbg (e▸hb))⟩
theorem StAtI.kp{S:Nat→Prop}{w w':World}{q g:Nat}{vb:Value}{c:List Int}{bs:List (Int×Int)}(h:StAtI w q g vb c bs)(k:Kp S w w')(hq:¬S q)(hg:¬S g)(hb:∀b,vb.ownBlock=some b→¬S b):StAtI w' q g vb c bs:=
 ⟨k.heap h.blk hq,k.heap h.cells hg,h.bufs.kp k hb⟩
theorem xFillI_calls{w:World}{q g:Nat}{vb:Value}{c:List Int}{bs:List (Int×Int)}(h:StAtI w q g vb c bs)(x:Int)(ps:List Int)(vp:Value)(hr:RdI w vp ps)(hne:ps≠[]→vp.ownBlock≠some g)(hp:placesIn c.length ps)(hb:ps.length≤1000000)(hx:IntKind.i64.wrap x=x)(y:Int)(hy:IntKind.wrap .i64 x=y):Calls Tryz.prog 213 #[.pointer (some ⟨q,0,none⟩),.int .i64 x,vp] w fun e w'=>e=.returned (.tuple #[])∧Kp (fun b=>b=g) w w'∧w'.heap[g]? =some (cellsBI (wrTo c ps (fun _=>y) ps.length)):=by
 have HC:=hid (xfillI_calls g c.length c ps vp y w h.cells rfl hr hne hp hb);obtain⟨q0,q1⟩:=cells7 h.blk;clear h hr hp hb hne;obtain rfl:x=y:=hx.symm.trans hy;go_enter Tryz.func213,Tryz.ntmps213
 go_wp2_with fail
 refine HC.out.mono ?_;rintro e w2 ⟨rfl,hn⟩;have HN:=hid hn;clear hn;go_wp2
 go_end0
 exact⟨rfl,HN.out⟩
theorem xWriteI_calls{w:World}{q g:Nat}{vb:Value}{c:List Int}{bs:List (Int×Int)}(h:StAtI w q g vb c bs)(ps vs:List Int)(vp vv:Value)(hr:RdI w vp ps)(hne:ps≠[]→vp.ownBlock≠some g)(hr2:RdI w vv vs)(hne2:vs≠[]→vv.ownBlock≠some g)(hvl:vs.length=ps.length)(hwv:∀j,j<vs.length→IntKind.i64.wrap (nth vs j)=nth vs j)(hp:placesIn c.length ps)(hb:ps.length≤1000000):Calls Tryz.prog 218 #[.pointer (some ⟨q,0,none⟩),vp,vv] w fun e w'=>e=.returned (.tuple #[])∧Kp (fun b=>b=g) w w'∧w'.heap[g]? =some (cellsBI (wrTo c ps (fun j=>IntKind.wrap .i64 (nth vs j)) ps.length)):=by
 have HC:=hid (xwriteI_calls g c.length c ps vs vp vv w h.cells rfl hr hne hr2 hne2 hvl hwv hp hb);obtain⟨q0,q1⟩:=cells7 h.blk;generalize (fun j=>IntKind.wrap .i64 (nth vs j))=F at*;clear h hr hp hb hne hr2 hne2 hvl hwv;go_enter Tryz.func218,Tryz.ntmps218
 go_wp2_with fail
 refine HC.out.mono ?_;rintro e w2 ⟨rfl,hn⟩;have HN:=hid hn;clear hn;go_wp2
 go_end0
 exact⟨rfl,HN.out⟩
abbrev stBI(a b c:Int):Obj:=.cells #[.int .i64 a,.int .i64 b,.int .i64 c] 61 (0,0)
theorem Tryz.szStoreI:(Tryz.prog.info? 61).map (·.size)=some 3:=by kernel_rfl
theorem xStateI_calls{w:World}{q g:Nat}{vb:Value}{c:List Int}{bs:List (Int×Int)}(h:StAtI w q g vb c bs)(hin:bufsIn c.length bs)(hc:c.length≤10000)(hbl:bs.length≤100000000):Calls Tryz.prog 216 #[.pointer (some ⟨q,0,none⟩)] w fun e w'=>e=.returned (.agg #[.int .i64 (c.length:Int),.int .i64 (sumTo bs bs.length),.int .i64 (endTo bs bs.length)])∧Kp0 w w':=by
 obtain⟨n,hn⟩:∃n,n=c.length:=⟨_,rfl⟩;obtain⟨q0,q1⟩:=cells7 h.blk;obtain⟨ao,cap,hvb,hcap,hbf⟩:=h.bufs.form;subst hvb;rw[←hn]at q0 hin hc⊢;obtain⟨m,hm⟩:∃m,m=bs.length:=⟨_,rfl⟩;rw[←hm]at q1 hbf hcap hbl⊢;have HM:=hid hm.symm;have HBF:=hid hbf;have HIN:=hid hin;clear h hn hm hbf hin;have bq:q<w.heap.size:=block_lt_of_cell q0;have HB0:Hid (((w.alloc (stBI 0 0 0)).alloc (stBI n 0 0)).heap[w.heap.size]? =some (stBI 0 0 0)):=heap_alloc2_old w _ _;have HB1:Hid (((w.alloc (stBI 0 0 0)).alloc (stBI n 0 0)).heap[w.heap.size+1]? =some (stBI n (sumTo bs 0) (endTo bs 0))):=heap_alloc2_new w _ _;have HK:Hid (Kp0 w ((w.alloc (stBI 0 0 0)).alloc (stBI n 0 0))):=((Kp.refl _ w).alloc _).alloc _;go_enter Tryz.func216,Tryz.ntmps216
 go_wp2
 obtain⟨b0,hb0⟩:∃b0,b0=w.heap.size:=⟨_,rfl⟩;rw[←hb0]at HB0 HB1⊢;have HBB:=hid hb0;clear hb0 bq;generalize (w.alloc (stBI 0 0 0)).alloc (stBI n 0 0)=W at HB0 HB1 HK⊢
 go_loopw [5,17] (fun _ t w'=>∃k:Nat,k≤m∧t=.int .i64 k∧Hid (w'.heap[b0]? =some (stBI 0 0 0))∧Hid (w'.heap[b0+1]? =some (stBI n (sumTo bs k) (endTo bs k)))∧Hid (Kp0 w w')) (fun _ t _=>m-(intOf t).toNat)
 case atStart=>exact⟨0,Nat.zero_le _,rfl,HB0,HB1,HK⟩
 case round=>
  clear HB0 HB1 HK;obtain⟨k,hk,rfl,HB0,HB1,HK⟩:=hrel;have y0:=cell_of_row _ (b0+1) 0 _ _ _ HB1.out;have y1:=cell_of_row _ (b0+1) 1 _ _ _ HB1.out;have y2:=cell_of_row _ (b0+1) 2 _ _ _ HB1.out;simp at y0 y1 y2;by_cases hlt:k<m
  ·obtain⟨gb,rfl,hc2⟩:=HBF.out (by omega)
   have p1:=HK.out.cell (hc2 k hlt).1;have p2:=HK.out.cell (hc2 k hlt).2;clear hc2;obtain⟨b1,b2,b3⟩:=HIN.out k (by have:=HM.out;omega);obtain⟨e1,e2⟩:=sumTo_bd HIN.out (by omega) k (by have:=HM.out;omega);have e3:(n:Int)*(k:Int)≤1000000000000:=by
    have:n*k≤10000*100000000:=Nat.mul_le_mul hc (by omega);have h2:((n*k:Nat):Int)≤1000000000000:=by omega
    rwa [Int.natCast_mul]at h2
   have e4:sumTo bs k≤1000000000000:=by omega
   have w1:IntKind.i64.wrap (sumTo bs k+(bth bs k).2)=sumTo bs k+(bth bs k).2:=by simp[IntKind.wrap,IntKind.signed,IntKind.bits];omega
   have f1:=frozen_of_row _ (b0+1) 1 _ _ HB1.out;have f2:=frozen_of_row _ (b0+1) 2 _ _ HB1.out;have HE:Hid (endTo bs (k+1)=(bth bs k).1+(bth bs k).2):=rfl;have HS:Hid (sumTo bs (k+1)=sumTo bs k+(bth bs k).2):=rfl;have bb:b0+1<wr.heap.size:=lt_of_heap HB1.out;have fz:∀(A B:Obj) (v:Value),(((wr.setCell ⟨b0+1,1,none⟩ v).alloc A).alloc B).frozen? ⟨b0+1,2,none⟩=false:=fun A B v=>by
    refine frozen_of_row _ (b0+1) 2 _ _ ((Below.heap_alloc _ _ _ ?_).trans ((Below.heap_alloc _ _ _ ?_).trans (heap_setCell_same _ _ _ _ _ _ HB1.out)))
    ·simp;omega
    ·simpa using bb
   have cz:∀(A B:Obj) (v:Value),(((wr.setCell ⟨b0+1,1,none⟩ v).alloc A).alloc B).cell? ⟨b0+1,2,none⟩=some (.int .i64 (endTo bs k)):=fun A B v=>by
    refine(cell_of_row _ (b0+1) 2 _ _ _ ((Below.heap_alloc _ _ _ ?_).trans ((Below.heap_alloc _ _ _ ?_).trans (heap_setCell_same _ _ _ _ _ _ HB1.out)))).trans rfl
    ·simp;omega
    ·simpa using bb
   clear e2 e3;generalize (bth bs k).1=s at*;generalize (bth bs k).2=z at*;go_wp2
   go_roundw
   case rel=>
    have kk:∀(A B:Obj) (u v:Value),Kp (fun x=>x=b0+1) wr ((((wr.setCell ⟨b0+1,1,none⟩ u).alloc A).alloc B).setCell ⟨b0+1,2,none⟩ v):=fun A B u v=>by
     have h1:Kp (fun x=>x=b0+1) wr (wr.setCell ⟨b0+1,1,none⟩ u):=(Kp.refl _ wr).setCell ⟨b0+1,1,none⟩ u (fun _=>rfl);exact((h1.alloc A).alloc B).setCell ⟨b0+1,2,none⟩ v (fun _=>rfl)
    refine⟨k+1,by omega,by go_num,hid ((kk _ _ _ _).heap HB0.out (by omega)),hid ?_,Kp.trans HK.out (kk _ _ _ _) (fun i hi e=>by have:=HBB.out;omega)⟩;rw[HE.out,HS.out];refine heap_setCell_same _ _ 2 _ _ _ ((Below.heap_alloc _ _ _ ?_).trans ((Below.heap_alloc _ _ _ ?_).trans (heap_setCell_same _ _ _ _ _ _ HB1.out)))
    ·simp;omega
    ·simpa using bb
   case measure=>simp[intOf];omega
  ·obtain rfl:k=m:=by omega
   have z0:=cell_of_row _ b0 0 _ _ _ HB0.out;have z1:=cell_of_row _ b0 1 _ _ _ HB0.out;have z2:=cell_of_row _ b0 2 _ _ _ HB0.out;have f0:=frozen_of_row _ b0 0 _ _ HB0.out;have f1:=frozen_of_row _ b0 1 _ _ HB0.out;have f2:=frozen_of_row _ b0 2 _ _ HB0.out;simp at z0 z1 z2;go_wp2
   (try simp only[Exit.inBlock,Exit.then])
   refine bodyPost_ret (res_cell rfl _ _ b0 _ _ _ _ rfl (chain3 _ b0 _ _ _ _ _ _ _ HB0.out) Tryz.underlying61 rfl Tryz.szStoreI) rfl ?_;exact⟨rfl,kchain3 HK.out b0 _ _ _ (fun h=>by have:=HBB.out;omega)⟩
end Go.Proofs.YticbbncdcannlaaGreat
namespace Go.Proofs.YticbbncdcannlaaGreat
theorem lowGo_bd(size:Int){n:Int}{bs:List (Int×Int)}(hin:bufsIn n bs)(_hn:0≤n)(f i:Nat)(hf:f+i=bs.length)(s:Int)(h0:0≤s)(h1:s≤n):0≤(lowGo size bs f i s).1∧(lowGo size bs f i s).1≤n∧(lowGo size bs f i s).2≤bs.length:=by
 induction f generalizing i s with
 |zero=>simp only[lowGo];exact⟨h0,h1,by omega⟩
 |succ f ih=>
  simp only[lowGo];split
  ·exact⟨h0,h1,by show i≤_;omega⟩
  ·have:=hin i (by omega)
   exact ih (i+1) (by omega) _ (by omega) (by omega)
theorem low_bd(size:Int){n:Int}{bs:List (Int×Int)}(hin:bufsIn n bs)(hn:0≤n):0≤(low size bs).1∧(low size bs).1≤n∧(low size bs).2≤bs.length:=
 lowGo_bd size hin hn bs.length 0 (by omega) 0 (by omega) hn
def inBufs(bs:List (Int×Int))(c:Int):Prop:=∃j,j<bs.length∧(bth bs j).1≤c∧c<(bth bs j).1+(bth bs j).2
def sortedB(bs:List (Int×Int)):Prop:=(∀j,j<bs.length→0≤(bth bs j).1∧1≤(bth bs j).2)∧∀j k,j<k→k<bs.length→(bth bs j).1+(bth bs j).2≤(bth bs k).1
theorem lowGo_spec(size:Int)(hz:1≤size){bs:List (Int×Int)}(hs:sortedB bs)(f i:Nat)(hf:f+i=bs.length)(st:Int)(h0:0≤st)(ha:∀j,j<i→(bth bs j).1+(bth bs j).2≤st)(hb:∀s',0≤s'→s'<st→∃c,s'≤c∧c<s'+size∧inBufs bs c):(∀j,j<(lowGo size bs f i st).2→(bth bs j).1+(bth bs j).2≤(lowGo size bs f i st).1)∧(∀j,(lowGo size bs f i st).2≤j→j<bs.length→(lowGo size bs f i st).1+size≤(bth bs j).1)∧(∀s',0≤s'→s'<(lowGo size bs f i st).1→∃c,s'≤c∧c<s'+size∧inBufs bs c):=by
 induction f generalizing i st with
 |zero=>
  simp only[lowGo];exact⟨ha,fun j h1 h2=>by omega,hb⟩
 |succ f ih=>
  simp only[lowGo];have hi:i<bs.length:=by omega
  split
  ·rename_i hc
   refine⟨ha,fun j h1 h2=>?_,hb⟩;rcases Nat.lt_or_ge i j with h|h
   ·have:=hs.2 i j h h2
    have:=(hs.1 i hi).2;show st+size≤_;omega
   ·have:j=i:=by omega
    subst this;show st+size≤_;omega
  ·rename_i hc
   have h1:=hs.1 i hi;refine ih (i+1) (by omega) _ (by omega) (fun j hj=>?_) (fun s' h2 h3=>?_)
   ·rcases Nat.lt_or_ge j i with h|h
    ·have:=hs.2 j i h hi
     omega
    ·have:j=i:=by omega
     subst this;exact Int.le_refl _
   ·rcases Int.lt_or_le s' st with h|h
    ·exact hb s' h2 h
    ·rcases Int.lt_or_le s' (bth bs i).1 with h'|h'
     ·exact⟨(bth bs i).1,by omega,by omega,i,hi,Int.le_refl _,by omega⟩
     ·exact⟨s',Int.le_refl _,by omega,i,hi,h',h3⟩
theorem low_spec(size:Int)(hz:1≤size){bs:List (Int×Int)}(hs:sortedB bs):(∀j,j<(low size bs).2→(bth bs j).1+(bth bs j).2≤(low size bs).1)∧(∀j,(low size bs).2≤j→j<bs.length→(low size bs).1+size≤(bth bs j).1)∧(∀s',0≤s'→s'<(low size bs).1→∃c,s'≤c∧c<s'+size∧inBufs bs c):=
 lowGo_spec size hz hs bs.length 0 (by omega) 0 (by omega) (fun j hj=>by omega) (fun s' h1 h2=>by omega)
theorem low_free(size:Int)(hz:1≤size){bs:List (Int×Int)}(hs:sortedB bs)(c:Int)(h1:(low size bs).1≤c)(h2:c<(low size bs).1+size):¬inBufs bs c:=by
 rintro⟨j,hj,h3,h4⟩;obtain⟨a,b,-⟩:=low_spec size hz hs;rcases Nat.lt_or_ge j (low size bs).2 with h|h
 ·have:=a j h;omega
 ·have:=b j h hj;omega
theorem runTo_ge(t:Int→Bool)(size:Nat)(hz:1≤size)(i:Nat):size≤runTo t i↔size≤i∧∀c:Int,(i:Int)-size≤c→c<i→t c=false:=by
 induction i generalizing size with
 |zero=>simp[runTo];omega
 |succ i ih=>
  simp only[runTo];by_cases ht:t i=true
  ·rw[if_pos ht]
   constructor
   ·intro h;omega
   ·rintro⟨h1,h2⟩
    have:=h2 i (by omega) (by omega);rw[ht]at this;cases this
  ·rw[if_neg ht]
   have ht':t i=false:=by simpa using ht
   by_cases h1:size=1
   ·subst h1
    constructor
    ·intro _
     refine⟨by omega,fun c h2 h3=>?_⟩;have:c=i:=by omega
     rw[this];exact ht'
    ·intro _;omega
   ·have:=ih (size-1) (by omega)
    constructor
    ·intro h
     obtain⟨a,b⟩:=this.1 (by omega);refine⟨by omega,fun c h2 h3=>?_⟩;rcases Int.lt_or_le c i with h|h
     ·exact b c (by omega) h
     ·have:c=i:=by omega
      rw[this];exact ht'
    ·rintro⟨h2,h3⟩
     have:=this.2 ⟨by omega,fun c h4 h5=>h3 c (by omega) (by omega)⟩;omega
def freeAt(t:Int→Bool)(size:Nat)(s:Int):Prop:=∀c:Int,s≤c→c<s+size→t c=false
theorem placeIn_is(t:Int→Bool)(size:Nat)(hz:1≤size)(s:Nat)(hf:freeAt t size s)(hn:∀s':Nat,s'<s→¬freeAt t size s')(f i:Nat)(h1:i+1≤s+size)(h2:s+size≤f+i):placeIn t size f i=s:=by
 induction f generalizing i with
 |zero=>omega
 |succ f ih=>
  simp only[placeIn];by_cases hi:i+1=s+size
  ·have hr:runTo t (i+1)=size:=by
    have h3:size≤runTo t (i+1):=(runTo_ge t size hz (i+1)).2 ⟨by omega,fun c a b=>hf c (by omega) (by omega)⟩;rcases Nat.eq_or_lt_of_le h3 with h|h
    ·exact h.symm
    ·exfalso
     obtain⟨a,b⟩:=(runTo_ge t (size+1) (by omega) (i+1)).1 h;have hs0:0<s:=by omega
     exact hn (s-1) (by omega) (fun c x y=>b c (by omega) (by omega))
   rw[if_pos hr];omega
  ·have hr:¬runTo t (i+1)=size:=fun e=>by
    obtain⟨a,b⟩:=(runTo_ge t size hz (i+1)).1 (by omega);exact hn (i+1-size) (by omega) (fun c x y=>b c (by omega) (by omega))
   rw[if_neg hr];exact ih (i+1) (by omega) (by omega)
theorem placeIn_not(t:Int→Bool)(size:Nat)(hz:1≤size)(f i:Nat)(hn:∀s':Nat,s'+size≤f+i→¬freeAt t size s'):placeIn t size f i= -1:=by
 induction f generalizing i with
 |zero=>rfl
 |succ f ih=>
  simp only[placeIn];have hr:¬runTo t (i+1)=size:=fun e=>by
   obtain⟨a,b⟩:=(runTo_ge t size hz (i+1)).1 (by omega);exact hn (i+1-size) (by omega) (fun c x y=>b c (by omega) (by omega))
  rw[if_neg hr];exact ih (i+1) (fun s' h=>hn s' (by omega))
theorem place_low(t:Int→Bool){bs:List (Int×Int)}(hs:sortedB bs)(n size:Nat)(hz:1≤size)(ht:∀c:Int,0≤c→c<n→(t c=true↔inBufs bs c))(hin:bufsIn n bs):placeIn t size n 0=if(low size bs).1+size≤n then(low size bs).1 else-1:=by
 have hb:=low_bd (size:Int) hin (by omega);obtain⟨-,-,hlow⟩:=low_spec (size:Int) (by omega) hs;have notfree:∀s':Nat,(s':Int)<(low size bs).1→(s':Int)+size≤n→¬freeAt t size s':=fun s' h1 h2 hfr=>by
  obtain⟨c,a,b,d⟩:=hlow s' (by omega) h1;have:=hfr c a b;rw[(ht c (by omega) (by omega)).2 d]at this;cases this
 split
 ·rename_i hfit
  have hfree:freeAt t size (low size bs).1.toNat:=fun c a b=>by
   have:¬t c=true:=fun e=>low_free (size:Int) (by omega) hs c (by omega) (by omega) ((ht c (by omega) (by omega)).1 e)
   simpa using this
  have:=placeIn_is t size hz (low size bs).1.toNat hfree (fun s' h=>notfree s' (by omega) (by omega)) n 0 (by omega) (by omega);rw[this];omega
 ·rename_i hfit
  refine placeIn_not t size hz n 0 (fun s' h=>?_);exact notfree s' (by omega) (by omega)
open Go.RowKit
theorem places_one{n:Nat}{c:Int}(h:0≤c∧c<(n:Int)):placesIn n [c]:=fun j hj=>by
 have:j=0:=by simpa using hj
 subst this;simpa[nth]using h
theorem NewI.one{w w':World}{v:Value}{y:Int}(h:NewI w w' v [y]):∃g c,v=.slice (some ⟨g,0,none⟩) 1 c∧w'.cell? ⟨g,0,none⟩=some (.int .i64 y)∧Kp0 w w':=by
 obtain⟨ao,c,rfl,h1,h2,h3⟩:=h;rcases h1.2 with⟨_,h0⟩|⟨g,cap,cur,e,_,_,_⟩
 ·simp at h0
 ·have hr:=h1.rd
  simp only[List.length_singleton]at e hr;obtain⟨rfl,-⟩:ao=some ⟨g,0,none⟩∧c=cap:=by simpa using e
  refine⟨g,c,rfl,?_,h2⟩;obtain⟨a,cc,e2,hc⟩:=hr;obtain⟨g',o',e3,hc'⟩:=hc (by simp);simp at e2;rw[←e2.1]at e3;simp at e3;have:=hc' 0 (by simp);rw[←e3.1,←e3.2]at this;simpa[nth]using this
end Go.Proofs.YticbbncdcannlaaGreat
