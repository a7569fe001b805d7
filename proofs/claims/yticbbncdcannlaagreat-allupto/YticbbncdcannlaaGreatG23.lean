import Derived.Test.YticbbncdcannlaaGreatG19
import Derived.Test.YticbbncdcannlaaGreatG22
set_option maxRecDepth 100000
set_option maxHeartbeats 8000000
namespace Go.Proofs.YticbbncdcannlaaGreat
open Go.RowKit Go.Maps Go.ChangeMaps Go.MapKept
def XS.new(b i:Nat):XS:=⟨List.replicate b 0,List.replicate i 0,[],[],fun _=>none,0⟩
def xnewTags(w:World)(T:Tags)(o q1 g1 q2 g2 bm:Nat):Tags:=fun b=>if b<w.heap.size then T b else if b=g1 then(o,3)else if b=q1 then(o,2)else if b=g2 then(o,6)else if b=q2 then(o,5)else if b=bm then(o,8)else(o,1)
theorem xnewSpace_calls(b i:Nat)(w:World)(T:Tags)(o:Nat)(hb:b≤10000)(hi:i≤10000):Calls Tryz.prog 72 #[.int .i64 (b:Int),.int .i64 (i:Int)] w fun e w'=>∃p,e=.returned (.pointer (some ⟨p,0,none⟩))∧Hid (∃L T',TagsTo w T T'∧Kp0 w w'∧XAt T' o w' p L (XS.new b i)∧L.D=.map []):=by
 have HB:=hid (xnewStoreB_calls b w hb);have HI:=hid (fun W=>xnewStoreI_calls i W hi);have hmm:= @run_makeMap Tryz.prog;go_enter Tryz.func72,Tryz.ntmps72
 go_wp2_with fail
 refine HB.out.mono ?_;rintro e w1 ⟨q1,g1,rfl,h1⟩;have H1:=hid h1;clear h1 HB
 go_wp2_with fail
 refine(HI.out _).mono ?_;rintro e w2 ⟨q2,g2,rfl,h2⟩;have H2:=hid h2;clear h2 HI;go_wp2
 go_ret;obtain⟨s1,k1,a1,a2,a3⟩:=H1.out;obtain⟨s2,k2,c1,c2,c3⟩:=H2.out;have l1:=lt_of_heap s1.blk;have l2:=lt_of_heap s1.cells;have l3:=lt_of_heap s2.blk;have l4:=lt_of_heap s2.cells;have z1:=k1.size;have z2:=k2.size;refine⟨w2.heap.size+1,rfl,⟨q1,g1,q2,g2,w2.heap.size,.slice none 0 0,.slice none 0 0,.map []⟩,xnewTags w T o q1 g1 q2 g2 w2.heap.size,fun x hx=>by simp[xnewTags,hx],((Kp0.trans k1 k2).alloc _).alloc _,⟨?_,?_,?_,?_,⟨fun _ _=>rfl,fun a x h=>by cases h⟩,?_,?_,?_,?_,?_,?_,?_,?_⟩,rfl⟩
 ·have:=heap_alloc_new (w2.alloc (.map #[] 0)) (.cells #[.pointer (some ⟨q1,0,none⟩),.pointer (some ⟨q2,0,none⟩),.map (some w2.heap.size),.int .i64 0] 130)
  simpa[XS.new]using this
 ·exact s1.kp ((k2.alloc _).alloc _) (fun e=>e) (fun e=>e) (fun _ _ e=>e)
 ·exact s2.kp (((Kp.refl (fun _=>False) w2).alloc _).alloc _) (fun e=>e) (fun e=>e) (fun _ _ e=>e)
 ·obtain⟨es,clock,hb0,r⟩:=World.ownsMap_made w2 Tryz.prog 3 elemR
  exact⟨es,clock,heap_alloc_keeps hb0 _,r⟩
 ·simp only[xnewTags]
  rw[if_neg (by omega),if_neg (by omega),if_neg (by omega),if_neg (by omega),if_neg (by omega),if_neg (by omega)]
 ·simp only[xnewTags]
  rw[if_neg (by omega),if_neg (by omega),if_pos trivial]
 ·simp only[xnewTags]
  rw[if_neg (by omega),if_pos trivial]
 ·intro x hx;simp[Value.ownBlock]at hx
 ·simp only[xnewTags]
  rw[if_neg (by omega),if_neg (by omega),if_neg (by omega),if_neg (by omega),if_pos trivial]
 ·simp only[xnewTags]
  rw[if_neg (by omega),if_neg (by omega),if_neg (by omega),if_pos trivial]
 ·intro x hx;simp[Value.ownBlock]at hx
 ·simp only[xnewTags]
  rw[if_neg (by omega),if_neg (by omega),if_neg (by omega),if_neg (by omega),if_neg (by omega),if_pos trivial]
theorem xmayHold_yes(b:Nat)(w:World)(hb:b≤10000):Calls Tryz.prog 71 #[.int .i64 (b:Int)] w fun e w'=>e=.returned (.bool true)∧w'=w:=by
 have d1:decide ((0:Int)≤(b:Int))=true:=by simp
 have d2:decide ((b:Int)≤10000)=true:=by simp;omega
 go_enter Tryz.func71,Tryz.ntmps71
 go_wp2
 go_ret;exact⟨rfl,rfl⟩
theorem xNew_yes(b i:Nat)(w:World)(T:Tags)(o:Nat)(hb:b≤10000)(hi:i≤10000):Calls Tryz.prog 35 #[.int .i64 (b:Int),.int .i64 (i:Int)] w fun e w'=>∃p,e=.returned (.tuple #[.pointer (some ⟨p,0,none⟩),.int .i64 0])∧Hid (∃L T',TagsTo w T T'∧Kp0 w w'∧XAt T' o w' p L (XS.new b i)∧L.D=.map []):=by
 have H1:=hid (fun W=>xmayHold_yes b W hb);have H2:=hid (fun W=>xmayHold_yes i W hi);have HN:=hid (xnewSpace_calls b i w T o hb hi);go_enter Tryz.func35,Tryz.ntmps35
 go_wp2_with fail
 refine(H1.out _).mono ?_;rintro e w2 ⟨rfl,hw⟩;obtain rfl:=hw.symm
 go_wp2_with fail
 refine(H2.out _).mono ?_;rintro e w2 ⟨rfl,hw⟩;obtain rfl:=hw.symm
 go_wp2_with fail
 refine HN.out.mono ?_;rintro e w3 ⟨p,rfl,HR⟩;go_wp2
 go_ret2
 exact⟨p,rfl,HR⟩
end Go.Proofs.YticbbncdcannlaaGreat
namespace Go.Proofs.YticbbncdcannlaaGreat
open Go.RowKit
theorem cntTo_congr{t t':Int→Bool}(n:Nat)(h:∀c:Nat,c<n→t c=t' c):cntTo t n=cntTo t' n:=by
 induction n with
 |zero=>rfl
 |succ n ih=>simp only[cntTo];rw[ih (fun c hc=>h c (by omega)),h n (by omega)]
theorem cntTo_or{t t':Int→Bool}(n:Nat)(h:∀c:Nat,c<n→¬(t c=true∧t' c=true)):cntTo (fun c=>t c||t' c) n=cntTo t n+cntTo t' n:=by
 induction n with
 |zero=>rfl
 |succ n ih=>
  simp only[cntTo];rw[ih (fun c hc=>h c (by omega))];have:=h n (by omega);by_cases h1:t n=true<;>by_cases h2:t' n=true
  ·exact absurd ⟨h1,h2⟩ this
  ·simp[h1,h2];omega
  ·simp[h1,h2];omega
  ·simp[h1,h2]
theorem cntTo_seg(s z:Nat)(n:Nat):cntTo (fun c=>decide ((s:Int)≤c)&&decide (c<(s:Int)+z)) n=min n (s+z)-s:=by
 induction n with
 |zero=>simp[cntTo]
 |succ n ih=>
  simp only[cntTo];rw[ih];by_cases h:(s:Int)≤(n:Int)∧(n:Int)<(s:Int)+z
  ·have:(decide ((s:Int)≤(n:Int))&&decide ((n:Int)<(s:Int)+z))=true:=by simp;omega
   rw[if_pos this];omega
  ·have:(decide ((s:Int)≤(n:Int))&&decide ((n:Int)<(s:Int)+z))=false:=by
    rw[←Bool.not_eq_true];simp;omega
   rw[if_neg (by rw[this];simp)];omega
def segs(bs:List (Int×Int)):Nat→Int→Bool
 |0,_=>false
 |m+1,c=>segs bs m c||(decide ((bth bs m).1≤c)&&decide (c<(bth bs m).1+(bth bs m).2))
theorem segs_iff(bs:List (Int×Int))(m:Nat)(c:Int):segs bs m c=true↔∃j,j<m∧(bth bs j).1≤c∧c<(bth bs j).1+(bth bs j).2:=by
 induction m with
 |zero=>simp[segs]
 |succ m ih=>
  simp only[segs,Bool.or_eq_true,Bool.and_eq_true,decide_eq_true_eq,ih];constructor
  ·rintro(⟨j,h1,h2⟩|h)
   ·exact⟨j,by omega,h2⟩
   ·exact⟨m,by omega,h⟩
  ·rintro⟨j,h1,h2⟩
   rcases Nat.lt_or_ge j m with h|h
   ·exact .inl ⟨j,h,h2⟩
   ·have:j=m:=by omega
    subst this;exact .inr h2
theorem cnt_sum{bs:List (Int×Int)}(hs:sortedB bs){n:Nat}(hin:bufsIn n bs)(m:Nat)(hm:m≤bs.length):(cntTo (segs bs m) n:Int)=sumTo bs m:=by
 induction m with
 |zero=>
  have:cntTo (segs bs 0) n=0:=by
   have:=cntTo_congr (t:=segs bs 0) (t':=fun c=>decide (((0:Nat):Int)≤c)&&decide (c<((0:Nat):Int)+(0:Nat))) n (fun c _=>by simp[segs]);rw[this,cntTo_seg];omega
  rw[this];rfl
 |succ m ih=>
  have h1:=ih (by omega);have h2:=hs.1 m (by omega);have h3:=hin m (by omega);have e:cntTo (segs bs (m+1)) n=cntTo (segs bs m) n+cntTo (fun c=>decide ((((bth bs m).1.toNat:Nat):Int)≤c)&&decide (c<(((bth bs m).1.toNat:Nat):Int)+((bth bs m).2.toNat:Nat))) n:=by
   rw[←cntTo_or]
   ·apply cntTo_congr
    intro c _;simp only[segs];rw[show(((bth bs m).1.toNat:Nat):Int)=(bth bs m).1 by omega,show(((bth bs m).2.toNat:Nat):Int)=(bth bs m).2 by omega]
   ·rintro c _ ⟨a,b⟩
    obtain⟨j,j1,j2,j3⟩:=(segs_iff bs m c).1 a;have:=hs.2 j m j1 (by omega);simp at b;omega
  rw[e,cntTo_seg,sumTo,←h1];omega
theorem topTo_is(t:Int→Bool)(e n:Nat)(h1:1≤e)(h2:e≤n)(h3:t ((e:Int)-1)=true)(h4:∀c:Nat,e≤c→c<n→t c=false):topTo t n=e:=by
 induction n with
 |zero=>omega
 |succ n ih=>
  simp only[topTo];by_cases hn:e=n+1
  ·subst hn
   have:t n=true:=by have:=h3;rwa [show(((n+1:Nat):Int)-1)=(n:Int) by omega]at this
   rw[if_pos this]
  ·rw[if_neg (by rw[h4 n (by omega) (by omega)];simp)]
   exact ih (by omega) (fun c a b=>h4 c a (by omega))
theorem topTo_zero(t:Int→Bool)(n:Nat)(h:∀c:Nat,c<n→t c=false):topTo t n=0:=by
 induction n with
 |zero=>rfl
 |succ n ih=>
  simp only[topTo];rw[if_neg (by rw[h n (by omega)];simp)];exact ih (fun c hc=>h c (by omega))
theorem KTie.told{σ:Sp}{k:Int}{c:List Int}{bs:List (Int×Int)}(h:KTie σ k c bs):(cntTo (σ.taken k) (σ.cap k):Int)=sumTo bs bs.length∧(topTo (σ.taken k) (σ.cap k):Int)=endTo bs bs.length:=by
 have hin:=h.inn;rw[h.len]at hin;have htk:∀x,σ.taken k x=segs bs bs.length x:=fun x=>by
  rw[Bool.eq_iff_iff,h.taken x,segs_iff];rfl
 constructor
 ·rw[←cnt_sum h.sorted hin bs.length (Nat.le_refl _)]
  congr 1
  exact cntTo_congr _ (fun x _=>htk x)
 ·rcases Nat.eq_zero_or_pos bs.length with h0|h0
  ·have:topTo (σ.taken k) (σ.cap k)=0:=topTo_zero _ _ (fun x _=>by rw[htk,h0];rfl)
   rw[this,h0];rfl
  ·obtain⟨m,hm⟩:∃m,bs.length=m+1:=⟨bs.length-1,by omega⟩
   have a1:=h.sorted.1 m (by omega);have a2:=hin m (by omega);have:topTo (σ.taken k) (σ.cap k)=((bth bs m).1+(bth bs m).2).toNat:=by
    refine topTo_is _ _ _ (by omega) (by omega) ?_ (fun x b1 b2=>?_)
    ·rw[h.taken]
     exact⟨m,by omega,by omega,by omega⟩
    ·rw[←Bool.not_eq_true,h.taken]
     rintro⟨j,j1,j2,j3⟩;rcases Nat.lt_or_ge j m with hj|hj
     ·have:=h.sorted.2 j m hj (by omega)
      omega
     ·have:j=m:=by omega
      subst this;omega
   rw[this,hm,endTo];omega
theorem cap_le{σ:Sp}(h:σ.ok)(k:Int):σ.cap k≤10000:=by
 unfold Sp.cap;split
 ·exact h.n1
 ·exact h.n2
theorem xc_store{T:Tags}{o:Nat}{w:World}{p:Nat}{σ:Sp}(kind:Int)(hR:XRep T o w p σ):Calls Tryz.prog 27 #[.pointer (some ⟨p,0,none⟩),.int .i64 kind] w fun e w'=>e=.returned (.tuple #[.agg #[.int .i64 (σ.store kind).1,.int .i64 (σ.store kind).2.1,.int .i64 (σ.store kind).2.2.1],.int .i64 (σ.store kind).2.2.2])∧Step XRep T o w p σ w':=by
 have hR':=hR;obtain⟨hok,L,X,hX,hT⟩:=hR;by_cases hk:kind=1∨kind=2
 ·have c1:X.c1.length≤10000:=by rw[hT.k1.len];exact cap_le hok 1
  have c2:X.c2.length≤10000:=by rw[hT.k2.len];exact cap_le hok 2
  have l1:=hT.k1.few;have l2:=hT.k2.few;refine(xStore_some hX kind hk hT.k1.inn hT.k2.inn c1 c2 (by omega) (by omega)).mono ?_;rintro e w' ⟨rfl,hk'⟩;refine⟨?_,hR'.stay hk'⟩;have hst:σ.store kind=((σ.cap kind:Int),(cntTo (σ.taken kind) (σ.cap kind):Int),(topTo (σ.taken kind) (σ.cap kind):Int),0):=by
   unfold Sp.store;rw[if_neg (by omega)]
  rw[hst];rcases hk with rfl|rfl
  ·obtain⟨t1,t2⟩:=hT.k1.told
   simp only[t1,t2,XS.told,if_true];rw[hT.k1.len]
  ·obtain⟨t1,t2⟩:=hT.k2.told
   simp only[t1,t2,XS.told];rw[hT.k2.len];rfl
 ·have hst:σ.store kind=(0,0,0,3):=by
   unfold Sp.store;rw[if_pos (by omega)]
  rw[hst];refine(xStore_none p w kind (by omega) (by omega)).mono ?_;rintro e w' ⟨rfl,hk'⟩;exact⟨rfl,hR'.stay hk'⟩
theorem new_ktie(b i:Nat)(k:Int)(n:Nat)(h:(Sp.new b i).cap k=n):KTie (Sp.new b i) k (List.replicate n 0) []:=by
 have hv:∀j,nth ((Sp.new b i).vals k) j=0:=fun j=>by
  unfold Sp.vals Sp.new nth;split<;>simp[List.getD,List.getElem?_replicate]<;>split<;>rfl
 have ht:∀x,(Sp.new b i).taken k x=false:=fun x=>rfl
 refine⟨by simp[h],⟨fun j hj=>by simp at hj,fun j k _ hk=>by simp at hk⟩,fun j hj=>by simp at hj,fun s z=>?_,fun j hj=>?_,fun _ j hj=>?_,fun _ j hj=>?_⟩
 ·constructor
  ·rintro⟨j,hj,_⟩;simp at hj
  ·rintro⟨x,y,hx,_⟩;simp[Sp.new]at hx
 ·rw[ht]
  simp[nth,List.getD,List.getElem?_replicate];split<;>rfl
 ·rw[hv];omega
 ·rw[hv];simp[IntKind.wrap,IntKind.signed,IntKind.bits]
theorem xc_newYes(b i:Nat)(w:World)(T:Tags)(o:Nat)(hb:b≤10000)(hi:i≤10000):Calls Tryz.prog 35 #[.int .i64 (b:Int),.int .i64 (i:Int)] w fun e w'=>∃p,e=.returned (.tuple #[.pointer (some ⟨p,0,none⟩),.int .i64 0])∧∃T',TagsTo w T T'∧XRep T' o w' p (Sp.new b i)∧Kp0 w w':=by
 refine(xNew_yes b i w T o hb hi).mono ?_;rintro e w' ⟨p,rfl,hH⟩;obtain⟨L,T',h1,h2,h3,h4⟩:=hH.out;refine⟨p,rfl,T',h1,⟨new_ok b i hb hi,L,_,h3,⟨rfl,new_ktie b i 1 b rfl,new_ktie b i 2 i rfl,fun _ _=>rfl,fun h a ha=>?_,by rw[h4];rfl,fun i j b c hb=>?_⟩⟩,h2⟩
 ·simp[Sp.find,Sp.new]at ha
 ·simp[Sp.new]at hb
theorem xc_newNo(b i:Int)(w:World)(h:mayNew b i=false):Calls Tryz.prog 35 #[.int .i64 b,.int .i64 i] w fun e w'=>e=.returned (.tuple #[.pointer none,.int .i64 1])∧Kp0 w w':=
 xNew_no b i w (fun hh=>by simp[mayNew,hh]at h)
end Go.Proofs.YticbbncdcannlaaGreat
