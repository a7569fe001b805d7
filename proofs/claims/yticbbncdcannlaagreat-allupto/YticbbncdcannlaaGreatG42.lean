import Derived.Test.YticbbncdcannlaaGreatG31
import Derived.Test.YticbbncdcannlaaGreatG39
import Derived.Test.YticbbncdcannlaaGreatG41
set_option maxRecDepth 100000
set_option maxHeartbeats 8000000
namespace Go.Proofs.YticbbncdcannlaaGreat
open Go.RowKit
def Sp.without(σ:Sp)(h:Int):Sp:={σ with arrs:=σ.arrs.set (ix h) none}
theorem find_get{σ:Sp}{h:Int}{a:Arr}(hf:σ.find h=some a):1≤h∧σ.arrs[ix h]? =some (some a):=by
 unfold Sp.find at hf;split at hf
 ·rename_i h1
  refine⟨h1,?_⟩;cases e:σ.arrs[ix h]? with
  |none=>simp[List.getD,e]at hf
  |some y=>simp[List.getD,e]at hf;rw[hf]
 ·cases hf
theorem without_find{σ:Sp}{h:Int}{a:Arr}(hf:σ.find h=some a)(d:Int):(σ.without h).find d=if d=h then none else σ.find d:=by
 obtain⟨h1,h2⟩:=find_get hf;unfold Sp.find Sp.without;by_cases hd:1≤d
 ·rw[if_pos hd,if_pos hd]
  unfold List.getD;rw[List.getElem?_set];by_cases e:d=h
  ·rw[if_pos e,if_pos (by rw[e]),if_pos (List.getElem?_eq_some_iff.1 h2).1]
   rfl
  ·rw[if_neg e,if_neg (by unfold ix;omega)]
 ·rw[if_neg hd,if_neg hd,if_neg (by omega)]
theorem filter_set_none(l:List (Option Arr))(i:Nat)(a:Arr)(h:l[i]? =some (some a)):((l.set i none).filter Option.isSome).length+1=(l.filter Option.isSome).length:=by
 induction l generalizing i with
 |nil=>simp at h
 |cons x l ih=>
  cases i with
  |zero=>
   simp at h;subst h;simp
  |succ i=>
   have:=ih i (by simpa using h);rw[List.set_cons_succ];cases x<;>simp<;>omega
theorem used_iff(σ:Sp)(i:Nat):σ.used i=true↔∃d y,σ.find d=some y∧y.buf=i:=by
 constructor
 ·intro h
  unfold Sp.used usedTo at h;rw[List.take_length,List.any_eq_true]at h;obtain⟨x,hx,h1⟩:=h;obtain⟨j,hj,e⟩:=List.getElem_of_mem hx;cases x with
  |none=>simp at h1
  |some a=>
   simp at h1;refine⟨(j:Int)+1,a,?_,h1⟩;unfold Sp.find;rw[if_pos (by omega),show ix ((j:Int)+1)=j by unfold ix;omega];unfold List.getD;rw[List.getElem?_eq_getElem hj,e];rfl
 ·rintro⟨d,y,hf,rfl⟩
  exact used_of hf
theorem without_used{σ:Sp}{h:Int}{a:Arr}(hf:σ.find h=some a)(i:Nat):(σ.without h).used i=true↔∃d y,d≠h∧σ.find d=some y∧y.buf=i:=by
 rw[used_iff];constructor
 ·rintro⟨d,y,h1,h2⟩
  rw[without_find hf]at h1;split at h1
  ·cases h1
  ·rename_i e;exact⟨d,y,e,h1,h2⟩
 ·rintro⟨d,y,e,h1,h2⟩
  exact⟨d,y,by rw[without_find hf,if_neg e];exact h1,h2⟩
theorem without_used_old{σ:Sp}{h:Int}{a:Arr}(hf:σ.find h=some a){i:Nat}(hu:(σ.without h).used i=true):σ.used i=true:=by
 obtain⟨d,y,-,h1,h2⟩:=(without_used hf i).1 hu;exact(used_iff σ i).2 ⟨d,y,h1,h2⟩
theorem without_used_other{σ:Sp}{h:Int}{a:Arr}(hf:σ.find h=some a){i:Nat}(hi:i≠a.buf):(σ.without h).used i=σ.used i:=by
 rw[Bool.eq_iff_iff];refine⟨without_used_old hf,fun hu=>?_⟩;obtain⟨d,y,h1,h2⟩:=(used_iff σ i).1 hu;refine(without_used hf i).2 ⟨d,y,fun e=>?_,h1,h2⟩;subst e;rw[hf]at h1;injection h1 with h1
 subst h1;exact hi h2.symm
theorem KTie.same{σ:Sp}{k h:Int}{c:List Int}{bs:List (Int×Int)}(ht:KTie σ k c bs)(hu:∀(i:Nat) (b:Buf),σ.bufs[i]? =some b→b.kind=k→(σ.without h).used i=σ.used i):KTie (σ.without h) k c bs:=by
 have hm:∀P:Buf→Prop,(∃(i:Nat) (b:Buf),(σ.without h).bufs[i]? =some b∧(σ.without h).used i=true∧b.kind=k∧P b)↔∃(i:Nat) (b:Buf),σ.bufs[i]? =some b∧σ.used i=true∧b.kind=k∧P b:=fun P=>⟨fun⟨i,b,h1,h2,h3,h4⟩=>⟨i,b,h1,by rw[←hu i b h1 h3];exact h2,h3,h4⟩,fun⟨i,b,h1,h2,h3,h4⟩=>⟨i,b,h1,by rw[hu i b h1 h3];exact h2,h3,h4⟩⟩
 have htk:∀x,(σ.without h).taken k x=σ.taken k x:=fun x=>by
  rw[Bool.eq_iff_iff,taken_iff,taken_iff];exact hm fun b=>b.at'≤x∧x<b.at'+b.size
 refine⟨ht.len,ht.sorted,ht.inn,fun s z=>?_,fun j hj=>?_,ht.wf1,ht.wf2⟩
 ·rw[ht.mem s z];exact(hm fun b=>b.at'=s∧b.size=z).symm
 ·rw[htk];exact ht.val j hj
theorem bth_del(bs:List (Int×Int))(r j:Nat)(hr:r<bs.length):bth (bs.take r++bs.drop (r+1)) j=if j<r then bth bs j else bth bs (j+1):=by
 have hl:(bs.take r).length=r:=by simp;omega
 unfold bth List.getD;rw[List.getElem?_append];by_cases h1:j<r
 ·rw[if_pos h1,if_pos (by omega),List.getElem?_take,if_pos h1]
 ·rw[if_neg h1,if_neg (by omega),hl,List.getElem?_drop,show r+1+(j-r)=j+1 by omega]
theorem del_length(bs:List (Int×Int))(r:Nat)(hr:r<bs.length):(bs.take r++bs.drop (r+1)).length=bs.length-1:=by simp;omega
theorem nth_wipe(c:List Int)(s n j:Nat)(h:s+n≤c.length):nth (wipe c s n) j=if s≤j∧j<s+n then 0 else nth c j:=by
 have hl:(c.take s).length=s:=by simp;omega
 unfold nth wipe List.getD;rw[List.append_assoc,List.getElem?_append];by_cases h1:j<s
 ·rw[if_pos (by omega),if_neg (by omega),List.getElem?_take,if_pos h1]
 ·rw[if_neg (by omega),hl,List.getElem?_append]
  by_cases h2:j<s+n
  ·rw[if_pos (by simp;omega),if_pos (by omega),List.getElem?_replicate,if_pos (by omega)]
   rfl
  ·rw[if_neg (by simp;omega),if_neg (by omega),List.getElem?_drop,List.length_replicate,show s+n+(j-s-n)=j by omega]
theorem KTie.gone{σ:Sp}{k h:Int}{c:List Int}{bs:List (Int×Int)}{a:Arr}{b:Buf}(ht:KTie σ k c bs)(hok:σ.ok)(hap:BApart σ)(hf:σ.find h=some a)(hb:σ.bufs[a.buf]? =some b)(hk:b.kind=k)(hu:(σ.without h).used a.buf=false)(i:Nat)(hi:i<bs.length)(he:bth bs i=(b.at',b.size)):KTie (σ.without h) k (wipe c b.at'.toNat b.size.toNat) (bs.take i++bs.drop (i+1)):=by
 have hub:=used_of hf;obtain⟨-,b0,b1,b2,b3⟩:=hok.buf _ b hb;have hin:=ht.inn i hi;rw[he]at hin;have hw:b.at'.toNat+b.size.toNat≤c.length:=by
  have:=hin.2.2;simp only at this;omega
 have hgo:∀i' (b':Buf),σ.bufs[i']? =some b'→(σ.without h).used i'=true→σ.used i'=true∧i'≠a.buf∧(b'.kind=k→b'.at'+b'.size≤b.at'∨b.at'+b.size≤b'.at'):=fun i' b' hb' hu'=>by
  have hne:i'≠a.buf:=fun e=>by rw[e,hu]at hu';cases hu'
  have h1:=without_used_old hf hu';exact⟨h1,hne,fun e=>hap i' a.buf b' b hb' hb h1 hub (by rw[e,hk]) hne⟩
 refine⟨by rw[wipe_length _ _ _ hw];exact ht.len,⟨fun j hj=>?_,fun j l hjl hl=>?_⟩,fun j hj=>?_,fun s z=>?_,fun j hj=>?_,ht.wf1,ht.wf2⟩
 ·rw[del_length _ _ hi]at hj
  rw[bth_del _ _ _ hi];split
  ·exact ht.sorted.1 j (by omega)
  ·exact ht.sorted.1 (j+1) (by omega)
 ·rw[del_length _ _ hi]at hl
  rw[bth_del _ _ _ hi,bth_del _ _ _ hi];by_cases h1:j<i
  ·rw[if_pos h1]
   by_cases h2:l<i
   ·rw[if_pos h2];exact ht.sorted.2 j l hjl (by omega)
   ·rw[if_neg h2];exact ht.sorted.2 j (l+1) (by omega) (by omega)
  ·rw[if_neg h1,if_neg (by omega)]
   exact ht.sorted.2 (j+1) (l+1) (by omega) (by omega)
 ·rw[del_length _ _ hi]at hj
  rw[bth_del _ _ _ hi,wipe_length _ _ _ hw];split
  ·exact ht.inn j (by omega)
  ·exact ht.inn (j+1) (by omega)
 ·rw[del_length _ _ hi]
  constructor
  ·rintro⟨j,hj,e⟩
   rw[bth_del _ _ _ hi]at e;have:∃j',j'<bs.length∧j'≠i∧bth bs j'=(s,z):=by
    split at e
    ·exact⟨j,by omega,by omega,e⟩
    ·exact⟨j+1,by omega,by omega,e⟩
   obtain⟨j',hj',hne,e'⟩:=this;obtain⟨i',b',hb',hu',hk',h1,h2⟩:=(ht.mem s z).1 ⟨j',hj',e'⟩;refine⟨i',b',hb',?_,hk',h1,h2⟩;rw[without_used_other hf]
   ·exact hu'
   ·intro e3
    rw[e3,hb]at hb';injection hb' with hb'
    subst hb';rcases Nat.lt_or_ge i j' with hlt|hge
    ·have:=ht.sorted.2 i j' hlt hj'
     rw[he,e']at this;simp only at this;omega
    ·have:=ht.sorted.2 j' i (by omega) hi
     rw[he,e']at this;simp only at this;omega
  ·rintro⟨i',b',hb',hu',hk',h1,h2⟩
   obtain⟨g1,g2,g3⟩:=hgo i' b' hb' hu';obtain⟨j,hj,e⟩:=(ht.mem s z).2 ⟨i',b',hb',g1,hk',h1,h2⟩;have g4:=g3 hk';obtain⟨-,-,g5,-⟩:=hok.buf _ b' hb';have hne:j≠i:=fun e3=>by
    rw[e3,he]at e;injection e with e4 e5
    omega
   rcases Nat.lt_or_ge j i with hlt|hge
   ·exact⟨j,by omega,by rw[bth_del _ _ _ hi,if_pos hlt];exact e⟩
   ·exact⟨j-1,by omega,by rw[bth_del _ _ _ hi,if_neg (by omega),show j-1+1=j by omega];exact e⟩
 ·have hj':j<σ.cap k:=hj
  rw[nth_wipe _ _ _ _ hw];have htk:(σ.without h).taken k j=true↔(σ.taken k j=true∧¬(b.at'≤(j:Int)∧(j:Int)<b.at'+b.size)):=by
   rw[taken_iff,taken_iff];constructor
   ·rintro⟨i',b',hb',hu',hk',h1,h2⟩
    obtain⟨g1,g2,g3⟩:=hgo i' b' hb' hu';have g4:=g3 hk';exact⟨⟨i',b',hb',g1,hk',h1,h2⟩,by omega⟩
   ·rintro⟨⟨i',b',hb',hu',hk',h1,h2⟩,h3⟩
    refine⟨i',b',hb',?_,hk',h1,h2⟩;rw[without_used_other hf]
    ·exact hu'
    ·intro e3
     rw[e3,hb]at hb';injection hb' with hb'
     subst hb';exact h3 ⟨h1,h2⟩
  by_cases e:b.at'≤(j:Int)∧(j:Int)<b.at'+b.size
  ·rw[if_pos (by omega),if_neg (fun x=>(htk.1 x).2 e)]
  ·rw[if_neg (by omega),ht.val j hj']
   have:(σ.without h).taken k j=σ.taken k j:=by
    rw[Bool.eq_iff_iff,htk];exact⟨fun x=>x.1,fun x=>⟨x,e⟩⟩
   rw[this];rfl
theorem ATie.without{σ:Sp}{a:Arr}{x:XA}(ht:ATie σ a x)(h:Int):ATie (σ.without h) a x:=
 ⟨ht.kind,ht.ro,ht.l,ht.g,ht.cells,ht.buf⟩
theorem BApart.without{σ:Sp}{h:Int}{a:Arr}(hap:BApart σ)(hf:σ.find h=some a):BApart (σ.without h):=
 fun i j b c hb hc hi hj=>hap i j b c hb hc (without_used_old hf hi) (without_used_old hf hj)
theorem still{X:XS}{n:Nat}{σ:Sp}{h:Int}{a:Arr}{x:XA}(hT:Tie X n σ)(hok:σ.ok)(hf:σ.find h=some a)(ha:ATie σ a x):(∃d y,(X.drop h).A d=some y∧y.kind=x.kind∧y.buf=x.buf)↔(σ.without h).used a.buf=true:=by
 obtain⟨b,hb,hb1,hb2,-⟩:=ha.buf;rw[without_used hf];constructor
 ·rintro⟨d,y,h1,h2,h3⟩
  have hd:d≠h:=fun e=>by simp[XS.drop,e]at h1
  have h1':X.A d=some y:=by simpa[XS.drop,hd]using h1
  cases hfd:σ.find d with
  |none=>rw[hT.non d hfd]at h1';cases h1'
  |some y'=>
   obtain⟨y2,e2,hy⟩:=hT.som d y' hfd;rw[h1']at e2;injection e2 with e2
   subst e2;refine⟨d,y',hd,hfd,?_⟩;obtain⟨b',hb',hb1',hb2',-⟩:=hy.buf;obtain⟨-,-,g1,-⟩:=hok.buf _ b hb;obtain⟨-,-,g2,-⟩:=hok.buf _ b' hb';by_cases e:y'.buf=a.buf
   ·exact e
   ·have:=hT.apart _ _ b' b hb' hb (used_of hfd) (used_of hf) (by rw[hb2',hb2,←hy.kind,←ha.kind,h2]) e
    omega
 ·rintro⟨d,y',hd,hfd,e⟩
  obtain⟨y,hy1,hy⟩:=hT.som d y' hfd;obtain⟨b',hb',hb1',hb2',-⟩:=hy.buf;rw[e,hb]at hb';injection hb' with hb'
  subst hb';exact⟨d,y,by simpa[XS.drop,hd]using hy1,by rw[hy.kind,ha.kind,←hb2',hb2],by rw[hb1',hb1]⟩
theorem Tie.without{X X':XS}{L L':XL}{σ:Sp}{h:Int}{a:Arr}(hT:Tie X (Maps.size L.D) σ)(hf:σ.find h=some a)(hmap:Maps.Tidy L.D)(hent:XMap L.D X.A)(hD:L'.D=L.D.del (.int .i64 h))(hA:X'.A=(X.drop h).A)(hl:X'.last=X.last)(k1:KTie (σ.without h) 1 X'.c1 X'.b1)(k2:KTie (σ.without h) 2 X'.c2 X'.b2):Tie X' (Maps.size L'.D) (σ.without h):=by
 obtain⟨x,hx,hax⟩:=hT.som h a hf;refine⟨by rw[hl,hT.last];simp[Sp.without],k1,k2,fun d hd=>?_,fun d y hd=>?_,?_,hT.apart.without hf⟩
 ·rw[without_find hf]at hd
  rw[hA];show(if d=h then none else X.A d)=none;split
  ·rfl
  ·rename_i e
   rw[if_neg e]at hd;exact hT.non d hd
 ·rw[without_find hf]at hd
  split at hd
  ·cases hd
  ·rename_i e
   obtain⟨x',h1,h2⟩:=hT.som d y hd;refine⟨x',?_,h2.without h⟩;rw[hA];show(if d=h then none else X.A d)=_;rw[if_neg e];exact h1
 ·have h1:=Maps.size_del hmap (k:=.int .i64 h)
  rw[(hent.som h x hx).2.1,if_pos rfl]at h1;rw[hD];have h2:=filter_set_none σ.arrs (ix h) a (find_get hf).2;have h3:=hT.live;show _=((σ.arrs.set (ix h) none).filter Option.isSome).length;unfold Sp.live at h3;omega
theorem xc_free{T:Tags}{o:Nat}{w:World}{p:Nat}{σ:Sp}(h:Int)(hR:XRep T o w p σ):Calls Tryz.prog 25 #[.pointer (some ⟨p,0,none⟩),.int .i64 h] w fun e w'=>e=.returned (.int .i64 (σ.free h).2)∧Step XRep T o w p (σ.free h).1 w':=by
 have hR':=hR;obtain⟨hok,L,X,hX,hT⟩:=hR;cases hf:σ.find h with
 |none=>
  have hres:σ.free h=(σ,2):=by unfold Sp.free;rw[hf]
  rw[hres];refine(xFree_none hX h (hT.non h hf)).mono ?_;rintro e w' ⟨rfl,hk⟩;exact⟨rfl,hR'.stay hk⟩
 |some a=>
  have hres:σ.free h=(σ.without h,0):=by unfold Sp.free;rw[hf];rfl
  have hok':(σ.without h).ok:=by have:=free_ok hok h;rw[hres]at this;exact this
  rw[hres];obtain⟨x,hx,hax⟩:=hT.som h a hf;obtain⟨b,hb,hb1,hb2,-⟩:=hax.buf;obtain⟨bk,b0,b4,b5,b6⟩:=hok.buf _ b hb;have htidy:=hX.map.tidy Tryz.lawInt;have hst:=still hT hok hf hax;have hka:=hax.kind;cases hu:(σ.without h).used a.buf with
  |true=>
   have hsame:∀k c bs,KTie σ k c bs→KTie (σ.without h) k c bs:=fun k c bs ht=>ht.same fun i b' hb' _=>by
    by_cases e:i=a.buf
    ·rw[e,hu,used_of hf]
    ·exact without_used_other hf e
   have hT':Tie (X.drop h) (Maps.size ({L with D:=L.D.del (.int .i64 h)}:XL).D) (σ.without h):=Tie.without (L':={L with D:=L.D.del (.int .i64 h)}) hT hf htidy hX.ent rfl rfl rfl (hsame _ _ _ hT.k1) (hsame _ _ _ hT.k2);rcases bk with hk|hk
   ·refine(xFreeUsedB hX h x hx (by rw[hka,←hb2];exact hk) (hst.2 hu)).mono ?_
    rintro e w' ⟨rfl,hk',hX'⟩;exact⟨rfl,T,fun _ _=>rfl,⟨hok',_,_,hX',hT'⟩,hk'⟩
   ·refine(xFreeUsedI hX h x hx (by rw[hka,←hb2];exact hk) (hst.2 hu)).mono ?_
    rintro e w' ⟨rfl,hk',hX'⟩;exact⟨rfl,T,fun _ _=>rfl,⟨hok',_,_,hX',hT'⟩,hk'⟩
  |false=>
   have hnu:¬∃d y,(X.drop h).A d=some y∧y.kind=x.kind∧y.buf=x.buf:=fun e=>by rw[hst.1 e]at hu;cases hu
   have hoth:∀k c bs,k≠b.kind→KTie σ k c bs→KTie (σ.without h) k c bs:=fun k c bs hk ht=>ht.same fun i b' hb' hk'=>by
    refine without_used_other hf fun e=>?_
    rw[e,hb]at hb';injection hb' with hb'
    subst hb';exact hk hk'.symm
   rcases bk with hk|hk
   ·obtain⟨i,hi,he⟩:=(hT.k1.mem b.at' b.size).2 ⟨a.buf,b,hb,used_of hf,hk,rfl,rfl⟩
    have hc:=cap_le hok 1;have hl:=hT.k1.len;have hfew:=hT.k1.few;have he1:(bth X.b1 i).1=x.buf:=by rw[he,hb1]
    have hgone:=hT.k1.gone hok hT.apart hf hb hk hu i hi he;refine(xFreeLastB hX h x hx (by rw[hka,←hb2];exact hk) hnu i hi he1 (fun j hj e=>?_) hT.k1.inn (by rw[he];exact b4) (by omega) (by omega)).mono ?_
    ·have h1:=hT.k1.sorted.2 j i hj hi
     have h2:=(hT.k1.sorted.1 j (by omega)).2;rw[he1]at h1;omega
    ·rintro e w' ⟨rfl,hk',L',hX',hD⟩
     refine⟨rfl,T,fun _ _=>rfl,⟨hok',L',_,hX',?_⟩,hk'⟩;rw[he,hb1];exact Tie.without hT hf htidy hX.ent hD rfl rfl hgone (hoth _ _ _ (by omega) hT.k2)
   ·obtain⟨i,hi,he⟩:=(hT.k2.mem b.at' b.size).2 ⟨a.buf,b,hb,used_of hf,hk,rfl,rfl⟩
    have hc:=cap_le hok 2;have hl:=hT.k2.len;have hfew:=hT.k2.few;have he1:(bth X.b2 i).1=x.buf:=by rw[he,hb1]
    have hgone:=hT.k2.gone hok hT.apart hf hb hk hu i hi he;refine(xFreeLastI hX h x hx (by rw[hka,←hb2];exact hk) hnu i hi he1 (fun j hj e=>?_) hT.k2.inn (by rw[he];exact b4) (by omega) (by omega)).mono ?_
    ·have h1:=hT.k2.sorted.2 j i hj hi
     have h2:=(hT.k2.sorted.1 j (by omega)).2;rw[he1]at h1;omega
    ·rintro e w' ⟨rfl,hk',L',hX',hD⟩
     refine⟨rfl,T,fun _ _=>rfl,⟨hok',L',_,hX',?_⟩,hk'⟩;rw[he,hb1];exact Tie.without hT hf htidy hX.ent hD rfl rfl (hoth _ _ _ (by omega) hT.k1) hgone
end Go.Proofs.YticbbncdcannlaaGreat
namespace Go.Proofs.YticbbncdcannlaaGreat
open Go.RowKit Go.Maps Go.ChangeMaps Go.MapKept
theorem Tryz.mkArr1(W:World):(Instr.makeSlice 99 (.int .i64 1) (.int .i64 1)).run Tryz.prog W=.ok (.slice (some ⟨W.heap.size,0,none⟩) 1 1) (W.alloc (.cells xaZ 109)):=by kernel_rfl
theorem Tryz.mkArr2(W:World):(Instr.makeSlice 99 (.int .i64 2) (.int .i64 2)).run Tryz.prog W=.ok (.slice (some ⟨W.heap.size,0,none⟩) 2 2) (W.alloc (.cells (xaZ++xaZ) 109)):=by kernel_rfl
theorem Tryz.mkVal1(W:World):(Instr.makeSlice 25 (.int .i64 1) (.int .i64 1)).run Tryz.prog W=.ok (.slice (some ⟨W.heap.size,0,none⟩) 1 1) (W.alloc (.cells #[.slice none 0 0] 26)):=by kernel_rfl
theorem Tryz.mkVal2(W:World):(Instr.makeSlice 25 (.int .i64 2) (.int .i64 2)).run Tryz.prog W=.ok (.slice (some ⟨W.heap.size,0,none⟩) 2 2) (W.alloc (.cells #[.slice none 0 0,.slice none 0 0] 26)):=by kernel_rfl
theorem xfindAll1_no0{T:Tags}{o:Nat}{w:World}{p:Nat}{L:XL}{X:XS}(h:XAt T o w p L X)(a:Int)(vh:Value)(hr:RdI w vh [a])(hn:X.A a=none):Calls Tryz.prog 50 #[.pointer (some ⟨p,0,none⟩),vh] w fun e w'=>e=.returned (.tuple #[.slice none 0 0,.int .i64 2])∧Kp0 w w':=by
 obtain⟨A,c,rfl,hp⟩:=rd_parts hr;obtain⟨g0,o0,rfl,hc⟩:=hp (by simp);have r0:w.cell? ⟨g0,o0,none⟩=some (.int .i64 a):=hc 0 (by simp);have HF0:Hid (∀W,Kp0 w W→Calls Tryz.prog 52 #[.pointer (some ⟨p,0,none⟩),.int .i64 a] W fun e w'=>e=.returned (.tuple #[.agg xaZ,.nilIface,.int .i64 2])∧Kp0 W w'):=fun W k=>xfind_none (h.kp0 k) a hn
 have hmk:=Tryz.mkArr1;have HB0:Hid ((w.alloc (.cells xaZ 109)).heap[w.heap.size]? =some (.cells xaZ 109 (0,0))):=heap_alloc_new w _;have HK0:Hid (Kp0 w (w.alloc (.cells xaZ 109))):=(Kp.refl _ w).alloc _;clear h hr hp hc hn;go_enter Tryz.func50,Tryz.ntmps50
 go_wp2
 generalize w.alloc (.cells xaZ 109)=W at HB0 HK0⊢;obtain⟨b0,hb0⟩:∃b0,w.heap.size=b0:=⟨_,rfl⟩;rw[hb0]at HB0⊢;have HBB:=hid hb0;clear hb0 hmk
 go_loopw [17] (fun t w'=>((t=.int .i64 0∧Hid (w'.heap[b0]? =some (.cells xaZ 109 (0,0)))))∧Hid (Kp0 w w')) (fun t _=>1-(intOf t).toNat)
 case atStart=>exact⟨⟨rfl,HB0⟩,HK0⟩
 case round=>
  clear HB0 HK0;obtain⟨⟨rfl,HB⟩,HK⟩:=hrel;have q1:=HK.out.cell r0
  go_wp2_with fail
  refine(HF0.out _ HK.out).mono ?_;rintro e w2 ⟨rfl,hw⟩;have HK2:Hid (Kp0 w w2):=Kp0.trans HK.out hw;clear hw q1;unfold xaZ;go_wp2
  go_ret2
  exact⟨rfl,HK2.out.alloc _⟩
theorem xfindAll1_yes{T:Tags}{o:Nat}{w:World}{p:Nat}{L:XL}{X:XS}(h:XAt T o w p L X)(a:Int)(vh:Value)(hr:RdI w vh [a])(x:XA)(hAx:X.A a=some x)(hkx:x.kind=1∨x.kind=2):Calls Tryz.prog 50 #[.pointer (some ⟨p,0,none⟩),vh] w fun e w'=>∃g,e=.returned (.tuple #[.slice (some ⟨g,0,none⟩) 1 1,.int .i64 0])∧Kp0 w w'∧w'.heap[g]? =some (.cells x.cs 109 (0,0))∧w.heap.size≤g:=by
 obtain⟨A,c,rfl,hp⟩:=rd_parts hr;obtain⟨g0,o0,rfl,hc⟩:=hp (by simp);have r0:w.cell? ⟨g0,o0,none⟩=some (.int .i64 a):=hc 0 (by simp);have HF0:Hid (∀W,Kp0 w W→Calls Tryz.prog 52 #[.pointer (some ⟨p,0,none⟩),.int .i64 a] W fun e w'=>∃I,e=.returned (.tuple #[.agg x.cs,I,.int .i64 0])∧Kp0 W w'):=fun W k=>(xfind_some (h.kp0 k) a x hAx hkx).mono (fun e w' hh=>⟨_,hh⟩)
 have hmk:=Tryz.mkArr1;have HB0:Hid ((w.alloc (.cells xaZ 109)).heap[w.heap.size]? =some (.cells xaZ 109 (0,0))):=heap_alloc_new w _;have HK0:Hid (Kp0 w (w.alloc (.cells xaZ 109))):=(Kp.refl _ w).alloc _;clear h hr hp hc hAx hkx;go_enter Tryz.func50,Tryz.ntmps50
 go_wp2
 generalize w.alloc (.cells xaZ 109)=W at HB0 HK0⊢;obtain⟨b0,hb0⟩:∃b0,w.heap.size=b0:=⟨_,rfl⟩;rw[hb0]at HB0⊢;have HBB:=hid hb0;clear hb0 hmk
 go_loopw [17] (fun t w'=>((t=.int .i64 0∧Hid (w'.heap[b0]? =some (.cells xaZ 109 (0,0))))∨(t=.int .i64 1∧Hid (w'.heap[b0]? =some (.cells x.cs 109 (0,0)))))∧Hid (Kp0 w w')) (fun t _=>1-(intOf t).toNat)
 case atStart=>exact⟨.inl ⟨rfl,HB0⟩,HK0⟩
 case round=>
  clear HB0 HK0;obtain⟨hrel,HK⟩:=hrel;rcases hrel with⟨rfl,HB⟩|⟨rfl,HB⟩
  ·have q1:=HK.out.cell r0
   go_wp2_with fail
   refine(HF0.out _ HK.out).mono ?_;rintro e w2 ⟨I,rfl,hw⟩;have HK2:Hid (Kp0 w w2):=Kp0.trans HK.out hw;have HB2:=hid (hw.heap HB.out);have hlt:b0<w2.heap.size:=lt_of_heap HB2.out;have HBW:Hid (∀O,(w2.alloc O).heap[b0]? =_):=fun O=>heap_alloc_keeps HB2.out O
   clear hw q1;unfold XA.cs
   go_wp2_with (refine wpList_storeMid _ rfl 109 109 (.tmp 35) _ rfl b0 0 _ _ rfl rfl (HBW.out _) Tryz.szArr (by simp[xaZ]) (all13 rfl rfl rfl rfl rfl rfl rfl rfl rfl rfl rfl rfl rfl) ?_;intro w5 hB5 hK5)
   have HK5:Hid (Kp0 w w5):=Kp.trans (HK2.out.alloc _) hK5 (fun i hi e=>by have:=HBB.out;omega);have HB5:Hid (w5.heap[b0]? =some (.cells x.cs 109 (0,0))):=hB5;clear hB5 hK5;go_wp2
   go_roundw
   case rel=>exact⟨.inr (⟨by go_num,HB5⟩),HK5⟩
   case measure=>simp[intOf]
  ·go_wp2
   go_ret2
   exact⟨b0,rfl,HK.out,HB.out,by have:=HBB.out;omega⟩
theorem xfindAll2_no0{T:Tags}{o:Nat}{w:World}{p:Nat}{L:XL}{X:XS}(h:XAt T o w p L X)(a b:Int)(vh:Value)(hr:RdI w vh [a,b])(hn:X.A a=none):Calls Tryz.prog 50 #[.pointer (some ⟨p,0,none⟩),vh] w fun e w'=>e=.returned (.tuple #[.slice none 0 0,.int .i64 2])∧Kp0 w w':=by
 obtain⟨A,c,rfl,hp⟩:=rd_parts hr;obtain⟨g0,o0,rfl,hc⟩:=hp (by simp);have r0:w.cell? ⟨g0,o0,none⟩=some (.int .i64 a):=hc 0 (by simp);have r1:w.cell? ⟨g0,o0+1,none⟩=some (.int .i64 b):=hc 1 (by simp);have HF0:Hid (∀W,Kp0 w W→Calls Tryz.prog 52 #[.pointer (some ⟨p,0,none⟩),.int .i64 a] W fun e w'=>e=.returned (.tuple #[.agg xaZ,.nilIface,.int .i64 2])∧Kp0 W w'):=fun W k=>xfind_none (h.kp0 k) a hn
 have hmk:=Tryz.mkArr2;have HB0:Hid ((w.alloc (.cells (xaZ++xaZ) 109)).heap[w.heap.size]? =some (.cells (xaZ++xaZ) 109 (0,0))):=heap_alloc_new w _;have HK0:Hid (Kp0 w (w.alloc (.cells (xaZ++xaZ) 109))):=(Kp.refl _ w).alloc _;clear h hr hp hc hn;go_enter Tryz.func50,Tryz.ntmps50
 go_wp2
 generalize w.alloc (.cells (xaZ++xaZ) 109)=W at HB0 HK0⊢;obtain⟨b0,hb0⟩:∃b0,w.heap.size=b0:=⟨_,rfl⟩;rw[hb0]at HB0⊢;have HBB:=hid hb0;clear hb0 hmk
 go_loopw [17] (fun t w'=>((t=.int .i64 0∧Hid (w'.heap[b0]? =some (.cells (xaZ++xaZ) 109 (0,0)))))∧Hid (Kp0 w w')) (fun t _=>2-(intOf t).toNat)
 case atStart=>exact⟨⟨rfl,HB0⟩,HK0⟩
 case round=>
  clear HB0 HK0;obtain⟨⟨rfl,HB⟩,HK⟩:=hrel;have q1:=HK.out.cell r0
  go_wp2_with fail
  refine(HF0.out _ HK.out).mono ?_;rintro e w2 ⟨rfl,hw⟩;have HK2:Hid (Kp0 w w2):=Kp0.trans HK.out hw;clear hw q1;unfold xaZ;go_wp2
  go_ret2
  exact⟨rfl,HK2.out.alloc _⟩
theorem xfindAll2_no1{T:Tags}{o:Nat}{w:World}{p:Nat}{L:XL}{X:XS}(h:XAt T o w p L X)(a b:Int)(vh:Value)(hr:RdI w vh [a,b])(x:XA)(hAx:X.A a=some x)(hkx:x.kind=1∨x.kind=2)(hn:X.A b=none):Calls Tryz.prog 50 #[.pointer (some ⟨p,0,none⟩),vh] w fun e w'=>e=.returned (.tuple #[.slice none 0 0,.int .i64 2])∧Kp0 w w':=by
 obtain⟨A,c,rfl,hp⟩:=rd_parts hr;obtain⟨g0,o0,rfl,hc⟩:=hp (by simp);have r0:w.cell? ⟨g0,o0,none⟩=some (.int .i64 a):=hc 0 (by simp);have r1:w.cell? ⟨g0,o0+1,none⟩=some (.int .i64 b):=hc 1 (by simp);have HF0:Hid (∀W,Kp0 w W→Calls Tryz.prog 52 #[.pointer (some ⟨p,0,none⟩),.int .i64 a] W fun e w'=>∃I,e=.returned (.tuple #[.agg x.cs,I,.int .i64 0])∧Kp0 W w'):=fun W k=>(xfind_some (h.kp0 k) a x hAx hkx).mono (fun e w' hh=>⟨_,hh⟩)
 have HF1:Hid (∀W,Kp0 w W→Calls Tryz.prog 52 #[.pointer (some ⟨p,0,none⟩),.int .i64 b] W fun e w'=>e=.returned (.tuple #[.agg xaZ,.nilIface,.int .i64 2])∧Kp0 W w'):=fun W k=>xfind_none (h.kp0 k) b hn
 have hmk:=Tryz.mkArr2;have HB0:Hid ((w.alloc (.cells (xaZ++xaZ) 109)).heap[w.heap.size]? =some (.cells (xaZ++xaZ) 109 (0,0))):=heap_alloc_new w _;have HK0:Hid (Kp0 w (w.alloc (.cells (xaZ++xaZ) 109))):=(Kp.refl _ w).alloc _;clear h hr hp hc hAx hkx hn;go_enter Tryz.func50,Tryz.ntmps50
 go_wp2
 generalize w.alloc (.cells (xaZ++xaZ) 109)=W at HB0 HK0⊢;obtain⟨b0,hb0⟩:∃b0,w.heap.size=b0:=⟨_,rfl⟩;rw[hb0]at HB0⊢;have HBB:=hid hb0;clear hb0 hmk
 go_loopw [17] (fun t w'=>((t=.int .i64 0∧Hid (w'.heap[b0]? =some (.cells (xaZ++xaZ) 109 (0,0))))∨(t=.int .i64 1∧Hid (w'.heap[b0]? =some (.cells (x.cs++xaZ) 109 (0,0)))))∧Hid (Kp0 w w')) (fun t _=>2-(intOf t).toNat)
 case atStart=>exact⟨.inl ⟨rfl,HB0⟩,HK0⟩
 case round=>
  clear HB0 HK0;obtain⟨hrel,HK⟩:=hrel;rcases hrel with⟨rfl,HB⟩|⟨rfl,HB⟩
  ·have q1:=HK.out.cell r0
   go_wp2_with fail
   refine(HF0.out _ HK.out).mono ?_;rintro e w2 ⟨I,rfl,hw⟩;have HK2:Hid (Kp0 w w2):=Kp0.trans HK.out hw;have HB2:=hid (hw.heap HB.out);have hlt:b0<w2.heap.size:=lt_of_heap HB2.out;have HBW:Hid (∀O,(w2.alloc O).heap[b0]? =_):=fun O=>heap_alloc_keeps HB2.out O
   clear hw q1;unfold XA.cs
   go_wp2_with (refine wpList_storeMid _ rfl 109 109 (.tmp 35) _ rfl b0 0 _ _ rfl rfl (HBW.out _) Tryz.szArr (by simp[xaZ]) (all13 rfl rfl rfl rfl rfl rfl rfl rfl rfl rfl rfl rfl rfl) ?_;intro w5 hB5 hK5)
   have HK5:Hid (Kp0 w w5):=Kp.trans (HK2.out.alloc _) hK5 (fun i hi e=>by have:=HBB.out;omega);have HB5:Hid (w5.heap[b0]? =some (.cells (x.cs++xaZ) 109 (0,0))):=hB5;clear hB5 hK5;go_wp2
   go_roundw
   case rel=>exact⟨.inr (⟨by go_num,HB5⟩),HK5⟩
   case measure=>simp[intOf]
  ·have q1:=HK.out.cell r1
   go_wp2_with fail
   refine(HF1.out _ HK.out).mono ?_;rintro e w2 ⟨rfl,hw⟩;have HK2:Hid (Kp0 w w2):=Kp0.trans HK.out hw;clear hw q1;unfold xaZ;go_wp2
   go_ret2
   exact⟨rfl,HK2.out.alloc _⟩
theorem xfindAll2_yes{T:Tags}{o:Nat}{w:World}{p:Nat}{L:XL}{X:XS}(h:XAt T o w p L X)(a b:Int)(vh:Value)(hr:RdI w vh [a,b])(x:XA)(hAx:X.A a=some x)(hkx:x.kind=1∨x.kind=2)(y:XA)(hAy:X.A b=some y)(hky:y.kind=1∨y.kind=2):Calls Tryz.prog 50 #[.pointer (some ⟨p,0,none⟩),vh] w fun e w'=>∃g,e=.returned (.tuple #[.slice (some ⟨g,0,none⟩) 2 2,.int .i64 0])∧Kp0 w w'∧w'.heap[g]? =some (.cells (x.cs++y.cs) 109 (0,0))∧w.heap.size≤g:=by
 obtain⟨A,c,rfl,hp⟩:=rd_parts hr;obtain⟨g0,o0,rfl,hc⟩:=hp (by simp);have r0:w.cell? ⟨g0,o0,none⟩=some (.int .i64 a):=hc 0 (by simp);have r1:w.cell? ⟨g0,o0+1,none⟩=some (.int .i64 b):=hc 1 (by simp);have HF0:Hid (∀W,Kp0 w W→Calls Tryz.prog 52 #[.pointer (some ⟨p,0,none⟩),.int .i64 a] W fun e w'=>∃I,e=.returned (.tuple #[.agg x.cs,I,.int .i64 0])∧Kp0 W w'):=fun W k=>(xfind_some (h.kp0 k) a x hAx hkx).mono (fun e w' hh=>⟨_,hh⟩)
 have HF1:Hid (∀W,Kp0 w W→Calls Tryz.prog 52 #[.pointer (some ⟨p,0,none⟩),.int .i64 b] W fun e w'=>∃I,e=.returned (.tuple #[.agg y.cs,I,.int .i64 0])∧Kp0 W w'):=fun W k=>(xfind_some (h.kp0 k) b y hAy hky).mono (fun e w' hh=>⟨_,hh⟩)
 have hmk:=Tryz.mkArr2;have HB0:Hid ((w.alloc (.cells (xaZ++xaZ) 109)).heap[w.heap.size]? =some (.cells (xaZ++xaZ) 109 (0,0))):=heap_alloc_new w _;have HK0:Hid (Kp0 w (w.alloc (.cells (xaZ++xaZ) 109))):=(Kp.refl _ w).alloc _;clear h hr hp hc hAx hkx hAy hky;go_enter Tryz.func50,Tryz.ntmps50
 go_wp2
 generalize w.alloc (.cells (xaZ++xaZ) 109)=W at HB0 HK0⊢;obtain⟨b0,hb0⟩:∃b0,w.heap.size=b0:=⟨_,rfl⟩;rw[hb0]at HB0⊢;have HBB:=hid hb0;clear hb0 hmk
 go_loopw [17] (fun t w'=>((t=.int .i64 0∧Hid (w'.heap[b0]? =some (.cells (xaZ++xaZ) 109 (0,0))))∨(t=.int .i64 1∧Hid (w'.heap[b0]? =some (.cells (x.cs++xaZ) 109 (0,0))))∨(t=.int .i64 2∧Hid (w'.heap[b0]? =some (.cells (x.cs++y.cs) 109 (0,0)))))∧Hid (Kp0 w w')) (fun t _=>2-(intOf t).toNat)
 case atStart=>exact⟨.inl ⟨rfl,HB0⟩,HK0⟩
 case round=>
  clear HB0 HK0;obtain⟨hrel,HK⟩:=hrel;rcases hrel with⟨rfl,HB⟩|⟨rfl,HB⟩|⟨rfl,HB⟩
  ·have q1:=HK.out.cell r0
   go_wp2_with fail
   refine(HF0.out _ HK.out).mono ?_;rintro e w2 ⟨I,rfl,hw⟩;have HK2:Hid (Kp0 w w2):=Kp0.trans HK.out hw;have HB2:=hid (hw.heap HB.out);have hlt:b0<w2.heap.size:=lt_of_heap HB2.out;have HBW:Hid (∀O,(w2.alloc O).heap[b0]? =_):=fun O=>heap_alloc_keeps HB2.out O
   clear hw q1;unfold XA.cs
   go_wp2_with (refine wpList_storeMid _ rfl 109 109 (.tmp 35) _ rfl b0 0 _ _ rfl rfl (HBW.out _) Tryz.szArr (by simp[xaZ]) (all13 rfl rfl rfl rfl rfl rfl rfl rfl rfl rfl rfl rfl rfl) ?_;intro w5 hB5 hK5)
   have HK5:Hid (Kp0 w w5):=Kp.trans (HK2.out.alloc _) hK5 (fun i hi e=>by have:=HBB.out;omega);have HB5:Hid (w5.heap[b0]? =some (.cells (x.cs++xaZ) 109 (0,0))):=hB5;clear hB5 hK5;go_wp2
   go_roundw
   case rel=>exact⟨.inr (.inl ⟨by go_num,HB5⟩),HK5⟩
   case measure=>simp[intOf]
  ·have q1:=HK.out.cell r1
   go_wp2_with fail
   refine(HF1.out _ HK.out).mono ?_;rintro e w2 ⟨I,rfl,hw⟩;have HK2:Hid (Kp0 w w2):=Kp0.trans HK.out hw;have HB2:=hid (hw.heap HB.out);have hlt:b0<w2.heap.size:=lt_of_heap HB2.out;have HBW:Hid (∀O,(w2.alloc O).heap[b0]? =_):=fun O=>heap_alloc_keeps HB2.out O
   clear hw q1;unfold XA.cs
   go_wp2_with (refine wpList_storeMid _ rfl 109 109 (.tmp 35) _ rfl b0 13 _ _ rfl rfl (HBW.out _) Tryz.szArr (by simp[xaZ,XA.cs]) (all13 rfl rfl rfl rfl rfl rfl rfl rfl rfl rfl rfl rfl rfl) ?_;intro w5 hB5 hK5)
   have HK5:Hid (Kp0 w w5):=Kp.trans (HK2.out.alloc _) hK5 (fun i hi e=>by have:=HBB.out;omega);have HB5:Hid (w5.heap[b0]? =some (.cells (x.cs++y.cs) 109 (0,0))):=hB5;clear hB5 hK5;go_wp2
   go_roundw
   case rel=>exact⟨.inr (.inr (⟨by go_num,HB5⟩)),HK5⟩
   case measure=>simp[intOf]
  ·go_wp2
   go_ret2
   exact⟨b0,rfl,HK.out,HB.out,by have:=HBB.out;omega⟩
end Go.Proofs.YticbbncdcannlaaGreat
