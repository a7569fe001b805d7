import Derived.Test.YticbbncdcannlaaGreatG30
import Derived.Test.YticbbncdcannlaaGreatG23
import Derived.Test.YticbbncdcannlaaGreatG29
import Derived.Test.YticbbncdcannlaaGreatG21
set_option maxRecDepth 100000
set_option maxHeartbeats 8000000
namespace Go.Proofs.YticbbncdcannlaaGreat
open Go.RowKit Go.Maps Go.ChangeMaps Go.MapKept
theorem Tryz.mTakeI(a:Addr)(x:Value)(w:World):(callMethod (.iface 127 (.pointer (some a))) "Take" #[x]).run Tryz.prog w=.ok (.enter 217 #[.pointer (some a),x]) w:=by kernel_rfl
theorem Tryz.nTakeI(a:Addr)(w:World):(nilAhead 367 127 (.pointer (some a)) "Take").run Tryz.prog w=.ok (some false) w:=by kernel_rfl
def XS.bufsI(X:XS)(bs:List (Int×Int)):XS:={X with b2:=bs}
theorem XAt.bufsI{T:Tags}{o:Nat}{w w':World}{p:Nat}{L:XL}{X:XS}(h:XAt T o w p L X)(k:Kp (fun b=>b=L.q2∨L.vb2.ownBlock=some b) w w'){vb':Value}{bs:List (Int×Int)}(hs:StAtI w' L.q2 L.g2 vb' X.c2 bs)(hn:∀b,vb'.ownBlock=some b→L.vb2.ownBlock=some b∨w.heap.size≤b):XAt (retag w T (o,7)) o w' p {L with vb2:=vb'} (X.bufsI bs):=by
 have ht:=retag_to w T (o,7);have h':=h.tags ht;have ne:∀{b n},T b=(o,n)→n≠5→n≠7→¬(b=L.q2∨L.vb2.ownBlock=some b):=fun{b n} hb h1 h2 e=>by
  rcases e with e|e
  ·rw[e,h.tq2]at hb;simp at hb;omega
  ·rw[h.tb2 b e]at hb;simp at hb;omega
 refine⟨k.heap h.blk (ne h.tp (by omega) (by omega)),h.s1.kp k (ne h.tq1 (by omega) (by omega)) (ne h.tg1 (by omega) (by omega)) (fun b hb=>ne (h.tb1 b hb) (by omega) (by omega)),hs,map_kp h.map k (ne h.tm (by omega) (by omega)),h.ent,h'.tp,h'.tq1,h'.tg1,h'.tb1,h'.tq2,h'.tg2,fun b hb=>?_,h'.tm⟩;rcases hn b hb with e|e
 ·exact h'.tb2 b e
 ·exact retag_new e
theorem xwholeFullI{T:Tags}{o:Nat}{w:World}{p:Nat}{L:XL}{X:XS}(h:XAt T o w p L X)(l:List Int)(hl:okShape l)(hm:¬40≤Maps.size L.D)(hin:bufsIn X.c2.length X.b2)(hc:X.c2.length≤10000)(hbl:X.b2.length≤1000000)(hfull:(X.c2.length:Int)<(low (vol l) X.b2).1+vol l):Calls Tryz.prog 63 #[.pointer (some ⟨p,0,none⟩),.int .i64 2,L.inV 2,.agg (shC l).toArray] w fun e w'=>e=.returned (.tuple #[.int .i64 0,.int .i64 8])∧Kp0 w w':=by
 have HM:=hid (fun W (k:Kp0 w W)=>xisMany_calls (h.kp0 k));rw[show decide (40≤Maps.size L.D)=false by simp[hm]]at HM;have hv:=vol_bd l hl.2.1 hl.1 l.length (Nat.le_refl _);rw[List.take_length]at hv;obtain⟨lb1,lb2,lb3⟩:=low_bd (vol l) hin (by omega);have HV:Hid (∀W,Kp0 w W→Calls Tryz.prog 57 #[.agg (shC l).toArray] W fun e w'=>∃v,e=.returned v∧(v=.int .i64 (vol l)∧Kp0 w w')):=fun W k=>(xvolume_calls l W hl.2.1 hl.1).mono (fun e w' h=>⟨_,h.1,rfl,Kp0.trans k h.2⟩)
 have HT:Hid (∀W,Kp0 w W→Calls Tryz.prog 217 #[.pointer (some ⟨L.q2,0,none⟩),.int .i64 (vol l)] W fun e w'=>∃v,e=.returned v∧(v=.tuple #[.int .i64 0,.bool false]∧Kp0 w w')):=fun W k=>(xTakeNoI_calls (h.kp0 k).s2 (vol l) (by omega) (by have:=hl.2.2;omega) hin hc hbl (low (vol l) X.b2).1 (low (vol l) X.b2).2 rfl lb1 (by omega) hfull).mono (fun e w' h=>⟨_,h.1,rfl,Kp0.trans k h.2⟩)
 have HI:Hid (L.inV 2=.iface 127 (.pointer (some ⟨L.q2,0,none⟩))):=rfl;rw[HI.out];unfold shC at HV⊢;generalize vol l=vl at*;clear h hin hfull lb1 lb2 lb3 hv;have HMR:=hid (Tryz.mTakeI ⟨L.q2,0,none⟩);have hna:=Tryz.nTakeI ⟨L.q2,0,none⟩;go_enter Tryz.func63,Tryz.ntmps63
 go_wp2_with fail
 refine(HM.out _ ((Kp.refl _ w).alloc _)).mono ?_;rintro e w2 ⟨rfl,hw⟩;obtain rfl:=hw.symm;have HKW:Hid (Kp0 w (w.alloc (.cells #[.int .i64 (nth l 0),.int .i64 (nth l 1),.int .i64 (nth l 2),.int .i64 (nth l 3),.int .i64 (l.length:Int)] 104))):=(Kp.refl _ w).alloc _;have HB:Hid ((w.alloc (.cells #[.int .i64 (nth l 0),.int .i64 (nth l 1),.int .i64 (nth l 2),.int .i64 (nth l 3),.int .i64 (l.length:Int)] 104)).heap[w.heap.size]? =some (.cells #[.int .i64 (nth l 0),.int .i64 (nth l 1),.int .i64 (nth l 2),.int .i64 (nth l 3),.int .i64 (l.length:Int)] 104 (0,0))):=heap_alloc_new w _;go_wp2
 generalize w.alloc (.cells #[.int .i64 (nth l 0),.int .i64 (nth l 1),.int .i64 (nth l 2),.int .i64 (nth l 3),.int .i64 (l.length:Int)] 104)=W at HB HKW⊢;generalize w.heap.size=b at HB⊢;obtain⟨z0,z1,z2,z3,z4⟩:=cells5 HB.out;have HKD:Hid (Kp0 w W.drew):=HKW.out.drew
 go_region_law ((first
  |(refine step_call1 (by rfl) 57 (.tmp 16) _ (by rfl) _ Tryz.func57 (by kernel_rfl) (by kernel_rfl) _ (by rfl) (HV.out _ HKD.out) ?_;intro v7 w7 hR;obtain⟨rfl,hk7⟩:=hR)
  |(refine step_invoke1 (by rfl) (.tmp 20) "Take" (.tmp 17) _ (by rfl) _ _ (by rfl) (by rfl) _ _ (HMR.out (.int .i64 vl) w7) (HT.out w7 hk7) ?_;intro v8 w8 hR8;obtain⟨rfl,hk8⟩:=hR8)))
 all_goals
  have HK8:=hid hk8;clear hk7 hk8;go_wp2
  go_ret2
  exact⟨rfl,HK8.out⟩
def XS.wholeI(X:XS)(l t:List Int):XS:=(X.bufsI (addB X.b2 (low (vol l) X.b2).2 ((low (vol l) X.b2).1,vol l))).more ⟨2,(low (vol l) X.b2).1,l,t,(low (vol l) X.b2).1,false⟩
theorem xwholeOkI{T:Tags}{o:Nat}{w:World}{p:Nat}{L:XL}{X:XS}(h:XAt T o w p L X)(l:List Int)(hl:okShape l)(hm:¬40≤Maps.size L.D)(hin:bufsIn X.c2.length X.b2)(hc:X.c2.length≤10000)(hbl:X.b2.length≤1000000)(hfit:(low (vol l) X.b2).1+vol l≤(X.c2.length:Int))(hlast:X.last≤1000000000):Calls Tryz.prog 63 #[.pointer (some ⟨p,0,none⟩),.int .i64 2,L.inV 2,.agg (shC l).toArray] w fun e w'=>e=.returned (.tuple #[.int .i64 ((X.last:Int)+1),.int .i64 0])∧Kp (fun b=>(T b).1=o) w w'∧∃T' L' t,TagsTo w T T'∧t.length=l.length∧(∀k,k<l.length→nth t k=wst l k)∧XAt T' o w' p L' (X.wholeI l t)∧L'.D=L.D.put (.int .i64 ((X.last:Int)+1)) (.held (.agg (XA.cs ⟨2,(low (vol l) X.b2).1,l,t,(low (vol l) X.b2).1,false⟩)))∧L'.q1=L.q1∧L'.q2=L.q2∧L'.g1=L.g1∧L'.g2=L.g2:=by
 have HM:=hid (fun W (k:Kp0 w W)=>xisMany_calls (h.kp0 k));rw[show decide (40≤Maps.size L.D)=false by simp[hm]]at HM;have hv:=vol_bd l hl.2.1 hl.1 l.length (Nat.le_refl _);rw[List.take_length]at hv;obtain⟨lb1,lb2,lb3⟩:=low_bd (vol l) hin (by omega);unfold XS.wholeI;generalize hs:(low (vol l) X.b2).1=s at*;generalize hrr:(low (vol l) X.b2).2=r at*;have HV:Hid (∀W,Kp0 w W→Calls Tryz.prog 57 #[.agg (shC l).toArray] W fun e w'=>∃v,e=.returned v∧(v=.int .i64 (vol l)∧Kp0 w w'∧Kp0 W w')):=fun W k=>(xvolume_calls l W hl.2.1 hl.1).mono (fun e w' h=>⟨_,h.1,rfl,Kp0.trans k h.2,h.2⟩)
 have hnq:L.vb2.ownBlock≠some L.q2∧L.q2≠L.g2∧L.vb2.ownBlock≠some L.g2:=by
  have t1:=h.tq2;have t2:=h.tg2;have t3:=h.tb2;refine⟨fun e=>?_,fun e=>?_,fun e=>?_⟩
  ·have:=t3 _ e;rw[t1]at this;simp at this
  ·rw[e,t2]at t1;simp at t1
  ·have:=t3 _ e;rw[t2]at this;simp at this
 have HT:Hid (∀W,Kp0 w W→Calls Tryz.prog 217 #[.pointer (some ⟨L.q2,0,none⟩),.int .i64 (vol l)] W fun e w'=>∃v,e=.returned v∧(v=.tuple #[.int .i64 s,.bool true]∧Kp (fun b=>b=L.q2∨L.vb2.ownBlock=some b) W w'∧∃T' L',TagsTo w T T'∧XAt T' o w' p L' (X.bufsI (addB X.b2 r (s,vol l)))∧L'.D=L.D∧L'.q1=L.q1∧L'.q2=L.q2∧L'.g1=L.g1∧L'.g2=L.g2)):=fun W k=>by
  refine(xTakeYesI_calls (h.kp0 k).s2 (vol l) (by omega) (by have:=hl.2.2;omega) hin hc hbl hnq.1 hnq.2.1 hnq.2.2 s r (by rw[←hs,←hrr]) lb3 lb1 (by omega) hfit).mono ?_;rintro e w' ⟨rfl,hk,vb',hst,hn⟩;have hx:=(h.kp0 k).bufsI hk hst hn;refine⟨_,rfl,rfl,hk,_,_,?_,hx,rfl,rfl,rfl,rfl,rfl⟩;intro b hb;exact retag_to W T _ b (Nat.lt_of_lt_of_le hb k.size)
 have HW:Hid (∀W,Calls Tryz.prog 98 #[.agg (shC l).toArray,.int .i64 s] W fun e w'=>∃t:List Int,t.length=l.length∧(∀k,k<l.length→nth t k=wst l k)∧e=.returned (.agg (grC l t s).toArray)∧Kp0 W w'):=fun W=>xwhole_calls l s W hl
 have HI:Hid (L.inV 2=.iface 127 (.pointer (some ⟨L.q2,0,none⟩))):=rfl;have HTQ:Hid (∀b,b=L.q2∨L.vb2.ownBlock=some b→(T b).1=o):=fun b e=>by
  rcases e with e|e
  ·rw[e,h.tq2]
  ·rw[h.tb2 b e]
 have HLT:Hid (∀b,b=L.q2∨L.vb2.ownBlock=some b→b<w.heap.size):=fun b e=>by
  rcases e with e|e
  ·rw[e];exact lt_of_heap h.s2.blk
  ·exact own_lt h.s2.bufs e
 rw[HI.out];unfold shC at HV HW⊢;unfold grC at HW;generalize vol l=vl at*;have HBS:Hid ((X.bufsI (addB X.b2 r (s,vl))).last=X.last):=rfl;generalize X.bufsI (addB X.b2 r (s,vl))=X2 at*;clear h hin hfit lb1 lb2 lb3 hv hs hrr hnq;have HMR:=hid (Tryz.mTakeI ⟨L.q2,0,none⟩);have hna:=Tryz.nTakeI ⟨L.q2,0,none⟩;go_enter Tryz.func63,Tryz.ntmps63
 go_wp2_with fail
 refine(HM.out _ ((Kp.refl _ w).alloc _)).mono ?_;rintro e w2 ⟨rfl,hw⟩;obtain rfl:=hw.symm;have HKW:Hid (Kp0 w (w.alloc (.cells #[.int .i64 (nth l 0),.int .i64 (nth l 1),.int .i64 (nth l 2),.int .i64 (nth l 3),.int .i64 (l.length:Int)] 104))):=(Kp.refl _ w).alloc _;have HB:Hid ((w.alloc (.cells #[.int .i64 (nth l 0),.int .i64 (nth l 1),.int .i64 (nth l 2),.int .i64 (nth l 3),.int .i64 (l.length:Int)] 104)).heap[w.heap.size]? =some (.cells #[.int .i64 (nth l 0),.int .i64 (nth l 1),.int .i64 (nth l 2),.int .i64 (nth l 3),.int .i64 (l.length:Int)] 104 (0,0))):=heap_alloc_new w _;have HBN:Hid (∀b,b=L.q2∨L.vb2.ownBlock=some b→b≠w.heap.size):=fun b e=>by have:=HLT.out b e;omega
 go_wp2
 generalize w.alloc (.cells #[.int .i64 (nth l 0),.int .i64 (nth l 1),.int .i64 (nth l 2),.int .i64 (nth l 3),.int .i64 (l.length:Int)] 104)=W at HB HKW⊢;generalize w.heap.size=b at HB HBN⊢;obtain⟨z0,z1,z2,z3,z4⟩:=cells5 HB.out;have HKD:Hid (Kp0 w W.drew):=HKW.out.drew
 go_region_law ((first
  |(refine step_call1 (by rfl) 57 (.tmp 16) _ (by rfl) _ Tryz.func57 (by kernel_rfl) (by kernel_rfl) _ (by rfl) (HV.out _ HKD.out) ?_;intro v7 w7 hR;obtain⟨rfl,hk7,hk7'⟩:=hR)
  |(refine step_invoke1 (by rfl) (.tmp 20) "Take" (.tmp 17) _ (by rfl) _ _ (by rfl) (by rfl) _ _ (HMR.out (.int .i64 vl) w7) (HT.out w7 hk7) ?_;intro v8 w8 hR8;obtain⟨rfl,hk8,hR9⟩:=hR8)))
 all_goals
  have HB8:=hid (hk8.heap (Kp0.heap hk7' HB.out) (fun e=>HBN.out b e rfl));have HK8:Hid (Kp (fun b=>(T b).1=o) w w8):=(Kp.of0 hk7).trans hk8 (fun b _ e=>HTQ.out b e);have HR9:=hid hR9;clear hk7 hk7' hk8 hR9 z0 z1 z2 z3 z4;obtain⟨z0,z1,z2,z3,z4⟩:=cells5 HB8.out
  go_wp2_with fail
  refine(HW.out _).mono ?_;rintro e w9 ⟨t,ht1,ht2,rfl,hk9⟩;obtain⟨T2,L2,hT2,hX2,hD2,hq1,hq2⟩:=HR9.out;have HA:=hid (xadd_calls (hX2.kp0 hk9) ⟨2,s,l,t,s,false⟩ (by rw[HBS.out];exact hlast));unfold XA.cs at HA;simp only[]at HA;have HK9:Hid (Kp (fun b=>(T b).1=o) w w9):=HK8.out.trans0 hk9;have HTT:Hid (t.length=l.length∧(∀k,k<l.length→nth t k=wst l k)∧TagsTo w T T2∧L2.D=L.D∧L2.q1=L.q1∧L2.q2=L.q2∧L2.g1=L.g1∧L2.g2=L.g2):=⟨ht1,ht2,hT2,hD2,hq1,hq2⟩;clear ht1 ht2 hT2 hX2 hD2 hq1 hq2 hk9 z0 z1 z2 z3 z4
  go_wp2_with fail
  refine HA.out.mono ?_;rintro e w10 ⟨rfl,hk10,hx10⟩;have HX:=hid hx10;have HK10:=hid hk10;clear hx10 hk10;go_wp2
  go_ret2
  obtain⟨ht1,ht2,hT2,hD2,hq1,hq2⟩:=HTT.out;refine⟨?_,HK9.out.trans HK10.out (fun b hb e=>?_),T2,_,t,hT2,ht1,ht2,HX.out,?_,hq1,hq2⟩
  ·rw[HBS.out];rfl
  ·rw[hT2 b hb]at e;exact e
  ·simp only[hD2,HBS.out];rfl
end Go.Proofs.YticbbncdcannlaaGreat
namespace Go.Proofs.YticbbncdcannlaaGreat
open Go.RowKit
structure Made(σ σ':Sp)(kind a:Int)(m:Nat)(arr:Arr):Prop where
 arrs:σ'.arrs=σ.arrs++[some arr]
 bufs:σ'.bufs=σ.bufs++[⟨kind,a,m⟩]
 cap:∀j,σ'.cap j=σ.cap j
 valk:∀j:Nat,j<σ.cap kind→nth (σ'.vals kind) j=if a≤j∧(j:Int)<a+m then 0 else nth (σ.vals kind) j
 valo:∀k2,(kind=1)≠(k2=1)→σ'.vals k2=σ.vals k2
 buf:arr.buf=σ.bufs.length
theorem puts_nth(σ:Sp)(kind a:Int)(n:Nat)(h0:0≤a)(hl:a+n≤(σ.vals kind).length)(j:Nat):nth ((σ.puts kind a (fun _=>0) n).vals kind) j=if a≤j∧(j:Int)<a+n then 0 else nth (σ.vals kind) j:=by
 induction n with
 |zero=>rw[if_neg (by omega)];rfl
 |succ n ih=>
  rw[Sp.puts,put_vals_same,nth_set,ih (by omega),puts_vals];by_cases h:j=(a+n).toNat∧(a+n).toNat<(σ.vals kind).length
  ·rw[if_pos h,if_pos (by omega)]
  ·rw[if_neg h]
   by_cases h2:a≤j∧(j:Int)<a+n
   ·rw[if_pos h2,if_pos (by omega)]
   ·rw[if_neg h2,if_neg (by omega)]
theorem puts_other(σ:Sp)(kind a:Int)(f:Nat→Int)(n:Nat)(k2:Int)(h:(kind=1)≠(k2=1)):(σ.puts kind a f n).vals k2=σ.vals k2:=by
 induction n with
 |zero=>rfl
 |succ n ih=>rw[Sp.puts,put_vals_other _ _ _ _ _ h,ih]
theorem vals_len{σ:Sp}(h:σ.ok)(k:Int):(σ.vals k).length=σ.cap k:=by
 unfold Sp.vals Sp.cap;split
 ·exact h.v1
 ·exact h.v2
theorem made_made{σ:Sp}(hok:σ.ok)(kind a:Int)(s:List Int)(m:Nat)(h0:0≤a)(hl:a+m≤σ.cap kind):Made σ (σ.made kind a s m fun _=>0) kind a m ⟨kind,s,rng a m,false,σ.bufs.length⟩:=by
 obtain⟨p1,p2,-⟩:=puts_arrs (σ.more ⟨kind,a,m⟩) kind a (fun _=>0) m;have hv:(σ.more ⟨kind,a,m⟩).vals=σ.vals:=rfl;refine⟨?_,?_,fun j=>?_,fun j hj=>?_,fun k2 hk=>?_,rfl⟩
 ·show((σ.more ⟨kind,a,m⟩).puts kind a (fun _=>0) m).arrs++_=_
  rw[p1];rfl
 ·show((σ.more ⟨kind,a,m⟩).puts kind a (fun _=>0) m).bufs=_
  rw[p2];rfl
 ·exact puts_cap (σ.more ⟨kind,a,m⟩) kind a (fun _=>0) m j
 ·have:=puts_nth (σ.more ⟨kind,a,m⟩) kind a m h0 (by rw[hv,vals_len hok];exact hl) j
  rw[hv]at this;exact this
 ·exact puts_other (σ.more ⟨kind,a,m⟩) kind a (fun _=>0) m k2 hk
theorem Made.used{σ σ':Sp}{kind a:Int}{m:Nat}{arr:Arr}(h:Made σ σ' kind a m arr)(i:Nat):σ'.used i=(σ.used i||(σ.bufs.length==i)):=by
 unfold Sp.used usedTo;rw[List.take_length,List.take_length,h.arrs,List.any_append];simp[h.buf]
theorem Made.buf_old{σ σ':Sp}{kind a:Int}{m:Nat}{arr:Arr}(h:Made σ σ' kind a m arr){i:Nat}{b:Buf}:σ'.bufs[i]? =some b↔(σ.bufs[i]? =some b∨(i=σ.bufs.length∧b=⟨kind,a,m⟩)):=by
 rw[h.bufs,List.getElem?_append];split
 ·rename_i hi
  constructor
  ·intro e;exact .inl e
  ·rintro(e|⟨e,_⟩)
   ·exact e
   ·omega
 ·rename_i hi
  have hn:σ.bufs[i]? =none:=List.getElem?_eq_none (by omega);rw[hn];rcases Nat.lt_or_ge σ.bufs.length i with h1|h1
  ·have:([⟨kind,a,m⟩]:List Buf)[i-σ.bufs.length]? =none:=List.getElem?_eq_none (by simp;omega)
   rw[this];constructor
   ·intro e;cases e
   ·rintro(e|⟨e,_⟩)
    ·cases e
    ·omega
  ·have:i=σ.bufs.length:=by omega
   subst this;simp;exact⟨fun e=>e.symm,fun e=>e.symm⟩
theorem Made.usedBuf{σ σ':Sp}{kind a:Int}{m:Nat}{arr:Arr}(h:Made σ σ' kind a m arr)(_hok:σ.ok)(P:Buf→Prop):(∃(i:Nat) (b:Buf),σ'.bufs[i]? =some b∧σ'.used i=true∧P b)↔((∃(i:Nat) (b:Buf),σ.bufs[i]? =some b∧σ.used i=true∧P b)∨P ⟨kind,a,m⟩):=by
 constructor
 ·rintro⟨i,b,hb,hu,hp⟩
  rcases h.buf_old.1 hb with e|⟨rfl,rfl⟩
  ·left
   have hi:=(List.getElem?_eq_some_iff.1 e).1;refine⟨i,b,e,?_,hp⟩;rw[h.used]at hu;have:(σ.bufs.length==i)=false:=by simp;omega
   simpa[this]using hu
  ·exact .inr hp
 ·rintro(⟨i,b,hb,hu,hp⟩|hp)
  ·exact⟨i,b,h.buf_old.2 (.inl hb),by rw[h.used,hu];rfl,hp⟩
  ·exact⟨σ.bufs.length,_,h.buf_old.2 (.inr ⟨rfl,rfl⟩),by rw[h.used];simp,hp⟩
theorem Made.taken{σ σ':Sp}{kind a:Int}{m:Nat}{arr:Arr}(h:Made σ σ' kind a m arr)(hok:σ.ok)(k c:Int):σ'.taken k c=true↔σ.taken k c=true∨(kind=k∧a≤c∧c<a+m):=by
 rw[taken_iff,taken_iff];exact h.usedBuf hok (fun b=>b.kind=k∧b.at'≤c∧c<b.at'+b.size)
theorem Made.find{σ σ':Sp}{kind a:Int}{m:Nat}{arr:Arr}(h:Made σ σ' kind a m arr)(d:Int):σ'.find d=if d=(σ.arrs.length:Int)+1 then some arr else σ.find d:=by
 unfold Sp.find;by_cases hd:1≤d
 ·rw[if_pos hd,if_pos hd,h.arrs]
  unfold List.getD;rw[List.getElem?_append];by_cases e:d=(σ.arrs.length:Int)+1
  ·rw[if_pos e,if_neg (by unfold ix;omega),show ix d-σ.arrs.length=0 by unfold ix;omega]
   rfl
  ·rw[if_neg e]
   split
   ·rfl
   ·rename_i hn
    have h1:([some arr]:List (Option Arr))[ix d-σ.arrs.length]? =none:=List.getElem?_eq_none (by unfold ix at*;simp;omega);rw[h1,List.getElem?_eq_none (Nat.le_of_not_lt hn)]
 ·rw[if_neg hd,if_neg hd,if_neg (by omega)]
theorem Made.live{σ σ':Sp}{kind a:Int}{m:Nat}{arr:Arr}(h:Made σ σ' kind a m arr):σ'.live=σ.live+1:=by
 unfold Sp.live;rw[h.arrs,List.filter_append];simp
theorem bth_addB(bs:List (Int×Int))(r:Nat)(x:Int×Int)(hr:r≤bs.length)(j:Nat):bth (addB bs r x) j=if j<r then bth bs j else if j=r then x else bth bs (j-1):=by
 have hl:(bs.take r).length=r:=by simp;omega
 unfold bth addB List.getD;rw[List.append_assoc,List.getElem?_append];by_cases h1:j<r
 ·rw[if_pos h1,if_pos (by omega),List.getElem?_take,if_pos h1]
 ·rw[if_neg h1,if_neg (by omega),hl]
  by_cases h2:j=r
  ·rw[if_pos h2,h2,Nat.sub_self];rfl
  ·rw[if_neg h2]
   have:j-r=(j-r-1)+1:=by omega
   rw[this,List.singleton_append,List.getElem?_cons_succ,List.getElem?_drop,show r+(j-r-1)=j-1 by omega]
theorem addB_length(bs:List (Int×Int))(r:Nat)(x:Int×Int)(hr:r≤bs.length):(addB bs r x).length=bs.length+1:=by unfold addB;simp;omega
theorem mem_addB(bs:List (Int×Int))(r:Nat)(x y:Int×Int)(hr:r≤bs.length):(∃j,j<(addB bs r x).length∧bth (addB bs r x) j=y)↔((∃j,j<bs.length∧bth bs j=y)∨x=y):=by
 rw[addB_length bs r x hr];constructor
 ·rintro⟨j,hj,e⟩
  rw[bth_addB bs r x hr]at e;split at e
  ·exact .inl ⟨j,by omega,e⟩
  ·split at e
   ·exact .inr e
   ·exact .inl ⟨j-1,by omega,e⟩
 ·rintro(⟨j,hj,e⟩|e)
  ·rcases Nat.lt_or_ge j r with h|h
   ·exact⟨j,by omega,by rw[bth_addB bs r x hr,if_pos h];exact e⟩
   ·exact⟨j+1,by omega,by rw[bth_addB bs r x hr,if_neg (by omega),if_neg (by omega)];exact e⟩
  ·exact⟨r,by omega,by rw[bth_addB bs r x hr,if_neg (by omega),if_pos rfl];exact e⟩
theorem sorted_addB{bs:List (Int×Int)}(hs:sortedB bs)(r:Nat)(s z:Int)(hr:r≤bs.length)(h0:0≤s)(hz:1≤z)(ha:∀j,j<r→(bth bs j).1+(bth bs j).2≤s)(hb:∀j,r≤j→j<bs.length→s+z≤(bth bs j).1):sortedB (addB bs r (s,z)):=by
 refine⟨fun j hj=>?_,fun j k hjk hk=>?_⟩
 ·rw[addB_length bs r _ hr]at hj
  rw[bth_addB bs r _ hr];split
  ·exact hs.1 j (by omega)
  ·split
   ·exact⟨h0,hz⟩
   ·exact hs.1 (j-1) (by omega)
 ·rw[addB_length bs r _ hr]at hk
  rw[bth_addB bs r _ hr,bth_addB bs r _ hr];by_cases j1:j<r
  ·rw[if_pos j1]
   by_cases k1:k<r
   ·rw[if_pos k1];exact hs.2 j k hjk (by omega)
   ·rw[if_neg k1]
    by_cases k2:k=r
    ·rw[if_pos k2];exact ha j j1
    ·rw[if_neg k2];exact hs.2 j (k-1) (by omega) (by omega)
  ·rw[if_neg j1]
   rw[if_neg (show¬k<r by omega),if_neg (show¬k=r by omega)];by_cases j2:j=r
   ·rw[if_pos j2];exact hb (k-1) (by omega) (by omega)
   ·rw[if_neg j2];exact hs.2 (j-1) (k-1) (by omega) (by omega)
theorem KTie.made{σ σ':Sp}{kind:Int}{m:Nat}{arr:Arr}{c:List Int}{bs:List (Int×Int)}(h:KTie σ kind c bs)(hm:Made σ σ' kind (low m bs).1 m arr)(hok:σ.ok)(h1:1≤m)(hfit:(low m bs).1+m≤(σ.cap kind:Int)):KTie σ' kind c (addB bs (low m bs).2 ((low m bs).1,(m:Int))):=by
 obtain⟨l1,l2,l3⟩:=low_bd (m:Int) h.inn (by omega);obtain⟨s1,s2,-⟩:=low_spec (m:Int) (by omega) h.sorted;refine⟨by rw[hm.cap];exact h.len,sorted_addB h.sorted _ _ _ l3 l1 (by omega) s1 s2,fun j hj=>?_,fun s z=>?_,fun j hj=>?_,fun hk j hj=>?_,fun hk j hj=>?_⟩
 ·rw[addB_length _ _ _ l3]at hj
  rw[bth_addB _ _ _ l3];split
  ·exact h.inn j (by omega)
  ·split
   ·refine⟨l1,by show(0:Int)≤(m:Int);omega,?_⟩
    show(low m bs).1+(m:Int)≤c.length;rw[h.len];exact hfit
   ·exact h.inn (j-1) (by omega)
 ·rw[mem_addB _ _ _ _ l3,h.mem s z]
  have:=hm.usedBuf hok (fun b=>b.kind=kind∧b.at'=s∧b.size=z);rw[this];constructor
  ·rintro(e|e)
   ·exact .inl e
   ·injection e with e1 e2;exact .inr ⟨rfl,e1,e2⟩
  ·rintro(e|⟨_,e1,e2⟩)
   ·exact .inl e
   ·exact .inr (by rw[←e1,←e2])
 ·rw[hm.cap]at hj
  have hfree:(low m bs).1≤(j:Int)∧(j:Int)<(low m bs).1+m→σ.taken kind j=false:=fun e=>by
   rw[←Bool.not_eq_true,h.taken];exact low_free (m:Int) (by omega) h.sorted j e.1 e.2
  rw[h.val j hj,hm.valk j hj];by_cases e:(low m bs).1≤(j:Int)∧(j:Int)<(low m bs).1+m
  ·rw[if_pos e,hfree e]
   simp
  ·rw[if_neg e]
   have:σ'.taken kind j=σ.taken kind j:=by
    rw[Bool.eq_iff_iff,hm.taken hok];constructor
    ·rintro(x|⟨_,x⟩)
     ·exact x
     ·exact absurd x e
    ·exact .inl
   rw[this]
 ·rw[hm.cap]at hj
  rw[hm.valk j hj];split
  ·omega
  ·exact h.wf1 hk j hj
 ·rw[hm.cap]at hj
  rw[hm.valk j hj];split
  ·simp[IntKind.wrap,IntKind.signed,IntKind.bits]
  ·exact h.wf2 hk j hj
theorem KTie.madeOther{σ σ':Sp}{kind k2 a:Int}{m:Nat}{arr:Arr}{c:List Int}{bs:List (Int×Int)}(h:KTie σ k2 c bs)(hm:Made σ σ' kind a m arr)(hok:σ.ok)(hne:kind≠k2)(hkj:(kind=1)≠(k2=1)):KTie σ' k2 c bs:=by
 have htk:∀x,σ'.taken k2 x=σ.taken k2 x:=fun x=>by
  rw[Bool.eq_iff_iff,hm.taken hok];constructor
  ·rintro(e|⟨e,_⟩)
   ·exact e
   ·exact absurd e hne
  ·exact .inl
 refine⟨by rw[hm.cap];exact h.len,h.sorted,h.inn,fun s z=>?_,fun j hj=>?_,fun hk j hj=>?_,fun hk j hj=>?_⟩
 ·rw[h.mem s z,hm.usedBuf hok (fun b=>b.kind=k2∧b.at'=s∧b.size=z)]
  constructor
  ·exact .inl
  ·rintro(e|⟨e,_⟩)
   ·exact e
   ·exact absurd e hne
 ·rw[hm.cap]at hj;rw[htk,hm.valo k2 hkj];exact h.val j hj
 ·rw[hm.cap]at hj;rw[hm.valo k2 hkj];exact h.wf1 hk j hj
 ·rw[hm.cap]at hj;rw[hm.valo k2 hkj];exact h.wf2 hk j hj
theorem ATie.made{σ σ':Sp}{kind a:Int}{m:Nat}{arr:Arr}{y:Arr}{x:XA}(h:ATie σ y x)(hm:Made σ σ' kind a m arr):ATie σ' y x:=
 ⟨h.kind,h.ro,h.l,by rw[hm.cap];exact h.g,h.cells,by
  obtain⟨b,hb,r⟩:=h.buf;exact⟨b,hm.buf_old.2 (.inl hb),r⟩⟩
theorem BApart.made{σ σ':Sp}{kind:Int}{m:Nat}{arr:Arr}{c:List Int}{bs:List (Int×Int)}(h:BApart σ)(hk:KTie σ kind c bs)(hm:Made σ σ' kind (low m bs).1 m arr)(_hok:σ.ok)(h1:1≤m):BApart σ':=by
 obtain⟨s1,s2,-⟩:=low_spec (m:Int) (by omega) hk.sorted;have key:∀(i:Nat) (b:Buf),σ.bufs[i]? =some b→σ.used i=true→b.kind=kind→b.at'+b.size≤(low m bs).1∨(low m bs).1+m≤b.at':=fun i b hb hu hkd=>by
  obtain⟨j,hj,e⟩:=(hk.mem b.at' b.size).2 ⟨i,b,hb,hu,hkd,rfl,rfl⟩;rcases Nat.lt_or_ge j (low m bs).2 with hlt|hge
  ·have:=s1 j hlt;rw[e]at this;exact .inl this
  ·have:=s2 j hge hj;rw[e]at this;exact .inr this
 have old:∀(i:Nat) (b:Buf),σ'.bufs[i]? =some b→σ'.used i=true→(σ.bufs[i]? =some b∧σ.used i=true)∨(i=σ.bufs.length∧b=⟨kind,(low m bs).1,m⟩):=fun i b hb hu=>by
  rcases hm.buf_old.1 hb with e|e
  ·left
   refine⟨e,?_⟩;have hi:=(List.getElem?_eq_some_iff.1 e).1;rw[hm.used]at hu;have:(σ.bufs.length==i)=false:=by simp;omega
   simpa[this]using hu
  ·exact .inr e
 intro i j b c hb hc hi hj hkd hij;rcases old i b hb hi with⟨a1,a2⟩|⟨a1,rfl⟩<;>rcases old j c hc hj with⟨c1,c2⟩|⟨c1,rfl⟩
 ·exact h i j b c a1 c1 a2 c2 hkd hij
 ·exact key i b a1 a2 hkd
 ·have:=key j c c1 c2 hkd.symm
  exact this.symm
 ·omega
theorem low_nat(v:Int)(hv:0≤v)(bs:List (Int×Int)):low (((v.toNat:Nat)):Int) bs=low v bs:=by rw[show((v.toNat:Nat):Int)=v by omega]
theorem whole_atie{σ':Sp}{kind a:Int}{s t:List Int}{i:Nat}(hs:okShape s)(ht1:t.length=s.length)(ht2:∀k,k<s.length→nth t k=wst s k)(h0:0≤a)(hfit:a+vol s≤(σ'.cap kind:Int))(hcap:σ'.cap kind≤10000)(hb:σ'.bufs[i]? =some ⟨kind,a,((vol s).toNat:Nat)⟩):ATie σ' ⟨kind,s,rng a (vol s).toNat,false,i⟩ ⟨kind,a,s,t,a,false⟩:=by
 have hv:=vol_bd s hs.2.1 hs.1 s.length (Nat.le_refl _);rw[List.take_length]at hv;refine⟨rfl,rfl,rfl,whole_ok s t a _ hs ht1 ht2 h0 hfit (show((σ'.cap kind:Nat):Int)≤1000000 by omega),gc_whole_all s t a hs.2.1 ht2,⟨_,hb,rfl,rfl,fun j hj=>?_⟩⟩;have hj':j<(vol s).toNat:=by
  have:(rng a (vol s).toNat).length=(vol s).toNat:=rng_length _ _;rw[←this];exact hj
 show a≤nth (rng a (vol s).toNat) j∧nth (rng a (vol s).toNat) j<a+(((vol s).toNat:Nat):Int);rw[nth_rng _ _ _ hj'];omega
theorem make_many{σ:Sp}{kind:Int}{s:List Int}(hk:kind=1∨kind=2)(hs:shapeB s=true)(h:40≤σ.live):σ.make kind s=(σ,0,7):=by
 unfold Sp.make;rw[if_neg (by omega),if_neg (by simp[hs]),if_pos h]
theorem Tie.madeB{X:XS}{L L':XL}{σ:Sp}(hT:Tie X (Maps.size L.D) σ)(hok:σ.ok)(hmap:Maps.Tidy L.D)(hent:XMap L.D X.A)(s t:List Int)(hs:okShape s)(ht1:t.length=s.length)(ht2:∀k,k<s.length→nth t k=wst s k)(hfit:(low (vol s) X.b1).1+vol s≤(X.c1.length:Int))(hD:L'.D=L.D.put (.int .i64 ((X.last:Int)+1)) (.held (.agg (XA.cs ⟨1,(low (vol s) X.b1).1,s,t,(low (vol s) X.b1).1,false⟩)))):Tie (X.wholeB s t) (Maps.size L'.D) (σ.made 1 (low (vol s) X.b1).1 s (vol s).toNat fun _=>0):=by
 have hv:=vol_bd s hs.2.1 hs.1 s.length (Nat.le_refl _);rw[List.take_length]at hv;have hln:=low_nat (vol s) (by omega) X.b1;obtain⟨l1,l2,l3⟩:=low_bd (vol s) hT.k1.inn (by omega);have hcl:=hT.k1.len;have hm:=made_made hok 1 (low (vol s) X.b1).1 s (vol s).toNat l1 (by rw[←hcl];omega);have hm':=hm;rw[←hln]at hm';have hv2:((vol s).toNat:Int)=vol s:=by omega
 have hk1:=hT.k1.made hm' hok (by omega) (by rw[hln,←hcl];omega);rw[hln,hv2]at hk1;refine⟨?_,hk1,hT.k2.madeOther hm hok (by omega) (by simp),fun d hd=>?_,fun d a hd=>?_,?_,?_⟩
 ·rw[hm.arrs];simp[XS.wholeB,XS.more,XS.bufsB,hT.last]
 ·rw[hm.find]at hd
  have e1:¬d=(σ.arrs.length:Int)+1:=fun e=>by rw[if_pos e]at hd;cases hd
  rw[if_neg e1]at hd;show(if d=((X.bufsB _).last:Int)+1 then _ else _)=none;rw[if_neg (by show¬d=(X.last:Int)+1;rw[hT.last];exact e1)];exact hT.non d hd
 ·rw[hm.find]at hd
  by_cases e1:d=(σ.arrs.length:Int)+1
  ·rw[if_pos e1]at hd
   injection hd with hd
   subst hd;refine⟨⟨1,(low (vol s) X.b1).1,s,t,(low (vol s) X.b1).1,false⟩,?_,whole_atie hs ht1 ht2 l1 (by rw[hm.cap,←hcl];exact hfit) (by rw[hm.cap];exact cap_le hok 1) (hm.buf_old.2 (.inr ⟨rfl,rfl⟩))⟩;show(if d=((X.bufsB _).last:Int)+1 then _ else _)=_;rw[if_pos (by show d=(X.last:Int)+1;rw[hT.last];exact e1)]
  ·rw[if_neg e1]at hd
   obtain⟨x,hx,hax⟩:=hT.som d a hd;refine⟨x,?_,hax.made hm⟩;show(if d=((X.bufsB _).last:Int)+1 then _ else _)=_;rw[if_neg (by show¬d=(X.last:Int)+1;rw[hT.last];exact e1)];exact hx
 ·rw[hm.live,hD,Maps.size_put hmap,hT.live]
  have:Maps.has L.D (.int .i64 ((X.last:Int)+1))=false:=by
   refine hent.non _ (hT.non _ ?_);unfold Sp.find;rw[if_pos (by omega),hT.last];unfold List.getD;rw[List.getElem?_eq_none (by unfold ix;omega)];rfl
  rw[this];rfl
 ·have:=hT.apart.made hT.k1 hm' hok (by omega)
  rw[hln]at this;exact this
theorem Tie.madeI{X:XS}{L L':XL}{σ:Sp}(hT:Tie X (Maps.size L.D) σ)(hok:σ.ok)(hmap:Maps.Tidy L.D)(hent:XMap L.D X.A)(s t:List Int)(hs:okShape s)(ht1:t.length=s.length)(ht2:∀k,k<s.length→nth t k=wst s k)(hfit:(low (vol s) X.b2).1+vol s≤(X.c2.length:Int))(hD:L'.D=L.D.put (.int .i64 ((X.last:Int)+1)) (.held (.agg (XA.cs ⟨2,(low (vol s) X.b2).1,s,t,(low (vol s) X.b2).1,false⟩)))):Tie (X.wholeI s t) (Maps.size L'.D) (σ.made 2 (low (vol s) X.b2).1 s (vol s).toNat fun _=>0):=by
 have hv:=vol_bd s hs.2.1 hs.1 s.length (Nat.le_refl _);rw[List.take_length]at hv;have hln:=low_nat (vol s) (by omega) X.b2;obtain⟨l1,l2,l3⟩:=low_bd (vol s) hT.k2.inn (by omega);have hcl:=hT.k2.len;have hm:=made_made hok 2 (low (vol s) X.b2).1 s (vol s).toNat l1 (by rw[←hcl];omega);have hm':=hm;rw[←hln]at hm';have hv2:((vol s).toNat:Int)=vol s:=by omega
 have hk2:=hT.k2.made hm' hok (by omega) (by rw[hln,←hcl];omega);rw[hln,hv2]at hk2;refine⟨?_,hT.k1.madeOther hm hok (by omega) (by simp),hk2,fun d hd=>?_,fun d a hd=>?_,?_,?_⟩
 ·rw[hm.arrs];simp[XS.wholeI,XS.more,XS.bufsI,hT.last]
 ·rw[hm.find]at hd
  have e1:¬d=(σ.arrs.length:Int)+1:=fun e=>by rw[if_pos e]at hd;cases hd
  rw[if_neg e1]at hd;show(if d=((X.bufsI _).last:Int)+1 then _ else _)=none;rw[if_neg (by show¬d=(X.last:Int)+1;rw[hT.last];exact e1)];exact hT.non d hd
 ·rw[hm.find]at hd
  by_cases e1:d=(σ.arrs.length:Int)+1
  ·rw[if_pos e1]at hd
   injection hd with hd
   subst hd;refine⟨⟨2,(low (vol s) X.b2).1,s,t,(low (vol s) X.b2).1,false⟩,?_,whole_atie hs ht1 ht2 l1 (by rw[hm.cap,←hcl];exact hfit) (by rw[hm.cap];exact cap_le hok 2) (hm.buf_old.2 (.inr ⟨rfl,rfl⟩))⟩;show(if d=((X.bufsI _).last:Int)+1 then _ else _)=_;rw[if_pos (by show d=(X.last:Int)+1;rw[hT.last];exact e1)]
  ·rw[if_neg e1]at hd
   obtain⟨x,hx,hax⟩:=hT.som d a hd;refine⟨x,?_,hax.made hm⟩;show(if d=((X.bufsI _).last:Int)+1 then _ else _)=_;rw[if_neg (by show¬d=(X.last:Int)+1;rw[hT.last];exact e1)];exact hx
 ·rw[hm.live,hD,Maps.size_put hmap,hT.live]
  have:Maps.has L.D (.int .i64 ((X.last:Int)+1))=false:=by
   refine hent.non _ (hT.non _ ?_);unfold Sp.find;rw[if_pos (by omega),hT.last];unfold List.getD;rw[List.getElem?_eq_none (by unfold ix;omega)];rfl
  rw[this];rfl
 ·have:=hT.apart.made hT.k2 hm' hok (by omega)
  rw[hln]at this;exact this
theorem place_of{σ:Sp}{k:Int}{c:List Int}{bs:List (Int×Int)}(h:KTie σ k c bs)(v:Int)(hv:1≤v):σ.place k v.toNat=if(low v bs).1+v≤(σ.cap k:Int)then(low v bs).1 else-1:=by
 have hin:=h.inn;rw[h.len]at hin;have:=place_low (σ.taken k) h.sorted (σ.cap k) v.toNat (by omega) (fun x _ _=>h.taken x) hin;unfold Sp.place;rw[this,low_nat v (by omega),show((v.toNat:Nat):Int)=v by omega]
theorem xc_make{T:Tags}{o:Nat}{w:World}{p:Nat}{σ:Sp}(kind:Int)(vs:Value)(s:List Int)(hR:XRep T o w p σ)(hr:RdI w vs s)(hm:σ.arrs.length+1≤100000000)(hb:σ.bufs.length+1≤100000000):Calls Tryz.prog 28 #[.pointer (some ⟨p,0,none⟩),.int .i64 kind,vs] w fun e w'=>e=.returned (.tuple #[.int .i64 (σ.make kind s).2.1,.int .i64 (σ.make kind s).2.2])∧Step XRep T o w p (σ.make kind s).1 w':=by
 have hR':=hR;obtain⟨hok,L,X,hX,hT⟩:=hR;by_cases hk:kind=1∨kind=2
 ·cases hs:shapeB s with
  |false=>
   have hres:σ.make kind s=(σ,0,4):=by
    unfold Sp.make;rw[if_neg (by omega),if_pos hs]
   rw[hres];refine(xMake_shape hX kind hk vs s hr hs).mono ?_;rintro e w' ⟨rfl,hk'⟩;exact⟨rfl,hR'.stay hk'⟩
  |true=>
   have hsh:=(shapeB_iff s).1 hs;have hv:=vol_bd s hsh.2.1 hsh.1 s.length (Nat.le_refl _);rw[List.take_length]at hv;have goal:∀W,Kp0 w W→Calls Tryz.prog 63 #[.pointer (some ⟨p,0,none⟩),.int .i64 kind,L.inV kind,.agg (shC s).toArray] W fun e w'=>∃a b,e=.returned (.tuple #[.int .i64 a,.int .i64 b])∧((a=(σ.make kind s).2.1∧b=(σ.make kind s).2.2)∧Step XRep T o w p (σ.make kind s).1 w'):=by
    intro W k;have hXW:=hX.kp0 k;by_cases hl:40≤σ.live
    ·rw[make_many hk hs hl]
     refine(xwholeManyB hXW s (by rw[hT.live];exact hl) kind (L.inV kind)).mono ?_;rintro e w' ⟨rfl,hk'⟩;exact⟨0,7,rfl,⟨rfl,rfl⟩,hR'.stay (Kp0.trans k hk')⟩
    ·have hl':¬40≤Maps.size L.D:=by rw[hT.live];exact hl
     rcases hk with rfl|rfl
     ·have hc1:X.c1.length≤10000:=by rw[hT.k1.len];exact cap_le hok 1
      have hf1:=hT.k1.few;have hpl:=place_of hT.k1 (vol s) (by omega);obtain⟨l1,l2,l3⟩:=low_bd (vol s) hT.k1.inn (by omega);by_cases hfit:(low (vol s) X.b1).1+vol s≤(σ.cap 1:Int)
      ·rw[if_pos hfit]at hpl
       have hres:σ.make 1 s=(σ.made 1 (low (vol s) X.b1).1 s (vol s).toNat fun _=>0,(σ.arrs.length:Int)+1,0):=by
        unfold Sp.make;rw[if_neg (by omega),if_neg (by simp[hs]),if_neg hl,hpl,if_neg (by omega)]
       rw[hres];refine(xwholeOkB hXW s hsh hl' hT.k1.inn hc1 (by omega) (by rw[hT.k1.len];exact hfit) (by rw[hT.last];omega)).mono ?_;rintro e w' ⟨rfl,hk',T',L',t,hTT,ht1,ht2,hX',hD,-⟩;refine⟨_,_,rfl,⟨by rw[hT.last],rfl⟩,T',fun b hb'=>hTT b (Nat.lt_of_lt_of_le hb' k.size),⟨?_,L',_,hX',?_⟩,(Kp.of0 k).trans hk' (fun _ _ e=>e)⟩
       ·exact made_ok hok 1 _ s _ (.inl rfl) hsh l1 (by rw[show(((vol s).toNat:Nat):Int)=vol s by omega];exact hfit) hm hb
       ·exact hT.madeB hok (hX.map.tidy Tryz.lawInt) hX.ent s t hsh ht1 ht2 (by rw[hT.k1.len];exact hfit) hD
      ·rw[if_neg hfit]at hpl
       have hres:σ.make 1 s=(σ,0,8):=by
        unfold Sp.make;rw[if_neg (by omega),if_neg (by simp[hs]),if_neg hl,hpl,if_pos (by omega)]
       rw[hres];refine(xwholeFullB hXW s hsh hl' hT.k1.inn hc1 (by omega) (by rw[hT.k1.len];omega)).mono ?_;rintro e w' ⟨rfl,hk'⟩;exact⟨0,8,rfl,⟨rfl,rfl⟩,hR'.stay (Kp0.trans k hk')⟩
     ·have hc2:X.c2.length≤10000:=by rw[hT.k2.len];exact cap_le hok 2
      have hf2:=hT.k2.few;have hpl:=place_of hT.k2 (vol s) (by omega);obtain⟨l1,l2,l3⟩:=low_bd (vol s) hT.k2.inn (by omega);by_cases hfit:(low (vol s) X.b2).1+vol s≤(σ.cap 2:Int)
      ·rw[if_pos hfit]at hpl
       have hres:σ.make 2 s=(σ.made 2 (low (vol s) X.b2).1 s (vol s).toNat fun _=>0,(σ.arrs.length:Int)+1,0):=by
        unfold Sp.make;rw[if_neg (by omega),if_neg (by simp[hs]),if_neg hl,hpl,if_neg (by omega)]
       rw[hres];refine(xwholeOkI hXW s hsh hl' hT.k2.inn hc2 (by omega) (by rw[hT.k2.len];exact hfit) (by rw[hT.last];omega)).mono ?_;rintro e w' ⟨rfl,hk',T',L',t,hTT,ht1,ht2,hX',hD,-⟩;refine⟨_,_,rfl,⟨by rw[hT.last],rfl⟩,T',fun b hb'=>hTT b (Nat.lt_of_lt_of_le hb' k.size),⟨?_,L',_,hX',?_⟩,(Kp.of0 k).trans hk' (fun _ _ e=>e)⟩
       ·exact made_ok hok 2 _ s _ (.inr rfl) hsh l1 (by rw[show(((vol s).toNat:Nat):Int)=vol s by omega];exact hfit) hm hb
       ·exact hT.madeI hok (hX.map.tidy Tryz.lawInt) hX.ent s t hsh ht1 ht2 (by rw[hT.k2.len];exact hfit) hD
      ·rw[if_neg hfit]at hpl
       have hres:σ.make 2 s=(σ,0,8):=by
        unfold Sp.make;rw[if_neg (by omega),if_neg (by simp[hs]),if_neg hl,hpl,if_pos (by omega)]
       rw[hres];refine(xwholeFullI hXW s hsh hl' hT.k2.inn hc2 (by omega) (by rw[hT.k2.len];omega)).mono ?_;rintro e w' ⟨rfl,hk'⟩;exact⟨0,8,rfl,⟨rfl,rfl⟩,hR'.stay (Kp0.trans k hk')⟩
   refine(xMake_whole hX kind hk vs s hr hs goal).mono ?_;rintro e w' ⟨a,b,rfl,⟨rfl,rfl⟩,hst⟩;exact⟨rfl,hst⟩
 ·have hres:σ.make kind s=(σ,0,3):=by
   unfold Sp.make;rw[if_pos (by omega)]
  rw[hres];refine(xMake_kind p w kind vs (by omega) (by omega)).mono ?_;rintro e w' ⟨rfl,hw⟩;subst hw;exact⟨rfl,hR'.stay (Kp0.refl _)⟩
theorem lay_used{σ:Sp}{arr:Arr}(hu:σ.used arr.buf=true)(i:Nat):(σ.lay arr).used i=σ.used i:=by
 have e:(σ.lay arr).used i=(σ.used i||(arr.buf==i)):=by
  unfold Sp.used usedTo Sp.lay;rw[List.take_length,List.take_length,List.any_append];simp
 rw[e];by_cases h:arr.buf=i
 ·rw[←h,hu];rfl
 ·have:(arr.buf==i)=false:=by simpa using h
  rw[this,Bool.or_false]
theorem lay_find(σ:Sp)(arr:Arr)(d:Int):(σ.lay arr).find d=if d=(σ.arrs.length:Int)+1 then some arr else σ.find d:=by
 unfold Sp.find Sp.lay;by_cases hd:1≤d
 ·rw[if_pos hd,if_pos hd]
  unfold List.getD;rw[List.getElem?_append];by_cases e:d=(σ.arrs.length:Int)+1
  ·rw[if_pos e,if_neg (by unfold ix;omega),show ix d-σ.arrs.length=0 by unfold ix;omega]
   rfl
  ·rw[if_neg e]
   split
   ·rfl
   ·rename_i hn
    have h1:([some arr]:List (Option Arr))[ix d-σ.arrs.length]? =none:=List.getElem?_eq_none (by unfold ix at*;simp;omega);rw[h1,List.getElem?_eq_none (Nat.le_of_not_lt hn)]
 ·rw[if_neg hd,if_neg hd,if_neg (by omega)]
theorem lay_live(σ:Sp)(arr:Arr):(σ.lay arr).live=σ.live+1:=by
 unfold Sp.live Sp.lay;rw[List.filter_append];simp
theorem lay_taken{σ:Sp}{arr:Arr}(hu:σ.used arr.buf=true)(k c:Int):(σ.lay arr).taken k c=σ.taken k c:=by
 rw[Bool.eq_iff_iff,taken_iff,taken_iff];simp only[lay_used hu];rfl
theorem KTie.lay{σ:Sp}{k:Int}{c:List Int}{bs:List (Int×Int)}{arr:Arr}(h:KTie σ k c bs)(hu:σ.used arr.buf=true):KTie (σ.lay arr) k c bs:=by
 refine⟨h.len,h.sorted,h.inn,fun s z=>?_,fun j hj=>?_,h.wf1,h.wf2⟩
 ·rw[h.mem s z]
  simp only[lay_used hu];rfl
 ·rw[lay_taken hu]
  exact h.val j hj
theorem Tie.view{X:XS}{L L':XL}{σ:Sp}(hT:Tie X (Maps.size L.D) σ)(hmap:Maps.Tidy L.D)(hent:XMap L.D X.A)(arr:Arr)(y:XA)(hu:σ.used arr.buf=true)(hy:ATie (σ.lay arr) arr y)(hD:L'.D=L.D.put (.int .i64 ((X.last:Int)+1)) (.held (.agg y.cs))):Tie (X.more y) (Maps.size L'.D) (σ.lay arr):=by
 refine⟨?_,hT.k1.lay hu,hT.k2.lay hu,fun d hd=>?_,fun d a hd=>?_,?_,?_⟩
 ·simp[XS.more,Sp.lay,hT.last]
 ·rw[lay_find]at hd
  have e1:¬d=(σ.arrs.length:Int)+1:=fun e=>by rw[if_pos e]at hd;cases hd
  rw[if_neg e1]at hd;show(if d=(X.last:Int)+1 then _ else _)=none;rw[if_neg (by rw[hT.last];exact e1)];exact hT.non d hd
 ·rw[lay_find]at hd
  by_cases e1:d=(σ.arrs.length:Int)+1
  ·rw[if_pos e1]at hd
   injection hd with hd
   subst hd;refine⟨y,?_,hy⟩;show(if d=(X.last:Int)+1 then _ else _)=_;rw[if_pos (by rw[hT.last];exact e1)]
  ·rw[if_neg e1]at hd
   obtain⟨x,hx,hax⟩:=hT.som d a hd;refine⟨x,?_,⟨hax.kind,hax.ro,hax.l,hax.g,hax.cells,hax.buf⟩⟩;show(if d=(X.last:Int)+1 then _ else _)=_;rw[if_neg (by rw[hT.last];exact e1)];exact hx
 ·rw[lay_live,hD,Maps.size_put hmap,hT.live]
  have:Maps.has L.D (.int .i64 ((X.last:Int)+1))=false:=by
   refine hent.non _ (hT.non _ ?_);unfold Sp.find;rw[if_pos (by omega),hT.last];unfold List.getD;rw[List.getElem?_eq_none (by unfold ix;omega)];rfl
  rw[this];rfl
 ·intro i j b c hb hc hi hj
  rw[lay_used hu]at hi hj;exact hT.apart i j b c hb hc hi hj
theorem ATie.view{σ:Sp}{a:Arr}{x:XA}(h:ATie σ a x)(s t':List Int)(f':Int)(hs:okShape s)(ht:t'.length≤s.length)(hu:∀k,k<s.length→nth s k=1→nth t' k=0)(φ:List Int→List Int)(hin:∀i,inB s i→inB a.shape (φ i))(hd:∀i,inB s i→f'+dotTo i t' s.length=x.f+dotTo (φ i) x.t a.shape.length)(read:Bool)(y:XA)(hy:y={x.seen s t' f' with ro:=x.ro||read}):ATie (σ.lay ⟨a.kind,s,picked a.cells ((List.range (vol s).toNat).map fun r:Nat=>rank a.shape (φ (idx s r))),a.ro||read,a.buf⟩) ⟨a.kind,s,picked a.cells ((List.range (vol s).toNat).map fun r:Nat=>rank a.shape (φ (idx s r))),a.ro||read,a.buf⟩ y:=by
 subst hy;have hl:=h.l;rw[←hl]at hin hd⊢;have hg:=h.g.view hs ht hu φ hin hd;have hgc:=gc_view h.g.shape.2.1 hs.2.1 φ hin hd;refine⟨h.kind,?_,rfl,hg,?_,?_⟩
 ·show(x.ro||read)=(a.ro||read)
  rw[h.ro]
 ·show gc s t' f' s.length=_
  rw[hgc,h.cells]
 ·obtain⟨b,hb,hx,hk,hc⟩:=h.buf
  refine⟨b,hb,hx,hk,fun j hj=>?_⟩;have hj':j<((List.range (vol s).toNat).map fun r:Nat=>rank x.l (φ (idx s r))).length:=by simpa[picked]using hj
  show b.at'≤nth (picked a.cells _) j∧nth (picked a.cells _) j<_;rw[picked_nth _ _ _ hj'];have:=(gc_rank (t:=x.t) (f:=x.f) h.g.shape.2.1 φ hin hs.2.1 j hj').2;rw[h.cells]at this;exact hc _ this
theorem xc_view{T:Tags}{o:Nat}{w:World}{p:Nat}{σ:Sp}(hok:σ.ok){L:XL}{X:XS}(hX:XAt T o w p L X)(hT:Tie X (Maps.size L.D) σ){h:Int}{a:Arr}{x:XA}(hf:σ.find h=some a)(hx:ATie σ a x)(s t':List Int)(f':Int)(hs:okShape s)(ht:t'.length≤s.length)(hu:∀k,k<s.length→nth s k=1→nth t' k=0)(φ:List Int→List Int)(hin:∀i,inB s i→inB a.shape (φ i))(hd:∀i,inB s i→f'+dotTo i t' s.length=x.f+dotTo (φ i) x.t a.shape.length)(read:Bool)(z:XA)(hz:z={x with ro:=x.ro||read})(hm:σ.arrs.length+1≤100000000)(R:Sp×Int×Int)(hR:R=σ.derive a s ((List.range (vol s).toNat).map fun r:Nat=>rank a.shape (φ (idx s r))) read):∀W,Kp0 w W→Calls Tryz.prog 54 #[.pointer (some ⟨p,0,none⟩),.agg z.cs,.agg (grC s t' f').toArray] W fun e w'=>∃a b,e=.returned (.tuple #[.int .i64 a,.int .i64 b])∧((a=R.2.1∧b=R.2.2)∧Step XRep T o w p R.1 w'):=by
 intro W k;have hXW:=hX.kp0 k;have ha:=kind_of hok hf;have hrk:∀j,j<((List.range (vol s).toNat).map fun r:Nat=>rank a.shape (φ (idx s r))).length→0≤nth ((List.range (vol s).toNat).map fun r:Nat=>rank a.shape (φ (idx s r))) j∧nth ((List.range (vol s).toNat).map fun r:Nat=>rank a.shape (φ (idx s r))) j<a.cells.length:=fun j hj=>by
  have:=gc_rank (t:=x.t) (f:=x.f) ha.shape.2.1 φ hin hs.2.1 j hj;rw[show gc a.shape x.t x.f a.shape.length=a.cells by rw[←hx.l];exact hx.cells]at this;omega
 have hv:=vol_bd s hs.2.1 hs.1 s.length (Nat.le_refl _);rw[List.take_length]at hv;have hdo:=derive_ok hok ha s ((List.range (vol s).toNat).map fun r:Nat=>rank a.shape (φ (idx s r))) hs (by simp;omega) hrk read hm;rw[←hR]at hdo;by_cases hl:40≤σ.live
 ·have hR':R=(σ,0,7):=by rw[hR,Sp.derive,if_pos hl]
  rw[hR'];refine(xmakeView_many hXW z s t' f' (by rw[hT.live];exact hl)).mono ?_;rintro e w' ⟨rfl,hk'⟩;exact⟨0,7,rfl,⟨rfl,rfl⟩,XRep.stay ⟨hok,L,X,hX,hT⟩ (Kp0.trans k hk')⟩
 ·have hR':R=(σ.lay ⟨a.kind,s,picked a.cells ((List.range (vol s).toNat).map fun r:Nat=>rank a.shape (φ (idx s r))),a.ro||read,a.buf⟩,(σ.arrs.length:Int)+1,0):=by rw[hR,Sp.derive,if_neg hl]
  rw[hR']at hdo⊢;refine(xmakeView_yes hXW z s t' f' (by rw[hT.live];exact hl) (by rw[hT.last];omega)).mono ?_;rintro e w' ⟨rfl,hk',hX'⟩;have hat:=hx.view s t' f' hs ht hu φ hin hd read (z.seen s t' f') (by rw[hz];rfl);refine⟨_,_,rfl,⟨by rw[hT.last],rfl⟩,T,fun _ _=>rfl,⟨hdo,_,_,hX',?_⟩,(Kp.of0 k).trans hk' (fun _ _ e=>e)⟩;have hub:=used_of hf;exact hT.view (hX.map.tidy Tryz.lawInt) hX.ent _ _ hub hat rfl
theorem cutsP_iff(size start count step:Int)(hs:1≤size∧size≤60):cutsP size start count step=true↔step≠0∧1≤count∧count≤60∧cutR size start count step=true:=by
 rw[cutR_iff];constructor
 ·intro h
  unfold cutsP at h;split at h
  ·cases h
  split at h
  ·cases h
  split at h
  ·cases h
  split at h
  ·cases h
  split at h
  ·cases h
  rename_i h1 h2 h3 h4 h5;split at h
  ·rename_i h6
   refine⟨h1,by omega,by omega,.inl (by omega),fun i hi=>?_⟩;have:i=0:=by omega
   subst this;simp;omega
  split at h
  ·cases h
  split at h
  ·cases h
  rename_i h6 h7 h8;simp at h;refine⟨h1,by omega,by omega,.inr (by omega),fun i hi=>?_⟩;have hi':(i:Int)≤count-1:=by omega
  have hi0:(0:Int)≤(i:Int):=by omega
  rcases Int.lt_or_lt_of_ne h1 with hn|hp
  ·have a1:=Int.mul_le_mul_of_nonpos_right hi' (show step≤0 by omega)
   have a2:=Int.mul_le_mul_of_nonpos_right hi0 (show step≤0 by omega);omega
  ·have a1:=Int.mul_le_mul_of_nonneg_right hi' (show 0≤step by omega)
   have a2:=Int.mul_le_mul_of_nonneg_right hi0 (show 0≤step by omega);omega
 ·rintro⟨h1,h2,h3,h4,h5⟩
  have b0:=h5 0 (by omega);simp at b0;have hle:((count.toNat:Nat):Int)≤size:=cut_le (by omega) h1 h5;unfold cutsP;rw[if_neg h1,if_neg (by omega),if_neg (by omega),if_neg (by omega),if_neg (by omega)];by_cases h6:count=1
  ·rw[if_pos h6]
  ·have b1:=h5 1 (by omega)
   simp at b1;have b2:=h5 (count-1).toNat (by omega);rw[show(((count-1).toNat:Nat):Int)=count-1 by omega]at b2;rw[if_neg h6,if_neg (by omega),if_neg (by omega)];simp;exact b2
theorem cut_grid{l t:List Int}{f M start step:Int}{k cn:Nat}(hg:GOk l t f M)(hk:k<l.length)(hc:1≤cn)(h:∀i:Nat,i<cn→0≤start+(i:Int)*step∧start+(i:Int)*step<nth l k):(0≤f∧f≤1000000)∧(-1000000≤start*nth t k∧start*nth t k≤1000000)∧((cn:Int)≠1→IntKind.i64.wrap (step*nth t k)=step*nth t k):=by
 have hs:=hg.shape.2.1;have hf:=first_in hs hg.inside;have hM:=hg.small;have hp:=gc_pos l t f hs k (by omega);have h0:=within_to hs hg.inside k (by omega) 0 hp;have b0:=h 0 (by omega);simp at b0;have s0:=step_in hs hg.inside k hk 0 start.toNat hp (by omega);rw[show((start.toNat:Nat):Int)=start by omega]at s0;refine⟨by omega,by omega,fun hn=>?_⟩;have b1:=h 1 (by omega);simp at b1;have s1:=step_in hs hg.inside k hk 0 (start+step).toNat hp (by omega);rw[show(((start+step).toNat:Nat):Int)=start+step by omega,Int.add_mul]at s1;simp[IntKind.wrap,IntKind.signed,IntKind.bits];omega
theorem xc_cut{T:Tags}{o:Nat}{w:World}{p:Nat}{σ:Sp}(h axis start count step:Int)(hR:XRep T o w p σ)(hm:σ.arrs.length+1≤100000000):Calls Tryz.prog 21 #[.pointer (some ⟨p,0,none⟩),.int .i64 h,.int .i64 axis,.int .i64 start,.int .i64 count,.int .i64 step] w fun e w'=>e=.returned (.tuple #[.int .i64 (σ.cut h axis start count step).2.1,.int .i64 (σ.cut h axis start count step).2.2])∧Step XRep T o w p (σ.cut h axis start count step).1 w':=by
 have hR':=hR;obtain⟨hok,L,X,hX,hT⟩:=hR;cases hf:σ.find h with
 |none=>
  have hres:σ.cut h axis start count step=(σ,0,2):=by simp[Sp.cut,hf]
  rw[hres];refine(xCut_none hX h axis start count step (hT.non h hf)).mono ?_;rintro e w' ⟨rfl,hk⟩;exact⟨rfl,hR'.stay hk⟩
 |some a=>
  obtain⟨x,hA,hx⟩:=hT.som h a hf;have ha:=kind_of hok hf;have hkd:x.kind=1∨x.kind=2:=by rw[hx.kind];exact ha.kind
  have hl:=hx.l;have hs:=hx.g.shape;by_cases hax:0≤axis∧axis<(x.l.length:Int)
  ·obtain⟨k,rfl⟩:∃k:Nat,axis=(k:Int):=⟨axis.toNat,by omega⟩
   have hk:k<x.l.length:=by omega
   have hsz:=hs.2.1 k hk;by_cases hc:cutsP (nth x.l k) start count step=true
   ·obtain⟨c1,c2,c3,c4⟩:=(cutsP_iff _ _ _ _ hsz).1 hc
    obtain⟨cn,rfl⟩:∃cn:Nat,count=(cn:Int):=⟨count.toNat,by omega⟩;have c5:=((cutR_iff _ _ _ _).1 c4).2;simp only[Int.toNat_natCast]at c5;have hB:cutB a.shape (k:Int) start (cn:Int) step=true:=by
     unfold cutB cutA;rw[←hl,Int.toNat_natCast,c4];simp;omega
    have hres:σ.cut h (k:Int) start (cn:Int) step=σ.derive a (a.shape.set k (cn:Int)) (cutRk a.shape k start (cn:Int) step) false:=by
     simp only[Sp.cut,hf];rw[if_neg (by rw[hB];simp),Int.toNat_natCast]
    have hcs:=cut_shape hs hk (by omega) c1 c5;obtain⟨g1,g2,g3⟩:=cut_grid (step:=step) hx.g hk (by omega) c5;have hV:=xc_view hok hX hT hf hx (a.shape.set k (cn:Int)) (cutT x.l x.t k cn step) (x.f+start*nth x.t k) (by rw[←hl];exact hcs) (by unfold cutT;rw[mkL_length,←hl,List.length_set];exact Nat.le_refl _) (fun j hj hj1=>by
      rw[←hl]at hj hj1;rw[List.length_set]at hj;rw[cutT_nth hx.g.steps hk];rw[nth_setU hk]at hj1;unfold upd at hj1⊢;by_cases e:j=k
      ·rw[if_pos e]at hj1⊢
       rw[stepOf,if_pos hj1]
      ·rw[if_neg e]at hj1⊢
       exact hx.g.unit j hj hj1) (fun i=>cutL i k start cn step) (fun i hi=>by rw[←hl]at hi⊢;exact cutL_in hs hk (by omega) c5 hi) (fun i hi=>by rw[←hl]at hi⊢;exact cut_dot hk (by omega) i hi) false x (by simp) hm _ hres
    have hG:Hid (∀W,Kp0 w W→Calls Tryz.prog 55 #[.agg (grC x.l x.t x.f).toArray,.int .i64 (k:Int),.int .i64 start,.int .i64 (cn:Int),.int .i64 step] W fun e w'=>e=.returned (.tuple #[.agg (grC (a.shape.set k (cn:Int)) (cutT x.l x.t k cn step) (x.f+start*nth x.t k)).toArray,.bool true])∧Kp0 W w'):=fun W _=>by
     rw[←hl];exact xgcut_yes x.l x.t x.f start step k cn W hk hs.1 hx.g.steps hs.2.1 hc g1 g2 g3
    refine(xCut_yes hX h (k:Int) start (cn:Int) step x hA hkd _ _ _ hG (hid hV)).mono ?_;rintro e w' ⟨r1,r2,rfl,⟨rfl,rfl⟩,hst⟩;exact⟨rfl,hst⟩
   ·have hc':cutsP (nth x.l k) start count step=false:=by simpa using hc
    have hB:cutB a.shape (k:Int) start count step=false:=by
     rw[←Bool.not_eq_true];intro e;unfold cutB at e;rw[←hl,Int.toNat_natCast]at e;simp only[Bool.and_eq_true]at e;obtain⟨e1,e2⟩:=e;obtain⟨a1,a2,a3,a4,a5⟩:=(cutA_iff _ _ _ _).1 e1;exact hc ((cutsP_iff _ _ _ _ hsz).2 ⟨a5,a3,a4,e2⟩)
    have hres:σ.cut h (k:Int) start count step=(σ,0,5):=by simp[Sp.cut,hf,hB]
    rw[hres];refine(xCut_no hX h (k:Int) start count step x hA hkd (hid (fun W _=>xgcut_no x.l x.t x.f start count step k W hk hs.1 hs.2.1 hc'))).mono ?_;rintro e w' ⟨rfl,hk'⟩;exact⟨rfl,hR'.stay hk'⟩
  ·have hb:(decide (0≤axis)&&decide (axis<(x.l.length:Int)))=false:=by
    rw[←Bool.not_eq_true];simp;omega
   have hB:cutB a.shape axis start count step=false:=by
    rw[←Bool.not_eq_true];intro e;unfold cutB at e;rw[←hl]at e;simp only[Bool.and_eq_true]at e;obtain⟨a1,a2,-⟩:=(cutA_iff _ _ _ _).1 e.1;exact hax ⟨a1,a2⟩
   have hres:σ.cut h axis start count step=(σ,0,5):=by simp[Sp.cut,hf,hB]
   rw[hres];refine(xCut_no hX h axis start count step x hA hkd (hid (fun W _=>xgcut_axis x.l x.t x.f axis start count step W hb))).mono ?_;rintro e w' ⟨rfl,hk'⟩;exact⟨rfl,hR'.stay hk'⟩
theorem xc_turn{T:Tags}{o:Nat}{w:World}{p:Nat}{σ:Sp}(h:Int)(va:Value)(ax:List Int)(hr:RdI w va ax)(hR:XRep T o w p σ)(hm:σ.arrs.length+1≤100000000):Calls Tryz.prog 20 #[.pointer (some ⟨p,0,none⟩),.int .i64 h,va] w fun e w'=>e=.returned (.tuple #[.int .i64 (σ.turn h ax).2.1,.int .i64 (σ.turn h ax).2.2])∧Step XRep T o w p (σ.turn h ax).1 w':=by
 have hR':=hR;obtain⟨hok,L,X,hX,hT⟩:=hR;cases hf:σ.find h with
 |none=>
  have hres:σ.turn h ax=(σ,0,2):=by simp[Sp.turn,hf]
  rw[hres];refine(xTurn_none hX h va (hT.non h hf)).mono ?_;rintro e w' ⟨rfl,hk⟩;exact⟨rfl,hR'.stay hk⟩
 |some a=>
  obtain⟨x,hA,hx⟩:=hT.som h a hf;have ha:=kind_of hok hf;have hkd:x.kind=1∨x.kind=2:=by rw[hx.kind];exact ha.kind
  have hl:=hx.l;have hs:=hx.g.shape;cases hb:turnB a.shape.length ax with
  |false=>
   have hres:σ.turn h ax=(σ,0,4):=by simp[Sp.turn,hf,hb]
   rw[hres];rw[←hl]at hb;refine(xTurn_no hX h va x hA hkd (hid (fun W k=>xgturn_no x.l x.t ax x.f va W (hr.kp0 k) hs.1 hb))).mono ?_;rintro e w' ⟨rfl,hk'⟩;exact⟨rfl,hR'.stay hk'⟩
  |true=>
   have hres:σ.turn h ax=σ.derive a (turnS a.shape ax) (turnRk a.shape ax) false:=by simp[Sp.turn,hf,hb]
   rw[←hl]at hb;obtain⟨t1,t2⟩:=(turnB_iff _ _).1 hb;have hts:=turn_shape hs t1 t2;have hV:=xc_view hok hX hT hf hx (turnS a.shape ax) (turnS x.t ax) x.f (by rw[←hl];exact hts) (by rw[turnS_length,turnS_length];exact Nat.le_refl _) (fun j hj hj1=>by
     rw[turnS_length]at hj;rw[turnS_nth _ _ _ hj]at hj1⊢;rw[←hl]at hj1;have:=(t2 j (by omega)).1;exact hx.g.unit _ (by omega) hj1) (fun i=>turnTo a.shape.length ax i a.shape.length) (fun i hi=>by
     rw[←hl]at hi⊢;exact⟨(turnTo_length _ _ _ _).symm,turnTo_in hs t1 t2 hi x.l.length (Nat.le_refl _)⟩) (fun i hi=>by
     rw[←hl,turnS_length,turn_dot t1 t2 i x.l.length (Nat.le_refl _),t1]) false x (by simp) hm _ hres
   have hG:Hid (∀W,Kp0 w W→Calls Tryz.prog 53 #[.agg (grC x.l x.t x.f).toArray,va] W fun e w'=>e=.returned (.tuple #[.agg (grC (turnS a.shape ax) (turnS x.t ax) x.f).toArray,.bool true])∧Kp0 W w'):=fun W k=>by
    rw[←hl];exact xgturn_yes x.l x.t ax x.f _ va W (hr.kp0 k) hx.g hb
   refine(xTurn_yes hX h va x hA hkd _ _ _ hG (hid hV)).mono ?_;rintro e w' ⟨r1,r2,rfl,⟨rfl,rfl⟩,hst⟩;exact⟨rfl,hst⟩
end Go.Proofs.YticbbncdcannlaaGreat
namespace Go.Proofs.YticbbncdcannlaaGreat
open Go.RowKit Go.Maps Go.ChangeMaps Go.MapKept
theorem xStretch_none{T:Tags}{o:Nat}{w:World}{p:Nat}{L:XL}{X:XS}(h:XAt T o w p L X)(hd:Int)(va:Value)(hA:X.A hd=none):Calls Tryz.prog 83 #[.pointer (some ⟨p,0,none⟩),.int .i64 hd,va] w fun e w'=>e=.returned (.tuple #[.int .i64 0,.int .i64 2])∧Kp0 w w':=by
 have HF:=hid (xfind_none h hd hA);unfold xaZ at HF;clear h hA;go_enter Tryz.func83,Tryz.ntmps83
 go_wp2_with fail
 refine HF.out.mono ?_;rintro e w2 ⟨rfl,hw⟩;have HK:=hid hw;clear hw;go_wp2
 go_ret2
 exact⟨rfl,HK.out.alloc _⟩
theorem xStretch_shape{T:Tags}{o:Nat}{w:World}{p:Nat}{L:XL}{X:XS}(h:XAt T o w p L X)(hd:Int)(va:Value)(x:XA)(hA:X.A hd=some x)(hk:x.kind=1∨x.kind=2)(HG:Hid (∀W,Kp0 w W→Calls Tryz.prog 56 #[va] W fun e w'=>e=.returned (.tuple #[.agg (shC []).toArray,.bool false])∧Kp0 W w')):Calls Tryz.prog 83 #[.pointer (some ⟨p,0,none⟩),.int .i64 hd,va] w fun e w'=>e=.returned (.tuple #[.int .i64 0,.int .i64 4])∧Kp0 w w':=by
 have HF:=hid (xfind_some h hd x hA hk);generalize L.inV x.kind=I at*;unfold XA.cs at HF;unfold shC at HG;generalize x.l.length=n at*;clear h hA hk;go_enter Tryz.func83,Tryz.ntmps83
 go_wp2_with fail
 refine HF.out.mono ?_;rintro e w2 ⟨rfl,hw⟩;have HK:=hid hw;clear hw
 go_wp2_with fail
 refine(HG.out _ (HK.out.alloc _)).mono ?_;rintro e w3 ⟨rfl,hw⟩;have HK3:Hid (Kp0 w w3):=Kp0.trans (HK.out.alloc _) hw;clear hw;go_wp2
 go_ret2
 exact⟨rfl,HK3.out.alloc _⟩
theorem xStretch_no{T:Tags}{o:Nat}{w:World}{p:Nat}{L:XL}{X:XS}(h:XAt T o w p L X)(hd:Int)(va:Value)(x:XA)(s:List Int)(hA:X.A hd=some x)(hk:x.kind=1∨x.kind=2)(HS:Hid (∀W,Kp0 w W→Calls Tryz.prog 56 #[va] W fun e w'=>e=.returned (.tuple #[.agg (shC s).toArray,.bool true])∧Kp0 W w'))(HG:Hid (∀W,Kp0 w W→Calls Tryz.prog 127 #[.agg (grC x.l x.t x.f).toArray,.agg (shC s).toArray] W fun e w'=>e=.returned (.tuple #[.agg zG,.bool false])∧Kp0 W w')):Calls Tryz.prog 83 #[.pointer (some ⟨p,0,none⟩),.int .i64 hd,va] w fun e w'=>e=.returned (.tuple #[.int .i64 0,.int .i64 4])∧Kp0 w w':=by
 have HF:=hid (xfind_some h hd x hA hk);generalize L.inV x.kind=I at*;unfold XA.cs at HF;unfold shC at HS HG;unfold grC zG at HG;generalize x.l.length=n at*;generalize s.length=m at*;clear h hA hk;go_enter Tryz.func83,Tryz.ntmps83
 go_wp2_with fail
 refine HF.out.mono ?_;rintro e w2 ⟨rfl,hw⟩;have HK:=hid hw;have HB2:Hid ((w2.alloc (.cells #[.int .i64 x.kind,.int .i64 x.buf,.int .i64 (nth x.l 0),.int .i64 (nth x.l 1),.int .i64 (nth x.l 2),.int .i64 (nth x.l 3),.int .i64 (n:Int),.int .i64 x.f,.int .i64 (nth x.t 0),.int .i64 (nth x.t 1),.int .i64 (nth x.t 2),.int .i64 (nth x.t 3),.bool x.ro] 109)).heap[w2.heap.size]? =some (.cells #[.int .i64 x.kind,.int .i64 x.buf,.int .i64 (nth x.l 0),.int .i64 (nth x.l 1),.int .i64 (nth x.l 2),.int .i64 (nth x.l 3),.int .i64 (n:Int),.int .i64 x.f,.int .i64 (nth x.t 0),.int .i64 (nth x.t 1),.int .i64 (nth x.t 2),.int .i64 (nth x.t 3),.bool x.ro] 109 (0,0))):=heap_alloc_new w2 _;clear hw
 go_wp2_with fail
 refine(HS.out _ (HK.out.alloc _)).mono ?_;rintro e w3 ⟨rfl,hw⟩;have HB3:=hid (hw.heap HB2.out);have HK3:Hid (Kp0 w w3):=Kp0.trans (HK.out.alloc _) hw;have hlt:w2.heap.size<w3.heap.size:=lt_of_heap HB3.out;clear hw HB2;generalize w2.heap.size=b0 at*;obtain⟨y0,y1,y2,y3,y4,y5,y6,y7,y8,y9,y10,y11,y12⟩:=cells13 HB3.out
 go_wp2_with fail
 refine(HG.out _ (HK3.out.alloc _)).mono ?_;rintro e w4 ⟨rfl,hw⟩;have HK4:Hid (Kp0 w w4):=Kp0.trans (HK3.out.alloc _) hw;clear hw;go_wp2
 go_ret2
 exact⟨rfl,HK4.out.alloc _⟩
theorem xStretch_yes{T:Tags}{o:Nat}{w:World}{p:Nat}{L:XL}{X:XS}(h:XAt T o w p L X)(hd:Int)(va:Value)(x:XA)(s:List Int)(hA:X.A hd=some x)(hk:x.kind=1∨x.kind=2)(l t:List Int)(f:Int){R:Int→Int→World→Prop}(HS:Hid (∀W,Kp0 w W→Calls Tryz.prog 56 #[va] W fun e w'=>e=.returned (.tuple #[.agg (shC s).toArray,.bool true])∧Kp0 W w'))(HG:Hid (∀W,Kp0 w W→Calls Tryz.prog 127 #[.agg (grC x.l x.t x.f).toArray,.agg (shC s).toArray] W fun e w'=>e=.returned (.tuple #[.agg (grC l t f).toArray,.bool true])∧Kp0 W w'))(HV:Hid (∀W,Kp0 w W→Calls Tryz.prog 54 #[.pointer (some ⟨p,0,none⟩),.agg ({x with ro:=true}:XA).cs,.agg (grC l t f).toArray] W fun e w'=>∃a b,e=.returned (.tuple #[.int .i64 a,.int .i64 b])∧R a b w')):Calls Tryz.prog 83 #[.pointer (some ⟨p,0,none⟩),.int .i64 hd,va] w fun e w'=>∃a b,e=.returned (.tuple #[.int .i64 a,.int .i64 b])∧R a b w':=by
 have HF:=hid (xfind_some h hd x hA hk);generalize L.inV x.kind=I at*;unfold XA.cs at HF HV;unfold shC at HS HG;unfold grC at HG HV;simp only at HV;generalize x.l.length=n at*;generalize s.length=m at*;generalize l.length=m2 at*;clear h hA hk;go_enter Tryz.func83,Tryz.ntmps83
 go_wp2_with fail
 refine HF.out.mono ?_;rintro e w2 ⟨rfl,hw⟩;have HK:=hid hw;have HB2:Hid ((w2.alloc (.cells #[.int .i64 x.kind,.int .i64 x.buf,.int .i64 (nth x.l 0),.int .i64 (nth x.l 1),.int .i64 (nth x.l 2),.int .i64 (nth x.l 3),.int .i64 (n:Int),.int .i64 x.f,.int .i64 (nth x.t 0),.int .i64 (nth x.t 1),.int .i64 (nth x.t 2),.int .i64 (nth x.t 3),.bool x.ro] 109)).heap[w2.heap.size]? =some (.cells #[.int .i64 x.kind,.int .i64 x.buf,.int .i64 (nth x.l 0),.int .i64 (nth x.l 1),.int .i64 (nth x.l 2),.int .i64 (nth x.l 3),.int .i64 (n:Int),.int .i64 x.f,.int .i64 (nth x.t 0),.int .i64 (nth x.t 1),.int .i64 (nth x.t 2),.int .i64 (nth x.t 3),.bool x.ro] 109 (0,0))):=heap_alloc_new w2 _;have HSZ:Hid (w.heap.size≤w2.heap.size):=hid hw.size;clear hw
 go_wp2_with fail
 refine(HS.out _ (HK.out.alloc _)).mono ?_;rintro e w3 ⟨rfl,hw⟩;have HB3:=hid (hw.heap HB2.out);have HK3:Hid (Kp0 w w3):=Kp0.trans (HK.out.alloc _) hw;have hlt:w2.heap.size<w3.heap.size:=lt_of_heap HB3.out;clear hw HB2;generalize w2.heap.size=b0 at*;obtain⟨y0,y1,y2,y3,y4,y5,y6,y7,y8,y9,y10,y11,y12⟩:=cells13 HB3.out
 go_wp2_with fail
 refine(HG.out _ (HK3.out.alloc _)).mono ?_;rintro e w4 ⟨rfl,hw⟩;have HB4:=hid (hw.heap (heap_alloc_keeps HB3.out _));have HK4:Hid (Kp0 w w4):=Kp0.trans (HK3.out.alloc _) hw;have hlt4:b0<w4.heap.size:=lt_of_heap HB4.out;clear hw y0 y1 y2 y3 y4 y5 y6 y7 y8 y9 y10 y11 y12 HB3 HK3;have HKS:Hid (∀O:Obj,Kp0 w ((w4.setCell ⟨b0,12,none⟩ (.bool true)).alloc O)):=hid (fun O=>Kp.alloc (Kp.setCell HK4.out ⟨b0,12,none⟩ _ (fun h=>by have:=HSZ.out;change b0<_ at h;omega)) O);obtain⟨z0,z1,z2,z3,z4,z5,z6,z7,z8,z9,z10,z11,z12⟩:=cells13 HB4.out;have f12:=frozen_of_row _ b0 12 _ _ HB4.out
 go_wp2_with fail
 refine(HV.out _ (HKS.out _)).mono ?_;rintro e w5 ⟨a,b,rfl,hR⟩;have HR:=hid hR;clear hR;go_wp2
 go_ret2
 exact⟨a,b,rfl,HR.out⟩
theorem xc_stretch{T:Tags}{o:Nat}{w:World}{p:Nat}{σ:Sp}(h:Int)(va:Value)(s:List Int)(hr:RdI w va s)(hR:XRep T o w p σ)(hm:σ.arrs.length+1≤100000000):Calls Tryz.prog 83 #[.pointer (some ⟨p,0,none⟩),.int .i64 h,va] w fun e w'=>e=.returned (.tuple #[.int .i64 (σ.stretch h s).2.1,.int .i64 (σ.stretch h s).2.2])∧Step XRep T o w p (σ.stretch h s).1 w':=by
 have hR':=hR;obtain⟨hok,L,X,hX,hT⟩:=hR;cases hf:σ.find h with
 |none=>
  have hres:σ.stretch h s=(σ,0,2):=by simp[Sp.stretch,hf]
  rw[hres];refine(xStretch_none hX h va (hT.non h hf)).mono ?_;rintro e w' ⟨rfl,hk⟩;exact⟨rfl,hR'.stay hk⟩
 |some a=>
  obtain⟨x,hA,hx⟩:=hT.som h a hf;have ha:=kind_of hok hf;have hkd:x.kind=1∨x.kind=2:=by rw[hx.kind];exact ha.kind
  have hl:=hx.l;cases hsb:shapeB s with
  |false=>
   have hres:σ.stretch h s=(σ,0,4):=by simp[Sp.stretch,hf,hsb]
   rw[hres];refine(xStretch_shape hX h va x hA hkd (hid (fun W k=>by have:=xshape_calls va s W (hr.kp0 k);rw[hsb]at this;exact this))).mono ?_;rintro e w' ⟨rfl,hk⟩;exact⟨rfl,hR'.stay hk⟩
  |true=>
   have hs:okShape s:=(shapeB_iff s).1 hsb;have HS:Hid (∀W,Kp0 w W→Calls Tryz.prog 56 #[va] W fun e w'=>e=.returned (.tuple #[.agg (shC s).toArray,.bool true])∧Kp0 W w'):=hid (fun W k=>by have:=xshape_calls va s W (hr.kp0 k);rw[hsb]at this;exact this);cases hst:stretchB a.shape s with
   |false=>
    have hres:σ.stretch h s=(σ,0,4):=by simp[Sp.stretch,hf,hsb,hst]
    rw[hres];refine(xStretch_no hX h va x s hA hkd HS (hid (fun W _=>(xgstr_calls x.l x.t s x.f W hx.g.shape.1 hs.1).mono ?_))).mono ?_
    ·rintro e w' ⟨h1|h1,hk⟩
     ·rw[hl,hst]at h1;exact absurd h1.1 (by simp)
     ·exact⟨h1.2,hk⟩
    ·rintro e w' ⟨rfl,hk⟩
     exact⟨rfl,hR'.stay hk⟩
   |true=>
    have hres:σ.stretch h s=σ.derive a s (meant a.shape s) true:=by simp[Sp.stretch,hf,hsb,hst]
    obtain⟨f1,f2⟩:=(stretchB_iff _ _).1 hst;have hV:=xc_view hok hX hT hf hx s (strT a.shape x.t s) x.f hs (by unfold strT;rw[mkL_length];exact Nat.le_refl _) (fun k hk hk1=>by
      have hg:=(str_okB (hl▸hx.g:GOk a.shape x.t x.f _) hs hst).unit;exact hg k hk hk1) (meantOf a.shape s) (fun i hi=>meantOf_in a.shape s i ha.shape.2.1 f1 f2 hi) (fun i hi=>by
      rw[str_dot f1 (by rw[←hl];exact hx.g.unit) ha.shape.2.1 i]) true {x with ro:=true} (by simp) hm _ hres
    have hG:Hid (∀W,Kp0 w W→Calls Tryz.prog 127 #[.agg (grC x.l x.t x.f).toArray,.agg (shC s).toArray] W fun e w'=>e=.returned (.tuple #[.agg (grC s (strT a.shape x.t s) x.f).toArray,.bool true])∧Kp0 W w'):=hid (fun W _=>(xgstr_calls x.l x.t s x.f W hx.g.shape.1 hs.1).mono (by
     rintro e w' ⟨h1|h1,hk⟩
     ·rw[hl]at h1;exact⟨h1.2,hk⟩
     ·rw[hl,hst]at h1;exact absurd h1.1 (by simp)))
    refine(xStretch_yes hX h va x s hA hkd _ _ _ HS hG (hid hV)).mono ?_;rintro e w' ⟨r1,r2,rfl,⟨rfl,rfl⟩,hst⟩;exact⟨rfl,hst⟩
end Go.Proofs.YticbbncdcannlaaGreat
namespace Go.Proofs.YticbbncdcannlaaGreat
open Go.RowKit
def StepQ(T:Tags)(o:Nat)(w:World)(p:Nat)(L:XL)(σ':Sp)(w':World):Prop:=
 ∃T' L' X',TagsTo w T T'∧σ'.ok∧XAt T' o w' p L' X'∧Tie X' (Maps.size L'.D) σ'∧Kp (fun b=>(T b).1=o) w w'∧L'.q1=L.q1∧L'.q2=L.q2
theorem xc_whole{T:Tags}{o:Nat}{w:World}{p:Nat}{σ:Sp}{L:XL}{X:XS}(kind:Int)(s:List Int)(hok:σ.ok)(hX:XAt T o w p L X)(hT:Tie X (Maps.size L.D) σ)(hk:kind=1∨kind=2)(hs:shapeB s=true)(hm:σ.arrs.length+1≤100000000)(hb:σ.bufs.length+1≤100000000):∀W,Kp0 w W→Calls Tryz.prog 63 #[.pointer (some ⟨p,0,none⟩),.int .i64 kind,L.inV kind,.agg (shC s).toArray] W fun e w'=>e=.returned (.tuple #[.int .i64 (σ.make kind s).2.1,.int .i64 (σ.make kind s).2.2])∧StepQ T o w p L (σ.make kind s).1 w':=by
 have hsh:=(shapeB_iff s).1 hs;have hv:=vol_bd s hsh.2.1 hsh.1 s.length (Nat.le_refl _);rw[List.take_length]at hv;have stay:∀{w'},Kp0 w w'→StepQ T o w p L σ w':=fun k=>⟨T,L,X,fun _ _=>rfl,hok,hX.kp0 k,hT,Kp.of0 k,rfl,rfl⟩
 intro W k;have hXW:=hX.kp0 k;by_cases hl:40≤σ.live
 ·rw[make_many hk hs hl]
  refine(xwholeManyB hXW s (by rw[hT.live];exact hl) kind (L.inV kind)).mono ?_;rintro e w' ⟨rfl,hk'⟩;exact⟨rfl,stay (Kp0.trans k hk')⟩
 ·have hl':¬40≤Maps.size L.D:=by rw[hT.live];exact hl
  rcases hk with rfl|rfl
  ·have hc1:X.c1.length≤10000:=by rw[hT.k1.len];exact cap_le hok 1
   have hf1:=hT.k1.few;have hpl:=place_of hT.k1 (vol s) (by omega);obtain⟨l1,l2,l3⟩:=low_bd (vol s) hT.k1.inn (by omega);by_cases hfit:(low (vol s) X.b1).1+vol s≤(σ.cap 1:Int)
   ·rw[if_pos hfit]at hpl
    have hres:σ.make 1 s=(σ.made 1 (low (vol s) X.b1).1 s (vol s).toNat fun _=>0,(σ.arrs.length:Int)+1,0):=by
     unfold Sp.make;rw[if_neg (by omega),if_neg (by simp[hs]),if_neg hl,hpl,if_neg (by omega)]
    rw[hres];refine(xwholeOkB hXW s hsh hl' hT.k1.inn hc1 (by omega) (by rw[hT.k1.len];exact hfit) (by rw[hT.last];omega)).mono ?_;rintro e w' ⟨rfl,hk',T',L',t,hTT,ht1,ht2,hX',hD,hq1,hq2,-⟩;refine⟨by rw[hT.last],T',L',_,fun b hb'=>hTT b (Nat.lt_of_lt_of_le hb' k.size),?_,hX',?_,(Kp.of0 k).trans hk' (fun _ _ e=>e),hq1,hq2⟩
    ·exact made_ok hok 1 _ s _ (.inl rfl) hsh l1 (by rw[show(((vol s).toNat:Nat):Int)=vol s by omega];exact hfit) hm hb
    ·exact hT.madeB hok (hX.map.tidy Tryz.lawInt) hX.ent s t hsh ht1 ht2 (by rw[hT.k1.len];exact hfit) hD
   ·rw[if_neg hfit]at hpl
    have hres:σ.make 1 s=(σ,0,8):=by
     unfold Sp.make;rw[if_neg (by omega),if_neg (by simp[hs]),if_neg hl,hpl,if_pos (by omega)]
    rw[hres];refine(xwholeFullB hXW s hsh hl' hT.k1.inn hc1 (by omega) (by rw[hT.k1.len];omega)).mono ?_;rintro e w' ⟨rfl,hk'⟩;exact⟨rfl,stay (Kp0.trans k hk')⟩
  ·have hc2:X.c2.length≤10000:=by rw[hT.k2.len];exact cap_le hok 2
   have hf2:=hT.k2.few;have hpl:=place_of hT.k2 (vol s) (by omega);obtain⟨l1,l2,l3⟩:=low_bd (vol s) hT.k2.inn (by omega);by_cases hfit:(low (vol s) X.b2).1+vol s≤(σ.cap 2:Int)
   ·rw[if_pos hfit]at hpl
    have hres:σ.make 2 s=(σ.made 2 (low (vol s) X.b2).1 s (vol s).toNat fun _=>0,(σ.arrs.length:Int)+1,0):=by
     unfold Sp.make;rw[if_neg (by omega),if_neg (by simp[hs]),if_neg hl,hpl,if_neg (by omega)]
    rw[hres];refine(xwholeOkI hXW s hsh hl' hT.k2.inn hc2 (by omega) (by rw[hT.k2.len];exact hfit) (by rw[hT.last];omega)).mono ?_;rintro e w' ⟨rfl,hk',T',L',t,hTT,ht1,ht2,hX',hD,hq1,hq2,-⟩;refine⟨by rw[hT.last],T',L',_,fun b hb'=>hTT b (Nat.lt_of_lt_of_le hb' k.size),?_,hX',?_,(Kp.of0 k).trans hk' (fun _ _ e=>e),hq1,hq2⟩
    ·exact made_ok hok 2 _ s _ (.inr rfl) hsh l1 (by rw[show(((vol s).toNat:Nat):Int)=vol s by omega];exact hfit) hm hb
    ·exact hT.madeI hok (hX.map.tidy Tryz.lawInt) hX.ent s t hsh ht1 ht2 (by rw[hT.k2.len];exact hfit) hD
   ·rw[if_neg hfit]at hpl
    have hres:σ.make 2 s=(σ,0,8):=by
     unfold Sp.make;rw[if_neg (by omega),if_neg (by simp[hs]),if_neg hl,hpl,if_pos (by omega)]
    rw[hres];refine(xwholeFullI hXW s hsh hl' hT.k2.inn hc2 (by omega) (by rw[hT.k2.len];omega)).mono ?_;rintro e w' ⟨rfl,hk'⟩;exact⟨rfl,stay (Kp0.trans k hk')⟩
theorem put_put(σ:Sp)(k:Int)(c:Nat)(v u:Int):(σ.put k c v).put k c u=σ.put k c u:=by
 unfold Sp.put;split<;>simp
theorem put_comm(σ:Sp)(k:Int)(c d:Nat)(v u:Int)(h:c≠d):(σ.put k c v).put k d u=(σ.put k d u).put k c v:=by
 unfold Sp.put;split
 ·simp only[Sp.mk.injEq,true_and,and_true]
  exact List.set_comm _ _ h
 ·simp only[Sp.mk.injEq,true_and,and_true]
  exact List.set_comm _ _ h
theorem put_lay(σ:Sp)(k:Int)(c:Nat)(v:Int)(a:Arr):(σ.lay a).put k c v=(σ.put k c v).lay a:=by
 unfold Sp.put Sp.lay;split<;>rfl
theorem puts_lay(σ:Sp)(k b:Int)(f:Nat→Int)(a:Arr)(m:Nat):(σ.lay a).puts k b f m=(σ.puts k b f m).lay a:=by
 induction m with
 |zero=>rfl
 |succ m ih=>rw[Sp.puts,ih,put_lay];rfl
theorem put_puts(σ:Sp)(k a:Int)(f:Nat→Int)(h0:0≤a)(v:Int)(n:Nat):∀m:Nat,m≤n→(σ.put k (a+n).toNat v).puts k a f m=(σ.puts k a f m).put k (a+n).toNat v
 |0,_=>rfl
 |m+1,h=>by
  rw[Sp.puts,put_puts σ k a f h0 v n m (by omega),put_comm _ _ _ _ _ _ (by omega)];rfl
theorem puts_over(σ:Sp)(k a:Int)(g f:Nat→Int)(h0:0≤a)(m:Nat):(σ.puts k a g m).puts k a f m=σ.puts k a f m:=by
 induction m with
 |zero=>rfl
 |succ m ih=>
  show((((σ.puts k a g m).put k (a+m).toNat (g m)).puts k a f m).put k (a+m).toNat (f m))=(σ.puts k a f m).put k (a+m).toNat (f m);rw[put_puts _ _ _ _ h0 _ m m (Nat.le_refl _),put_put,ih]
theorem writes_rng(σ:Sp)(k a:Int)(f:Nat→Int)(n:Nat):∀m,m≤n→σ.writes k (rng a n) f m=σ.puts k a f m
 |0,_=>rfl
 |m+1,h=>by rw[Sp.writes,Sp.puts,writes_rng σ k a f n m (by omega),nth_rng _ _ _ (by omega)]
theorem made_writes(σ:Sp)(k a:Int)(s:List Int)(m:Nat)(f:Nat→Int)(h0:0≤a):(σ.made k a s m fun _=>0).writes k (rng a m) f m=σ.made k a s m f:=by
 rw[writes_rng _ _ _ _ _ _ (Nat.le_refl _)];unfold Sp.made;rw[puts_lay,puts_over _ _ _ _ _ h0]
end Go.Proofs.YticbbncdcannlaaGreat
