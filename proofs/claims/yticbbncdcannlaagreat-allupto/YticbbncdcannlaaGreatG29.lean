import Derived.Test.YticbbncdcannlaaGreatG18
import Derived.Test.YticbbncdcannlaaGreatG28
set_option maxRecDepth 100000
set_option maxHeartbeats 8000000
namespace Go.Proofs.YticbbncdcannlaaGreat
open Go.RowKit Go.Maps Go.ChangeMaps Go.MapKept
theorem Tryz.mTakeB(a:Addr)(x:Value)(w:World):(callMethod (.iface 126 (.pointer (some a))) "Take" #[x]).run Tryz.prog w=.ok (.enter 197 #[.pointer (some a),x]) w:=by kernel_rfl
theorem Tryz.nTakeB(a:Addr)(w:World):(nilAhead 367 126 (.pointer (some a)) "Take").run Tryz.prog w=.ok (some false) w:=by kernel_rfl
def XS.bufsB(X:XS)(bs:List (Int×Int)):XS:={X with b1:=bs}
theorem XAt.bufsB{T:Tags}{o:Nat}{w w':World}{p:Nat}{L:XL}{X:XS}(h:XAt T o w p L X)(k:Kp (fun b=>b=L.q1∨L.vb1.ownBlock=some b) w w'){vb':Value}{bs:List (Int×Int)}(hs:StAtB w' L.q1 L.g1 vb' X.c1 bs)(hn:∀b,vb'.ownBlock=some b→L.vb1.ownBlock=some b∨w.heap.size≤b):XAt (retag w T (o,4)) o w' p {L with vb1:=vb'} (X.bufsB bs):=by
 have ht:=retag_to w T (o,4);have h':=h.tags ht;have ne:∀{b n},T b=(o,n)→n≠2→n≠4→¬(b=L.q1∨L.vb1.ownBlock=some b):=fun{b n} hb h1 h2 e=>by
  rcases e with e|e
  ·rw[e,h.tq1]at hb;simp at hb;omega
  ·rw[h.tb1 b e]at hb;simp at hb;omega
 refine⟨k.heap h.blk (ne h.tp (by omega) (by omega)),hs,h.s2.kp k (ne h.tq2 (by omega) (by omega)) (ne h.tg2 (by omega) (by omega)) (fun b hb=>ne (h.tb2 b hb) (by omega) (by omega)),map_kp h.map k (ne h.tm (by omega) (by omega)),h.ent,h'.tp,h'.tq1,h'.tg1,fun b hb=>?_,h'.tq2,h'.tg2,h'.tb2,h'.tm⟩;rcases hn b hb with e|e
 ·exact h'.tb1 b e
 ·exact retag_new e
theorem xwholeManyB{T:Tags}{o:Nat}{w:World}{p:Nat}{L:XL}{X:XS}(h:XAt T o w p L X)(l:List Int)(hm:40≤Maps.size L.D)(kind:Int)(I:Value):Calls Tryz.prog 63 #[.pointer (some ⟨p,0,none⟩),.int .i64 kind,I,.agg (shC l).toArray] w fun e w'=>e=.returned (.tuple #[.int .i64 0,.int .i64 7])∧Kp0 w w':=by
 have HM:=hid (fun W (k:Kp0 w W)=>xisMany_calls (h.kp0 k));rw[show decide (40≤Maps.size L.D)=true by simp[hm]]at HM;unfold shC;clear h;go_enter Tryz.func63,Tryz.ntmps63
 go_wp2_with fail
 refine(HM.out _ ((Kp.refl _ w).alloc _)).mono ?_;rintro e w2 ⟨rfl,hw⟩;obtain rfl:=hw.symm;go_wp2
 go_ret2
 exact⟨rfl,(Kp.refl _ w).alloc _⟩
theorem xwholeFullB{T:Tags}{o:Nat}{w:World}{p:Nat}{L:XL}{X:XS}(h:XAt T o w p L X)(l:List Int)(hl:okShape l)(hm:¬40≤Maps.size L.D)(hin:bufsIn X.c1.length X.b1)(hc:X.c1.length≤10000)(hbl:X.b1.length≤1000000)(hfull:(X.c1.length:Int)<(low (vol l) X.b1).1+vol l):Calls Tryz.prog 63 #[.pointer (some ⟨p,0,none⟩),.int .i64 1,L.inV 1,.agg (shC l).toArray] w fun e w'=>e=.returned (.tuple #[.int .i64 0,.int .i64 8])∧Kp0 w w':=by
 have HM:=hid (fun W (k:Kp0 w W)=>xisMany_calls (h.kp0 k));rw[show decide (40≤Maps.size L.D)=false by simp[hm]]at HM;have hv:=vol_bd l hl.2.1 hl.1 l.length (Nat.le_refl _);rw[List.take_length]at hv;obtain⟨lb1,lb2,lb3⟩:=low_bd (vol l) hin (by omega);have HV:Hid (∀W,Kp0 w W→Calls Tryz.prog 57 #[.agg (shC l).toArray] W fun e w'=>∃v,e=.returned v∧(v=.int .i64 (vol l)∧Kp0 w w')):=fun W k=>(xvolume_calls l W hl.2.1 hl.1).mono (fun e w' h=>⟨_,h.1,rfl,Kp0.trans k h.2⟩)
 have HT:Hid (∀W,Kp0 w W→Calls Tryz.prog 197 #[.pointer (some ⟨L.q1,0,none⟩),.int .i64 (vol l)] W fun e w'=>∃v,e=.returned v∧(v=.tuple #[.int .i64 0,.bool false]∧Kp0 w w')):=fun W k=>(xTakeNoB_calls (h.kp0 k).s1 (vol l) (by omega) (by have:=hl.2.2;omega) hin hc hbl (low (vol l) X.b1).1 (low (vol l) X.b1).2 rfl lb1 (by omega) hfull).mono (fun e w' h=>⟨_,h.1,rfl,Kp0.trans k h.2⟩)
 have HI:Hid (L.inV 1=.iface 126 (.pointer (some ⟨L.q1,0,none⟩))):=rfl;rw[HI.out];unfold shC at HV⊢;generalize vol l=vl at*;clear h hin hfull lb1 lb2 lb3 hv;have HMR:=hid (Tryz.mTakeB ⟨L.q1,0,none⟩);have hna:=Tryz.nTakeB ⟨L.q1,0,none⟩;go_enter Tryz.func63,Tryz.ntmps63
 go_wp2_with fail
 refine(HM.out _ ((Kp.refl _ w).alloc _)).mono ?_;rintro e w2 ⟨rfl,hw⟩;obtain rfl:=hw.symm;have HKW:Hid (Kp0 w (w.alloc (.cells #[.int .i64 (nth l 0),.int .i64 (nth l 1),.int .i64 (nth l 2),.int .i64 (nth l 3),.int .i64 (l.length:Int)] 104))):=(Kp.refl _ w).alloc _;have HB:Hid ((w.alloc (.cells #[.int .i64 (nth l 0),.int .i64 (nth l 1),.int .i64 (nth l 2),.int .i64 (nth l 3),.int .i64 (l.length:Int)] 104)).heap[w.heap.size]? =some (.cells #[.int .i64 (nth l 0),.int .i64 (nth l 1),.int .i64 (nth l 2),.int .i64 (nth l 3),.int .i64 (l.length:Int)] 104 (0,0))):=heap_alloc_new w _;go_wp2
 generalize w.alloc (.cells #[.int .i64 (nth l 0),.int .i64 (nth l 1),.int .i64 (nth l 2),.int .i64 (nth l 3),.int .i64 (l.length:Int)] 104)=W at HB HKW⊢;generalize w.heap.size=b at HB⊢;obtain⟨z0,z1,z2,z3,z4⟩:=cells5 HB.out;have HKD:Hid (Kp0 w W.drew):=HKW.out.drew
 go_region_law ((first
  |(refine step_call1 (by rfl) 57 (.tmp 16) _ (by rfl) _ Tryz.func57 (by kernel_rfl) (by kernel_rfl) _ (by rfl) (HV.out _ HKD.out) ?_;intro v7 w7 hR;obtain⟨rfl,hk7⟩:=hR)
  |(refine step_invoke1 (by rfl) (.tmp 20) "Take" (.tmp 17) _ (by rfl) _ _ (by rfl) (by rfl) _ _ (HMR.out (.int .i64 vl) w7) (HT.out w7 hk7) ?_;intro v8 w8 hR8;obtain⟨rfl,hk8⟩:=hR8)))
 all_goals
  have HK8:=hid hk8;clear hk7 hk8;go_wp2
  go_ret2
  exact⟨rfl,HK8.out⟩
def XS.wholeB(X:XS)(l t:List Int):XS:=(X.bufsB (addB X.b1 (low (vol l) X.b1).2 ((low (vol l) X.b1).1,vol l))).more ⟨1,(low (vol l) X.b1).1,l,t,(low (vol l) X.b1).1,false⟩
theorem xwholeOkB{T:Tags}{o:Nat}{w:World}{p:Nat}{L:XL}{X:XS}(h:XAt T o w p L X)(l:List Int)(hl:okShape l)(hm:¬40≤Maps.size L.D)(hin:bufsIn X.c1.length X.b1)(hc:X.c1.length≤10000)(hbl:X.b1.length≤1000000)(hfit:(low (vol l) X.b1).1+vol l≤(X.c1.length:Int))(hlast:X.last≤1000000000):Calls Tryz.prog 63 #[.pointer (some ⟨p,0,none⟩),.int .i64 1,L.inV 1,.agg (shC l).toArray] w fun e w'=>e=.returned (.tuple #[.int .i64 ((X.last:Int)+1),.int .i64 0])∧Kp (fun b=>(T b).1=o) w w'∧∃T' L' t,TagsTo w T T'∧t.length=l.length∧(∀k,k<l.length→nth t k=wst l k)∧XAt T' o w' p L' (X.wholeB l t)∧L'.D=L.D.put (.int .i64 ((X.last:Int)+1)) (.held (.agg (XA.cs ⟨1,(low (vol l) X.b1).1,l,t,(low (vol l) X.b1).1,false⟩)))∧L'.q1=L.q1∧L'.q2=L.q2∧L'.g1=L.g1∧L'.g2=L.g2:=by
 have HM:=hid (fun W (k:Kp0 w W)=>xisMany_calls (h.kp0 k));rw[show decide (40≤Maps.size L.D)=false by simp[hm]]at HM;have hv:=vol_bd l hl.2.1 hl.1 l.length (Nat.le_refl _);rw[List.take_length]at hv;obtain⟨lb1,lb2,lb3⟩:=low_bd (vol l) hin (by omega);unfold XS.wholeB;generalize hs:(low (vol l) X.b1).1=s at*;generalize hrr:(low (vol l) X.b1).2=r at*;have HV:Hid (∀W,Kp0 w W→Calls Tryz.prog 57 #[.agg (shC l).toArray] W fun e w'=>∃v,e=.returned v∧(v=.int .i64 (vol l)∧Kp0 w w'∧Kp0 W w')):=fun W k=>(xvolume_calls l W hl.2.1 hl.1).mono (fun e w' h=>⟨_,h.1,rfl,Kp0.trans k h.2,h.2⟩)
 have hnq:L.vb1.ownBlock≠some L.q1∧L.q1≠L.g1∧L.vb1.ownBlock≠some L.g1:=by
  have t1:=h.tq1;have t2:=h.tg1;have t3:=h.tb1;refine⟨fun e=>?_,fun e=>?_,fun e=>?_⟩
  ·have:=t3 _ e;rw[t1]at this;simp at this
  ·rw[e,t2]at t1;simp at t1
  ·have:=t3 _ e;rw[t2]at this;simp at this
 have HT:Hid (∀W,Kp0 w W→Calls Tryz.prog 197 #[.pointer (some ⟨L.q1,0,none⟩),.int .i64 (vol l)] W fun e w'=>∃v,e=.returned v∧(v=.tuple #[.int .i64 s,.bool true]∧Kp (fun b=>b=L.q1∨L.vb1.ownBlock=some b) W w'∧∃T' L',TagsTo w T T'∧XAt T' o w' p L' (X.bufsB (addB X.b1 r (s,vol l)))∧L'.D=L.D∧L'.q1=L.q1∧L'.q2=L.q2∧L'.g1=L.g1∧L'.g2=L.g2)):=fun W k=>by
  refine(xTakeYesB_calls (h.kp0 k).s1 (vol l) (by omega) (by have:=hl.2.2;omega) hin hc hbl hnq.1 hnq.2.1 hnq.2.2 s r (by rw[←hs,←hrr]) lb3 lb1 (by omega) hfit).mono ?_;rintro e w' ⟨rfl,hk,vb',hst,hn⟩;have hx:=(h.kp0 k).bufsB hk hst hn;refine⟨_,rfl,rfl,hk,_,_,?_,hx,rfl,rfl,rfl,rfl,rfl⟩;intro b hb;exact retag_to W T _ b (Nat.lt_of_lt_of_le hb k.size)
 have HW:Hid (∀W,Calls Tryz.prog 98 #[.agg (shC l).toArray,.int .i64 s] W fun e w'=>∃t:List Int,t.length=l.length∧(∀k,k<l.length→nth t k=wst l k)∧e=.returned (.agg (grC l t s).toArray)∧Kp0 W w'):=fun W=>xwhole_calls l s W hl
 have HI:Hid (L.inV 1=.iface 126 (.pointer (some ⟨L.q1,0,none⟩))):=rfl;have HTQ:Hid (∀b,b=L.q1∨L.vb1.ownBlock=some b→(T b).1=o):=fun b e=>by
  rcases e with e|e
  ·rw[e,h.tq1]
  ·rw[h.tb1 b e]
 have HLT:Hid (∀b,b=L.q1∨L.vb1.ownBlock=some b→b<w.heap.size):=fun b e=>by
  rcases e with e|e
  ·rw[e];exact lt_of_heap h.s1.blk
  ·exact own_lt h.s1.bufs e
 rw[HI.out];unfold shC at HV HW⊢;unfold grC at HW;generalize vol l=vl at*;have HBS:Hid ((X.bufsB (addB X.b1 r (s,vl))).last=X.last):=rfl;generalize X.bufsB (addB X.b1 r (s,vl))=X2 at*;clear h hin hfit lb1 lb2 lb3 hv hs hrr hnq;have HMR:=hid (Tryz.mTakeB ⟨L.q1,0,none⟩);have hna:=Tryz.nTakeB ⟨L.q1,0,none⟩;go_enter Tryz.func63,Tryz.ntmps63
 go_wp2_with fail
 refine(HM.out _ ((Kp.refl _ w).alloc _)).mono ?_;rintro e w2 ⟨rfl,hw⟩;obtain rfl:=hw.symm;have HKW:Hid (Kp0 w (w.alloc (.cells #[.int .i64 (nth l 0),.int .i64 (nth l 1),.int .i64 (nth l 2),.int .i64 (nth l 3),.int .i64 (l.length:Int)] 104))):=(Kp.refl _ w).alloc _;have HB:Hid ((w.alloc (.cells #[.int .i64 (nth l 0),.int .i64 (nth l 1),.int .i64 (nth l 2),.int .i64 (nth l 3),.int .i64 (l.length:Int)] 104)).heap[w.heap.size]? =some (.cells #[.int .i64 (nth l 0),.int .i64 (nth l 1),.int .i64 (nth l 2),.int .i64 (nth l 3),.int .i64 (l.length:Int)] 104 (0,0))):=heap_alloc_new w _;have HBN:Hid (∀b,b=L.q1∨L.vb1.ownBlock=some b→b≠w.heap.size):=fun b e=>by have:=HLT.out b e;omega
 go_wp2
 generalize w.alloc (.cells #[.int .i64 (nth l 0),.int .i64 (nth l 1),.int .i64 (nth l 2),.int .i64 (nth l 3),.int .i64 (l.length:Int)] 104)=W at HB HKW⊢;generalize w.heap.size=b at HB HBN⊢;obtain⟨z0,z1,z2,z3,z4⟩:=cells5 HB.out;have HKD:Hid (Kp0 w W.drew):=HKW.out.drew
 go_region_law ((first
  |(refine step_call1 (by rfl) 57 (.tmp 16) _ (by rfl) _ Tryz.func57 (by kernel_rfl) (by kernel_rfl) _ (by rfl) (HV.out _ HKD.out) ?_;intro v7 w7 hR;obtain⟨rfl,hk7,hk7'⟩:=hR)
  |(refine step_invoke1 (by rfl) (.tmp 20) "Take" (.tmp 17) _ (by rfl) _ _ (by rfl) (by rfl) _ _ (HMR.out (.int .i64 vl) w7) (HT.out w7 hk7) ?_;intro v8 w8 hR8;obtain⟨rfl,hk8,hR9⟩:=hR8)))
 all_goals
  have HB8:=hid (hk8.heap (Kp0.heap hk7' HB.out) (fun e=>HBN.out b e rfl));have HK8:Hid (Kp (fun b=>(T b).1=o) w w8):=(Kp.of0 hk7).trans hk8 (fun b _ e=>HTQ.out b e);have HR9:=hid hR9;clear hk7 hk7' hk8 hR9 z0 z1 z2 z3 z4;obtain⟨z0,z1,z2,z3,z4⟩:=cells5 HB8.out
  go_wp2_with fail
  refine(HW.out _).mono ?_;rintro e w9 ⟨t,ht1,ht2,rfl,hk9⟩;obtain⟨T2,L2,hT2,hX2,hD2,hq1,hq2⟩:=HR9.out;have HA:=hid (xadd_calls (hX2.kp0 hk9) ⟨1,s,l,t,s,false⟩ (by rw[HBS.out];exact hlast));unfold XA.cs at HA;simp only[]at HA;have HK9:Hid (Kp (fun b=>(T b).1=o) w w9):=HK8.out.trans0 hk9;have HTT:Hid (t.length=l.length∧(∀k,k<l.length→nth t k=wst l k)∧TagsTo w T T2∧L2.D=L.D∧L2.q1=L.q1∧L2.q2=L.q2∧L2.g1=L.g1∧L2.g2=L.g2):=⟨ht1,ht2,hT2,hD2,hq1,hq2⟩;clear ht1 ht2 hT2 hX2 hD2 hq1 hq2 hk9 z0 z1 z2 z3 z4
  go_wp2_with fail
  refine HA.out.mono ?_;rintro e w10 ⟨rfl,hk10,hx10⟩;have HX:=hid hx10;have HK10:=hid hk10;clear hx10 hk10;go_wp2
  go_ret2
  obtain⟨ht1,ht2,hT2,hD2,hq1,hq2⟩:=HTT.out;refine⟨?_,HK9.out.trans HK10.out (fun b hb e=>?_),T2,_,t,hT2,ht1,ht2,HX.out,?_,hq1,hq2⟩
  ·rw[HBS.out];rfl
  ·rw[hT2 b hb]at e;exact e
  ·simp only[hD2,HBS.out];rfl
end Go.Proofs.YticbbncdcannlaaGreat
