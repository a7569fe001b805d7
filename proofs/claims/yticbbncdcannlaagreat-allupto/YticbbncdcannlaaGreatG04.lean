import Derived.Deep.RegionHeld3
import Derived.Test.YticbbncdcannlaaGreatG03
import Derived.Deep.QuietTactic
import Derived.BigQuiet
set_option maxRecDepth 100000
set_option maxHeartbeats 8000000
namespace Go.Proofs.YticbbncdcannlaaGreat
open Go.RowKit
theorem hand_calls(g n c:Nat)(a:Option Addr)(xs:List Int)(w:World)(hn:xs.length=n)(hr:RdI w (.slice a n c) xs)(hb:n≤1000000000)(hg:w.heap[g]? =some (.cells (ints (xs++[0])).toArray 3 (0,0))):Calls Tryz.prog 105 #[.slice (some ⟨g,0,none⟩) (n+1) (n+1),.slice a n c] w fun e w'=>(∃ai ci,e=.returned (.slice ai n ci)∧RdI w (.slice ai n ci) xs∧∀b,(Value.slice ai n ci).ownBlock=some b→b=g)∧w'=w:=by
 cases a with
 |none=>
  have hx:xs=[]:=by
   obtain⟨a,c',h1,h2⟩:=hr;apply Classical.byContradiction
   intro hne;obtain⟨g,o,h3,_⟩:=h2 hne;simp at h1;rw[h3]at h1;simp at h1
  subst hx;simp at hn;subst hn;refine(hand_nil _ 0 c w).mono ?_;rintro e w' ⟨rfl,rfl⟩;exact⟨⟨none,0,rfl,⟨none,0,rfl,fun h=>absurd rfl h⟩,fun b hb=>by simp[Value.ownBlock]at hb⟩,rfl⟩
 |some a=>
  refine(hand_some g n (n+1) c a w (by omega) (by omega)).mono ?_;rintro e w' ⟨rfl,rfl⟩;refine⟨⟨some ⟨g,0,none⟩,n+1,rfl,⟨some ⟨g,0,none⟩,n+1,by rw[hn],fun _=>⟨g,0,rfl,fun j hj=>?_⟩⟩,fun b hb=>by simp[Value.ownBlock]at hb;exact hb.symm⟩,rfl⟩;rw[Nat.zero_add,cell_of_row _ g j _ _ _ hg];have:=ints_get (xs:=xs++[0]) (j:=j) (by simp;omega);rw[nth_lt (by simp;omega),List.getElem_append_left hj,←nth_lt hj]at this;simpa using this
structure OpL(T:Tags)(w:World)(vL:Value)(a:Option Addr)(n c:Nat)(xs:List Int):Prop where
 form:vL=.slice a n c
 len:xs.length=n
 rd:RdI w vL xs
 tag:xs≠[]→∀b,vL.ownBlock=some b→b<w.heap.size∧(T b).1=0
 big:n≤100000000
theorem plain_make{R:Tags→Nat→World→Nat→Sp→Prop}(X:XC R){T:Tags}{w:World}{p:Nat}{S:WS}{L:List SD}(hI:Inv R T w p S L){i:Nat}{d:SD}(hd:L[i]? =some d)(hσ:d.σx=d.σy)(oH oA oB oC oD:Int)(vL:Value)(wh:Bool)(xs:List Int)(a:Option Addr)(n c:Nat)(hL:OpL T w vL a n c xs)(hA:IntKind.i64.wrap oA=oA)(hnt:S.turned.length+1≤1000000000)(hm:d.σy.arrs.length+1≤100000000)(hb:d.σy.bufs.length+1≤100000000):Calls Tryz.prog 75 #[.pointer (some ⟨p,0,none⟩),.pointer (some ⟨d.sb,0,none⟩),.agg #[.int .i64 1,.int .i64 oH,.int .i64 oA,.int .i64 oB,.int .i64 oC,.int .i64 oD,vL,.bool wh]] w fun e w'=>e=.returned (.bool true)∧Went R T w p S (L.set i {d with σx:=(d.σy.make oA xs).1,σy:=(d.σy.make oA xs).1}) 0 1 w':=by
 have hsd:=hI.side i d hd;have z0:w.cell? ⟨d.sb,0,none⟩=some (.pointer (some ⟨d.px,0,none⟩)):=by simp[World.cell?,hsd.blk]
 have z1:w.cell? ⟨d.sb,1,none⟩=some (.pointer (some ⟨d.py,0,none⟩)):=by simp[World.cell?,hsd.blk]
 have hsb:d.sb<w.heap.size:=lt_of_heap hsd.blk;obtain⟨rfl,hlen,hrd,htag,hbig⟩:=hL;have HRD:=hid hrd;have HTAG:=hid htag;have HLEN:=hid hlen;have HI:=hid hI;have HD:=hid hd;have HX:=hid X;have HS:=hid hσ;have HSD:=hid hsd;have HA:=hid hA;clear hI hd hσ hsd X hrd htag hlen hA;obtain⟨T1,hT1⟩:∃T1,retag w T (5,9)=T1:=⟨_,rfl⟩;have HT1:Hid (TagsTo w T T1):=hid (by rw[←hT1];exact retag_to w T _);have HNEW:Hid (∀b,w.heap.size≤b→T1 b=(5,9)):=hid (fun b hb=>by rw[←hT1];exact retag_new hb);clear hT1;have HLENT:Hid (∀y,Calls Tryz.prog 104 #[.slice a n c] (w.alloc y) fun e w'=>e=.returned (.slice (some ⟨w.heap.size+1,0,none⟩) (n+1) (n+1))∧w'=(w.alloc y).alloc (.cells (ints (xs++[0])).toArray 3)):=hid (fun y=>
  (lent_calls _ xs (w.alloc y) (HRD.out.kp0 (Kp.alloc (Kp.refl _ _) _)) (by have:=HLEN.out;omega)).mono (by
   rintro e w' ⟨rfl,rfl⟩;rw[HLEN.out];exact⟨by simp,rfl⟩))
 go_enter Tryz.func75,Tryz.ntmps75
 go_wp2_with fail
 refine(HLENT.out _).mono ?_;rintro e w2 ⟨rfl,hw2⟩;have HK2:Hid (Kp0 w w2):=hid (by rw[hw2];exact Kp.alloc (Kp.alloc (Kp.refl _ _) _) _);have hg2:w2.heap[w.heap.size+1]? =some (.cells (ints (xs++[0])).toArray 3 (0,0)):=by
  rw[hw2];have:=heap_alloc_new (w.alloc (.cells #[.int .i64 1,.int .i64 oH,.int .i64 oA,.int .i64 oB,.int .i64 oC,.int .i64 oD,.slice a n c,.bool wh] 87)) (.cells (ints (xs++[0])).toArray 3);simpa using this
 have hbox:w2.heap[w.heap.size]? =some (.cells #[.int .i64 1,.int .i64 oH,.int .i64 oA,.int .i64 oB,.int .i64 oC,.int .i64 oD,.slice a n c,.bool wh] 87 (0,0)):=by
  rw[hw2,Below.heap_alloc _ _ _ (by simp)];exact heap_alloc_new _ _
 have HG2:=hid hg2;have HBOX:=hid hbox;have hs2:w.heap.size+1<w2.heap.size:=lt_of_heap hg2;have b0:w2.cell? ⟨w.heap.size,0,none⟩=some (.int .i64 1):=by simp[World.cell?,hbox]
 have b1:w2.cell? ⟨w.heap.size,1,none⟩=some (.int .i64 oH):=by simp[World.cell?,hbox]
 have b2:w2.cell? ⟨w.heap.size,2,none⟩=some (.int .i64 oA):=by simp[World.cell?,hbox]
 have b6:w2.cell? ⟨w.heap.size,6,none⟩=some (.slice a n c):=by simp[World.cell?,hbox]
 have y0:=HK2.out.cell z0;have y1:=HK2.out.cell z1;have HI2:=hid (HI.out.kp0 HX.out HT1.out HK2.out);clear hw2 hg2 hbox z0 z1 HLENT
 go_wp2_with fail
 refine(hand_calls (w.heap.size+1) n c a xs w2 HLEN.out (HRD.out.kp0 HK2.out) (by omega) HG2.out).mono ?_;rintro e w2' ⟨⟨ai,ci,rfl,hin,hib⟩,hw⟩;obtain rfl:=hw.symm;have HIN:=hid hin;have HIB:Hid (∀b,(Value.slice ai n ci).ownBlock=some b→(T1 b).1≠10+2*i):=hid (fun b hb=>by
  have:=hib b hb;rw[this,HNEW.out _ (by omega)];simp;omega)
 clear hin hib;have nn:Hid (∀b,w.heap.size≤b→¬(T1 b).1=10+2*i):=hid (fun b hb=>by rw[HNEW.out b hb];simp;omega);have ct:Hid (xs≠[]→∀b,(Value.slice a n c).ownBlock=some b→b<w.heap.size∧(T1 b).1=0):=hid (fun hx b hb=>by
  have:=HTAG.out hx b hb;exact⟨this.1,by rw[HT1.out b this.1];exact this.2⟩)
 have HXC:Hid (∀W,Kp0 w2 W→Calls Tryz.prog 28 #[.pointer (some ⟨d.px,0,none⟩),.int .i64 oA,.slice ai n ci] W fun e w3=>e=.returned (.tuple #[.int .i64 (d.σx.make oA xs).2.1,.int .i64 (d.σx.make oA xs).2.2])∧∃T3,TagsTo w2 T1 T3∧Inv R T3 w3 p S (L.set i {d with σx:=(d.σx.make oA xs).1})∧Kp (fun b=>(T1 b).1=10+2*i) w2 w3):=hid (fun W kW=>by
  have hIW:=HI2.out.kp0 HX.out (fun _ _=>rfl) kW;refine(HX.out.make oA _ xs (hIW.side i d HD.out).x (HIN.out.kp0 kW) HIB.out (by have:=HLEN.out;omega) (by rw[HS.out];exact hm) (by rw[HS.out];exact hb)).mono ?_;rintro e w3 ⟨rfl,T3,ht3,hr3,hk3⟩;exact⟨rfl,T3,fun b hb=>ht3 b (Nat.lt_of_lt_of_le hb kW.size),hIW.stepX HX.out HD.out ht3 hr3 hk3,(Kp.of0 kW).trans hk3 (fun _ _ e=>e)⟩)
 have HD3:Hid ((L.set i {d with σx:=(d.σx.make oA xs).1})[i]? =some {d with σx:=(d.σx.make oA xs).1}):=hid (by
  rw[List.getElem?_set];have:i<L.length:=by
   have h:=HD.out;rcases Nat.lt_or_ge i L.length with h'|h'
   ·exact h'
   ·rw[List.getElem?_eq_none h']at h;cases h
  simp[this])
 go_wp2
 go_region_held3 (fun w'=>w'.cell? ⟨d.sb,0,none⟩=some (.pointer (some ⟨d.px,0,none⟩))∧w'.cell? ⟨w.heap.size,2,none⟩=some (.int .i64 oA)) (first|go_keep|(go_split_ands;exact⟨hk3.cell y0 (by rw[HT1.out _ hsb,HSD.out.tag];simp;omega),hk3.cell b2 (nn.out _ (Nat.le_refl _))⟩))
  ((go_at_call 28;refine(HXC.out _ ?_).mono ?_;(first|exact Kp0.refl _|exact Kp0.drew (Kp0.refl _));rintro e w3 ⟨rfl,T3,ht3,hI3,hk3⟩))
 have d0:=hk3.cell b0 (nn.out _ (Nat.le_refl _));have d1:=hk3.cell b1 (nn.out _ (Nat.le_refl _));have d2:=hk3.cell b2 (nn.out _ (Nat.le_refl _));have d6:=hk3.cell b6 (nn.out _ (Nat.le_refl _));have x1:=hk3.cell y1 (by rw[HT1.out _ hsb,HSD.out.tag];simp;omega);have HG3:=hid (hk3.heap HG2.out (nn.out _ (by omega)));have hs3:w2.heap.size≤w3.heap.size:=hk3.size;have HRD3:=hid ((HRD.out.kp0 HK2.out).kpne hk3 (fun hx b hb e=>by have:=(ct.out hx b hb).2;omega));have HI3:=hid hI3;have HT3:=hid ht3;have HK3:=hid hk3;clear ht3 hI3 hk3 b0 b1 b2 b6 y0 y1 HXC;have HYC:Hid (∀W,Kp0 w3 W→Calls Tryz.prog 106 #[.pointer (some ⟨d.py,0,none⟩),.int .i64 oA,.slice a n c] W fun e w4=>e=.returned (.tuple #[.int .i64 (d.σy.make oA xs).2.1,.int .i64 (d.σy.make oA xs).2.2])∧∃T4,TagsTo w3 T3 T4∧Inv R T4 w4 p S ((L.set i {d with σx:=(d.σx.make oA xs).1}).set i {{d with σx:=(d.σx.make oA xs).1}with σy:=(d.σy.make oA xs).1})∧Kp (fun b=>(T3 b).1=11+2*i) w3 w4):=hid (fun W kW=>by
  have hIW:=HI3.out.kp0 HX.out (fun _ _=>rfl) kW;refine(ymake_calls (hIW.side i _ HD3.out).y oA _ xs (HRD3.out.kp0 kW) (fun hx b hb e=>by have:=ct.out hx b hb;have:=e.1;rw[HT3.out b (by omega)]at this;omega) hm hb).mono ?_;rintro e w4 ⟨rfl,hst4⟩;obtain⟨T4,ht4,hr4,hk4⟩:=hst4.step;exact⟨rfl,T4,fun b hb=>ht4 b (Nat.lt_of_lt_of_le hb kW.size),hIW.stepY HX.out HD3.out ht4 hr4 hk4,(Kp.of0 kW).trans hk4 (fun _ _ e=>e)⟩)
 have nn4:Hid (∀b,w.heap.size≤b→b<w2.heap.size→¬(T3 b).1=11+2*i):=hid (fun b hb hb2=>by rw[HT3.out b hb2,HNEW.out b hb];simp;omega);go_wp2
 go_region_held3 (fun w'=>w'.cell? ⟨d.sb,1,none⟩=some (.pointer (some ⟨d.py,0,none⟩))∧w'.cell? ⟨w.heap.size,2,none⟩=some (.int .i64 oA)∧w'.cell? ⟨w.heap.size,6,none⟩=some (.slice a n c)) (first|go_keep|(go_split_ands;exact⟨hk4.cell x1 (by rw[HT3.out _ (by simp;omega),HT1.out _ hsb,HSD.out.tag];simp;omega),hk4.cell d2 (nn4.out _ (Nat.le_refl _) (by simp;omega)),hk4.cell d6 (nn4.out _ (Nat.le_refl _) (by simp;omega))⟩))
  ((go_at_call 106;refine(HYC.out _ ?_).mono ?_;(first|exact Kp0.refl _|exact Kp0.drew (Kp0.refl _));rintro e w4 ⟨rfl,T4,ht4,hI4,hk4⟩))
 have d0':=hk4.cell d0 (nn4.out _ (Nat.le_refl _) (by simp;omega));have d6':=hk4.cell d6 (nn4.out _ (Nat.le_refl _) (by simp;omega));have HG4:=hid (hk4.heap HG3.out (nn4.out _ (by omega) hs2));have hs4:w3.heap.size≤w4.heap.size:=hk4.size;have HRD4:=hid (HRD3.out.kpne hk4 (fun hx b hb e=>by
  have:=ct.out hx b hb;rw[HT3.out b (by omega)]at e;omega))
 have HI4:=hid hI4;have HT4:=hid ht4;have HK4:=hid hk4;have HCT:=hid ct.out;clear ht4 hI4 hk4 d0 d1 d2 d6 HYC;have HT41:Hid (∀b,b<w2.heap.size→T4 b=T1 b):=hid (fun b hb=>by rw[HT4.out b (by omega),HT3.out b hb])
 go_wp2_with fail
 refine(returned_calls HI4.out.wat (w.heap.size+1) n _ xs HLEN.out (by omega) HRD4.out HG4.out (by rw[HT41.out _ hs2];exact HNEW.out _ (by omega)) (fun hx b hb=>by
   have:=HCT.out hx b hb;rw[HT41.out b (by omega)];omega) hnt (fun j v hv e=>by have:=HI.out.wat.lt hv e;omega) (fun j v hv e=>by have:=HI.out.wat.ltt hv e;omega)).mono ?_
 rintro e w5 ⟨rfl,T5,vt,ht5,hw5,hk5⟩;have HI5:=hid (HI4.out.stepW HX.out ht5 hw5 rfl hk5);have HT5:=hid ht5;have HK5:=hid hk5;clear ht5 hw5 hk5;have q1:((d.σx.make oA xs).2.1==(d.σy.make oA xs).2.1)=true:=by rw[HS.out];simp
 have q2:((d.σx.make oA xs).2.2==(d.σy.make oA xs).2.2)=true:=by rw[HS.out];simp
 go_wp2
 go_ret;have hLL:(L.set i {d with σx:=(d.σx.make oA xs).1}).set i {{d with σx:=(d.σx.make oA xs).1}with σy:=(d.σy.make oA xs).1}=L.set i {d with σx:=(d.σy.make oA xs).1,σy:=(d.σy.make oA xs).1}:=by first|rw[List.set_set,HS.out]|(rw[List.set_set];show L.set i ⟨d.sb,d.px,d.py,d.σx,d.σy⟩=_;rw[HS.out])
 have hI5:=HI5.out;rw[hLL]at hI5;have s2:=HK2.out.size;refine⟨ret_bool (by simp),T5,_,fun b hb=>by rw[HT5.out b (by omega),HT41.out b (by omega),HT1.out b hb],hI5,Nat.le_refl _,by simp[WS.turn],by simp[WS.turn],?_⟩;have k3:Kp (fun b=>5≤(T b).1) w w3:=(Kp.of0 HK2.out).trans HK3.out (fun b hb e=>by rw[HT1.out b hb]at e;omega);have k4:Kp (fun b=>5≤(T b).1) w w4:=k3.trans HK4.out (fun b hb e=>by rw[HT3.out b (by omega),HT1.out b hb]at e;omega);exact k4.trans HK5.out (fun b hb e=>by rw[HT41.out b (by omega),HT1.out b hb]at e;omega)
theorem plain_set{R:Tags→Nat→World→Nat→Sp→Prop}(X:XC R){T:Tags}{w:World}{p:Nat}{S:WS}{L:List SD}(hI:Inv R T w p S L){i:Nat}{d:SD}(hd:L[i]? =some d)(hσ:d.σx=d.σy)(oH oA oB oC oD:Int)(vL:Value)(wh:Bool)(xs:List Int)(a:Option Addr)(n c:Nat)(hL:OpL T w vL a n c xs)(hA:IntKind.i64.wrap oA=oA)(hnt:S.turned.length+1≤1000000000)(_hm:d.σy.arrs.length+1≤100000000)(_hb:d.σy.bufs.length+1≤100000000):Calls Tryz.prog 75 #[.pointer (some ⟨p,0,none⟩),.pointer (some ⟨d.sb,0,none⟩),.agg #[.int .i64 2,.int .i64 oH,.int .i64 oA,.int .i64 oB,.int .i64 oC,.int .i64 oD,vL,.bool wh]] w fun e w'=>e=.returned (.bool true)∧Went R T w p S (L.set i {d with σx:=(d.σy.set oH oA xs).1,σy:=(d.σy.set oH oA xs).1}) 0 1 w':=by
 have hsd:=hI.side i d hd;have z0:w.cell? ⟨d.sb,0,none⟩=some (.pointer (some ⟨d.px,0,none⟩)):=by simp[World.cell?,hsd.blk]
 have z1:w.cell? ⟨d.sb,1,none⟩=some (.pointer (some ⟨d.py,0,none⟩)):=by simp[World.cell?,hsd.blk]
 have hsb:d.sb<w.heap.size:=lt_of_heap hsd.blk;obtain⟨rfl,hlen,hrd,htag,hbig⟩:=hL;have HRD:=hid hrd;have HTAG:=hid htag;have HLEN:=hid hlen;have HI:=hid hI;have HD:=hid hd;have HX:=hid X;have HS:=hid hσ;have HSD:=hid hsd;have HA:=hid hA;clear hI hd hσ hsd X hrd htag hlen hA;obtain⟨T1,hT1⟩:∃T1,retag w T (5,9)=T1:=⟨_,rfl⟩;have HT1:Hid (TagsTo w T T1):=hid (by rw[←hT1];exact retag_to w T _);have HNEW:Hid (∀b,w.heap.size≤b→T1 b=(5,9)):=hid (fun b hb=>by rw[←hT1];exact retag_new hb);clear hT1;have HLENT:Hid (∀y,Calls Tryz.prog 104 #[.slice a n c] (w.alloc y) fun e w'=>e=.returned (.slice (some ⟨w.heap.size+1,0,none⟩) (n+1) (n+1))∧w'=(w.alloc y).alloc (.cells (ints (xs++[0])).toArray 3)):=hid (fun y=>
  (lent_calls _ xs (w.alloc y) (HRD.out.kp0 (Kp.alloc (Kp.refl _ _) _)) (by have:=HLEN.out;omega)).mono (by
   rintro e w' ⟨rfl,rfl⟩;rw[HLEN.out];exact⟨by simp,rfl⟩))
 go_enter Tryz.func75,Tryz.ntmps75
 go_wp2_with fail
 refine(HLENT.out _).mono ?_;rintro e w2 ⟨rfl,hw2⟩;have HK2:Hid (Kp0 w w2):=hid (by rw[hw2];exact Kp.alloc (Kp.alloc (Kp.refl _ _) _) _);have hg2:w2.heap[w.heap.size+1]? =some (.cells (ints (xs++[0])).toArray 3 (0,0)):=by
  rw[hw2];have:=heap_alloc_new (w.alloc (.cells #[.int .i64 2,.int .i64 oH,.int .i64 oA,.int .i64 oB,.int .i64 oC,.int .i64 oD,.slice a n c,.bool wh] 87)) (.cells (ints (xs++[0])).toArray 3);simpa using this
 have hbox:w2.heap[w.heap.size]? =some (.cells #[.int .i64 2,.int .i64 oH,.int .i64 oA,.int .i64 oB,.int .i64 oC,.int .i64 oD,.slice a n c,.bool wh] 87 (0,0)):=by
  rw[hw2,Below.heap_alloc _ _ _ (by simp)];exact heap_alloc_new _ _
 have HG2:=hid hg2;have HBOX:=hid hbox;have hs2:w.heap.size+1<w2.heap.size:=lt_of_heap hg2;have b0:w2.cell? ⟨w.heap.size,0,none⟩=some (.int .i64 2):=by simp[World.cell?,hbox]
 have b1:w2.cell? ⟨w.heap.size,1,none⟩=some (.int .i64 oH):=by simp[World.cell?,hbox]
 have b2:w2.cell? ⟨w.heap.size,2,none⟩=some (.int .i64 oA):=by simp[World.cell?,hbox]
 have b6:w2.cell? ⟨w.heap.size,6,none⟩=some (.slice a n c):=by simp[World.cell?,hbox]
 have y0:=HK2.out.cell z0;have y1:=HK2.out.cell z1;have HI2:=hid (HI.out.kp0 HX.out HT1.out HK2.out);clear hw2 hg2 hbox z0 z1 HLENT
 go_wp2_with fail
 refine(hand_calls (w.heap.size+1) n c a xs w2 HLEN.out (HRD.out.kp0 HK2.out) (by omega) HG2.out).mono ?_;rintro e w2' ⟨⟨ai,ci,rfl,hin,hib⟩,hw⟩;obtain rfl:=hw.symm;have HIN:=hid hin;have HIB:Hid (∀b,(Value.slice ai n ci).ownBlock=some b→(T1 b).1≠10+2*i):=hid (fun b hb=>by
  have:=hib b hb;rw[this,HNEW.out _ (by omega)];simp;omega)
 clear hin hib;have nn:Hid (∀b,w.heap.size≤b→¬(T1 b).1=10+2*i):=hid (fun b hb=>by rw[HNEW.out b hb];simp;omega);have ct:Hid (xs≠[]→∀b,(Value.slice a n c).ownBlock=some b→b<w.heap.size∧(T1 b).1=0):=hid (fun hx b hb=>by
  have:=HTAG.out hx b hb;exact⟨this.1,by rw[HT1.out b this.1];exact this.2⟩)
 have HXC:Hid (∀W,Kp0 w2 W→Calls Tryz.prog 36 #[.pointer (some ⟨d.px,0,none⟩),.int .i64 oH,.int .i64 oA,.slice ai n ci] W fun e w3=>e=.returned (.int .i64 (d.σx.set oH oA xs).2)∧∃T3,TagsTo w2 T1 T3∧Inv R T3 w3 p S (L.set i {d with σx:=(d.σx.set oH oA xs).1})∧Kp (fun b=>(T1 b).1=10+2*i) w2 w3):=hid (fun W kW=>by
  have hIW:=HI2.out.kp0 HX.out (fun _ _=>rfl) kW;refine(HX.out.set oH oA _ xs (hIW.side i d HD.out).x (HIN.out.kp0 kW) HIB.out (by have:=HLEN.out;omega) HA.out).mono ?_;rintro e w3 ⟨rfl,T3,ht3,hr3,hk3⟩;exact⟨rfl,T3,fun b hb=>ht3 b (Nat.lt_of_lt_of_le hb kW.size),hIW.stepX HX.out HD.out ht3 hr3 hk3,(Kp.of0 kW).trans hk3 (fun _ _ e=>e)⟩)
 have HD3:Hid ((L.set i {d with σx:=(d.σx.set oH oA xs).1})[i]? =some {d with σx:=(d.σx.set oH oA xs).1}):=hid (by
  rw[List.getElem?_set];have:i<L.length:=by
   have h:=HD.out;rcases Nat.lt_or_ge i L.length with h'|h'
   ·exact h'
   ·rw[List.getElem?_eq_none h']at h;cases h
  simp[this])
 go_wp2
 go_region_held3 (fun w'=>w'.cell? ⟨d.sb,0,none⟩=some (.pointer (some ⟨d.px,0,none⟩))∧w'.cell? ⟨w.heap.size,1,none⟩=some (.int .i64 oH)∧w'.cell? ⟨w.heap.size,2,none⟩=some (.int .i64 oA)) (first|go_keep|(go_split_ands;exact⟨hk3.cell y0 (by rw[HT1.out _ hsb,HSD.out.tag];simp;omega),hk3.cell b1 (nn.out _ (Nat.le_refl _)),hk3.cell b2 (nn.out _ (Nat.le_refl _))⟩))
  ((go_at_call 36;refine(HXC.out _ ?_).mono ?_;(first|exact Kp0.refl _|exact Kp0.drew (Kp0.refl _));rintro e w3 ⟨rfl,T3,ht3,hI3,hk3⟩))
 have d0:=hk3.cell b0 (nn.out _ (Nat.le_refl _));have d1:=hk3.cell b1 (nn.out _ (Nat.le_refl _));have d2:=hk3.cell b2 (nn.out _ (Nat.le_refl _));have d6:=hk3.cell b6 (nn.out _ (Nat.le_refl _));have x1:=hk3.cell y1 (by rw[HT1.out _ hsb,HSD.out.tag];simp;omega);have HG3:=hid (hk3.heap HG2.out (nn.out _ (by omega)));have hs3:w2.heap.size≤w3.heap.size:=hk3.size;have HRD3:=hid ((HRD.out.kp0 HK2.out).kpne hk3 (fun hx b hb e=>by have:=(ct.out hx b hb).2;omega));have HI3:=hid hI3;have HT3:=hid ht3;have HK3:=hid hk3;clear ht3 hI3 hk3 b0 b1 b2 b6 y0 y1 HXC;have HYC:Hid (∀W,Kp0 w3 W→Calls Tryz.prog 107 #[.pointer (some ⟨d.py,0,none⟩),.int .i64 oH,.int .i64 oA,.slice a n c] W fun e w4=>e=.returned (.int .i64 (d.σy.set oH oA xs).2)∧∃T4,TagsTo w3 T3 T4∧Inv R T4 w4 p S ((L.set i {d with σx:=(d.σx.set oH oA xs).1}).set i {{d with σx:=(d.σx.set oH oA xs).1}with σy:=(d.σy.set oH oA xs).1})∧Kp (fun b=>(T3 b).1=11+2*i) w3 w4):=hid (fun W kW=>by
  have hIW:=HI3.out.kp0 HX.out (fun _ _=>rfl) kW;refine(yset_calls (hIW.side i _ HD3.out).y oH oA _ xs (HRD3.out.kp0 kW)).mono ?_;rintro e w4 ⟨rfl,hst4⟩;obtain⟨T4,ht4,hr4,hk4⟩:=hst4.step;exact⟨rfl,T4,fun b hb=>ht4 b (Nat.lt_of_lt_of_le hb kW.size),hIW.stepY HX.out HD3.out ht4 hr4 hk4,(Kp.of0 kW).trans hk4 (fun _ _ e=>e)⟩)
 have nn4:Hid (∀b,w.heap.size≤b→b<w2.heap.size→¬(T3 b).1=11+2*i):=hid (fun b hb hb2=>by rw[HT3.out b hb2,HNEW.out b hb];simp;omega);go_wp2
 go_region_held3 (fun w'=>w'.cell? ⟨d.sb,1,none⟩=some (.pointer (some ⟨d.py,0,none⟩))∧w'.cell? ⟨w.heap.size,1,none⟩=some (.int .i64 oH)∧w'.cell? ⟨w.heap.size,2,none⟩=some (.int .i64 oA)∧w'.cell? ⟨w.heap.size,6,none⟩=some (.slice a n c)) (first|go_keep|(go_split_ands;exact⟨hk4.cell x1 (by rw[HT3.out _ (by simp;omega),HT1.out _ hsb,HSD.out.tag];simp;omega),hk4.cell d1 (nn4.out _ (Nat.le_refl _) (by simp;omega)),hk4.cell d2 (nn4.out _ (Nat.le_refl _) (by simp;omega)),hk4.cell d6 (nn4.out _ (Nat.le_refl _) (by simp;omega))⟩))
  ((go_at_call 107;refine(HYC.out _ ?_).mono ?_;(first|exact Kp0.refl _|exact Kp0.drew (Kp0.refl _));rintro e w4 ⟨rfl,T4,ht4,hI4,hk4⟩))
 have d0':=hk4.cell d0 (nn4.out _ (Nat.le_refl _) (by simp;omega));have d6':=hk4.cell d6 (nn4.out _ (Nat.le_refl _) (by simp;omega));have HG4:=hid (hk4.heap HG3.out (nn4.out _ (by omega) hs2));have hs4:w3.heap.size≤w4.heap.size:=hk4.size;have HRD4:=hid (HRD3.out.kpne hk4 (fun hx b hb e=>by
  have:=ct.out hx b hb;rw[HT3.out b (by omega)]at e;omega))
 have HI4:=hid hI4;have HT4:=hid ht4;have HK4:=hid hk4;have HCT:=hid ct.out;clear ht4 hI4 hk4 d0 d1 d2 d6 HYC;have HT41:Hid (∀b,b<w2.heap.size→T4 b=T1 b):=hid (fun b hb=>by rw[HT4.out b (by omega),HT3.out b hb])
 go_wp2_with fail
 refine(returned_calls HI4.out.wat (w.heap.size+1) n _ xs HLEN.out (by omega) HRD4.out HG4.out (by rw[HT41.out _ hs2];exact HNEW.out _ (by omega)) (fun hx b hb=>by
   have:=HCT.out hx b hb;rw[HT41.out b (by omega)];omega) hnt (fun j v hv e=>by have:=HI.out.wat.lt hv e;omega) (fun j v hv e=>by have:=HI.out.wat.ltt hv e;omega)).mono ?_
 rintro e w5 ⟨rfl,T5,vt,ht5,hw5,hk5⟩;have HI5:=hid (HI4.out.stepW HX.out ht5 hw5 rfl hk5);have HT5:=hid ht5;have HK5:=hid hk5;clear ht5 hw5 hk5;have q2:((d.σx.set oH oA xs).2==(d.σy.set oH oA xs).2)=true:=by rw[HS.out];simp
 go_wp2
 go_ret;have hLL:(L.set i {d with σx:=(d.σx.set oH oA xs).1}).set i {{d with σx:=(d.σx.set oH oA xs).1}with σy:=(d.σy.set oH oA xs).1}=L.set i {d with σx:=(d.σy.set oH oA xs).1,σy:=(d.σy.set oH oA xs).1}:=by first|rw[List.set_set,HS.out]|(rw[List.set_set];show L.set i ⟨d.sb,d.px,d.py,d.σx,d.σy⟩=_;rw[HS.out])
 have hI5:=HI5.out;rw[hLL]at hI5;have s2:=HK2.out.size;refine⟨ret_bool (by simp),T5,_,fun b hb=>by rw[HT5.out b (by omega),HT41.out b (by omega),HT1.out b hb],hI5,Nat.le_refl _,by simp[WS.turn],by simp[WS.turn],?_⟩;have k3:Kp (fun b=>5≤(T b).1) w w3:=(Kp.of0 HK2.out).trans HK3.out (fun b hb e=>by rw[HT1.out b hb]at e;omega);have k4:Kp (fun b=>5≤(T b).1) w w4:=k3.trans HK4.out (fun b hb e=>by rw[HT3.out b (by omega),HT1.out b hb]at e;omega);exact k4.trans HK5.out (fun b hb e=>by rw[HT41.out b (by omega),HT1.out b hb]at e;omega)
theorem plain_get{R:Tags→Nat→World→Nat→Sp→Prop}(X:XC R){T:Tags}{w:World}{p:Nat}{S:WS}{L:List SD}(hI:Inv R T w p S L){i:Nat}{d:SD}(hd:L[i]? =some d)(hσ:d.σx=d.σy)(oH oA oB oC oD:Int)(vL:Value)(wh:Bool)(xs:List Int)(a:Option Addr)(n c:Nat)(hL:OpL T w vL a n c xs)(hA:IntKind.i64.wrap oA=oA)(hnt:S.turned.length+1≤1000000000)(_hm:d.σy.arrs.length+1≤100000000)(_hb:d.σy.bufs.length+1≤100000000):Calls Tryz.prog 75 #[.pointer (some ⟨p,0,none⟩),.pointer (some ⟨d.sb,0,none⟩),.agg #[.int .i64 3,.int .i64 oH,.int .i64 oA,.int .i64 oB,.int .i64 oC,.int .i64 oD,vL,.bool wh]] w fun e w'=>e=.returned (.bool true)∧Went R T w p S (L.set i {d with σx:=d.σy,σy:=d.σy}) 0 1 w':=by
 have hsd:=hI.side i d hd;have z0:w.cell? ⟨d.sb,0,none⟩=some (.pointer (some ⟨d.px,0,none⟩)):=by simp[World.cell?,hsd.blk]
 have z1:w.cell? ⟨d.sb,1,none⟩=some (.pointer (some ⟨d.py,0,none⟩)):=by simp[World.cell?,hsd.blk]
 have hsb:d.sb<w.heap.size:=lt_of_heap hsd.blk;obtain⟨rfl,hlen,hrd,htag,hbig⟩:=hL;have HRD:=hid hrd;have HTAG:=hid htag;have HLEN:=hid hlen;have HI:=hid hI;have HD:=hid hd;have HX:=hid X;have HS:=hid hσ;have HSD:=hid hsd;have HA:=hid hA;clear hI hd hσ hsd X hrd htag hlen hA;obtain⟨T1,hT1⟩:∃T1,retag w T (5,9)=T1:=⟨_,rfl⟩;have HT1:Hid (TagsTo w T T1):=hid (by rw[←hT1];exact retag_to w T _);have HNEW:Hid (∀b,w.heap.size≤b→T1 b=(5,9)):=hid (fun b hb=>by rw[←hT1];exact retag_new hb);clear hT1;have HLENT:Hid (∀y,Calls Tryz.prog 104 #[.slice a n c] (w.alloc y) fun e w'=>e=.returned (.slice (some ⟨w.heap.size+1,0,none⟩) (n+1) (n+1))∧w'=(w.alloc y).alloc (.cells (ints (xs++[0])).toArray 3)):=hid (fun y=>
  (lent_calls _ xs (w.alloc y) (HRD.out.kp0 (Kp.alloc (Kp.refl _ _) _)) (by have:=HLEN.out;omega)).mono (by
   rintro e w' ⟨rfl,rfl⟩;rw[HLEN.out];exact⟨by simp,rfl⟩))
 go_enter Tryz.func75,Tryz.ntmps75
 go_wp2_with fail
 refine(HLENT.out _).mono ?_;rintro e w2 ⟨rfl,hw2⟩;have HK2:Hid (Kp0 w w2):=hid (by rw[hw2];exact Kp.alloc (Kp.alloc (Kp.refl _ _) _) _);have hg2:w2.heap[w.heap.size+1]? =some (.cells (ints (xs++[0])).toArray 3 (0,0)):=by
  rw[hw2];have:=heap_alloc_new (w.alloc (.cells #[.int .i64 3,.int .i64 oH,.int .i64 oA,.int .i64 oB,.int .i64 oC,.int .i64 oD,.slice a n c,.bool wh] 87)) (.cells (ints (xs++[0])).toArray 3);simpa using this
 have hbox:w2.heap[w.heap.size]? =some (.cells #[.int .i64 3,.int .i64 oH,.int .i64 oA,.int .i64 oB,.int .i64 oC,.int .i64 oD,.slice a n c,.bool wh] 87 (0,0)):=by
  rw[hw2,Below.heap_alloc _ _ _ (by simp)];exact heap_alloc_new _ _
 have HG2:=hid hg2;have HBOX:=hid hbox;have hs2:w.heap.size+1<w2.heap.size:=lt_of_heap hg2;have b0:w2.cell? ⟨w.heap.size,0,none⟩=some (.int .i64 3):=by simp[World.cell?,hbox]
 have b1:w2.cell? ⟨w.heap.size,1,none⟩=some (.int .i64 oH):=by simp[World.cell?,hbox]
 have b2:w2.cell? ⟨w.heap.size,2,none⟩=some (.int .i64 oA):=by simp[World.cell?,hbox]
 have b6:w2.cell? ⟨w.heap.size,6,none⟩=some (.slice a n c):=by simp[World.cell?,hbox]
 have y0:=HK2.out.cell z0;have y1:=HK2.out.cell z1;have HI2:=hid (HI.out.kp0 HX.out HT1.out HK2.out);clear hw2 hg2 hbox z0 z1 HLENT
 go_wp2_with fail
 refine(hand_calls (w.heap.size+1) n c a xs w2 HLEN.out (HRD.out.kp0 HK2.out) (by omega) HG2.out).mono ?_;rintro e w2' ⟨⟨ai,ci,rfl,hin,hib⟩,hw⟩;obtain rfl:=hw.symm;have HIN:=hid hin;have HIB:Hid (∀b,(Value.slice ai n ci).ownBlock=some b→(T1 b).1≠10+2*i):=hid (fun b hb=>by
  have:=hib b hb;rw[this,HNEW.out _ (by omega)];simp;omega)
 clear hin hib;have nn:Hid (∀b,w.heap.size≤b→¬(T1 b).1=10+2*i):=hid (fun b hb=>by rw[HNEW.out b hb];simp;omega);have ct:Hid (xs≠[]→∀b,(Value.slice a n c).ownBlock=some b→b<w.heap.size∧(T1 b).1=0):=hid (fun hx b hb=>by
  have:=HTAG.out hx b hb;exact⟨this.1,by rw[HT1.out b this.1];exact this.2⟩)
 have HXC:Hid (∀W,Kp0 w2 W→Calls Tryz.prog 37 #[.pointer (some ⟨d.px,0,none⟩),.int .i64 oH,.slice ai n ci] W fun e w3=>e=.returned (.tuple #[.int .i64 (d.σx.get oH xs).1,.int .i64 (d.σx.get oH xs).2])∧∃T3,TagsTo w2 T1 T3∧Inv R T3 w3 p S (L.set i {d with σx:=d.σx})∧Kp (fun b=>(T1 b).1=10+2*i) w2 w3):=hid (fun W kW=>by
  have hIW:=HI2.out.kp0 HX.out (fun _ _=>rfl) kW;refine(HX.out.get oH _ xs (hIW.side i d HD.out).x (HIN.out.kp0 kW) HIB.out (by have:=HLEN.out;omega)).mono ?_;rintro e w3 ⟨rfl,T3,ht3,hr3,hk3⟩;exact⟨rfl,T3,fun b hb=>ht3 b (Nat.lt_of_lt_of_le hb kW.size),hIW.stepX HX.out HD.out ht3 hr3 hk3,(Kp.of0 kW).trans hk3 (fun _ _ e=>e)⟩)
 have HD3:Hid ((L.set i {d with σx:=d.σx})[i]? =some {d with σx:=d.σx}):=hid (by
  rw[List.getElem?_set];have:i<L.length:=by
   have h:=HD.out;rcases Nat.lt_or_ge i L.length with h'|h'
   ·exact h'
   ·rw[List.getElem?_eq_none h']at h;cases h
  simp[this])
 go_wp2
 go_region_held3 (fun w'=>w'.cell? ⟨d.sb,0,none⟩=some (.pointer (some ⟨d.px,0,none⟩))∧w'.cell? ⟨w.heap.size,1,none⟩=some (.int .i64 oH)) (first|go_keep|(go_split_ands;exact⟨hk3.cell y0 (by rw[HT1.out _ hsb,HSD.out.tag];simp;omega),hk3.cell b1 (nn.out _ (Nat.le_refl _))⟩))
  ((go_at_call 37;refine(HXC.out _ ?_).mono ?_;(first|exact Kp0.refl _|exact Kp0.drew (Kp0.refl _));rintro e w3 ⟨rfl,T3,ht3,hI3,hk3⟩))
 have d0:=hk3.cell b0 (nn.out _ (Nat.le_refl _));have d1:=hk3.cell b1 (nn.out _ (Nat.le_refl _));have d2:=hk3.cell b2 (nn.out _ (Nat.le_refl _));have d6:=hk3.cell b6 (nn.out _ (Nat.le_refl _));have x1:=hk3.cell y1 (by rw[HT1.out _ hsb,HSD.out.tag];simp;omega);have HG3:=hid (hk3.heap HG2.out (nn.out _ (by omega)));have hs3:w2.heap.size≤w3.heap.size:=hk3.size;have HRD3:=hid ((HRD.out.kp0 HK2.out).kpne hk3 (fun hx b hb e=>by have:=(ct.out hx b hb).2;omega));have HI3:=hid hI3;have HT3:=hid ht3;have HK3:=hid hk3;clear ht3 hI3 hk3 b0 b1 b2 b6 y0 y1 HXC;have HYC:Hid (∀W,Kp0 w3 W→Calls Tryz.prog 108 #[.pointer (some ⟨d.py,0,none⟩),.int .i64 oH,.slice a n c] W fun e w4=>e=.returned (.tuple #[.int .i64 (d.σy.get oH xs).1,.int .i64 (d.σy.get oH xs).2])∧∃T4,TagsTo w3 T3 T4∧Inv R T4 w4 p S ((L.set i {d with σx:=d.σx}).set i {{d with σx:=d.σx}with σy:=d.σy})∧Kp (fun b=>(T3 b).1=11+2*i) w3 w4):=hid (fun W kW=>by
  have hIW:=HI3.out.kp0 HX.out (fun _ _=>rfl) kW;refine(yget_calls (hIW.side i _ HD3.out).y oH _ xs (HRD3.out.kp0 kW)).mono ?_;rintro e w4 ⟨rfl,hst4⟩;obtain⟨T4,ht4,hr4,hk4⟩:=(YStep.same (hIW.side i _ HD3.out).y hst4).step;exact⟨rfl,T4,fun b hb=>ht4 b (Nat.lt_of_lt_of_le hb kW.size),hIW.stepY HX.out HD3.out ht4 hr4 hk4,(Kp.of0 kW).trans hk4 (fun _ _ e=>e)⟩)
 have nn4:Hid (∀b,w.heap.size≤b→b<w2.heap.size→¬(T3 b).1=11+2*i):=hid (fun b hb hb2=>by rw[HT3.out b hb2,HNEW.out b hb];simp;omega);go_wp2
 go_region_held3 (fun w'=>w'.cell? ⟨d.sb,1,none⟩=some (.pointer (some ⟨d.py,0,none⟩))∧w'.cell? ⟨w.heap.size,1,none⟩=some (.int .i64 oH)∧w'.cell? ⟨w.heap.size,6,none⟩=some (.slice a n c)) (first|go_keep|(go_split_ands;exact⟨hk4.cell x1 (by rw[HT3.out _ (by simp;omega),HT1.out _ hsb,HSD.out.tag];simp;omega),hk4.cell d1 (nn4.out _ (Nat.le_refl _) (by simp;omega)),hk4.cell d6 (nn4.out _ (Nat.le_refl _) (by simp;omega))⟩))
  ((go_at_call 108;refine(HYC.out _ ?_).mono ?_;(first|exact Kp0.refl _|exact Kp0.drew (Kp0.refl _));rintro e w4 ⟨rfl,T4,ht4,hI4,hk4⟩))
 have d0':=hk4.cell d0 (nn4.out _ (Nat.le_refl _) (by simp;omega));have d6':=hk4.cell d6 (nn4.out _ (Nat.le_refl _) (by simp;omega));have HG4:=hid (hk4.heap HG3.out (nn4.out _ (by omega) hs2));have hs4:w3.heap.size≤w4.heap.size:=hk4.size;have HRD4:=hid (HRD3.out.kpne hk4 (fun hx b hb e=>by
  have:=ct.out hx b hb;rw[HT3.out b (by omega)]at e;omega))
 have HI4:=hid hI4;have HT4:=hid ht4;have HK4:=hid hk4;have HCT:=hid ct.out;clear ht4 hI4 hk4 d0 d1 d2 d6 HYC;have HT41:Hid (∀b,b<w2.heap.size→T4 b=T1 b):=hid (fun b hb=>by rw[HT4.out b (by omega),HT3.out b hb])
 go_wp2_with fail
 refine(returned_calls HI4.out.wat (w.heap.size+1) n _ xs HLEN.out (by omega) HRD4.out HG4.out (by rw[HT41.out _ hs2];exact HNEW.out _ (by omega)) (fun hx b hb=>by
   have:=HCT.out hx b hb;rw[HT41.out b (by omega)];omega) hnt (fun j v hv e=>by have:=HI.out.wat.lt hv e;omega) (fun j v hv e=>by have:=HI.out.wat.ltt hv e;omega)).mono ?_
 rintro e w5 ⟨rfl,T5,vt,ht5,hw5,hk5⟩;have HI5:=hid (HI4.out.stepW HX.out ht5 hw5 rfl hk5);have HT5:=hid ht5;have HK5:=hid hk5;clear ht5 hw5 hk5;have q1:((d.σx.get oH xs).1==(d.σy.get oH xs).1)=true:=by rw[HS.out];simp
 have q2:((d.σx.get oH xs).2==(d.σy.get oH xs).2)=true:=by rw[HS.out];simp
 go_wp2
 go_ret;have hLL:(L.set i {d with σx:=d.σx}).set i {{d with σx:=d.σx}with σy:=d.σy}=L.set i {d with σx:=d.σy,σy:=d.σy}:=by first|rw[List.set_set,HS.out]|(rw[List.set_set];show L.set i ⟨d.sb,d.px,d.py,d.σx,d.σy⟩=_;rw[HS.out])
 have hI5:=HI5.out;rw[hLL]at hI5;have s2:=HK2.out.size;refine⟨ret_bool (by simp),T5,_,fun b hb=>by rw[HT5.out b (by omega),HT41.out b (by omega),HT1.out b hb],hI5,Nat.le_refl _,by simp[WS.turn],by simp[WS.turn],?_⟩;have k3:Kp (fun b=>5≤(T b).1) w w3:=(Kp.of0 HK2.out).trans HK3.out (fun b hb e=>by rw[HT1.out b hb]at e;omega);have k4:Kp (fun b=>5≤(T b).1) w w4:=k3.trans HK4.out (fun b hb e=>by rw[HT3.out b (by omega),HT1.out b hb]at e;omega);exact k4.trans HK5.out (fun b hb e=>by rw[HT41.out b (by omega),HT1.out b hb]at e;omega)
theorem plain_fill{R:Tags→Nat→World→Nat→Sp→Prop}(X:XC R){T:Tags}{w:World}{p:Nat}{S:WS}{L:List SD}(hI:Inv R T w p S L){i:Nat}{d:SD}(hd:L[i]? =some d)(hσ:d.σx=d.σy)(oH oA oB oC oD:Int)(vL:Value)(wh:Bool)(xs:List Int)(a:Option Addr)(n c:Nat)(hL:OpL T w vL a n c xs)(hA:IntKind.i64.wrap oA=oA)(hnt:S.turned.length+1≤1000000000)(_hm:d.σy.arrs.length+1≤100000000)(_hb:d.σy.bufs.length+1≤100000000):Calls Tryz.prog 75 #[.pointer (some ⟨p,0,none⟩),.pointer (some ⟨d.sb,0,none⟩),.agg #[.int .i64 4,.int .i64 oH,.int .i64 oA,.int .i64 oB,.int .i64 oC,.int .i64 oD,vL,.bool wh]] w fun e w'=>e=.returned (.bool true)∧Went R T w p S (L.set i {d with σx:=(d.σy.fill oH oA).1,σy:=(d.σy.fill oH oA).1}) 0 1 w':=by
 have hsd:=hI.side i d hd;have z0:w.cell? ⟨d.sb,0,none⟩=some (.pointer (some ⟨d.px,0,none⟩)):=by simp[World.cell?,hsd.blk]
 have z1:w.cell? ⟨d.sb,1,none⟩=some (.pointer (some ⟨d.py,0,none⟩)):=by simp[World.cell?,hsd.blk]
 have hsb:d.sb<w.heap.size:=lt_of_heap hsd.blk;obtain⟨rfl,hlen,hrd,htag,hbig⟩:=hL;have HRD:=hid hrd;have HTAG:=hid htag;have HLEN:=hid hlen;have HI:=hid hI;have HD:=hid hd;have HX:=hid X;have HS:=hid hσ;have HSD:=hid hsd;have HA:=hid hA;clear hI hd hσ hsd X hrd htag hlen hA;obtain⟨T1,hT1⟩:∃T1,retag w T (5,9)=T1:=⟨_,rfl⟩;have HT1:Hid (TagsTo w T T1):=hid (by rw[←hT1];exact retag_to w T _);have HNEW:Hid (∀b,w.heap.size≤b→T1 b=(5,9)):=hid (fun b hb=>by rw[←hT1];exact retag_new hb);clear hT1;have HLENT:Hid (∀y,Calls Tryz.prog 104 #[.slice a n c] (w.alloc y) fun e w'=>e=.returned (.slice (some ⟨w.heap.size+1,0,none⟩) (n+1) (n+1))∧w'=(w.alloc y).alloc (.cells (ints (xs++[0])).toArray 3)):=hid (fun y=>
  (lent_calls _ xs (w.alloc y) (HRD.out.kp0 (Kp.alloc (Kp.refl _ _) _)) (by have:=HLEN.out;omega)).mono (by
   rintro e w' ⟨rfl,rfl⟩;rw[HLEN.out];exact⟨by simp,rfl⟩))
 go_enter Tryz.func75,Tryz.ntmps75
 go_wp2_with fail
 refine(HLENT.out _).mono ?_;rintro e w2 ⟨rfl,hw2⟩;have HK2:Hid (Kp0 w w2):=hid (by rw[hw2];exact Kp.alloc (Kp.alloc (Kp.refl _ _) _) _);have hg2:w2.heap[w.heap.size+1]? =some (.cells (ints (xs++[0])).toArray 3 (0,0)):=by
  rw[hw2];have:=heap_alloc_new (w.alloc (.cells #[.int .i64 4,.int .i64 oH,.int .i64 oA,.int .i64 oB,.int .i64 oC,.int .i64 oD,.slice a n c,.bool wh] 87)) (.cells (ints (xs++[0])).toArray 3);simpa using this
 have hbox:w2.heap[w.heap.size]? =some (.cells #[.int .i64 4,.int .i64 oH,.int .i64 oA,.int .i64 oB,.int .i64 oC,.int .i64 oD,.slice a n c,.bool wh] 87 (0,0)):=by
  rw[hw2,Below.heap_alloc _ _ _ (by simp)];exact heap_alloc_new _ _
 have HG2:=hid hg2;have HBOX:=hid hbox;have hs2:w.heap.size+1<w2.heap.size:=lt_of_heap hg2;have b0:w2.cell? ⟨w.heap.size,0,none⟩=some (.int .i64 4):=by simp[World.cell?,hbox]
 have b1:w2.cell? ⟨w.heap.size,1,none⟩=some (.int .i64 oH):=by simp[World.cell?,hbox]
 have b2:w2.cell? ⟨w.heap.size,2,none⟩=some (.int .i64 oA):=by simp[World.cell?,hbox]
 have b6:w2.cell? ⟨w.heap.size,6,none⟩=some (.slice a n c):=by simp[World.cell?,hbox]
 have y0:=HK2.out.cell z0;have y1:=HK2.out.cell z1;have HI2:=hid (HI.out.kp0 HX.out HT1.out HK2.out);clear hw2 hg2 hbox z0 z1 HLENT
 go_wp2_with fail
 refine(hand_calls (w.heap.size+1) n c a xs w2 HLEN.out (HRD.out.kp0 HK2.out) (by omega) HG2.out).mono ?_;rintro e w2' ⟨⟨ai,ci,rfl,hin,hib⟩,hw⟩;obtain rfl:=hw.symm;have HIN:=hid hin;have HIB:Hid (∀b,(Value.slice ai n ci).ownBlock=some b→(T1 b).1≠10+2*i):=hid (fun b hb=>by
  have:=hib b hb;rw[this,HNEW.out _ (by omega)];simp;omega)
 clear hin hib;have nn:Hid (∀b,w.heap.size≤b→¬(T1 b).1=10+2*i):=hid (fun b hb=>by rw[HNEW.out b hb];simp;omega);have ct:Hid (xs≠[]→∀b,(Value.slice a n c).ownBlock=some b→b<w.heap.size∧(T1 b).1=0):=hid (fun hx b hb=>by
  have:=HTAG.out hx b hb;exact⟨this.1,by rw[HT1.out b this.1];exact this.2⟩)
 have HXC:Hid (∀W,Kp0 w2 W→Calls Tryz.prog 64 #[.pointer (some ⟨d.px,0,none⟩),.int .i64 oH,.int .i64 oA] W fun e w3=>e=.returned (.int .i64 (d.σx.fill oH oA).2)∧∃T3,TagsTo w2 T1 T3∧Inv R T3 w3 p S (L.set i {d with σx:=(d.σx.fill oH oA).1})∧Kp (fun b=>(T1 b).1=10+2*i) w2 w3):=hid (fun W kW=>by
  have hIW:=HI2.out.kp0 HX.out (fun _ _=>rfl) kW;refine(HX.out.fill oH oA (hIW.side i d HD.out).x HA.out).mono ?_;rintro e w3 ⟨rfl,T3,ht3,hr3,hk3⟩;exact⟨rfl,T3,fun b hb=>ht3 b (Nat.lt_of_lt_of_le hb kW.size),hIW.stepX HX.out HD.out ht3 hr3 hk3,(Kp.of0 kW).trans hk3 (fun _ _ e=>e)⟩)
 have HD3:Hid ((L.set i {d with σx:=(d.σx.fill oH oA).1})[i]? =some {d with σx:=(d.σx.fill oH oA).1}):=hid (by
  rw[List.getElem?_set];have:i<L.length:=by
   have h:=HD.out;rcases Nat.lt_or_ge i L.length with h'|h'
   ·exact h'
   ·rw[List.getElem?_eq_none h']at h;cases h
  simp[this])
 go_wp2
 go_region_held3 (fun w'=>w'.cell? ⟨d.sb,0,none⟩=some (.pointer (some ⟨d.px,0,none⟩))∧w'.cell? ⟨w.heap.size,1,none⟩=some (.int .i64 oH)∧w'.cell? ⟨w.heap.size,2,none⟩=some (.int .i64 oA)) (first|go_keep|(go_split_ands;exact⟨hk3.cell y0 (by rw[HT1.out _ hsb,HSD.out.tag];simp;omega),hk3.cell b1 (nn.out _ (Nat.le_refl _)),hk3.cell b2 (nn.out _ (Nat.le_refl _))⟩))
  ((go_at_call 64;refine(HXC.out _ ?_).mono ?_;(first|exact Kp0.refl _|exact Kp0.drew (Kp0.refl _));rintro e w3 ⟨rfl,T3,ht3,hI3,hk3⟩))
 have d0:=hk3.cell b0 (nn.out _ (Nat.le_refl _));have d1:=hk3.cell b1 (nn.out _ (Nat.le_refl _));have d2:=hk3.cell b2 (nn.out _ (Nat.le_refl _));have d6:=hk3.cell b6 (nn.out _ (Nat.le_refl _));have x1:=hk3.cell y1 (by rw[HT1.out _ hsb,HSD.out.tag];simp;omega);have HG3:=hid (hk3.heap HG2.out (nn.out _ (by omega)));have hs3:w2.heap.size≤w3.heap.size:=hk3.size;have HRD3:=hid ((HRD.out.kp0 HK2.out).kpne hk3 (fun hx b hb e=>by have:=(ct.out hx b hb).2;omega));have HI3:=hid hI3;have HT3:=hid ht3;have HK3:=hid hk3;clear ht3 hI3 hk3 b0 b1 b2 b6 y0 y1 HXC;have HYC:Hid (∀W,Kp0 w3 W→Calls Tryz.prog 109 #[.pointer (some ⟨d.py,0,none⟩),.int .i64 oH,.int .i64 oA] W fun e w4=>e=.returned (.int .i64 (d.σy.fill oH oA).2)∧∃T4,TagsTo w3 T3 T4∧Inv R T4 w4 p S ((L.set i {d with σx:=(d.σx.fill oH oA).1}).set i {{d with σx:=(d.σx.fill oH oA).1}with σy:=(d.σy.fill oH oA).1})∧Kp (fun b=>(T3 b).1=11+2*i) w3 w4):=hid (fun W kW=>by
  have hIW:=HI3.out.kp0 HX.out (fun _ _=>rfl) kW;refine(yfill_calls (hIW.side i _ HD3.out).y oH oA).mono ?_;rintro e w4 ⟨rfl,hst4⟩;obtain⟨T4,ht4,hr4,hk4⟩:=hst4.step;exact⟨rfl,T4,fun b hb=>ht4 b (Nat.lt_of_lt_of_le hb kW.size),hIW.stepY HX.out HD3.out ht4 hr4 hk4,(Kp.of0 kW).trans hk4 (fun _ _ e=>e)⟩)
 have nn4:Hid (∀b,w.heap.size≤b→b<w2.heap.size→¬(T3 b).1=11+2*i):=hid (fun b hb hb2=>by rw[HT3.out b hb2,HNEW.out b hb];simp;omega);go_wp2
 go_region_held3 (fun w'=>w'.cell? ⟨d.sb,1,none⟩=some (.pointer (some ⟨d.py,0,none⟩))∧w'.cell? ⟨w.heap.size,1,none⟩=some (.int .i64 oH)∧w'.cell? ⟨w.heap.size,2,none⟩=some (.int .i64 oA)) (first|go_keep|(go_split_ands;exact⟨hk4.cell x1 (by rw[HT3.out _ (by simp;omega),HT1.out _ hsb,HSD.out.tag];simp;omega),hk4.cell d1 (nn4.out _ (Nat.le_refl _) (by simp;omega)),hk4.cell d2 (nn4.out _ (Nat.le_refl _) (by simp;omega))⟩))
  ((go_at_call 109;refine(HYC.out _ ?_).mono ?_;(first|exact Kp0.refl _|exact Kp0.drew (Kp0.refl _));rintro e w4 ⟨rfl,T4,ht4,hI4,hk4⟩))
 have d0':=hk4.cell d0 (nn4.out _ (Nat.le_refl _) (by simp;omega));have d6':=hk4.cell d6 (nn4.out _ (Nat.le_refl _) (by simp;omega));have HG4:=hid (hk4.heap HG3.out (nn4.out _ (by omega) hs2));have hs4:w3.heap.size≤w4.heap.size:=hk4.size;have HRD4:=hid (HRD3.out.kpne hk4 (fun hx b hb e=>by
  have:=ct.out hx b hb;rw[HT3.out b (by omega)]at e;omega))
 have HI4:=hid hI4;have HT4:=hid ht4;have HK4:=hid hk4;have HCT:=hid ct.out;clear ht4 hI4 hk4 d0 d1 d2 d6 HYC;have HT41:Hid (∀b,b<w2.heap.size→T4 b=T1 b):=hid (fun b hb=>by rw[HT4.out b (by omega),HT3.out b hb])
 go_wp2_with fail
 refine(returned_calls HI4.out.wat (w.heap.size+1) n _ xs HLEN.out (by omega) HRD4.out HG4.out (by rw[HT41.out _ hs2];exact HNEW.out _ (by omega)) (fun hx b hb=>by
   have:=HCT.out hx b hb;rw[HT41.out b (by omega)];omega) hnt (fun j v hv e=>by have:=HI.out.wat.lt hv e;omega) (fun j v hv e=>by have:=HI.out.wat.ltt hv e;omega)).mono ?_
 rintro e w5 ⟨rfl,T5,vt,ht5,hw5,hk5⟩;have HI5:=hid (HI4.out.stepW HX.out ht5 hw5 rfl hk5);have HT5:=hid ht5;have HK5:=hid hk5;clear ht5 hw5 hk5;have q2:((d.σx.fill oH oA).2==(d.σy.fill oH oA).2)=true:=by rw[HS.out];simp
 go_wp2
 go_ret;have hLL:(L.set i {d with σx:=(d.σx.fill oH oA).1}).set i {{d with σx:=(d.σx.fill oH oA).1}with σy:=(d.σy.fill oH oA).1}=L.set i {d with σx:=(d.σy.fill oH oA).1,σy:=(d.σy.fill oH oA).1}:=by first|rw[List.set_set,HS.out]|(rw[List.set_set];show L.set i ⟨d.sb,d.px,d.py,d.σx,d.σy⟩=_;rw[HS.out])
 have hI5:=HI5.out;rw[hLL]at hI5;have s2:=HK2.out.size;refine⟨ret_bool (by simp),T5,_,fun b hb=>by rw[HT5.out b (by omega),HT41.out b (by omega),HT1.out b hb],hI5,Nat.le_refl _,by simp[WS.turn],by simp[WS.turn],?_⟩;have k3:Kp (fun b=>5≤(T b).1) w w3:=(Kp.of0 HK2.out).trans HK3.out (fun b hb e=>by rw[HT1.out b hb]at e;omega);have k4:Kp (fun b=>5≤(T b).1) w w4:=k3.trans HK4.out (fun b hb e=>by rw[HT3.out b (by omega),HT1.out b hb]at e;omega);exact k4.trans HK5.out (fun b hb e=>by rw[HT41.out b (by omega),HT1.out b hb]at e;omega)
theorem plain_free{R:Tags→Nat→World→Nat→Sp→Prop}(X:XC R){T:Tags}{w:World}{p:Nat}{S:WS}{L:List SD}(hI:Inv R T w p S L){i:Nat}{d:SD}(hd:L[i]? =some d)(hσ:d.σx=d.σy)(oH oA oB oC oD:Int)(vL:Value)(wh:Bool)(xs:List Int)(a:Option Addr)(n c:Nat)(hL:OpL T w vL a n c xs)(hA:IntKind.i64.wrap oA=oA)(hnt:S.turned.length+1≤1000000000)(_hm:d.σy.arrs.length+1≤100000000)(_hb:d.σy.bufs.length+1≤100000000):Calls Tryz.prog 75 #[.pointer (some ⟨p,0,none⟩),.pointer (some ⟨d.sb,0,none⟩),.agg #[.int .i64 5,.int .i64 oH,.int .i64 oA,.int .i64 oB,.int .i64 oC,.int .i64 oD,vL,.bool wh]] w fun e w'=>e=.returned (.bool true)∧Went R T w p S (L.set i {d with σx:=(d.σy.free oH).1,σy:=(d.σy.free oH).1}) 0 1 w':=by
 have hsd:=hI.side i d hd;have z0:w.cell? ⟨d.sb,0,none⟩=some (.pointer (some ⟨d.px,0,none⟩)):=by simp[World.cell?,hsd.blk]
 have z1:w.cell? ⟨d.sb,1,none⟩=some (.pointer (some ⟨d.py,0,none⟩)):=by simp[World.cell?,hsd.blk]
 have hsb:d.sb<w.heap.size:=lt_of_heap hsd.blk;obtain⟨rfl,hlen,hrd,htag,hbig⟩:=hL;have HRD:=hid hrd;have HTAG:=hid htag;have HLEN:=hid hlen;have HI:=hid hI;have HD:=hid hd;have HX:=hid X;have HS:=hid hσ;have HSD:=hid hsd;have HA:=hid hA;clear hI hd hσ hsd X hrd htag hlen hA;obtain⟨T1,hT1⟩:∃T1,retag w T (5,9)=T1:=⟨_,rfl⟩;have HT1:Hid (TagsTo w T T1):=hid (by rw[←hT1];exact retag_to w T _);have HNEW:Hid (∀b,w.heap.size≤b→T1 b=(5,9)):=hid (fun b hb=>by rw[←hT1];exact retag_new hb);clear hT1;have HLENT:Hid (∀y,Calls Tryz.prog 104 #[.slice a n c] (w.alloc y) fun e w'=>e=.returned (.slice (some ⟨w.heap.size+1,0,none⟩) (n+1) (n+1))∧w'=(w.alloc y).alloc (.cells (ints (xs++[0])).toArray 3)):=hid (fun y=>
  (lent_calls _ xs (w.alloc y) (HRD.out.kp0 (Kp.alloc (Kp.refl _ _) _)) (by have:=HLEN.out;omega)).mono (by
   rintro e w' ⟨rfl,rfl⟩;rw[HLEN.out];exact⟨by simp,rfl⟩))
 go_enter Tryz.func75,Tryz.ntmps75
 go_wp2_with fail
 refine(HLENT.out _).mono ?_;rintro e w2 ⟨rfl,hw2⟩;have HK2:Hid (Kp0 w w2):=hid (by rw[hw2];exact Kp.alloc (Kp.alloc (Kp.refl _ _) _) _);have hg2:w2.heap[w.heap.size+1]? =some (.cells (ints (xs++[0])).toArray 3 (0,0)):=by
  rw[hw2];have:=heap_alloc_new (w.alloc (.cells #[.int .i64 5,.int .i64 oH,.int .i64 oA,.int .i64 oB,.int .i64 oC,.int .i64 oD,.slice a n c,.bool wh] 87)) (.cells (ints (xs++[0])).toArray 3);simpa using this
 have hbox:w2.heap[w.heap.size]? =some (.cells #[.int .i64 5,.int .i64 oH,.int .i64 oA,.int .i64 oB,.int .i64 oC,.int .i64 oD,.slice a n c,.bool wh] 87 (0,0)):=by
  rw[hw2,Below.heap_alloc _ _ _ (by simp)];exact heap_alloc_new _ _
 have HG2:=hid hg2;have HBOX:=hid hbox;have hs2:w.heap.size+1<w2.heap.size:=lt_of_heap hg2;have b0:w2.cell? ⟨w.heap.size,0,none⟩=some (.int .i64 5):=by simp[World.cell?,hbox]
 have b1:w2.cell? ⟨w.heap.size,1,none⟩=some (.int .i64 oH):=by simp[World.cell?,hbox]
 have b2:w2.cell? ⟨w.heap.size,2,none⟩=some (.int .i64 oA):=by simp[World.cell?,hbox]
 have b6:w2.cell? ⟨w.heap.size,6,none⟩=some (.slice a n c):=by simp[World.cell?,hbox]
 have y0:=HK2.out.cell z0;have y1:=HK2.out.cell z1;have HI2:=hid (HI.out.kp0 HX.out HT1.out HK2.out);clear hw2 hg2 hbox z0 z1 HLENT
 go_wp2_with fail
 refine(hand_calls (w.heap.size+1) n c a xs w2 HLEN.out (HRD.out.kp0 HK2.out) (by omega) HG2.out).mono ?_;rintro e w2' ⟨⟨ai,ci,rfl,hin,hib⟩,hw⟩;obtain rfl:=hw.symm;have HIN:=hid hin;have HIB:Hid (∀b,(Value.slice ai n ci).ownBlock=some b→(T1 b).1≠10+2*i):=hid (fun b hb=>by
  have:=hib b hb;rw[this,HNEW.out _ (by omega)];simp;omega)
 clear hin hib;have nn:Hid (∀b,w.heap.size≤b→¬(T1 b).1=10+2*i):=hid (fun b hb=>by rw[HNEW.out b hb];simp;omega);have ct:Hid (xs≠[]→∀b,(Value.slice a n c).ownBlock=some b→b<w.heap.size∧(T1 b).1=0):=hid (fun hx b hb=>by
  have:=HTAG.out hx b hb;exact⟨this.1,by rw[HT1.out b this.1];exact this.2⟩)
 have HXC:Hid (∀W,Kp0 w2 W→Calls Tryz.prog 25 #[.pointer (some ⟨d.px,0,none⟩),.int .i64 oH] W fun e w3=>e=.returned (.int .i64 (d.σx.free oH).2)∧∃T3,TagsTo w2 T1 T3∧Inv R T3 w3 p S (L.set i {d with σx:=(d.σx.free oH).1})∧Kp (fun b=>(T1 b).1=10+2*i) w2 w3):=hid (fun W kW=>by
  have hIW:=HI2.out.kp0 HX.out (fun _ _=>rfl) kW;refine(HX.out.free oH (hIW.side i d HD.out).x).mono ?_;rintro e w3 ⟨rfl,T3,ht3,hr3,hk3⟩;exact⟨rfl,T3,fun b hb=>ht3 b (Nat.lt_of_lt_of_le hb kW.size),hIW.stepX HX.out HD.out ht3 hr3 hk3,(Kp.of0 kW).trans hk3 (fun _ _ e=>e)⟩)
 have HD3:Hid ((L.set i {d with σx:=(d.σx.free oH).1})[i]? =some {d with σx:=(d.σx.free oH).1}):=hid (by
  rw[List.getElem?_set];have:i<L.length:=by
   have h:=HD.out;rcases Nat.lt_or_ge i L.length with h'|h'
   ·exact h'
   ·rw[List.getElem?_eq_none h']at h;cases h
  simp[this])
 go_wp2
 go_region_held3 (fun w'=>w'.cell? ⟨d.sb,0,none⟩=some (.pointer (some ⟨d.px,0,none⟩))∧w'.cell? ⟨w.heap.size,1,none⟩=some (.int .i64 oH)) (first|go_keep|(go_split_ands;exact⟨hk3.cell y0 (by rw[HT1.out _ hsb,HSD.out.tag];simp;omega),hk3.cell b1 (nn.out _ (Nat.le_refl _))⟩))
  ((go_at_call 25;refine(HXC.out _ ?_).mono ?_;(first|exact Kp0.refl _|exact Kp0.drew (Kp0.refl _));rintro e w3 ⟨rfl,T3,ht3,hI3,hk3⟩))
 have d0:=hk3.cell b0 (nn.out _ (Nat.le_refl _));have d1:=hk3.cell b1 (nn.out _ (Nat.le_refl _));have d2:=hk3.cell b2 (nn.out _ (Nat.le_refl _));have d6:=hk3.cell b6 (nn.out _ (Nat.le_refl _));have x1:=hk3.cell y1 (by rw[HT1.out _ hsb,HSD.out.tag];simp;omega);have HG3:=hid (hk3.heap HG2.out (nn.out _ (by omega)));have hs3:w2.heap.size≤w3.heap.size:=hk3.size;have HRD3:=hid ((HRD.out.kp0 HK2.out).kpne hk3 (fun hx b hb e=>by have:=(ct.out hx b hb).2;omega));have HI3:=hid hI3;have HT3:=hid ht3;have HK3:=hid hk3;clear ht3 hI3 hk3 b0 b1 b2 b6 y0 y1 HXC;have HYC:Hid (∀W,Kp0 w3 W→Calls Tryz.prog 110 #[.pointer (some ⟨d.py,0,none⟩),.int .i64 oH] W fun e w4=>e=.returned (.int .i64 (d.σy.free oH).2)∧∃T4,TagsTo w3 T3 T4∧Inv R T4 w4 p S ((L.set i {d with σx:=(d.σx.free oH).1}).set i {{d with σx:=(d.σx.free oH).1}with σy:=(d.σy.free oH).1})∧Kp (fun b=>(T3 b).1=11+2*i) w3 w4):=hid (fun W kW=>by
  have hIW:=HI3.out.kp0 HX.out (fun _ _=>rfl) kW;refine(yfree_calls (hIW.side i _ HD3.out).y oH).mono ?_;rintro e w4 ⟨rfl,hst4⟩;obtain⟨T4,ht4,hr4,hk4⟩:=hst4.step;exact⟨rfl,T4,fun b hb=>ht4 b (Nat.lt_of_lt_of_le hb kW.size),hIW.stepY HX.out HD3.out ht4 hr4 hk4,(Kp.of0 kW).trans hk4 (fun _ _ e=>e)⟩)
 have nn4:Hid (∀b,w.heap.size≤b→b<w2.heap.size→¬(T3 b).1=11+2*i):=hid (fun b hb hb2=>by rw[HT3.out b hb2,HNEW.out b hb];simp;omega);go_wp2
 go_region_held3 (fun w'=>w'.cell? ⟨d.sb,1,none⟩=some (.pointer (some ⟨d.py,0,none⟩))∧w'.cell? ⟨w.heap.size,1,none⟩=some (.int .i64 oH)) (first|go_keep|(go_split_ands;exact⟨hk4.cell x1 (by rw[HT3.out _ (by simp;omega),HT1.out _ hsb,HSD.out.tag];simp;omega),hk4.cell d1 (nn4.out _ (Nat.le_refl _) (by simp;omega))⟩))
  ((go_at_call 110;refine(HYC.out _ ?_).mono ?_;(first|exact Kp0.refl _|exact Kp0.drew (Kp0.refl _));rintro e w4 ⟨rfl,T4,ht4,hI4,hk4⟩))
 have d0':=hk4.cell d0 (nn4.out _ (Nat.le_refl _) (by simp;omega));have d6':=hk4.cell d6 (nn4.out _ (Nat.le_refl _) (by simp;omega));have HG4:=hid (hk4.heap HG3.out (nn4.out _ (by omega) hs2));have hs4:w3.heap.size≤w4.heap.size:=hk4.size;have HRD4:=hid (HRD3.out.kpne hk4 (fun hx b hb e=>by
  have:=ct.out hx b hb;rw[HT3.out b (by omega)]at e;omega))
 have HI4:=hid hI4;have HT4:=hid ht4;have HK4:=hid hk4;have HCT:=hid ct.out;clear ht4 hI4 hk4 d0 d1 d2 d6 HYC;have HT41:Hid (∀b,b<w2.heap.size→T4 b=T1 b):=hid (fun b hb=>by rw[HT4.out b (by omega),HT3.out b hb])
 go_wp2_with fail
 refine(returned_calls HI4.out.wat (w.heap.size+1) n _ xs HLEN.out (by omega) HRD4.out HG4.out (by rw[HT41.out _ hs2];exact HNEW.out _ (by omega)) (fun hx b hb=>by
   have:=HCT.out hx b hb;rw[HT41.out b (by omega)];omega) hnt (fun j v hv e=>by have:=HI.out.wat.lt hv e;omega) (fun j v hv e=>by have:=HI.out.wat.ltt hv e;omega)).mono ?_
 rintro e w5 ⟨rfl,T5,vt,ht5,hw5,hk5⟩;have HI5:=hid (HI4.out.stepW HX.out ht5 hw5 rfl hk5);have HT5:=hid ht5;have HK5:=hid hk5;clear ht5 hw5 hk5;have q2:((d.σx.free oH).2==(d.σy.free oH).2)=true:=by rw[HS.out];simp
 go_wp2
 go_ret;have hLL:(L.set i {d with σx:=(d.σx.free oH).1}).set i {{d with σx:=(d.σx.free oH).1}with σy:=(d.σy.free oH).1}=L.set i {d with σx:=(d.σy.free oH).1,σy:=(d.σy.free oH).1}:=by first|rw[List.set_set,HS.out]|(rw[List.set_set];show L.set i ⟨d.sb,d.px,d.py,d.σx,d.σy⟩=_;rw[HS.out])
 have hI5:=HI5.out;rw[hLL]at hI5;have s2:=HK2.out.size;refine⟨ret_bool (by simp),T5,_,fun b hb=>by rw[HT5.out b (by omega),HT41.out b (by omega),HT1.out b hb],hI5,Nat.le_refl _,by simp[WS.turn],by simp[WS.turn],?_⟩;have k3:Kp (fun b=>5≤(T b).1) w w3:=(Kp.of0 HK2.out).trans HK3.out (fun b hb e=>by rw[HT1.out b hb]at e;omega);have k4:Kp (fun b=>5≤(T b).1) w w4:=k3.trans HK4.out (fun b hb e=>by rw[HT3.out b (by omega),HT1.out b hb]at e;omega);exact k4.trans HK5.out (fun b hb e=>by rw[HT41.out b (by omega),HT1.out b hb]at e;omega)
theorem step_plain{w:World}(p sb:Nat)(k oH oA oB oC oD:Int)(a:Option Addr)(n c:Nat)(wh:Bool)(Q:World→Prop)(hk:k=1∨k=2∨k=3∨k=4∨k=5)(hP:∀W,Kp0 w W→Calls Tryz.prog 75 #[.pointer (some ⟨p,0,none⟩),.pointer (some ⟨sb,0,none⟩),.agg #[.int .i64 k,.int .i64 oH,.int .i64 oA,.int .i64 oB,.int .i64 oC,.int .i64 oD,.slice a n c,.bool wh]] W fun e w'=>e=.returned (.bool true)∧Q w'):Calls Tryz.prog 40 #[.pointer (some ⟨p,0,none⟩),.pointer (some ⟨sb,0,none⟩),.agg #[.int .i64 k,.int .i64 oH,.int .i64 oA,.int .i64 oB,.int .i64 oC,.int .i64 oD,.slice a n c,.bool wh]] w fun e w'=>e=.returned (.bool true)∧Q w':=by
 have HP:=hid hP;clear hP;rcases hk with rfl|rfl|rfl|rfl|rfl
 all_goals
  go_enter Tryz.func40,Tryz.ntmps40
  go_wp2_with fail
  refine(HP.out _ (Kp.alloc (Kp.refl _ _) _)).mono ?_;rintro e w1 ⟨rfl,hq⟩;have HQ:=hid hq;clear hq;go_wp2
  go_ret;exact⟨rfl,HQ.out⟩
theorem step_told{w:World}(p sb:Nat)(oH oA oB oC oD:Int)(a:Option Addr)(n c:Nat)(wh:Bool)(Q:World→Prop)(hP:∀W,Kp0 w W→Calls Tryz.prog 77 #[.pointer (some ⟨p,0,none⟩),.pointer (some ⟨sb,0,none⟩),.int .i64 oH] W fun e w'=>e=.returned (.bool true)∧Q w'):Calls Tryz.prog 40 #[.pointer (some ⟨p,0,none⟩),.pointer (some ⟨sb,0,none⟩),.agg #[.int .i64 6,.int .i64 oH,.int .i64 oA,.int .i64 oB,.int .i64 oC,.int .i64 oD,.slice a n c,.bool wh]] w fun e w'=>e=.returned (.bool true)∧Q w':=by
 have HP:=hid hP;clear hP;go_enter Tryz.func40,Tryz.ntmps40
 go_wp2_with fail
 refine(HP.out _ (Kp.alloc (Kp.refl _ _) _)).mono ?_;rintro e w1 ⟨rfl,hq⟩;have HQ:=hid hq;clear hq;go_wp2
 go_ret;exact⟨rfl,HQ.out⟩
theorem step_looked{w:World}(p sb:Nat)(oH oA oB oC oD:Int)(a:Option Addr)(n c:Nat)(wh:Bool)(Q:World→Prop)(hP:∀W,Kp0 w W→Calls Tryz.prog 78 #[.pointer (some ⟨p,0,none⟩),.pointer (some ⟨sb,0,none⟩),.int .i64 oH] W fun e w'=>e=.returned (.bool true)∧Q w'):Calls Tryz.prog 40 #[.pointer (some ⟨p,0,none⟩),.pointer (some ⟨sb,0,none⟩),.agg #[.int .i64 7,.int .i64 oH,.int .i64 oA,.int .i64 oB,.int .i64 oC,.int .i64 oD,.slice a n c,.bool wh]] w fun e w'=>e=.returned (.bool true)∧Q w':=by
 have HP:=hid hP;clear hP;go_enter Tryz.func40,Tryz.ntmps40
 go_wp2_with fail
 refine(HP.out _ (Kp.alloc (Kp.refl _ _) _)).mono ?_;rintro e w1 ⟨rfl,hq⟩;have HQ:=hid hq;clear hq;go_wp2
 go_ret;exact⟨rfl,HQ.out⟩
theorem step_low{w:World}(p sb:Nat)(k oH oA oB oC oD:Int)(a:Option Addr)(n c:Nat)(wh:Bool)(hk:k<1):Calls Tryz.prog 40 #[.pointer (some ⟨p,0,none⟩),.pointer (some ⟨sb,0,none⟩),.agg #[.int .i64 k,.int .i64 oH,.int .i64 oA,.int .i64 oB,.int .i64 oC,.int .i64 oD,.slice a n c,.bool wh]] w fun e w'=>e=.returned (.bool true)∧Kp0 w w':=by
 have e1:(k==1)=false:=by rw[beq_eq_false_iff_ne];omega
 have e2:(k==2)=false:=by rw[beq_eq_false_iff_ne];omega
 have e3:(k==3)=false:=by rw[beq_eq_false_iff_ne];omega
 have e4:(k==4)=false:=by rw[beq_eq_false_iff_ne];omega
 have e5:(k==5)=false:=by rw[beq_eq_false_iff_ne];omega
 have e6:(k==6)=false:=by rw[beq_eq_false_iff_ne];omega
 have e7:(k==7)=false:=by rw[beq_eq_false_iff_ne];omega
 have e8:(k==8)=false:=by rw[beq_eq_false_iff_ne];omega
 have e9:(k==9)=false:=by rw[beq_eq_false_iff_ne];omega
 have e10:(k==10)=false:=by rw[beq_eq_false_iff_ne];omega
 have e11:(k==11)=false:=by rw[beq_eq_false_iff_ne];omega
 have e12:(k==12)=false:=by rw[beq_eq_false_iff_ne];omega
 have e13:(k==13)=false:=by rw[beq_eq_false_iff_ne];omega
 have e14:(k==14)=false:=by rw[beq_eq_false_iff_ne];omega
 have e15:(k==15)=false:=by rw[beq_eq_false_iff_ne];omega
 have e16:(k==16)=false:=by rw[beq_eq_false_iff_ne];omega
 go_enter Tryz.func40,Tryz.ntmps40
 go_wp2
 go_ret;exact⟨rfl,Kp.alloc (Kp.refl _ _) _⟩
def remTo(s:List Int)(r:Int):Nat→Int
 |0=>r
 |m+1=>remTo s r m / nth s (s.length-1-m)
def idx(s:List Int)(r:Int):List Int:=(List.range s.length).map fun k=>remTo s r (s.length-1-k)%nth s k
theorem idx_length(s:List Int)(r:Int):(idx s r).length=s.length:=by simp[idx]
theorem idx_nth(s:List Int)(r:Int)(k:Nat)(h:k<s.length):nth (idx s r) k=remTo s r (s.length-1-k)%nth s k:=by
 rw[nth_lt (by rw[idx_length];exact h)];simp[idx]
theorem remTo_bd(s:List Int)(r:Int)(hr:0≤r)(hs:sized s)(m:Nat)(hm:m≤s.length):0≤remTo s r m∧remTo s r m≤r:=by
 induction m with
 |zero=>simp[remTo,hr]
 |succ m ih=>
  obtain⟨a,b⟩:=ih (by omega);obtain⟨s1,-⟩:=hs (s.length-1-m) (by omega);simp only[remTo];refine⟨Int.ediv_nonneg a (by omega),Int.le_trans (Int.ediv_le_self _ a) b⟩
theorem idx_in(s:List Int)(r:Int)(hs:sized s):inB s (idx s r):=by
 refine⟨(idx_length s r).symm,fun j hj=>?_⟩;obtain⟨s1,-⟩:=hs j hj;rw[idx_nth s r j hj];exact⟨Int.emod_nonneg _ (by omega),Int.emod_lt_of_pos _ (by omega)⟩
theorem remTo_vol(s:List Int)(r:Int)(hs:sized s)(h1:r<vol s)(m:Nat)(hm:m≤s.length):remTo s r m<vol (s.take (s.length-m)):=by
 induction m with
 |zero=>simpa[remTo]using h1
 |succ m ih=>
  have:=ih (by omega);obtain⟨s1,-⟩:=hs (s.length-1-m) (by omega);rw[show s.length-m=(s.length-1-m)+1 by omega,vol_take s _ (by omega)]at this;simp only[remTo];rw[show s.length-(m+1)=s.length-1-m by omega];exact Int.ediv_lt_of_lt_mul (by omega) this
theorem rankTo_idx(s:List Int)(r:Int)(hs:sized s)(h0:0≤r)(h1:r<vol s)(m:Nat)(hm:m≤s.length):rankTo s (idx s r) (s.length-m)=remTo s r m:=by
 have key:∀k,k≤s.length→rankTo s (idx s r) k=remTo s r (s.length-k):=by
  intro k
  induction k with
  |zero=>
   intro _;have a:=remTo_vol s r hs h1 s.length (Nat.le_refl _);have b:=remTo_bd s r h0 hs s.length (Nat.le_refl _);simp[vol]at a;simp only[rankTo,Nat.sub_zero];omega
  |succ k ih=>
   intro hk;have e:=ih (by omega);simp only[rankTo];rw[e,idx_nth s r k (by omega)];have:remTo s r (s.length-k)=remTo s r (s.length-1-k) / nth s k:=by
    rw[show s.length-k=(s.length-1-k)+1 by omega];simp only[remTo];rw[show s.length-1-(s.length-1-k)=k by omega]
   rw[this,show s.length-(k+1)=s.length-1-k by omega,Int.mul_comm];exact Int.mul_ediv_add_emod _ _
 have:=key (s.length-m) (by omega)
 rwa [show s.length-(s.length-m)=m by omega]at this
theorem rank_idx(s:List Int)(r:Int)(hs:sized s)(h0:0≤r)(h1:r<vol s):rank s (idx s r)=r:=by
 unfold rank;rw[if_pos ((inBb_iff _ _).2 (idx_in s r hs))];exact rankTo_idx s r hs h0 h1 0 (by omega)
def tailFrom(l:List Int)(k:Nat):List Int:=(List.range l.length).map fun j=>if k≤j then nth l j else 0
theorem tailFrom_length(l:List Int)(k:Nat):(tailFrom l k).length=l.length:=by simp[tailFrom]
theorem tailFrom_zero(l:List Int):tailFrom l 0=l:=by
 refine ext_nth (tailFrom_length l 0) (fun j hj=>?_);rw[nth_lt hj];simp[tailFrom]
theorem tailFrom_all(l:List Int)(n:Nat)(hn:l.length=n):(ints (tailFrom l n)).toArray=rep n (.int .i64 0):=by
 unfold rep;congr 1
 apply List.ext_getElem
 ·simp[ints,tailFrom,hn]
 ·intro i h1 h2
  simp[ints,tailFrom,hn]at h1⊢;omega
theorem tailFrom_set(l:List Int)(k:Nat)(hk:k<l.length):(ints (tailFrom l (k+1))).toArray.setIfInBounds k (.int .i64 (nth l k))=(ints (tailFrom l k)).toArray:=by
 apply Array.ext_getElem?
 intro i;by_cases hi:i<l.length
 ·by_cases hik:i=k
  ·subst hik
   rw[Array.getElem?_setIfInBounds_self_of_lt (by simp[ints,tailFrom];exact hi)];simp[ints,tailFrom,hi]
  ·rw[Array.getElem?_setIfInBounds_ne (by omega)]
   simp[ints,tailFrom,hi];by_cases h:k≤i
   ·rw[if_pos h,if_pos (by omega)]
   ·rw[if_neg h,if_neg (by omega)]
 ·rw[Array.getElem?_eq_none (by simp[ints,tailFrom];omega),Array.getElem?_eq_none (by simp[ints,tailFrom];omega)]
theorem index_any(g o c n:Nat)(s:List Int)(r:Int)(w:World)(hs:sized s)(hn:s.length=n)(hl:n≤4)(hr0:0≤r)(hr:r≤100000000)(h1:∀j,j<n→w.cell? ⟨g,o+j,none⟩=some (.int .i64 (nth s j))):Calls Tryz.prog 141 #[.slice (some ⟨g,o,none⟩) n c,.int .i64 r] w fun e w'=>e=.returned (.slice (some ⟨w.heap.size,0,none⟩) n n)∧Kp0 w w'∧w'.heap[w.heap.size]? =some (.cells (ints (idx s r)).toArray 3 (0,0)):=by
 have hmk:=fun W=>run_mk (P:=Tryz.prog) 26 3 (.int .i64 0) 8 Tryz.underlying26 Tryz.infoInt rfl (by omega) n (by omega) W
 have HC:=hid h1;have HS:=hid hs;have HN:=hid hn;have HBD:Hid (∀m,m≤n→0≤remTo s r m∧remTo s r m≤r):=hid (fun m hm=>remTo_bd s r hr0 hs m (by omega));have HIL:Hid ((idx s r).length=n):=hid (by rw[idx_length,hn]);have HIN:Hid (∀j,j<n→nth (idx s r) j=remTo s r (n-1-j)%nth s j):=hid (fun j hj=>by rw[idx_nth s r j (by omega),hn]);have HRS:Hid (∀j,j<n→remTo s r (n-j)=remTo s r (n-1-j) / nth s j):=hid (fun j hj=>by
  rw[show n-j=(n-1-j)+1 by omega];simp only[remTo];rw[hn,show n-1-(n-1-j)=j by omega])
 clear h1 hs hn;go_enter Tryz.func141,Tryz.ntmps141
 go_wp2
 clear hmk
 go_loopw [1,6] (fun t i w'=>∃k:Nat,k≤n∧i=.int .i64 ((k:Int)-1)∧t=.int .i64 (remTo s r (n-k))∧Kp0 w w'∧w'.heap[w.heap.size]? =some (.cells (ints (tailFrom (idx s r) k)).toArray 3 (0,0))) (fun _ i _=>(intOf i+1).toNat)
 case atStart=>exact⟨n,Nat.le_refl _,by go_num,by rw[Nat.sub_self];rfl,(Kp.refl _ _).alloc _,by rw[heap_alloc_new,tailFrom_all _ n HIL.out]⟩
 case round=>
  obtain⟨k,hk,rfl,rfl,hK,hG⟩:=hrel;have HK:=hid hK;have HG:=hid hG;cases k with
  |zero=>
   clear hK hG;go_wp2
   go_ret;refine⟨rfl,HK.out,?_⟩;have:=HG.out
   rwa [tailFrom_zero]at this
  |succ k=>
   have hkn:k<n:=by omega
   have q:=hK.cell (HC.out k hkn);obtain⟨s1,s2⟩:=HS.out k (by have:=HN.out;omega);obtain⟨b1,b2⟩:=HBD.out (n-1-k) (by omega);obtain⟨c1,c2⟩:=HBD.out (n-k) (by omega);have hn0:(nth s k==0)=false:=by simp;omega
   have HM:Hid (remTo s r (n-1-k)% (nth s k)=nth (idx s r) k):=hid (by rw[HIN.out k hkn]);have HD:Hid ((remTo s r (n-1-k)).tdiv (nth s k)=remTo s r (n-k)):=hid (by rw[HRS.out k hkn];exact Int.tdiv_eq_ediv_of_nonneg b1);have hcell:wr.cell? ⟨w.heap.size,k,none⟩=some (.int .i64 0):=by
    rw[cell_of_row wr _ _ _ _ _ hG];simp[ints,tailFrom,HIL.out,hkn];intro h;omega
   have hfz:wr.frozen? ⟨w.heap.size,k,none⟩=false:=frozen_blk hG;have e1:((k+1:Nat):Int)-1=(k:Int):=by omega
   have hgs:g<w.heap.size:=block_lt_of_cell (HC.out k hkn);have hm1:(remTo s r (n-1-k)).tmod (nth s k)≤100000000∧0≤(remTo s r (n-1-k)).tmod (nth s k):=by
    have:=Int.emod_lt_of_pos (remTo s r (n-1-k)) (show(0:Int)<nth s k by omega);have:=Int.emod_nonneg (remTo s r (n-1-k)) (show nth s k≠0 by omega);rw[Int.tmod_eq_emod_of_nonneg b1];omega
   have hd1:0≤(remTo s r (n-1-k)).tdiv (nth s k)∧(remTo s r (n-1-k)).tdiv (nth s k)≤100000000:=by rw[HD.out];omega
   rw[show n-(k+1)=n-1-k by omega,e1];clear hK hG c1 c2 e1;generalize remTo s r (n-1-k)=rr at*;go_wp2
   go_roundw
   case rel=>
    refine⟨k,by omega,by go_num,?_,Kp.setCell HK.out _ _ (fun h=>by simp at h),?_⟩
    ·rw[←HD.out]
    ·rw[heap_setCell_same _ _ _ _ _ _ HG.out]
     have:=tailFrom_set (idx s r) k (by rw[HIL.out];exact hkn);rw[←HM.out]at this;rw[this]
   case measure=>simp[intOf]
theorem index_nil(a:Option Addr)(c:Nat)(r:Int)(w:World):Calls Tryz.prog 141 #[.slice a 0 c,.int .i64 r] w fun e w'=>e=.returned (.slice (some ⟨w.heap.size,0,none⟩) 0 0)∧w'=w.alloc (.cells (rep 0 (.int .i64 0)) 3):=by
 have hmk:=fun W=>run_mk (P:=Tryz.prog) 26 3 (.int .i64 0) 8 Tryz.underlying26 Tryz.infoInt rfl (by omega) 0 (by omega) W
 simp only[Int.natCast_zero]at hmk;go_enter Tryz.func141,Tryz.ntmps141
 go_wp2
 refine wp_loop_rounds 1 ?_;rw[rounds_succ];go_wp2
 go_ret;exact⟨rfl,rfl⟩
theorem index_calls(v:Value)(s:List Int)(r:Int)(w:World)(h:RdI w v s)(hs:sized s)(hl:s.length≤4)(hr0:0≤r)(hr:r≤100000000):Calls Tryz.prog 141 #[v,.int .i64 r] w fun e w'=>e=.returned (.slice (some ⟨w.heap.size,0,none⟩) s.length s.length)∧Kp0 w w'∧w'.heap[w.heap.size]? =some (.cells (ints (idx s r)).toArray 3 (0,0)):=by
 obtain⟨a,c,rfl,h⟩:=h;by_cases hx:s=[]
 ·subst hx
  refine(index_nil a c r w).mono ?_;rintro e w' ⟨rfl,rfl⟩;refine⟨rfl,(Kp.refl _ _).alloc _,?_⟩;rw[heap_alloc_new];rfl
 ·obtain⟨g,o,rfl,hc⟩:=h hx
  exact index_any g o c s.length s r w hs rfl hl hr0 hr hc
def fitsTo(s t:List Int)(k:Nat):Prop:=∀j,j<k→nth s j=nth t (t.length-s.length+j)∨nth s j=1
def stretchB(s t:List Int):Bool:=decide (s.length≤t.length)&&(List.range s.length).all fun j=>decide (nth s j=nth t (t.length-s.length+j))||decide (nth s j=1)
theorem stretchB_iff(s t:List Int):stretchB s t=true↔s.length≤t.length∧fitsTo s t s.length:=by simp[stretchB,fitsTo]
def meantOf(s t l:List Int):List Int:=(List.range s.length).map fun k=>if 1<nth s k then nth l (t.length-s.length+k)else 0
theorem meantOf_length(s t l:List Int):(meantOf s t l).length=s.length:=by simp[meantOf]
theorem meantOf_nth(s t l:List Int)(k:Nat)(h:k<s.length):nth (meantOf s t l) k=if 1<nth s k then nth l (t.length-s.length+k)else 0:=by
 rw[nth_lt (by rw[meantOf_length];exact h)];simp[meantOf]
def meant(s t:List Int):List Int:=(List.range (vol t).toNat).map fun r:Nat=>rank s (meantOf s t (idx t r))
def headTo(l:List Int)(k:Nat):List Int:=(List.range l.length).map fun j=>if j<k then nth l j else 0
theorem headTo_length(l:List Int)(k:Nat):(headTo l k).length=l.length:=by simp[headTo]
theorem headTo_all(l:List Int)(n:Nat)(hn:l.length=n):headTo l n=l:=by
 refine ext_nth (headTo_length l n) (fun j hj=>?_);rw[nth_lt hj];rw[headTo_length]at hj;simp[headTo,hn▸hj]
theorem headTo_zero(l:List Int)(n:Nat)(hn:l.length=n):(ints (headTo l 0)).toArray=rep n (.int .i64 0):=by
 unfold rep;congr 1
 apply List.ext_getElem
 ·simp[ints,headTo,hn]
 ·intro i h1 h2
  simp[ints,headTo]
theorem headTo_set(l:List Int)(k:Nat)(hk:k<l.length):(ints (headTo l k)).toArray.setIfInBounds k (.int .i64 (nth l k))=(ints (headTo l (k+1))).toArray:=by
 apply Array.ext_getElem?
 intro i;by_cases hi:i<l.length
 ·by_cases hik:i=k
  ·subst hik
   rw[Array.getElem?_setIfInBounds_self_of_lt (by simp[ints,headTo];exact hi)];simp[ints,headTo,hi]
  ·rw[Array.getElem?_setIfInBounds_ne (by omega)]
   simp[ints,headTo,hi];by_cases h:i<k
   ·rw[if_pos h,if_pos (by omega)]
   ·rw[if_neg h,if_neg (by omega)]
 ·rw[Array.getElem?_eq_none (by simp[ints,headTo];omega),Array.getElem?_eq_none (by simp[ints,headTo];omega)]
theorem headTo_same(l:List Int)(k:Nat)(h0:nth l k=0):headTo l k=headTo l (k+1):=by
 unfold headTo;refine List.map_congr_left (fun i _=>?_);by_cases h:i<k
 ·rw[if_pos h,if_pos (by omega)]
 ·by_cases hik:i=k
  ·subst hik;rw[if_neg h,if_pos (by omega),h0]
  ·rw[if_neg h,if_neg (by omega)]
theorem meant_gap(a b:Option Addr)(n m c d:Nat)(w:World)(h:m<n)(hn:n≤100000000):Calls Tryz.prog 143 #[.slice a n c,.slice b m d] w fun e w'=>e=.returned (.tuple #[.slice none 0 0,.bool false])∧Kp0 w w':=by
 have d0:decide ((m:Int)-(n:Int)<0)=true:=by simp;omega
 go_enter Tryz.func143,Tryz.ntmps143
 go_wp2
 go_ret2
 exact⟨rfl,Kp0.refl _⟩
theorem meant_no(a b:Option Addr)(n m c d:Nat)(s t:List Int)(w:World)(hn:s.length=n)(hm:t.length=m)(hnm:n≤m)(hmb:m≤1000)(hno:¬fitsTo s t n)(h1:0<n→∃g o,a=some ⟨g,o,none⟩∧∀j,j<n→w.cell? ⟨g,o+j,none⟩=some (.int .i64 (nth s j)))(h2:0<m→∃g o,b=some ⟨g,o,none⟩∧∀j,j<m→w.cell? ⟨g,o+j,none⟩=some (.int .i64 (nth t j))):Calls Tryz.prog 143 #[.slice a n c,.slice b m d] w fun e w'=>e=.returned (.tuple #[.slice none 0 0,.bool false])∧Kp0 w w':=by
 have hpos:0<n:=by
  rcases Nat.eq_zero_or_pos n with e|e
  ·exact absurd (fun j hj=>by omega) hno
  ·exact e
 obtain⟨g,o,rfl,hc⟩:=h1 hpos;obtain⟨g2,o2,rfl,hc2⟩:=h2 (by omega);obtain⟨u,hu⟩:∃u,m=n+u:=⟨m-n,by omega⟩;have HC:=hid hc;have HC2:=hid hc2;have HNO:=hid hno;have HU:Hid (t.length-s.length=u):=hid (by omega);have d0:decide ((u:Int)<0)=false:=by simp
 have e0:(m:Int)-(n:Int)=(u:Int):=by omega
 have HM:=hid hu;clear h1 h2 hc hc2 hno hn hm hu;go_enter Tryz.func143,Tryz.ntmps143
 go_wp2
 go_loopw [7] (fun t' w'=>∃k:Nat,k≤n∧t'=.int .i64 k∧Kp0 w w'∧fitsTo s t k) (fun t _=>n-(intOf t).toNat)
 case atStart=>exact⟨0,Nat.zero_le _,rfl,Kp0.refl _,fun j hj=>by omega⟩
 case round=>
  obtain⟨k,hk,rfl,hK,hF⟩:=hrel;have HK:=hid hK;have HF:=hid hF;by_cases hlt:k<n
  ·have c1:=hK.cell (HC.out k hlt)
   have hmm:=HM.out;have c2:=hK.cell (HC2.out (u+k) (by omega));have i1:(0:Int)≤(k:Int):=by omega
   have i2:(k:Int)<(n:Int):=by omega
   have i3:(0:Int)≤(u:Int)+(k:Int):=by omega
   have i4:(u:Int)+(k:Int)<(m:Int):=by omega
   have i5:((u:Int)+(k:Int)).toNat=u+k:=by omega
   have i6:IntKind.i64.wrap ((u:Int)+(k:Int))=(u:Int)+(k:Int):=by simp[IntKind.wrap,IntKind.signed,IntKind.bits];omega
   clear hK hF hmm;by_cases he:nth s k=nth t (u+k)
   ·have HE:=hid he
    have d1:(nth s k !=nth t (u+k))=false:=by simp[he]
    clear he;go_wp2
    go_quiet (fail)
    go_wp2
    go_roundw
    case rel=>
     refine⟨k+1,by omega,by go_num,Kp.drewN HK.out _,fun j hj=>?_⟩;by_cases hjk:j=k
     ·subst hjk;left;rw[HU.out];exact HE.out
     ·exact HF.out j (by omega)
    case measure=>simp[intOf];omega
   ·have d1:(nth s k !=nth t (u+k))=true:=by simp[he]
    by_cases h1:nth s k=1
    ·have HE:=hid h1
     have d2:(nth s k !=1)=false:=by simp[h1]
     clear h1 he;go_wp2
     go_quiet (fail)
     go_wp2
     go_roundw
     case rel=>
      refine⟨k+1,by omega,by go_num,Kp.drewN HK.out _,fun j hj=>?_⟩;by_cases hjk:j=k
      ·subst hjk;right;exact HE.out
      ·exact HF.out j (by omega)
     case measure=>simp[intOf];omega
    ·have d2:(nth s k !=1)=true:=by simp[h1]
     clear h1 he;go_wp2
     go_quiet (fail)
     go_wp2
     go_ret2
     exact⟨rfl,Kp.drewN HK.out _⟩
  ·have:k=n:=by omega
   subst this;exact absurd hF HNO.out
theorem meant_length(s t:List Int):(meant s t).length=(vol t).toNat:=by simp[meant]
theorem meant_take(s t:List Int)(k:Nat)(h:k<(vol t).toNat):(meant s t).take (k+1)=(meant s t).take k++[rank s (meantOf s t (idx t k))]:=by
 rw[List.take_succ_eq_append_getElem (by rw[meant_length];exact h)];congr 1
 simp[meant]
theorem meantOf_small(s t l:List Int)(k:Nat)(h:k<s.length)(hk:¬1<nth s k):nth (meantOf s t l) k=0:=by rw[meantOf_nth s t l k h,if_neg hk]
theorem meantOf_big(s t l:List Int)(k:Nat)(h:k<s.length)(hk:1<nth s k):nth (meantOf s t l) k=nth l (t.length-s.length+k):=by rw[meantOf_nth s t l k h,if_pos hk]
theorem rd_of_blk{w:World}{b n:Nat}{xs:List Int}{t:TypeId}(h:w.heap[b]? =some (.cells (ints xs).toArray t (0,0)))(hn:xs.length=n):RdI w (.slice (some ⟨b,0,none⟩) n n) xs:=
 ⟨_,_,by rw[hn],fun _=>⟨b,0,rfl,fun j hj=>by
  rw[Nat.zero_add,cell_of_row _ b j _ _ _ h];simpa using ints_get hj⟩⟩
theorem meant_yes(a b:Option Addr)(n m c d N:Nat)(s t:List Int)(w:World)(hn:s.length=n)(hm:t.length=m)(hnm:n≤m)(hs:sized s)(ht:okShape t)(hfit:fitsTo s t n)(hN:(vol t).toNat=N)(h1:0<n→∃g o,a=some ⟨g,o,none⟩∧∀j,j<n→w.cell? ⟨g,o+j,none⟩=some (.int .i64 (nth s j)))(h2:0<m→∃g o,b=some ⟨g,o,none⟩∧∀j,j<m→w.cell? ⟨g,o+j,none⟩=some (.int .i64 (nth t j))):Calls Tryz.prog 143 #[.slice a n c,.slice b m d] w fun e w'=>∃ao cc,e=.returned (.tuple #[.slice ao N cc,.bool true])∧OwI w' (.slice ao N cc) (meant s t)∧Kp0 w w'∧(∀x,(Value.slice ao N cc).ownBlock=some x→w.heap.size≤x):=by
 obtain⟨u,hu⟩:∃u,m=n+u:=⟨m-n,by omega⟩;have hm4:m≤4:=by have:=ht.1;omega
 have HVOL:Hid (vol t=(N:Int)):=hid (by
  have:=vol_bd t ht.2.1 ht.1 t.length (Nat.le_refl _);rw[List.take_length]at this;omega)
 have hNb:N≤3600:=by have:=ht.2.2;omega
 have R1:RdI w (.slice a n c) s:=⟨a,c,by rw[hn],fun hne=>by
  obtain⟨g,o,e,hc⟩:=h1 (Nat.pos_of_ne_zero (fun e=>hne (List.length_eq_zero_iff.1 (hn.trans e))));exact⟨g,o,e,fun j hj=>hc j (by omega)⟩⟩
 have R2:RdI w (.slice b m d) t:=⟨b,d,by rw[hm],fun hne=>by
  obtain⟨g,o,e,hc⟩:=h2 (Nat.pos_of_ne_zero (fun e=>hne (List.length_eq_zero_iff.1 (hm.trans e))));exact⟨g,o,e,fun j hj=>hc j (by omega)⟩⟩
 have HR1:=hid R1;have HR2:=hid R2;have HC:=hid h1;have HC2:=hid h2;have HFIT:=hid hfit;have HSZ:=hid hs;have HT:=hid ht;have HMT:=hid (meant_take s t);have HML:Hid ((meant s t).length=N):=hid (by rw[meant_length,hN]);have HNN:=hid hN;have HSL:=hid hn;have HTL:=hid hm;have HU:Hid (t.length-s.length=u):=hid (by omega);have d0:decide ((u:Int)<0)=false:=by simp
 have e0:(m:Int)-(n:Int)=(u:Int):=by omega
 have HM:=hid hu;have hmk:=fun W=>run_mk (P:=Tryz.prog) 26 3 (.int .i64 0) 8 Tryz.underlying26 Tryz.infoInt rfl (by omega) n (by omega) W
 have HMK:=hid hmk;clear h1 h2 hfit hn hm hu hs ht hN R1 R2 hmk;go_enter Tryz.func143,Tryz.ntmps143
 go_wp2
 go_loopw [7] (fun t' w'=>∃k:Nat,k≤n∧t'=.int .i64 k∧Kp0 w w') (fun t _=>n-(intOf t).toNat)
 case atStart=>exact⟨0,Nat.zero_le _,rfl,Kp0.refl _⟩
 case round=>
  obtain⟨k,hk,rfl,hK⟩:=hrel;have HK:=hid hK;by_cases hlt:k<n
  ·obtain⟨g,o,rfl,hc⟩:=HC.out (by omega)
   obtain⟨g2,o2,rfl,hc2⟩:=HC2.out (by omega);have hmm:=HM.out;have c1:=hK.cell (hc k hlt);have c2:=hK.cell (hc2 (u+k) (by omega));have i1:(0:Int)≤(k:Int):=by omega
   have i2:(k:Int)<(n:Int):=by omega
   have i3:(0:Int)≤(u:Int)+(k:Int):=by omega
   have i4:(u:Int)+(k:Int)<(m:Int):=by omega
   have i5:((u:Int)+(k:Int)).toNat=u+k:=by omega
   have i6:IntKind.i64.wrap ((u:Int)+(k:Int))=(u:Int)+(k:Int):=by simp[IntKind.wrap,IntKind.signed,IntKind.bits];omega
   have hF:=HFIT.out k hlt;rw[HU.out]at hF;clear hK hmm hc hc2;by_cases he:nth s k=nth t (u+k)
   ·have d1:(nth s k !=nth t (u+k))=false:=by simp[he]
    clear he hF;go_wp2
    go_quiet (fail)
    go_wp2
    go_roundw
    case rel=>exact⟨k+1,by omega,by go_num,Kp.drewN HK.out _⟩
    case measure=>simp[intOf];omega
   ·have d1:(nth s k !=nth t (u+k))=true:=by simp[he]
    have h1:nth s k=1:=hF.resolve_left he;have d2:(nth s k !=1)=false:=by simp[h1]
    clear h1 he hF;go_wp2
    go_quiet (fail)
    go_wp2
    go_roundw
    case rel=>exact⟨k+1,by omega,by go_num,Kp.drewN HK.out _⟩
    case measure=>simp[intOf];omega
  ·have d1:decide ((k:Int)<(n:Int))=false:=by simp;omega
   clear hK;go_wp2
   go_loopw [8,9] (fun l r w'=>∃k:Nat,k≤N∧r=.int .i64 k∧∃ao cc,l=.slice ao k cc∧OwI w' (.slice ao k cc) ((meant s t).take k)∧Kp0 w w'∧(∀x,(Value.slice ao k cc).ownBlock=some x→w.heap.size≤x)) (fun _ r _=>N-(intOf r).toNat)
   case atStart=>exact⟨0,Nat.zero_le _,rfl,none,0,rfl,OwI.nil _,HK.out,fun x hx=>by simp[Value.ownBlock]at hx⟩
   case round=>
    obtain⟨q,hq,rfl,ao,cc,rfl,hO,hK,hB⟩:=hrel;have HO:=hid hO;have HK2:=hid hK;have HB:=hid hB;clear hO hK hB
    go_wp2_with fail
    refine(volume_calls _ _ _ (HR2.out.kp0 HK2.out) HT.out.2.1 HT.out.1).mono ?_;rintro e w' ⟨rfl,hw⟩;obtain rfl:=hw.symm;rw[HVOL.out];by_cases hqN:q<N
    ·go_wp2_with fail
     refine(index_calls _ _ _ _ (HR2.out.kp0 HK2.out) HT.out.2.1 HT.out.1 (by omega) (by omega)).mono ?_;rintro e w1 ⟨rfl,hk1,hg1⟩;rw[HTL.out];have HK1:=hid hk1;have HG1:=hid hg1;clear hk1 hg1;have hmk:=HMK.out;go_wp2
     clear hmk;have hgi:w.heap.size≤wr.heap.size:=HK2.out.size;have hs1:wr.heap.size<w1.heap.size:=lt_of_heap HG1.out;obtain⟨im,him⟩:∃im,im=meantOf s t (idx t q):=⟨_,rfl⟩;have HIM:=hid him;have HIL:Hid (im.length=n):=hid (by rw[him,meantOf_length];exact HSL.out);have HII:=hid (idx_in t q HT.out.2.1);have HRK:=hid (HMT.out q (by rw[HNN.out];exact hqN));rw[←him]at HRK;clear him;generalize idx t q=ix' at*;generalize wr.heap.size=ib at*
     go_loopw [12] (fun t' w'=>∃j:Nat,j≤n∧t'=.int .i64 j∧Kp0 w1 w'∧w'.heap[w1.heap.size]? =some (.cells (ints (headTo im j)).toArray 3 (0,0))) (fun t _=>n-(intOf t).toNat)
     case atStart=>exact⟨0,Nat.zero_le _,rfl,(Kp.refl _ _).alloc _,by rw[heap_alloc_new,headTo_zero _ n HIL.out]⟩
     case round=>
      obtain⟨j,hj,rfl,hK3,hG3⟩:=hrel;have HK3:=hid hK3;have HG3:=hid hG3;have kw:Kp0 w wr:=(HK2.out.trans HK1.out).trans hK3;have HKW:=hid kw;by_cases hjn:j<n
      ·obtain⟨g,o,rfl,hc⟩:=HC.out (by omega)
       have hmm:=HM.out;have c1:=kw.cell (hc j hjn);have c2:wr.cell? ⟨ib,u+j,none⟩=some (.int .i64 (nth ix' (u+j))):=by
        rw[cell_of_row _ _ _ _ _ _ (hK3.heap HG1.out)];have:=ints_get (xs:=ix') (j:=u+j) (by rw[←HII.out.1,HTL.out];omega);simpa using this
       have hcell:wr.cell? ⟨w1.heap.size,j,none⟩=some (.int .i64 0):=by
        rw[cell_of_row wr _ _ _ _ _ hG3];simp[ints,headTo,HIL.out,hjn]
       have hfz:wr.frozen? ⟨w1.heap.size,j,none⟩=false:=frozen_blk hG3;have i1:(0:Int)≤(j:Int):=by omega
       have i2:(j:Int)<(n:Int):=by omega
       have i3:(0:Int)≤(u:Int)+(j:Int):=by omega
       have i4:(u:Int)+(j:Int)<(m:Int):=by omega
       have i5:((u:Int)+(j:Int)).toNat=u+j:=by omega
       have i6:IntKind.i64.wrap ((u:Int)+(j:Int))=(u:Int)+(j:Int):=by simp[IntKind.wrap,IntKind.signed,IntKind.bits];omega
       clear hK3 hG3 kw hmm hc;by_cases hb1:1<nth s j
       ·have HV:Hid (nth im j=nth ix' (u+j)):=hid (by rw[HIM.out,meantOf_big s t ix' j (by rw[HSL.out];exact hjn) hb1,HU.out])
        have d3:decide (1<nth s j)=true:=by simp[hb1]
        generalize nth ix' (u+j)=x at*;go_wp2
        go_roundw
        case rel=>
         refine⟨j+1,by omega,by go_num,Kp.setCell HK3.out _ _ (fun h=>by simp at h),?_⟩;rw[heap_setCell_same _ _ _ _ _ _ HG3.out];have:=headTo_set im j (by rw[HIL.out];exact hjn);rw[HV.out]at this;rw[this]
        case measure=>simp[intOf];omega
       ·have HV:Hid (nth im j=0):=hid (by rw[HIM.out];exact meantOf_small s t ix' j (by rw[HSL.out];exact hjn) hb1)
        have d3:decide (1<nth s j)=false:=by simp;omega
        go_wp2
        go_roundw
        case rel=>
         refine⟨j+1,by omega,by go_num,HK3.out,?_⟩;rw[←headTo_same im j HV.out];exact HG3.out
        case measure=>simp[intOf];omega
      ·have hjn':j=n:=by omega
       have HRI:Hid (RdI wr (.slice (some ⟨w1.heap.size,0,none⟩) n n) im):=hid (by
        rw[hjn',headTo_all _ n HIL.out]at hG3;exact rd_of_blk hG3 HIL.out)
       have HOW:=hid (HO.out.kp (HK1.out.trans hK3) (fun _ _ e=>e));have HRS:=hid (HR1.out.kp0 kw);have d4:decide ((j:Int)<(n:Int))=false:=by simp;omega
       have HBN:Hid (q+[rank s im].length≤1000000000000):=hid (by simp;omega);clear hK3 hG3 kw hjn'
       go_wp2_with fail
       refine(rank_calls _ _ s im wr HRS.out HRI.out HSZ.out (by rw[HSL.out];omega)).mono ?_;rintro e w2 ⟨rfl,hk2⟩;have HK8:=hid (HKW.out.trans hk2);have HOX:=hid (HOW.out.kp hk2 (fun _ _ e=>e));clear hk2;generalize rank s im=x at*
       go_wp2_with (at_builtin;refine wpList_app (by rfl) _ _ (by rfl) ao q cc ((meant s t).take q) [x] _ (by rfl) (by rfl) (HOX.out.alloc _) (RdI.one _ _) HBN.out (w2.heap.size+1) (by simp) ?_)
       intro ao' cc' w7 hC7 hG7 hB7;have hK7:Kp0 w w7:=Kp.grown (Kp.alloc HK8.out _) hG7 (fun b hb h=>by have:=HB.out b hb;omega);have hB7':∀b,(Value.slice ao' (q+1) cc').ownBlock=some b→w.heap.size≤b:=by
        intro b hb;rcases hB7 b hb with h|h
        ·exact HB.out b h
        ·have:=HK8.out.size;omega
       have HC7:=hid hC7;have HK7:=hid hK7;have HB7:=hid hB7';clear hC7 hK7 hB7 hB7' hG7;go_wp2
       go_roundw
       case rel=>exact⟨q+1,by omega,by go_num,ao',cc',rfl,by rw[HRK.out];exact HC7.out,HK7.out,HB7.out⟩
       case measure=>simp[intOf];omega
    ·have d2:decide ((q:Int)<(N:Int))=false:=by simp;omega
     have HQ:Hid (q=N):=hid (by omega);go_wp2
     go_ret2
     have hO:=HO.out;rw[HQ.out,List.take_of_length_le (by rw[HML.out];omega)]at hO;refine⟨ao,cc,by rw[HQ.out];rfl,hO,HK2.out,?_⟩;have hB:=HB.out;rw[HQ.out]at hB;exact hB
theorem rd_parts{w:World}{v:Value}{xs:List Int}(h:RdI w v xs):∃a c,v=.slice a xs.length c∧(0<xs.length→∃g o,a=some ⟨g,o,none⟩∧∀j,j<xs.length→w.cell? ⟨g,o+j,none⟩=some (.int .i64 (nth xs j))):=by
 obtain⟨a,c,e,h⟩:=h;exact⟨a,c,e,fun hp=>h (fun e'=>by rw[e']at hp;simp at hp)⟩
theorem meant_calls(v1 v2:Value)(s t:List Int)(w:World)(h1:RdI w v1 s)(h2:RdI w v2 t)(hs:okShape s)(ht:okShape t):Calls Tryz.prog 143 #[v1,v2] w fun e w'=>Kp0 w w'∧((stretchB s t=false∧e=.returned (.tuple #[.slice none 0 0,.bool false]))∨(stretchB s t=true∧∃ao cc,e=.returned (.tuple #[.slice ao (vol t).toNat cc,.bool true])∧OwI w' (.slice ao (vol t).toNat cc) (meant s t))):=by
 obtain⟨a,c,rfl,g1⟩:=rd_parts h1;obtain⟨b,d,rfl,g2⟩:=rd_parts h2;have hs4:=hs.1;have ht4:=ht.1;by_cases hg:t.length<s.length
 ·refine(meant_gap a b s.length t.length c d w hg (by omega)).mono ?_
  rintro e w' ⟨rfl,hk⟩;refine⟨hk,.inl ⟨?_,rfl⟩⟩;have:¬stretchB s t=true:=fun e=>by have:=((stretchB_iff s t).1 e).1;omega
  simpa using this
 ·by_cases hf:fitsTo s t s.length
  ·refine(meant_yes a b s.length t.length c d _ s t w rfl rfl (by omega) hs.2.1 ht hf rfl g1 g2).mono ?_
   rintro e w' ⟨ao,cc,rfl,ho,hk,-⟩;exact⟨hk,.inr ⟨(stretchB_iff s t).2 ⟨by omega,hf⟩,ao,cc,rfl,ho⟩⟩
  ·refine(meant_no a b s.length t.length c d s t w rfl rfl (by omega) (by omega) hf g1 g2).mono ?_
   rintro e w' ⟨rfl,hk⟩;refine⟨hk,.inl ⟨?_,rfl⟩⟩;have:¬stretchB s t=true:=fun e=>hf ((stretchB_iff s t).1 e).2
   simpa using this
theorem meantOf_in(s t l:List Int)(hs:sized s)(hst:s.length≤t.length)(hf:fitsTo s t s.length)(hl:inB t l):inB s (meantOf s t l):=by
 refine⟨(meantOf_length s t l).symm,fun j hj=>?_⟩;obtain⟨s1,-⟩:=hs j hj;by_cases hb:1<nth s j
 ·rw[meantOf_big s t l j hj hb]
  have:=hl.2 (t.length-s.length+j) (by omega);rcases hf j hj with e|e
  ·rw[e];exact this
  ·omega
 ·rw[meantOf_small s t l j hj hb]
  omega
theorem meant_bd(s t:List Int)(hs:okShape s)(ht:okShape t)(h:stretchB s t=true)(j:Nat)(hj:j<(vol t).toNat):0≤nth (meant s t) j∧nth (meant s t) j<vol s:=by
 obtain⟨hst,hf⟩:=(stretchB_iff s t).1 h;rw[nth_lt (by rw[meant_length];exact hj)];simp only[meant,List.getElem_map,List.getElem_range];have hin:=meantOf_in s t (idx t j) hs.2.1 hst hf (idx_in t j ht.2.1);unfold rank;rw[if_pos ((inBb_iff _ _).2 hin)];have:=rank_bd s (meantOf s t (idx t j)) hs.2.1 hin.2 s.length (Nat.le_refl _)
 rwa [List.take_length]at this
def Arr.shares(x y:Arr):Bool:=(List.range x.cells.length).any fun i=>(List.range y.cells.length).any fun j=>decide (x.kind=y.kind)&&decide (nth x.cells i=nth y.cells j)
theorem shares_iff(x y:Arr):x.shares y=true↔∃i j,i<x.cells.length∧j<y.cells.length∧x.kind=y.kind∧nth x.cells i=nth y.cells j:=by
 simp only[Arr.shares,List.any_eq_true,List.mem_range,Bool.and_eq_true,decide_eq_true_eq];exact⟨fun⟨i,hi,j,hj,h⟩=>⟨i,j,hi,hj,h⟩,fun⟨i,j,hi,hj,h⟩=>⟨i,hi,j,hj,h⟩⟩
def Sp.shared(σ:Sp)(a b:Int):Bool×Int:=match σ.find a,σ.find b with
 |some x,some y=>(x.shares y,0)
 |_,_=>(false,2)
theorem yshared_walk{w:World}(p qx qy gx gy nx ny capx capy:Nat)(kx ky:Int)(cx cy:List Int)(a b:Int)(hf1:∀W,Kp0 w W→Calls Tryz.prog 122 #[.pointer (some ⟨p,0,none⟩),.int .i64 a] W fun e w'=>e=.returned (.pointer (some ⟨qx,0,none⟩))∧w'=W)(hf2:∀W,Kp0 w W→Calls Tryz.prog 122 #[.pointer (some ⟨p,0,none⟩),.int .i64 b] W fun e w'=>e=.returned (.pointer (some ⟨qy,0,none⟩))∧w'=W)(x0:w.cell? ⟨qx,0,none⟩=some (.int .i64 kx))(x2:w.cell? ⟨qx,2,none⟩=some (.slice (some ⟨gx,0,none⟩) nx capx))(y0:w.cell? ⟨qy,0,none⟩=some (.int .i64 ky))(y2:w.cell? ⟨qy,2,none⟩=some (.slice (some ⟨gy,0,none⟩) ny capy))(hcx:∀j,j<nx→w.cell? ⟨gx,j,none⟩=some (.int .i64 (nth cx j)))(hcy:∀j,j<ny→w.cell? ⟨gy,j,none⟩=some (.int .i64 (nth cy j)))(hnx:nx≤3600)(hny:ny≤3600):Calls Tryz.prog 80 #[.pointer (some ⟨p,0,none⟩),.int .i64 a,.int .i64 b] w fun e w'=>Kp0 w w'∧∃r:Bool,e=.returned (.tuple #[.bool r,.int .i64 0])∧(r=true↔∃i j,i<nx∧j<ny∧kx=ky∧nth cx i=nth cy j):=by
 have H1:=hid hf1;have H2:=hid hf2;have HX:=hid hcx;have HY:=hid hcy;clear hf1 hf2 hcx hcy;go_enter Tryz.func80,Tryz.ntmps80
 go_wp2_with fail
 refine(H1.out _ (Kp0.refl _)).mono ?_;rintro e w' ⟨rfl,hw⟩;obtain rfl:=hw.symm
 go_wp2_with fail
 refine(H2.out _ (Kp0.refl _)).mono ?_;rintro e w' ⟨rfl,hw⟩;obtain rfl:=hw.symm;go_wp2
 go_loopw [10] (fun t w'=>∃k:Nat,k≤nx∧t=.int .i64 k∧Kp0 w w'∧∀i,i<k→∀j,j<ny→¬(kx=ky∧nth cx i=nth cy j)) (fun t _=>nx-(intOf t).toNat)
 case atStart=>exact⟨0,Nat.zero_le _,rfl,by first|exact Kp0.refl _|exact Kp0.drew (Kp0.refl _),fun i hi=>by omega⟩
 case round=>
  obtain⟨k,hk,rfl,hK,hN⟩:=hrel;have u2:=hK.cell x2;have HK:=hid hK;have HN:=hid hN;by_cases hlt:k<nx
  ·clear hK hN
   go_wp2
   go_loopw [11] (fun t w'=>∃l:Nat,l≤ny∧t=.int .i64 l∧Kp0 w w'∧∀j,j<l→¬(kx=ky∧nth cx k=nth cy j)) (fun t _=>ny-(intOf t).toNat)
   case atStart=>exact⟨0,Nat.zero_le _,rfl,HK.out,fun i hi=>by omega⟩
   case round=>
    obtain⟨l,hl,rfl,hK2,hN2⟩:=hrel;have v0:=hK2.cell x0;have v2:=hK2.cell x2;have t0:=hK2.cell y0;have t2:=hK2.cell y2;have HK2:=hid hK2;have HN2:=hid hN2;by_cases hlt2:l<ny
    ·have d1:decide ((l:Int)<(ny:Int))=true:=by simp;omega
     by_cases hkk:kx=ky
     ·have d2:(kx==ky)=true:=by simp[hkk]
      have HKK:=hid hkk;have c1:=hK2.cell (HX.out k hlt);have c2:=hK2.cell (HY.out l hlt2);have i1:(0:Int)≤(k:Int):=by omega
      have i2:(k:Int)<(nx:Int):=by omega
      have i3:(0:Int)≤(l:Int):=by omega
      have i4:(l:Int)<(ny:Int):=by omega
      clear hK2 hN2 hkk;by_cases he:nth cx k=nth cy l
      ·have HE:=hid he
       have d3:(nth cx k==nth cy l)=true:=by simp[he]
       clear he;go_wp2
       go_quiet (fail)
       go_wp2
       go_quiet (fail)
       go_wp2
       go_ret2
       refine⟨?_,true,rfl,?_⟩
       ·exact Kp.drewN (Kp.drewN HK2.out _) _
       ·simp only[true_iff]
        exact⟨k,l,hlt,hlt2,HKK.out,HE.out⟩
      ·have HE:=hid he
       have d3:(nth cx k==nth cy l)=false:=by simp[he]
       clear he;go_wp2
       go_quiet (fail)
       go_wp2
       go_quiet (fail)
       go_wp2
       go_roundw
       case rel=>
        refine⟨l+1,by omega,by go_num,Kp.drewN HK2.out _,fun j hj h=>?_⟩;by_cases hjl:j=l
        ·subst hjl;exact HE.out h.2
        ·exact HN2.out j (by omega) h
       case measure=>simp[intOf];omega
     ·have d2:(kx==ky)=false:=by simp[hkk]
      have HKK:=hid hkk;clear hK2 hN2 hkk;go_wp2
      go_quiet (fail)
      go_wp2
      go_roundw
      case rel=>refine⟨k+1,by omega,by go_num,Kp.drewN HK2.out _,fun i hi j hj h=>HKK.out h.1⟩
      case measure=>simp[intOf];omega
    ·have d1:decide ((l:Int)<(ny:Int))=false:=by simp;omega
     clear hK2 hN2;go_wp2
     go_quiet (fail)
     go_wp2
     go_roundw
     case rel=>
      refine⟨k+1,by omega,by go_num,Kp.drewN HK2.out _,fun i hi j hj h=>?_⟩;by_cases hik:i=k
      ·subst hik;exact HN2.out j (by omega) h
      ·exact HN.out i (by omega) j hj h
     case measure=>simp[intOf];omega
  ·have d1:decide ((k:Int)<(nx:Int))=false:=by simp;omega
   clear hK hN;go_wp2
   go_ret2
   refine⟨HK.out,false,rfl,?_⟩;simp only[Bool.false_eq_true,false_iff];rintro⟨i,j,hi,hj,h⟩;exact HN.out i (by omega) j hj h
theorem yshared_none{w:World}(p:Nat)(a b:Int)(ox oy:Option Nat)(hn:ox=none∨oy=none)(hf1:∀W,Kp0 w W→Calls Tryz.prog 122 #[.pointer (some ⟨p,0,none⟩),.int .i64 a] W fun e w'=>e=.returned (ptr ox)∧w'=W)(hf2:∀W,Kp0 w W→Calls Tryz.prog 122 #[.pointer (some ⟨p,0,none⟩),.int .i64 b] W fun e w'=>e=.returned (ptr oy)∧w'=W):Calls Tryz.prog 80 #[.pointer (some ⟨p,0,none⟩),.int .i64 a,.int .i64 b] w fun e w'=>Kp0 w w'∧e=.returned (.tuple #[.bool false,.int .i64 2]):=by
 have H1:=hid hf1;have H2:=hid hf2;clear hf1 hf2;cases ox with
 |none=>
  simp only[ptr]at H1;clear hn;go_enter Tryz.func80,Tryz.ntmps80
  go_wp2_with fail
  refine(H1.out _ (Kp0.refl _)).mono ?_;rintro e w' ⟨rfl,hw⟩;obtain rfl:=hw.symm
  go_wp2_with fail
  refine(H2.out _ (Kp0.refl _)).mono ?_;rintro e w' ⟨rfl,hw⟩;obtain rfl:=hw.symm;go_wp2
  go_ret2
  exact⟨by first|exact Kp0.refl _|exact Kp0.drew (Kp0.refl _),rfl⟩
 |some qx=>
  obtain rfl:oy=none:=by simpa using hn
  simp only[ptr]at H1 H2;clear hn;go_enter Tryz.func80,Tryz.ntmps80
  go_wp2_with fail
  refine(H1.out _ (Kp0.refl _)).mono ?_;rintro e w' ⟨rfl,hw⟩;obtain rfl:=hw.symm
  go_wp2_with fail
  refine(H2.out _ (Kp0.refl _)).mono ?_;rintro e w' ⟨rfl,hw⟩;obtain rfl:=hw.symm;go_wp2
  go_ret2
  exact⟨by first|exact Kp0.refl _|exact Kp0.drew (Kp0.refl _),rfl⟩
theorem yshared_calls{T:Tags}{o:Nat}{w:World}{p:Nat}{σ:Sp}(hy:YRep T o w p σ)(a b:Int):Calls Tryz.prog 80 #[.pointer (some ⟨p,0,none⟩),.int .i64 a,.int .i64 b] w fun e w'=>e=.returned (.tuple #[.bool (σ.shared a b).1,.int .i64 (σ.shared a b).2])∧Kp0 w w':=by
 obtain⟨hok,L,hy⟩:=hy;have F:∀h W,Kp0 w W→Calls Tryz.prog 122 #[.pointer (some ⟨p,0,none⟩),.int .i64 h] W fun e w'=>e=.returned (ptr (L.at h))∧w'=W:=fun h W k=>yfind_calls (hy.kp0 k) hok h
 rcases hy.find a with⟨hf,hl⟩|⟨x,qx,vs,vc,hf,hl,hya,hat,h1⟩
 ·refine(yshared_none p a b (L.at a) (L.at b) (.inl hl) (F a) (F b)).mono ?_
  rintro e w' ⟨hk,rfl⟩;refine⟨?_,hk⟩;unfold Sp.shared;rw[hf]
 ·rcases hy.find b with⟨hf2,hl2⟩|⟨y,qy,vs2,vc2,hf2,hl2,hya2,hat2,h2⟩
  ·refine(yshared_none p a b (L.at a) (L.at b) (.inr hl2) (F a) (F b)).mono ?_
   rintro e w' ⟨hk,rfl⟩;refine⟨?_,hk⟩;unfold Sp.shared;rw[hf,hf2]
  ·have hx:=find_ok hok hat
   have hy':=find_ok hok hat2;have big:∀z:Arr,z.ok σ→0<z.cells.length∧z.cells.length≤3600:=fun z hz=>by
    have hsh:=hz.shape;have hv:=vol_bd z.shape hsh.2.1 hsh.1 z.shape.length (Nat.le_refl _);rw[List.take_length]at hv;have:=hz.length;have:=hsh.2.2;omega
   obtain⟨x0,-,x2,-,-⟩:=hya.parts;obtain⟨y0,-,y2,-,-⟩:=hya2.parts;obtain⟨gx,capx,rfl,-,-,hcx⟩:=hya.cells.slice (big x hx).1;obtain⟨gy,capy,rfl,-,-,hcy⟩:=hya2.cells.slice (big y hy').1;have F1:=F a;have F2:=F b;rw[hl]at F1;rw[hl2]at F2;refine(yshared_walk p qx qy gx gy _ _ capx capy x.kind y.kind x.cells y.cells a b F1 F2 x0 x2 y0 y2 hcx hcy (big x hx).2 (big y hy').2).mono ?_;rintro e w' ⟨hk,r,rfl,hr⟩;refine⟨?_,hk⟩;unfold Sp.shared;rw[hf,hf2];have:x.shares y=r:=by rw[Bool.eq_iff_iff,shares_iff,hr]
   simp only[this]
def fillI(xs:List Int)(k n:Nat):List Int:=xs.take k++List.replicate (n-k) 0
theorem fillI_length(xs:List Int)(k n:Nat)(h:xs.length=n)(hk:k≤n):(fillI xs k n).length=n:=by simp[fillI];omega
theorem fillI_zero(xs:List Int)(n:Nat):fillI xs 0 n=List.replicate n 0:=by simp[fillI]
theorem fillI_end(xs:List Int)(n:Nat)(h:xs.length=n):fillI xs n n=xs:=by simp[fillI,←h]
theorem rep_ints(n:Nat):rep n (.int .i64 0)=(ints (List.replicate n 0)).toArray:=by simp[rep,ints]
theorem fillI_set(xs:List Int)(k n:Nat)(h:xs.length=n)(hk:k<n):(ints (fillI xs k n)).set k (.int .i64 (nth xs k))=ints (fillI xs (k+1) n):=by
 have e:n-k=(n-(k+1))+1:=by omega
 have hl:(xs.take k).length=k:=by simp;omega
 unfold fillI;rw[take_snoc xs k (by omega),e,List.replicate_succ];simp only[ints,List.map_append,List.map_cons,List.map_nil];rw[List.set_append_right _ _ (by simp;omega)];simp[show min k xs.length=k by omega]
theorem fillI_step(w:World)(b:Nat)(xs:List Int)(k n:Nat)(h:xs.length=n)(hk:k<n)(hb:w.heap[b]? =some (.cells (ints (fillI xs k n)).toArray 3 (0,0))):(w.setCell ⟨b,k,none⟩ (.int .i64 (nth xs k))).heap[b]? =some (.cells (ints (fillI xs (k+1) n)).toArray 3 (0,0)):=by
 rw[heap_setCell_same w b k _ _ _ hb,←fillI_set xs k n h hk];simp
theorem fillI_cell(w:World)(b:Nat)(xs:List Int)(k n:Nat)(h:xs.length=n)(hk:k<n)(hb:w.heap[b]? =some (.cells (ints (fillI xs k n)).toArray 3 (0,0))):∃v,w.cell? ⟨b,k,none⟩=some v:=by
 rw[cell_of_row w b k _ _ _ hb];have:k<(ints (fillI xs k n)).length:=by rw[ints_length,fillI_length xs k n h (by omega)];exact hk
 exact⟨_,by rw[List.getElem?_toArray,List.getElem?_eq_getElem this]⟩
theorem OwI.made{w:World}{b:Nat}{xs:List Int}{n:Nat}(h:xs.length=n)(hn:n≤1000000000000)(hb:w.heap[b]? =some (.cells (ints xs).toArray 3 (0,0))):OwI w (.slice (some ⟨b,0,none⟩) n n) xs:=by
 refine⟨by rw[ints_length,Nat.mul_one],.inr ⟨b,n,_,by rw[h],Nat.zero_le _,hb,Nat.le_of_eq h,by unfold maxLen;omega,by simp[ints_length,h],?_⟩⟩;rw[Nat.mul_one,←ints_length];simp
theorem NewI.made{w w':World}{b:Nat}{xs:List Int}{n:Nat}(h:xs.length=n)(hn:n≤1000000000000)(hb:w'.heap[b]? =some (.cells (ints xs).toArray 3 (0,0)))(hk:Kp0 w w')(hnew:w.heap.size≤b):NewI w w' (.slice (some ⟨b,0,none⟩) n n) xs:=by
 refine⟨some ⟨b,0,none⟩,n,by rw[h],?_,hk,fun b' e=>?_⟩
 ·have:=OwI.made h hn hb
  rw[←h]at this⊢;exact this
 ·simp[Value.ownBlock]at e
  omega
end Go.Proofs.YticbbncdcannlaaGreat
