import Derived.Test.YticbbncdcannlaaGreatG33
import Derived.Test.YticbbncdcannlaaGreatG05
set_option maxRecDepth 100000
set_option maxHeartbeats 8000000
namespace Go.Proofs.YticbbncdcannlaaGreat
open Go.RowKit
theorem views_stretch{R:Tags→Nat→World→Nat→Sp→Prop}(X:XC R)(hF:StretchC R){T:Tags}{w:World}{p:Nat}{S:WS}{L:List SD}(hI:Inv R T w p S L){i:Nat}{d:SD}(hd:L[i]? =some d)(hσ:d.σx=d.σy)(oH oA oB oC oD:Int)(vL:Value)(wh:Bool)(xs:List Int)(a:Option Addr)(n c:Nat)(hL:OpL T w vL a n c xs)(hnt:S.turned.length+1≤1000000000)(hm:d.σy.arrs.length+1≤100000000)(_hb:d.σy.bufs.length+1≤100000000):Calls Tryz.prog 76 #[.pointer (some ⟨p,0,none⟩),.pointer (some ⟨d.sb,0,none⟩),.agg #[.int .i64 11,.int .i64 oH,.int .i64 oA,.int .i64 oB,.int .i64 oC,.int .i64 oD,vL,.bool wh]] w fun e w'=>e=.returned (.bool true)∧Went R T w p S (L.set i {d with σx:=(d.σy.stretch oH xs).1,σy:=(d.σy.stretch oH xs).1}) 0 1 w':=by
 have hsd:=hI.side i d hd;have z0:w.cell? ⟨d.sb,0,none⟩=some (.pointer (some ⟨d.px,0,none⟩)):=by simp[World.cell?,hsd.blk]
 have z1:w.cell? ⟨d.sb,1,none⟩=some (.pointer (some ⟨d.py,0,none⟩)):=by simp[World.cell?,hsd.blk]
 have hsb:d.sb<w.heap.size:=lt_of_heap hsd.blk;obtain⟨rfl,hlen,hrd,htag,hbig⟩:=hL;have HRD:=hid hrd;have HTAG:=hid htag;have HLEN:=hid hlen;have HI:=hid hI;have HD:=hid hd;have HX:=hid X;have HS:=hid hσ;have HSD:=hid hsd;have HF:Hid (StretchC R):=hid hF;clear hF hI hd hσ hsd X hrd htag hlen;obtain⟨T1,hT1⟩:∃T1,retag w T (5,9)=T1:=⟨_,rfl⟩;have HT1:Hid (TagsTo w T T1):=hid (by rw[←hT1];exact retag_to w T _);have HNEW:Hid (∀b,w.heap.size≤b→T1 b=(5,9)):=hid (fun b hb=>by rw[←hT1];exact retag_new hb);clear hT1;have HLENT:Hid (∀y,Calls Tryz.prog 104 #[.slice a n c] (w.alloc y) fun e w'=>e=.returned (.slice (some ⟨w.heap.size+1,0,none⟩) (n+1) (n+1))∧w'=(w.alloc y).alloc (.cells (ints (xs++[0])).toArray 3)):=hid (fun y=>
  (lent_calls _ xs (w.alloc y) (HRD.out.kp0 (Kp.alloc (Kp.refl _ _) _)) (by have:=HLEN.out;omega)).mono (by
   rintro e w' ⟨rfl,rfl⟩;rw[HLEN.out];exact⟨by simp,rfl⟩))
 go_enter Tryz.func76,Tryz.ntmps76
 go_wp2_with fail
 refine(HLENT.out _).mono ?_;rintro e w2 ⟨rfl,hw2⟩;have HK2:Hid (Kp0 w w2):=hid (by rw[hw2];exact Kp.alloc (Kp.alloc (Kp.refl _ _) _) _);have hg2:w2.heap[w.heap.size+1]? =some (.cells (ints (xs++[0])).toArray 3 (0,0)):=by
  rw[hw2];have:=heap_alloc_new (w.alloc (.cells #[.int .i64 11,.int .i64 oH,.int .i64 oA,.int .i64 oB,.int .i64 oC,.int .i64 oD,.slice a n c,.bool wh] 87)) (.cells (ints (xs++[0])).toArray 3);simpa using this
 have hbox:w2.heap[w.heap.size]? =some (.cells #[.int .i64 11,.int .i64 oH,.int .i64 oA,.int .i64 oB,.int .i64 oC,.int .i64 oD,.slice a n c,.bool wh] 87 (0,0)):=by
  rw[hw2,Below.heap_alloc _ _ _ (by simp)];exact heap_alloc_new _ _
 have HG2:=hid hg2;have HBOX:=hid hbox;have hs2:w.heap.size+1<w2.heap.size:=lt_of_heap hg2;have b0:w2.cell? ⟨w.heap.size,0,none⟩=some (.int .i64 11):=by simp[World.cell?,hbox]
 have b1:w2.cell? ⟨w.heap.size,1,none⟩=some (.int .i64 oH):=by simp[World.cell?,hbox]
 have b6:w2.cell? ⟨w.heap.size,6,none⟩=some (.slice a n c):=by simp[World.cell?,hbox]
 have y0:=HK2.out.cell z0;have y1:=HK2.out.cell z1;have HI2:=hid (HI.out.kp0 HX.out HT1.out HK2.out);clear hw2 hg2 hbox z0 z1 HLENT
 go_wp2_with fail
 refine(hand_calls (w.heap.size+1) n c a xs w2 HLEN.out (HRD.out.kp0 HK2.out) (by omega) HG2.out).mono ?_;rintro e w2' ⟨⟨ai,ci,rfl,hin,hib⟩,hw⟩;obtain rfl:=hw.symm;have HIN:=hid hin;have HIB:Hid (∀b,(Value.slice ai n ci).ownBlock=some b→(T1 b).1≠10+2*i):=hid (fun b hb=>by
  have:=hib b hb;rw[this,HNEW.out _ (by omega)];simp;omega)
 clear hin hib;have nn:Hid (∀b,w.heap.size≤b→¬(T1 b).1=10+2*i):=hid (fun b hb=>by rw[HNEW.out b hb];simp;omega);have ct:Hid (xs≠[]→∀b,(Value.slice a n c).ownBlock=some b→b<w.heap.size∧(T1 b).1=0):=hid (fun hx b hb=>by
  have:=HTAG.out hx b hb;exact⟨this.1,by rw[HT1.out b this.1];exact this.2⟩)
 have HXC:Hid (∀W,Kp0 w2 W→Calls Tryz.prog 83 #[.pointer (some ⟨d.px,0,none⟩),.int .i64 oH,.slice ai n ci] W fun e w3=>e=.returned (.tuple #[.int .i64 (d.σx.stretch oH xs).2.1,.int .i64 (d.σx.stretch oH xs).2.2])∧∃T3,TagsTo w2 T1 T3∧Inv R T3 w3 p S (L.set i {d with σx:=(d.σx.stretch oH xs).1})∧Kp (fun b=>(T1 b).1=10+2*i) w2 w3):=hid (fun W kW=>by
  have hIW:=HI2.out.kp0 HX.out (fun _ _=>rfl) kW;refine(HF.out _ _ _ _ _ oH _ xs (hIW.side i d HD.out).x (HIN.out.kp0 kW) HIB.out (by rw[HS.out];exact hm)).mono ?_;rintro e w3 ⟨rfl,T3,ht3,hr3,hk3⟩;exact⟨rfl,T3,fun b hb=>ht3 b (Nat.lt_of_lt_of_le hb kW.size),hIW.stepX HX.out HD.out ht3 hr3 hk3,(Kp.of0 kW).trans hk3 (fun _ _ e=>e)⟩)
 have HD3:Hid ((L.set i {d with σx:=(d.σx.stretch oH xs).1})[i]? =some {d with σx:=(d.σx.stretch oH xs).1}):=hid (by
  rw[List.getElem?_set];have:i<L.length:=by
   have h:=HD.out;rcases Nat.lt_or_ge i L.length with h'|h'
   ·exact h'
   ·rw[List.getElem?_eq_none h']at h;cases h
  simp[this])
 go_wp2
 go_region_held3 (fun w'=>w'.cell? ⟨d.sb,0,none⟩=some (.pointer (some ⟨d.px,0,none⟩))∧w'.cell? ⟨w.heap.size,1,none⟩=some (.int .i64 oH)) (first|go_keep|(go_split_ands;exact⟨hk3.cell y0 (by rw[HT1.out _ hsb,HSD.out.tag];simp;omega),hk3.cell b1 (nn.out _ (Nat.le_refl _))⟩))
  ((go_at_call 83;refine(HXC.out _ ?_).mono ?_;(first|exact Kp0.refl _|exact Kp0.drew (Kp0.refl _));rintro e w3 ⟨rfl,T3,ht3,hI3,hk3⟩))
 have d0:=hk3.cell b0 (nn.out _ (Nat.le_refl _));have d1:=hk3.cell b1 (nn.out _ (Nat.le_refl _));have d6:=hk3.cell b6 (nn.out _ (Nat.le_refl _));have x1:=hk3.cell y1 (by rw[HT1.out _ hsb,HSD.out.tag];simp;omega);have HG3:=hid (hk3.heap HG2.out (nn.out _ (by omega)));have hs3:w2.heap.size≤w3.heap.size:=hk3.size;have HRD3:=hid ((HRD.out.kp0 HK2.out).kpne hk3 (fun hx b hb e=>by have:=(ct.out hx b hb).2;omega));have HI3:=hid hI3;have HT3:=hid ht3;have HK3:=hid hk3;clear ht3 hI3 hk3 b0 b1 b6 y0 y1 HXC;have HYC:Hid (∀W,Kp0 w3 W→Calls Tryz.prog 114 #[.pointer (some ⟨d.py,0,none⟩),.int .i64 oH,.slice a n c] W fun e w4=>e=.returned (.tuple #[.int .i64 (d.σy.stretch oH xs).2.1,.int .i64 (d.σy.stretch oH xs).2.2])∧∃T4,TagsTo w3 T3 T4∧Inv R T4 w4 p S ((L.set i {d with σx:=(d.σx.stretch oH xs).1}).set i {{d with σx:=(d.σx.stretch oH xs).1}with σy:=(d.σy.stretch oH xs).1})∧Kp (fun b=>(T3 b).1=11+2*i) w3 w4):=hid (fun W kW=>by
  have hIW:=HI3.out.kp0 HX.out (fun _ _=>rfl) kW;refine(ystretch_calls (hIW.side i _ HD3.out).y oH _ xs (HRD3.out.kp0 kW) hm).mono ?_;rintro e w4 ⟨rfl,hst4⟩;obtain⟨T4,ht4,hr4,hk4⟩:=hst4.step;exact⟨rfl,T4,fun b hb=>ht4 b (Nat.lt_of_lt_of_le hb kW.size),hIW.stepY HX.out HD3.out ht4 hr4 hk4,(Kp.of0 kW).trans hk4 (fun _ _ e=>e)⟩)
 have nn4:Hid (∀b,w.heap.size≤b→b<w2.heap.size→¬(T3 b).1=11+2*i):=hid (fun b hb hb2=>by rw[HT3.out b hb2,HNEW.out b hb];simp;omega);go_wp2
 go_region_held3 (fun w'=>w'.cell? ⟨d.sb,1,none⟩=some (.pointer (some ⟨d.py,0,none⟩))∧w'.cell? ⟨w.heap.size,1,none⟩=some (.int .i64 oH)∧w'.cell? ⟨w.heap.size,6,none⟩=some (.slice a n c)) (first|go_keep|(go_split_ands;exact⟨hk4.cell x1 (by rw[HT3.out _ (by simp;omega),HT1.out _ hsb,HSD.out.tag];simp;omega),hk4.cell d1 (nn4.out _ (Nat.le_refl _) (by simp;omega)),hk4.cell d6 (nn4.out _ (Nat.le_refl _) (by simp;omega))⟩))
  ((go_at_call 114;refine(HYC.out _ ?_).mono ?_;(first|exact Kp0.refl _|exact Kp0.drew (Kp0.refl _));rintro e w4 ⟨rfl,T4,ht4,hI4,hk4⟩))
 have d0':=hk4.cell d0 (nn4.out _ (Nat.le_refl _) (by simp;omega));have d6':=hk4.cell d6 (nn4.out _ (Nat.le_refl _) (by simp;omega));have HG4:=hid (hk4.heap HG3.out (nn4.out _ (by omega) hs2));have hs4:w3.heap.size≤w4.heap.size:=hk4.size;have HRD4:=hid (HRD3.out.kpne hk4 (fun hx b hb e=>by
  have:=ct.out hx b hb;rw[HT3.out b (by omega)]at e;omega))
 have HI4:=hid hI4;have HT4:=hid ht4;have HK4:=hid hk4;have HCT:=hid ct.out;clear ht4 hI4 hk4 d0 d1 d6 HYC;have HT41:Hid (∀b,b<w2.heap.size→T4 b=T1 b):=hid (fun b hb=>by rw[HT4.out b (by omega),HT3.out b hb])
 go_wp2_with fail
 refine(returned_calls HI4.out.wat (w.heap.size+1) n _ xs HLEN.out (by omega) HRD4.out HG4.out (by rw[HT41.out _ hs2];exact HNEW.out _ (by omega)) (fun hx b hb=>by
   have:=HCT.out hx b hb;rw[HT41.out b (by omega)];omega) hnt (fun j v hv e=>by have:=HI.out.wat.lt hv e;omega) (fun j v hv e=>by have:=HI.out.wat.ltt hv e;omega)).mono ?_
 rintro e w5 ⟨rfl,T5,vt,ht5,hw5,hk5⟩;have HI5:=hid (HI4.out.stepW HX.out ht5 hw5 rfl hk5);have HT5:=hid ht5;have HK5:=hid hk5;clear ht5 hw5 hk5;have q1:((d.σx.stretch oH xs).2.1==(d.σy.stretch oH xs).2.1)=true:=by rw[HS.out];simp
 have q2:((d.σx.stretch oH xs).2.2==(d.σy.stretch oH xs).2.2)=true:=by rw[HS.out];simp
 go_wp2
 go_ret;have hLL:(L.set i {d with σx:=(d.σx.stretch oH xs).1}).set i {{d with σx:=(d.σx.stretch oH xs).1}with σy:=(d.σy.stretch oH xs).1}=L.set i {d with σx:=(d.σy.stretch oH xs).1,σy:=(d.σy.stretch oH xs).1}:=by first|rw[List.set_set,HS.out]|(rw[List.set_set];show L.set i ⟨d.sb,d.px,d.py,d.σx,d.σy⟩=_;rw[HS.out])
 have hI5:=HI5.out;rw[hLL]at hI5;have s2:=HK2.out.size;refine⟨ret_bool (by simp),T5,_,fun b hb=>by rw[HT5.out b (by omega),HT41.out b (by omega),HT1.out b hb],hI5,Nat.le_refl _,by simp[WS.turn],by simp[WS.turn],?_⟩;have k3:Kp (fun b=>5≤(T b).1) w w3:=(Kp.of0 HK2.out).trans HK3.out (fun b hb e=>by rw[HT1.out b hb]at e;omega);have k4:Kp (fun b=>5≤(T b).1) w w4:=k3.trans HK4.out (fun b hb e=>by rw[HT3.out b (by omega),HT1.out b hb]at e;omega);exact k4.trans HK5.out (fun b hb e=>by rw[HT41.out b (by omega),HT1.out b hb]at e;omega)
theorem views_reshape{R:Tags→Nat→World→Nat→Sp→Prop}(X:XC R)(hF:ReshapeC R){T:Tags}{w:World}{p:Nat}{S:WS}{L:List SD}(hI:Inv R T w p S L){i:Nat}{d:SD}(hd:L[i]? =some d)(hσ:d.σx=d.σy)(oH oA oB oC oD:Int)(vL:Value)(wh:Bool)(xs:List Int)(a:Option Addr)(n c:Nat)(hL:OpL T w vL a n c xs)(hnt:S.turned.length+1≤1000000000)(hm:d.σy.arrs.length+1≤100000000)(hb:d.σy.bufs.length+1≤100000000):Calls Tryz.prog 76 #[.pointer (some ⟨p,0,none⟩),.pointer (some ⟨d.sb,0,none⟩),.agg #[.int .i64 12,.int .i64 oH,.int .i64 oA,.int .i64 oB,.int .i64 oC,.int .i64 oD,vL,.bool wh]] w fun e w'=>e=.returned (.bool true)∧Went R T w p S (L.set i {d with σx:=(d.σy.reshape oH xs).1,σy:=(d.σy.reshape oH xs).1}) 0 1 w':=by
 have hsd:=hI.side i d hd;have z0:w.cell? ⟨d.sb,0,none⟩=some (.pointer (some ⟨d.px,0,none⟩)):=by simp[World.cell?,hsd.blk]
 have z1:w.cell? ⟨d.sb,1,none⟩=some (.pointer (some ⟨d.py,0,none⟩)):=by simp[World.cell?,hsd.blk]
 have hsb:d.sb<w.heap.size:=lt_of_heap hsd.blk;obtain⟨rfl,hlen,hrd,htag,hbig⟩:=hL;have HRD:=hid hrd;have HTAG:=hid htag;have HLEN:=hid hlen;have HI:=hid hI;have HD:=hid hd;have HX:=hid X;have HS:=hid hσ;have HSD:=hid hsd;have HF:Hid (ReshapeC R):=hid hF;clear hF hI hd hσ hsd X hrd htag hlen;obtain⟨T1,hT1⟩:∃T1,retag w T (5,9)=T1:=⟨_,rfl⟩;have HT1:Hid (TagsTo w T T1):=hid (by rw[←hT1];exact retag_to w T _);have HNEW:Hid (∀b,w.heap.size≤b→T1 b=(5,9)):=hid (fun b hb=>by rw[←hT1];exact retag_new hb);clear hT1;have HLENT:Hid (∀y,Calls Tryz.prog 104 #[.slice a n c] (w.alloc y) fun e w'=>e=.returned (.slice (some ⟨w.heap.size+1,0,none⟩) (n+1) (n+1))∧w'=(w.alloc y).alloc (.cells (ints (xs++[0])).toArray 3)):=hid (fun y=>
  (lent_calls _ xs (w.alloc y) (HRD.out.kp0 (Kp.alloc (Kp.refl _ _) _)) (by have:=HLEN.out;omega)).mono (by
   rintro e w' ⟨rfl,rfl⟩;rw[HLEN.out];exact⟨by simp,rfl⟩))
 go_enter Tryz.func76,Tryz.ntmps76
 go_wp2_with fail
 refine(HLENT.out _).mono ?_;rintro e w2 ⟨rfl,hw2⟩;have HK2:Hid (Kp0 w w2):=hid (by rw[hw2];exact Kp.alloc (Kp.alloc (Kp.refl _ _) _) _);have hg2:w2.heap[w.heap.size+1]? =some (.cells (ints (xs++[0])).toArray 3 (0,0)):=by
  rw[hw2];have:=heap_alloc_new (w.alloc (.cells #[.int .i64 12,.int .i64 oH,.int .i64 oA,.int .i64 oB,.int .i64 oC,.int .i64 oD,.slice a n c,.bool wh] 87)) (.cells (ints (xs++[0])).toArray 3);simpa using this
 have hbox:w2.heap[w.heap.size]? =some (.cells #[.int .i64 12,.int .i64 oH,.int .i64 oA,.int .i64 oB,.int .i64 oC,.int .i64 oD,.slice a n c,.bool wh] 87 (0,0)):=by
  rw[hw2,Below.heap_alloc _ _ _ (by simp)];exact heap_alloc_new _ _
 have HG2:=hid hg2;have HBOX:=hid hbox;have hs2:w.heap.size+1<w2.heap.size:=lt_of_heap hg2;have b0:w2.cell? ⟨w.heap.size,0,none⟩=some (.int .i64 12):=by simp[World.cell?,hbox]
 have b1:w2.cell? ⟨w.heap.size,1,none⟩=some (.int .i64 oH):=by simp[World.cell?,hbox]
 have b6:w2.cell? ⟨w.heap.size,6,none⟩=some (.slice a n c):=by simp[World.cell?,hbox]
 have y0:=HK2.out.cell z0;have y1:=HK2.out.cell z1;have HI2:=hid (HI.out.kp0 HX.out HT1.out HK2.out);clear hw2 hg2 hbox z0 z1 HLENT
 go_wp2_with fail
 refine(hand_calls (w.heap.size+1) n c a xs w2 HLEN.out (HRD.out.kp0 HK2.out) (by omega) HG2.out).mono ?_;rintro e w2' ⟨⟨ai,ci,rfl,hin,hib⟩,hw⟩;obtain rfl:=hw.symm;have HIN:=hid hin;have HIB:Hid (∀b,(Value.slice ai n ci).ownBlock=some b→(T1 b).1≠10+2*i):=hid (fun b hb=>by
  have:=hib b hb;rw[this,HNEW.out _ (by omega)];simp;omega)
 clear hin hib;have nn:Hid (∀b,w.heap.size≤b→¬(T1 b).1=10+2*i):=hid (fun b hb=>by rw[HNEW.out b hb];simp;omega);have ct:Hid (xs≠[]→∀b,(Value.slice a n c).ownBlock=some b→b<w.heap.size∧(T1 b).1=0):=hid (fun hx b hb=>by
  have:=HTAG.out hx b hb;exact⟨this.1,by rw[HT1.out b this.1];exact this.2⟩)
 have HXC:Hid (∀W,Kp0 w2 W→Calls Tryz.prog 24 #[.pointer (some ⟨d.px,0,none⟩),.int .i64 oH,.slice ai n ci] W fun e w3=>e=.returned (.tuple #[.int .i64 (d.σx.reshape oH xs).2.1,.bool (d.σx.reshape oH xs).2.2.1,.int .i64 (d.σx.reshape oH xs).2.2.2])∧∃T3,TagsTo w2 T1 T3∧Inv R T3 w3 p S (L.set i {d with σx:=(d.σx.reshape oH xs).1})∧Kp (fun b=>(T1 b).1=10+2*i) w2 w3):=hid (fun W kW=>by
  have hIW:=HI2.out.kp0 HX.out (fun _ _=>rfl) kW;refine(HF.out _ _ _ _ _ oH _ xs (hIW.side i d HD.out).x (HIN.out.kp0 kW) HIB.out (by rw[HS.out];exact hm) (by rw[HS.out];exact hb)).mono ?_;rintro e w3 ⟨rfl,T3,ht3,hr3,hk3⟩;exact⟨rfl,T3,fun b hb=>ht3 b (Nat.lt_of_lt_of_le hb kW.size),hIW.stepX HX.out HD.out ht3 hr3 hk3,(Kp.of0 kW).trans hk3 (fun _ _ e=>e)⟩)
 have HD3:Hid ((L.set i {d with σx:=(d.σx.reshape oH xs).1})[i]? =some {d with σx:=(d.σx.reshape oH xs).1}):=hid (by
  rw[List.getElem?_set];have:i<L.length:=by
   have h:=HD.out;rcases Nat.lt_or_ge i L.length with h'|h'
   ·exact h'
   ·rw[List.getElem?_eq_none h']at h;cases h
  simp[this])
 go_wp2
 go_region_held3 (fun w'=>w'.cell? ⟨d.sb,0,none⟩=some (.pointer (some ⟨d.px,0,none⟩))∧w'.cell? ⟨w.heap.size,1,none⟩=some (.int .i64 oH)) (first|go_keep|(go_split_ands;exact⟨hk3.cell y0 (by rw[HT1.out _ hsb,HSD.out.tag];simp;omega),hk3.cell b1 (nn.out _ (Nat.le_refl _))⟩))
  ((go_at_call 24;refine(HXC.out _ ?_).mono ?_;(first|exact Kp0.refl _|exact Kp0.drew (Kp0.refl _));rintro e w3 ⟨rfl,T3,ht3,hI3,hk3⟩))
 have d0:=hk3.cell b0 (nn.out _ (Nat.le_refl _));have d1:=hk3.cell b1 (nn.out _ (Nat.le_refl _));have d6:=hk3.cell b6 (nn.out _ (Nat.le_refl _));have x1:=hk3.cell y1 (by rw[HT1.out _ hsb,HSD.out.tag];simp;omega);have HG3:=hid (hk3.heap HG2.out (nn.out _ (by omega)));have hs3:w2.heap.size≤w3.heap.size:=hk3.size;have HRD3:=hid ((HRD.out.kp0 HK2.out).kpne hk3 (fun hx b hb e=>by have:=(ct.out hx b hb).2;omega));have HI3:=hid hI3;have HT3:=hid ht3;have HK3:=hid hk3;clear ht3 hI3 hk3 b0 b1 b6 y0 y1 HXC;have HYC:Hid (∀W,Kp0 w3 W→Calls Tryz.prog 115 #[.pointer (some ⟨d.py,0,none⟩),.int .i64 oH,.slice a n c] W fun e w4=>e=.returned (.tuple #[.int .i64 (d.σy.reshape oH xs).2.1,.bool (d.σy.reshape oH xs).2.2.1,.int .i64 (d.σy.reshape oH xs).2.2.2])∧∃T4,TagsTo w3 T3 T4∧Inv R T4 w4 p S ((L.set i {d with σx:=(d.σx.reshape oH xs).1}).set i {{d with σx:=(d.σx.reshape oH xs).1}with σy:=(d.σy.reshape oH xs).1})∧Kp (fun b=>(T3 b).1=11+2*i) w3 w4):=hid (fun W kW=>by
  have hIW:=HI3.out.kp0 HX.out (fun _ _=>rfl) kW;refine(yreshape_calls (hIW.side i _ HD3.out).y oH _ xs (HRD3.out.kp0 kW) (fun hx b hb e=>by have:=ct.out hx b hb;have:=e.1;rw[HT3.out b (by omega)]at this;omega) hm hb).mono ?_;rintro e w4 ⟨rfl,hst4⟩;obtain⟨T4,ht4,hr4,hk4⟩:=hst4.step;exact⟨rfl,T4,fun b hb=>ht4 b (Nat.lt_of_lt_of_le hb kW.size),hIW.stepY HX.out HD3.out ht4 hr4 hk4,(Kp.of0 kW).trans hk4 (fun _ _ e=>e)⟩)
 have nn4:Hid (∀b,w.heap.size≤b→b<w2.heap.size→¬(T3 b).1=11+2*i):=hid (fun b hb hb2=>by rw[HT3.out b hb2,HNEW.out b hb];simp;omega);go_wp2
 go_region_held3 (fun w'=>w'.cell? ⟨d.sb,1,none⟩=some (.pointer (some ⟨d.py,0,none⟩))∧w'.cell? ⟨w.heap.size,1,none⟩=some (.int .i64 oH)∧w'.cell? ⟨w.heap.size,6,none⟩=some (.slice a n c)) (first|go_keep|(go_split_ands;exact⟨hk4.cell x1 (by rw[HT3.out _ (by simp;omega),HT1.out _ hsb,HSD.out.tag];simp;omega),hk4.cell d1 (nn4.out _ (Nat.le_refl _) (by simp;omega)),hk4.cell d6 (nn4.out _ (Nat.le_refl _) (by simp;omega))⟩))
  ((go_at_call 115;refine(HYC.out _ ?_).mono ?_;(first|exact Kp0.refl _|exact Kp0.drew (Kp0.refl _));rintro e w4 ⟨rfl,T4,ht4,hI4,hk4⟩))
 have d0':=hk4.cell d0 (nn4.out _ (Nat.le_refl _) (by simp;omega));have d6':=hk4.cell d6 (nn4.out _ (Nat.le_refl _) (by simp;omega));have HG4:=hid (hk4.heap HG3.out (nn4.out _ (by omega) hs2));have hs4:w3.heap.size≤w4.heap.size:=hk4.size;have HRD4:=hid (HRD3.out.kpne hk4 (fun hx b hb e=>by
  have:=ct.out hx b hb;rw[HT3.out b (by omega)]at e;omega))
 have HI4:=hid hI4;have HT4:=hid ht4;have HK4:=hid hk4;have HCT:=hid ct.out;clear ht4 hI4 hk4 d0 d1 d6 HYC;have HT41:Hid (∀b,b<w2.heap.size→T4 b=T1 b):=hid (fun b hb=>by rw[HT4.out b (by omega),HT3.out b hb])
 go_wp2_with fail
 refine(returned_calls HI4.out.wat (w.heap.size+1) n _ xs HLEN.out (by omega) HRD4.out HG4.out (by rw[HT41.out _ hs2];exact HNEW.out _ (by omega)) (fun hx b hb=>by
   have:=HCT.out hx b hb;rw[HT41.out b (by omega)];omega) hnt (fun j v hv e=>by have:=HI.out.wat.lt hv e;omega) (fun j v hv e=>by have:=HI.out.wat.ltt hv e;omega)).mono ?_
 rintro e w5 ⟨rfl,T5,vt,ht5,hw5,hk5⟩;have HI5:=hid (HI4.out.stepW HX.out ht5 hw5 rfl hk5);have HT5:=hid ht5;have HK5:=hid hk5;clear ht5 hw5 hk5;have q1:((d.σx.reshape oH xs).2.1==(d.σy.reshape oH xs).2.1)=true:=by rw[HS.out];simp
 have q2:((d.σx.reshape oH xs).2.2.2==(d.σy.reshape oH xs).2.2.2)=true:=by rw[HS.out];simp
 have q3:((d.σx.reshape oH xs).2.2.1==(d.σy.reshape oH xs).2.2.1)=true:=by rw[HS.out];simp
 go_wp2
 go_ret;have hLL:(L.set i {d with σx:=(d.σx.reshape oH xs).1}).set i {{d with σx:=(d.σx.reshape oH xs).1}with σy:=(d.σy.reshape oH xs).1}=L.set i {d with σx:=(d.σy.reshape oH xs).1,σy:=(d.σy.reshape oH xs).1}:=by first|rw[List.set_set,HS.out]|(rw[List.set_set];show L.set i ⟨d.sb,d.px,d.py,d.σx,d.σy⟩=_;rw[HS.out])
 have hI5:=HI5.out;rw[hLL]at hI5;have s2:=HK2.out.size;refine⟨ret_bool (by simp),T5,_,fun b hb=>by rw[HT5.out b (by omega),HT41.out b (by omega),HT1.out b hb],hI5,Nat.le_refl _,by simp[WS.turn],by simp[WS.turn],?_⟩;have k3:Kp (fun b=>5≤(T b).1) w w3:=(Kp.of0 HK2.out).trans HK3.out (fun b hb e=>by rw[HT1.out b hb]at e;omega);have k4:Kp (fun b=>5≤(T b).1) w w4:=k3.trans HK4.out (fun b hb e=>by rw[HT3.out b (by omega),HT1.out b hb]at e;omega);exact k4.trans HK5.out (fun b hb e=>by rw[HT41.out b (by omega),HT1.out b hb]at e;omega)
theorem step_views{w:World}(p sb:Nat)(k oH oA oB oC oD:Int)(a:Option Addr)(n c:Nat)(wh:Bool)(Q:World→Prop)(hk:k=9∨k=10∨k=11∨k=12∨k=16)(hP:∀W,Kp0 w W→Calls Tryz.prog 76 #[.pointer (some ⟨p,0,none⟩),.pointer (some ⟨sb,0,none⟩),.agg #[.int .i64 k,.int .i64 oH,.int .i64 oA,.int .i64 oB,.int .i64 oC,.int .i64 oD,.slice a n c,.bool wh]] W fun e w'=>e=.returned (.bool true)∧Q w'):Calls Tryz.prog 40 #[.pointer (some ⟨p,0,none⟩),.pointer (some ⟨sb,0,none⟩),.agg #[.int .i64 k,.int .i64 oH,.int .i64 oA,.int .i64 oB,.int .i64 oC,.int .i64 oD,.slice a n c,.bool wh]] w fun e w'=>e=.returned (.bool true)∧Q w':=by
 have HP:=hid hP;clear hP;rcases hk with rfl|rfl|rfl|rfl|rfl
 all_goals
  go_enter Tryz.func40,Tryz.ntmps40
  go_wp2_with fail
  refine(HP.out _ (Kp.alloc (Kp.refl _ _) _)).mono ?_;rintro e w1 ⟨rfl,hq⟩;have HQ:=hid hq;clear hq;go_wp2
  go_ret;exact⟨rfl,HQ.out⟩
theorem step_shared{R:Tags→Nat→World→Nat→Sp→Prop}(X:XC R)(hF:SharedC R){T:Tags}{w:World}{p:Nat}{S:WS}{L:List SD}(hI:Inv R T w p S L){i:Nat}{d:SD}(hd:L[i]? =some d)(hσ:d.σx=d.σy)(oH oA oB oC oD:Int)(a:Option Addr)(n c:Nat)(wh:Bool):Calls Tryz.prog 40 #[.pointer (some ⟨p,0,none⟩),.pointer (some ⟨d.sb,0,none⟩),.agg #[.int .i64 13,.int .i64 oH,.int .i64 oA,.int .i64 oB,.int .i64 oC,.int .i64 oD,.slice a n c,.bool wh]] w fun e w'=>e=.returned (.bool true)∧Went R T w p S L 0 0 w':=by
 have hsd:=hI.side i d hd;have z0:w.cell? ⟨d.sb,0,none⟩=some (.pointer (some ⟨d.px,0,none⟩)):=by simp[World.cell?,hsd.blk]
 have z1:w.cell? ⟨d.sb,1,none⟩=some (.pointer (some ⟨d.py,0,none⟩)):=by simp[World.cell?,hsd.blk]
 have hsb:d.sb<w.heap.size:=lt_of_heap hsd.blk;have HI:=hid hI;have HD:=hid hd;have HX:=hid X;have HF:Hid (SharedC R):=hid hF;have HS:=hid hσ;have HSD:=hid hsd;clear hI hd hσ hsd X hF;obtain⟨T1,hT1⟩:∃T1,retag w T (0,0)=T1:=⟨_,rfl⟩;have HT1:Hid (TagsTo w T T1):=hid (by rw[←hT1];exact retag_to w T _);have HNEW:Hid (∀b,w.heap.size≤b→T1 b=(0,0)):=hid (fun b hb=>by rw[←hT1];exact retag_new hb);clear hT1;have HI1:=hid (HI.out.kp0 HX.out HT1.out (Kp0.refl _));obtain⟨sh,er,hst⟩:∃sh er,d.σy.shared oH oA=(sh,er):=⟨_,_,rfl⟩;have hsx:d.σx.shared oH oA=(sh,er):=by rw[HS.out,hst]
 obtain⟨w0,hw0⟩:∃w0,w.alloc (.cells #[.int .i64 13,.int .i64 oH,.int .i64 oA,.int .i64 oB,.int .i64 oC,.int .i64 oD,.slice a n c,.bool wh] 87)=w0:=⟨_,rfl⟩;have HW0:=hid hw0;have v0:w0.cell? ⟨d.sb,0,none⟩=some (.pointer (some ⟨d.px,0,none⟩)):=by rw[←hw0,World.cell?_alloc_lt _ _ _ hsb];exact z0
 have v1:w0.cell? ⟨d.sb,1,none⟩=some (.pointer (some ⟨d.py,0,none⟩)):=by rw[←hw0,World.cell?_alloc_lt _ _ _ hsb];exact z1
 have b0:w0.cell? ⟨w.heap.size,0,none⟩=some (.int .i64 13):=by rw[←hw0];simp
 have b1:w0.cell? ⟨w.heap.size,1,none⟩=some (.int .i64 oH):=by rw[←hw0];simp
 have b2:w0.cell? ⟨w.heap.size,2,none⟩=some (.int .i64 oA):=by rw[←hw0];simp
 have hs0:w0.heap.size=w.heap.size+1:=by rw[←hw0];simp
 have HK0:Hid (Kp0 w w0):=hid (by rw[←hw0];exact Kp.alloc (Kp.refl _ _) _);clear hw0;have HXC:Hid (∀W,Kp0 w0 W→Calls Tryz.prog 18 #[.pointer (some ⟨d.px,0,none⟩),.int .i64 oH,.int .i64 oA] W fun e w3=>e=.returned (.tuple #[.bool sh,.int .i64 er])∧∃T3,TagsTo w0 T1 T3∧Inv R T3 w3 p S L∧Kp (fun b=>(T1 b).1=10+2*i) w0 w3):=hid (fun W kW=>by
  have hIW:=HI1.out.kp0 HX.out (fun _ _=>rfl) (HK0.out.trans kW);refine(HF.out _ _ _ _ _ oH oA (hIW.side i d HD.out).x).mono ?_;rintro e w3 ⟨rfl,T3,ht3,hr3,hk3⟩;rw[hsx];have h:=hIW.stepX HX.out HD.out ht3 hr3 hk3;rw[set_same _ _ _ (show L[i]? =some {d with σx:=d.σx}from HD.out)]at h;exact⟨rfl,T3,fun b hb=>ht3 b (Nat.lt_of_lt_of_le hb kW.size),h,(Kp.of0 kW).trans hk3 (fun _ _ e=>e)⟩)
 have HYC:Hid (∀T3 W,Inv R T3 W p S L→Calls Tryz.prog 80 #[.pointer (some ⟨d.py,0,none⟩),.int .i64 oH,.int .i64 oA] W fun e w4=>e=.returned (.tuple #[.bool sh,.int .i64 er])∧Kp0 W w4):=hid (fun T3 W hIW=>by
  refine(yshared_calls (hIW.side i d HD.out).y oH oA).mono ?_;rintro e w4 ⟨rfl,hk⟩;rw[hst];exact⟨rfl,hk⟩)
 have nn:Hid (∀b,w.heap.size≤b→¬(T1 b).1=10+2*i):=hid (fun b hb=>by rw[HNEW.out b hb];simp;omega);have nx:Hid (¬(T1 d.sb).1=10+2*i):=hid (by rw[HT1.out _ hsb,HSD.out.tag];simp;omega);have hs0':w.heap.size<w0.heap.size:=by omega
 clear hst hsx z0 z1 hs0;go_enter Tryz.func40,Tryz.ntmps40
 go_wp2_with fail
 rw[HW0.out]
 go_region_held3 (fun w'=>w'.cell? ⟨d.sb,0,none⟩=some (.pointer (some ⟨d.px,0,none⟩))∧w'.cell? ⟨w.heap.size,1,none⟩=some (.int .i64 oH)∧w'.cell? ⟨w.heap.size,2,none⟩=some (.int .i64 oA)) (first|go_keep|(go_split_ands;exact⟨hk3.cell v0 nx.out,hk3.cell b1 (nn.out _ (Nat.le_refl _)),hk3.cell b2 (nn.out _ (Nat.le_refl _))⟩))
  ((go_at_call 18;refine(HXC.out _ ?_).mono ?_;(first|exact Kp0.refl _|exact Kp0.drew (Kp0.refl _));rintro e w3 ⟨rfl,T3,ht3,hI3,hk3⟩))
 have d0:=hk3.cell b0 (nn.out _ (Nat.le_refl _));have d1:=hk3.cell b1 (nn.out _ (Nat.le_refl _));have d2:=hk3.cell b2 (nn.out _ (Nat.le_refl _));have x1:=hk3.cell v1 nx.out;have hs3:w0.heap.size≤w3.heap.size:=hk3.size;have HI3:=hid hI3;have HT3:=hid ht3;have HK3:=hid hk3;clear ht3 hI3 hk3 b0 b1 b2 v0 v1 HXC;have HYC3:Hid (∀W,Kp0 w3 W→Calls Tryz.prog 80 #[.pointer (some ⟨d.py,0,none⟩),.int .i64 oH,.int .i64 oA] W fun e w4=>e=.returned (.tuple #[.bool sh,.int .i64 er])∧Kp0 w3 w4):=hid (fun W kW=>
  (HYC.out T3 W (HI3.out.kp0 HX.out (fun _ _=>rfl) kW)).mono (by
   rintro e w4 ⟨rfl,hk⟩;exact⟨rfl,kW.trans hk⟩))
 go_wp2
 go_region_held3 (fun w'=>w'.cell? ⟨d.sb,1,none⟩=some (.pointer (some ⟨d.py,0,none⟩))∧w'.cell? ⟨w.heap.size,1,none⟩=some (.int .i64 oH)∧w'.cell? ⟨w.heap.size,2,none⟩=some (.int .i64 oA)) (first|go_keep|(go_split_ands;exact⟨hk4.cell x1,hk4.cell d1,hk4.cell d2⟩))
  ((go_at_call 80;refine(HYC3.out _ ?_).mono ?_;(first|exact Kp0.refl _|exact Kp0.drew (Kp0.refl _));rintro e w4 ⟨rfl,hk4⟩))
 have HK4:=hid hk4;clear hk4 HYC HYC3 d0 d1 d2 x1;go_wp2
 go_ret;refine⟨ret_bool (by simp),T3,S,fun b hb=>by rw[HT3.out b (by omega),HT1.out b hb],HI3.out.kp0 HX.out (fun _ _=>rfl) HK4.out,by omega,by omega,by omega,?_⟩;exact((Kp.of0 HK0.out:Kp (fun b=>5≤(T b).1) w w0).trans HK3.out (fun b hb e=>by rw[HT1.out b hb]at e;omega)).trans0 HK4.out
def stepAll(σ:Sp)(o:OpD):Sp:=
 if o.k=9 then(σ.cut o.oH o.oA o.oB o.oC o.oD).1 else if o.k=10 then(σ.turn o.oH o.xs).1 else if o.k=11 then(σ.stretch o.oH o.xs).1 else if o.k=12 then(σ.reshape o.oH o.xs).1
 else if o.k=14 then(σ.assign o.oH o.oA).1 else if o.k=15 then(σ.work o.oA o.oH o.oB o.oC).1 else if o.k=16 then(σ.fold o.oA o.oH o.oB).1 else stepSp σ o.k o.oH o.oA o.xs
theorem derive_len(σ:Sp)(a:Arr)(s rk:List Int)(read:Bool):(σ.derive a s rk read).1.arrs.length≤σ.arrs.length+1∧(σ.derive a s rk read).1.bufs.length≤σ.bufs.length+1:=by
 unfold Sp.derive;split
 ·exact⟨Nat.le_succ _,Nat.le_succ _⟩
 ·exact⟨by simp[Sp.lay],by simp[Sp.lay]⟩
theorem fresh_len(σ:Sp)(kind:Int)(s:List Int)(f:Nat→Int):(σ.fresh kind s f).1.arrs.length≤σ.arrs.length+1∧(σ.fresh kind s f).1.bufs.length≤σ.bufs.length+1:=by
 unfold Sp.fresh
 repeat' split
 all_goals first|exact⟨Nat.le_succ _,Nat.le_succ _⟩|skip
 obtain⟨h1,h2,-⟩:=puts_arrs (σ.more ⟨kind,σ.place kind (vol s).toNat,((vol s).toNat:Nat)⟩) kind (σ.place kind (vol s).toNat) f (vol s).toNat;constructor
 ·show(Sp.lay _ _).arrs.length≤_
  unfold Sp.lay;rw[List.length_append,h1];exact Nat.le_refl _
 ·show(Sp.lay _ _).bufs.length≤_
  unfold Sp.lay;show(Sp.puts _ _ _ _ _).bufs.length≤_;rw[h2];simp[Sp.more]
theorem writes_lenA(σ:Sp)(kind:Int)(cs:List Int)(f:Nat→Int)(n:Nat):(σ.writes kind cs f n).arrs.length≤σ.arrs.length+1∧(σ.writes kind cs f n).bufs.length≤σ.bufs.length+1:=by
 obtain⟨h1,h2,-⟩:=writes_same σ kind cs f n;exact⟨by rw[h1];exact Nat.le_succ _,by rw[h2];exact Nat.le_succ _⟩
theorem stepAll_len(σ:Sp)(o:OpD):(stepAll σ o).arrs.length≤σ.arrs.length+1∧(stepAll σ o).bufs.length≤σ.bufs.length+1:=by
 have same:σ.arrs.length≤σ.arrs.length+1∧σ.bufs.length≤σ.bufs.length+1:=⟨Nat.le_succ _,Nat.le_succ _⟩;unfold stepAll;split
 ·unfold Sp.cut
  repeat' split
  all_goals first|exact same|exact derive_len _ _ _ _ _
 ·split
  ·unfold Sp.turn
   repeat' split
   all_goals first|exact same|exact derive_len _ _ _ _ _
  ·split
   ·unfold Sp.stretch
    repeat' split
    all_goals first|exact same|exact derive_len _ _ _ _ _
   ·split
    ·unfold Sp.reshape
     repeat' split
     all_goals first|exact same|exact fresh_len _ _ _ _|exact⟨by simp[Sp.lay],by simp[Sp.lay]⟩
    ·split
     ·unfold Sp.assign
      repeat' split
      all_goals first|exact same|exact writes_lenA _ _ _ _ _
     ·split
      ·unfold Sp.work
       repeat' split
       all_goals first|exact same|exact writes_lenA _ _ _ _ _
      ·split
       ·unfold Sp.fold
        repeat' split
        all_goals first|exact same|exact fresh_len _ _ _ _
       ·exact stepSp_len σ o.k o.oH o.oA o.xs
def StepC(R:Tags→Nat→World→Nat→Sp→Prop)(most:Int):Prop:=∀(T:Tags) (w:World) (p:Nat) (S:WS) (L:List SD) (_:Inv R T w p S L) (i:Nat) (d:SD) (_:L[i]? =some d) (_:d.σx=d.σy) (o:OpD) (_:OpL T w (.slice o.a o.n o.c) o.a o.n o.c o.xs) (_:IntKind.i64.wrap o.oA=o.oA) (_:o.k≤most)
  (_:S.lists.length+4≤1000000000) (_: -1000000000≤S.last-1) (_:S.turned.length+1≤1000000000) (_:d.σy.arrs.length+1≤100000000) (_:d.σy.bufs.length+1≤100000000),
  Calls Tryz.prog 40 #[.pointer (some ⟨p,0,none⟩),.pointer (some ⟨d.sb,0,none⟩),.agg #[.int .i64 o.k,.int .i64 o.oH,.int .i64 o.oA,.int .i64 o.oB,.int .i64 o.oC,.int .i64 o.oD,.slice o.a o.n o.c,.bool o.wh]] w fun e w'=>e=.returned (.bool true)∧Went R T w p S (L.set i {d with σx:=stepAll d.σy o,σy:=stepAll d.σy o}) 4 1 w'
theorem step_calls2{R:Tags→Nat→World→Nat→Sp→Prop}(X:XC2 R):StepC R 13:=by
 intro T w p S L hI i d hd hσ o hL hA hk hnl hla hnt hm hb;obtain⟨k,oH,oA,oB,oC,oD,a,n,c,xs,wh⟩:=o;simp only at hL hA hk⊢;have hI0:∀W,Kp0 w W→Inv R T W p S L:=fun W kW=>hI.kp0 X.base (fun _ _=>rfl) kW
 by_cases h8:k≤8
 ·have:stepAll d.σy ⟨k,oH,oA,oB,oC,oD,a,n,c,xs,wh⟩=stepSp d.σy k oH oA xs:=by
   unfold stepAll;simp only;rw[if_neg (by omega),if_neg (by omega),if_neg (by omega),if_neg (by omega),if_neg (by omega),if_neg (by omega),if_neg (by omega)]
  rw[this];exact step_calls X.base hI hd hσ k oH oA oB oC oD _ wh xs a n c hL hA h8 hnl hla hnt hm hb
 ·have h13:k=9∨k=10∨k=11∨k=12∨k=13:=by omega
  rcases h13 with rfl|rfl|rfl|rfl|rfl
  ·exact step_views p d.sb 9 oH oA oB oC oD a n c wh _ (by omega) (fun W kW=>(views_cut X.base X.cut (hI0 W kW) hd hσ oH oA oB oC oD _ wh xs a n c (hL.kp0 kW) hnt hm hb).mono (by
    rintro e w' ⟨rfl,h⟩;exact⟨rfl,(h.kp0 kW).more (by omega) (by omega)⟩))
  ·exact step_views p d.sb 10 oH oA oB oC oD a n c wh _ (by omega) (fun W kW=>(views_turn X.base X.turn (hI0 W kW) hd hσ oH oA oB oC oD _ wh xs a n c (hL.kp0 kW) hnt hm hb).mono (by
    rintro e w' ⟨rfl,h⟩;exact⟨rfl,(h.kp0 kW).more (by omega) (by omega)⟩))
  ·exact step_views p d.sb 11 oH oA oB oC oD a n c wh _ (by omega) (fun W kW=>(views_stretch X.base X.stretch (hI0 W kW) hd hσ oH oA oB oC oD _ wh xs a n c (hL.kp0 kW) hnt hm hb).mono (by
    rintro e w' ⟨rfl,h⟩;exact⟨rfl,(h.kp0 kW).more (by omega) (by omega)⟩))
  ·exact step_views p d.sb 12 oH oA oB oC oD a n c wh _ (by omega) (fun W kW=>(views_reshape X.base X.reshape (hI0 W kW) hd hσ oH oA oB oC oD _ wh xs a n c (hL.kp0 kW) hnt hm hb).mono (by
    rintro e w' ⟨rfl,h⟩;exact⟨rfl,(h.kp0 kW).more (by omega) (by omega)⟩))
  ·refine(step_shared X.base X.shared hI hd hσ oH oA oB oC oD a n c wh).mono ?_
   rintro e w' ⟨rfl,h⟩;refine⟨rfl,?_⟩;have hset:L.set i {d with σx:=d.σy,σy:=d.σy}=L:=set_same _ _ _ (by
    rw[hd];congr 1
    cases d
    simp at hσ⊢;exact hσ)
   show Went R T w p S (L.set i {d with σx:=d.σy,σy:=d.σy}) 4 1 w';rw[hset];exact h.more (by omega) (by omega)
theorem play_any{R:Tags→Nat→World→Nat→Sp→Prop}(X:XC R)(most:Int)(hC:StepC R most){T:Tags}{w:World}{p:Nat}{S:WS}{L:List SD}(hI:Inv R T w p S L)(n:Nat)(hn:L.length=n)(hpos:0<n)(hn2:n≤2)(hσ:∀(i:Nat) (d:SD),L[i]? =some d→d.σx=d.σy∧d.σy.arrs.length≤0∧d.σy.bufs.length≤0)(aS:Option Addr)(N cS:Nat)(ops:List OpD)(hN:ops.length=N)(hNb:N≤2000000)(hS:0<N→∃g off,aS=some ⟨g,off,none⟩∧Script T w g off ops)(hsl:S.lists.length≤1000)(hst:S.turned.length≤1000)(hsa: -1000≤S.last):Calls Tryz.prog 13 #[.pointer (some ⟨p,0,none⟩),.slice aS N cS,.int .i64 most] w fun e w'=>e=.returned (.bool true)∧Kp (fun b=>5≤(T b).1) w w':=by
 have hn1:((n:Int)==0)=false:=by rw[beq_eq_false_iff_ne];omega
 have HX:=hid X;have HC:=hid hC;have HI:=hid hI;have HN:=hid hn;have HS:=hid hS;have HOPS:=hid hN;have HSG:=hid hσ;obtain⟨g0,cap0,q0,-⟩:=hI.sdCells (by omega);rw[hn]at q0;clear X hI hn hS hN hσ hC;go_enter Tryz.func13,Tryz.ntmps13
 go_wp2
 go_loopw [8] (fun t w'=>∃k:Nat,k≤N∧t=.int .i64 k∧Good R T w p S L (4*k) k k w') (fun t _=>N-(intOf t).toNat)
 case atStart=>exact⟨0,Nat.zero_le _,rfl,T,S,L,fun _ _=>rfl,HI.out,rfl,HSG.out,by omega,by omega,by omega,Kp.refl _ _⟩
 case round=>
  obtain⟨k,hk,rfl,hG⟩:=hrel;have HG:=hid hG;obtain⟨T1,S1,L1,g1,g2,g3,g4,g5,g6,g7,g8⟩:=hG;by_cases hlt:k<N
  ·obtain⟨g,off,rfl,hsc⟩:=HS.out (by omega)
   have hsc1:=hsc.went g1 g8;have hko:k<ops.length:=by have:=HOPS.out;omega
   obtain⟨o,ho⟩:∃o,ops[k]? =some o:=⟨_,List.getElem?_eq_getElem hko⟩;have c0:=hsc1.cell k o ho 0 _ rfl;have c1:=hsc1.cell k o ho 1 _ rfl;have c2:=hsc1.cell k o ho 2 _ rfl;have c3:=hsc1.cell k o ho 3 _ rfl;have c4:=hsc1.cell k o ho 4 _ rfl;have c5:=hsc1.cell k o ho 5 _ rfl;have c6:=hsc1.cell k o ho 6 _ rfl;have c7:=hsc1.cell k o ho 7 _ rfl;simp only[Nat.add_zero]at c0;obtain⟨hol,hoa⟩:=hsc1.list k o ho;have hL1:L1.length=n:=by rw[g3,HN.out]
   obtain⟨gs,caps,p0,hcs⟩:=g2.sdCells (by omega);rw[hL1]at p0;have hpl:p<wr.heap.size:=lt_of_heap g2.wat.blk;have hgl:g<wr.heap.size:=block_lt_of_cell c0;obtain⟨d0,hd0⟩:∃d,L1[0]? =some d:=⟨_,List.getElem?_eq_getElem (by omega)⟩;obtain⟨dn,hdn⟩:∃d,L1[n-1]? =some d:=⟨_,List.getElem?_eq_getElem (by omega)⟩;have s0:=hcs 0 d0 hd0;have sn:=hcs (n-1) dn hdn;have hgs:gs<wr.heap.size:=block_lt_of_cell s0;have e1:(0:Int)≤(k:Int):=by omega
   obtain⟨ok,oH,oA,oB,oC,oD,oa,on,oc,oxs,owh⟩:=o;simp only at c0 c1 c2 c3 c4 c5 c6 c7;have HSTEP:Hid (∀(i:Nat) (d:SD),L1[i]? =some d→ok≤most→∀W,Kp0 wr W→Calls Tryz.prog 40 #[.pointer (some ⟨p,0,none⟩),.pointer (some ⟨d.sb,0,none⟩),.agg #[.int .i64 ok,.int .i64 oH,.int .i64 oA,.int .i64 oB,.int .i64 oC,.int .i64 oD,.slice oa on oc,.bool owh]] W fun e w'=>e=.returned (.bool true)∧Good R T w p S L (4*(k+1)) (k+1) (k+1) w'∧∃T2 S2,WAt T2 5 w' p S2):=hid (fun i d hd hok W kW=>by
    obtain⟨e1,e2,e3⟩:=g4 i d hd;refine(HC.out _ _ _ _ _ (g2.kp0 HX.out (fun _ _=>rfl) kW) _ _ hd e1 ⟨ok,oH,oA,oB,oC,oD,oa,on,oc,oxs,owh⟩ (hol.kp0 kW) hoa hok (by omega) (by omega) (by omega) (by omega) (by omega)).mono ?_;rintro e w' ⟨rfl,hW⟩;have hlen:=stepAll_len d.σy ⟨ok,oH,oA,oB,oC,oD,oa,on,oc,oxs,owh⟩;have hgd:=good_step g1 g3 g4 g5 g6 g7 g8 (by omega) (hW.kp0 kW);refine⟨rfl,good_more hgd (by omega) (by omega) (by omega),?_⟩;obtain⟨T2,S2,_,hI2,_⟩:=hW;exact⟨T2,S2,hI2.wat⟩)
   have HD0:=hid hd0;have HDN:=hid hdn;clear g1 g2 g4 g8 hsc hsc1 hol hoa hcs hd0 hdn ho hko HI HSG HS;by_cases hbig:most<ok
   ·have dm:decide (most<ok)=true:=by simp[hbig]
    go_wp2
    go_roundw
    case rel=>exact⟨k+1,by omega,by go_num,good_more (good_kp0 HX.out HG.out (Kp.alloc (Kp.refl _ _) _)) (by omega) (by omega) (by omega)⟩
    case measure=>simp[intOf];omega
   ·have dm:decide (most<ok)=false:=by simp;omega
    cases owh
    ·go_wp2_with fail
     refine(HSTEP.out 0 d0 HD0.out (by omega) _ (Kp.alloc (Kp.refl _ _) _)).mono ?_;rintro e w2 ⟨rfl,hG2,T2,S2,hW2⟩;have HG2:=hid hG2;have HW2:=hid hW2;clear hG2 hW2
     go_wp2_with fail
     refine(kept_calls HW2.out).mono ?_;rintro e w3 ⟨rfl,hk3⟩;have HK3:=hid hk3;clear hk3;go_wp2
     go_roundw
     case rel=>exact⟨k+1,by omega,by go_num,good_kp0 HX.out HG2.out HK3.out⟩
     case measure=>simp[intOf];omega
    ·go_wp2_with fail
     refine(HSTEP.out (n-1) dn HDN.out (by omega) _ (Kp.alloc (Kp.refl _ _) _)).mono ?_;rintro e w2 ⟨rfl,hG2,T2,S2,hW2⟩;have HG2:=hid hG2;have HW2:=hid hW2;clear hG2 hW2
     go_wp2_with fail
     refine(kept_calls HW2.out).mono ?_;rintro e w3 ⟨rfl,hk3⟩;have HK3:=hid hk3;clear hk3;go_wp2
     go_roundw
     case rel=>exact⟨k+1,by omega,by go_num,good_kp0 HX.out HG2.out HK3.out⟩
     case measure=>simp[intOf];omega
  ·have HKN:Hid (k=N):=hid (by omega)
   have HGN:Hid (Good R T w p S L (4*N) N N wr):=hid (good_more HG.out (by omega) (by omega) (by omega));clear g1 g2 g3 g4 g5 g6 g7 g8 HG;go_wp2
   go_loopw [13] (fun t w'=>∃j:Nat,j≤n∧t=.int .i64 j∧Good R T w p S L (4*N+j*(8*(N+2))) N N w') (fun t _=>n-(intOf t).toNat)
   case atStart=>exact⟨0,Nat.zero_le _,rfl,good_more HGN.out (by omega) (by omega) (by omega)⟩
   case round=>
    obtain⟨j,hj,rfl,hG⟩:=hrel;have HG:=hid hG;obtain⟨T1,S1,L1,g1,g2,g3,g4,g5,g6,g7,g8⟩:=hG;have hL1:L1.length=n:=by rw[g3,HN.out]
    by_cases hlt':j<n
    ·obtain⟨gs,caps,p0,hcs⟩:=g2.sdCells (by omega)
     rw[hL1]at p0;obtain⟨d,hd⟩:∃d,L1[j]? =some d:=⟨_,List.getElem?_eq_getElem (by omega)⟩;have s0:=hcs j d hd;obtain⟨e1,e2,e3⟩:=g4 j d hd;have hj1:j≤1:=by omega
     have hjb:j*(8*(N+2))≤8*(N+2):=by rcases Nat.le_one_iff_eq_zero_or_eq_one.1 hj1 with e|e<;>rw[e]<;>omega
     have HEND:Hid (Calls Tryz.prog 41 #[.pointer (some ⟨p,0,none⟩),.pointer (some ⟨d.sb,0,none⟩)] wr fun e w'=>e=.returned (.bool true)∧Good R T w p S L (4*N+(j+1)*(8*(N+2))) N N w'):=hid (by
      refine(ended_calls HX.out g2 hd e1 (by omega) (by omega)).mono ?_;rintro e w' ⟨rfl,hW⟩;obtain⟨T2,S2,u1,u2,u3,u4,u5,u6⟩:=hW;have hsz:=g8.size;have hmul:(j+1)*(8*(N+2))=j*(8*(N+2))+8*(N+2):=by rw[Nat.add_mul,Nat.one_mul]
      exact⟨rfl,T2,S2,L1,fun b hb=>by rw[u1 b (by omega),g1 b hb],u2,g3,g4,by omega,by omega,by omega,g8.trans u6 (fun b hb e=>by rw[g1 b hb]at e;exact e)⟩)
     have e4:(0:Int)≤(j:Int):=by omega
     clear g1 g2 g4 g8 hcs hd hjb
     go_wp2_with fail
     refine HEND.out.mono ?_;rintro e w2 ⟨rfl,hG2⟩;have HG2:=hid hG2;clear hG2;go_wp2
     go_roundw
     case rel=>exact⟨j+1,by omega,by go_num,HG2.out⟩
     case measure=>simp[intOf];omega
    ·have HW:=hid g2.wat
     have HK:=hid g8;clear g1 g2 g3 g4 g5 g6 g7 g8 HG
     go_wp2_with fail
     refine(kept_calls HW.out).mono ?_;rintro e w3 ⟨rfl,hk3⟩;have HK3:=hid hk3;clear hk3;go_wp2
     go_ret;exact⟨rfl,HK.out.trans0 HK3.out⟩
end Go.Proofs.YticbbncdcannlaaGreat
