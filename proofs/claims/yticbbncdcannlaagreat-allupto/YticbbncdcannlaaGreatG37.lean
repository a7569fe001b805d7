import Derived.Test.YticbbncdcannlaaGreatG34
import Derived.Test.YticbbncdcannlaaGreatG36
set_option maxRecDepth 100000
set_option maxHeartbeats 8000000
namespace Go.Proofs.YticbbncdcannlaaGreat
open Go.RowKit
theorem step_assign{R:Tags→Nat→World→Nat→Sp→Prop}(X:XC R)(hF:AssignC R){T:Tags}{w:World}{p:Nat}{S:WS}{L:List SD}(hI:Inv R T w p S L){i:Nat}{d:SD}(hd:L[i]? =some d)(hσ:d.σx=d.σy)(oH oA oB oC oD:Int)(a:Option Addr)(n c:Nat)(wh:Bool):Calls Tryz.prog 40 #[.pointer (some ⟨p,0,none⟩),.pointer (some ⟨d.sb,0,none⟩),.agg #[.int .i64 14,.int .i64 oH,.int .i64 oA,.int .i64 oB,.int .i64 oC,.int .i64 oD,.slice a n c,.bool wh]] w fun e w'=>e=.returned (.bool true)∧Went R T w p S (L.set i {d with σx:=(d.σy.assign oH oA).1,σy:=(d.σy.assign oH oA).1}) 0 0 w':=by
 have hsd:=hI.side i d hd;have z0:w.cell? ⟨d.sb,0,none⟩=some (.pointer (some ⟨d.px,0,none⟩)):=by simp[World.cell?,hsd.blk]
 have z1:w.cell? ⟨d.sb,1,none⟩=some (.pointer (some ⟨d.py,0,none⟩)):=by simp[World.cell?,hsd.blk]
 have hsb:d.sb<w.heap.size:=lt_of_heap hsd.blk;have HI:=hid hI;have HD:=hid hd;have HX:=hid X;have HF:Hid (AssignC R):=hid hF;have HS:=hid hσ;have HSD:=hid hsd;clear hI hd hσ hsd X hF;obtain⟨T1,hT1⟩:∃T1,retag w T (0,0)=T1:=⟨_,rfl⟩;have HT1:Hid (TagsTo w T T1):=hid (by rw[←hT1];exact retag_to w T _);have HNEW:Hid (∀b,w.heap.size≤b→T1 b=(0,0)):=hid (fun b hb=>by rw[←hT1];exact retag_new hb);clear hT1;have HI1:=hid (HI.out.kp0 HX.out HT1.out (Kp0.refl _));obtain⟨er,hst⟩:∃er,(d.σy.assign oH oA).2=er:=⟨_,rfl⟩;have hsx:(d.σx.assign oH oA).2=er:=by rw[HS.out,hst]
 obtain⟨σN,hσN⟩:∃σN,(d.σy.assign oH oA).1=σN:=⟨_,rfl⟩;have hσX:(d.σx.assign oH oA).1=σN:=by rw[HS.out,hσN]
 obtain⟨w0,hw0⟩:∃w0,w.alloc (.cells #[.int .i64 14,.int .i64 oH,.int .i64 oA,.int .i64 oB,.int .i64 oC,.int .i64 oD,.slice a n c,.bool wh] 87)=w0:=⟨_,rfl⟩;have HW0:=hid hw0;have v0:w0.cell? ⟨d.sb,0,none⟩=some (.pointer (some ⟨d.px,0,none⟩)):=by rw[←hw0,World.cell?_alloc_lt _ _ _ hsb];exact z0
 have v1:w0.cell? ⟨d.sb,1,none⟩=some (.pointer (some ⟨d.py,0,none⟩)):=by rw[←hw0,World.cell?_alloc_lt _ _ _ hsb];exact z1
 have b0:w0.cell? ⟨w.heap.size,0,none⟩=some (.int .i64 14):=by rw[←hw0];simp
 have b1:w0.cell? ⟨w.heap.size,1,none⟩=some (.int .i64 oH):=by rw[←hw0];simp
 have b2:w0.cell? ⟨w.heap.size,2,none⟩=some (.int .i64 oA):=by rw[←hw0];simp
 have hs0:w0.heap.size=w.heap.size+1:=by rw[←hw0];simp
 have HK0:Hid (Kp0 w w0):=hid (by rw[←hw0];exact Kp.alloc (Kp.refl _ _) _);clear hw0;have HXC:Hid (∀W,Kp0 w0 W→Calls Tryz.prog 65 #[.pointer (some ⟨d.px,0,none⟩),.int .i64 oH,.int .i64 oA] W fun e w3=>e=.returned (.int .i64 er)∧∃T3,TagsTo w0 T1 T3∧Inv R T3 w3 p S (L.set i {d with σx:=σN})∧Kp (fun b=>(T1 b).1=10+2*i) w0 w3):=hid (fun W kW=>by
  have hIW:=HI1.out.kp0 HX.out (fun _ _=>rfl) (HK0.out.trans kW);refine(HF.out _ _ _ _ _ oH oA (hIW.side i d HD.out).x).mono ?_;rintro e w3 ⟨rfl,T3,ht3,hr3,hk3⟩;rw[hsx];rw[hσX]at hr3;exact⟨rfl,T3,fun b hb=>ht3 b (Nat.lt_of_lt_of_le hb kW.size),hIW.stepX HX.out HD.out ht3 hr3 hk3,(Kp.of0 kW).trans hk3 (fun _ _ e=>e)⟩)
 have HD3:Hid ((L.set i {d with σx:=σN})[i]? =some {d with σx:=σN}):=hid (by
  rw[List.getElem?_set];have:i<L.length:=by
   have h:=HD.out;rcases Nat.lt_or_ge i L.length with h'|h'
   ·exact h'
   ·rw[List.getElem?_eq_none h']at h;cases h
  simp[this])
 have HYC:Hid (∀T3 W,Inv R T3 W p S (L.set i {d with σx:=σN})→Calls Tryz.prog 81 #[.pointer (some ⟨d.py,0,none⟩),.int .i64 oH,.int .i64 oA] W fun e w4=>e=.returned (.int .i64 er)∧∃T4,TagsTo W T3 T4∧Inv R T4 w4 p S ((L.set i {d with σx:=σN}).set i {{d with σx:=σN}with σy:=σN})∧Kp (fun b=>(T3 b).1=11+2*i) W w4):=hid (fun T3 W hIW=>by
  refine(yassign_calls (hIW.side i _ HD3.out).y oH oA).mono ?_;rintro e w4 ⟨rfl,hst4⟩;obtain⟨T4,ht4,hr4,hk4⟩:=hst4.step;rw[show(d.σy.assign oH oA).2=er from hst];rw[show(d.σy.assign oH oA).1=σN from hσN]at hr4;exact⟨rfl,T4,ht4,hIW.stepY HX.out HD3.out ht4 hr4 hk4,hk4⟩)
 have nn:Hid (∀b,w.heap.size≤b→¬(T1 b).1=10+2*i):=hid (fun b hb=>by rw[HNEW.out b hb];simp;omega);have nx:Hid (¬(T1 d.sb).1=10+2*i):=hid (by rw[HT1.out _ hsb,HSD.out.tag];simp;omega);have hs0':w.heap.size<w0.heap.size:=by omega
 rw[hσN];clear hst hsx hσN hσX z0 z1 hs0;go_enter Tryz.func40,Tryz.ntmps40
 go_wp2_with fail
 rw[HW0.out]
 go_region_held3 (fun w'=>w'.cell? ⟨d.sb,0,none⟩=some (.pointer (some ⟨d.px,0,none⟩))∧w'.cell? ⟨w.heap.size,1,none⟩=some (.int .i64 oH)∧w'.cell? ⟨w.heap.size,2,none⟩=some (.int .i64 oA)) (first|go_keep|(go_split_ands;exact⟨hk3.cell v0 nx.out,hk3.cell b1 (nn.out _ (Nat.le_refl _)),hk3.cell b2 (nn.out _ (Nat.le_refl _))⟩))
  ((go_at_call 65;refine(HXC.out _ ?_).mono ?_;(first|exact Kp0.refl _|exact Kp0.drew (Kp0.refl _));rintro e w3 ⟨rfl,T3,ht3,hI3,hk3⟩))
 have d0:=hk3.cell b0 (nn.out _ (Nat.le_refl _));have d1:=hk3.cell b1 (nn.out _ (Nat.le_refl _));have d2:=hk3.cell b2 (nn.out _ (Nat.le_refl _));have x1:=hk3.cell v1 nx.out;have hs3:w0.heap.size≤w3.heap.size:=hk3.size;have HI3:=hid hI3;have HT3:=hid ht3;have HK3:=hid hk3;clear ht3 hI3 hk3 b0 b1 b2 v0 v1 HXC;have HYC3:Hid (∀W,Kp0 w3 W→Calls Tryz.prog 81 #[.pointer (some ⟨d.py,0,none⟩),.int .i64 oH,.int .i64 oA] W fun e w4=>e=.returned (.int .i64 er)∧∃T4,TagsTo w3 T3 T4∧Inv R T4 w4 p S ((L.set i {d with σx:=σN}).set i {{d with σx:=σN}with σy:=σN})∧Kp (fun b=>(T3 b).1=11+2*i) w3 w4):=hid (fun W kW=>
  (HYC.out T3 W (HI3.out.kp0 HX.out (fun _ _=>rfl) kW)).mono (by
   rintro e w4 ⟨rfl,T4,ht4,hI4,hk4⟩;exact⟨rfl,T4,fun b hb=>ht4 b (Nat.lt_of_lt_of_le hb kW.size),hI4,(Kp.of0 kW).trans hk4 (fun _ _ e=>e)⟩))
 have nn4:Hid (∀b,w.heap.size≤b→b<w0.heap.size→¬(T3 b).1=11+2*i):=hid (fun b hb hb2=>by rw[HT3.out b hb2,HNEW.out b hb];simp;omega);have nx4:Hid (¬(T3 d.sb).1=11+2*i):=hid (by rw[HT3.out _ (by omega),HT1.out _ hsb,HSD.out.tag];simp;omega);have bq:(er==er)=true:=by simp
 go_wp2
 go_region_held3 (fun w'=>w'.cell? ⟨d.sb,1,none⟩=some (.pointer (some ⟨d.py,0,none⟩))∧w'.cell? ⟨w.heap.size,1,none⟩=some (.int .i64 oH)∧w'.cell? ⟨w.heap.size,2,none⟩=some (.int .i64 oA)) (first|go_keep|(go_split_ands;exact⟨hk4.cell x1 nx4.out,hk4.cell d1 (nn4.out _ (Nat.le_refl _) (by omega)),hk4.cell d2 (nn4.out _ (Nat.le_refl _) (by omega))⟩))
  ((go_at_call 81;refine(HYC3.out _ ?_).mono ?_;(first|exact Kp0.refl _|exact Kp0.drew (Kp0.refl _));rintro e w4 ⟨rfl,T4,ht4,hI4,hk4⟩))
 have HI4:=hid hI4;have HT4:=hid ht4;have HK4:=hid hk4;clear ht4 hI4 hk4 HYC HYC3 d0 d1 d2 x1;go_wp2
 go_ret;have hLL:(L.set i {d with σx:=σN}).set i {{d with σx:=σN}with σy:=σN}=L.set i {d with σx:=σN,σy:=σN}:=by rw[List.set_set]
 rw[←hLL];refine⟨ret_bool (by simp),T4,S,fun b hb=>by rw[HT4.out b (by omega),HT3.out b (by omega),HT1.out b hb],HI4.out,by omega,by omega,by omega,?_⟩;have k3:Kp (fun b=>5≤(T b).1) w w3:=(Kp.of0 HK0.out:Kp (fun b=>5≤(T b).1) w w0).trans HK3.out (fun b hb e=>by rw[HT1.out b hb]at e;omega);exact k3.trans HK4.out (fun b hb e=>by rw[HT3.out b (by omega),HT1.out b hb]at e;omega)
theorem step_work{R:Tags→Nat→World→Nat→Sp→Prop}(X:XC R)(hF:WorkC R){T:Tags}{w:World}{p:Nat}{S:WS}{L:List SD}(hI:Inv R T w p S L){i:Nat}{d:SD}(hd:L[i]? =some d)(hσ:d.σx=d.σy)(oH oA oB oC oD:Int)(a:Option Addr)(n c:Nat)(wh:Bool):Calls Tryz.prog 40 #[.pointer (some ⟨p,0,none⟩),.pointer (some ⟨d.sb,0,none⟩),.agg #[.int .i64 15,.int .i64 oH,.int .i64 oA,.int .i64 oB,.int .i64 oC,.int .i64 oD,.slice a n c,.bool wh]] w fun e w'=>e=.returned (.bool true)∧Went R T w p S (L.set i {d with σx:=(d.σy.work oA oH oB oC).1,σy:=(d.σy.work oA oH oB oC).1}) 0 0 w':=by
 have hsd:=hI.side i d hd;have z0:w.cell? ⟨d.sb,0,none⟩=some (.pointer (some ⟨d.px,0,none⟩)):=by simp[World.cell?,hsd.blk]
 have z1:w.cell? ⟨d.sb,1,none⟩=some (.pointer (some ⟨d.py,0,none⟩)):=by simp[World.cell?,hsd.blk]
 have hsb:d.sb<w.heap.size:=lt_of_heap hsd.blk;have HI:=hid hI;have HD:=hid hd;have HX:=hid X;have HF:Hid (WorkC R):=hid hF;have HS:=hid hσ;have HSD:=hid hsd;clear hI hd hσ hsd X hF;obtain⟨T1,hT1⟩:∃T1,retag w T (0,0)=T1:=⟨_,rfl⟩;have HT1:Hid (TagsTo w T T1):=hid (by rw[←hT1];exact retag_to w T _);have HNEW:Hid (∀b,w.heap.size≤b→T1 b=(0,0)):=hid (fun b hb=>by rw[←hT1];exact retag_new hb);clear hT1;have HI1:=hid (HI.out.kp0 HX.out HT1.out (Kp0.refl _));obtain⟨er,hst⟩:∃er,(d.σy.work oA oH oB oC).2=er:=⟨_,rfl⟩;have hsx:(d.σx.work oA oH oB oC).2=er:=by rw[HS.out,hst]
 obtain⟨σN,hσN⟩:∃σN,(d.σy.work oA oH oB oC).1=σN:=⟨_,rfl⟩;have hσX:(d.σx.work oA oH oB oC).1=σN:=by rw[HS.out,hσN]
 obtain⟨w0,hw0⟩:∃w0,w.alloc (.cells #[.int .i64 15,.int .i64 oH,.int .i64 oA,.int .i64 oB,.int .i64 oC,.int .i64 oD,.slice a n c,.bool wh] 87)=w0:=⟨_,rfl⟩;have HW0:=hid hw0;have v0:w0.cell? ⟨d.sb,0,none⟩=some (.pointer (some ⟨d.px,0,none⟩)):=by rw[←hw0,World.cell?_alloc_lt _ _ _ hsb];exact z0
 have v1:w0.cell? ⟨d.sb,1,none⟩=some (.pointer (some ⟨d.py,0,none⟩)):=by rw[←hw0,World.cell?_alloc_lt _ _ _ hsb];exact z1
 have b0:w0.cell? ⟨w.heap.size,0,none⟩=some (.int .i64 15):=by rw[←hw0];simp
 have b1:w0.cell? ⟨w.heap.size,1,none⟩=some (.int .i64 oH):=by rw[←hw0];simp
 have b2:w0.cell? ⟨w.heap.size,2,none⟩=some (.int .i64 oA):=by rw[←hw0];simp
 have b3:w0.cell? ⟨w.heap.size,3,none⟩=some (.int .i64 oB):=by rw[←hw0];simp
 have b4:w0.cell? ⟨w.heap.size,4,none⟩=some (.int .i64 oC):=by rw[←hw0];simp
 have hs0:w0.heap.size=w.heap.size+1:=by rw[←hw0];simp
 have HK0:Hid (Kp0 w w0):=hid (by rw[←hw0];exact Kp.alloc (Kp.refl _ _) _);clear hw0;have HXC:Hid (∀W,Kp0 w0 W→Calls Tryz.prog 67 #[.pointer (some ⟨d.px,0,none⟩),.int .i64 oA,.int .i64 oH,.int .i64 oB,.int .i64 oC] W fun e w3=>e=.returned (.int .i64 er)∧∃T3,TagsTo w0 T1 T3∧Inv R T3 w3 p S (L.set i {d with σx:=σN})∧Kp (fun b=>(T1 b).1=10+2*i) w0 w3):=hid (fun W kW=>by
  have hIW:=HI1.out.kp0 HX.out (fun _ _=>rfl) (HK0.out.trans kW);refine(HF.out _ _ _ _ _ oA oH oB oC (hIW.side i d HD.out).x).mono ?_;rintro e w3 ⟨rfl,T3,ht3,hr3,hk3⟩;rw[hsx];rw[hσX]at hr3;exact⟨rfl,T3,fun b hb=>ht3 b (Nat.lt_of_lt_of_le hb kW.size),hIW.stepX HX.out HD.out ht3 hr3 hk3,(Kp.of0 kW).trans hk3 (fun _ _ e=>e)⟩)
 have HD3:Hid ((L.set i {d with σx:=σN})[i]? =some {d with σx:=σN}):=hid (by
  rw[List.getElem?_set];have:i<L.length:=by
   have h:=HD.out;rcases Nat.lt_or_ge i L.length with h'|h'
   ·exact h'
   ·rw[List.getElem?_eq_none h']at h;cases h
  simp[this])
 have HYC:Hid (∀T3 W,Inv R T3 W p S (L.set i {d with σx:=σN})→Calls Tryz.prog 82 #[.pointer (some ⟨d.py,0,none⟩),.int .i64 oA,.int .i64 oH,.int .i64 oB,.int .i64 oC] W fun e w4=>e=.returned (.int .i64 er)∧∃T4,TagsTo W T3 T4∧Inv R T4 w4 p S ((L.set i {d with σx:=σN}).set i {{d with σx:=σN}with σy:=σN})∧Kp (fun b=>(T3 b).1=11+2*i) W w4):=hid (fun T3 W hIW=>by
  refine(ywork_calls (hIW.side i _ HD3.out).y oA oH oB oC).mono ?_;rintro e w4 ⟨rfl,hst4⟩;obtain⟨T4,ht4,hr4,hk4⟩:=hst4.step;rw[show(d.σy.work oA oH oB oC).2=er from hst];rw[show(d.σy.work oA oH oB oC).1=σN from hσN]at hr4;exact⟨rfl,T4,ht4,hIW.stepY HX.out HD3.out ht4 hr4 hk4,hk4⟩)
 have nn:Hid (∀b,w.heap.size≤b→¬(T1 b).1=10+2*i):=hid (fun b hb=>by rw[HNEW.out b hb];simp;omega);have nx:Hid (¬(T1 d.sb).1=10+2*i):=hid (by rw[HT1.out _ hsb,HSD.out.tag];simp;omega);have hs0':w.heap.size<w0.heap.size:=by omega
 rw[hσN];clear hst hsx hσN hσX z0 z1 hs0;go_enter Tryz.func40,Tryz.ntmps40
 go_wp2_with fail
 rw[HW0.out]
 go_region_held3 (fun w'=>w'.cell? ⟨d.sb,0,none⟩=some (.pointer (some ⟨d.px,0,none⟩))∧w'.cell? ⟨w.heap.size,1,none⟩=some (.int .i64 oH)∧w'.cell? ⟨w.heap.size,2,none⟩=some (.int .i64 oA)∧w'.cell? ⟨w.heap.size,3,none⟩=some (.int .i64 oB)∧w'.cell? ⟨w.heap.size,4,none⟩=some (.int .i64 oC)) (first|go_keep|(go_split_ands;exact⟨hk3.cell v0 nx.out,hk3.cell b1 (nn.out _ (Nat.le_refl _)),hk3.cell b2 (nn.out _ (Nat.le_refl _)),hk3.cell b3 (nn.out _ (Nat.le_refl _)),hk3.cell b4 (nn.out _ (Nat.le_refl _))⟩))
  ((go_at_call 67;refine(HXC.out _ ?_).mono ?_;(first|exact Kp0.refl _|exact Kp0.drew (Kp0.refl _));rintro e w3 ⟨rfl,T3,ht3,hI3,hk3⟩))
 have d0:=hk3.cell b0 (nn.out _ (Nat.le_refl _));have d1:=hk3.cell b1 (nn.out _ (Nat.le_refl _));have d2:=hk3.cell b2 (nn.out _ (Nat.le_refl _));have d3:=hk3.cell b3 (nn.out _ (Nat.le_refl _));have d4:=hk3.cell b4 (nn.out _ (Nat.le_refl _));have x1:=hk3.cell v1 nx.out;have hs3:w0.heap.size≤w3.heap.size:=hk3.size;have HI3:=hid hI3;have HT3:=hid ht3;have HK3:=hid hk3;clear ht3 hI3 hk3 b0 b1 b2 b3 b4 v0 v1 HXC;have HYC3:Hid (∀W,Kp0 w3 W→Calls Tryz.prog 82 #[.pointer (some ⟨d.py,0,none⟩),.int .i64 oA,.int .i64 oH,.int .i64 oB,.int .i64 oC] W fun e w4=>e=.returned (.int .i64 er)∧∃T4,TagsTo w3 T3 T4∧Inv R T4 w4 p S ((L.set i {d with σx:=σN}).set i {{d with σx:=σN}with σy:=σN})∧Kp (fun b=>(T3 b).1=11+2*i) w3 w4):=hid (fun W kW=>
  (HYC.out T3 W (HI3.out.kp0 HX.out (fun _ _=>rfl) kW)).mono (by
   rintro e w4 ⟨rfl,T4,ht4,hI4,hk4⟩;exact⟨rfl,T4,fun b hb=>ht4 b (Nat.lt_of_lt_of_le hb kW.size),hI4,(Kp.of0 kW).trans hk4 (fun _ _ e=>e)⟩))
 have nn4:Hid (∀b,w.heap.size≤b→b<w0.heap.size→¬(T3 b).1=11+2*i):=hid (fun b hb hb2=>by rw[HT3.out b hb2,HNEW.out b hb];simp;omega);have nx4:Hid (¬(T3 d.sb).1=11+2*i):=hid (by rw[HT3.out _ (by omega),HT1.out _ hsb,HSD.out.tag];simp;omega);have bq:(er==er)=true:=by simp
 go_wp2
 go_region_held3 (fun w'=>w'.cell? ⟨d.sb,1,none⟩=some (.pointer (some ⟨d.py,0,none⟩))∧w'.cell? ⟨w.heap.size,1,none⟩=some (.int .i64 oH)∧w'.cell? ⟨w.heap.size,2,none⟩=some (.int .i64 oA)∧w'.cell? ⟨w.heap.size,3,none⟩=some (.int .i64 oB)∧w'.cell? ⟨w.heap.size,4,none⟩=some (.int .i64 oC)) (first|go_keep|(go_split_ands;exact⟨hk4.cell x1 nx4.out,hk4.cell d1 (nn4.out _ (Nat.le_refl _) (by omega)),hk4.cell d2 (nn4.out _ (Nat.le_refl _) (by omega)),hk4.cell d3 (nn4.out _ (Nat.le_refl _) (by omega)),hk4.cell d4 (nn4.out _ (Nat.le_refl _) (by omega))⟩))
  ((go_at_call 82;refine(HYC3.out _ ?_).mono ?_;(first|exact Kp0.refl _|exact Kp0.drew (Kp0.refl _));rintro e w4 ⟨rfl,T4,ht4,hI4,hk4⟩))
 have HI4:=hid hI4;have HT4:=hid ht4;have HK4:=hid hk4;clear ht4 hI4 hk4 HYC HYC3 d0 d1 d2 d3 d4 x1;go_wp2
 go_ret;have hLL:(L.set i {d with σx:=σN}).set i {{d with σx:=σN}with σy:=σN}=L.set i {d with σx:=σN,σy:=σN}:=by rw[List.set_set]
 rw[←hLL];refine⟨ret_bool (by simp),T4,S,fun b hb=>by rw[HT4.out b (by omega),HT3.out b (by omega),HT1.out b hb],HI4.out,by omega,by omega,by omega,?_⟩;have k3:Kp (fun b=>5≤(T b).1) w w3:=(Kp.of0 HK0.out:Kp (fun b=>5≤(T b).1) w w0).trans HK3.out (fun b hb e=>by rw[HT1.out b hb]at e;omega);exact k3.trans HK4.out (fun b hb e=>by rw[HT3.out b (by omega),HT1.out b hb]at e;omega)
end Go.Proofs.YticbbncdcannlaaGreat
