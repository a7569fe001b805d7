import Derived.Test.YticbbncdcannlaaGreatG35
import Derived.Test.YticbbncdcannlaaGreatG37
set_option maxRecDepth 100000
set_option maxHeartbeats 8000000
namespace Go.Proofs.YticbbncdcannlaaGreat
open Go.RowKit
theorem step_calls3{R:Tags→Nat→World→Nat→Sp→Prop}(X:XC3 R):StepC R 16:=by
 intro T w p S L hI i d hd hσ o hL hA hk hnl hla hnt hm hb;by_cases h13:o.k≤13
 ·exact step_calls2 X.views T w p S L hI i d hd hσ o hL hA h13 hnl hla hnt hm hb
 obtain⟨k,oH,oA,oB,oC,oD,a,n,c,xs,wh⟩:=o;simp only at hL hA hk h13⊢;have hI0:∀W,Kp0 w W→Inv R T W p S L:=fun W kW=>hI.kp0 X.views.base (fun _ _=>rfl) kW
 have h16:k=14∨k=15∨k=16:=by omega
 rcases h16 with rfl|rfl|rfl
 ·refine(step_assign X.views.base X.assign hI hd hσ oH oA oB oC oD a n c wh).mono ?_
  rintro e w' ⟨rfl,h⟩;exact⟨rfl,h.more (by omega) (by omega)⟩
 ·refine(step_work X.views.base X.work hI hd hσ oH oA oB oC oD a n c wh).mono ?_
  rintro e w' ⟨rfl,h⟩;exact⟨rfl,h.more (by omega) (by omega)⟩
 ·exact step_views p d.sb 16 oH oA oB oC oD a n c wh _ (by omega) (fun W kW=>(views_fold X.views.base X.fold (hI0 W kW) hd hσ oH oA oB oC oD _ wh xs a n c (hL.kp0 kW) hnt hm hb).mono (by
   rintro e w' ⟨rfl,h⟩;exact⟨rfl,(h.kp0 kW).more (by omega) (by omega)⟩))
theorem all_calls{R:Tags→Nat→World→Nat→Sp→Prop}(X3:XC3 R)(w:World)(by' is mo ot:Int)(aS:Option Addr)(N cS:Nat)(ops:List OpD)(hN:ops.length=N)(hNb:N≤2000000)(hS:0<N→∃g off,aS=some ⟨g,off,none⟩∧Script (fun _=>(0,0)) w g off ops):Calls Tryz.prog 10 #[.int .i64 by',.int .i64 is,.int .i64 mo,.int .i64 ot,.slice aS N cS] w fun e w'=>e=.returned (.bool true)∧Kp0 w w':=by
 have X:=X3.views.base;have HX:=hid X;have HC:Hid (StepC R 16):=hid (step_calls3 X3);clear X3;have HI:=hid (start_inv (R:=R) w);have HS:=hid hS;have HN:=hid hN;have HST:Hid (∀b,b<w.heap.size→startTags w b=(0,0)):=hid (fun b hb=>by unfold startTags;rw[if_neg (by omega)]);clear X hS hN;have HK0:Hid (Kp0 w (w.alloc (.cells #[.slice none 0 0,.slice none 0 0,.slice none 0 0,.slice none 0 0,.int .i64 0] 28))):=hid (Kp.alloc (Kp.refl _ _) _);have HFT:=hid (first_calls HX.out);by_cases hm1:mayNew by' is=true
 ·by_cases hm2:mayNew mo ot=true
  ·have hmA:0≤by'∧by'≤10000∧0≤is∧is≤10000:=by simpa[mayNew]using hm1
   obtain⟨x1,rfl⟩:=Int.eq_ofNat_of_zero_le hmA.1;obtain⟨y1,rfl⟩:=Int.eq_ofNat_of_zero_le hmA.2.2.1;have hx1:x1≤10000:=by omega
   have hy1:y1≤10000:=by omega
   clear hm1 hmA;have hmA:0≤mo∧mo≤10000∧0≤ot∧ot≤10000:=by simpa[mayNew]using hm2
   obtain⟨x2,rfl⟩:=Int.eq_ofNat_of_zero_le hmA.1;obtain⟨y2,rfl⟩:=Int.eq_ofNat_of_zero_le hmA.2.2.1;have hx2:x2≤10000:=by omega
   have hy2:y2≤10000:=by omega
   clear hm2 hmA;have HT0:=HST;go_enter Tryz.func10,Tryz.ntmps10
   go_wp2_with fail
   refine(opens_yes HX.out HI.out x1 y1 hx1 hy1 (by simp)).mono ?_;rintro e v1 ⟨rfl,U1,vsd1,sb1,px1,py1,ht1,hI1,hk1⟩;have HJ1:=hid hI1;have HT1:Hid (∀b,b<w.heap.size→U1 b=(0,0)):=hid (fun b hb=>by rw[ht1 b (Nat.lt_of_lt_of_le hb HK0.out.size)];exact HT0.out b hb);have HQ1:Hid (Kp0 w v1):=hid (Kp.trans HK0.out hk1 (fun b hb e=>by rw[HT0.out b hb]at e;simp at e));clear hI1 hk1 ht1
   go_wp2_with fail
   refine(opens_yes HX.out HJ1.out x2 y2 hx2 hy2 (by simp)).mono ?_;rintro e v2 ⟨rfl,U2,vsd2,sb2,px2,py2,ht2,hI2,hk2⟩;have HJ2:=hid hI2;have HT2:Hid (∀b,b<w.heap.size→U2 b=(0,0)):=hid (fun b hb=>by rw[ht2 b (Nat.lt_of_lt_of_le hb HQ1.out.size)];exact HT1.out b hb);have HQ2:Hid (Kp0 w v2):=hid (Kp.trans HQ1.out hk2 (fun b hb e=>by rw[HT1.out b hb]at e;simp at e));clear hI2 hk2 ht2
   go_wp2_with fail
   refine(HFT.out _).mono ?_;rintro e v3 ⟨rfl,hk3⟩;have HJ3:=hid (HJ2.out.kp0 HX.out (fun _ _=>rfl) hk3);have HQ3:Hid (Kp0 w v3):=hid (HQ2.out.trans hk3);clear hk3;have HSC:Hid (0<N→∃g off,aS=some ⟨g,off,none⟩∧Script U2 v3 g off ops):=hid (fun hpos=>by
    obtain⟨g,off,e,h⟩:=HS.out hpos;refine⟨g,off,e,?_⟩;exact h.went (fun b hb=>by rw[HT2.out b hb]) (Kp.of0 HQ3.out))
   go_wp2_with fail
   refine(play_any HX.out 16 HC.out HJ3.out 2 rfl (by omega) (by omega) (fun j d hd=>?_) aS N cS ops HN.out hNb HSC.out (by simp[WS.open',WS.zero]) (by simp[WS.open',WS.zero]) (by simp[WS.open',WS.zero])).mono ?_
   ·cases j with
    |zero=>
     simp at hd;subst hd;exact⟨rfl,by simp[Sp.new],by simp[Sp.new]⟩
    |succ j=>
     cases j with
     |zero=>
      simp at hd;subst hd;exact⟨rfl,by simp[Sp.new],by simp[Sp.new]⟩
     |succ j=>simp at hd
   ·rintro e v4 ⟨rfl,hk4⟩
    have HK4:=hid hk4;clear hk4;go_wp2
    go_ret;refine⟨rfl,?_⟩;exact Kp.trans HQ3.out HK4.out (fun b hb e=>by rw[HT2.out b hb]at e;simp at e)
  ·have hmA:0≤by'∧by'≤10000∧0≤is∧is≤10000:=by simpa[mayNew]using hm1
   obtain⟨x1,rfl⟩:=Int.eq_ofNat_of_zero_le hmA.1;obtain⟨y1,rfl⟩:=Int.eq_ofNat_of_zero_le hmA.2.2.1;have hx1:x1≤10000:=by omega
   have hy1:y1≤10000:=by omega
   clear hm1 hmA;have hmB2:mayNew mo ot=false:=by simpa using hm2
   have HM2:=hid hmB2;clear hm2 hmB2;have HT0:=HST;go_enter Tryz.func10,Tryz.ntmps10
   go_wp2_with fail
   refine(opens_yes HX.out HI.out x1 y1 hx1 hy1 (by simp)).mono ?_;rintro e v1 ⟨rfl,U1,vsd1,sb1,px1,py1,ht1,hI1,hk1⟩;have HJ1:=hid hI1;have HT1:Hid (∀b,b<w.heap.size→U1 b=(0,0)):=hid (fun b hb=>by rw[ht1 b (Nat.lt_of_lt_of_le hb HK0.out.size)];exact HT0.out b hb);have HQ1:Hid (Kp0 w v1):=hid (Kp.trans HK0.out hk1 (fun b hb e=>by rw[HT0.out b hb]at e;simp at e));clear hI1 hk1 ht1
   go_wp2_with fail
   refine(opens_no HX.out _ w.heap.size mo ot HM2.out).mono ?_;rintro e v2 ⟨rfl,hk2⟩;have HJ2:=hid (HJ1.out.kp0 HX.out (fun _ _=>rfl) hk2);have HT2:=hid HT1.out;have HQ2:Hid (Kp0 w v2):=hid (HQ1.out.trans hk2);clear hk2
   go_wp2_with fail
   refine(HFT.out _).mono ?_;rintro e v3 ⟨rfl,hk3⟩;have HJ3:=hid (HJ2.out.kp0 HX.out (fun _ _=>rfl) hk3);have HQ3:Hid (Kp0 w v3):=hid (HQ2.out.trans hk3);clear hk3;have HSC:Hid (0<N→∃g off,aS=some ⟨g,off,none⟩∧Script U1 v3 g off ops):=hid (fun hpos=>by
    obtain⟨g,off,e,h⟩:=HS.out hpos;refine⟨g,off,e,?_⟩;exact h.went (fun b hb=>by rw[HT2.out b hb]) (Kp.of0 HQ3.out))
   go_wp2_with fail
   refine(play_any HX.out 16 HC.out HJ3.out 1 rfl (by omega) (by omega) (fun j d hd=>?_) aS N cS ops HN.out hNb HSC.out (by simp[WS.open',WS.zero]) (by simp[WS.open',WS.zero]) (by simp[WS.open',WS.zero])).mono ?_
   ·cases j with
    |zero=>
     simp at hd;subst hd;exact⟨rfl,by simp[Sp.new],by simp[Sp.new]⟩
    |succ j=>simp at hd
   ·rintro e v4 ⟨rfl,hk4⟩
    have HK4:=hid hk4;clear hk4;go_wp2
    go_ret;refine⟨rfl,?_⟩;exact Kp.trans HQ3.out HK4.out (fun b hb e=>by rw[HT2.out b hb]at e;simp at e)
 ·by_cases hm2:mayNew mo ot=true
  ·have hmB1:mayNew by' is=false:=by simpa using hm1
   have HM1:=hid hmB1;clear hm1 hmB1;have hmA:0≤mo∧mo≤10000∧0≤ot∧ot≤10000:=by simpa[mayNew]using hm2
   obtain⟨x2,rfl⟩:=Int.eq_ofNat_of_zero_le hmA.1;obtain⟨y2,rfl⟩:=Int.eq_ofNat_of_zero_le hmA.2.2.1;have hx2:x2≤10000:=by omega
   have hy2:y2≤10000:=by omega
   clear hm2 hmA;have HT0:=HST;go_enter Tryz.func10,Tryz.ntmps10
   go_wp2_with fail
   refine(opens_no HX.out _ w.heap.size by' is HM1.out).mono ?_;rintro e v1 ⟨rfl,hk1⟩;have HJ1:=hid (HI.out.kp0 HX.out (fun _ _=>rfl) hk1);have HT1:=hid HT0.out;have HQ1:Hid (Kp0 w v1):=hid (HK0.out.trans hk1);clear hk1
   go_wp2_with fail
   refine(opens_yes HX.out HJ1.out x2 y2 hx2 hy2 (by simp)).mono ?_;rintro e v2 ⟨rfl,U2,vsd2,sb2,px2,py2,ht2,hI2,hk2⟩;have HJ2:=hid hI2;have HT2:Hid (∀b,b<w.heap.size→U2 b=(0,0)):=hid (fun b hb=>by rw[ht2 b (Nat.lt_of_lt_of_le hb HQ1.out.size)];exact HT1.out b hb);have HQ2:Hid (Kp0 w v2):=hid (Kp.trans HQ1.out hk2 (fun b hb e=>by rw[HT1.out b hb]at e;simp at e));clear hI2 hk2 ht2
   go_wp2_with fail
   refine(HFT.out _).mono ?_;rintro e v3 ⟨rfl,hk3⟩;have HJ3:=hid (HJ2.out.kp0 HX.out (fun _ _=>rfl) hk3);have HQ3:Hid (Kp0 w v3):=hid (HQ2.out.trans hk3);clear hk3;have HSC:Hid (0<N→∃g off,aS=some ⟨g,off,none⟩∧Script U2 v3 g off ops):=hid (fun hpos=>by
    obtain⟨g,off,e,h⟩:=HS.out hpos;refine⟨g,off,e,?_⟩;exact h.went (fun b hb=>by rw[HT2.out b hb]) (Kp.of0 HQ3.out))
   go_wp2_with fail
   refine(play_any HX.out 16 HC.out HJ3.out 1 rfl (by omega) (by omega) (fun j d hd=>?_) aS N cS ops HN.out hNb HSC.out (by simp[WS.open',WS.zero]) (by simp[WS.open',WS.zero]) (by simp[WS.open',WS.zero])).mono ?_
   ·cases j with
    |zero=>
     simp at hd;subst hd;exact⟨rfl,by simp[Sp.new],by simp[Sp.new]⟩
    |succ j=>simp at hd
   ·rintro e v4 ⟨rfl,hk4⟩
    have HK4:=hid hk4;clear hk4;go_wp2
    go_ret;refine⟨rfl,?_⟩;exact Kp.trans HQ3.out HK4.out (fun b hb e=>by rw[HT2.out b hb]at e;simp at e)
  ·have hmB1:mayNew by' is=false:=by simpa using hm1
   have HM1:=hid hmB1;clear hm1 hmB1;have hmB2:mayNew mo ot=false:=by simpa using hm2
   have HM2:=hid hmB2;clear hm2 hmB2;have HT0:=HST;go_enter Tryz.func10,Tryz.ntmps10
   go_wp2_with fail
   refine(opens_no HX.out _ w.heap.size by' is HM1.out).mono ?_;rintro e v1 ⟨rfl,hk1⟩;have HJ1:=hid (HI.out.kp0 HX.out (fun _ _=>rfl) hk1);have HT1:=hid HT0.out;have HQ1:Hid (Kp0 w v1):=hid (HK0.out.trans hk1);clear hk1
   go_wp2_with fail
   refine(opens_no HX.out _ w.heap.size mo ot HM2.out).mono ?_;rintro e v2 ⟨rfl,hk2⟩;have HJ2:=hid (HJ1.out.kp0 HX.out (fun _ _=>rfl) hk2);have HT2:=hid HT1.out;have HQ2:Hid (Kp0 w v2):=hid (HQ1.out.trans hk2);clear hk2
   go_wp2_with fail
   refine(HFT.out _).mono ?_;rintro e v3 ⟨rfl,hk3⟩;have HJ3:=hid (HJ2.out.kp0 HX.out (fun _ _=>rfl) hk3);have HQ3:Hid (Kp0 w v3):=hid (HQ2.out.trans hk3);clear hk3
   go_wp2_with fail
   refine(play_none HJ3.out _ 16).mono ?_;rintro e v4 ⟨rfl,hk4⟩;have HK4:=hid hk4;clear hk4;go_wp2
   go_ret;exact⟨rfl,HQ3.out.trans HK4.out⟩
end Go.Proofs.YticbbncdcannlaaGreat
