import Derived.StillTailTactics
import Derived.Deep.RegionLaw
import Derived.BigRegion
import Derived.Test.YticbbncdcannlaaGreatG21
set_option maxRecDepth 100000
set_option maxHeartbeats 8000000
namespace Go.Proofs.YticbbncdcannlaaGreat
open Go.RowKit
theorem writesY_congr{σ:Sp}{kind:Int}{ps:List Int}{f g:Nat→Int}(k:Nat)(h:∀j,j<k→f j=g j):σ.writes kind ps f k=σ.writes kind ps g k:=by
 induction k with
 |zero=>rfl
 |succ k ih=>rw[Sp.writes,Sp.writes,ih (fun j hj=>h j (by omega)),h k (by omega)]
theorem asK_asK(k v:Int):asK k (asK k v)=asK k v:=by
 unfold asK;split
 ·omega
 ·rfl
theorem asK_op{k:Int}(hk:k=1∨k=2)(op a b:Int):asK k (opK op k (asK k a) (asK k b))=opK op k (asK k a) (asK k b):=by
 have key:∀v,asK k (wrapK k v)=wrapK k v:=fun v=>by
  unfold asK wrapK;rcases hk with rfl|rfl
  ·rw[if_pos rfl,if_pos rfl];omega
  ·rfl
 unfold opK
 repeat' split
 all_goals first|exact key _|exact asK_asK _ _
def wkTo(op kd:Int)(l m:List Int):Nat→List Int
 |0=>l
 |k+1=>(wkTo op kd l m k).set k (opK op kd (asK kd (nth l k)) (asK kd (nth m k)))
theorem wkTo_length(op kd:Int)(l m:List Int)(k:Nat):(wkTo op kd l m k).length=l.length:=by
 induction k with
 |zero=>rfl
 |succ k ih=>rw[wkTo,List.length_set,ih]
theorem wkTo_nth(op kd:Int)(l m:List Int)(k j:Nat)(hj:j<l.length):nth (wkTo op kd l m k) j=if j<k then opK op kd (asK kd (nth l j)) (asK kd (nth m j))else nth l j:=by
 induction k with
 |zero=>rw[if_neg (by omega)];rfl
 |succ k ih=>
  rw[wkTo];by_cases h:j=k
  ·rw[nth_setN _ _ _ _ (by rw[wkTo_length];omega),if_pos h,if_pos (by omega),h]
  ·have e:nth ((wkTo op kd l m k).set k (opK op kd (asK kd (nth l k)) (asK kd (nth m k)))) j=nth (wkTo op kd l m k) j:=by
    unfold nth List.getD;rw[List.getElem?_set_ne (by omega)]
   rw[e,ih];by_cases h2:j<k
   ·rw[if_pos h2,if_pos (by omega)]
   ·rw[if_neg h2,if_neg (by omega)]
theorem ywork_op{T:Tags}{o:Nat}{w:World}{p:Nat}{σ:Sp}(hy:YRep T o w p σ)(op to x y:Int)(hop:op<1∨5<op):Calls Tryz.prog 82 #[.pointer (some ⟨p,0,none⟩),.int .i64 op,.int .i64 to,.int .i64 x,.int .i64 y] w fun e w'=>e=.returned (.int .i64 (σ.work op to x y).2)∧YStep T o w p (σ.work op to x y).1 w':=by
 have HF:Hid (σ.work op to x y=(σ,1)):=hid (by unfold Sp.work;rw[if_pos hop]);have HYR:=hid hy;by_cases h1:op<1
 ·clear hy hop
  go_enter Tryz.func82,Tryz.ntmps82
  go_wp2
  go_ret;rw[HF.out];exact⟨rfl,YStep.same HYR.out (Kp0.refl _)⟩
 ·have h5:5<op:=by omega
  clear hy hop;go_enter Tryz.func82,Tryz.ntmps82
  go_wp2
  go_ret;rw[HF.out];exact⟨rfl,YStep.same HYR.out (Kp0.refl _)⟩
theorem ywork_nil{T:Tags}{o:Nat}{w:World}{p:Nat}{σ:Sp}(hy:YRep T o w p σ)(op to x y:Int)(h1:1≤op)(h5:op≤5)(hn:σ.find to=none∨σ.find x=none∨σ.find y=none):Calls Tryz.prog 82 #[.pointer (some ⟨p,0,none⟩),.int .i64 op,.int .i64 to,.int .i64 x,.int .i64 y] w fun e w'=>e=.returned (.int .i64 (σ.work op to x y).2)∧YStep T o w p (σ.work op to x y).1 w':=by
 have HF:Hid (σ.work op to x y=(σ,2)):=hid (by
  unfold Sp.work;rw[if_neg (by omega)];rcases hn with h|h|h
  ·rw[h]
  ·rw[h];cases σ.find to<;>rfl
  ·rw[h];cases σ.find to<;>cases σ.find x<;>rfl)
 have HYR:=hid hy;obtain⟨hok,L,hy⟩:=hy;have HO:=hid hok;have HY:=hid hy;have d1:¬op<1:=by omega
 have d2:¬5<op:=by omega
 rcases hy.find to with⟨hf1,hl1⟩|⟨a1,q1,u1,c1,hf1,hl1,-,-,-⟩<;>
 rcases hy.find x with⟨hf2,hl2⟩|⟨a2,q2,u2,c2,hf2,hl2,-,-,-⟩<;>
 rcases hy.find y with⟨hf3,hl3⟩|⟨a3,q3,u3,c3,hf3,hl3,-,-,-⟩<;>
 first
 |(exfalso;rw[hf1,hf2,hf3]at hn;simp at hn;done)
 |(have HL1:=hid hl1
   have HL2:=hid hl2
   have HL3:=hid hl3
   clear hy hok hf1 hf2 hf3 hl1 hl2 hl3 hn h1 h5
   go_enter Tryz.func82,Tryz.ntmps82
   go_wp2_with fail
   refine(yfind_calls HY.out HO.out to).mono ?_
   rintro e w' ⟨rfl,hw⟩
   obtain rfl:=hw.symm
   rw[HL1.out]
   simp only[ptr]
   go_wp2_with fail
   refine(yfind_calls HY.out HO.out x).mono ?_
   rintro e w' ⟨rfl,hw⟩
   obtain rfl:=hw.symm
   rw[HL2.out]
   simp only[ptr]
   go_wp2_with fail
   refine(yfind_calls HY.out HO.out y).mono ?_
   rintro e w' ⟨rfl,hw⟩
   obtain rfl:=hw.symm
   rw[HL3.out]
   simp only[ptr]
   go_wp2
   go_ret
   rw[HF.out]
   exact⟨rfl,YStep.same HYR.out (Kp0.refl _)⟩)
theorem ywork_some{T:Tags}{o:Nat}{w:World}{p:Nat}{σ:Sp}(hy:YRep T o w p σ)(op to x y:Int)(h1:1≤op)(h5:op≤5)(t a b:Arr)(hft:σ.find to=some t)(hfa:σ.find x=some a)(hfb:σ.find y=some b):Calls Tryz.prog 82 #[.pointer (some ⟨p,0,none⟩),.int .i64 op,.int .i64 to,.int .i64 x,.int .i64 y] w fun e w'=>e=.returned (.int .i64 (σ.work op to x y).2)∧YStep T o w p (σ.work op to x y).1 w':=by
 have HYR:=hid hy;obtain⟨hok,L,hy⟩:=hy;have HO:=hid hok;have HY:=hid hy;have d1:¬op<1:=by omega
 have d2:¬5<op:=by omega
 have HOP:=hid (And.intro h1 h5);have hw0:σ.work op to x y=if t.ro=true then(σ,6)else if stretchB a.shape t.shape=true∧stretchB b.shape t.shape=true then
   (σ.writes t.kind t.cells (fun i=>opK op t.kind (asK t.kind (nth (σ.seen a t.shape) i)) (asK t.kind (nth (σ.seen b t.shape) i))) t.cells.length,0)else(σ,4):=by
  unfold Sp.work;rw[if_neg (by omega),hft,hfa,hfb]
 have HW0:=hid hw0;rcases hy.find to with⟨hf1,-⟩|⟨t',q,vs,vc,hf1,hl1,hyt,hat1,-⟩
 ·rw[hft]at hf1;cases hf1
 rcases hy.find x with⟨hf2,-⟩|⟨a',r,us,uc,hf2,hl2,hya,hat2,-⟩
 ·rw[hfa]at hf2;cases hf2
 rcases hy.find y with⟨hf3,-⟩|⟨b',r2,ws,wc2,hf3,hl3,hyb,hat3,-⟩
 ·rw[hfb]at hf3;cases hf3
 rw[hft]at hf1;rw[hfa]at hf2;rw[hfb]at hf3;cases hf1
 cases hf2
 cases hf3
 have HL1:=hid hl1;have HL2:=hid hl2;have HL3:=hid hl3;have hto:=find_ok hok hat1;have hao:=find_ok hok hat2;have hbo:=find_ok hok hat3;have HTO:=hid hto;have HAO:=hid hao;have HBO:=hid hbo;have HYT:=hid hyt;have HYA:=hid hya;have HYB:=hid hyb;obtain⟨z0,z1,-,z3,-⟩:=hyt.parts;cases hro:t.ro with
 |true=>
  have HF:Hid (σ.work op to x y=(σ,6)):=hid (by rw[hw0,if_pos hro]);rw[hro]at z3;clear hy hok hft hfa hfb hl1 hl2 hl3 hyt hya hyb hat1 hat2 hat3 hto hao hbo hro hw0 HW0 h1 h5 z1 z0;go_enter Tryz.func82,Tryz.ntmps82
  go_wp2_with fail
  refine(yfind_calls HY.out HO.out to).mono ?_;rintro e w' ⟨rfl,hw⟩;obtain rfl:=hw.symm;rw[HL1.out];simp only[ptr]
  go_wp2_with fail
  refine(yfind_calls HY.out HO.out x).mono ?_;rintro e w' ⟨rfl,hw⟩;obtain rfl:=hw.symm;rw[HL2.out];simp only[ptr]
  go_wp2_with fail
  refine(yfind_calls HY.out HO.out y).mono ?_;rintro e w' ⟨rfl,hw⟩;obtain rfl:=hw.symm;rw[HL3.out];simp only[ptr];go_wp2
  go_ret;rw[HF.out];exact⟨rfl,YStep.same HYR.out (Kp0.refl _)⟩
 |false=>
  have HW1:Hid (σ.work op to x y=if stretchB a.shape t.shape=true∧stretchB b.shape t.shape=true then
   (σ.writes t.kind t.cells (fun i=>opK op t.kind (asK t.kind (nth (σ.seen a t.shape) i)) (asK t.kind (nth (σ.seen b t.shape) i))) t.cells.length,0)else(σ,4)):=hid (by rw[hw0,if_neg (by rw[hro];simp)])
  rw[hro]at z3;have HVN:Hid ((vol t.shape).toNat=t.cells.length∧1≤t.cells.length∧t.cells.length≤3600):=hid (by
   have h1:=hto.length;have h2:=vol_bd t.shape hto.shape.2.1 hto.shape.1 t.shape.length (Nat.le_refl _);rw[List.take_length]at h2;have h3:=hto.shape.2.2;omega)
  have HS1:Hid (∀W,Kp0 w W→_):=hid (fun W (kW:Kp0 w W)=>yseen_calls (hy.kp0 kW) hok r us uc a (hya.kp kW (fun _ _ e=>e)) hao vs t.shape hto.shape (hyt.shape.rd.kp0 kW));have HS2:Hid (∀W,Kp0 w W→_):=hid (fun W (kW:Kp0 w W)=>yseen_calls (hy.kp0 kW) hok r2 ws wc2 b (hyb.kp kW (fun _ _ e=>e)) hbo vs t.shape hto.shape (hyt.shape.rd.kp0 kW));have HKD:=hid hto.kind;have HTQ:=hid hyt.tag;clear hy hok hft hfa hfb hl1 hl2 hl3 hyt hya hyb hat1 hat2 hat3 hto hao hbo hro hw0 HW0 h1 h5;go_enter Tryz.func82,Tryz.ntmps82
  go_wp2_with fail
  refine(yfind_calls HY.out HO.out to).mono ?_;rintro e w' ⟨rfl,hw⟩;obtain rfl:=hw.symm;rw[HL1.out];simp only[ptr]
  go_wp2_with fail
  refine(yfind_calls HY.out HO.out x).mono ?_;rintro e w' ⟨rfl,hw⟩;obtain rfl:=hw.symm;rw[HL2.out];simp only[ptr]
  go_wp2_with fail
  refine(yfind_calls HY.out HO.out y).mono ?_;rintro e w' ⟨rfl,hw⟩;obtain rfl:=hw.symm;rw[HL3.out];simp only[ptr]
  go_wp2_with fail
  refine(HS1.out _ (Kp0.refl _)).mono ?_;rintro e w1 ⟨hk1,h1⟩;rcases h1 with⟨h1,rfl⟩|⟨h1,ao,c,rfl,ho1,hb1⟩
  ·have HK1:=hid hk1
   have HF:Hid (σ.work op to x y=(σ,4)):=hid (by rw[HW1.out,if_neg (by rw[h1];simp)]);have y1:=hk1.cell z1;clear hk1 h1
   go_wp2_with fail
   refine(HS2.out _ HK1.out).mono ?_;rintro e w2 ⟨hk2,h2⟩;have HK2:=hid (HK1.out.trans hk2);rcases h2 with⟨-,rfl⟩|⟨-,ao,c,rfl,-,-⟩
   ·clear hk2 y1
    go_wp2
    go_ret;rw[HF.out];exact⟨rfl,YStep.same HYR.out HK2.out⟩
   ·clear hk2 y1
    go_wp2
    go_ret;rw[HF.out];exact⟨rfl,YStep.same HYR.out HK2.out⟩
  ·have HK1:=hid hk1
   have HO1:=hid ho1;have HB1:=hid hb1;have HT1:=hid h1;have y1:=hk1.cell z1;clear hk1 h1 ho1 hb1
   go_wp2_with fail
   refine(HS2.out _ HK1.out).mono ?_;rintro e w2 ⟨hk2,h2⟩;have HK2:=hid (HK1.out.trans hk2);rcases h2 with⟨h2,rfl⟩|⟨h2,ao2,c2,rfl,ho2,hb2⟩
   ·have HF:Hid (σ.work op to x y=(σ,4)):=hid (by rw[HW1.out,if_neg (by rw[h2];simp)])
    clear hk2 y1 h2;go_wp2
    go_ret;rw[HF.out];exact⟨rfl,YStep.same HYR.out HK2.out⟩
   ·have HF:=hid (show σ.work op to x y=_ by rw[HW1.out,if_pos ⟨HT1.out,h2⟩])
    have HO1':=hid (HO1.out.kp hk2 (fun _ _ e=>e));obtain⟨n,hn⟩:∃n,t.cells.length=n:=⟨_,rfl⟩;have hnb:1≤n∧n≤3600:=by have:=HVN.out;omega
    have HNN:=hid hn;rw[HVN.out.1,hn]at HO1' ho2 hb2 HB1⊢;have HL1':Hid ((σ.seen a t.shape).length=n):=hid (by rw[seenY_length,HVN.out.1,hn]);have HL2':Hid ((σ.seen b t.shape).length=n):=hid (by rw[seenY_length,HVN.out.1,hn]);obtain⟨l,hl⟩:∃l,σ.seen a t.shape=l:=⟨_,rfl⟩;obtain⟨m,hm⟩:∃m,σ.seen b t.shape=m:=⟨_,rfl⟩;rw[hl]at HO1' HL1' HF;rw[hm]at ho2 HL2' HF;obtain⟨g2,cap2,hv2,_,_,hc2⟩:=ho2.slice (by rw[HL2'.out];omega);simp at hv2;obtain⟨rfl,-,-⟩:=hv2;rw[HL2'.out]at hc2;obtain⟨g1,cap1,hv1,_,hg1,-⟩:=HO1'.out.slice (by rw[HL1'.out];omega);simp at hv1;obtain⟨rfl,-,-⟩:=hv1;have hg12:¬g1=g2:=fun e=>by have h1:=own_lt HO1.out (b:=g1) rfl;have h2:=hb2 g2 rfl;omega
    have hgw:w.heap.size≤g1:=HB1.out g1 rfl;have HC2:=hid hc2;have z0':=HK2.out.cell z0;have hqg:¬q=g1:=fun e=>by have h:q<w.heap.size:=block_lt_of_cell z0;omega
    clear hk2 y1 h2 ho2 hb2 hc2 hl hm hn z0 z1 z3 HS1 HS2 HB1 HO1;go_wp2
    go_loopw [18] (fun u w'=>∃k:Nat,k≤n∧u=.int .i64 k∧OwI w' (.slice (some ⟨g1,0,none⟩) n c) (wkTo op t.kind l m k)∧Kp (fun b=>b=g1) w2 w') (fun u _=>n-(intOf u).toNat)
    case atStart=>exact⟨0,Nat.zero_le _,rfl,HO1'.out,Kp.refl _ _⟩
    case round=>
     obtain⟨k,hk,rfl,hO,hK⟩:=hrel;have HOk:=hid hO;have HKk:=hid hK;clear hO hK;by_cases hlt:k<n
     ·have k0:(0:Int)≤(k:Int):=by omega
      have k1:(k:Int)<(n:Int):=by omega
      obtain⟨g',e',hst,x1,x2⟩:=HOk.out.store k (opK op t.kind (asK t.kind (nth l k)) (asK t.kind (nth m k))) (by rw[wkTo_length,HL1'.out];exact hlt);simp at e';subst e';rw[wkTo_nth _ _ _ _ _ _ (by rw[HL1'.out];exact hlt),if_neg (by omega)]at x1;have x3:=HKk.out.cell (HC2.out k hlt) (fun e=>hg12 e.symm);have x4:=HKk.out.cell z0' hqg;have HST:Hid (OwI (wr.setCell ⟨g1,k,none⟩ (.int .i64 (opK op t.kind (asK t.kind (nth l k)) (asK t.kind (nth m k))))) (.slice (some ⟨g1,0,none⟩) n c) (wkTo op t.kind l m (k+1))):=hid hst;clear hst;generalize nth l k=lk at*;generalize nth m k=mk at*;have hqg':¬g1=q:=fun e=>hqg e.symm
      go_wp2
      have HA1:Hid (∀v W,Calls Tryz.prog 126 #[.int .i64 t.kind,.int .i64 v] W fun e w'=>∃u,e=.returned u∧(u=.int .i64 (asK t.kind v)∧w'=W)):=hid (fun v W=>(as_calls _ _ _).mono (by rintro e w' ⟨rfl,rfl⟩;exact⟨_,rfl,rfl,rfl⟩));have HA2:Hid (∀u v W,Calls Tryz.prog 125 #[.int .i64 op,.int .i64 t.kind,.int .i64 u,.int .i64 v] W fun e w'=>∃z,e=.returned z∧(z=.int .i64 (opK op t.kind u v)∧w'=W)):=hid (fun u v W=>(yop_calls _ _ _ _ _ HKD.out HOP.out.1 HOP.out.2).mono (by rintro e w' ⟨rfl,rfl⟩;exact⟨_,rfl,rfl,rfl⟩));have x1d:wr.drew.cell? ⟨g1,k,none⟩=some (.int .i64 lk):=x1;have x3d:wr.drew.cell? ⟨g2,k,none⟩=some (.int .i64 mk):=x3;have x4d:wr.drew.cell? ⟨q,0,none⟩=some (.int .i64 t.kind):=x4;have x2d:wr.drew.frozen? ⟨g1,k,none⟩=false:=x2;refine wp_region_still_tail 27 (by kernel_rfl) (by kernel_rfl) ?_;simp only[List.take_succ_cons,List.take_zero,List.drop_succ_cons,List.drop_zero];rw[show({wr with drawn:=wr.drawn+1}:World)=wr.drew from rfl]
      repeat still_step
      still_call (as_calls _ _ _)
      repeat still_step
      still_call (as_calls _ _ _)
      still_call (yop_calls _ _ _ _ _ HKD.out HOP.out.1 HOP.out.2)
      repeat still_step
      refine wpStill_nil ?_;have HK5:Hid (Kp (fun b=>b=g1) w2 (wr.setCell ⟨g1,k,none⟩ (.int .i64 (opK op t.kind (asK t.kind lk) (asK t.kind mk)))).drew):=hid ((HKk.out.setCell ⟨g1,k,none⟩ _ (fun _=>rfl)).drew);have HO5:=hid (OwI.drew HST.out);clear x1d x3d x4d HST;go_wp2
      go_roundw
      case rel=>exact⟨k+1,by omega,by go_num,HO5.out,HK5.out⟩
      case measure=>simp[intOf];omega
     ·obtain rfl:k=n:=by omega
      have k1:¬(k:Int)<(k:Int):=by omega
      have HKW:Hid (Kp0 w wr):=hid (Kp.trans HK2.out HKk.out (fun i hi e=>by omega));obtain⟨g',cap',hv',_,_,hc'⟩:=HOk.out.slice (by rw[wkTo_length,HL1'.out];omega);simp at hv';obtain⟨rfl,-,-⟩:=hv';rw[wkTo_length,HL1'.out]at hc';have HP:=hid (yput_calls (T:=retag w T (o,6)) ((HY.out.tags (retag_to w T _)).kp0 HKW.out) HO.out q vs vc t ((HYT.out.tags' (retag_to w T _)).kp HKW.out (fun _ _ e=>e)) HTO.out g1 c (wkTo op t.kind l m k) k HNN.out hc' (by rw[retag_new hgw];simp));have HCG:Hid (σ.writes t.kind t.cells (fun i=>asK t.kind (nth (wkTo op t.kind l m k) i)) k=σ.writes t.kind t.cells (fun i=>opK op t.kind (asK t.kind (nth l i)) (asK t.kind (nth m i))) k):=hid (writesY_congr k (fun j hj=>by
       rw[wkTo_nth _ _ _ _ _ _ (by rw[HL1'.out];exact hj),if_pos hj];exact asK_op HKD.out _ _ _))
      rw[HCG.out]at HP;clear hc' hlt hk
      go_wp2_with fail
      refine HP.out.mono ?_;rintro e w3 ⟨rfl,hy3,hk3⟩;have HY3:=hid hy3;have HK3:=hid hk3;clear hy3 hk3;go_wp2
      go_ret;rw[HF.out,HNN.out];exact⟨rfl,YStep.of (writes_ok HO.out _ _ _ _) HKW.out HY3.out HK3.out⟩
theorem ywork_calls{T:Tags}{o:Nat}{w:World}{p:Nat}{σ:Sp}(hy:YRep T o w p σ)(op to x y:Int):Calls Tryz.prog 82 #[.pointer (some ⟨p,0,none⟩),.int .i64 op,.int .i64 to,.int .i64 x,.int .i64 y] w fun e w'=>e=.returned (.int .i64 (σ.work op to x y).2)∧YStep T o w p (σ.work op to x y).1 w':=by
 by_cases hop:op<1∨5<op
 ·exact ywork_op hy op to x y hop
 cases ht:σ.find to with
 |none=>exact ywork_nil hy op to x y (by omega) (by omega) (.inl ht)
 |some t=>
  cases ha:σ.find x with
  |none=>exact ywork_nil hy op to x y (by omega) (by omega) (.inr (.inl ha))
  |some a=>
   cases hb:σ.find y with
   |none=>exact ywork_nil hy op to x y (by omega) (by omega) (.inr (.inr hb))
   |some b=>exact ywork_some hy op to x y (by omega) (by omega) t a b ht ha hb
end Go.Proofs.YticbbncdcannlaaGreat
