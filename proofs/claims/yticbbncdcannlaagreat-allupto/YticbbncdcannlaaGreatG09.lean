import Derived.Test.YticbbncdcannlaaGreatG08
set_option maxRecDepth 100000
set_option maxHeartbeats 8000000
namespace Go.Proofs.YticbbncdcannlaaGreat
open Go.RowKit
theorem picked_nth(ce rk:List Int)(j:Nat)(h:j<rk.length):nth (picked ce rk) j=nth ce (nth rk j).toNat:=by
 rw[nth_lt (by simpa[picked]using h)];simp[picked,nth_lt h]
theorem derive_ok{σ:Sp}(h:σ.ok){a:Arr}(ha:a.ok σ)(s rk:List Int)(hs:okShape s)(hl:(rk.length:Int)=vol s)(hb:∀j,j<rk.length→0≤nth rk j∧nth rk j<a.cells.length)(read:Bool)(hm:σ.arrs.length+1≤100000000):(σ.derive a s rk read).1.ok:=by
 unfold Sp.derive;split
 ·exact h
 ·refine lay_ok h _ ⟨ha.kind,hs,by simpa[picked]using hl,fun j hj=>?_,ha.buf⟩ hm
  have hj':j<rk.length:=by simpa[picked]using hj
  show 0≤nth (picked a.cells rk) j∧nth (picked a.cells rk) j<σ.cap a.kind;rw[picked_nth _ _ _ hj'];exact ha.inside _ (by have:=hb j hj';omega)
def Sp.stretch(σ:Sp)(h:Int)(s:List Int):Sp×Int×Int:=match σ.find h with
 |none=>(σ,0,2)
 |some a=>if shapeB s=false then(σ,0,4)else if stretchB a.shape s=false then(σ,0,4)else σ.derive a s (meant a.shape s) true
theorem ystretch_calls{T:Tags}{o:Nat}{w:World}{p:Nat}{σ:Sp}(hy:YRep T o w p σ)(h:Int)(vs:Value)(s:List Int)(hr:RdI w vs s)(hm:σ.arrs.length+1≤100000000):Calls Tryz.prog 114 #[.pointer (some ⟨p,0,none⟩),.int .i64 h,vs] w fun e w'=>e=.returned (.tuple #[.int .i64 (σ.stretch h s).2.1,.int .i64 (σ.stretch h s).2.2])∧YStep T o w p (σ.stretch h s).1 w':=by
 have HYR:=hid hy;obtain⟨hok,L,hy⟩:=hy;have HO:=hid hok;have HR:=hid hr;rcases hy.find h with⟨hf,hl⟩|⟨a,q,v1,v2,hf,hl,hya,hat,-⟩
 ·have HF:Hid (σ.stretch h s=(σ,0,2)):=hid (by unfold Sp.stretch;rw[hf])
  have HY:=hid hy;have HL:=hid hl;clear hy hok hf hl hr;go_enter Tryz.func114,Tryz.ntmps114
  go_wp2_with fail
  refine(yfind_calls HY.out HO.out h).mono ?_;rintro e w' ⟨rfl,hw⟩;obtain rfl:=hw.symm;rw[HL.out];simp only[ptr];go_wp2
  go_ret2
  rw[HF.out];exact⟨rfl,YStep.same HYR.out (Kp0.refl _)⟩
 ·have hao:=find_ok hok hat
  obtain⟨-,z1,-,-,-⟩:=hya.parts;have HY:=hid hy;have HL:=hid hl;have HAO:=hid hao;have HYA:=hid hya;cases hsb:shapeB s
  ·have HF:Hid (σ.stretch h s=(σ,0,4)):=hid (by unfold Sp.stretch;rw[hf];simp[hsb])
   have HS:=hid hsb;clear hy hok hf hl hr hao hya hat hsb;go_enter Tryz.func114,Tryz.ntmps114
   go_wp2_with fail
   refine(yfind_calls HY.out HO.out h).mono ?_;rintro e w' ⟨rfl,hw⟩;obtain rfl:=hw.symm;rw[HL.out];simp only[ptr]
   go_wp2_with fail
   refine(shape_calls _ _ _ HR.out).mono ?_;rintro e w' ⟨rfl,hw⟩;obtain rfl:=hw.symm;rw[HS.out];go_wp2
   go_ret2
   rw[HF.out];exact⟨rfl,YStep.same HYR.out (Kp0.refl _)⟩
  ·have HS:=hid hsb
   cases hst:stretchB a.shape s
   ·have HF:Hid (σ.stretch h s=(σ,0,4)):=hid (by unfold Sp.stretch;rw[hf];simp[hsb,hst])
    have HST:=hid hst;clear hy hok hf hl hr hao hya hat hsb hst;go_enter Tryz.func114,Tryz.ntmps114
    go_wp2_with fail
    refine(yfind_calls HY.out HO.out h).mono ?_;rintro e w' ⟨rfl,hw⟩;obtain rfl:=hw.symm;rw[HL.out];simp only[ptr]
    go_wp2_with fail
    refine(shape_calls _ _ _ HR.out).mono ?_;rintro e w' ⟨rfl,hw⟩;obtain rfl:=hw.symm;rw[HS.out]
    go_wp2_with fail
    refine(meant_calls _ _ _ _ _ HYA.out.shape.rd HR.out HAO.out.shape ((shapeB_iff s).1 HS.out)).mono ?_;rintro e w1 ⟨hk1,h1⟩;rcases h1 with⟨-,rfl⟩|⟨h1,-⟩
    ·have HK1:=hid hk1
     clear hk1;go_wp2
     go_ret2
     rw[HF.out];exact⟨rfl,YStep.same HYR.out HK1.out⟩
    ·rw[HST.out]at h1
     cases h1
   ·have HF:Hid (σ.stretch h s=σ.derive a s (meant a.shape s) true):=hid (by unfold Sp.stretch;rw[hf];simp[hsb,hst])
    have HST:=hid hst;clear hy hok hf hl hr hao hya hat hsb hst;go_enter Tryz.func114,Tryz.ntmps114
    go_wp2_with fail
    refine(yfind_calls HY.out HO.out h).mono ?_;rintro e w' ⟨rfl,hw⟩;obtain rfl:=hw.symm;rw[HL.out];simp only[ptr]
    go_wp2_with fail
    refine(shape_calls _ _ _ HR.out).mono ?_;rintro e w' ⟨rfl,hw⟩;obtain rfl:=hw.symm;rw[HS.out]
    go_wp2_with fail
    refine(meant_calls _ _ _ _ _ HYA.out.shape.rd HR.out HAO.out.shape ((shapeB_iff s).1 HS.out)).mono ?_;rintro e w1 ⟨hk1,h1⟩;rcases h1 with⟨h1,-⟩|⟨-,ao,cc,rfl,ho1⟩
    ·rw[HST.out]at h1
     cases h1
    ·have HK1:=hid hk1
     have HO1:=hid ho1;clear hk1 ho1;have hsh:=(shapeB_iff s).1 HS.out;have hv:=vol_bd s hsh.2.1 hsh.1 s.length (Nat.le_refl _);rw[List.take_length]at hv;have hv2:=hsh.2.2;have HBD:Hid (∀j,j<(vol s).toNat→0≤nth (meant a.shape s) j∧nth (meant a.shape s) j<a.cells.length):=hid (fun j hj=>by
      have:=meant_bd a.shape s HAO.out.shape hsh HST.out j hj;rw[HAO.out.length];exact this)
     have HSH:=hid hsh;clear hsh;have HCA:=hid (yderived_calls (HY.out.kp0 HK1.out) HO.out q v1 v2 a (HYA.out.kp HK1.out (fun _ _ e=>e)) HAO.out vs (.slice ao (vol s).toNat cc) s (meant a.shape s) HSH.out (HR.out.kp0 HK1.out) HO1.out.rd (vol s).toNat (meant_length _ _) (by omega) (by omega) HBD.out true);have HV:=hid hv;clear hv hv2
     go_wp2_with fail
     refine HCA.out.mono ?_;rintro e w2 ⟨rfl,hex⟩;have HEX:=hid hex;clear hex;go_wp2
     go_ret2
     rw[HF.out];refine⟨rfl,?_⟩;obtain⟨T',L',ht,hy2,hk2⟩:=HEX.out;have s1:=HK1.out.size;refine⟨T',fun b hb=>ht b (by omega),⟨derive_ok HO.out HAO.out s _ HSH.out (by rw[meant_length];have:=HV.out;omega) (by rw[meant_length];exact HBD.out) true hm,L',hy2⟩,?_⟩;exact(Kp.of0 HK1.out).trans hk2 (fun i hi h=>by rcases h with h|h<;>rw[h]<;>simp[Mut])
def cutA(n:Nat)(axis count step:Int):Bool:=decide (0≤axis)&&decide (axis<(n:Int))&&decide (1≤count)&&decide (count≤60)&& !decide (step=0)
def cutR(size start count step:Int):Bool:=(decide (count≤1)||(decide (-60≤step)&&decide (step≤60)))&&(List.range count.toNat).all fun i:Nat=>decide (0≤start+(i:Int)*step)&&decide (start+(i:Int)*step<size)
theorem cutR_iff(size start count step:Int):cutR size start count step=true↔(count≤1∨(-60≤step∧step≤60))∧∀i:Nat,i<count.toNat→0≤start+(i:Int)*step∧start+(i:Int)*step<size:=by
 unfold cutR;simp[List.all_eq_true]
def cutB(s:List Int)(axis start count step:Int):Bool:=cutA s.length axis count step&&cutR (nth s axis.toNat) start count step
def cutL(l:List Int)(k:Nat)(start count step:Int):List Int:=l.set k (if 1<count then start+nth l k*step else start)
def cutRk(s:List Int)(k:Nat)(start count step:Int):List Int:=(List.range (vol (s.set k count)).toNat).map fun r:Nat=>rank s (cutL (idx (s.set k count) r) k start count step)
def Sp.cut(σ:Sp)(h axis start count step:Int):Sp×Int×Int:=match σ.find h with
 |none=>(σ,0,2)
 |some a=>if cutB a.shape axis start count step=false then(σ,0,5)else σ.derive a (a.shape.set axis.toNat count) (cutRk a.shape axis.toNat start count step) false
theorem ycut_none{T:Tags}{o:Nat}{w:World}{p:Nat}{σ:Sp}{L:YL}(hy:YAt T o w p L σ)(hok:σ.ok)(h axis start count step:Int)(hl:L.at h=none):Calls Tryz.prog 112 #[.pointer (some ⟨p,0,none⟩),.int .i64 h,.int .i64 axis,.int .i64 start,.int .i64 count,.int .i64 step] w fun e w'=>e=.returned (.tuple #[.int .i64 0,.int .i64 2])∧Kp0 w w':=by
 have HO:=hid hok;have HY:=hid hy;have HL:=hid hl;clear hy hok hl;go_enter Tryz.func112,Tryz.ntmps112
 go_wp2_with fail
 refine(yfind_calls HY.out HO.out h).mono ?_;rintro e w' ⟨rfl,hw⟩;obtain rfl:=hw.symm;rw[HL.out];simp only[ptr];go_wp2
 go_ret2
 exact⟨rfl,Kp0.refl _⟩
theorem ycut_args{T:Tags}{o:Nat}{w:World}{p q n cs:Nat}{σ:Sp}{L:YL}(hy:YAt T o w p L σ)(hok:σ.ok)(h axis start count step:Int)(hl:L.at h=some q)(sa:Option Addr)(c1:w.cell? ⟨q,1,none⟩=some (.slice sa n cs))(hbad:cutA n axis count step=false):Calls Tryz.prog 112 #[.pointer (some ⟨p,0,none⟩),.int .i64 h,.int .i64 axis,.int .i64 start,.int .i64 count,.int .i64 step] w fun e w'=>e=.returned (.tuple #[.int .i64 0,.int .i64 5])∧Kp0 w w':=by
 have HO:=hid hok;have HY:=hid hy;have HL:=hid hl;have HB:=hid hbad;clear hy hok hl hbad;go_enter Tryz.func112,Tryz.ntmps112
 go_wp2_with fail
 refine(yfind_calls HY.out HO.out h).mono ?_;rintro e w' ⟨rfl,hw⟩;obtain rfl:=hw.symm;rw[HL.out];simp only[ptr];by_cases h1:axis<0
 ·go_wp2
  go_ret2
  exact⟨rfl,by repeat' (first|exact Kp0.refl _|refine Kp.drew ?_)⟩
 ·by_cases h2:axis<(n:Int)
  ·by_cases h3:count<1
   ·go_wp2
    go_ret2
    exact⟨rfl,by repeat' (first|exact Kp0.refl _|refine Kp.drew ?_)⟩
   ·by_cases h4:60<count
    ·go_wp2
     go_ret2
     exact⟨rfl,by repeat' (first|exact Kp0.refl _|refine Kp.drew ?_)⟩
    ·have h5:step=0:=by
      have:=HB.out;unfold cutA at this;simp at this;omega
     have d5:(step==0)=true:=by simp[h5]
     clear h5;go_wp2
     go_ret2
     exact⟨rfl,by repeat' (first|exact Kp0.refl _|refine Kp.drew ?_)⟩
  ·go_wp2
   go_ret2
   exact⟨rfl,by repeat' (first|exact Kp0.refl _|refine Kp.drew ?_)⟩
theorem cutA_iff(n:Nat)(axis count step:Int):cutA n axis count step=true↔0≤axis∧axis<(n:Int)∧1≤count∧count≤60∧step≠0:=by
 unfold cutA;simp[and_assoc]
theorem cut_next(start step:Int)(i:Nat):start+(i:Int)*step+step=start+((i+1:Nat):Int)*step:=by
 rw[Int.natCast_add,Int.add_mul];simp;omega
theorem ycut_range{T:Tags}{o:Nat}{w:World}{p q n cs g so ax cn:Nat}{σ:Sp}{L:YL}(hy:YAt T o w p L σ)(hok:σ.ok)(h start size step:Int)(hl:L.at h=some q)(c1:w.cell? ⟨q,1,none⟩=some (.slice (some ⟨g,so,none⟩) n cs))(c2:w.cell? ⟨g,so+ax,none⟩=some (.int .i64 size))(hsz:1≤size∧size≤60)(hax:ax<n)(_hn:n≤4)(hcn:1≤cn)(hcn2:cn≤60)(hst:step≠0)(hbad:cutR size start cn step=false):Calls Tryz.prog 112 #[.pointer (some ⟨p,0,none⟩),.int .i64 h,.int .i64 (ax:Int),.int .i64 start,.int .i64 (cn:Int),.int .i64 step] w fun e w'=>e=.returned (.tuple #[.int .i64 0,.int .i64 5])∧Kp0 w w':=by
 have HO:=hid hok;have HY:=hid hy;have HL:=hid hl;have HB:Hid (¬((((cn:Nat):Int)≤1∨(-60≤step∧step≤60))∧∀i:Nat,i<cn→0≤start+(i:Int)*step∧start+(i:Int)*step<size)):=hid (fun e=>by
  rw[(cutR_iff size start cn step).2 (by simpa using e)]at hbad;cases hbad)
 have d5:(step==0)=false:=by simp[hst]
 clear hy hok hl hbad hst;go_enter Tryz.func112,Tryz.ntmps112
 go_wp2_with fail
 refine(yfind_calls HY.out HO.out h).mono ?_;rintro e w' ⟨rfl,hw⟩;obtain rfl:=hw.symm;rw[HL.out];simp only[ptr];have a1:¬((ax:Int)<0):=by omega
 have a2:(ax:Int)<(n:Int):=by omega
 have a3:¬((cn:Int)<1):=by omega
 have a4:¬(60<(cn:Int)):=by omega
 go_wp2
 go_loopw [16,17] (fun u t w'=>∃k:Nat,k≤cn∧t=.int .i64 k∧∃x:Int,u=.int .i64 x∧(k<cn→x=start+(k:Int)*step)∧(∀j:Nat,j<k→0≤start+(j:Int)*step∧start+(j:Int)*step<size)∧(1≤k→((cn:Int)≤1∨(-60≤step∧step≤60)))∧Kp0 w w') (fun _ t _=>cn-(intOf t).toNat)
 case atStart=>exact⟨0,Nat.zero_le _,rfl,start,rfl,fun _=>by simp,fun j hj=>absurd hj (Nat.not_lt_zero _),fun e=>absurd e (by omega),by repeat' (first|exact Kp0.refl _|refine Kp.drew ?_)⟩
 case round=>
  obtain⟨k,hk,rfl,x,rfl,hx,hj,hs,hK⟩:=hrel;have HX:=hid hx;have HJ:=hid hj;have HS:=hid hs;have HK:=hid hK;clear hx hj hs hK;by_cases hlt:k<cn
  ·have i1:(k:Int)<(cn:Int):=by omega
   by_cases x0:x<0
   ·go_wp2
    go_ret2
    exact⟨rfl,by repeat' (first|exact HK.out|refine Kp.drew ?_)⟩
   ·by_cases x1:x<size
    ·by_cases hlast:k+1<cn
     ·have i2:(k:Int)+1<(cn:Int):=by omega
      by_cases s1:60<step
      ·go_wp2
       go_ret2
       exact⟨rfl,by repeat' (first|exact HK.out|refine Kp.drew ?_)⟩
      ·by_cases s2:step< -60
       ·go_wp2
        go_ret2
        exact⟨rfl,by repeat' (first|exact HK.out|refine Kp.drew ?_)⟩
       ·go_wp2
        go_roundw
        case rel=>
         have hx:=HX.out hlt;refine⟨k+1,by omega,by go_num,x+step,by go_num,fun _=>by rw[hx];exact cut_next start step k,fun j hj=>?_,fun _=>.inr ⟨by omega,by omega⟩,by repeat' (first|exact HK.out|refine Kp.drew ?_)⟩;rcases Nat.lt_or_ge j k with h1|h1
         ·exact HJ.out j h1
         ·obtain rfl:j=k:=by omega
          rw[←hx];omega
        case measure=>simp[intOf];omega
     ·have i2:¬((k:Int)+1<(cn:Int)):=by omega
      go_wp2
      go_roundw
      case rel=>
       have hx:=HX.out hlt;refine⟨k+1,by omega,by go_num,x,rfl,fun e=>absurd e (by omega),fun j hj=>?_,fun _=>?_,by repeat' (first|exact HK.out|refine Kp.drew ?_)⟩
       ·rcases Nat.lt_or_ge j k with h1|h1
        ·exact HJ.out j h1
        ·obtain rfl:j=k:=by omega
         rw[←hx];omega
       ·rcases Nat.eq_zero_or_pos k with h1|h1
        ·left;omega
        ·exact HS.out h1
      case measure=>simp[intOf];omega
    ·go_wp2
     go_ret2
     exact⟨rfl,by repeat' (first|exact HK.out|refine Kp.drew ?_)⟩
  ·exact absurd ⟨HS.out (by omega),fun i hi=>HJ.out i (by omega)⟩ HB.out
theorem nth_setN(l:List Int)(k j:Nat)(x:Int)(hk:k<l.length):nth (l.set k x) j=if j=k then x else nth l j:=by
 unfold nth List.getD;rw[List.getElem?_set];by_cases h:j=k
 ·subst h;simp[hk]
 ·rw[if_neg h,if_neg (fun e=>h e.symm)]
theorem vol_mono(s t:List Int)(hl:t.length=s.length)(h:∀j,j<s.length→1≤nth t j∧nth t j≤nth s j)(k:Nat)(hk:k≤s.length):1≤vol (t.take k)∧vol (t.take k)≤vol (s.take k):=by
 induction k with
 |zero=>simp[vol]
 |succ k ih=>
  obtain⟨h1,h2⟩:=ih (by omega);obtain⟨h3,h4⟩:=h k (by omega);rw[vol_take t k (by omega),vol_take s k (by omega)];exact mul_bd h1 h2 h3 h4
theorem cut_le{size start step:Int}{cn:Nat}(hc:1≤cn)(hst:step≠0)(h:∀i:Nat,i<cn→0≤start+(i:Int)*step∧start+(i:Int)*step<size):(cn:Int)≤size:=by
 have h0:=h 0 (by omega);have h1:=h (cn-1) (by omega);have e:(((cn-1:Nat)):Int)=(cn:Int)-1:=by omega
 simp only[Int.natCast_zero,Int.zero_mul,Int.add_zero]at h0;rw[e]at h1;have hn:(0:Int)≤(cn:Int)-1:=by omega
 rcases Int.lt_or_le 0 step with hs|hs
 ·have:=Int.mul_le_mul_of_nonneg_left (show(1:Int)≤step by omega) hn
  rw[Int.mul_one]at this;omega
 ·have:=Int.mul_le_mul_of_nonneg_left (show step≤(-1:Int) by omega) hn
  rw[Int.mul_neg_one]at this;omega
theorem cut_shape{s:List Int}(hs:okShape s){k cn:Nat}{start step:Int}(hk:k<s.length)(hc:1≤cn)(hst:step≠0)(h:∀i:Nat,i<cn→0≤start+(i:Int)*step∧start+(i:Int)*step<nth s k):okShape (s.set k (cn:Int)):=by
 have hle:=cut_le hc hst h;have hlen:(s.set k (cn:Int)).length=s.length:=by simp
 have hall:∀j,j<s.length→1≤nth (s.set k (cn:Int)) j∧nth (s.set k (cn:Int)) j≤nth s j:=fun j hj=>by
  rw[nth_setN s k j _ hk];split
  ·rename_i e;subst e;omega
  ·exact⟨(hs.2.1 j hj).1,Int.le_refl _⟩
 refine⟨by rw[hlen];exact hs.1,fun j hj=>?_,?_⟩
 ·rw[hlen]at hj
  have:=hall j hj;have:=hs.2.1 j hj;omega
 ·have:=(vol_mono s _ hlen hall s.length (Nat.le_refl _)).2
  rw[List.take_length,List.take_of_length_le (by rw[hlen];exact Nat.le_refl _)]at this;exact Int.le_trans this hs.2.2
theorem cutL_length(l:List Int)(k:Nat)(start count step:Int):(cutL l k start count step).length=l.length:=by simp[cutL]
theorem cutL_in{s l:List Int}(_hs:okShape s){k cn:Nat}{start step:Int}(hk:k<s.length)(hc:1≤cn)(h:∀i:Nat,i<cn→0≤start+(i:Int)*step∧start+(i:Int)*step<nth s k)(hl:inB (s.set k (cn:Int)) l):inB s (cutL l k start cn step):=by
 have hll:l.length=s.length:=by rw[←hl.1];simp
 refine⟨by rw[cutL_length,hll],fun j hj=>?_⟩;have hlj:=hl.2 j (by simpa using hj);rw[nth_setN s k j _ hk]at hlj;unfold cutL;rw[nth_setN l k j _ (by omega)];by_cases e:j=k
 ·rw[if_pos e]
  subst e;rw[if_pos rfl]at hlj;by_cases h1:(1:Int)<(cn:Int)
  ·rw[if_pos h1]
   have:=h (nth l j).toNat (by omega);rw[show(((nth l j).toNat:Nat):Int)=nth l j by omega]at this;exact this
  ·rw[if_neg h1]
   have:=h 0 (by omega);simpa using this
 ·rw[if_neg e]
  rw[if_neg e]at hlj;exact hlj
theorem cutRk_length(s:List Int)(k:Nat)(start count step:Int):(cutRk s k start count step).length=(vol (s.set k count)).toNat:=by simp[cutRk]
theorem cutRk_take(s:List Int)(k:Nat)(start count step:Int)(r:Nat)(h:r<(vol (s.set k count)).toNat):(cutRk s k start count step).take (r+1)=(cutRk s k start count step).take r++[rank s (cutL (idx (s.set k count) r) k start count step)]:=by
 rw[take_snoc _ r (by rw[cutRk_length];exact h),nth_lt (by rw[cutRk_length];exact h)];simp[cutRk]
theorem cutRk_bd{s:List Int}(hs:okShape s){k cn:Nat}{start step:Int}(hk:k<s.length)(hc:1≤cn)(hst:step≠0)(h:∀i:Nat,i<cn→0≤start+(i:Int)*step∧start+(i:Int)*step<nth s k)(j:Nat)(hj:j<(vol (s.set k (cn:Int))).toNat):0≤nth (cutRk s k start cn step) j∧nth (cutRk s k start cn step) j<vol s:=by
 rw[nth_lt (by rw[cutRk_length];exact hj)];simp only[cutRk,List.getElem_map,List.getElem_range];have hin:=cutL_in hs hk hc h (idx_in (s.set k (cn:Int)) j (cut_shape hs hk hc hst h).2.1);unfold rank;rw[if_pos ((inBb_iff _ _).2 hin)];have:=rank_bd s _ hs.2.1 hin.2 s.length (Nat.le_refl _)
 rwa [List.take_length]at this
theorem rd_set{w:World}{g n c k:Nat}{s:List Int}(hn:s.length=n)(hk:k<n)(h:∀j,j<n→w.cell? ⟨g,j,none⟩=some (.int .i64 (nth s j)))(x:Int):RdI (w.setCell ⟨g,k,none⟩ (.int .i64 x)) (.slice (some ⟨g,0,none⟩) n c) (s.set k x):=by
 refine⟨some ⟨g,0,none⟩,c,by simp[hn],fun _=>⟨g,0,rfl,fun j hj=>?_⟩⟩;have hj':j<n:=by simpa[hn]using hj
 rw[Nat.zero_add,nth_setN s k j _ (by omega)];by_cases e:j=k
 ·rw[if_pos e,e]
  exact World.cell?_setCell_same _ _ _ (h k hk)
 ·rw[if_neg e,←h j hj']
  exact World.cell?_setCell_other _ _ _ _ (fun x=>e (by injection x with _ x _;exact x.symm))
theorem ycut_ok{T:Tags}{o:Nat}{w:World}{p q n cs g ax cn:Nat}{σ:Sp}{L:YL}{v2:Value}{a:Arr}(hy:YAt T o w p L σ)(hok:σ.ok)(h start size step:Int)(hl:L.at h=some q)(hya:YArr T o w q (.slice (some ⟨g,0,none⟩) n cs) v2 a)(hao:a.ok σ)(hsn:a.shape.length=n)(hcs:∀j,j<n→w.cell? ⟨g,j,none⟩=some (.int .i64 (nth a.shape j)))(hsz:nth a.shape ax=size)(hax:ax<n)(hcn:1≤cn)(hcn2:cn≤60)(hst:step≠0)(hgood:cutR size start cn step=true):Calls Tryz.prog 112 #[.pointer (some ⟨p,0,none⟩),.int .i64 h,.int .i64 (ax:Int),.int .i64 start,.int .i64 (cn:Int),.int .i64 step] w fun e w'=>e=.returned (.tuple #[.int .i64 (σ.derive a (a.shape.set ax cn) (cutRk a.shape ax start cn step) false).2.1,.int .i64 (σ.derive a (a.shape.set ax cn) (cutRk a.shape ax start cn step) false).2.2])∧∃T' L',TagsTo w T T'∧YAt T' o w' p L' (σ.derive a (a.shape.set ax cn) (cutRk a.shape ax start cn step) false).1∧Kp (fun b=>T b=(o,1)∨T b=(o,4)) w w':=by
 obtain⟨D,hD⟩:∃D,σ.derive a (a.shape.set ax cn) (cutRk a.shape ax start cn step) false=D:=⟨_,rfl⟩;rw[hD];have HD:=hid hD;clear hD;have hgd:=(cutR_iff size start cn step).1 hgood;have hgs:∀i:Nat,i<cn→0≤start+(i:Int)*step∧start+(i:Int)*step<nth a.shape ax:=fun i hi=>by rw[hsz];exact hgd.2 i (by omega)
 have hshp:=cut_shape hao.shape (by omega:ax<a.shape.length) hcn hst hgs;have hsb:=hao.shape.2.1 ax (by omega);rw[hsz]at hsb;have hn4:n≤4:=by have:=hao.shape.1;omega
 obtain⟨N,hN⟩:∃N:Nat,(vol (a.shape.set ax cn)).toNat=N:=⟨_,rfl⟩;have hvb:=vol_bd (a.shape.set ax cn) hshp.2.1 hshp.1 _ (Nat.le_refl _);rw[List.take_length]at hvb;have hvc:=hshp.2.2;have HVOL:Hid (vol (a.shape.set ax cn)=(N:Int)):=hid (by omega);have hNb:N≤3600:=by omega
 have hN1:1≤N:=by omega
 obtain⟨-,c1,-,-,-⟩:=hya.parts;have c2:w.cell? ⟨g,ax,none⟩=some (.int .i64 size):=by rw[←hsz];exact hcs ax hax
 have HBDR:Hid (∀j,j<N→0≤nth (cutRk a.shape ax start cn step) j∧nth (cutRk a.shape ax start cn step) j<a.cells.length):=hid (fun j hj=>by
  rw[hao.length];exact cutRk_bd hao.shape (by omega) hcn hst hgs j (by omega))
 have HRS:Hid (RdI w (.slice (some ⟨g,0,none⟩) n cs) a.shape):=hid hya.shape.rd;have HOA:=hid hao;have HYA:=hid hya;have HO:=hid hok;have HY:=hid hy;have HL:=hid hl;have HG:=hid (fun i (hi:i<cn)=>hgd.2 i (by omega));have HG1:=hid hgd.1;have HSN:=hid hsn;have HSP:=hid hshp;have HCT:=hid (cutRk_take a.shape ax start cn step);have HNN:=hid hN;have HIN:=hid (fun(l:List Int) (hl':inB (a.shape.set ax (cn:Int)) l)=>cutL_in (l:=l) hao.shape (by omega:ax<a.shape.length) hcn hgs hl');have d5:(step==0)=false:=by simp[hst]
 have bg:g<w.heap.size:=block_lt_of_cell c2;clear hy hok hl hya hao hgood hgd hgs hshp hN hvb hvc hcs hst hsn;go_enter Tryz.func112,Tryz.ntmps112
 go_wp2_with fail
 refine(yfind_calls HY.out HO.out h).mono ?_;rintro e w' ⟨rfl,hw⟩;obtain rfl:=hw.symm;rw[HL.out];simp only[ptr];have a1:¬((ax:Int)<0):=by omega
 have a2:(ax:Int)<(n:Int):=by omega
 have a3:¬((cn:Int)<1):=by omega
 have a4:¬(60<(cn:Int)):=by omega
 go_wp2
 go_loopw [16,17] (fun u t w'=>∃k:Nat,k≤cn∧t=.int .i64 k∧∃x:Int,u=.int .i64 x∧(k<cn→x=start+(k:Int)*step)∧Kp0 w w') (fun _ t _=>cn-(intOf t).toNat)
 case atStart=>exact⟨0,Nat.zero_le _,rfl,start,rfl,fun _=>by simp,by repeat' (first|exact Kp0.refl _|refine Kp.drew ?_)⟩
 case round=>
  obtain⟨k,hk,rfl,x,rfl,hx,hK⟩:=hrel;have HX:=hid hx;have HK:=hid hK;clear hx hK;by_cases hlt:k<cn
  ·have i1:(k:Int)<(cn:Int):=by omega
   have hgk:=HG.out k hlt;rw[←HX.out hlt]at hgk;have x0:¬x<0:=by omega
   have x1:x<size:=hgk.2;clear hgk;by_cases hlast:k+1<cn
   ·have i2:(k:Int)+1<(cn:Int):=by omega
    have hs12:=HG1.out.resolve_left (by omega);have s1:¬60<step:=by omega
    have s2:¬step< -60:=by omega
    clear hs12;go_wp2
    go_roundw
    case rel=>
     have hx:=HX.out hlt;exact⟨k+1,by omega,by go_num,x+step,by go_num,fun _=>by rw[hx];exact cut_next start step k,by repeat' (first|exact HK.out|refine Kp.drew ?_)⟩
    case measure=>simp[intOf];omega
   ·have i2:¬((k:Int)+1<(cn:Int)):=by omega
    go_wp2
    go_roundw
    case rel=>exact⟨k+1,by omega,by go_num,x,rfl,fun e=>absurd e (by omega),by repeat' (first|exact HK.out|refine Kp.drew ?_)⟩
    case measure=>simp[intOf];omega
  ·have i1:¬(k:Int)<(cn:Int):=by omega
   have y1:=HK.out.cell c1;have HSL:Hid (0+a.shape.length≤1000000000000):=hid (by rw[HSN.out];omega)
   go_wp2_with (at_builtin;refine wpList_app (by rfl) _ _ (by rfl) none 0 0 [] a.shape _ (by rfl) (by rfl) (OwI.nil _) (by exact HRS.out.kp0 HK.out) HSL.out wr.heap.size (by rfl) ?_)
   intro ao c w4 hownS hgrowS hatS;rcases hownS.2 with⟨e5,h0⟩|⟨g5,cap,cur,e5,-,hg5,hn5,-,hs5,ht5⟩
   ·exact absurd h0 (by rw[HSN.out];omega)
   injection e5 with e6 e8 e7
   clear e8;subst e6;subst e7;have hg5n:g5=wr.heap.size:=(hatS g5 (by simp[Value.ownBlock])).resolve_left (by simp[Value.ownBlock]);have hK4:Kp0 w w4:=Kp.grown HK.out hgrowS (by simp[Value.ownBlock]);have hwr:w.heap.size≤wr.heap.size:=HK.out.size;obtain⟨g6,cap6,e6,-,-,hc5⟩:=hownS.slice (by rw[HSN.out];omega);injection e6 with e6 e8 e7
   injection e6 with e6
   injection e6 with e6 e9 e10
   clear e8 e9 e10;subst e6;have cA:w4.cell? ⟨g5,ax,none⟩=some (.int .i64 (nth a.shape ax)):=hc5 ax (by rw[HSN.out];exact hax);have fA:w4.frozen? ⟨g5,ax,none⟩=false:=frozen_blk hg5;have hR5:RdI (w4.setCell ⟨g5,ax,none⟩ (.int .i64 (cn:Int))) (.slice (some ⟨g5,0,none⟩) n c) (a.shape.set ax (cn:Int)):=rd_set HSN.out hax (fun j hj=>hc5 j (by rw[HSN.out];exact hj)) _;have hK5:Kp0 w (w4.setCell ⟨g5,ax,none⟩ (.int .i64 (cn:Int))):=Kp.setCell hK4 _ _ (fun h=>by simp at h;omega);have HR5:=hid hR5;have HK5:=hid hK5;clear hR5 hK5 hK4 hownS hgrowS hatS hg5 hn5 hs5 ht5 hc5 e7 hg5n
   try rw[HSN.out]
   have b1:(0:Int)≤(ax:Int):=by omega
   have b2:(ax:Int)<(n:Int):=by omega
   go_wp2
   generalize hw5:World.setCell w4 _ _=w5 at*;clear hw5 cA fA;have HS5:Hid ((a.shape.set ax (cn:Int)).length=n):=hid (by simp[HSN.out])
   go_loopw [19,20] (fun l r w'=>∃k:Nat,k≤N∧r=.int .i64 k∧∃ao cc,l=.slice ao k cc∧OwI w' (.slice ao k cc) ((cutRk a.shape ax start cn step).take k)∧Kp0 w5 w'∧(∀x,(Value.slice ao k cc).ownBlock=some x→w5.heap.size≤x)) (fun _ r _=>N-(intOf r).toNat)
   case atStart=>exact⟨0,Nat.zero_le _,rfl,none,0,rfl,OwI.nil _,Kp0.refl _,fun x hx=>by simp[Value.ownBlock]at hx⟩
   case round=>
    obtain⟨r,hr,rfl,ao,cc,rfl,hOw,hK2,hB⟩:=hrel;have HOw:=hid hOw;have HK2:=hid hK2;have HB:=hid hB;clear hOw hK2 hB
    go_wp2_with fail
    refine(volume_calls _ _ _ (HR5.out.kp0 HK2.out) HSP.out.2.1 HSP.out.1).mono ?_;rintro e w' ⟨rfl,hw⟩;obtain rfl:=hw.symm;rw[HVOL.out];by_cases hrN:r<N
    ·go_wp2_with fail
     refine(index_calls _ _ _ _ (HR5.out.kp0 HK2.out) HSP.out.2.1 HSP.out.1 (by omega) (by omega)).mono ?_;rintro e w1 ⟨rfl,hk1,hg1⟩;rw[HS5.out];have hii:=idx_in (a.shape.set ax (cn:Int)) r HSP.out.2.1;have HRK:=hid (HCT.out r (by rw[HNN.out];exact hrN));have HLL:Hid ((idx (a.shape.set ax (cn:Int)) r).length=n):=hid (by rw[←hii.1];exact HS5.out);have hx2:=hii.2 ax (by rw[HS5.out];exact hax);rw[nth_setN _ _ _ _ (by rw[HSN.out];exact hax),if_pos rfl]at hx2;have HK1:=hid hk1;have HG1':=hid hg1;generalize hix:idx (a.shape.set ax (cn:Int)) r=ix' at*;clear hix hii hk1;have hib:wr.heap.size<w1.heap.size:=lt_of_heap hg1;have HIB:Hid (w.heap.size≤wr.heap.size):=hid ((HK5.out.trans HK2.out).size);have HKS:Hid (∀v,Kp0 wr (w1.setCell ⟨wr.heap.size,ax,none⟩ v)):=hid (fun v=>Kp.setCell HK1.out _ _ (fun h=>by simp at h));have HRI:Hid (∀v,RdI (w1.setCell ⟨wr.heap.size,ax,none⟩ (.int .i64 v)) (.slice (some ⟨wr.heap.size,0,none⟩) n n) (ix'.set ax v)):=hid (fun v=>rd_of_blk (by rw[heap_setCell_same _ _ _ _ _ _ HG1'.out,ints_set]) (by simp[HLL.out]));have c3:w1.cell? ⟨wr.heap.size,ax,none⟩=some (.int .i64 (nth ix' ax)):=by
      rw[cell_of_row _ _ _ _ _ _ hg1];simpa using ints_get (xs:=ix') (j:=ax) (by rw[HLL.out];exact hax)
     have f3:w1.frozen? ⟨wr.heap.size,ax,none⟩=false:=frozen_blk hg1;have y9:∀v,(w1.setCell ⟨wr.heap.size,ax,none⟩ v).cell? ⟨q,1,none⟩=some (.slice (some ⟨g,0,none⟩) n cs):=fun v=>((HK5.out.trans HK2.out).trans (HKS.out v)).cell c1
     have HY9:=hid y9;clear hg1 y9;have hgx:=HG.out (nth ix' ax).toNat (by omega);rw[show(((nth ix' ax).toNat:Nat):Int)=nth ix' ax by omega]at hgx;have hg0:=HG.out 0 (by omega);simp only[Int.natCast_zero,Int.zero_mul,Int.add_zero]at hg0;have HCL:Hid (cutL ix' ax start cn step=ix'.set ax (if(1:Int)<(cn:Int)then start+nth ix' ax*step else start)):=hid rfl;generalize wr.heap.size=ib at*;generalize nth ix' ax=x' at*;have b1:(0:Int)≤(ax:Int):=by omega
     have b2:(ax:Int)<(n:Int):=by omega
     by_cases hc1:(1:Int)<(cn:Int)
     ·have i7:IntKind.i64.wrap (x'*step)=x'*step:=by simp[IntKind.wrap,IntKind.signed,IntKind.bits];omega
      have i8:IntKind.i64.wrap (start+x'*step)=start+x'*step:=by simp[IntKind.wrap,IntKind.signed,IntKind.bits];omega
      have HKW:Hid (Kp0 w5 (w1.setCell ⟨ib,ax,none⟩ (.int .i64 (start+x'*step)))):=hid (HK2.out.trans (HKS.out _));have HRW:Hid (RdI (w1.setCell ⟨ib,ax,none⟩ (.int .i64 (start+x'*step))) (.slice (some ⟨g,0,none⟩) n cs) a.shape):=hid (HRS.out.kp0 (HK5.out.trans HKW.out));have HRX:Hid (RdI (w1.setCell ⟨ib,ax,none⟩ (.int .i64 (start+x'*step))) (.slice (some ⟨ib,0,none⟩) n n) (cutL ix' ax start cn step)):=hid (by rw[HCL.out,if_pos hc1];exact HRI.out _);have HOW:Hid (OwI (w1.setCell ⟨ib,ax,none⟩ (.int .i64 (start+x'*step))) (.slice ao r cc) ((cutRk a.shape ax start cn step).take r)):=hid (HOw.out.kp (HKS.out _) (fun _ _ e=>e));have y10:=HY9.out (.int .i64 (start+x'*step));clear hgx hg0
      go_wp2_with fail
      refine(rank_calls _ _ a.shape (cutL ix' ax start cn step) _ HRW.out HRX.out HOA.out.shape.2.1 HOA.out.shape.1).mono ?_;rintro e w2 ⟨rfl,hk2⟩;have HK8:=hid (HKW.out.trans hk2);have HOX:=hid (HOW.out.kp hk2 (fun _ _ e=>e));have HBN:Hid (r+[rank a.shape (cutL ix' ax start cn step)].length≤1000000000000):=hid (by simp;omega);clear hk2 y10;generalize rank a.shape (cutL ix' ax start cn step)=xr at*
      go_wp2_with (at_builtin;refine wpList_app (by rfl) _ _ (by rfl) ao r cc ((cutRk a.shape ax start cn step).take r) [xr] _ (by rfl) (by rfl) (HOX.out.alloc _) (RdI.one _ _) HBN.out (w2.heap.size+1) (by simp) ?_)
      intro ao' cc' w7 hC7 hG7 hB7;have hK7:Kp0 w5 w7:=Kp.grown (Kp.alloc HK8.out _) hG7 (fun b hb h=>by have:=HB.out b hb;omega);have hB7':∀b,(Value.slice ao' (r+1) cc').ownBlock=some b→w5.heap.size≤b:=by
       intro b hb;rcases hB7 b hb with h|h
       ·exact HB.out b h
       ·have:=HK8.out.size;omega
      have HC7:=hid hC7;have HK7:=hid hK7;have HB7:=hid hB7';clear hC7 hK7 hB7 hB7' hG7;go_wp2
      go_roundw
      case rel=>exact⟨r+1,by omega,by go_num,ao',cc',rfl,by rw[HRK.out];exact HC7.out,HK7.out,HB7.out⟩
      case measure=>simp[intOf];omega
     ·have HKW:Hid (Kp0 w5 (w1.setCell ⟨ib,ax,none⟩ (.int .i64 (start)))):=hid (HK2.out.trans (HKS.out _))
      have HRW:Hid (RdI (w1.setCell ⟨ib,ax,none⟩ (.int .i64 (start))) (.slice (some ⟨g,0,none⟩) n cs) a.shape):=hid (HRS.out.kp0 (HK5.out.trans HKW.out));have HRX:Hid (RdI (w1.setCell ⟨ib,ax,none⟩ (.int .i64 (start))) (.slice (some ⟨ib,0,none⟩) n n) (cutL ix' ax start cn step)):=hid (by rw[HCL.out,if_neg hc1];exact HRI.out _);have HOW:Hid (OwI (w1.setCell ⟨ib,ax,none⟩ (.int .i64 (start))) (.slice ao r cc) ((cutRk a.shape ax start cn step).take r)):=hid (HOw.out.kp (HKS.out _) (fun _ _ e=>e));have y10:=HY9.out (.int .i64 (start));clear hgx hg0
      go_wp2_with fail
      refine(rank_calls _ _ a.shape (cutL ix' ax start cn step) _ HRW.out HRX.out HOA.out.shape.2.1 HOA.out.shape.1).mono ?_;rintro e w2 ⟨rfl,hk2⟩;have HK8:=hid (HKW.out.trans hk2);have HOX:=hid (HOW.out.kp hk2 (fun _ _ e=>e));have HBN:Hid (r+[rank a.shape (cutL ix' ax start cn step)].length≤1000000000000):=hid (by simp;omega);clear hk2 y10;generalize rank a.shape (cutL ix' ax start cn step)=xr at*
      go_wp2_with (at_builtin;refine wpList_app (by rfl) _ _ (by rfl) ao r cc ((cutRk a.shape ax start cn step).take r) [xr] _ (by rfl) (by rfl) (HOX.out.alloc _) (RdI.one _ _) HBN.out (w2.heap.size+1) (by simp) ?_)
      intro ao' cc' w7 hC7 hG7 hB7;have hK7:Kp0 w5 w7:=Kp.grown (Kp.alloc HK8.out _) hG7 (fun b hb h=>by have:=HB.out b hb;omega);have hB7':∀b,(Value.slice ao' (r+1) cc').ownBlock=some b→w5.heap.size≤b:=by
       intro b hb;rcases hB7 b hb with h|h
       ·exact HB.out b h
       ·have:=HK8.out.size;omega
      have HC7:=hid hC7;have HK7:=hid hK7;have HB7:=hid hB7';clear hC7 hK7 hB7 hB7' hG7;go_wp2
      go_roundw
      case rel=>exact⟨r+1,by omega,by go_num,ao',cc',rfl,by rw[HRK.out];exact HC7.out,HK7.out,HB7.out⟩
      case measure=>simp[intOf];omega
    ·have d2:decide ((r:Int)<(N:Int))=false:=by simp;omega
     have hrn:r=N:=by omega
     have HRR:Hid (RdI wr (.slice ao N cc) (cutRk a.shape ax start cn step)):=hid (by
      have:=HOw.out.rd;rw[hrn,List.take_of_length_le (by rw[cutRk_length,HNN.out];omega)]at this;exact this)
     have HKW:=hid (HK5.out.trans HK2.out);have HCA:=hid (yderived_calls (HY.out.kp0 HKW.out) HO.out q (.slice (some ⟨g,0,none⟩) n cs) v2 a (HYA.out.kp HKW.out (fun _ _ e=>e)) HOA.out _ _ (a.shape.set ax (cn:Int)) (cutRk a.shape ax start cn step) HSP.out (HR5.out.kp0 HK2.out) HRR.out N (by rw[cutRk_length];exact HNN.out) hN1 hNb HBDR.out false);subst hrn
     go_wp2_with fail
     refine HCA.out.mono ?_;rintro e w9 ⟨rfl,hex⟩;have HEX:=hid hex;clear hex;go_wp2
     go_ret2
     rw[←HD.out];refine⟨rfl,?_⟩;obtain⟨T',L',ht,hy2,hk2⟩:=HEX.out;have s1:=HKW.out.size;exact⟨T',L',fun b hb=>ht b (by omega),hy2,(Kp.of0 HKW.out).trans hk2 (fun _ _ e=>e)⟩
theorem ycut_calls{T:Tags}{o:Nat}{w:World}{p:Nat}{σ:Sp}(hy:YRep T o w p σ)(h axis start count step:Int)(hm:σ.arrs.length+1≤100000000):Calls Tryz.prog 112 #[.pointer (some ⟨p,0,none⟩),.int .i64 h,.int .i64 axis,.int .i64 start,.int .i64 count,.int .i64 step] w fun e w'=>e=.returned (.tuple #[.int .i64 (σ.cut h axis start count step).2.1,.int .i64 (σ.cut h axis start count step).2.2])∧YStep T o w p (σ.cut h axis start count step).1 w':=by
 have hyr:=hy;obtain⟨hok,L,hy⟩:=hy;rcases hy.find h with⟨hf,hl⟩|⟨a,q,v1,v2,hf,hl,hya,hat,-⟩
 ·have hF:σ.cut h axis start count step=(σ,0,2):=by unfold Sp.cut;rw[hf]
  rw[hF];refine(ycut_none hy hok h axis start count step hl).mono ?_;rintro e w' ⟨rfl,hk⟩;exact⟨rfl,YStep.same hyr hk⟩
 ·have hao:=find_ok hok hat
  obtain⟨sa,cs,rfl,hcs⟩:=rd_parts hya.shape.rd;obtain⟨-,c1,-,-,-⟩:=hya.parts;have hn4:=hao.shape.1;cases hA:cutA a.shape.length axis count step with
  |false=>
   have hF:σ.cut h axis start count step=(σ,0,5):=by unfold Sp.cut;rw[hf];simp[cutB,hA]
   rw[hF];refine(ycut_args hy hok h axis start count step hl sa c1 hA).mono ?_;rintro e w' ⟨rfl,hk⟩;exact⟨rfl,YStep.same hyr hk⟩
  |true=>
   obtain⟨x1,x2,x3,x4,x5⟩:=(cutA_iff _ _ _ _).1 hA;obtain⟨ax,rfl⟩:∃ax:Nat,axis=(ax:Int):=⟨axis.toNat,by omega⟩;obtain⟨cn,rfl⟩:∃cn:Nat,count=(cn:Int):=⟨count.toNat,by omega⟩;obtain⟨g,so,rfl,hc⟩:=hcs (by omega);have hsb:=hao.shape.2.1 ax (by omega);cases hR:cutR (nth a.shape ax) start cn step with
   |false=>
    have hF:σ.cut h ax start cn step=(σ,0,5):=by unfold Sp.cut;rw[hf];simp[cutB,hR]
    rw[hF];refine(ycut_range hy hok h start (nth a.shape ax) step hl c1 (hc ax (by omega)) hsb (by omega) hn4 (by omega) (by omega) x5 hR).mono ?_;rintro e w' ⟨rfl,hk⟩;exact⟨rfl,YStep.same hyr hk⟩
   |true=>
    have hF:σ.cut h ax start cn step=σ.derive a (a.shape.set ax cn) (cutRk a.shape ax start cn step) false:=by unfold Sp.cut;rw[hf];simp[cutB,hR,hA]
    rw[hF];obtain⟨g',cap',e1,-,-,hc'⟩:=hya.shape.slice (by omega);injection e1 with e1 e2 e3
    injection e1 with e1
    injection e1 with e1 e4 e5
    subst e1;subst e4;have hgs:=((cutR_iff (nth a.shape ax) start cn step).1 hR).2;have hgs':∀i:Nat,i<cn→0≤start+(i:Int)*step∧start+(i:Int)*step<nth a.shape ax:=fun i hi=>hgs i (by omega)
    have hshp:=cut_shape hao.shape (by omega:ax<a.shape.length) (by omega) x5 hgs';refine(ycut_ok hy hok h start (nth a.shape ax) step hl hya hao rfl hc' rfl (by omega) (by omega) (by omega) x5 hR).mono ?_;rintro e w' ⟨rfl,T',L',ht,hy2,hk2⟩;have hvb:=vol_bd (a.shape.set ax cn) hshp.2.1 hshp.1 _ (Nat.le_refl _);rw[List.take_length]at hvb;refine⟨rfl,T',ht,⟨derive_ok hok hao _ _ hshp (by rw[cutRk_length];omega) (fun j hj=>?_) false hm,L',hy2⟩,?_⟩
    ·rw[cutRk_length]at hj
     rw[hao.length];exact cutRk_bd hao.shape (by omega) (by omega) x5 hgs' j hj
    ·exact hk2.mono (fun i _ h=>by rcases h with h|h<;>rw[h]<;>simp[Mut])
def axesTo(n:Nat)(ax:List Int)(k:Nat):Prop:=∀i,i<k→(0≤nth ax i∧nth ax i<(n:Int))∧∀j,j<i→nth ax j≠nth ax i
def turnB(n:Nat)(ax:List Int):Bool:=decide (ax.length=n)&&(List.range n).all fun i=>(decide (0≤nth ax i)&&decide (nth ax i<(n:Int)))&&(List.range i).all fun j=> !decide (nth ax j=nth ax i)
theorem turnB_iff(n:Nat)(ax:List Int):turnB n ax=true↔ax.length=n∧axesTo n ax n:=by
 unfold turnB axesTo;simp[List.all_eq_true]
def turnS(s ax:List Int):List Int:=ax.map fun x=>nth s x.toNat
theorem turnS_length(s ax:List Int):(turnS s ax).length=ax.length:=by simp[turnS]
theorem turnS_nth(s ax:List Int)(k:Nat)(h:k<ax.length):nth (turnS s ax) k=nth s (nth ax k).toNat:=by
 rw[nth_lt (by rw[turnS_length];exact h)];simp[turnS,nth_lt h]
theorem turnS_take(s ax:List Int)(k:Nat)(h:k<ax.length):(turnS s ax).take (k+1)=(turnS s ax).take k++[nth s (nth ax k).toNat]:=by rw[take_snoc _ k (by rw[turnS_length];exact h),turnS_nth s ax k h]
def turnTo(n:Nat)(ax l:List Int):Nat→List Int
 |0=>List.replicate n 0
 |k+1=>(turnTo n ax l k).set (nth ax k).toNat (nth l k)
theorem turnTo_length(n:Nat)(ax l:List Int)(k:Nat):(turnTo n ax l k).length=n:=by
 induction k with
 |zero=>simp[turnTo]
 |succ k ih=>simp[turnTo,ih]
def turnRk(s ax:List Int):List Int:=(List.range (vol (turnS s ax)).toNat).map fun r:Nat=>rank s (turnTo s.length ax (idx (turnS s ax) r) s.length)
theorem turnRk_length(s ax:List Int):(turnRk s ax).length=(vol (turnS s ax)).toNat:=by simp[turnRk]
theorem turnRk_take(s ax:List Int)(r:Nat)(h:r<(vol (turnS s ax)).toNat):(turnRk s ax).take (r+1)=(turnRk s ax).take r++[rank s (turnTo s.length ax (idx (turnS s ax) r) s.length)]:=by
 rw[take_snoc _ r (by rw[turnRk_length];exact h),nth_lt (by rw[turnRk_length];exact h)];simp[turnRk]
def Sp.turn(σ:Sp)(h:Int)(ax:List Int):Sp×Int×Int:=match σ.find h with
 |none=>(σ,0,2)
 |some a=>if turnB a.shape.length ax=false then(σ,0,4)else σ.derive a (turnS a.shape ax) (turnRk a.shape ax) false
theorem yturn_none{T:Tags}{o:Nat}{w:World}{p m d:Nat}{b:Option Addr}{σ:Sp}{L:YL}(hy:YAt T o w p L σ)(hok:σ.ok)(h:Int)(hl:L.at h=none):Calls Tryz.prog 113 #[.pointer (some ⟨p,0,none⟩),.int .i64 h,.slice b m d] w fun e w'=>e=.returned (.tuple #[.int .i64 0,.int .i64 2])∧Kp0 w w':=by
 have HO:=hid hok;have HY:=hid hy;have HL:=hid hl;clear hy hok hl;go_enter Tryz.func113,Tryz.ntmps113
 go_wp2_with fail
 refine(yfind_calls HY.out HO.out h).mono ?_;rintro e w' ⟨rfl,hw⟩;obtain rfl:=hw.symm;rw[HL.out];simp only[ptr];go_wp2
 go_ret2
 exact⟨rfl,Kp0.refl _⟩
theorem yturn_len{T:Tags}{o:Nat}{w:World}{p q n cs m d:Nat}{b:Option Addr}{σ:Sp}{L:YL}(hy:YAt T o w p L σ)(hok:σ.ok)(h:Int)(hl:L.at h=some q)(sa:Option Addr)(c1:w.cell? ⟨q,1,none⟩=some (.slice sa n cs))(hne:m≠n):Calls Tryz.prog 113 #[.pointer (some ⟨p,0,none⟩),.int .i64 h,.slice b m d] w fun e w'=>e=.returned (.tuple #[.int .i64 0,.int .i64 4])∧Kp0 w w':=by
 have HO:=hid hok;have HY:=hid hy;have HL:=hid hl;have d1:((m:Int)!=(n:Int))=true:=by simp;omega
 clear hy hok hl hne;go_enter Tryz.func113,Tryz.ntmps113
 go_wp2_with fail
 refine(yfind_calls HY.out HO.out h).mono ?_;rintro e w' ⟨rfl,hw⟩;obtain rfl:=hw.symm;rw[HL.out];simp only[ptr];go_wp2
 go_ret2
 exact⟨rfl,by repeat' (first|exact Kp0.refl _|refine Kp.drew ?_)⟩
end Go.Proofs.YticbbncdcannlaaGreat
namespace Go.Proofs.YticbbncdcannlaaGreat
theorem turn_vol4(a b c d x y z u:Int)(hx:0≤x∧x<4)(hy:0≤y∧y<4)(hz:0≤z∧z<4)(hu:0≤u∧u<4)(h1:x≠y)(h2:x≠z)(h3:y≠z)(h4:x≠u)(h5:y≠u)(h6:z≠u):vol (turnS [a,b,c,d] [x,y,z,u])=vol [a,b,c,d]:=by
 rcases(by omega:x=0∨x=1∨x=2∨x=3)with rfl|rfl|rfl|rfl<;>
 rcases(by omega:y=0∨y=1∨y=2∨y=3)with rfl|rfl|rfl|rfl<;>
 (try exact absurd rfl h1)<;>
 rcases(by omega:z=0∨z=1∨z=2∨z=3)with rfl|rfl|rfl|rfl<;>
 (try exact absurd rfl h2)<;>(try exact absurd rfl h3)<;>
 rcases(by omega:u=0∨u=1∨u=2∨u=3)with rfl|rfl|rfl|rfl<;>
 first
  |exact absurd rfl h4
  |exact absurd rfl h5
  |exact absurd rfl h6
  |(simp[vol,turnS,nth];try ac_rfl)
theorem turn_vol3(a b c x y z:Int)(hx:0≤x∧x<3)(hy:0≤y∧y<3)(hz:0≤z∧z<3)(h1:x≠y)(h2:x≠z)(h3:y≠z):vol (turnS [a,b,c] [x,y,z])=vol [a,b,c]:=by
 rcases(by omega:x=0∨x=1∨x=2)with rfl|rfl|rfl<;>
 rcases(by omega:y=0∨y=1∨y=2)with rfl|rfl|rfl<;>
 (try exact absurd rfl h1)<;>
 rcases(by omega:z=0∨z=1∨z=2)with rfl|rfl|rfl<;>
 first
  |exact absurd rfl h2
  |exact absurd rfl h3
  |(simp[vol,turnS,nth];try ac_rfl)
theorem turn_vol2(a b x y:Int)(hx:0≤x∧x<2)(hy:0≤y∧y<2)(h1:x≠y):vol (turnS [a,b] [x,y])=vol [a,b]:=by
 rcases(by omega:x=0∨x=1)with rfl|rfl<;>
 rcases(by omega:y=0∨y=1)with rfl|rfl<;>
 first
  |exact absurd rfl h1
  |(simp[vol,turnS,nth];try ac_rfl)
theorem turn_vol(s ax:List Int)(hl:s.length≤4)(h:ax.length=s.length)(ha:axesTo s.length ax s.length):vol (turnS s ax)=vol s:=by
 match s,ax,h with
 |[],[],_=>rfl
 |[a],[x],_=>
  have h0:=(ha 0 (by simp)).1;simp[nth]at h0;obtain rfl:x=0:=by omega
  simp[vol,turnS,nth]
 |[a,b],[x,y],_=>
  have h0:=(ha 0 (by simp)).1;have h1:=ha 1 (by simp);have h10:=h1.2 0 (by omega);simp[nth]at h0 h1 h10;exact turn_vol2 a b x y (by omega) (by omega) h10
 |[a,b,c],[x,y,z],_=>
  have h0:=(ha 0 (by simp)).1;have h1:=ha 1 (by simp);have h2:=ha 2 (by simp);have h10:=h1.2 0 (by omega);have h20:=h2.2 0 (by omega);have h21:=h2.2 1 (by omega);have h1':=h1.1;have h2':=h2.1;simp[nth]at h0 h1' h2' h10 h20 h21;exact turn_vol3 a b c x y z (by omega) (by omega) (by omega) h10 h20 h21
 |[a,b,c,d],[x,y,z,u],_=>
  have h0:=(ha 0 (by simp)).1;have h1:=ha 1 (by simp);have h2:=ha 2 (by simp);have h3:=ha 3 (by simp);have h10:=h1.2 0 (by omega);have h20:=h2.2 0 (by omega);have h21:=h2.2 1 (by omega);have h30:=h3.2 0 (by omega);have h31:=h3.2 1 (by omega);have h32:=h3.2 2 (by omega);have h1':=h1.1;have h2':=h2.1;have h3':=h3.1;simp[nth]at h0 h1' h2' h3' h10 h20 h21 h30 h31 h32;exact turn_vol4 a b c d x y z u (by omega) (by omega) (by omega) (by omega) h10 h20 h21 h30 h31 h32
 |_::_::_::_::_::_,_,_=>simp at hl
theorem turn_shape{s ax:List Int}(hs:okShape s)(h:ax.length=s.length)(ha:axesTo s.length ax s.length):okShape (turnS s ax):=by
 refine⟨by rw[turnS_length,h];exact hs.1,fun j hj=>?_,by rw[turn_vol s ax hs.1 h ha];exact hs.2.2⟩;rw[turnS_length]at hj;rw[turnS_nth s ax j hj];have:=(ha j (by omega)).1;exact hs.2.1 _ (by omega)
theorem turnTo_in{s ax l:List Int}(hs:okShape s)(h:ax.length=s.length)(ha:axesTo s.length ax s.length)(hl:inB (turnS s ax) l)(k:Nat)(hk:k≤s.length):∀j,j<s.length→0≤nth (turnTo s.length ax l k) j∧nth (turnTo s.length ax l k) j<nth s j:=by
 induction k with
 |zero=>
  intro j hj;have h1:=(hs.2.1 j hj).1;have:nth (turnTo s.length ax l 0) j=0:=by simp[turnTo,nth,List.getD,hj]
  rw[this];omega
 |succ k ih=>
  intro j hj;have a1:=(ha k (by omega)).1;rw[turnTo,nth_setN _ _ _ _ (by rw[turnTo_length];omega)];split
  ·rename_i e
   have h2:=hl.2 k (by rw[turnS_length];omega);rw[turnS_nth s ax k (by omega)]at h2;rw[e];exact h2
  ·exact ih (by omega) j hj
theorem turnRk_bd{s ax:List Int}(hs:okShape s)(h:ax.length=s.length)(ha:axesTo s.length ax s.length)(j:Nat)(hj:j<(vol (turnS s ax)).toNat):0≤nth (turnRk s ax) j∧nth (turnRk s ax) j<vol s:=by
 rw[nth_lt (by rw[turnRk_length];exact hj)];simp only[turnRk,List.getElem_map,List.getElem_range];have hin:inB s (turnTo s.length ax (idx (turnS s ax) j) s.length):=⟨(turnTo_length _ _ _ _).symm,turnTo_in hs h ha (idx_in _ _ (turn_shape hs h ha).2.1) s.length (Nat.le_refl _)⟩;unfold rank;rw[if_pos ((inBb_iff _ _).2 hin)];have:=rank_bd s _ hs.2.1 hin.2 s.length (Nat.le_refl _)
 rwa [List.take_length]at this
open Go.RowKit
theorem yturn_bad{T:Tags}{o:Nat}{w:World}{p q n cs d:Nat}{sa b:Option Addr}{σ:Sp}{L:YL}{s ax:List Int}(hy:YAt T o w p L σ)(hok:σ.ok)(h:Int)(hl:L.at h=some q)(c1:w.cell? ⟨q,1,none⟩=some (.slice sa n cs))(hn4:n≤4)(hxn:ax.length=n)(hsa:0<n→∃g o,sa=some ⟨g,o,none⟩∧∀j,j<n→w.cell? ⟨g,o+j,none⟩=some (.int .i64 (nth s j)))(hb:0<n→∃g o,b=some ⟨g,o,none⟩∧∀j,j<n→w.cell? ⟨g,o+j,none⟩=some (.int .i64 (nth ax j)))(hbad:¬axesTo n ax n):Calls Tryz.prog 113 #[.pointer (some ⟨p,0,none⟩),.int .i64 h,.slice b n d] w fun e w'=>e=.returned (.tuple #[.int .i64 0,.int .i64 4])∧Kp0 w w':=by
 have HO:=hid hok;have HY:=hid hy;have HL:=hid hl;have HSA:=hid hsa;have HBX:=hid hb;have HBAD:=hid hbad;have HST:=hid (turnS_take s ax);have HXN:=hid hxn;have d1:((n:Int)!=(n:Int))=false:=by simp
 clear hy hok hl hsa hb hbad hxn;go_enter Tryz.func113,Tryz.ntmps113
 go_wp2_with fail
 refine(yfind_calls HY.out HO.out h).mono ?_;rintro e w' ⟨rfl,hw⟩;obtain rfl:=hw.symm;rw[HL.out];simp only[ptr];go_wp2
 go_loopw [10,11] (fun l t w'=>∃k:Nat,k≤n∧t=.int .i64 k∧∃ao cc,l=.slice ao k cc∧OwI w' (.slice ao k cc) ((turnS s ax).take k)∧axesTo n ax k∧Kp0 w w'∧(∀x,(Value.slice ao k cc).ownBlock=some x→w.heap.size≤x)) (fun _ t _=>n-(intOf t).toNat)
 case atStart=>exact⟨0,Nat.zero_le _,rfl,none,0,rfl,OwI.nil _,fun i hi=>absurd hi (Nat.not_lt_zero _),by repeat' (first|exact Kp0.refl _|refine Kp.drew ?_),fun x hx=>by simp[Value.ownBlock]at hx⟩
 case round=>
  obtain⟨k,hk,rfl,ao,cc,rfl,hOw,hax,hK,hB⟩:=hrel;have HOw:=hid hOw;have HAX:=hid hax;have HK:=hid hK;have HB:=hid hB;clear hOw hax hB;by_cases hlt:k<n
  ·obtain⟨gb,ob,rfl,hcb⟩:=HBX.out (by omega)
   obtain⟨gs,os,rfl,hcs⟩:=HSA.out (by omega);have HCB:=hid hcb;have HCS:=hid hcs;have c2:=hK.cell (hcb k hlt);clear hcb hcs hK;have i1:(0:Int)≤(k:Int):=by omega
   have i2:(k:Int)<(n:Int):=by omega
   obtain⟨xk,hxk⟩:∃xk,nth ax k=xk:=⟨_,rfl⟩;have HXK:=hid hxk;rw[hxk]at c2;clear hxk;by_cases x0:xk<0
   ·go_wp2
    go_ret2
    exact⟨rfl,by repeat' (first|exact HK.out|refine Kp.drew ?_)⟩
   ·by_cases x1:xk<(n:Int)
    ·generalize wr=w0 at*
     go_wp2
     go_loopw [12] (fun t w'=>∃j:Nat,j≤k∧t=.int .i64 j∧(∀i,i<j→nth ax i≠xk)∧Kp0 w0 w') (fun t _=>k-(intOf t).toNat)
     case atStart=>exact⟨0,Nat.zero_le _,rfl,fun i hi=>absurd hi (Nat.not_lt_zero _),by repeat' (first|exact Kp0.refl _|refine Kp.drew ?_)⟩
     case round=>
      obtain⟨j,hj,rfl,hne,hK2⟩:=hrel;have HNE:=hid hne;have HK2:=hid hK2;clear hne;by_cases hjk:j<k
      ·have c3:=hK2.cell (HK.out.cell (HCB.out j (by omega)))
       have c4:=hK2.cell c2;clear hK2;have j1:(0:Int)≤(j:Int):=by omega
       have j2:(j:Int)<(k:Int):=by omega
       have j3:(j:Int)<(n:Int):=by omega
       obtain⟨xj,hxj⟩:∃xj,nth ax j=xj:=⟨_,rfl⟩;have HXJ:=hid hxj;rw[hxj]at c3;clear hxj;by_cases hxe:xj=xk
       ·have d3:(xj==xk)=true:=by simp[hxe]
        clear hxe;go_wp2
        go_quiet (fail)
        go_wp2
        go_ret2
        exact⟨rfl,by repeat' (first|exact HK.out.trans HK2.out|refine Kp.drewN ?_ _|refine Kp.drew ?_)⟩
       ·have d3:(xj==xk)=false:=by simp[hxe]
        have HXE:=hid hxe;clear hxe;go_wp2
        go_quiet (fail)
        go_wp2
        go_roundw
        case rel=>
         refine⟨j+1,by omega,by go_num,fun i hi=>?_,Kp.drewN HK2.out _⟩;rcases Nat.lt_or_ge i j with h1|h1
         ·exact HNE.out i h1
         ·rw[show i=j by omega,HXJ.out];exact HXE.out
        case measure=>simp[intOf];omega
      ·have j2:¬(j:Int)<(k:Int):=by omega
       have hjk':j=k:=by omega
       have hKW:Kp0 w wr:=HK.out.trans hK2;have c4:=hK2.cell c2;have c5:=hKW.cell c1;have c6:=hKW.cell (HCS.out xk.toNat (by omega));have HKW:=hid hKW;have HOX:=hid (HOw.out.kp hK2 (fun _ _ e=>e));have HTK:=hid (HST.out k (by rw[HXN.out];exact hlt));rw[HXK.out]at HTK;have HAX2:Hid (axesTo n ax (k+1)):=hid (fun i hi=>by
        rcases Nat.lt_or_ge i k with h1|h1
        ·exact HAX.out i h1
        ·rw[show i=k by omega,HXK.out]
         exact⟨by omega,fun i' hi'=>HNE.out i' (by omega)⟩)
       have HBN:Hid (k+[nth s xk.toNat].length≤1000000000000):=hid (by simp;omega);have x2:(0:Int)≤xk:=by omega
       generalize nth s xk.toNat=y at*;clear hK2 hKW hjk';go_wp2
       go_region_law
        ((refine step_app (by rfl) _ _ (by rfl) ao k cc ((turnS s ax).take k) [y] _ (by rfl) (by rfl) (by exact OwI.drew (HOX.out.alloc _)) (by exact RdI.drew (RdI.one _ _)) HBN.out (wr.heap.size+1) (by simp) ?_;intro ao' cc' w7 hC7 hG7 hB7))
       all_goals (
        have hK7:Kp0 w w7:=Kp.grown (Kp.drew (Kp.alloc HKW.out _)) hG7 (fun b hb h=>by have:=HB.out b hb;omega);have hB7':∀b,(Value.slice ao' (k+1) cc').ownBlock=some b→w.heap.size≤b:=by
         intro b hb;rcases hB7 b hb with h|h
         ·exact HB.out b h
         ·have:=HKW.out.size;omega
        have HC7:=hid hC7;have HK7:=hid hK7;have HB7:=hid hB7';clear hC7 hK7 hB7 hB7' hG7;go_wp2
        go_roundw
        case rel=>exact⟨k+1,by omega,by go_num,ao',cc',rfl,by rw[HTK.out];exact HC7.out,HAX2.out,HK7.out,HB7.out⟩
        case measure=>simp[intOf];omega)
    ·go_wp2
     go_ret2
     exact⟨rfl,by repeat' (first|exact HK.out|refine Kp.drew ?_)⟩
  ·exact absurd (by have:=HAX.out;rwa [show k=n by omega]at this) HBAD.out
theorem yturn_ok{T:Tags}{o:Nat}{w:World}{p q n cs d:Nat}{sa b:Option Addr}{σ:Sp}{L:YL}{s ax:List Int}{v2:Value}{a:Arr}(hy:YAt T o w p L σ)(hok:σ.ok)(h:Int)(hl:L.at h=some q)(hya:YArr T o w q (.slice sa n cs) v2 a)(hao:a.ok σ)(hsh:a.shape=s)(hsn:s.length=n)(hxn:ax.length=n)(hsa:0<n→∃g o,sa=some ⟨g,o,none⟩∧∀j,j<n→w.cell? ⟨g,o+j,none⟩=some (.int .i64 (nth s j)))(hb:0<n→∃g o,b=some ⟨g,o,none⟩∧∀j,j<n→w.cell? ⟨g,o+j,none⟩=some (.int .i64 (nth ax j)))(hgood:axesTo n ax n):Calls Tryz.prog 113 #[.pointer (some ⟨p,0,none⟩),.int .i64 h,.slice b n d] w fun e w'=>e=.returned (.tuple #[.int .i64 (σ.derive a (turnS s ax) (turnRk s ax) false).2.1,.int .i64 (σ.derive a (turnS s ax) (turnRk s ax) false).2.2])∧∃T' L',TagsTo w T T'∧YAt T' o w' p L' (σ.derive a (turnS s ax) (turnRk s ax) false).1∧Kp (fun b=>T b=(o,1)∨T b=(o,4)) w w':=by
 obtain⟨D,hD⟩:∃D,σ.derive a (turnS s ax) (turnRk s ax) false=D:=⟨_,rfl⟩;rw[hD];have HD:=hid hD;clear hD;obtain⟨-,c1,-,-,-⟩:=hya.parts;have hss:okShape s:=by rw[←hsh];exact hao.shape
 have hn4:n≤4:=by have:=hss.1;omega
 have hlx:ax.length=s.length:=by omega
 have hgx:axesTo s.length ax s.length:=by rw[hsn];exact hgood
 have hshp:=turn_shape hss hlx hgx;obtain⟨N,hN⟩:∃N:Nat,(vol (turnS s ax)).toNat=N:=⟨_,rfl⟩;have hvb:=vol_bd (turnS s ax) hshp.2.1 hshp.1 _ (Nat.le_refl _);rw[List.take_length]at hvb;have hvc:=hshp.2.2;have HVOL:Hid (vol (turnS s ax)=(N:Int)):=hid (by omega);have hNb:N≤3600:=by omega
 have hN1:1≤N:=by omega
 have HBDR:Hid (∀j,j<N→0≤nth (turnRk s ax) j∧nth (turnRk s ax) j<a.cells.length):=hid (fun j hj=>by
  rw[hao.length,hsh];exact turnRk_bd hss hlx hgx j (by omega))
 have HRS:Hid (RdI w (.slice sa n cs) s):=hid (by rw[←hsh];exact hya.shape.rd);have HRB:Hid (RdI w (.slice b n d) ax):=hid ⟨b,d,by rw[hxn],fun hne=>by
  obtain⟨g,o,e,hc⟩:=hb (Nat.pos_of_ne_zero (fun e=>hne (List.length_eq_zero_iff.1 (hxn.trans e))));exact⟨g,o,e,fun j hj=>hc j (by omega)⟩⟩
 have HOA:=hid hao;have HYA:=hid hya;have HSH:=hid hsh;have HSS:=hid hss;have HSN:=hid hsn;have HSP:=hid hshp;have HNN:=hid hN;have HCT:=hid (turnRk_take s ax);have HGOOD:=hid hgood;clear hya hao hsh hss hsn hlx hgx hshp hN hvb hvc hgood;have HO:=hid hok;have HY:=hid hy;have HL:=hid hl;have HSA:=hid hsa;have HBX:=hid hb;have HST:=hid (turnS_take s ax);have HXN:=hid hxn;have d1:((n:Int)!=(n:Int))=false:=by simp
 clear hy hok hl hsa hb hxn;go_enter Tryz.func113,Tryz.ntmps113
 go_wp2_with fail
 refine(yfind_calls HY.out HO.out h).mono ?_;rintro e w' ⟨rfl,hw⟩;obtain rfl:=hw.symm;rw[HL.out];simp only[ptr];go_wp2
 go_loopw [10,11] (fun l t w'=>∃k:Nat,k≤n∧t=.int .i64 k∧∃ao cc,l=.slice ao k cc∧OwI w' (.slice ao k cc) ((turnS s ax).take k)∧axesTo n ax k∧Kp0 w w'∧(∀x,(Value.slice ao k cc).ownBlock=some x→w.heap.size≤x)) (fun _ t _=>n-(intOf t).toNat)
 case atStart=>exact⟨0,Nat.zero_le _,rfl,none,0,rfl,OwI.nil _,fun i hi=>absurd hi (Nat.not_lt_zero _),by repeat' (first|exact Kp0.refl _|refine Kp.drew ?_),fun x hx=>by simp[Value.ownBlock]at hx⟩
 case round=>
  obtain⟨k,hk,rfl,ao,cc,rfl,hOw,hax,hK,hB⟩:=hrel;have HOw:=hid hOw;have HAX:=hid hax;have HK:=hid hK;have HB:=hid hB;clear hOw hax hB;by_cases hlt:k<n
  ·obtain⟨gb,ob,rfl,hcb⟩:=HBX.out (by omega)
   obtain⟨gs,os,rfl,hcs⟩:=HSA.out (by omega);have HCB:=hid hcb;have HCS:=hid hcs;have c2:=hK.cell (hcb k hlt);clear hcb hcs hK;have i1:(0:Int)≤(k:Int):=by omega
   have i2:(k:Int)<(n:Int):=by omega
   obtain⟨xk,hxk⟩:∃xk,nth ax k=xk:=⟨_,rfl⟩;have HXK:=hid hxk;rw[hxk]at c2;clear hxk;have hgk:=HGOOD.out k hlt;rw[HXK.out]at hgk;have HGK:=hid hgk.2;have x0:¬xk<0:=by omega
   have x1':xk<(n:Int):=hgk.1.2;clear hgk
   ·by_cases x1:xk<(n:Int)
    ·generalize wr=w0 at*
     go_wp2
     go_loopw [12] (fun t w'=>∃j:Nat,j≤k∧t=.int .i64 j∧(∀i,i<j→nth ax i≠xk)∧Kp0 w0 w') (fun t _=>k-(intOf t).toNat)
     case atStart=>exact⟨0,Nat.zero_le _,rfl,fun i hi=>absurd hi (Nat.not_lt_zero _),by repeat' (first|exact Kp0.refl _|refine Kp.drew ?_)⟩
     case round=>
      obtain⟨j,hj,rfl,hne,hK2⟩:=hrel;have HNE:=hid hne;have HK2:=hid hK2;clear hne;by_cases hjk:j<k
      ·have c3:=hK2.cell (HK.out.cell (HCB.out j (by omega)))
       have c4:=hK2.cell c2;clear hK2;have j1:(0:Int)≤(j:Int):=by omega
       have j2:(j:Int)<(k:Int):=by omega
       have j3:(j:Int)<(n:Int):=by omega
       obtain⟨xj,hxj⟩:∃xj,nth ax j=xj:=⟨_,rfl⟩;have HXJ:=hid hxj;rw[hxj]at c3;clear hxj;by_cases hxe:xj=xk
       ·exact absurd (HXJ.out.trans hxe) (HGK.out j hjk)
       ·have d3:(xj==xk)=false:=by simp[hxe]
        have HXE:=hid hxe;clear hxe;go_wp2
        go_quiet (fail)
        go_wp2
        go_roundw
        case rel=>
         refine⟨j+1,by omega,by go_num,fun i hi=>?_,Kp.drewN HK2.out _⟩;rcases Nat.lt_or_ge i j with h1|h1
         ·exact HNE.out i h1
         ·rw[show i=j by omega,HXJ.out];exact HXE.out
        case measure=>simp[intOf];omega
      ·have j2:¬(j:Int)<(k:Int):=by omega
       have hjk':j=k:=by omega
       have hKW:Kp0 w wr:=HK.out.trans hK2;have c4:=hK2.cell c2;have c5:=hKW.cell c1;have c6:=hKW.cell (HCS.out xk.toNat (by omega));have HKW:=hid hKW;have HOX:=hid (HOw.out.kp hK2 (fun _ _ e=>e));have HTK:=hid (HST.out k (by rw[HXN.out];exact hlt));rw[HXK.out]at HTK;have HAX2:Hid (axesTo n ax (k+1)):=hid (fun i hi=>by
        rcases Nat.lt_or_ge i k with h1|h1
        ·exact HAX.out i h1
        ·rw[show i=k by omega,HXK.out]
         exact⟨by omega,fun i' hi'=>HNE.out i' (by omega)⟩)
       have HBN:Hid (k+[nth s xk.toNat].length≤1000000000000):=hid (by simp;omega);have x2:(0:Int)≤xk:=by omega
       generalize nth s xk.toNat=y at*;clear hK2 hKW hjk';go_wp2
       go_region_law
        ((refine step_app (by rfl) _ _ (by rfl) ao k cc ((turnS s ax).take k) [y] _ (by rfl) (by rfl) (by exact OwI.drew (HOX.out.alloc _)) (by exact RdI.drew (RdI.one _ _)) HBN.out (wr.heap.size+1) (by simp) ?_;intro ao' cc' w7 hC7 hG7 hB7))
       all_goals (
        have hK7:Kp0 w w7:=Kp.grown (Kp.drew (Kp.alloc HKW.out _)) hG7 (fun b hb h=>by have:=HB.out b hb;omega);have hB7':∀b,(Value.slice ao' (k+1) cc').ownBlock=some b→w.heap.size≤b:=by
         intro b hb;rcases hB7 b hb with h|h
         ·exact HB.out b h
         ·have:=HKW.out.size;omega
        have HC7:=hid hC7;have HK7:=hid hK7;have HB7:=hid hB7';clear hC7 hK7 hB7 hB7' hG7;go_wp2
        go_roundw
        case rel=>exact⟨k+1,by omega,by go_num,ao',cc',rfl,by rw[HTK.out];exact HC7.out,HAX2.out,HK7.out,HB7.out⟩
        case measure=>simp[intOf];omega)
    ·exact absurd x1' x1
  ·have k1:¬(k:Int)<(n:Int):=by omega
   have hkn:k=n:=by omega
   have HR5:Hid (RdI wr (.slice ao n cc) (turnS s ax)):=hid (by
    have:=HOw.out.rd;rw[hkn,List.take_of_length_le (by rw[turnS_length,HXN.out];omega)]at this;exact this)
   generalize wr=w5 at*;have hkn':n=k:=hkn.symm;clear hkn;subst hkn';have HS5:Hid ((turnS s ax).length=n):=hid (by rw[turnS_length];exact HXN.out);have hmk:=fun W=>run_mk (P:=Tryz.prog) 26 3 (.int .i64 0) 8 Tryz.underlying26 Tryz.infoInt rfl (by omega) n (by omega) W
   have HMK:=hid hmk;clear hK hmk;go_wp2
   go_loopw [13,14] (fun l r w'=>∃k:Nat,k≤N∧r=.int .i64 k∧∃ao cc,l=.slice ao k cc∧OwI w' (.slice ao k cc) ((turnRk s ax).take k)∧Kp0 w5 w'∧(∀x,(Value.slice ao k cc).ownBlock=some x→w5.heap.size≤x)) (fun _ r _=>N-(intOf r).toNat)
   case atStart=>exact⟨0,Nat.zero_le _,rfl,none,0,rfl,OwI.nil _,Kp0.refl _,fun x hx=>by simp[Value.ownBlock]at hx⟩
   case round=>
    obtain⟨r,hr,rfl,ao2,cc2,rfl,hOw,hK2,hB⟩:=hrel;have HOw2:=hid hOw;have HK2:=hid hK2;have HB2:=hid hB;clear hOw hK2 hB
    go_wp2_with fail
    refine(volume_calls _ _ _ (HR5.out.kp0 HK2.out) HSP.out.2.1 HSP.out.1).mono ?_;rintro e w' ⟨rfl,hw⟩;obtain rfl:=hw.symm;rw[HVOL.out];by_cases hrN:r<N
    ·go_wp2_with fail
     refine(index_calls _ _ _ _ (HR5.out.kp0 HK2.out) HSP.out.2.1 HSP.out.1 (by omega) (by omega)).mono ?_;rintro e w1 ⟨rfl,hk1,hg1⟩;rw[HS5.out];have HK1:=hid hk1;have HG1:=hid hg1;clear hk1 hg1;have hmk:=HMK.out;go_wp2
     clear hmk;have hs1:wr.heap.size<w1.heap.size:=lt_of_heap HG1.out;have HRK:=hid (HCT.out r (by rw[HNN.out];exact hrN));rw[HSN.out]at HRK;have HLL:Hid ((idx (turnS s ax) r).length=n):=hid (by rw[←(idx_in (turnS s ax) r HSP.out.2.1).1];exact HS5.out);generalize idx (turnS s ax) r=ix' at*;generalize hib:wr.heap.size=ib at*;clear hib
     go_loopw [17] (fun t' w'=>∃j:Nat,j≤n∧t'=.int .i64 j∧Kp0 w1 w'∧w'.heap[w1.heap.size]? =some (.cells (ints (turnTo n ax ix' j)).toArray 3 (0,0))) (fun t _=>n-(intOf t).toNat)
     case atStart=>exact⟨0,Nat.zero_le _,rfl,(Kp.refl _ _).alloc _,by rw[heap_alloc_new];simp[turnTo,ints,rep]⟩
     case round=>
      obtain⟨j,hj,rfl,hK3,hG3⟩:=hrel;have HK3:=hid hK3;have HG3:=hid hG3;by_cases hjn:j<n
      ·obtain⟨gb,ob,rfl,hcb⟩:=HBX.out (by omega)
       have kw:Kp0 w wr:=((HK.out.trans HK2.out).trans HK1.out).trans hK3;have c2:=kw.cell (hcb j hjn);have c3:wr.cell? ⟨ib,j,none⟩=some (.int .i64 (nth ix' j)):=by
        rw[cell_of_row _ _ _ _ _ _ (hK3.heap HG1.out)];simpa using ints_get (xs:=ix') (j:=j) (by rw[HLL.out];exact hjn)
       obtain⟨⟨x0,x1⟩,-⟩:=HGOOD.out j hjn;have hcell:wr.cell? ⟨w1.heap.size,(nth ax j).toNat,none⟩=some (.int .i64 (nth (turnTo n ax ix' j) (nth ax j).toNat)):=by
        rw[cell_of_row wr _ _ _ _ _ hG3];simpa using ints_get (xs:=turnTo n ax ix' j) (j:=(nth ax j).toNat) (by rw[turnTo_length];omega)
       have hfz:wr.frozen? ⟨w1.heap.size,(nth ax j).toNat,none⟩=false:=frozen_blk hG3;have HTT:Hid ((ints (turnTo n ax ix' j)).toArray.setIfInBounds (nth ax j).toNat (.int .i64 (nth ix' j))=(ints (turnTo n ax ix' (j+1))).toArray):=hid (by rw[ints_set];rfl);have i1:(0:Int)≤(j:Int):=by omega
       have i2:(j:Int)<(n:Int):=by omega
       generalize nth (turnTo n ax ix' j) (nth ax j).toNat=old at*;generalize nth ax j=xj at*;generalize nth ix' j=yj at*;clear hK3 hG3 kw hcb;go_wp2
       first
        |go_region_law (fail)
        |go_region
       all_goals (
        go_wp2
        go_roundw
        case rel=>
         refine⟨j+1,by omega,by go_num,?_,?_⟩
         ·repeat' (first|exact HK3.out|refine Kp.drewN ?_ _|refine Kp.drew ?_|refine Kp.setCell ?_ _ _ (fun h=>absurd h (Nat.lt_irrefl _)))
         ·refine(heap_setCell_same _ _ _ _ _ _ HG3.out).trans ?_
          rw[HTT.out]
        case measure=>simp[intOf];omega)
      ·have hjn':j=n:=by omega
       have HRI:Hid (RdI wr (.slice (some ⟨w1.heap.size,0,none⟩) n n) (turnTo n ax ix' n)):=hid (by
        rw[hjn']at hG3;exact rd_of_blk hG3 (turnTo_length _ _ _ _))
       have kw5:Kp0 w5 wr:=(HK2.out.trans HK1.out).trans hK3;have y9:=(HK.out.trans kw5).cell c1;have HKW:=hid kw5;have HOW:=hid (HOw2.out.kp (HK1.out.trans hK3) (fun _ _ e=>e));have HRW:=hid (HRS.out.kp0 (HK.out.trans kw5));have d4:¬(j:Int)<(n:Int):=by omega
       have HBN:Hid (r+[rank s (turnTo n ax ix' n)].length≤1000000000000):=hid (by simp;omega);clear hK3 hG3 kw5 hjn'
       go_wp2_with fail
       refine(rank_calls _ _ s (turnTo n ax ix' n) wr HRW.out HRI.out HSS.out.2.1 HSS.out.1).mono ?_;rintro e w2 ⟨rfl,hk2⟩;have HK8:=hid (HKW.out.trans hk2);have HOX:=hid (HOW.out.kp hk2 (fun _ _ e=>e));clear hk2 y9;generalize rank s (turnTo n ax ix' n)=xr at*
       go_wp2_with (at_builtin;refine wpList_app (by rfl) _ _ (by rfl) ao2 r cc2 ((turnRk s ax).take r) [xr] _ (by rfl) (by rfl) (HOX.out.alloc _) (RdI.one _ _) HBN.out (w2.heap.size+1) (by simp) ?_)
       intro ao' cc' w7 hC7 hG7 hB7;have hK7:Kp0 w5 w7:=Kp.grown (Kp.alloc HK8.out _) hG7 (fun b hb h=>by have:=HB2.out b hb;omega);have hB7':∀b,(Value.slice ao' (r+1) cc').ownBlock=some b→w5.heap.size≤b:=by
        intro b hb;rcases hB7 b hb with h|h
        ·exact HB2.out b h
        ·have:=HK8.out.size;omega
       have HC7:=hid hC7;have HK7:=hid hK7;have HB7:=hid hB7';clear hC7 hK7 hB7 hB7' hG7;go_wp2
       go_roundw
       case rel=>exact⟨r+1,by omega,by go_num,ao',cc',rfl,by rw[HRK.out];exact HC7.out,HK7.out,HB7.out⟩
       case measure=>simp[intOf];omega
    ·have d2:decide ((r:Int)<(N:Int))=false:=by simp;omega
     have hrn:N=r:=by omega
     have HRR:Hid (RdI wr (.slice ao2 r cc2) (turnRk s ax)):=hid (by
      have:=HOw2.out.rd;rw[List.take_of_length_le (by rw[turnRk_length,HNN.out];omega)]at this;exact this)
     have HKW:=hid (HK.out.trans HK2.out);have HSL:=hid (HSH.out.symm);have HCA:=hid (yderived_calls (HY.out.kp0 HKW.out) HO.out q (.slice sa n cs) v2 a (HYA.out.kp HKW.out (fun _ _ e=>e)) HOA.out _ _ (turnS s ax) (turnRk s ax) HSP.out (HR5.out.kp0 HK2.out) HRR.out N (by rw[turnRk_length];exact HNN.out) hN1 hNb HBDR.out false);clear hrn
     go_wp2_with fail
     refine HCA.out.mono ?_;rintro e w9 ⟨rfl,hex⟩;have HEX:=hid hex;clear hex;go_wp2
     go_ret2
     rw[←HD.out];refine⟨rfl,?_⟩;obtain⟨T',L',ht,hy2,hk2⟩:=HEX.out;have s1:=HKW.out.size;exact⟨T',L',fun b hb=>ht b (by omega),hy2,(Kp.of0 HKW.out).trans hk2 (fun _ _ e=>e)⟩
theorem yturn_calls{T:Tags}{o:Nat}{w:World}{p:Nat}{σ:Sp}(hy:YRep T o w p σ)(h:Int)(va:Value)(ax:List Int)(hr:RdI w va ax)(hm:σ.arrs.length+1≤100000000):Calls Tryz.prog 113 #[.pointer (some ⟨p,0,none⟩),.int .i64 h,va] w fun e w'=>e=.returned (.tuple #[.int .i64 (σ.turn h ax).2.1,.int .i64 (σ.turn h ax).2.2])∧YStep T o w p (σ.turn h ax).1 w':=by
 have hyr:=hy;obtain⟨hok,L,hy⟩:=hy;obtain⟨b,d,rfl,hb⟩:=rd_parts hr;rcases hy.find h with⟨hf,hl⟩|⟨a,q,v1,v2,hf,hl,hya,hat,-⟩
 ·have hF:σ.turn h ax=(σ,0,2):=by unfold Sp.turn;rw[hf]
  rw[hF];refine(yturn_none hy hok h hl).mono ?_;rintro e w' ⟨rfl,hk⟩;exact⟨rfl,YStep.same hyr hk⟩
 ·have hao:=find_ok hok hat
  obtain⟨sa,cs,rfl,hcs⟩:=rd_parts hya.shape.rd;obtain⟨-,c1,-,-,-⟩:=hya.parts;have hn4:=hao.shape.1;by_cases hlen:ax.length=a.shape.length
  ·rw[hlen]at hb⊢
   cases hB:turnB a.shape.length ax with
   |false=>
    have hF:σ.turn h ax=(σ,0,4):=by unfold Sp.turn;rw[hf];simp[hB]
    rw[hF];refine(yturn_bad hy hok h hl c1 hn4 hlen hcs hb (fun e=>by rw[(turnB_iff _ _).2 ⟨hlen,e⟩]at hB;cases hB)).mono ?_;rintro e w' ⟨rfl,hk⟩;exact⟨rfl,YStep.same hyr hk⟩
   |true=>
    have hgood:=((turnB_iff _ _).1 hB).2;have hF:σ.turn h ax=σ.derive a (turnS a.shape ax) (turnRk a.shape ax) false:=by unfold Sp.turn;rw[hf];simp[hB]
    rw[hF];have hshp:=turn_shape hao.shape hlen hgood;refine(yturn_ok hy hok h hl hya hao rfl rfl hlen hcs hb hgood).mono ?_;rintro e w' ⟨rfl,T',L',ht,hy2,hk2⟩;have hvb:=vol_bd (turnS a.shape ax) hshp.2.1 hshp.1 _ (Nat.le_refl _);rw[List.take_length]at hvb;refine⟨rfl,T',ht,⟨derive_ok hok hao _ _ hshp (by rw[turnRk_length];omega) (fun j hj=>?_) false hm,L',hy2⟩,?_⟩
    ·rw[turnRk_length]at hj
     rw[hao.length];exact turnRk_bd hao.shape hlen hgood j hj
    ·exact hk2.mono (fun i _ h=>by rcases h with h|h<;>rw[h]<;>simp[Mut])
  ·have hB:turnB a.shape.length ax=false:=by
    rw[←Bool.not_eq_true,turnB_iff];exact fun e=>hlen e.1
   have hF:σ.turn h ax=(σ,0,4):=by unfold Sp.turn;rw[hf];simp[hB]
   rw[hF];refine(yturn_len hy hok h hl sa c1 hlen).mono ?_;rintro e w' ⟨rfl,hk⟩;exact⟨rfl,YStep.same hyr hk⟩
end Go.Proofs.YticbbncdcannlaaGreat
