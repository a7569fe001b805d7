import Derived.Deep.RegionHeld3
import Derived.Test.YticbbncdcannlaaGreatG02
set_option maxRecDepth 100000
set_option maxHeartbeats 8000000
namespace Go.Proofs.YticbbncdcannlaaGreat
open Go.RowKit
def Sp.set(σ:Sp)(h v:Int)(i:List Int):Sp×Int:=match σ.find h with
 |none=>(σ,2)
 |some a=>if a.ro=true then(σ,6)else if rank a.shape i<0 then(σ,5)else(σ.put a.kind (nth a.cells (rank a.shape i).toNat).toNat (asK a.kind v),0)
theorem put_ok{σ:Sp}(h:σ.ok)(kind:Int)(c:Nat)(v:Int):(σ.put kind c v).ok:=by
 have:=puts_ok h kind (c:Int) (fun _=>v) 1;simpa[Sp.puts]using this
theorem yset_calls{T:Tags}{o:Nat}{w:World}{p:Nat}{σ:Sp}(hy:YRep T o w p σ)(h v:Int)(vi:Value)(i:List Int)(hr:RdI w vi i):Calls Tryz.prog 107 #[.pointer (some ⟨p,0,none⟩),.int .i64 h,.int .i64 v,vi] w fun e w'=>e=.returned (.int .i64 (σ.set h v i).2)∧YStep T o w p (σ.set h v i).1 w':=by
 have HYR:=hid hy;obtain⟨hok,L,hy⟩:=hy;have HO:=hid hok;have HR:=hid hr;rcases hy.find h with⟨hf,hl⟩|⟨a,q,vs,vc,hf,hl,hya,hat,h1⟩
 ·have HF:Hid (σ.set h v i=(σ,2)):=hid (by unfold Sp.set;rw[hf])
  have HY:=hid hy;have HL:=hid hl;clear hy hok hf hl hr;go_enter Tryz.func107,Tryz.ntmps107
  go_wp2_with fail
  refine(yfind_calls HY.out HO.out h).mono ?_;rintro e w' ⟨rfl,hw⟩;obtain rfl:=hw.symm;rw[HL.out];simp only[ptr];go_wp2
  go_ret;rw[HF.out];exact⟨rfl,YStep.same HYR.out (Kp0.refl _)⟩
 ·have hao:=find_ok hok hat
  obtain⟨z0,z1,z2,z3,-⟩:=hya.parts;have hsh:=hao.shape;have HRK:=hid (fun(W:World) (k:Kp0 w W)=>rank_calls vs vi a.shape i W (hya.shape.rd.kp0 k) (hr.kp0 k) hsh.2.1 hsh.1);have hlen:=hao.length;have hv:=vol_bd a.shape hsh.2.1 hsh.1 a.shape.length (Nat.le_refl _);rw[List.take_length]at hv;obtain⟨gc,cap,rfl,hcap,hgc,hcc⟩:=hya.cells.slice (by omega);have HY:=hid hy;have HL:=hid hl;by_cases hro:a.ro=true
  ·have HF:Hid (σ.set h v i=(σ,6)):=hid (by unfold Sp.set;rw[hf];simp[hro])
   rw[hro]at z3;clear hy hok hf hl hr hao hsh hlen hv hcc hya hat hro;go_enter Tryz.func107,Tryz.ntmps107
   go_wp2_with fail
   refine(yfind_calls HY.out HO.out h).mono ?_;rintro e w' ⟨rfl,hw⟩;obtain rfl:=hw.symm;rw[HL.out];simp only[ptr]
   go_wp2_with fail
   refine(HRK.out _ (Kp0.refl _)).mono ?_;rintro e w1 ⟨rfl,hk⟩;have y3:=hk.cell z3;have HK:=hid hk;clear hk;go_wp2
   go_ret;rw[HF.out];exact⟨rfl,YStep.same HYR.out HK.out⟩
  ·have hro':a.ro=false:=by simpa using hro
   rw[hro']at z3;rcases rank_cases a.shape i hsh.2.1 with hneg|⟨hr0,hr1⟩
   ·have HF:Hid (σ.set h v i=(σ,5)):=hid (by unfold Sp.set;rw[hf];simp[hneg,hro'])
    have HN:=hid hneg;clear hy hok hf hl hr hao hsh hlen hv hcc hya hat hneg hro hro';go_enter Tryz.func107,Tryz.ntmps107
    go_wp2_with fail
    refine(yfind_calls HY.out HO.out h).mono ?_;rintro e w' ⟨rfl,hw⟩;obtain rfl:=hw.symm;rw[HL.out];simp only[ptr]
    go_wp2_with fail
    refine(HRK.out _ (Kp0.refl _)).mono ?_;rintro e w1 ⟨rfl,hk⟩;have y3:=hk.cell z3;have HK:=hid hk;clear hk;rw[HN.out];go_wp2
    go_ret;rw[HF.out];exact⟨rfl,YStep.same HYR.out HK.out⟩
   ·have hc:=hcc (rank a.shape i).toNat (by omega)
    have hin:=hao.inside (rank a.shape i).toNat (by omega);have hkd:=hao.kind;have hvc:=hy.vcell a.kind hkd;have hvt:=hy.vat hok a.kind hkd (nth a.cells (rank a.shape i).toNat).toNat (by omega);have HF:Hid (σ.set h v i=(σ.put a.kind (nth a.cells (rank a.shape i).toNat).toNat (asK a.kind v),0)):=hid (by unfold Sp.set;rw[hf];simp only[hro'];rw[if_neg (by simp),if_neg (by omega)]);have hkb:1≤a.kind∧a.kind≤2:=by omega
    have hcpm:=hok.cap a.kind;have hrl:rank a.shape i<(a.cells.length:Int):=by omega
    have hrn:rank a.shape i<3601:=by have:=hsh.2.2;omega
    have HPO:=hid (put_ok hok a.kind (nth a.cells (rank a.shape i).toNat).toNat (asK a.kind v));have HKD:=hid hkd;have hfz:w.frozen? ⟨L.gk a.kind,(nth a.cells (rank a.shape i).toNat).toNat,none⟩=false:=frozen_blk (hy.vblk a.kind hkd);have htg:T (L.gk a.kind)=(o,2)∨T (L.gk a.kind)=(o,3):=by
     rcases hkd with e|e<;>rw[e]
     ·exact .inl hy.t1
     ·exact .inr hy.t2
    have n1:¬L.gk a.kind=q:=fun e=>by rw[e,hya.tag]at htg;simp at htg
    have n2:¬L.gk a.kind=p:=fun e=>by rw[e,hy.tp]at htg;simp at htg
    have n3:¬L.gk a.kind=gc:=fun e=>by rw[e,hya.tagc gc rfl]at htg;simp at htg
    have k0:0≤a.kind:=by omega
    have k3:a.kind<3:=by omega
    obtain⟨c0,c1⟩:=hin;have HKB:=hid hkb;clear hkb htg;have hgl:L.gk a.kind<w.heap.size:=lt_of_heap (hy.vblk a.kind hkd);clear hy hok hf hl hr hao hsh hlen hv hcc hya hat hkd hro hro';generalize a.cells.length=n at*;generalize hrr:rank a.shape i=r at*;generalize nth a.cells r.toNat=c at*;generalize nth (σ.vals a.kind) c.toNat=x at*;generalize a.kind=kd at*;generalize σ.cap kd=cp at*;clear hrr;go_enter Tryz.func107,Tryz.ntmps107
    go_wp2_with fail
    refine(yfind_calls HY.out HO.out h).mono ?_;rintro e w' ⟨rfl,hw⟩;obtain rfl:=hw.symm;rw[HL.out];simp only[ptr]
    go_wp2_with fail
    refine(HRK.out _ (Kp0.refl _)).mono ?_;rintro e w1 ⟨rfl,hk⟩;have y0:=hk.cell z0;have y2:=hk.cell z2;have y3:=hk.cell z3;have yc:=hk.cell hc;have yv:=hk.cell hvc;have yt:=hk.cell hvt;have yf:w1.frozen? ⟨L.gk kd,c.toNat,none⟩=false:=(World.frozen?_of_block (hk.block _ hgl (fun e=>e))).trans hfz;have HK:=hid hk;clear hk z0 z1 z2 z3 hc hvc hvt hfz;go_wp2
    go_region_held3 (fun w'=>w'.cell? ⟨q,0,none⟩=some (.int .i64 kd)∧w'.cell? ⟨p,3+kd.toNat,none⟩=some (.slice (some ⟨L.gk kd,0,none⟩) cp cp)∧w'.cell? ⟨q,2,none⟩=some (.slice (some ⟨gc,0,none⟩) n cap)∧w'.cell? ⟨gc,r.toNat,none⟩=some (.int .i64 c)) (go_keep)
     (first|(go_at_call 126;refine(as_calls _ _ _).mono ?_;rintro e w' ⟨rfl,rfl⟩))
    go_wp2
    go_ret;have hpo:=HPO.out;rw[HF.out];have hp:=(HY.out.kp0 HK.out).put kd HKD.out c.toNat (asK kd v);exact⟨rfl,T,fun _ _=>rfl,⟨hpo,L,hp.1.kp0 (Kp.drew (Kp.refl _ _))⟩,(Kp.of0 HK.out).trans hp.2.drew (fun i _ e=>by rcases e with e|e<;>rw[e]<;>simp[Mut])⟩
def Sp.writes(σ:Sp)(kind:Int)(cs:List Int)(f:Nat→Int):Nat→Sp
 |0=>σ
 |k+1=>(σ.writes kind cs f k).put kind (nth cs k).toNat (f k)
theorem put_same(σ:Sp)(kind:Int)(c:Nat)(v:Int):(σ.put kind c v).arrs=σ.arrs∧(σ.put kind c v).bufs=σ.bufs∧(σ.put kind c v).n1=σ.n1∧(σ.put kind c v).n2=σ.n2∧(∀j,(σ.put kind c v).cap j=σ.cap j):=by
 unfold Sp.put;split<;>exact⟨rfl,rfl,rfl,rfl,fun _=>rfl⟩
theorem writes_ok{σ:Sp}(h:σ.ok)(kind:Int)(cs:List Int)(f:Nat→Int)(k:Nat):(σ.writes kind cs f k).ok:=by
 induction k with
 |zero=>exact h
 |succ k ih=>exact put_ok ih _ _ _
theorem writes_same(σ:Sp)(kind:Int)(cs:List Int)(f:Nat→Int)(k:Nat):(σ.writes kind cs f k).arrs=σ.arrs∧(σ.writes kind cs f k).bufs=σ.bufs∧(∀j,(σ.writes kind cs f k).cap j=σ.cap j):=by
 induction k with
 |zero=>exact⟨rfl,rfl,fun _=>rfl⟩
 |succ k ih=>
  obtain⟨h1,h2,h3⟩:=ih;obtain⟨e1,e2,-,-,e5⟩:=put_same (σ.writes kind cs f k) kind (nth cs k).toNat (f k);exact⟨e1.trans h1,e2.trans h2,fun j=>(e5 j).trans (h3 j)⟩
def Sp.fill(σ:Sp)(h v:Int):Sp×Int:=match σ.find h with
 |none=>(σ,2)
 |some a=>if a.ro=true then(σ,6)else(σ.writes a.kind a.cells (fun _=>asK a.kind v) a.cells.length,0)
theorem fill_ok{σ:Sp}(h:σ.ok)(d v:Int):(σ.fill d v).1.ok:=by
 unfold Sp.fill;split
 ·exact h
 ·split
  ·exact h
  ·exact writes_ok h _ _ _ _
theorem yfill_calls{T:Tags}{o:Nat}{w:World}{p:Nat}{σ:Sp}(hy:YRep T o w p σ)(h v:Int):Calls Tryz.prog 109 #[.pointer (some ⟨p,0,none⟩),.int .i64 h,.int .i64 v] w fun e w'=>e=.returned (.int .i64 (σ.fill h v).2)∧YStep T o w p (σ.fill h v).1 w':=by
 have HYR:=hid hy;obtain⟨hok,L,hy⟩:=hy;have HO:=hid hok;rcases hy.find h with⟨hf,hl⟩|⟨a,q,vs,vc,hf,hl,hya,hat,h1⟩
 ·have HF:Hid (σ.fill h v=(σ,2)):=hid (by unfold Sp.fill;rw[hf])
  have HY:=hid hy;have HL:=hid hl;clear hy hok hf hl;go_enter Tryz.func109,Tryz.ntmps109
  go_wp2_with fail
  refine(yfind_calls HY.out HO.out h).mono ?_;rintro e w' ⟨rfl,hw⟩;obtain rfl:=hw.symm;rw[HL.out];simp only[ptr];go_wp2
  go_ret;rw[HF.out];exact⟨rfl,YStep.same HYR.out (Kp0.refl _)⟩
 ·have hao:=find_ok hok hat
  obtain⟨z0,z1,z2,z3,-⟩:=hya.parts;have hsh:=hao.shape;have hlen:=hao.length;have hv:=vol_bd a.shape hsh.2.1 hsh.1 a.shape.length (Nat.le_refl _);rw[List.take_length]at hv;obtain⟨gc,cap,rfl,hcap,hgc,hcc⟩:=hya.cells.slice (by omega);have HY:=hid hy;have HL:=hid hl;by_cases hro:a.ro=true
  ·have HF:Hid (σ.fill h v=(σ,6)):=hid (by unfold Sp.fill;rw[hf];simp[hro])
   rw[hro]at z3;clear hy hok hf hl hao hsh hlen hv hcc hya hat hro;go_enter Tryz.func109,Tryz.ntmps109
   go_wp2_with fail
   refine(yfind_calls HY.out HO.out h).mono ?_;rintro e w' ⟨rfl,hw⟩;obtain rfl:=hw.symm;rw[HL.out];simp only[ptr];go_wp2
   go_ret;rw[HF.out];exact⟨rfl,YStep.same HYR.out (Kp0.refl _)⟩
  ·have hro':a.ro=false:=by simpa using hro
   rw[hro']at z3;have hkd:=hao.kind;have HF:Hid (σ.fill h v=(σ.writes a.kind a.cells (fun _=>asK a.kind v) a.cells.length,0)):=hid (by unfold Sp.fill;rw[hf];simp[hro']);have hcpm:=hok.cap a.kind;have hnl:a.cells.length≤3600:=by have:=hsh.2.2;omega
   have HAO:=hid hao;have HYA:=hid hya;have HKD:=hid hkd;have HCC:=hid hcc;have htg:T (L.gk a.kind)=(o,2)∨T (L.gk a.kind)=(o,3):=by
    rcases hkd with e|e<;>rw[e]
    ·exact .inl hy.t1
    ·exact .inr hy.t2
   have n1:¬L.gk a.kind=q:=fun e=>by rw[e,hya.tag]at htg;simp at htg
   have n2:¬L.gk a.kind=p:=fun e=>by rw[e,hy.tp]at htg;simp at htg
   have n3:¬L.gk a.kind=gc:=fun e=>by rw[e,hya.tagc gc rfl]at htg;simp at htg
   have k0:0≤a.kind:=by omega
   have k3:a.kind<3:=by omega
   have htq:=hya.tag;have htc:=hya.tagc gc rfl;have HTQ:=hid htq;have HTC:=hid htc;clear hy hok hf hl hao hsh hlen hv hcc hya hat hkd hro hro' htg htq htc;generalize hnn:a.cells.length=n at*;have HNN:=hid hnn;clear hnn;go_enter Tryz.func109,Tryz.ntmps109
   go_wp2_with fail
   refine(yfind_calls HY.out HO.out h).mono ?_;rintro e w' ⟨rfl,hw⟩;obtain rfl:=hw.symm;rw[HL.out];simp only[ptr];go_wp2
   go_loopw [8] (fun t w'=>∃k:Nat,k≤n∧t=.int .i64 k∧YAt T o w' p L (σ.writes a.kind a.cells (fun _=>asK a.kind v) k)∧Kp (fun b=>T b=(o,2)∨T b=(o,3)) w w') (fun t _=>n-(intOf t).toNat)
   case atStart=>exact⟨0,Nat.zero_le _,rfl,HY.out,Kp.refl _ _⟩
   case round=>
    obtain⟨k,hk,rfl,hyk,hkk⟩:=hrel;have t2:∀(b t:Nat),t≠2→t≠3→T b=(o,t)→¬(T b=(o,2)∨T b=(o,3)):=by
     intro b t h1 h4 ht h;rw[ht]at h;simp at h;omega
    have y2:=hkk.cell z2 (t2 q 6 (by omega) (by omega) HTQ.out);have HYK:=hid hyk;have HKK:=hid hkk;by_cases hlt:k<n
    ·have y0:=hkk.cell z0 (t2 q 6 (by omega) (by omega) HTQ.out)
     have yc:=hkk.cell (HCC.out k hlt) (t2 gc 6 (by omega) (by omega) HTC.out);have hvc:=hyk.vcell a.kind HKD.out;rw[(writes_same σ a.kind a.cells _ k).2.2]at hvc;obtain⟨c0,c1⟩:=HAO.out.inside k (by rw[HNN.out];exact hlt);have hvt:=hyk.vat (writes_ok HO.out _ _ _ _) a.kind HKD.out (nth a.cells k).toNat (by rw[(writes_same σ a.kind a.cells _ k).2.2];omega);have hfz:wr.frozen? ⟨L.gk a.kind,(nth a.cells k).toNat,none⟩=false:=frozen_blk (hyk.vblk a.kind HKD.out);have e1:(0:Int)≤(k:Int):=by omega
     generalize nth (Sp.vals _ a.kind) (nth a.cells k).toNat=x at hvt;have HP:=hid (hyk.put a.kind HKD.out (nth a.cells k).toNat (asK a.kind v));generalize hcc:nth a.cells k=c at*;have HCE:=hid hcc;clear t2 hyk hkk hcc;go_wp2
     go_region_held3 (fun w'=>w'.cell? ⟨q,0,none⟩=some (.int .i64 a.kind)∧w'.cell? ⟨p,3+a.kind.toNat,none⟩=some (.slice (some ⟨L.gk a.kind,0,none⟩) (σ.cap a.kind) (σ.cap a.kind))∧w'.cell? ⟨q,2,none⟩=some (.slice (some ⟨gc,0,none⟩) n cap)∧w'.cell? ⟨gc,k,none⟩=some (.int .i64 c)) (go_keep)
      (first|(go_at_call 126;refine(as_calls _ _ _).mono ?_;rintro e w' ⟨rfl,rfl⟩))
     go_wp2
     go_roundw
     case rel=>
      refine⟨k+1,by omega,by go_num,?_,HKK.out.trans HP.out.2.drew (fun _ _ e=>e)⟩;have:=HP.out.1.kp0 (Kp.drew (Kp.refl _ _));show YAt T o _ p L ((σ.writes a.kind a.cells (fun _=>asK a.kind v) k).put a.kind (nth a.cells k).toNat (asK a.kind v));rw[HCE.out];exact this
     case measure=>simp[intOf];omega
    ·have HKN:Hid (k=n):=hid (by omega)
     clear t2 hyk hkk;go_wp2
     go_ret;have hfo:=fill_ok HO.out h v;rw[HF.out]at hfo⊢;rw[←HKN.out]at hfo⊢;exact⟨rfl,T,fun _ _=>rfl,⟨hfo,L,HYK.out⟩,HKK.out.mono (fun i _ e=>by rcases e with e|e<;>rw[e]<;>simp[Mut])⟩
def Sp.valuesOf(σ:Sp)(a:Arr):List Int:=a.cells.map fun c=>nth (σ.vals a.kind) c.toNat
theorem valuesOf_take(σ:Sp)(a:Arr)(k:Nat)(h:k<a.cells.length):(σ.valuesOf a).take (k+1)=(σ.valuesOf a).take k++[nth (σ.vals a.kind) (nth a.cells k).toNat]:=by
 rw[List.take_succ_eq_append_getElem (by simpa[Sp.valuesOf]using h)];congr 1
 simp[Sp.valuesOf,nth_lt h]
theorem yvalues_calls{T:Tags}{o:Nat}{w:World}{p:Nat}{L:YL}{σ:Sp}(hy:YAt T o w p L σ)(hok:σ.ok)(q:Nat)(vs vc:Value)(a:Arr)(hya:YArr T o w q vs vc a)(hao:a.ok σ):Calls Tryz.prog 146 #[.pointer (some ⟨p,0,none⟩),.pointer (some ⟨q,0,none⟩)] w fun e w'=>∃ao c,e=.returned (.slice ao (σ.valuesOf a).length c)∧OwI w' (.slice ao (σ.valuesOf a).length c) (σ.valuesOf a)∧Kp0 w w'∧(∀b,(Value.slice ao (σ.valuesOf a).length c).ownBlock=some b→w.heap.size≤b):=by
 obtain⟨z0,z1,z2,z3,-⟩:=hya.parts;have hsh:=hao.shape;have hlen:=hao.length;have hv:=vol_bd a.shape hsh.2.1 hsh.1 a.shape.length (Nat.le_refl _);rw[List.take_length]at hv;obtain⟨gc,cap,rfl,hcap,hgc,hcc⟩:=hya.cells.slice (by omega);have hkd:=hao.kind;have hnl:a.cells.length≤3600:=by have:=hsh.2.2;omega
 have hvc:=hy.vcell a.kind hkd;have hcp:=hok.cap a.kind;have HVL:Hid ((σ.valuesOf a).length=a.cells.length):=hid (by simp[Sp.valuesOf]);have HVT:=hid (fun j (hj:j<a.cells.length)=>hy.vat hok a.kind hkd (nth a.cells j).toNat (by have:=hao.inside j hj;omega));have HTK:=hid (valuesOf_take σ a);have HCC:=hid hcc;have HIN:=hid hao.inside;have k0:0≤a.kind:=by omega
 have k3:a.kind<3:=by omega
 have bq:q<w.heap.size:=lt_of_heap hya.blk;have bp:p<w.heap.size:=lt_of_heap hy.blk;have bk:L.gk a.kind<w.heap.size:=lt_of_heap (hy.vblk a.kind hkd);clear hy hok hya hao hsh hlen hv hcc hkd z1 z3;generalize hvv:σ.valuesOf a=vals at*;clear hvv;generalize hnn:a.cells.length=n at*;go_enter Tryz.func146,Tryz.ntmps146
 go_wp2
 go_loopw [5,6] (fun l t w'=>∃k:Nat,k≤n∧t=.int .i64 k∧∃ao c,l=.slice ao k c∧OwI w' (.slice ao k c) (vals.take k)∧Kp0 w w'∧(∀b,(Value.slice ao k c).ownBlock=some b→w.heap.size≤b)) (fun _ t _=>n-(intOf t).toNat)
 case atStart=>exact⟨0,Nat.zero_le _,rfl,none,0,rfl,OwI.nil _,Kp0.refl _,fun b hb=>by simp[Value.ownBlock]at hb⟩
 case round=>
  obtain⟨k,hk,rfl,ao,c,rfl,hO,hK,hB⟩:=hrel;have y2:=hK.cell z2;have HOw:=hid hO;have HK:=hid hK;have HB:=hid hB;by_cases hlt:k<n
  ·have y0:=hK.cell z0
   have yv:=hK.cell hvc;have yc:=hK.cell (HCC.out k hlt);have yt:=hK.cell (HVT.out k hlt);obtain⟨c0,c1⟩:=HIN.out k hlt;have HTE:=hid (HTK.out k hlt);have e1:(0:Int)≤(k:Int):=by omega
   generalize nth a.cells k=cc at*;generalize nth (σ.vals a.kind) cc.toNat=x at*;have HBN:Hid (k+[x].length≤1000000000000):=hid (by simp;omega);generalize L.gk a.kind=gk at*;generalize σ.cap a.kind=cp at*;generalize a.kind=kd at*;clear hO hK hB;go_wp2
   go_region_held3 (fun w'=>w'.cell? ⟨q,0,none⟩=some (.int .i64 kd)∧w'.cell? ⟨p,3+kd.toNat,none⟩=some (.slice (some ⟨gk,0,none⟩) cp cp)∧w'.cell? ⟨q,2,none⟩=some (.slice (some ⟨gc,0,none⟩) n cap)∧w'.cell? ⟨gc,k,none⟩=some (.int .i64 cc)∧w'.cell? ⟨gk,cc.toNat,none⟩=some (.int .i64 x)) (first|go_keep|(go_split_ands;refine⟨?_,?_,?_,?_,?_⟩<;>(refine World.grownBy.cell hG7 ?_ (fun e=>by have:=HB.out _ e.symm;simp at this;omega);go_keep)))
    ((refine step_app (by rfl) _ _ (by rfl) ao k c (vals.take k) [x] _ (by rfl) (by rfl) (by exact OwI.drew (HOw.out.alloc _)) (by exact RdI.drew (RdI.one _ _)) HBN.out (wr.heap.size+1) (by simp) ?_;intro ao' c' w7 hC7 hG7 hB7))
   have hC7':=hC7;have hK7:Kp0 w w7:=Kp.grown (Kp.drew (Kp.alloc HK.out _)) hG7 (fun b hb h=>by have:=HB.out b hb;omega);have hB7':∀b,(Value.slice ao' (k+1) c').ownBlock=some b→w.heap.size≤b:=by
    intro b hb;rcases hB7 b hb with h|h
    ·exact HB.out b h
    ·have:=HK.out.size;omega
   have HC7:=hid hC7;have HK7:=hid hK7;have HB7:=hid hB7';clear hC7 hC7' hK7 hB7 hB7' hG7;go_wp2
   go_roundw
   case rel=>exact⟨k+1,by omega,by go_num,ao',c',rfl,by rw[HTE.out];exact HC7.out,HK7.out,HB7.out⟩
   case measure=>simp[intOf];omega
  ·have HKN:Hid (k=vals.length):=hid (by rw[HVL.out];omega)
   clear hO hK hB;go_wp2
   go_ret;have hO:=HOw.out;rw[HKN.out,List.take_length]at hO;refine⟨ao,c,?_,hO,HK.out,?_⟩
   ·rw[←HKN.out];rfl
   ·rw[←HKN.out];exact HB.out
def Sp.values(σ:Sp)(h:Int):List Int×Int:=match σ.find h with
 |none=>([],2)
 |some a=>(σ.valuesOf a,0)
def NewI(w w':World)(v:Value)(xs:List Int):Prop:=∃ao c,v=.slice ao xs.length c∧OwI w' (.slice ao xs.length c) xs∧Kp0 w w'∧∀b,(Value.slice ao xs.length c).ownBlock=some b→w.heap.size≤b
theorem NewI.nil{w w':World}(k:Kp0 w w'):NewI w w' (.slice none 0 0) []:=⟨none,0,rfl,OwI.nil _,k,fun b hb=>by simp[Value.ownBlock]at hb⟩
theorem yValues_calls{T:Tags}{o:Nat}{w:World}{p:Nat}{σ:Sp}(hy:YRep T o w p σ)(h:Int):Calls Tryz.prog 117 #[.pointer (some ⟨p,0,none⟩),.int .i64 h] w fun e w'=>∃v,e=.returned (.tuple #[v,.int .i64 (σ.values h).2])∧NewI w w' v (σ.values h).1:=by
 obtain⟨hok,L,hy⟩:=hy;have HO:=hid hok;rcases hy.find h with⟨hf,hl⟩|⟨a,q,vs,vc,hf,hl,hya,hat,h1⟩
 ·have HF:Hid (σ.values h=([],2)):=hid (by unfold Sp.values;rw[hf])
  have HY:=hid hy;have HL:=hid hl;clear hy hok hf hl;go_enter Tryz.func117,Tryz.ntmps117
  go_wp2_with fail
  refine(yfind_calls HY.out HO.out h).mono ?_;rintro e w' ⟨rfl,hw⟩;obtain rfl:=hw.symm;rw[HL.out];simp only[ptr];go_wp2
  go_ret2
  rw[HF.out];exact⟨_,rfl,NewI.nil (Kp0.refl _)⟩
 ·have hao:=find_ok hok hat
  have HF:Hid (σ.values h=(σ.valuesOf a,0)):=hid (by unfold Sp.values;rw[hf]);have HY:=hid hy;have HL:=hid hl;have HYA:=hid hya;have HAO:=hid hao;clear hy hok hf hl hya hat hao;go_enter Tryz.func117,Tryz.ntmps117
  go_wp2_with fail
  refine(yfind_calls HY.out HO.out h).mono ?_;rintro e w' ⟨rfl,hw⟩;obtain rfl:=hw.symm;rw[HL.out];simp only[ptr]
  go_wp2_with fail
  refine(yvalues_calls HY.out HO.out q vs vc a HYA.out HAO.out).mono ?_;rintro e w1 ⟨ao,c,rfl,hO,hK,hB⟩;have HOw:=hid hO;have HK:=hid hK;have HB:=hid hB;clear hO hK hB;go_wp2
  go_ret2
  rw[HF.out];exact⟨_,rfl,ao,c,rfl,HOw.out,HK.out,HB.out⟩
def Sp.look(σ:Sp)(h:Int):Int×List Int×Bool×Int:=match σ.find h with
 |none=>(0,[],false,2)
 |some a=>(a.kind,a.shape,a.ro,0)
theorem yLook_calls{T:Tags}{o:Nat}{w:World}{p:Nat}{σ:Sp}(hy:YRep T o w p σ)(h:Int):Calls Tryz.prog 120 #[.pointer (some ⟨p,0,none⟩),.int .i64 h] w fun e w'=>∃v,e=.returned (.tuple #[.agg #[.int .i64 (σ.look h).1,v,.bool (σ.look h).2.2.1],.int .i64 (σ.look h).2.2.2])∧NewI w w' v (σ.look h).2.1:=by
 obtain⟨hok,L,hy⟩:=hy;have HO:=hid hok;rcases hy.find h with⟨hf,hl⟩|⟨a,q,vs,vc,hf,hl,hya,hat,h1⟩
 ·have HF:Hid (σ.look h=(0,[],false,2)):=hid (by unfold Sp.look;rw[hf])
  have HY:=hid hy;have HL:=hid hl;clear hy hok hf hl;go_enter Tryz.func120,Tryz.ntmps120
  go_wp2_with fail
  refine(yfind_calls (HY.out.kp0 (Kp.alloc (Kp.refl _ _) _)) HO.out h).mono ?_;rintro e w' ⟨rfl,hw⟩;obtain rfl:=hw.symm;rw[HL.out];simp only[ptr];go_wp2
  refine bodyPost_ret (v:=.tuple #[.agg #[.int .i64 0,.slice none 0 0,.bool false],.int .i64 2]) (by simp[results,Tryz.results120,go_sem]) rfl ?_;rw[HF.out];exact⟨_,rfl,NewI.nil (Kp.alloc (Kp.refl _ _) _)⟩
 ·have hao:=find_ok hok hat
  obtain⟨z0,z1,-,z3,-⟩:=hya.parts;have HF:Hid (σ.look h=(a.kind,a.shape,a.ro,0)):=hid (by unfold Sp.look;rw[hf]);have hql:q<w.heap.size:=lt_of_heap hya.blk;have HR:=hid hya.shape.rd;have HSL:Hid (0+a.shape.length≤1000000000000):=hid (by have:=hao.shape.1;omega);have HY:=hid hy;have HL:=hid hl;clear hy hok hf hl hya hat hao;generalize a.kind=kd at*;generalize a.shape=sh at*;generalize a.ro=ro at*;go_enter Tryz.func120,Tryz.ntmps120
  go_wp2_with fail
  refine(yfind_calls (HY.out.kp0 (Kp.alloc (Kp.refl _ _) _)) HO.out h).mono ?_;rintro e w' ⟨rfl,hw⟩;obtain rfl:=hw.symm;rw[HL.out];simp only[ptr]
  go_wp2_with (at_builtin;refine wpList_app rfl _ _ rfl none 0 0 [] sh vs rfl rfl (OwI.nil _) (HR.out.kp0 (Kp.alloc (Kp.refl _ _) _)) HSL.out (w.heap.size+1) (by simp) ?_)
  intro ao c w4 hownS hgrowS hatS;have hK4:Kp0 w w4:=Kp.grown (Kp.alloc (Kp.refl _ _) _) hgrowS (by simp[Value.ownBlock]);have hG4:w4.heap[w.heap.size]? =some (.cells #[.int .i64 0,.slice none 0 0,.bool false] 96 (0,0)):=by
   rw[hgrowS.block _ (by simp) (by simp[Value.ownBlock])];exact heap_alloc_new _ _
  have hB4:∀b,(Value.slice ao sh.length c).ownBlock=some b→w.heap.size+1≤b:=fun b hb=>by
   rcases hatS b hb with h|h
   ·simp[Value.ownBlock]at h
   ·omega
  have y0:=hK4.cell z0;have y3:=hK4.cell z3;have g0:w4.cell? ⟨w.heap.size,0,none⟩=some (.int .i64 0):=by simp[World.cell?,hG4]
  have g1:w4.cell? ⟨w.heap.size,1,none⟩=some (.slice none 0 0):=by simp[World.cell?,hG4]
  have g2:w4.cell? ⟨w.heap.size,2,none⟩=some (.bool false):=by simp[World.cell?,hG4]
  have f0:w4.frozen? ⟨w.heap.size,0,none⟩=false:=frozen_blk hG4;have f1:w4.frozen? ⟨w.heap.size,1,none⟩=false:=frozen_blk hG4;have f2:w4.frozen? ⟨w.heap.size,2,none⟩=false:=frozen_blk hG4;have nq:¬w.heap.size=q:=by omega
  have HK4:=hid hK4;have HG4:=hid hG4;have HB4:=hid hB4;have HO4:=hid hownS;clear hK4 hG4 hB4 hownS hgrowS hatS z0 z1 z3;go_wp2
  go_region_held3 (fun w'=>w'.cell? ⟨q,0,none⟩=some (.int .i64 kd)∧w'.cell? ⟨q,3,none⟩=some (.bool ro)) (go_keep) (fail)
  go_wp2
  refine bodyPost_ret (v:=.tuple #[.agg #[.int .i64 kd,.slice ao sh.length c,.bool ro],.int .i64 0]) (by simp[results,Tryz.results120,go_sem, *]) rfl ?_;rw[HF.out];refine⟨_,rfl,ao,c,rfl,?_,?_,fun b hb=>by have:=HB4.out b hb;omega⟩
  ·repeat' (first|exact HO4.out|refine OwI.drew ?_|refine OwI.setCell ?_ _ (fun e=>Nat.not_succ_le_self _ (HB4.out _ e)))
  ·repeat' (first|exact HK4.out|refine Kp.drew ?_|refine Kp.setCell ?_ _ _ (fun h=>absurd h (Nat.lt_irrefl _)))
def cntTo(t:Int→Bool):Nat→Nat
 |0=>0
 |k+1=>cntTo t k+if t k then 1 else 0
def topTo(t:Int→Bool):Nat→Nat
 |0=>0
 |k+1=>if t k then k+1 else topTo t k
theorem cntTo_le(t:Int→Bool)(k:Nat):cntTo t k≤k:=by
 induction k with
 |zero=>exact Nat.le_refl _
 |succ k ih=>simp only[cntTo];split<;>omega
def Sp.store(σ:Sp)(kind:Int):Int×Int×Int×Int:=
 if kind≠1∧kind≠2 then(0,0,0,3)
 else((σ.cap kind:Int),(cntTo (σ.taken kind) (σ.cap kind):Int),(topTo (σ.taken kind) (σ.cap kind):Int),0)
theorem yStore_calls{T:Tags}{o:Nat}{w:World}{p:Nat}{σ:Sp}(hy:YRep T o w p σ)(kind:Int):Calls Tryz.prog 79 #[.pointer (some ⟨p,0,none⟩),.int .i64 kind] w fun e w'=>e=.returned (.tuple #[.agg #[.int .i64 (σ.store kind).1,.int .i64 (σ.store kind).2.1,.int .i64 (σ.store kind).2.2.1],.int .i64 (σ.store kind).2.2.2])∧Kp0 w w':=by
 obtain⟨hok,L,hy⟩:=hy;have HO:=hid hok;have HY:=hid hy;by_cases hk:kind=1∨kind=2
 ·have HK:=hid hk
  have HF:Hid (σ.store kind=((σ.cap kind:Int),(cntTo (σ.taken kind) (σ.cap kind):Int),(topTo (σ.taken kind) (σ.cap kind):Int),0)):=hid (by
   unfold Sp.store;rw[if_neg (by omega)])
  have HT:Hid (∀w,YAt T o w p L σ→Calls Tryz.prog 121 #[.pointer (some ⟨p,0,none⟩),.int .i64 kind] w fun e w'=>e=.returned (.slice (some ⟨w.heap.size,0,none⟩) (σ.cap kind) (σ.cap kind))∧Kp0 w w'∧w'.heap[w.heap.size]? =some (.cells (bls (σ.taken kind) (σ.cap kind)) 4 (0,0))):=
   fun w hy=>ytaken_calls hy hok kind hk
  have hcap:=hok.cap kind;clear hy hok;generalize σ.cap kind=n at*;generalize σ.taken kind=t at*;generalize hsk:σ.store kind=R at*;clear hsk;rcases hk with rfl|rfl
  all_goals
   go_enter Tryz.func79,Tryz.ntmps79
   go_wp2_with fail
   refine(HT.out _ (HY.out.kp0 (Kp.alloc (Kp.refl _ _) _))).mono ?_;rintro e w1 ⟨rfl,hK1,hG⟩;have HK1:=hid hK1;have HG:=hid hG;have hr1:w1.heap[w.heap.size]? =some (.cells #[.int .i64 0,.int .i64 0,.int .i64 0] 61 (0,0)):=hK1.heap (heap_alloc_new _ _);have hs1:w.heap.size+1<w1.heap.size:=by have:=lt_of_heap hG;simpa using this
   have HR1:=hid hr1;clear hK1 hG hr1 HT;go_wp2
   go_loopw [8] (fun i w'=>∃k:Nat,k≤n∧i=.int .i64 k∧Kp0 w1 w'∧w'.heap[w1.heap.size]? =some (.cells #[.int .i64 (n:Int),.int .i64 (cntTo t k:Int),.int .i64 (topTo t k:Int)] 61 (0,0))) (fun i _=>n-(intOf i).toNat)
   case atStart=>exact⟨0,Nat.zero_le _,rfl,Kp.alloc (Kp.refl _ _) _,heap_alloc_new _ _⟩
   case round=>
    obtain⟨k,hk,rfl,hKk,hGk⟩:=hrel;have HKk:=hid hKk;have HGk:=hid hGk;have bc:=cntTo_le t k;have hx1:wr.cell? ⟨w1.heap.size,1,none⟩=some (.int .i64 (cntTo t k:Int)):=by simp[World.cell?,hGk]
    have hx2:wr.cell? ⟨w1.heap.size,2,none⟩=some (.int .i64 (topTo t k:Int)):=by simp[World.cell?,hGk]
    have hf1:wr.frozen? ⟨w1.heap.size,1,none⟩=false:=frozen_blk hGk;have hf2:wr.frozen? ⟨w1.heap.size,2,none⟩=false:=frozen_blk hGk;by_cases hlt:k<n
    ·have q:wr.cell? ⟨w.heap.size+1,k,none⟩=some (.bool (t k)):=by
      refine hKk.cell ?_;have:=cell_of_row w1 (w.heap.size+1) k _ _ _ (by simpa using HG.out);rw[this,bls_get _ _ _ hlt]
     have HC:Hid (cntTo t (k+1)=cntTo t k+if t k then 1 else 0):=rfl;have HTP:Hid (topTo t (k+1)=if t k then k+1 else topTo t k):=rfl;clear hKk hGk;cases ht:t k
     ·rw[ht]at q
      go_wp2
      go_roundw
      case rel=>exact⟨k+1,by omega,by go_num,HKk.out,by rw[HC.out,HTP.out,ht];exact HGk.out⟩
      case measure=>simp[intOf];omega
     ·rw[ht]at q
      go_wp2
      go_roundw
      case rel=>
       refine⟨k+1,by omega,by go_num,Kp.setCell (Kp.setCell HKk.out _ _ (fun h=>absurd h (Nat.lt_irrefl _))) _ _ (fun h=>absurd h (Nat.lt_irrefl _)),?_⟩;rw[heap_setCell_same _ _ _ _ _ _ (heap_setCell_same _ _ _ _ _ _ HGk.out),HC.out,HTP.out,ht];simp
      case measure=>simp[intOf];omega
    ·have hke:k=n:=by omega
     have HKE:=hid hke;have hx0:wr.cell? ⟨w1.heap.size,0,none⟩=some (.int .i64 (n:Int)):=by simp[World.cell?,hGk]
     have hr:=hKk.heap HR1.out;have r0:wr.cell? ⟨w.heap.size,0,none⟩=some (.int .i64 0):=by simp[World.cell?,hr]
     have r1:wr.cell? ⟨w.heap.size,1,none⟩=some (.int .i64 0):=by simp[World.cell?,hr]
     have r2:wr.cell? ⟨w.heap.size,2,none⟩=some (.int .i64 0):=by simp[World.cell?,hr]
     have g0:wr.frozen? ⟨w.heap.size,0,none⟩=false:=frozen_blk hr;have g1:wr.frozen? ⟨w.heap.size,1,none⟩=false:=frozen_blk hr;have g2:wr.frozen? ⟨w.heap.size,2,none⟩=false:=frozen_blk hr;have nq:¬w.heap.size=w1.heap.size:=by omega
     clear hke hKk hGk hr;go_wp2
     refine bodyPost_ret (v:=.tuple #[.agg #[.int .i64 (n:Int),.int .i64 (cntTo t k:Int),.int .i64 (topTo t k:Int)],.int .i64 0]) (by simp[results,Tryz.results79,go_sem, *]) rfl ?_;rw[HF.out,←HKE.out];refine⟨rfl,?_⟩;have hk1:Kp0 w wr:=Kp0.trans (Kp.alloc (Kp.refl _ _) _) (HK1.out.trans HKk.out)
     repeat' (first|exact hk1|refine Kp.drew ?_|refine Kp.setCell ?_ _ _ (fun h=>absurd h (Nat.lt_irrefl _)))
 ·have d1:(kind !=1)=true:=by rw[bne_iff_ne];omega
  have d2:(kind !=2)=true:=by rw[bne_iff_ne];omega
  have HF:Hid (σ.store kind=(0,0,0,3)):=hid<|by
   unfold Sp.store;rw[if_pos (by omega)]
  clear hk hy hok;go_enter Tryz.func79,Tryz.ntmps79
  go_wp2
  refine bodyPost_ret (v:=.tuple #[.agg #[.int .i64 0,.int .i64 0,.int .i64 0],.int .i64 3]) (by simp[results,Tryz.results79,go_sem]) rfl ?_;rw[HF.out];exact⟨rfl,Kp.alloc (Kp.refl _ _) _⟩
def Sp.new(b i:Nat):Sp:={n1:=b,n2:=i,v1:=List.replicate b 0,v2:=List.replicate i 0,arrs:=[],bufs:=[]}
def mayNew(b i:Int):Bool:=decide (0≤b)&&(decide (b≤10000)&&(decide (0≤i)&&decide (i≤10000)))
theorem new_ok(b i:Nat)(hb:b≤10000)(hi:i≤10000):(Sp.new b i).ok:=
 ⟨hb,hi,by simp[Sp.new],by simp[Sp.new],fun j a ha=>by simp[Sp.new]at ha,fun j a ha=>by simp[Sp.new]at ha,by simp[Sp.new],by simp[Sp.new]⟩
theorem ynew_no(b i:Int)(w:World)(h:mayNew b i=false):Calls Tryz.prog 38 #[.int .i64 b,.int .i64 i] w fun e w'=>e=.returned (.tuple #[.pointer none,.int .i64 1])∧w'=w:=by
 have h':¬(0≤b∧b≤10000∧0≤i∧i≤10000):=by simpa[mayNew]using h
 clear h;by_cases h1:b<0
 ·have d1:decide (b<0)=true:=by simp[h1]
  go_enter Tryz.func38,Tryz.ntmps38
  go_wp2
  go_ret2
  exact⟨rfl,rfl⟩
 ·have d1:decide (b<0)=false:=by simp[h1]
  by_cases h2:10000<b
  ·have d2:decide (10000<b)=true:=by simp[h2]
   go_enter Tryz.func38,Tryz.ntmps38
   go_wp2
   go_ret2
   exact⟨rfl,rfl⟩
  ·have d2:decide (10000<b)=false:=by simp[h2]
   by_cases h3:i<0
   ·have d3:decide (i<0)=true:=by simp[h3]
    go_enter Tryz.func38,Tryz.ntmps38
    go_wp2
    go_ret2
    exact⟨rfl,rfl⟩
   ·have d3:decide (i<0)=false:=by simp[h3]
    have h4:10000<i:=by omega
    have d4:decide (10000<i)=true:=by simp[h4]
    go_enter Tryz.func38,Tryz.ntmps38
    go_wp2
    go_ret2
    exact⟨rfl,rfl⟩
def newTags(w:World)(T:Tags)(o:Nat):Tags:=fun b=>if b<w.heap.size then T b else if b=w.heap.size then(o,1)else if b=w.heap.size+1 then(o,2)else(o,3)
theorem rep_ints0(n:Nat):rep n (.int .i64 0)=(ints (List.replicate n 0)).toArray:=by simp[rep,ints]
theorem ynew_at(w:World)(b i:Nat)(T:Tags)(o:Nat):YAt (newTags w T o) o (((w.alloc (.cells #[.int .i64 0,.int .i64 (b:Int),.int .i64 (i:Int),.slice none 0 0,.slice (some ⟨w.heap.size+1,0,none⟩) b b,.slice (some ⟨w.heap.size+2,0,none⟩) i i,.slice none 0 0,.slice none 0 0] 153)).alloc (.cells (rep b (.int .i64 0)) 3)).alloc (.cells (rep i (.int .i64 0)) 3)).drew.drew w.heap.size ⟨w.heap.size+1,w.heap.size+2,.slice none 0 0,.slice none 0 0,[]⟩ (Sp.new b i):=by
 have e0:∀x y z:Obj,(((w.alloc x).alloc y).alloc z).drew.drew.heap[w.heap.size]? =some x:=by
  intro x y z;show(((w.heap.push x).push y).push z)[w.heap.size]? =_;simp only[Array.getElem?_push,Array.size_push];rw[if_neg (by omega),if_neg (by omega),if_pos trivial]
 have e1:∀x y z:Obj,(((w.alloc x).alloc y).alloc z).drew.drew.heap[w.heap.size+1]? =some y:=by
  intro x y z;show(((w.heap.push x).push y).push z)[w.heap.size+1]? =_;simp only[Array.getElem?_push,Array.size_push];rw[if_neg (by omega),if_pos trivial]
 have e2:∀x y z:Obj,(((w.alloc x).alloc y).alloc z).drew.drew.heap[w.heap.size+2]? =some z:=by
  intro x y z;show(((w.heap.push x).push y).push z)[w.heap.size+2]? =_;simp only[Array.getElem?_push,Array.size_push];rw[if_pos trivial]
 exact⟨e0 _ _ _,by rw[e1,rep_ints0];rfl,by rw[e2,rep_ints0];rfl,World.ownsRow_nil _ _ _ _,World.ownsRow_nil _ _ _ _,rfl,fun j hj=>by simp[Sp.new]at hj,fun j a ha=>by simp[Sp.new]at ha,
  by simp[newTags],by simp[newTags];intro h;omega,by simp[newTags];intro h;omega,fun b hb=>by simp[Value.ownBlock]at hb,fun b hb=>by simp[Value.ownBlock]at hb⟩
theorem ynew_yes(b i:Nat)(w:World)(hb:b≤10000)(hi:i≤10000)(T:Tags)(o:Nat):Calls Tryz.prog 38 #[.int .i64 (b:Int),.int .i64 (i:Int)] w fun e w'=>∃p,e=.returned (.tuple #[.pointer (some ⟨p,0,none⟩),.int .i64 0])∧∃T',TagsTo w T T'∧YRep T' o w' p (Sp.new b i)∧Kp0 w w'∧w.heap.size≤p:=by
 have hm1:=fun W=>run_mk (P:=Tryz.prog) 26 3 (.int .i64 0) 8 Tryz.underlying26 Tryz.infoInt rfl (by omega) b (by omega) W
 have hm2:=fun W=>run_mk (P:=Tryz.prog) 26 3 (.int .i64 0) 8 Tryz.underlying26 Tryz.infoInt rfl (by omega) i (by omega) W
 have d1:decide ((b:Int)<0)=false:=by simp
 have d2:decide (10000<(b:Int))=false:=by simp;omega
 have d3:decide ((i:Int)<0)=false:=by simp
 have d4:decide (10000<(i:Int))=false:=by simp;omega
 go_enter Tryz.func38,Tryz.ntmps38
 go_wp2
 go_region_held3 (fun _=>True) (trivial) (fail)
 go_wp2
 go_region_held3 (fun _=>True) (trivial) (fail)
 go_wp2
 go_ret2
 refine⟨w.heap.size,rfl,newTags w T o,fun b hb=>if_pos hb,⟨new_ok b i hb hi,⟨w.heap.size+1,w.heap.size+2,.slice none 0 0,.slice none 0 0,[]⟩,?_⟩,?_,Nat.le_refl _⟩
 ·exact ynew_at w b i T o
 ·exact Kp.drew (Kp.drew (Kp.alloc (Kp.alloc (Kp.alloc (Kp.refl _ _) _) _) _))
structure WS where
 vsd:Value
 vl:Value
 vm:Value
 vt:Value
 sides:List Nat
 lists:List Value
 marks:List Int
 turned:List Value
 last:Int
def Same(w:World)(v:Value)(m:Int):Prop:=∃n,n≤1000000000∧RdI w v (List.replicate n m)∧∀b,v.ownBlock=some b→b<w.heap.size
structure WAt(T:Tags)(o:Nat)(w:World)(p:Nat)(S:WS):Prop where
 blk:w.heap[p]? =some (.cells #[S.vsd,S.vl,S.vm,S.vt,.int .i64 S.last] 28 (0,0))
 sd:w.ownsRow 0 83 1 S.vsd S.sides.length (S.sides.map fun b=>ptr (some b))
 li:w.ownsRow 0 26 1 S.vl S.lists.length S.lists
 ma:OwI w S.vm S.marks
 tu:w.ownsRow 0 26 1 S.vt S.turned.length S.turned
 len:S.lists.length=S.marks.length
 okl:∀(i:Nat) (v:Value) (m:Int),S.lists[i]? =some v→S.marks[i]? =some m→Same w v m∧Tagged T v (o,9)
 okt:∀(i:Nat) (v:Value),S.turned[i]? =some v→Same w v (-7)∧Tagged T v (o,9)
 tp:T p=(o,1)
 ts:Tagged T S.vsd (o,2)
 tl:Tagged T S.vl (o,3)
 tm:Tagged T S.vm (o,4)
 tt:Tagged T S.vt (o,5)
 nl:S.lists.length≤1000000000
 nt:S.turned.length≤1000000000
 l0: -1000000000≤S.last
 l1:S.last≤0
theorem Same.kp{S:Nat→Prop}{w w':World}{v:Value}{m:Int}(h:Same w v m)(k:Kp S w w')(hs:∀b,v.ownBlock=some b→¬S b):Same w' v m:=by
 obtain⟨n,hn,hr,hb⟩:=h;exact⟨n,hn,hr.kp k hs,fun b e=>Nat.lt_of_lt_of_le (hb b e) k.size⟩
theorem WAt.kp{T:Tags}{o:Nat}{Z:Nat→Prop}{w w':World}{p:Nat}{S:WS}(h:WAt T o w p S)(k:Kp Z w w')(hs:∀b,(T b).1=o→¬Z b):WAt T o w' p S:=
 ⟨k.heap h.blk (hs p (by rw[h.tp])),row_kp h.sd k (fun b hb=>hs b (by rw[h.ts b hb])),row_kp h.li k (fun b hb=>hs b (by rw[h.tl b hb])),h.ma.kp k (fun b hb=>hs b (by rw[h.tm b hb])),
  row_kp h.tu k (fun b hb=>hs b (by rw[h.tt b hb])),h.len,fun i v m hv hm=>⟨(h.okl i v m hv hm).1.kp k (fun b hb=>hs b (by rw[(h.okl i v m hv hm).2 b hb])),(h.okl i v m hv hm).2⟩,
  fun i v hv=>⟨(h.okt i v hv).1.kp k (fun b hb=>hs b (by rw[(h.okt i v hv).2 b hb])),(h.okt i v hv).2⟩,h.tp,h.ts,h.tl,h.tm,h.tt,h.nl,h.nt,h.l0,h.l1⟩
theorem WAt.cells{T:Tags}{o:Nat}{w:World}{p:Nat}{S:WS}(h:WAt T o w p S):w.cell? ⟨p,0,none⟩=some S.vsd∧w.cell? ⟨p,1,none⟩=some S.vl∧w.cell? ⟨p,2,none⟩=some S.vm∧w.cell? ⟨p,3,none⟩=some S.vt∧w.cell? ⟨p,4,none⟩=some (.int .i64 S.last):=by simp[World.cell?,h.blk]
theorem row_any{w:World}{e:TypeId}{v:Value}{n:Nat}{xs:List Value}(h:w.ownsRow 0 e 1 v n xs):∃a cap,v=.slice a n cap∧(0<n→∃g,a=some ⟨g,0,none⟩∧∀j,j<n→w.cell? ⟨g,j,none⟩=xs[j]?):=by
 rcases row_form h with⟨rfl,rfl⟩|⟨g,cap,rfl,_,_,hc⟩
 ·exact⟨none,0,rfl,fun h=>by omega⟩
 ·exact⟨_,cap,rfl,fun _=>⟨g,rfl,fun j hj=>hc j (by omega)⟩⟩
theorem kept_calls{T:Tags}{o:Nat}{w:World}{p:Nat}{S:WS}(h:WAt T o w p S):Calls Tryz.prog 39 #[.pointer (some ⟨p,0,none⟩)] w fun e w'=>e=.returned (.bool true)∧Kp0 w w':=by
 obtain⟨-,q1,q2,q3,-⟩:=h.cells;obtain⟨al,cl,hvl,hcl⟩:=row_any h.li;obtain⟨am,cm,hvm,hcm⟩:=row_any h.ma;obtain⟨at',ct,hvt,hct⟩:=row_any h.tu;rw[hvl]at q1;rw[hvm]at q2;rw[hvt]at q3;have hnl:=h.nl;have hnt:=h.nt;have HH:=hid h;have HCL:=hid hcl;have HCM:=hid hcm;have HCT:=hid hct;have HLEN:=hid h.len;clear h hcl hcm hct hvl hvm hvt;generalize hnn:S.lists.length=n at*;generalize hmm:S.marks.length=m at*;generalize htt:S.turned.length=t at*;have HNN:=hid hnn;have HMM:=hid hmm;have HTT:=hid htt;clear hnn hmm htt;go_enter Tryz.func39,Tryz.ntmps39
 go_wp2
 go_loopw [3] (fun i w'=>∃k:Nat,k≤n∧i=.int .i64 k∧∃d,w'=w.drewN d) (fun i _=>n-(intOf i).toNat)
 case atStart=>exact⟨0,Nat.zero_le _,rfl,0,rfl⟩
 case round=>
  obtain⟨k,hk,rfl,d,rfl⟩:=hrel;by_cases hlt:k<n
  ·obtain⟨gl,rfl,hgl⟩:=HCL.out (by omega)
   obtain⟨gm,rfl,hgm⟩:=HCM.out (by have:=HLEN.out;omega);have hkl:k<S.lists.length:=by have:=HNN.out;omega
   have hkm:k<S.marks.length:=by have:=HMM.out;have:=HLEN.out;omega
   have x1:=hgl k hlt;rw[List.getElem?_eq_getElem hkl]at x1;have x2:=hgm k (by have:=HLEN.out;omega);rw[ints_get hkm]at x2;obtain⟨⟨nn,hnn,⟨aa,cc,hvv,hcell⟩,-⟩,-⟩:=HH.out.okl k _ (nth S.marks k) (List.getElem?_eq_getElem hkl) (by rw[List.getElem?_eq_getElem hkm,nth_lt hkm]);rw[List.length_replicate]at hvv;rw[hvv]at x1;have HCELL:=hid hcell;have e1:(0:Int)≤(k:Int):=by omega
   have hkm':(k:Int)<(m:Int):=by have:=HLEN.out;omega
   clear hvv hcell hgl hgm hkl hkm;go_wp2
   go_loopw [4] (fun i w'=>∃j:Nat,j≤nn∧i=.int .i64 j∧∃d,w'=w.drewN d) (fun i _=>nn-(intOf i).toNat)
   case atStart=>exact⟨0,Nat.zero_le _,rfl,d,rfl⟩
   case round=>
    obtain⟨j,hj,rfl,d',rfl⟩:=hrel;by_cases hjt:j<nn
    ·obtain⟨g,o',rfl,hc⟩:=HCELL.out (by intro e;rw[List.replicate_eq_nil_iff]at e;omega)
     have x3:=hc j (by simpa using hjt);rw[nth_lt (by simpa using hjt),List.getElem_replicate]at x3;have e2:(0:Int)≤(j:Int):=by omega
     have dm:(nth S.marks k !=nth S.marks k)=false:=by simp
     clear hc;go_wp2
     go_quiet (fail)
     go_wp2
     go_roundw
     case rel=>exact⟨j+1,by omega,by go_num,_,rfl⟩
     case measure=>simp[intOf];omega
    ·go_wp2
     go_roundw
     case rel=>exact⟨k+1,by omega,by go_num,_,rfl⟩
     case measure=>simp[intOf];omega
  ·go_wp2
   go_loopw [5] (fun i w'=>∃k:Nat,k≤t∧i=.int .i64 k∧∃d,w'=w.drewN d) (fun i _=>t-(intOf i).toNat)
   case atStart=>exact⟨0,Nat.zero_le _,rfl,d,rfl⟩
   case round=>
    obtain⟨k',hk',rfl,d2,rfl⟩:=hrel;by_cases hlt':k'<t
    ·obtain⟨gt,rfl,hgt⟩:=HCT.out (by omega)
     have hkt:k'<S.turned.length:=by have:=HTT.out;omega
     have x1:=hgt k' hlt';rw[List.getElem?_eq_getElem hkt]at x1;obtain⟨⟨nn,hnn,⟨aa,cc,hvv,hcell⟩,-⟩,-⟩:=HH.out.okt k' _ (List.getElem?_eq_getElem hkt);rw[List.length_replicate]at hvv;rw[hvv]at x1;have HCELL:=hid hcell;have e1:(0:Int)≤(k':Int):=by omega
     clear hvv hcell hgt hkt;go_wp2
     go_loopw [6] (fun i w'=>∃j:Nat,j≤nn∧i=.int .i64 j∧∃d,w'=w.drewN d) (fun i _=>nn-(intOf i).toNat)
     case atStart=>exact⟨0,Nat.zero_le _,rfl,d2,rfl⟩
     case round=>
      obtain⟨j,hj,rfl,d',rfl⟩:=hrel;by_cases hjt:j<nn
      ·obtain⟨g,o',rfl,hc⟩:=HCELL.out (by intro e;rw[List.replicate_eq_nil_iff]at e;omega)
       have x3:=hc j (by simpa using hjt);rw[nth_lt (by simpa using hjt),List.getElem_replicate]at x3;have e2:(0:Int)≤(j:Int):=by omega
       clear hc;go_wp2
       go_roundw
       case rel=>exact⟨j+1,by omega,by go_num,_,rfl⟩
       case measure=>simp[intOf];omega
      ·go_wp2
       go_roundw
       case rel=>exact⟨k'+1,by omega,by go_num,_,rfl⟩
       case measure=>simp[intOf];omega
    ·go_wp2
     go_ret;exact⟨rfl,(Kp.refl _ _).drewN _⟩
theorem setRow_alloc(w:World)(c c':Array Value)(t:TypeId):(w.alloc (.cells c t)).setRow w.heap.size c'=w.alloc (.cells c' t):=by
 unfold World.setRow World.alloc;congr 1
 apply Array.ext_getElem?
 intro k;simp only[Array.getElem?_modify,Array.getElem?_push];by_cases hk:k=w.heap.size
 ·subst hk
  simp
 ·simp[hk]
  intro h;exact absurd h.symm hk
theorem copy_eq(w:World)(ty:TypeId)(n:Nat)(vl:Value)(xs:List Int)(hn:xs.length=n)(hr:RdI (w.alloc (.cells (rep (n+1) (.int .i64 0)) 3)) vl xs):(Builtin.copy_ #[26,26] ty #[.slice (some ⟨w.heap.size,0,none⟩) (n+1) (n+1),vl]).run Tryz.prog (w.alloc (.cells (rep (n+1) (.int .i64 0)) 3))=.ok (goInt n) (w.alloc (.cells (ints (xs++[0])).toArray 3)):=by
 obtain⟨a,cap,rfl,hr⟩:=hr;obtain⟨i,hi,hz0,hz1,hz2⟩:=info_parts Tryz.infoInt;by_cases hx:xs=[]
 ·subst hx
  simp at hn;subst hn;have hf:∀W,(Builtin.firstCells i.size 0 (.slice a 0 cap)).run Tryz.prog W=.ok #[] W:=by
   intro W;cases a with
   |none=>rfl
   |some b=>simp[Builtin.firstCells,loadCells,loadCellsFrom]
  simp[Builtin.copy_,run_underlying Tryz.underlying26,Builtin.lenOf,sizeOf,typeInfo,hi,hf,storeCells];rfl
 ·obtain⟨g,o,rfl,hc⟩:=hr hx
  have h:=run_copy_row (P:=Tryz.prog) (w.alloc (.cells (rep (n+1) (.int .i64 0)) 3)) 26 26 ty 3 w.heap.size 0 (n+1) (n+1) ⟨g,o,none⟩ xs.length cap _ _ (ints xs) Tryz.underlying26 (by rw[hi];simp[hz1]) (heap_alloc_new _ _) (by rw[ints_length,hn];exact(Nat.min_eq_left (by omega)).symm)
   (by
    intro j u hu;have hj:j<xs.length:=by
     rcases Nat.lt_or_ge j xs.length with h|h
     ·exact h
     ·rw[List.getElem?_eq_none (by rw[ints_length];exact h)]at hu;cases hu
    rw[ints_get hj]at hu;have:(⟨g,o,none⟩:Addr).add j=⟨g,o+j,none⟩:=by unfold Addr.add;split<;>simp_all
    rw[this,hc j hj];exact hu) (by simp[rep,ints_length];omega) (ints_cell xs)
  have e:(List.take 0 (rep (n+1) (.int .i64 0)).toList++ints xs++List.drop (0+xs.length) (rep (n+1) (.int .i64 0)).toList).toArray=(ints (xs++[0])).toArray:=by
   rw[ints_append];simp[rep,ints,hn,List.drop_replicate]
  rw[h,ints_length,setRow_alloc,e,hn]
theorem lent_calls(vl:Value)(xs:List Int)(w:World)(hr:RdI w vl xs)(hn:xs.length≤1000000000):Calls Tryz.prog 104 #[vl] w fun e w'=>e=.returned (.slice (some ⟨w.heap.size,0,none⟩) (xs.length+1) (xs.length+1))∧w'=w.alloc (.cells (ints (xs++[0])).toArray 3):=by
 have hmk:=fun W=>run_mk (P:=Tryz.prog) 26 3 (.int .i64 0) 8 Tryz.underlying26 Tryz.infoInt rfl (by omega) (xs.length+1) (by omega) W
 have hcp:=fun ty=>copy_eq w ty xs.length vl xs rfl (hr.kp0 (Kp.alloc (Kp.refl _ _) _))
 obtain⟨a,cap,rfl,-⟩:=hr;generalize xs.length=n at*;rw[show(((n+1:Nat)):Int)=(n:Int)+1 by omega]at hmk;go_enter Tryz.func104,Tryz.ntmps104
 go_wp2
 go_ret;exact⟨rfl,rfl⟩
theorem hand_nil(g:Value)(n c:Nat)(w:World):Calls Tryz.prog 105 #[g,.slice none n c] w fun e w'=>e=.returned (.slice none 0 0)∧w'=w:=by
 have heq:=fun W=>Lib.run_eql_slice_nil (P:=Tryz.prog) W 26 3 none n c 0 0 Tryz.underlying26
 simp only[Option.isNone_none]at heq;go_enter Tryz.func105,Tryz.ntmps105
 go_wp2
 go_ret;exact⟨rfl,rfl⟩
theorem hand_some(g n m c:Nat)(a:Addr)(w:World)(h:n≤m)(_hm:m≤1000000001):Calls Tryz.prog 105 #[.slice (some ⟨g,0,none⟩) m m,.slice (some a) n c] w fun e w'=>e=.returned (.slice (some ⟨g,0,none⟩) n m)∧w'=w:=by
 have heq:=fun W=>Lib.run_eql_slice_nil (P:=Tryz.prog) W 26 3 (some a) n c 0 0 Tryz.underlying26
 simp only[Option.isNone_some]at heq;go_enter Tryz.func105,Tryz.ntmps105
 go_wp2
 go_ret;exact⟨rfl,rfl⟩
theorem Tryz.infoSl:(Tryz.prog.info? 26).map (fun i=>(i.zero,i.size,i.bytes))=some (some (.slice none 0 0),1,24):=by kernel_rfl
def over(m:Int)(k:Nat)(xs:List Int):List Int:=List.replicate k m++xs.drop k
theorem over_length(m:Int)(k:Nat)(xs:List Int)(h:k≤xs.length):(over m k xs).length=xs.length:=by simp[over];omega
theorem over_set(m:Int)(k:Nat)(xs:List Int)(h:k<xs.length):(over m k xs).set k m=over m (k+1) xs:=by
 unfold over;rw[List.drop_eq_getElem_cons h,List.set_append_right _ _ (by simp),List.replicate_succ'];simp only[List.length_replicate,Nat.sub_self,List.set_cons_zero,List.append_assoc,List.singleton_append]
theorem over_all(m:Int)(xs:List Int):over m xs.length xs=List.replicate xs.length m:=by simp[over]
def WS.turn(S:WS)(vt v:Value):WS:={S with vt:=vt,turned:=S.turned++[v]}
theorem lists_get{w w':World}{p:Nat}(h:w'.heap[p]? =w.heap[p]?)(o:Nat):w'.cell? ⟨p,o,none⟩=w.cell? ⟨p,o,none⟩:=World.cell?_of_block h
theorem WAt.turned{T:Tags}{o:Nat}{w wr w2:World}{p:Nat}{S:WS}(h:WAt T o w p S){g n g2 cap2:Nat}{x:Obj}(hgl:g<w.heap.size)(tg:T g=(o,9))(hk:Kp (fun b=>b=g) w wr)(hg:wr.heap[g]? =some (.cells (ints (List.replicate (n+1) (-7))).toArray 3 (0,0)))(hown:w2.ownsRow 0 26 1 (.slice (some ⟨g2,0,none⟩) (S.turned.length+1) cap2) (S.turned.length+1) (S.turned++[.slice (some ⟨g,0,none⟩) (n+1) (n+1)]))(hgrow:(wr.alloc x).grownBy w2 S.vt.ownBlock)(hat:S.vt.ownBlock=some g2∨g2=wr.heap.size+1)(hnt:S.turned.length+1≤1000000000)(hfl:∀(i:Nat) (v:Value),S.lists[i]? =some v→v.ownBlock≠some g)(hft:∀(i:Nat) (v:Value),S.turned[i]? =some v→v.ownBlock≠some g)(hn:n≤100000000):WAt (retag w T (o,5)) o (w2.setCell ⟨p,3,none⟩ (.slice (some ⟨g2,0,none⟩) (S.turned.length+1) cap2)) p (S.turn (.slice (some ⟨g2,0,none⟩) (S.turned.length+1) cap2) (.slice (some ⟨g,0,none⟩) (n+1) (n+1))):=by
 have hpl:p<w.heap.size:=lt_of_heap h.blk;have tr:=retag_to w T (o,5);have hgp:¬p=g:=fun e=>by have:=h.tp;rw[e,tg]at this;simp at this
 have hnp:some p≠S.vt.ownBlock:=fun e=>by
  have:=h.tt p e.symm;rw[h.tp]at this;simp at this
 have hng:some g≠S.vt.ownBlock:=fun e=>by
  have:=h.tt g e.symm;rw[tg]at this;simp at this
 have hK:Kp (fun b=>b=g∨T b=(o,1)∨T b=(o,5)) w (w2.setCell ⟨p,3,none⟩ (.slice (some ⟨g2,0,none⟩) (S.turned.length+1) cap2)):=
  (((hk.mono (fun i _ e=>.inl e)).alloc x).grown hgrow (fun b hb _=>.inr (.inr (h.tt b hb)))).setCell _ _ (fun _=>.inr (.inl h.tp))
 have no:∀(b t:Nat),t≠1→t≠5→t≠9→T b=(o,t)→¬(b=g∨T b=(o,1)∨T b=(o,5)):=by
  intro b t h1 h5 h9 ht hh;rcases hh with e|e|e
  ·rw[e,tg]at ht;simp at ht;omega
  ·rw[ht]at e;simp at e;omega
  ·rw[ht]at e;simp at e;omega
 have no9:∀(b:Nat),b≠g→T b=(o,9)→¬(b=g∨T b=(o,1)∨T b=(o,5)):=by
  intro b hb ht hh;rcases hh with e|e|e
  ·exact hb e
  ·rw[ht]at e;simp at e
  ·rw[ht]at e;simp at e
 have tg2:retag w T (o,5) g2=(o,5):=by
  rcases hat with e|e
  ·rw[tr g2 (own_lt h.tu e)];exact h.tt g2 e
  ·exact retag_new (by have:=hk.size;omega)
 have hgp2:g2≠p:=fun e=>by
  rw[e,tr p hpl,h.tp]at tg2;simp at tg2
 have hgn:(w2.setCell ⟨p,3,none⟩ (.slice (some ⟨g2,0,none⟩) (S.turned.length+1) cap2)).heap[g]? =some (.cells (ints (List.replicate (n+1) (-7))).toArray 3 (0,0)):=by
  rw[heap_setCell_other _ _ _ _ (fun e=>hgp e.symm)];exact grown_heap hg hgrow hng
 have lift:∀v m,Same w v m→Tagged T v (o,9)→Tagged (retag w T (o,5)) v (o,9):=fun v m hs hv b e=>by
  obtain⟨_,_,_,hb⟩:=hs;rw[tr b (hb b e)];exact hv b e
 exact{
  blk:=by
   have hp2:w2.heap[p]? =w.heap[p]? :=(hgrow.block p (by have:=hk.size;simp;omega) hnp).trans ((Below.heap_alloc wr x p (by have:=hk.size;omega)).trans (hk.block p hpl hgp));rw[heap_setCell_same w2 p 3 _ _ _ (hp2.trans h.blk)];rfl
  sd:=row_kp h.sd hK (fun b hb=>no b 2 (by omega) (by omega) (by omega) (h.ts b hb))
  li:=row_kp h.li hK (fun b hb=>no b 3 (by omega) (by omega) (by omega) (h.tl b hb))
  ma:=h.ma.kp hK (fun b hb=>no b 4 (by omega) (by omega) (by omega) (h.tm b hb))
  tu:=by
   have:=ownsRow_setCell_other hown (a:=⟨p,3,none⟩) (by simp[Value.ownBlock];exact hgp2) (.slice (some ⟨g2,0,none⟩) (S.turned.length+1) cap2);simpa[WS.turn]using this
  len:=h.len
  okl:=by
   intro i v m hv hm;obtain⟨h1,h2⟩:=h.okl i v m hv hm;exact⟨h1.kp hK (fun b hb=>no9 b (fun e=>hfl i v hv (by rw[hb,e])) (h2 b hb)),lift v m h1 h2⟩
  okt:=by
   intro i v hv;simp only[WS.turn]at hv;rw[List.getElem?_append]at hv;split at hv
   ·obtain⟨h1,h2⟩:=h.okt i v hv
    exact⟨h1.kp hK (fun b hb=>no9 b (fun e=>hft i v hv (by rw[hb,e])) (h2 b hb)),lift v _ h1 h2⟩
   ·cases hj:i-S.turned.length with
    |zero=>
     rw[hj]at hv;simp at hv;subst hv;refine⟨⟨n+1,by omega,⟨some ⟨g,0,none⟩,n+1,by rw[List.length_replicate],fun _=>⟨g,0,rfl,fun j hj=>?_⟩⟩,fun b hb=>?_⟩,fun b hb=>?_⟩
     ·rw[Nat.zero_add,cell_of_row _ g j _ _ _ hgn]
      have:=ints_get hj;simpa using this
     ·simp[Value.ownBlock]at hb
      subst hb;exact lt_of_heap hgn
     ·simp[Value.ownBlock]at hb
      subst hb;have hgw:g<w.heap.size∨w.heap.size≤g:=by omega
      rcases hgw with e|e
      ·rw[tr g e];exact tg
      ·have:=hgl
       omega
    |succ j=>rw[hj]at hv;simp at hv
  tp:=by rw[tr p hpl];exact h.tp
  ts:=fun b hb=>by rw[tr b (own_lt h.sd hb)];exact h.ts b hb
  tl:=fun b hb=>by rw[tr b (own_lt h.li hb)];exact h.tl b hb
  tm:=fun b hb=>by rw[tr b (own_lt h.ma hb)];exact h.tm b hb
  tt:=by
   intro b hb;simp[WS.turn,Value.ownBlock]at hb;subst hb;exact tg2
  nl:=h.nl
  nt:=by simpa[WS.turn]using hnt
  l0:=h.l0
  l1:=h.l1}
theorem returned_calls{T:Tags}{o:Nat}{w:World}{p:Nat}{S:WS}(h:WAt T o w p S)(g n:Nat)(vw:Value)(xs:List Int)(hn:xs.length=n)(hbig:n≤100000000)(hw:RdI w vw xs)(hg:w.heap[g]? =some (.cells (ints (xs++[0])).toArray 3 (0,0)))(tg:T g=(o,9))(tw:xs≠[]→∀b,vw.ownBlock=some b→(T b).1≠o)(hnt:S.turned.length+1≤1000000000)(hfl:∀(i:Nat) (v:Value),S.lists[i]? =some v→v.ownBlock≠some g)(hft:∀(i:Nat) (v:Value),S.turned[i]? =some v→v.ownBlock≠some g):Calls Tryz.prog 111 #[.pointer (some ⟨p,0,none⟩),.slice (some ⟨g,0,none⟩) (n+1) (n+1),vw] w fun e w'=>e=.returned (.bool true)∧∃T' vt,TagsTo w T T'∧WAt T' o w' p (S.turn vt (.slice (some ⟨g,0,none⟩) (n+1) (n+1)))∧Kp (fun b=>(T b).1=o) w w':=by
 obtain⟨-,-,-,q3,-⟩:=h.cells;have hgl:g<w.heap.size:=lt_of_heap hg;have hpl:p<w.heap.size:=lt_of_heap h.blk;have hgp:¬g=p:=fun e=>by have:=h.tp;rw[←e,tg]at this;simp at this
 have hslice:RdI w (.slice (some ⟨g,0,none⟩) n (n+1)) xs:=⟨some ⟨g,0,none⟩,n+1,by rw[hn],fun _=>⟨g,0,rfl,fun j hj=>by
  rw[Nat.zero_add,cell_of_row w g j _ _ _ hg];have:=ints_get (xs:=xs++[0]) (j:=j) (by simp;omega);rw[nth_lt (by simp;omega),List.getElem_append_left hj,←nth_lt hj]at this;simpa using this⟩⟩
 have hlast:w.cell? ⟨g,n,none⟩=some (.int .i64 0):=by
  rw[cell_of_row w g n _ _ _ hg];have:=ints_get (xs:=xs++[0]) (j:=n) (by simp;omega);rw[nth_lt (by simp;omega)]at this;simpa[hn]using this
 have HSM:Hid (Calls Tryz.prog 118 #[.slice (some ⟨g,0,none⟩) n (n+1),vw] w fun e w'=>e=.returned (.bool true)∧Kp0 w w'):=hid ((same_calls _ _ xs xs w hslice hw (by omega)).mono (by
  rintro e w' ⟨rfl,hk⟩;exact⟨by simp,hk⟩))
 have HH:=hid h;have HFL:=hid hfl;have HFT:=hid hft;clear hfl hft;have HG:=hid hg;have HTG:=hid tg;have HTW:=hid tw;have HN:=hid hn;obtain⟨vwa,vwc,hvw,-⟩:=hw;have hvw':vw=.slice vwa n vwc:=by rw[hvw,hn]
 subst hvw';obtain⟨at',ct,hvt,hct⟩:=row_any h.tu;have HVT:=hid hvt;have HNP:Hid (some p≠S.vt.ownBlock):=hid (fun e=>by
  have:=h.tt p e.symm;rw[h.tp]at this;simp at this)
 have HNG:Hid (some g≠S.vt.ownBlock):=hid (fun e=>by
  have:=h.tt g e.symm;rw[tg]at this;simp at this)
 obtain⟨i,hi,hz0,hz1,hz2⟩:=info_parts Tryz.infoSl;have f3:w.frozen? ⟨p,3,none⟩=false:=frozen_blk h.blk;have HTU:=hid h.tu;have h63:Hid (S.turned.length+1≤maxLen):=hid (by unfold maxLen;omega);have hbytes:Hid ((S.turned.length+1)*24≤140737488355328):=hid (by omega);clear h hg tg tw hn hvw hct hvt hslice;go_enter Tryz.func111,Tryz.ntmps111
 go_wp2_with fail
 refine HSM.out.mono ?_;rintro e w1 ⟨rfl,hk1⟩;have y3:=hk1.cell hlast;have HK1:=hid hk1;have HG1:=hid (hk1.heap HG.out);clear hk1;go_wp2
 go_loopw [9] (fun t w'=>∃k:Nat,k≤n+1∧t=.int .i64 k∧Kp (fun b=>b=g) w w'∧w'.heap[g]? =some (.cells (ints (over (-7) k (xs++[0]))).toArray 3 (0,0))) (fun t _=>n+1-(intOf t).toNat)
 case atStart=>exact⟨0,Nat.zero_le _,rfl,Kp.of0 HK1.out,by simpa[over]using HG1.out⟩
 case round=>
  obtain⟨k,hk,rfl,hKk,hGk⟩:=hrel;have HKk:=hid hKk;have HGk:=hid hGk;have hxl:(xs++[0]).length=n+1:=by have:=HN.out;simp[this]
  by_cases hlt:k<n+1
  ·have hc:wr.cell? ⟨g,k,none⟩=some (.int .i64 (nth (over (-7) k (xs++[0])) k)):=by
    rw[cell_of_row wr g k _ _ _ hGk];have:=ints_get (xs:=over (-7) k (xs++[0])) (j:=k) (by rw[over_length _ _ _ (by omega)];omega);simpa using this
   have hf:wr.frozen? ⟨g,k,none⟩=false:=frozen_blk hGk;generalize nth (over (-7) k (xs++[0])) k=x at hc;have HXL:=hid hxl;clear hKk hGk hxl;go_wp2
   go_roundw
   case rel=>
    refine⟨k+1,by omega,by go_num,HKk.out.setCell _ _ (fun _=>rfl),?_⟩;rw[heap_setCell_same _ _ _ _ _ _ HGk.out,ints_set,over_set _ _ _ (by have:=HXL.out;omega)]
   case measure=>simp[intOf];omega
  ·have hke:k=n+1:=by omega
   have hGn:wr.heap[g]? =some (.cells (ints (List.replicate (n+1) (-7))).toArray 3 (0,0)):=by rw[hGk,hke,←hxl,over_all]
   have yp:wr.heap[p]? =w.heap[p]? :=hKk.block p hpl (fun e=>hgp e.symm);have y3':=(lists_get yp 3).trans q3;have f3':wr.frozen? ⟨p,3,none⟩=false:=(World.frozen?_of_block yp).trans f3;have HTU1:=hid (row_kp HTU.out hKk (fun b hb e=>HNG.out (by rw[←e];exact hb.symm)));have hp1:p<wr.heap.size:=Nat.lt_of_lt_of_le hpl hKk.size;have HGn:=hid hGn;have HYP:=hid yp;clear hke hKk hGk hxl hGn yp
   go_wp2_with (at_builtin;refine wpList_append_lies _ rfl _ _ _ rfl 0 26 i (.slice none 0 0) 1 24 Tryz.underlying25 hi hz0 hz1 hz2 rfl (by omega) S.vt S.turned.length _ rfl (HTU1.out.alloc _) ⟨wr.heap.size,0,none⟩ 1 1 [.slice (some ⟨g,0,none⟩) (n+1) (n+1)] rfl rfl (cell_one_new _ _ _) (by intro u hu;simp at hu;subst hu;rfl) (by omega) h63.out hbytes.out (Nat.zero_le _) (wr.heap.size+1) (by simp) ?_)
   intro g2 cap2 w2 hown2 hgrow2 hat2 hlt2;have c3:w2.cell? ⟨p,3,none⟩=some S.vt:=hgrow2.cell (by rw[World.cell?_alloc_lt _ _ _ hp1];exact y3') HNP.out;have e3:w2.frozen? ⟨p,3,none⟩=false:=by rw[hgrow2.frozen_far _ (by simp;omega) HNP.out,World.frozen?_alloc_past _ _ _ hp1];exact f3'
   have HO2:=hid hown2;have HG2:=hid hgrow2;have HA2:=hid hat2;clear hown2 hgrow2 hat2;go_wp2
   go_ret;refine⟨rfl,retag w T (o,5),.slice (some ⟨g2,0,none⟩) (S.turned.length+1) cap2,retag_to w T _,?_,?_⟩
   ·exact WAt.turned HH.out hgl HTG.out HKk.out HGn.out HO2.out HG2.out HA2.out hnt HFL.out HFT.out hbig
   ·have k1:Kp (fun b=>(T b).1=o) w wr:=HKk.out.mono (fun i _ e=>by rw[e,HTG.out])
    exact((k1.alloc _).grown HG2.out (fun b hb _=>by rw[HH.out.tt b hb])).setCell _ _ (fun _=>by rw[HH.out.tp])
def keepTags(w:World)(T:Tags)(o g1:Nat):Tags:=fun b=>if b<w.heap.size then T b else if b=g1 then(o,3)else(o,4)
def WS.push(S:WS)(vl vm v:Value)(m:Int):WS:={S with vl:=vl,vm:=vm,lists:=S.lists++[v],marks:=S.marks++[m]}
theorem WAt.pushed{T:Tags}{o:Nat}{w w1 w3:World}{p:Nat}{S:WS}(h:WAt T o w p S){v:Value}{m:Int}{x1 x2:Obj}{g1 cap1:Nat}{am':Option Addr}{cm' nm:Nat}(hs:Same w v m)(tv:Tagged T v (o,9))(own1:w1.ownsRow 0 26 1 (.slice (some ⟨g1,0,none⟩) (S.lists.length+1) cap1) (S.lists.length+1) (S.lists++[v]))(grow1:(w.alloc x1).grownBy w1 S.vl.ownBlock)(at1:S.vl.ownBlock=some g1∨g1=w.heap.size+1)(own3:OwI w3 (.slice am' nm cm') (S.marks++[m]))(grow3:((w1.setCell ⟨p,1,none⟩ (.slice (some ⟨g1,0,none⟩) (S.lists.length+1) cap1)).alloc x2).grownBy w3 S.vm.ownBlock)(at3:∀b,(Value.slice am' nm cm').ownBlock=some b→S.vm.ownBlock=some b∨b=w1.heap.size+1)(hnl:S.lists.length+1≤1000000000):WAt (keepTags w T o g1) o (w3.setCell ⟨p,2,none⟩ (.slice am' nm cm')) p (S.push (.slice (some ⟨g1,0,none⟩) (S.lists.length+1) cap1) (.slice am' nm cm') v m)∧TagsTo w T (keepTags w T o g1)∧Kp (fun b=>T b=(o,1)∨T b=(o,3)∨T b=(o,4)) w (w3.setCell ⟨p,2,none⟩ (.slice am' nm cm')):=by
 have hpl:p<w.heap.size:=lt_of_heap h.blk;have tr:TagsTo w T (keepTags w T o g1):=fun b hb=>if_pos hb
 have hpL:some p≠S.vl.ownBlock:=fun e=>by have:=h.tl p e.symm;rw[h.tp]at this;simp at this
 have hpM:some p≠S.vm.ownBlock:=fun e=>by have:=h.tm p e.symm;rw[h.tp]at this;simp at this
 have s1:w.heap.size+1≤w1.heap.size:=by have:=grow1.size;simpa using this
 have tg1:keepTags w T o g1 g1=(o,3):=by
  rcases at1 with e|e
  ·rw[tr g1 (own_lt h.li e)];exact h.tl g1 e
  ·unfold keepTags;rw[if_neg (by omega),if_pos rfl]
 have hg1p:g1≠p:=fun e=>by
  have t:=tr p hpl;have t3:keepTags w T o g1 p=keepTags w T o g1 g1:=congrArg _ e.symm;rw[t3,tg1,h.tp]at t;simp at t
 have hg1M:some g1≠S.vm.ownBlock:=fun e=>by
  have h4:=h.tm g1 e.symm;rw[tr g1 (own_lt h.ma e.symm),h4]at tg1;simp at tg1
 have g1lt:g1<w1.heap.size:=own_lt own1 rfl;have tam:∀b,(Value.slice am' nm cm').ownBlock=some b→keepTags w T o g1 b=(o,4):=by
  intro b hb;rcases at3 b hb with e|e
  ·rw[tr b (own_lt h.ma e)];exact h.tm b e
  ·unfold keepTags;rw[if_neg (by omega),if_neg (by omega)]
 have k1:Kp (fun b=>T b=(o,1)∨T b=(o,3)∨T b=(o,4)) w w1:=((Kp.refl _ _).alloc x1).grown grow1 (fun b hb _=>.inr (.inl (h.tl b hb)));have k2:=k1.setCell ⟨p,1,none⟩ (.slice (some ⟨g1,0,none⟩) (S.lists.length+1) cap1) (fun _=>.inl h.tp);have k3:=(k2.alloc x2).grown grow3 (fun b hb _=>.inr (.inr (h.tm b hb)));have hK:=k3.setCell ⟨p,2,none⟩ (.slice am' nm cm') (fun _=>.inl h.tp);refine⟨?_,tr,hK⟩;have no:∀(b t:Nat),t≠1→t≠3→t≠4→T b=(o,t)→¬(T b=(o,1)∨T b=(o,3)∨T b=(o,4)):=by
  intro b t h1 h3 h4 ht hh;rw[ht]at hh;simp at hh;omega
 have lift:∀v m,Same w v m→Tagged T v (o,9)→Tagged (keepTags w T o g1) v (o,9):=fun v m hs hv b e=>by
  obtain⟨_,_,_,hb⟩:=hs;rw[tr b (hb b e)];exact hv b e
 have hp1:w1.heap[p]? =w.heap[p]? :=(grow1.block p (by simp;omega) hpL).trans (Below.heap_alloc w x1 p hpl);have hp2:=heap_setCell_same w1 p 1 _ _ (.slice (some ⟨g1,0,none⟩) (S.lists.length+1) cap1) (hp1.trans h.blk);have hp3:=grown_heap hp2 grow3 hpM;exact{
  blk:=by
   rw[heap_setCell_same w3 p 2 _ _ _ hp3];rfl
  sd:=row_kp h.sd hK (fun b hb=>no b 2 (by omega) (by omega) (by omega) (h.ts b hb))
  li:=by
   have a1:=ownsRow_setCell_other own1 (a:=⟨p,1,none⟩) (by simp[Value.ownBlock];exact hg1p) (.slice (some ⟨g1,0,none⟩) (S.lists.length+1) cap1);have a2:=World.ownsRow.kept (a1.alloc x2) grow3 (.inr hg1M);have a3:=ownsRow_setCell_other a2 (a:=⟨p,2,none⟩) (by simp[Value.ownBlock];exact hg1p) (.slice am' nm cm');simpa[WS.push]using a3
  ma:=own3.setCell _ (fun e=>by
   have:=tam _ e;rw[tr p hpl,h.tp]at this;simp at this)
  tu:=row_kp h.tu hK (fun b hb=>no b 5 (by omega) (by omega) (by omega) (h.tt b hb))
  len:=by simp[WS.push,h.len]
  okl:=by
   intro i u k hu hk;simp only[WS.push]at hu hk;rw[List.getElem?_append]at hu;split at hu
   ·rename_i hlt
    rw[List.getElem?_append_left (by rw[←h.len];exact hlt)]at hk;obtain⟨h1,h2⟩:=h.okl i u k hu hk;exact⟨h1.kp hK (fun b hb=>no b 9 (by omega) (by omega) (by omega) (h2 b hb)),lift u k h1 h2⟩
   ·rename_i hge
    rw[List.getElem?_append_right (by rw[←h.len];omega),←h.len]at hk;cases hj:i-S.lists.length with
    |zero=>
     rw[hj]at hu hk;simp at hu hk;subst hu hk;exact⟨hs.kp hK (fun b hb=>no b 9 (by omega) (by omega) (by omega) (tv b hb)),lift _ _ hs tv⟩
    |succ j=>rw[hj]at hu;simp at hu
  okt:=by
   intro i u hu;obtain⟨h1,h2⟩:=h.okt i u hu;exact⟨h1.kp hK (fun b hb=>no b 9 (by omega) (by omega) (by omega) (h2 b hb)),lift u _ h1 h2⟩
  tp:=by rw[tr p hpl];exact h.tp
  ts:=fun b hb=>by rw[tr b (own_lt h.sd hb)];exact h.ts b hb
  tl:=by
   intro b hb;simp[WS.push,Value.ownBlock]at hb;subst hb;exact tg1
  tm:=fun b hb=>tam b hb
  tt:=fun b hb=>by rw[tr b (own_lt h.tu hb)];exact h.tt b hb
  nl:=by simpa[WS.push]using hnl
  nt:=h.nt
  l0:=h.l0
  l1:=h.l1}
def Heads(S:WS)(l:Value)(m:Int)(n:Nat):Prop:=∀(i:Nat) (v:Value),S.lists[i]? =some v→∀b,v.ownBlock=some b→l.ownBlock=some b→S.marks[i]? =some m∧∃ne ce,v=.slice (some ⟨b,0,none⟩) ne ce∧ne≤n
theorem WAt.grownL{T:Tags}{o:Nat}{w w':World}{p:Nat}{S:WS}(h:WAt T o w p S){l l':Value}{m:Int}{n:Nat}{ao:Option Addr}{c:Nat}(tl:Tagged T l (o,9))(hk:Kp (fun b=>l.ownBlock=some b) w w')(hl':l'=.slice ao n c)(hown:OwI w' l' (List.replicate n m))(hblk:∀b,l.ownBlock=some b→(∃(i:Nat) (v:Value),S.lists[i]? =some v∧v.ownBlock=some b∧∃ne ce,v=Value.slice (some ⟨b,0,none⟩) ne ce∧0<ne)→w'.heap[b]? =w.heap[b]?∨l'.ownBlock=some b)(hh:Heads S l m n)(hft:∀(i:Nat) (v:Value),S.turned[i]? =some v→∀b,v.ownBlock=some b→l.ownBlock≠some b):WAt T o w' p S:=by
 have no:∀(b t:Nat),t≠9→T b=(o,t)→¬(l.ownBlock=some b):=by
  intro b t h9 ht e;rw[tl b e]at ht;simp at ht;omega
 exact{
  blk:=hk.heap h.blk (no p 1 (by omega) h.tp)
  sd:=row_kp h.sd hk (fun b hb=>no b 2 (by omega) (h.ts b hb))
  li:=row_kp h.li hk (fun b hb=>no b 3 (by omega) (h.tl b hb))
  ma:=h.ma.kp hk (fun b hb=>no b 4 (by omega) (h.tm b hb))
  tu:=row_kp h.tu hk (fun b hb=>no b 5 (by omega) (h.tt b hb))
  len:=h.len
  okl:=by
   intro i v k hv hkk;obtain⟨h1,h2⟩:=h.okl i v k hv hkk;refine⟨?_,h2⟩;by_cases hb:∃b,v.ownBlock=some b∧l.ownBlock=some b
   ·obtain⟨b,hb1,hb2⟩:=hb
    obtain⟨e1,ne,ce,e2,e3⟩:=hh i v hv b hb1 hb2;rw[hkk]at e1;simp at e1;subst e1;subst e2;obtain⟨n0,hn0,hr,hlt⟩:=h1;have hne:ne=n0:=by
     obtain⟨a',c',hv',_⟩:=hr;simp at hv';exact hv'.2.1
    subst hne;refine⟨ne,hn0,?_,fun b' hb'=>Nat.lt_of_lt_of_le (hlt b' hb') hk.size⟩;refine⟨some ⟨b,0,none⟩,ce,by rw[List.length_replicate],fun hne=>⟨b,0,rfl,fun j hj=>?_⟩⟩;have hpos:0<ne:=by
     rcases Nat.eq_zero_or_pos ne with e|e
     ·subst e;simp at hne
     ·exact e
    have hj':j<ne:=by simpa using hj
    rcases hblk b hb2 ⟨i,_,hv,hb1,ne,ce,rfl,hpos⟩with hsame|hl
    ·obtain⟨a',c',hv',hcc⟩:=hr
     obtain⟨g,o',ha,hc⟩:=hcc hne;simp at hv';rw[←hv'.1]at ha;simp at ha;obtain⟨rfl,rfl⟩:=ha;rw[World.cell?_of_block (w:=w) hsame];exact hc j hj
    ·subst hl'
     obtain⟨g,cap,e4,_,_,hc⟩:=hown.slice (by simp;omega);rw[e4]at hl;simp[Value.ownBlock]at hl;subst hl;have:=hc j (by simp;omega);rw[nth_lt (by simp;omega),List.getElem_replicate]at this;rw[nth_lt (by simpa using hj'),List.getElem_replicate,Nat.zero_add];exact this
   ·exact h1.kp hk (fun b hb1 hb2=>hb ⟨b,hb1,hb2⟩)
  okt:=by
   intro i v hv;obtain⟨h1,h2⟩:=h.okt i v hv;exact⟨h1.kp hk (fun b hb=>hft i v hv b hb),h2⟩
  tp:=h.tp
  ts:=h.ts
  tl:=h.tl
  tm:=h.tm
  tt:=h.tt
  nl:=h.nl
  nt:=h.nt
  l0:=h.l0
  l1:=h.l1}
def WS.lower(S:WS):WS:={S with last:=S.last-1}
theorem WAt.lowered{T:Tags}{o:Nat}{w:World}{p:Nat}{S:WS}(h:WAt T o w p S)(hl: -1000000000≤S.last-1):WAt T o (w.setCell ⟨p,4,none⟩ (.int .i64 (S.last-1))) p S.lower∧Kp (fun b=>T b=(o,1)) w (w.setCell ⟨p,4,none⟩ (.int .i64 (S.last-1))):=by
 have hk:Kp (fun b=>T b=(o,1)) w (w.setCell ⟨p,4,none⟩ (.int .i64 (S.last-1))):=(Kp.refl _ _).setCell _ _ (fun _=>h.tp);have no:∀(b t:Nat),t≠1→T b=(o,t)→¬(T b=(o,1)):=by
  intro b t h1 ht e;rw[ht]at e;simp at e;omega
 refine⟨?_,hk⟩;exact{
  blk:=by
   rw[heap_setCell_same w p 4 _ _ _ h.blk];rfl
  sd:=row_kp h.sd hk (fun b hb=>no b 2 (by omega) (h.ts b hb))
  li:=row_kp h.li hk (fun b hb=>no b 3 (by omega) (h.tl b hb))
  ma:=h.ma.kp hk (fun b hb=>no b 4 (by omega) (h.tm b hb))
  tu:=row_kp h.tu hk (fun b hb=>no b 5 (by omega) (h.tt b hb))
  len:=h.len
  okl:=fun i v m hv hm=>⟨(h.okl i v m hv hm).1.kp hk (fun b hb=>no b 9 (by omega) ((h.okl i v m hv hm).2 b hb)),(h.okl i v m hv hm).2⟩
  okt:=fun i v hv=>⟨(h.okt i v hv).1.kp hk (fun b hb=>no b 9 (by omega) ((h.okt i v hv).2 b hb)),(h.okt i v hv).2⟩
  tp:=h.tp
  ts:=h.ts
  tl:=h.tl
  tm:=h.tm
  tt:=h.tt
  nl:=h.nl
  nt:=h.nt
  l0:=hl
  l1:=by have:=h.l1;show S.last-1≤0;omega}
def Apart(S:WS)(l:Value):Prop:=(∀(i:Nat) (v:Value),S.lists[i]? =some v→∀b,v.ownBlock=some b→l.ownBlock≠some b)∧(∀(i:Nat) (v:Value),S.turned[i]? =some v→∀b,v.ownBlock=some b→l.ownBlock≠some b)
theorem WAt.apart{T:Tags}{o:Nat}{w w':World}{p:Nat}{S:WS}(h:WAt T o w p S){l:Value}(tl:Tagged T l (o,9))(hk:Kp (fun b=>l.ownBlock=some b) w w')(ha:Apart S l):WAt T o w' p S:=
 h.grownL (l':=.slice none 0 0) (m:=0) (n:=0) (ao:=none) (c:=0) tl hk rfl (OwI.nil _) (fun b hb ⟨i,v,h1,h2,_⟩=>absurd hb (ha.1 i v h1 b h2)) (fun i v hv b hb hl=>absurd hl (ha.1 i v hv b hb)) ha.2
theorem WAt.lt{T:Tags}{o:Nat}{w:World}{p:Nat}{S:WS}(h:WAt T o w p S){i:Nat}{v:Value}(hv:S.lists[i]? =some v){b:Nat}(hb:v.ownBlock=some b):b<w.heap.size:=by
 have hi:i<S.lists.length:=by
  rcases Nat.lt_or_ge i S.lists.length with h'|h'
  ·exact h'
  ·rw[List.getElem?_eq_none h']at hv;cases hv
 obtain⟨⟨_,_,_,hlt⟩,_⟩:=h.okl i v (nth S.marks i) hv (by rw[List.getElem?_eq_getElem (by rw[←h.len];exact hi),nth_lt (by rw[←h.len];exact hi)]);exact hlt b hb
theorem WAt.ltt{T:Tags}{o:Nat}{w:World}{p:Nat}{S:WS}(h:WAt T o w p S){i:Nat}{v:Value}(hv:S.turned[i]? =some v){b:Nat}(hb:v.ownBlock=some b):b<w.heap.size:=by
 obtain⟨⟨_,_,_,hlt⟩,_⟩:=h.okt i v hv;exact hlt b hb
theorem WAt.newApart{T:Tags}{o:Nat}{w:World}{p:Nat}{S:WS}(h:WAt T o w p S){l:Value}(hl:∀b,l.ownBlock=some b→w.heap.size≤b):Apart S l:=
 ⟨fun i v hv b hb e=>by have:=h.lt hv hb;have:=hl b e;omega,fun i v hv b hb e=>by have:=h.ltt hv hb;have:=hl b e;omega⟩
theorem OwI.store{w:World}{ao:Option Addr}{n c:Nat}{xs:List Int}(h:OwI w (.slice ao n c) xs)(k:Nat)(m:Int)(hk:k<xs.length):∃g,ao=some ⟨g,0,none⟩∧OwI (w.setCell ⟨g,k,none⟩ (.int .i64 m)) (.slice ao n c) (xs.set k m)∧w.cell? ⟨g,k,none⟩=some (.int .i64 (nth xs k))∧w.frozen? ⟨g,k,none⟩=false:=by
 obtain⟨g,cap,hv,hcap,hg,hc⟩:=h.slice (by omega);simp at hv;obtain⟨rfl,rfl,rfl⟩:=hv;refine⟨g,rfl,?_,hc k hk,World.ownsRow.frozenAt h k⟩;have:=(World.ownsRow.stored h k (.int .i64 m)).1;unfold OwI;rw[List.length_set];have e:(ints xs).set k (.int .i64 m)=ints (xs.set k m):=by simp[ints,List.map_set]
 rw[←e];exact this
theorem RdI.one'(w:World)(x:Int)(h:Nat)(e:w.heap.size=h):RdI (w.alloc (.cells #[.int .i64 x] 3)) (.slice (some ⟨h,0,none⟩) 1 1) [x]:=by
 subst e;exact RdI.one w x
def KeepR(T:Tags)(o:Nat)(w:World)(p:Nat)(S:WS)(n:Nat)(m:Int)(k:Nat)(ao:Option Addr)(c:Nat)(w':World):Prop:=
 ∃T' S',OwI w' (.slice ao (n+k) c) (List.replicate (n+k) m)∧WAt T' o w' p S'∧TagsTo w T T'∧Tagged T' (.slice ao (n+k) c) (o,9)∧Heads S' (.slice ao (n+k) c) m (n+k)∧
  (∀(i:Nat) (v:Value),S'.turned[i]? =some v→∀b,v.ownBlock=some b→(Value.slice ao (n+k) c).ownBlock≠some b)∧S'.sides=S.sides∧S'.turned=S.turned∧S'.lists.length=S.lists.length+k∧S'.last=S.last-1∧Kp (fun b=>(T b).1=o) w w'
theorem Same.tags{w:World}{v:Value}{m:Int}{T T':Tags}{t:Nat×Nat}(hs:Same w v m)(hv:Tagged T v t)(k:TagsTo w T T'):Tagged T' v t:=fun b e=>by
 obtain⟨_,_,_,hb⟩:=hs;rw[k b (hb b e)];exact hv b e
theorem WAt.tags{T T':Tags}{o:Nat}{w:World}{p:Nat}{S:WS}(h:WAt T o w p S)(k:TagsTo w T T'):WAt T' o w p S:=
 {blk:=h.blk,sd:=h.sd,li:=h.li,ma:=h.ma,tu:=h.tu,len:=h.len
  okl:=fun i v m hv hm=>⟨(h.okl i v m hv hm).1,(h.okl i v m hv hm).1.tags (h.okl i v m hv hm).2 k⟩
  okt:=fun i v hv=>⟨(h.okt i v hv).1,(h.okt i v hv).1.tags (h.okt i v hv).2 k⟩
  tp:=(k p (lt_of_heap h.blk)).trans h.tp
  ts:=fun b hb=>(k b (own_lt h.sd hb)).trans (h.ts b hb)
  tl:=fun b hb=>(k b (own_lt h.li hb)).trans (h.tl b hb)
  tm:=fun b hb=>(k b (own_lt h.ma hb)).trans (h.tm b hb)
  tt:=fun b hb=>(k b (own_lt h.tu hb)).trans (h.tt b hb)
  nl:=h.nl,nt:=h.nt,l0:=h.l0,l1:=h.l1}
theorem keep_step{T T2:Tags}{o:Nat}{w wr w1 w3 w5:World}{p:Nat}{S S2:WS}{n:Nat}{m:Int}{k:Nat}{ao ao5 am':Option Addr}{c c5 g1 cap1 nm cm':Nat}{x1 x2 x3:Obj}(hn:n+k≤1000000000)(hO2:OwI wr (.slice ao (n+k) c) (List.replicate (n+k) m))(hW2:WAt T2 o wr p S2)(hT2:TagsTo w T T2)(hTl:Tagged T2 (.slice ao (n+k) c) (o,9))(hHd:Heads S2 (.slice ao (n+k) c) m (n+k))(hTu:∀(i:Nat) (v:Value),S2.turned[i]? =some v→∀b,v.ownBlock=some b→(Value.slice ao (n+k) c).ownBlock≠some b)(hS1:S2.sides=S.sides)(hS2:S2.turned=S.turned)(hS3:S2.lists.length=S.lists.length+k)(hS4:S2.last=S.last-1)(hK2:Kp (fun b=>(T b).1=o) w wr)(own1:w1.ownsRow 0 26 1 (.slice (some ⟨g1,0,none⟩) (S2.lists.length+1) cap1) (S2.lists.length+1) (S2.lists++[.slice ao (n+k) c]))(grow1:(wr.alloc x1).grownBy w1 S2.vl.ownBlock)(at1:S2.vl.ownBlock=some g1∨g1=wr.heap.size+1)(own3:OwI w3 (.slice am' nm cm') (S2.marks++[m]))(grow3:((w1.setCell ⟨p,1,none⟩ (.slice (some ⟨g1,0,none⟩) (S2.lists.length+1) cap1)).alloc x2).grownBy w3 S2.vm.ownBlock)(at3:∀b,(Value.slice am' nm cm').ownBlock=some b→S2.vm.ownBlock=some b∨b=w1.heap.size+1)(hnl:S2.lists.length+1≤1000000000)(own5:OwI w5 (.slice ao5 (n+k+1) c5) (List.replicate (n+k) m++[m]))(or5:(ao5=ao∧((w3.setCell ⟨p,2,none⟩ (.slice am' nm cm')).alloc x3).grownBy w5 (Value.slice ao (n+k) c).ownBlock)∨(ao5=some ⟨w3.heap.size+1,0,none⟩∧((w3.setCell ⟨p,2,none⟩ (.slice am' nm cm')).alloc x3).grownBy w5 none)):KeepR T o w p S n m (k+1) ao5 c5 w5:=by
 have hsame:Same wr (.slice ao (n+k) c) m:=⟨n+k,hn,hO2.rd,fun b hb=>hO2.lt hb⟩;obtain⟨hp,hpt,hpk⟩:=hW2.pushed hsame hTl own1 grow1 at1 own3 grow3 at3 hnl;have hlb:∀b,(Value.slice ao (n+k) c).ownBlock=some b→b<wr.heap.size:=fun b hb=>hO2.lt hb
 generalize hw4:w3.setCell ⟨p,2,none⟩ (.slice am' nm cm')=w4 at*;have hs4:w4.heap.size=w3.heap.size:=by rw[←hw4];simp
 have own5':OwI w5 (.slice ao5 (n+k+1) c5) (List.replicate (n+k+1) m):=by rw[List.replicate_succ'];exact own5
 have hW4:=hp.tags (retag_to w4 (keepTags wr T2 o g1) (o,9));have t4:∀b,b<wr.heap.size→retag w4 (keepTags wr T2 o g1) (o,9) b=T2 b:=fun b hb=>by rw[retag_to w4 _ _ b (Nat.lt_of_lt_of_le hb hpk.size),hpt b hb]
 have tl4:Tagged (retag w4 (keepTags wr T2 o g1) (o,9)) (.slice ao (n+k) c) (o,9):=fun b hb=>by rw[t4 b (hlb b hb)];exact hTl b hb
 have hHd4:Heads (S2.push (.slice (some ⟨g1,0,none⟩) (S2.lists.length+1) cap1) (.slice am' nm cm') (.slice ao (n+k) c) m) (.slice ao (n+k) c) m (n+(k+1)):=by
  intro i v hv b hb hl;simp only[WS.push]at hv⊢;rw[List.getElem?_append]at hv;split at hv
  ·rename_i hlt
   obtain⟨e1,ne,ce,e2,e3⟩:=hHd i v hv b hb hl;refine⟨?_,ne,ce,e2,by omega⟩;rw[List.getElem?_append_left (by rw[←hW2.len];exact hlt)];exact e1
  ·rename_i hge
   cases hj:i-S2.lists.length with
   |zero=>
    rw[hj]at hv;simp at hv;subst hv;refine⟨?_,n+k,c,?_,by omega⟩
    ·rw[List.getElem?_append_right (by rw[←hW2.len];omega),←hW2.len,hj]
     rfl
    ·rcases hO2.2 with⟨e,_⟩|⟨g,cap,cur,e,_⟩
     ·rw[e]at hb;simp[Value.ownBlock]at hb
     ·simp at e
      rw[e.1]at hb⊢;simp[Value.ownBlock]at hb;rw[hb]
   |succ j=>rw[hj]at hv;simp at hv
 have s24:wr.heap.size≤w4.heap.size:=hpk.size;rcases or5 with⟨e5,g5⟩|⟨e5,g5⟩
 ·subst e5
  have hk5:Kp (fun b=>(Value.slice ao5 (n+k) c).ownBlock=some b) w4 w5:=((Kp.refl _ _).alloc x3).grown g5 (fun b hb _=>hb);have hbl:∀b,(Value.slice ao5 (n+(k+1)) c5).ownBlock=some b↔(Value.slice ao5 (n+k) c).ownBlock=some b:=fun b=>by cases ao5<;>simp[Value.ownBlock]
  have hW5:=hW4.grownL (l':=.slice ao5 (n+k+1) c5) (m:=m) (n:=n+k+1) tl4 hk5 rfl own5' (fun b hb _=>.inr ((hbl b).2 hb)) hHd4 hTu;refine⟨_,_,own5',hW5,fun b hb=>?_,fun b hb=>tl4 b ((hbl b).1 hb),fun i v hv b hb hl=>hHd4 i v hv b hb ((hbl b).1 hl),fun i v hv b hb hl=>hTu i v hv b hb ((hbl b).1 hl),hS1,hS2,?_,hS4,?_⟩
  ·rw[t4 b (Nat.lt_of_lt_of_le hb hK2.size),hT2 b hb]
  ·simp[WS.push,hS3];omega
  ·have k1:Kp (fun b=>(T b).1=o) w w4:=hK2.trans hpk (fun i hi h=>by
    rw[hT2 i hi]at h;rcases h with h|h|h<;>rw[h])
   exact k1.trans hk5 (fun i hi h=>by
    have:=hTl i h;rw[hT2 i hi]at this;rw[this])
 ·subst e5
  have hk5:Kp0 w4 w5:=((Kp.refl _ _).alloc x3).grown g5 (by simp);have hW5:=hW4.kp hk5 (fun _ _ e=>e);have hbl:∀b,(Value.slice (some ⟨w3.heap.size+1,0,none⟩) (n+(k+1)) c5).ownBlock=some b→b=w3.heap.size+1:=fun b hb=>by simp[Value.ownBlock]at hb;exact hb.symm
  refine⟨_,_,own5',hW5,fun b hb=>?_,fun b hb=>retag_new (by have:=hbl b hb;omega),fun i v hv b hb hl=>?_,fun i v hv b hb hl=>?_,hS1,hS2,?_,hS4,?_⟩
  ·rw[t4 b (Nat.lt_of_lt_of_le hb hK2.size),hT2 b hb]
  ·have:=hbl b hl
   have:=hW4.lt hv hb;omega
  ·have:=hbl b hl
   have:=hW4.ltt hv hb;omega
  ·simp[WS.push,hS3];omega
  ·have k1:Kp (fun b=>(T b).1=o) w w4:=hK2.trans hpk (fun i hi h=>by
    rw[hT2 i hi]at h;rcases h with h|h|h<;>rw[h])
   exact k1.trans0 hk5
theorem keep_calls{T:Tags}{o:Nat}{w:World}{p:Nat}{S:WS}(h:WAt T o w p S)(ao:Option Addr)(n c:Nat)(xs:List Int)(hl:OwI w (.slice ao n c) xs)(tl:Tagged T (.slice ao n c) (o,9))(ha:Apart S (.slice ao n c))(hn:n≤100000000)(hnl:S.lists.length+4≤1000000000)(hla: -1000000000≤S.last-1):Calls Tryz.prog 119 #[.pointer (some ⟨p,0,none⟩),.slice ao n c] w fun e w'=>e=.returned (.tuple #[])∧∃T' S',TagsTo w T T'∧WAt T' o w' p S'∧S'.sides=S.sides∧S'.turned=S.turned∧S'.lists.length=S.lists.length+4∧S'.last=S.last-1∧Kp (fun b=>(T b).1=o) w w':=by
 obtain⟨-,-,-,-,q4⟩:=h.cells;have f4:w.frozen? ⟨p,4,none⟩=false:=frozen_blk h.blk;have hl1:=h.l1;obtain⟨hnx,hnc⟩:=hl.form;have HLOW:=hid (h.lowered hla);have hlp:∀b,(Value.slice ao n c).ownBlock=some b→¬p=b:=fun b hb e=>by
  have:=tl b hb;rw[←e,h.tp]at this;simp at this
 have HOw:=hid hl;have HT:=hid tl;have HA:=hid ha;have HH:=hid h;have HNX:=hid hnx;have HLP:=hid hlp;clear h hl tl ha hnx hlp;obtain⟨m,hm⟩:∃m,S.last-1-1000=m:=⟨_,rfl⟩;obtain⟨la,hla'⟩:∃la,S.last=la:=⟨_,rfl⟩;rw[hla']at q4 hl1 hla hm;have HLA:=hid hla';have HM:=hid hm;clear hla';go_enter Tryz.func119,Tryz.ntmps119
 go_wp2
 go_loopw [5] (fun t w'=>∃k:Nat,k≤n∧t=.int .i64 k∧WAt T o w' p S.lower∧OwI w' (.slice ao n c) (over m k xs)∧Kp (fun b=>(T b).1=o) w w') (fun t _=>n-(intOf t).toNat)
 case atStart=>
  have h1:=HLOW.out;rw[HLA.out]at h1;refine⟨0,Nat.zero_le _,rfl,h1.1,?_,h1.2.mono (fun i _ e=>by rw[e])⟩;have:over m 0 xs=xs:=by simp[over]
  rw[this];exact HOw.out.setCell _ (fun e=>HLP.out _ e rfl)
 case round=>
  obtain⟨k,hk,rfl,hW,hO,hK⟩:=hrel;have HW:=hid hW;have HO:=hid hO;have HK:=hid hK;by_cases hlt:k<n
  ·obtain⟨g,rfl,hst,hcell,hfz⟩:=hO.store k m (by rw[over_length _ _ _ (by have:=HNX.out;omega)];have:=HNX.out;omega)
   rw[over_set _ _ _ (by have:=HNX.out;omega)]at hst;generalize nth (over m k xs) k=x at hcell;have HST:=hid hst;clear hW hO hK hst;go_wp2
   go_roundw
   case rel=>
    have hk1:Kp (fun b=>(Value.slice (some ⟨g,0,none⟩) n c).ownBlock=some b) wr (wr.setCell ⟨g,k,none⟩ (.int .i64 m)):=(Kp.refl _ _).setCell _ _ (fun _=>rfl);refine⟨k+1,by omega,by go_num,HW.out.apart HT.out hk1 HA.out,HST.out,HK.out.trans hk1 (fun i _ e=>by rw[HT.out i e])⟩
   case measure=>simp[intOf];omega
  ·have hO':OwI wr (.slice ao n c) (List.replicate n m):=by
    have e:k=xs.length:=by have:=HNX.out;omega
    rw[e,over_all]at hO;have:=HNX.out;rw[this];rw[this]at hO;exact hO
   have HO':=hid hO';clear hW hO hK hO';obtain⟨isl,his,hsz0,hsz1,hsz2⟩:=info_parts Tryz.infoSl;go_wp2
   go_loopw [1,6] (fun l t w'=>∃k:Nat,k≤4∧t=.int .i64 k∧∃ao' c',l=.slice ao' (n+k) c'∧KeepR T o w p S n m k ao' c' w') (fun _ t _=>4-(intOf t).toNat)
   case atStart=>refine⟨0,by omega,rfl,ao,c,rfl,T,S.lower,HO'.out,HW.out,fun _ _=>rfl,HT.out,fun i v hv b hb e=>absurd e (HA.out.1 i v hv b hb),HA.out.2,rfl,rfl,rfl,rfl,HK.out⟩
   case round=>
    obtain⟨k2,hk2,rfl,ao',c',rfl,T2,S2,hO2,hW2,hT2,hTl,hHd,hTu,hS1,hS2,hS3,hS4,hK2⟩:=hrel;by_cases hlt2:k2<4
    ·obtain⟨-,q1,q2,-,-⟩:=hW2.cells
     obtain⟨am,cm,hvm,-⟩:=row_any hW2.ma;have hvm':S2.vm=.slice am S2.marks.length cm:=hvm;rw[hvm']at q2;have fp1:wr.frozen? ⟨p,1,none⟩=false:=frozen_blk hW2.blk;have fp2:wr.frozen? ⟨p,2,none⟩=false:=frozen_blk hW2.blk;have hpl:p<wr.heap.size:=lt_of_heap hW2.blk;have HPL:Hid (some p≠S2.vl.ownBlock):=hid (fun e=>by have:=hW2.tl p e.symm;rw[hW2.tp]at this;simp at this);have HPM:Hid (some p≠S2.vm.ownBlock):=hid (fun e=>by have:=hW2.tm p e.symm;rw[hW2.tp]at this;simp at this);have HLI:=hid hW2.li;have hnl2:S2.lists.length+1≤1000000000:=by omega
     have h63:Hid (S2.lists.length+1≤maxLen):=hid (by unfold maxLen;omega);have hbytes:Hid ((S2.lists.length+1)*24≤140737488355328):=hid (by omega);have h1c:Hid (∀u∈[Value.slice ao' (n+k2) c'],u.oneCell'=true):=hid (by intro u hu;simp at hu;subst hu;rfl);have HR:Hid (KeepR T o w p S n m k2 ao' c' wr):=hid ⟨T2,S2,hO2,hW2,hT2,hTl,hHd,hTu,hS1,hS2,hS3,hS4,hK2⟩;have HO2:=hid hO2;have HW2:=hid hW2;have HTl:=hid hTl;have HHd:=hid hHd;have HTu:=hid hTu;have HT2:=hid hT2;have HS:=hid (And.intro hS1 (And.intro hS2 (And.intro hS3 hS4)));have HK2:=hid hK2;have HVM:=hid hvm';clear hO2 hW2 hT2 hTl hHd hTu hS1 hS2 hS3 hS4 hK2 hvm hvm'
     go_wp2_with (at_builtin;refine wpList_append_lies _ rfl _ _ _ rfl 0 26 isl (.slice none 0 0) 1 24 Tryz.underlying25 his hsz0 hsz1 hsz2 rfl (by omega) S2.vl S2.lists.length _ rfl (HLI.out.alloc _) ⟨wr.heap.size,0,none⟩ 1 1 [.slice ao' (n+k2) c'] rfl rfl (cell_one_new _ _ _) h1c.out (by omega) h63.out hbytes.out (Nat.zero_le _) (wr.heap.size+1) (by simp) ?_)
     intro g1 cap1 w1 own1 grow1 at1 glt1;have hp1:w1.heap[p]? =wr.heap[p]? :=(grow1.block p (by simp;omega) HPL.out).trans (Below.heap_alloc wr _ p hpl);have c1:w1.cell? ⟨p,1,none⟩=some S2.vl:=(lists_get hp1 1).trans q1;have c2:w1.cell? ⟨p,2,none⟩=some (.slice am S2.marks.length cm):=(lists_get hp1 2).trans q2;have e1:w1.frozen? ⟨p,1,none⟩=false:=(World.frozen?_of_block hp1).trans fp1;have e2:w1.frozen? ⟨p,2,none⟩=false:=(World.frozen?_of_block hp1).trans fp2;have hpl1:p<w1.heap.size:=by have:=grow1.size;simp at this;omega
     have HMA:Hid (∀x y,OwI ((w1.setCell ⟨p,1,none⟩ x).alloc y) (.slice am S2.marks.length cm) S2.marks):=hid (fun x y=>by
      have h1:OwI w1 S2.vm S2.marks:=(HW2.out.ma.alloc _).grown grow1 (fun b hb e=>by
       have t1:=HW2.out.tm b hb;have t2:=HW2.out.tl b e.symm;rw[t1]at t2;simp at t2)
      have h2:=(h1.setCell (a:=⟨p,1,none⟩) x (fun e=>HPM.out e.symm)).alloc y;rw[HVM.out]at h2;exact h2)
     have HBM:Hid (S2.marks.length+[m].length≤1000000000000):=hid (by have:=HW2.out.len;simp;omega);have HOWN1:=hid own1;have HGROW1:=hid grow1;have HAT1:=hid at1;clear own1 grow1 at1 q1 q2 fp1 fp2 hp1
     go_wp2_with (at_builtin;refine wpList_app rfl _ _ rfl am S2.marks.length cm S2.marks [m] _ rfl rfl (HMA.out _ _) (RdI.one' _ _ _ (by simp)) HBM.out (w1.heap.size+1) (by simp) ?_)
     intro am' cm' w3 own3 grow3 at3;have hp2:=heap_setCell_other (w1) ⟨p,1,none⟩ p (.slice (some ⟨g1,0,none⟩) (S2.lists.length+1) cap1);have c3:w3.cell? ⟨p,2,none⟩=some (.slice am S2.marks.length cm):=by
      refine grow3.cell ?_ (by rw[←HVM.out];exact HPM.out);rw[World.cell?_alloc_lt _ _ _ (by simp;exact hpl1),World.cell?_setCell_other _ _ _ _ (by simp)];exact c2
     have e3:w3.frozen? ⟨p,2,none⟩=false:=by
      rw[grow3.frozen_far _ (by simp;omega) (by rw[←HVM.out];exact HPM.out),World.frozen?_alloc_past _ _ _ (by simp;exact hpl1),World.frozen?_setCell];exact e2
     have HOWN3:=hid own3;have HGROW3:Hid (((w1.setCell ⟨p,1,none⟩ (.slice (some ⟨g1,0,none⟩) (S2.lists.length+1) cap1)).alloc (.cells #[.int .i64 m] 3)).grownBy w3 S2.vm.ownBlock):=hid (by rw[HVM.out];exact grow3);have HAT3:Hid (∀b,(Value.slice am' (S2.marks.length+1) cm').ownBlock=some b→S2.vm.ownBlock=some b∨b=w1.heap.size+1):=hid (by rw[HVM.out];exact at3);have HLO:Hid (∀y,OwI ((w3.setCell ⟨p,2,none⟩ (.slice am' (S2.marks.length+1) cm')).alloc y) (.slice ao' (n+k2) c') (List.replicate (n+k2) m)):=hid (fun y=>by
      have hsame:Same wr (.slice ao' (n+k2) c') m:=⟨n+k2,by omega,HO2.out.rd,fun b hb=>HO2.out.lt hb⟩;obtain⟨-,-,hpk⟩:=HW2.out.pushed hsame HTl.out HOWN1.out HGROW1.out HAT1.out HOWN3.out HGROW3.out HAT3.out hnl2;exact(HO2.out.kp hpk (fun b hb e=>by
       have:=HTl.out b hb;rw[this]at e;simp at e)).alloc y)
     have HBL:Hid (n+k2+[m].length≤1000000000000):=hid (by simp;omega);clear own3 grow3 at3 hp2 c1 c2 e1 e2
     go_wp2_with (at_builtin;refine wpList_app_or rfl _ _ rfl ao' (n+k2) c' (List.replicate (n+k2) m) [m] _ rfl rfl (HLO.out _) (RdI.one' _ _ _ (by simp)) (by simp) HBL.out (w3.heap.size+1) (by simp) ?_)
     intro ao5 c5 w5 own5 or5;have HOWN5:=hid own5;have HOR5:=hid or5;clear own5 or5;go_wp2
     go_roundw
     case rel=>
      obtain⟨hS1,hS2,hS3,hS4⟩:=HS.out;exact⟨k2+1,by omega,by go_num,ao5,c5,rfl,keep_step (by omega) HO2.out HW2.out HT2.out HTl.out HHd.out HTu.out hS1 hS2 hS3 hS4 HK2.out HOWN1.out HGROW1.out HAT1.out HOWN3.out HGROW3.out HAT3.out hnl2 HOWN5.out HOR5.out⟩
     case measure=>simp[intOf];omega
    ·have HR:Hid (KeepR T o w p S n m k2 ao' c' wr):=hid ⟨T2,S2,hO2,hW2,hT2,hTl,hHd,hTu,hS1,hS2,hS3,hS4,hK2⟩
     have HK4:Hid (k2=4):=hid (by omega);clear hO2 hW2 hT2 hTl hHd hTu hS1 hS2 hS3 hS4 hK2;go_wp2
     go_end0
     obtain⟨T',S',_,h2,h3,_,_,_,h7,h8,h9,h10,h11⟩:=HR.out;rw[HK4.out]at h9;exact⟨rfl,T',S',h3,h2,h7,h8,h9,h10,h11⟩
def Step(R:Tags→Nat→World→Nat→Sp→Prop)(T:Tags)(o:Nat)(w:World)(p:Nat)(σ':Sp)(w':World):Prop:=
 ∃T',TagsTo w T T'∧R T' o w' p σ'∧Kp (fun b=>(T b).1=o) w w'
def StepL(R:Tags→Nat→World→Nat→Sp→Prop)(T:Tags)(o:Nat)(w:World)(p:Nat)(σ':Sp)(w':World)(t:Nat×Nat)(v:Value)(xs:List Int):Prop:=
 ∃T',TagsTo w T T'∧R T' o w' p σ'∧Kp (fun b=>(T b).1=o) w w'∧∃ao c,v=.slice ao xs.length c∧OwI w' (.slice ao xs.length c) xs∧Tagged T' (.slice ao xs.length c) t∧∀b,(Value.slice ao xs.length c).ownBlock=some b→w.heap.size≤b
theorem YStep.step{T:Tags}{o:Nat}{w w':World}{p:Nat}{σ:Sp}(h:YStep T o w p σ w'):Step YRep T o w p σ w':=by
 obtain⟨T',h1,h2,h3⟩:=h;exact⟨T',h1,h2,h3.mono (fun i _ e=>e.1)⟩
theorem YRep.kp{T:Tags}{o:Nat}{Z:Nat→Prop}{w w':World}{p:Nat}{σ:Sp}(h:YRep T o w p σ)(k:Kp Z w w')(hs:∀b,(T b).1=o→¬Z b):YRep T o w' p σ:=by
 obtain⟨h1,L,h2⟩:=h;exact⟨h1,L,h2.kp k hs⟩
theorem YRep.tags{T T':Tags}{o:Nat}{w:World}{p:Nat}{σ:Sp}(h:YRep T o w p σ)(k:TagsTo w T T'):YRep T' o w p σ:=by
 obtain⟨h1,L,h2⟩:=h;exact⟨h1,L,h2.tags k⟩
structure XC(R:Tags→Nat→World→Nat→Sp→Prop):Prop where
 kp:∀{T:Tags} {o:Nat} {Z:Nat→Prop} {w w':World} {p:Nat} {σ:Sp},R T o w p σ→Kp Z w w'→(∀b,(T b).1=o→¬Z b)→R T o w' p σ
 tags:∀{T T':Tags} {o:Nat} {w:World} {p:Nat} {σ:Sp},R T o w p σ→TagsTo w T T'→R T' o w p σ
 newNo:∀(b i:Int) (w:World),mayNew b i=false→Calls Tryz.prog 35 #[.int .i64 b,.int .i64 i] w fun e w'=>e=.returned (.tuple #[.pointer none,.int .i64 1])∧Kp0 w w'
 newYes:∀(b i:Nat) (w:World) (T:Tags) (o:Nat),b≤10000→i≤10000→Calls Tryz.prog 35 #[.int .i64 (b:Int),.int .i64 (i:Int)] w fun e w'=>∃p,e=.returned (.tuple #[.pointer (some ⟨p,0,none⟩),.int .i64 0])∧∃T',TagsTo w T T'∧R T' o w' p (Sp.new b i)∧Kp0 w w'
 make:∀{T:Tags} {o:Nat} {w:World} {p:Nat} {σ:Sp} (kind:Int) (vs:Value) (s:List Int),R T o w p σ→RdI w vs s→(∀b,vs.ownBlock=some b→(T b).1≠o)→s.length≤1000000000→σ.arrs.length+1≤100000000→σ.bufs.length+1≤100000000→
  Calls Tryz.prog 28 #[.pointer (some ⟨p,0,none⟩),.int .i64 kind,vs] w fun e w'=>e=.returned (.tuple #[.int .i64 (σ.make kind s).2.1,.int .i64 (σ.make kind s).2.2])∧Step R T o w p (σ.make kind s).1 w'
 free:∀{T:Tags} {o:Nat} {w:World} {p:Nat} {σ:Sp} (h:Int),R T o w p σ→Calls Tryz.prog 25 #[.pointer (some ⟨p,0,none⟩),.int .i64 h] w fun e w'=>e=.returned (.int .i64 (σ.free h).2)∧Step R T o w p (σ.free h).1 w'
 set:∀{T:Tags} {o:Nat} {w:World} {p:Nat} {σ:Sp} (h v:Int) (vi:Value) (i:List Int),R T o w p σ→RdI w vi i→(∀b,vi.ownBlock=some b→(T b).1≠o)→i.length≤1000000000→IntKind.i64.wrap v=v→
  Calls Tryz.prog 36 #[.pointer (some ⟨p,0,none⟩),.int .i64 h,.int .i64 v,vi] w fun e w'=>e=.returned (.int .i64 (σ.set h v i).2)∧Step R T o w p (σ.set h v i).1 w'
 get:∀{T:Tags} {o:Nat} {w:World} {p:Nat} {σ:Sp} (h:Int) (vi:Value) (i:List Int),R T o w p σ→RdI w vi i→(∀b,vi.ownBlock=some b→(T b).1≠o)→i.length≤1000000000→
  Calls Tryz.prog 37 #[.pointer (some ⟨p,0,none⟩),.int .i64 h,vi] w fun e w'=>e=.returned (.tuple #[.int .i64 (σ.get h i).1,.int .i64 (σ.get h i).2])∧Step R T o w p σ w'
 fill:∀{T:Tags} {o:Nat} {w:World} {p:Nat} {σ:Sp} (h v:Int),R T o w p σ→IntKind.i64.wrap v=v→
  Calls Tryz.prog 64 #[.pointer (some ⟨p,0,none⟩),.int .i64 h,.int .i64 v] w fun e w'=>e=.returned (.int .i64 (σ.fill h v).2)∧Step R T o w p (σ.fill h v).1 w'
 values:∀{T:Tags} {o:Nat} {w:World} {p:Nat} {σ:Sp} (h:Int) (t:Nat×Nat),R T o w p σ→t.1≠o→
  Calls Tryz.prog 26 #[.pointer (some ⟨p,0,none⟩),.int .i64 h] w fun e w'=>∃v,e=.returned (.tuple #[v,.int .i64 (σ.values h).2])∧StepL R T o w p σ w' t v (σ.values h).1
 look:∀{T:Tags} {o:Nat} {w:World} {p:Nat} {σ:Sp} (h:Int) (t:Nat×Nat),R T o w p σ→t.1≠o→
  Calls Tryz.prog 49 #[.pointer (some ⟨p,0,none⟩),.int .i64 h] w fun e w'=>∃v,e=.returned (.tuple #[.agg #[.int .i64 (σ.look h).1,v,.bool (σ.look h).2.2.1],.int .i64 (σ.look h).2.2.2])∧StepL R T o w p σ w' t v (σ.look h).2.1
 store:∀{T:Tags} {o:Nat} {w:World} {p:Nat} {σ:Sp} (kind:Int),R T o w p σ→
  Calls Tryz.prog 27 #[.pointer (some ⟨p,0,none⟩),.int .i64 kind] w fun e w'=>e=.returned (.tuple #[.agg #[.int .i64 (σ.store kind).1,.int .i64 (σ.store kind).2.1,.int .i64 (σ.store kind).2.2.1],.int .i64 (σ.store kind).2.2.2])∧Step R T o w p σ w'
structure SD where
 sb:Nat
 px:Nat
 py:Nat
 σx:Sp
 σy:Sp
structure Side(R:Tags→Nat→World→Nat→Sp→Prop)(T:Tags)(w:World)(i:Nat)(d:SD):Prop where
 blk:w.heap[d.sb]? =some (.cells #[.pointer (some ⟨d.px,0,none⟩),.pointer (some ⟨d.py,0,none⟩)] 85 (0,0))
 tag:T d.sb=(6,0)
 x:R T (10+2*i) w d.px d.σx
 y:YRep T (11+2*i) w d.py d.σy
structure Inv(R:Tags→Nat→World→Nat→Sp→Prop)(T:Tags)(w:World)(p:Nat)(S:WS)(L:List SD):Prop where
 wat:WAt T 5 w p S
 sides:S.sides=L.map SD.sb
 side:∀(i:Nat) (d:SD),L[i]? =some d→Side R T w i d
theorem Side.kp{R:Tags→Nat→World→Nat→Sp→Prop}(X:XC R){T T':Tags}{Z:Nat→Prop}{w w':World}{i:Nat}{d:SD}(h:Side R T w i d)(ht:TagsTo w T T')(k:Kp Z w w')(hs:∀b,b<w.heap.size→(T b).1=6∨(T b).1=10+2*i∨(T b).1=11+2*i→¬Z b):Side R T' w' i d:=by
 have k':Kp (fun b=>b<w.heap.size∧Z b) w w':=k.mono (fun b hb e=>⟨hb,e⟩);have hb:=lt_of_heap h.blk;refine⟨k'.heap h.blk (fun e=>hs _ hb (.inl (by rw[h.tag])) e.2),(ht _ hb).trans h.tag,X.kp (X.tags h.x ht) k' (fun b e z=>hs b z.1 ?_ z.2),(h.y.tags ht).kp k' (fun b e z=>hs b z.1 ?_ z.2)⟩
 ·rw[ht b z.1]at e;exact .inr (.inl e)
 ·rw[ht b z.1]at e;exact .inr (.inr e)
theorem set_same{α:Type}(l:List α)(i:Nat)(a:α)(h:l[i]? =some a):l.set i a=l:=by
 apply List.ext_getElem?
 intro j;rw[List.getElem?_set];split
 ·rename_i e
  subst e;split
  ·exact h.symm
  ·rename_i hn
   rw[List.getElem?_eq_none (by omega)]
 ·rfl
theorem set_get(L:List SD)(i j:Nat)(d e:SD)(h:(L.set i d)[j]? =some e):(j=i∧e=d)∨(j≠i∧L[j]? =some e):=by
 rw[List.getElem?_set]at h;split at h
 ·rename_i hij
  split at h
  ·simp at h;exact .inl ⟨hij.symm,h.symm⟩
  ·simp at h
 ·rename_i hij
  exact .inr ⟨fun e=>hij e.symm,h⟩
theorem Inv.stepX{R:Tags→Nat→World→Nat→Sp→Prop}(X:XC R){T T':Tags}{w w':World}{p:Nat}{S:WS}{L:List SD}(h:Inv R T w p S L){i:Nat}{d:SD}(hd:L[i]? =some d){σx:Sp}(ht:TagsTo w T T')(hr:R T' (10+2*i) w' d.px σx)(k:Kp (fun b=>(T b).1=10+2*i) w w'):Inv R T' w' p S (L.set i {d with σx:=σx}):=by
 have hy:=h.side i d hd;refine⟨?_,?_,fun j e he=>?_⟩
 ·refine(h.wat.tags ht).kp (k.mono (fun b hb e=>(show b<w.heap.size∧(T b).1=10+2*i from⟨hb,e⟩))) (fun b e z=>?_)
  rw[ht b z.1]at e;omega
 ·rw[h.sides,List.map_set]
  have:(L.map SD.sb)[i]? =some d.sb:=by rw[List.getElem?_map,hd];rfl
  exact(set_same _ _ _ this).symm
 ·rcases set_get L i j _ e he with⟨rfl,rfl⟩|⟨hne,he'⟩
  ·have k':Kp (fun b=>b<w.heap.size∧(T b).1=10+2*j) w w':=k.mono (fun b hb e=>⟨hb,e⟩)
   have hb:=lt_of_heap hy.blk;refine⟨k'.heap hy.blk (fun e=>?_),(ht _ hb).trans hy.tag,hr,(hy.y.tags ht).kp k' (fun b e z=>?_)⟩
   ·have:=e.2;rw[hy.tag]at this;simp at this;omega
   ·rw[ht b z.1]at e;have:=z.2;omega
  ·exact(h.side j e he').kp X ht k (fun b hb ho z=>by omega)
theorem Inv.stepY{R:Tags→Nat→World→Nat→Sp→Prop}(X:XC R){T T':Tags}{w w':World}{p:Nat}{S:WS}{L:List SD}(h:Inv R T w p S L){i:Nat}{d:SD}(hd:L[i]? =some d){σy:Sp}(ht:TagsTo w T T')(hr:YRep T' (11+2*i) w' d.py σy)(k:Kp (fun b=>(T b).1=11+2*i) w w'):Inv R T' w' p S (L.set i {d with σy:=σy}):=by
 have hy:=h.side i d hd;refine⟨?_,?_,fun j e he=>?_⟩
 ·refine(h.wat.tags ht).kp (k.mono (fun b hb e=>(show b<w.heap.size∧(T b).1=11+2*i from⟨hb,e⟩))) (fun b e z=>?_)
  rw[ht b z.1]at e;omega
 ·rw[h.sides,List.map_set]
  have:(L.map SD.sb)[i]? =some d.sb:=by rw[List.getElem?_map,hd];rfl
  exact(set_same _ _ _ this).symm
 ·rcases set_get L i j _ e he with⟨rfl,rfl⟩|⟨hne,he'⟩
  ·have k':Kp (fun b=>b<w.heap.size∧(T b).1=11+2*j) w w':=k.mono (fun b hb e=>⟨hb,e⟩)
   have hb:=lt_of_heap hy.blk;refine⟨k'.heap hy.blk (fun e=>?_),(ht _ hb).trans hy.tag,X.kp (X.tags hy.x ht) k' (fun b e z=>?_),hr⟩
   ·have:=e.2;rw[hy.tag]at this;simp at this;omega
   ·rw[ht b z.1]at e;have:=z.2;omega
  ·exact(h.side j e he').kp X ht k (fun b hb ho z=>by omega)
theorem Inv.stepW{R:Tags→Nat→World→Nat→Sp→Prop}(X:XC R){T T':Tags}{w w':World}{p:Nat}{S S':WS}{L:List SD}(h:Inv R T w p S L)(ht:TagsTo w T T')(hw:WAt T' 5 w' p S')(hs:S'.sides=S.sides)(k:Kp (fun b=>(T b).1=5) w w'):Inv R T' w' p S' L:=
 ⟨hw,hs.trans h.sides,fun j e he=>(h.side j e he).kp X ht k (fun b hb ho z=>by omega)⟩
theorem Inv.kp0{R:Tags→Nat→World→Nat→Sp→Prop}(X:XC R){T T':Tags}{w w':World}{p:Nat}{S:WS}{L:List SD}(h:Inv R T w p S L)(ht:TagsTo w T T')(k:Kp0 w w'):Inv R T' w' p S L:=
 ⟨(h.wat.tags ht).kp k (fun _ _ e=>e),h.sides,fun j e he=>(h.side j e he).kp X ht k (fun _ _ _ e=>e)⟩
def Went(R:Tags→Nat→World→Nat→Sp→Prop)(T:Tags)(w:World)(p:Nat)(S:WS)(L:List SD)(nl nt:Nat)(w':World):Prop:=
 ∃T' S',TagsTo w T T'∧Inv R T' w' p S' L∧S'.lists.length≤S.lists.length+nl∧S'.turned.length≤S.turned.length+nt∧S.last-nl≤S'.last∧Kp (fun b=>5≤(T b).1) w w'
theorem told_calls{R:Tags→Nat→World→Nat→Sp→Prop}(X:XC R){T:Tags}{w:World}{p:Nat}{S:WS}{L:List SD}(hI:Inv R T w p S L){i:Nat}{d:SD}(hd:L[i]? =some d)(hσ:d.σx=d.σy)(h:Int)(hok:((d.σy.values h).1).length≤3600)(hnl:S.lists.length+4≤1000000000)(hla: -1000000000≤S.last-1):Calls Tryz.prog 77 #[.pointer (some ⟨p,0,none⟩),.pointer (some ⟨d.sb,0,none⟩),.int .i64 h] w fun e w'=>e=.returned (.bool true)∧Went R T w p S L 4 0 w':=by
 have hsd:=hI.side i d hd;have z0:w.cell? ⟨d.sb,0,none⟩=some (.pointer (some ⟨d.px,0,none⟩)):=by simp[World.cell?,hsd.blk]
 have z1:w.cell? ⟨d.sb,1,none⟩=some (.pointer (some ⟨d.py,0,none⟩)):=by simp[World.cell?,hsd.blk]
 have HI:=hid hI;have HD:=hid hd;have HX:=hid X;have HS:=hid hσ;have HSD:=hid hsd;have HOK:=hid hok;clear hI hd hσ hsd X hok;go_enter Tryz.func77,Tryz.ntmps77
 go_wp2_with fail
 refine(HX.out.values h (5,9) HSD.out.x (by simp;omega)).mono ?_;rintro e w1 ⟨v1,rfl,T1,ht1,hr1,hk1,ao1,c1,rfl,ho1,htg1,hnew1⟩;have hI1:=HI.out.stepX HX.out HD.out ht1 hr1 hk1;rw[set_same _ _ _ (show L[i]? =some {d with σx:=d.σx}from HD.out)]at hI1;have z1':=hk1.cell z1 (by rw[HSD.out.tag];omega);have HI1:=hid hI1;have HO1:=hid ho1;have HTG1:=hid htg1;have HNEW1:=hid hnew1;have HK1:=hid hk1;have HT1:=hid ht1;clear hI1 ho1 htg1 hnew1 hk1 ht1 hr1
 go_wp2_with fail
 refine(yValues_calls (HI1.out.side i d HD.out).y h).mono ?_;rintro e w2 ⟨v2,rfl,ao2,c2,rfl,ho2,hk2,hnew2⟩;have HO2:=hid ho2;have HK2:=hid hk2;clear ho2 hk2 hnew2;have HSAME:Hid (∀W,Kp0 w2 W→Calls Tryz.prog 118 #[.slice ao1 (d.σx.values h).1.length c1,.slice ao2 (d.σy.values h).1.length c2] W fun e w'=>e=.returned (.bool true)∧Kp0 W w'):=hid (fun W kW=>
  (same_calls _ _ _ _ W ((HO1.out.rd.kp0 HK2.out).kp0 kW) (HO2.out.rd.kp0 kW) (by rw[HS.out];have:=HOK.out;omega)).mono (by
   rintro e w' ⟨rfl,hk⟩;exact⟨by rw[HS.out];simp,hk⟩))
 go_wp2_with fail
 refine(HSAME.out _ (Kp0.refl _)).mono ?_;rintro e w3 ⟨rfl,hk3⟩;have HI3:=hid (HI1.out.kp0 HX.out (fun _ _=>rfl) (HK2.out.trans hk3));have HK3:=hid (HK2.out.trans hk3);clear hk3
 go_wp2_with fail
 refine(kept_calls HI3.out.wat).mono ?_;rintro e w4 ⟨rfl,hk4⟩;have HI4:=hid (HI3.out.kp0 HX.out (fun _ _=>rfl) hk4);have HK4:=hid (HK3.out.trans hk4);clear hk4;have HO4:Hid (OwI w4 (.slice ao1 (d.σx.values h).1.length c1) (d.σx.values h).1):=hid (HO1.out.kp HK4.out (fun _ _ e=>e));have HLEN:Hid ((d.σx.values h).1.length≤3600):=hid (by rw[HS.out];exact HOK.out)
 go_wp2_with fail
 refine(keep_calls HI4.out.wat ao1 _ c1 _ HO4.out HTG1.out (HI.out.wat.newApart HNEW1.out) (by have:=HLEN.out;omega) hnl hla).mono ?_;rintro e w5 ⟨rfl,T5,S5,ht5,hw5,hs5,hu5,hl5,hla5,hk5⟩;have HI5:=hid (HI4.out.stepW HX.out ht5 hw5 hs5 hk5);have HK5:=hid hk5;have HT5:=hid ht5;have HR5:=hid (And.intro hu5 (And.intro hl5 hla5));clear ht5 hw5 hs5 hu5 hl5 hla5 hk5;have heq:((d.σx.values h).2==(d.σy.values h).2)=true:=by rw[HS.out];simp
 go_wp2
 go_ret;obtain⟨hu5,hl5,hla5⟩:=HR5.out;have s1:=HK1.out.size;have s4:=HK4.out.size;have t1:∀b,b<w.heap.size→T1 b=T b:=HT1.out;refine⟨rfl,T5,S5,fun b hb=>by rw[HT5.out b (by omega),t1 b hb],HI5.out,by omega,by rw[hu5];omega,by omega,?_⟩;have k1:Kp (fun b=>5≤(T b).1) w w1:=HK1.out.mono (fun b hb e=>by omega);exact(k1.trans0 HK4.out).trans HK5.out (fun b hb e=>by rw[t1 b hb]at e;omega)
theorem looked_calls{R:Tags→Nat→World→Nat→Sp→Prop}(X:XC R){T:Tags}{w:World}{p:Nat}{S:WS}{L:List SD}(hI:Inv R T w p S L){i:Nat}{d:SD}(hd:L[i]? =some d)(hσ:d.σx=d.σy)(h:Int)(hok:((d.σy.look h).2.1).length≤3600)(hnl:S.lists.length+4≤1000000000)(hla: -1000000000≤S.last-1):Calls Tryz.prog 78 #[.pointer (some ⟨p,0,none⟩),.pointer (some ⟨d.sb,0,none⟩),.int .i64 h] w fun e w'=>e=.returned (.bool true)∧Went R T w p S L 4 0 w':=by
 have hsd:=hI.side i d hd;have z0:w.cell? ⟨d.sb,0,none⟩=some (.pointer (some ⟨d.px,0,none⟩)):=by simp[World.cell?,hsd.blk]
 have z1:w.cell? ⟨d.sb,1,none⟩=some (.pointer (some ⟨d.py,0,none⟩)):=by simp[World.cell?,hsd.blk]
 have HI:=hid hI;have HD:=hid hd;have HX:=hid X;have HS:=hid hσ;have HSD:=hid hsd;have HOK:=hid hok;have hsb:d.sb<w.heap.size:=lt_of_heap hsd.blk;clear hI hd hσ hsd X hok;go_enter Tryz.func78,Tryz.ntmps78
 go_wp2_with fail
 refine(HX.out.look h (5,9) HSD.out.x (by simp;omega)).mono ?_;rintro e w1 ⟨v1,rfl,T0,ht0,hr0,hk1,ao1,c1,rfl,ho1,htg0,hnew1⟩;have hI0:=HI.out.stepX HX.out HD.out ht0 hr0 hk1;rw[set_same _ _ _ (show L[i]? =some {d with σx:=d.σx}from HD.out)]at hI0;obtain⟨T1,hT1⟩:∃T1,retag w1 T0 (0,0)=T1:=⟨_,rfl⟩;have hI1:Inv R T1 w1 p S L:=by rw[←hT1];exact hI0.kp0 HX.out (retag_to w1 T0 _) (Kp0.refl _)
 have htg1:Tagged T1 (.slice ao1 (d.σx.look h).2.1.length c1) (5,9):=fun b hb=>by rw[←hT1,retag_to w1 T0 _ b (ho1.lt hb)];exact htg0 b hb
 have ht1:TagsTo w T T1:=fun b hb=>by rw[←hT1,retag_to w1 T0 _ b (by have:=hk1.size;omega),ht0 b hb]
 have hnew0:∀b,w1.heap.size≤b→T1 b=(0,0):=fun b hb=>by rw[←hT1];exact retag_new hb
 have z1':=hk1.cell z1 (by rw[HSD.out.tag];omega);have hsb1:d.sb<w1.heap.size:=by have:=hk1.size;omega
 have HI1:=hid hI1;have HO1:=hid ho1;have HTG1:=hid htg1;have HNEW1:=hid hnew1;have HNEW0:=hid hnew0;have HK1:=hid hk1;have HT1:=hid ht1;clear hI0 hI1 ho1 htg1 hnew1 hk1 ht1 hr0 htg0 hnew0 ht0 hT1;have HL:Hid (d.σx.look h=d.σy.look h):=hid (by rw[HS.out]);obtain⟨kd,sh,ro,er,hlk⟩:∃kd sh ro er,d.σy.look h=(kd,sh,ro,er):=⟨_,_,_,_,rfl⟩;have hlx:d.σx.look h=(kd,sh,ro,er):=by rw[HL.out,hlk]
 have HYL:=hid (fun W (hy:YRep T1 (11+2*i) W d.py d.σy)=>yLook_calls hy h);rw[hlx]at HO1 HTG1 HNEW1⊢;rw[hlk]at HYL HOK;clear hlx hlk HL;simp only at HO1 HTG1 HNEW1 HYL HOK⊢
 go_wp2_with fail
 refine(HYL.out _ ((HI1.out.side i d HD.out).y.kp (Kp.alloc (Kp.refl (fun _=>False) _) _) (fun _ _ e=>e))).mono ?_;rintro e w2 ⟨v2,rfl,ao2,c2,rfl,ho2,hk2,hnew2⟩;have y0:w2.cell? ⟨w1.heap.size,0,none⟩=some (.int .i64 kd):=hk2.cell (by simp);have y1:w2.cell? ⟨w1.heap.size,1,none⟩=some (.slice ao1 sh.length c1):=hk2.cell (by simp);have y2:w2.cell? ⟨w1.heap.size,2,none⟩=some (.bool ro):=hk2.cell (by simp);have hs2:w1.heap.size<w2.heap.size:=by have:=hk2.size;simp at this;omega
 have HO2:=hid ho2;have HK2:Hid (Kp0 w1 w2):=hid (Kp0.trans (Kp.alloc (Kp.refl _ _) _) hk2);clear ho2 hk2 hnew2;have HSAME:Hid (∀W,Kp0 w2 W→Calls Tryz.prog 118 #[.slice ao1 sh.length c1,.slice ao2 sh.length c2] W fun e w'=>e=.returned (.bool true)∧Kp0 W w'):=hid (fun W kW=>
  (same_calls _ _ _ _ W ((HO1.out.rd.kp0 HK2.out).kp0 kW) (HO2.out.rd.kp0 kW) (by have:=HOK.out;omega)).mono (by
   rintro e w' ⟨rfl,hk⟩;exact⟨by simp,hk⟩))
 go_wp2_with fail
 refine(HSAME.out _ (Kp.alloc (Kp.refl _ _) _)).mono ?_;rintro e w3 ⟨rfl,hk3⟩;have x0:w3.cell? ⟨w2.heap.size,0,none⟩=some (.int .i64 kd):=hk3.cell (by simp);have x2:w3.cell? ⟨w2.heap.size,2,none⟩=some (.bool ro):=hk3.cell (by simp);have hk23:Kp0 w2 w3:=Kp0.trans (Kp.alloc (Kp.refl _ _) _) hk3;have y0':=hk23.cell y0;have y1':=hk23.cell y1;have y2':=hk23.cell y2;have hs3:w2.heap.size<w3.heap.size:=by have:=hk3.size;simp at this;omega
 have HI3:=hid (HI1.out.kp0 HX.out (fun _ _=>rfl) (HK2.out.trans hk23));have HK3:=hid (HK2.out.trans hk23);clear hk3 hk23 y0 y1 y2
 go_wp2_with fail
 refine(kept_calls HI3.out.wat).mono ?_;rintro e w4 ⟨rfl,hk4⟩;have y0:=hk4.cell y0';have y1:=hk4.cell y1';have y2:=hk4.cell y2';have x0':=hk4.cell x0;have x2':=hk4.cell x2;have HI4:=hid (HI3.out.kp0 HX.out (fun _ _=>rfl) hk4);have HK4:=hid (HK3.out.trans hk4);clear hk4 y0' y1' y2' x0 x2;have HO4:Hid (OwI w4 (.slice ao1 sh.length c1) sh):=hid (HO1.out.kp HK4.out (fun _ _ e=>e))
 go_wp2_with fail
 refine(keep_calls HI4.out.wat ao1 _ c1 _ HO4.out HTG1.out (HI.out.wat.newApart HNEW1.out) (by have:=HOK.out;omega) hnl hla).mono ?_;rintro e w5 ⟨rfl,T5,S5,ht5,hw5,hs5,hu5,hl5,hla5,hk5⟩;have u0:=hk5.cell y0 (by rw[HNEW0.out _ (Nat.le_refl _)];simp);have u2:=hk5.cell y2 (by rw[HNEW0.out _ (Nat.le_refl _)];simp);have t0:=hk5.cell x0' (by rw[HNEW0.out _ (by simp;omega)];simp);have t2:=hk5.cell x2' (by rw[HNEW0.out _ (by simp;omega)];simp);have HI5:=hid (HI4.out.stepW HX.out ht5 hw5 hs5 hk5);have HK5:=hid hk5;have HT5:=hid ht5;have HR5:=hid (And.intro hu5 (And.intro hl5 hla5));clear ht5 hw5 hs5 hu5 hl5 hla5 hk5 y0 y1 y2 x0' x2';go_wp2
 go_ret;obtain⟨hu5,hl5,hla5⟩:=HR5.out;have s1:=HK1.out.size;have s4:=HK4.out.size;have t1:∀b,b<w.heap.size→T1 b=T b:=HT1.out;refine⟨ret_bool (by simp),T5,S5,fun b hb=>by rw[HT5.out b (by omega),t1 b hb],HI5.out,by omega,by rw[hu5];omega,by omega,?_⟩;have k1:Kp (fun b=>5≤(T b).1) w w1:=HK1.out.mono (fun b hb e=>by omega);exact(k1.trans0 HK4.out).trans HK5.out (fun b hb e=>by rw[t1 b hb]at e;omega)
end Go.Proofs.YticbbncdcannlaaGreat
