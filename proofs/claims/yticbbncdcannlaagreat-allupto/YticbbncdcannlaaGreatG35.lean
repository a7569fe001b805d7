import Derived.Deep.CutRange
import Derived.Test.YticbbncdcannlaaGreatG33
set_option maxRecDepth 100000
set_option maxHeartbeats 8000000
namespace Go.Proofs.YticbbncdcannlaaGreat
open Go.RowKit
theorem ry_front{w:World}{gs m b c:Nat}{xs:List Int}(hl:xs.length=m)(h:∀j,j<m→w.cell? ⟨gs,j,none⟩=some (.int .i64 (nth xs j)))(hb:b≤m):RdI w (.slice (some ⟨gs,0,none⟩) b c) (xs.take b):=by
 have hlen:(xs.take b).length=b:=by simp;omega
 refine⟨some ⟨gs,0,none⟩,c,by rw[hlen],fun _=>⟨gs,0,rfl,fun j hj=>?_⟩⟩;rw[hlen]at hj;rw[Nat.zero_add,h j (by omega)];unfold nth List.getD;rw[List.getElem?_take_of_lt hj]
theorem ry_back{w:World}{gs m b c:Nat}{xs:List Int}(hl:xs.length=m)(h:∀j,j<m→w.cell? ⟨gs,j,none⟩=some (.int .i64 (nth xs j)))(hb:b≤m):RdI w (.slice (some ⟨gs,b,none⟩) (m-b) c) (xs.drop b):=by
 have hlen:(xs.drop b).length=m-b:=by simp;omega
 refine⟨some ⟨gs,b,none⟩,c,by rw[hlen],fun _=>⟨gs,b,rfl,fun j hj=>?_⟩⟩;rw[hlen]at hj;rw[h (b+j) (by omega)];unfold nth List.getD;rw[List.getElem?_drop]
theorem ry_none{w:World}{a:Option Addr}{c m b:Nat}{xs:List Int}(hl:xs.length=m)(hb:m≤b):RdI w (.slice a 0 c) (xs.drop b):=by
 have:xs.drop b=[]:=List.drop_of_length_le (by omega);rw[this];exact⟨a,c,rfl,fun h=>absurd rfl h⟩
theorem putsY_congr{σ:Sp}{kind a:Int}{f g:Nat→Int}(k:Nat)(h:∀j,j<k→f j=g j):σ.puts kind a f k=σ.puts kind a g k:=by
 induction k with
 |zero=>rfl
 |succ k ih=>rw[Sp.puts,Sp.puts,ih (fun j hj=>h j (by omega)),h k (by omega)]
theorem freshY_congr{σ:Sp}{kind:Int}{s:List Int}{f g:Nat→Int}(h:∀j,j<(vol s).toNat→f j=g j):σ.fresh kind s f=σ.fresh kind s g:=by
 unfold Sp.fresh Sp.made;rw[putsY_congr _ h]
theorem yfold_no{T:Tags}{o:Nat}{w:World}{p:Nat}{σ:Sp}(hy:YRep T o w p σ)(op h axis:Int)(hn:(op<1∨5<op∨op=2)∨(¬(op<1∨5<op∨op=2)∧σ.find h=none)∨(¬(op<1∨5<op∨op=2)∧∃a,σ.find h=some a∧(axis<0∨(a.shape.length:Int)≤axis))):Calls Tryz.prog 116 #[.pointer (some ⟨p,0,none⟩),.int .i64 op,.int .i64 h,.int .i64 axis] w fun e w'=>e=.returned (.tuple #[.int .i64 (σ.fold op h axis).2.1,.int .i64 (σ.fold op h axis).2.2])∧YStep T o w p (σ.fold op h axis).1 w':=by
 have HYR:=hid hy;obtain⟨hok,L,hy⟩:=hy;have HO:=hid hok;have HY:=hid hy;rcases hn with hop|⟨hop,hf⟩|⟨hop,a,hf,hax⟩
 ·have HF:Hid (σ.fold op h axis=(σ,0,1)):=hid (by unfold Sp.fold;rw[if_pos hop])
  by_cases h1:op<1
  ·clear hy hok hop
   go_enter Tryz.func116,Tryz.ntmps116
   go_wp2
   go_ret2
   rw[HF.out];exact⟨rfl,YStep.same HYR.out (Kp0.refl _)⟩
  ·by_cases h5:5<op
   ·clear hy hok hop
    go_enter Tryz.func116,Tryz.ntmps116
    go_wp2
    go_ret2
    rw[HF.out];exact⟨rfl,YStep.same HYR.out (Kp0.refl _)⟩
   ·obtain rfl:op=2:=by omega
    clear hy hok hop;go_enter Tryz.func116,Tryz.ntmps116
    go_wp2
    go_ret2
    rw[HF.out];exact⟨rfl,YStep.same HYR.out (Kp0.refl _)⟩
 ·have HF:Hid (σ.fold op h axis=(σ,0,2)):=hid (by unfold Sp.fold;rw[if_neg hop,hf])
  have d1:¬op<1:=by omega
  have d2:¬5<op:=by omega
  have d3:(op==2)=false:=by simp;omega
  rcases hy.find h with⟨-,hl⟩|⟨a,q,v1,v2,hf2,-,-,-,-⟩
  ·have HL:=hid hl
   clear hy hok hop hf hl;go_enter Tryz.func116,Tryz.ntmps116
   go_wp2_with fail
   refine(yfind_calls HY.out HO.out h).mono ?_;rintro e w' ⟨rfl,hw⟩;obtain rfl:=hw.symm;rw[HL.out];simp only[ptr];go_wp2
   go_ret2
   rw[HF.out];exact⟨rfl,YStep.same HYR.out (Kp0.refl _)⟩
  ·rw[hf]at hf2;cases hf2
 ·have HF:Hid (σ.fold op h axis=(σ,0,5)):=hid (by unfold Sp.fold;rw[if_neg hop,hf];simp only;rw[if_pos hax])
  have d1:¬op<1:=by omega
  have d2:¬5<op:=by omega
  have d3:(op==2)=false:=by simp;omega
  rcases hy.find h with⟨hf2,-⟩|⟨a',q,v1,v2,hf2,hl,hya,hat,-⟩
  ·rw[hf]at hf2;cases hf2
  ·rw[hf]at hf2
   cases hf2
   obtain⟨-,z1,-,-,-⟩:=hya.parts;obtain⟨aa,cc,rfl,-⟩:=rd_parts hya.shape.rd;have HL:=hid hl;by_cases ha:axis<0
   ·clear hy hok hop hf hl hya hat hax
    go_enter Tryz.func116,Tryz.ntmps116
    go_wp2_with fail
    refine(yfind_calls HY.out HO.out h).mono ?_;rintro e w' ⟨rfl,hw⟩;obtain rfl:=hw.symm;rw[HL.out];simp only[ptr];go_wp2
    go_ret2
    rw[HF.out];exact⟨rfl,YStep.same HYR.out (Kp0.refl _)⟩
   ·have ha2:(a.shape.length:Int)≤axis:=by omega
    clear hy hok hop hf hl hya hat hax;go_enter Tryz.func116,Tryz.ntmps116
    go_wp2_with fail
    refine(yfind_calls HY.out HO.out h).mono ?_;rintro e w' ⟨rfl,hw⟩;obtain rfl:=hw.symm;rw[HL.out];simp only[ptr];go_wp2
    go_ret2
    rw[HF.out];exact⟨rfl,YStep.same HYR.out (Kp0.refl _)⟩
theorem yfold_yes{T:Tags}{o:Nat}{w:World}{p:Nat}{σ:Sp}(hy:YRep T o w p σ)(op h:Int)(b:Nat)(hop:¬(op<1∨5<op∨op=2))(a:Arr)(hf:σ.find h=some a)(hb:b<a.shape.length)(hm:σ.arrs.length+1≤100000000)(hbf:σ.bufs.length+1≤100000000):Calls Tryz.prog 116 #[.pointer (some ⟨p,0,none⟩),.int .i64 op,.int .i64 h,.int .i64 (b:Int)] w fun e w'=>e=.returned (.tuple #[.int .i64 (σ.fold op h b).2.1,.int .i64 (σ.fold op h b).2.2])∧YStep T o w p (σ.fold op h b).1 w':=by
 obtain⟨hok,L,hy⟩:=hy;have HO:=hid hok;have HY:=hid hy;have d1:¬op<1:=by omega
 have d2:¬5<op:=by omega
 have d3:(op==2)=false:=by simp;omega
 have HOP:Hid (1≤op∧op≤5):=hid (by omega);rcases hy.find h with⟨hf2,-⟩|⟨a',q,vs,vc,hf2,hl,hya,hat,-⟩
 ·rw[hf]at hf2;cases hf2
 rw[hf]at hf2;cases hf2
 have hao:=find_ok hok hat;have HL:=hid hl;have HAO:=hid hao;have HYA:=hid hya;obtain⟨m,hmm⟩:∃m,a.shape.length=m:=⟨_,rfl⟩;have hm4:m≤4:=by have:=hao.shape.1;omega
 have hbm:b<m:=by omega
 obtain⟨gs,cap,rfl,hcap,hgs,hcs⟩:=hya.shape.slice (by omega);rw[hmm]at hcap hcs;obtain⟨z0,z1,-,-,-⟩:=hya.parts;rw[hmm]at z1;have HMM:=hid hmm;have HSH:Hid (okShape a.shape):=hid hao.shape;have HBM:Hid (b<a.shape.length):=hid hb;have HKD:=hid hao.kind;obtain⟨cn,hcn⟩:∃cn:Nat,nth a.shape b=(cn:Int):=⟨(nth a.shape b).toNat,by have:=hao.shape.2.1 b hb;omega⟩;have hcb:1≤cn∧cn≤60:=by have:=hao.shape.2.1 b hb;omega
 have HCN:=hid hcn;have HFO:Hid (okShape (foldS a.shape b)):=hid (foldS_ok hao.shape hb);obtain⟨mm,hmv⟩:∃mm,(vol (foldS a.shape b)).toNat=mm:=⟨_,rfl⟩;have hmmb:1≤mm∧mm≤3600:=by
  have h1:=vol_bd (foldS a.shape b) HFO.out.2.1 HFO.out.1 (foldS a.shape b).length (Nat.le_refl _);rw[List.take_length]at h1;have h2:=HFO.out.2.2;omega
 have HMV:Hid (vol (foldS a.shape b)=(mm:Int)):=hid (by
  have h1:=vol_bd (foldS a.shape b) HFO.out.2.1 HFO.out.1 (foldS a.shape b).length (Nat.le_refl _);rw[List.take_length]at h1;omega)
 have HFL:Hid ((foldS a.shape b).length=m-1):=hid (by rw[foldS_length _ _ hb,hmm]);obtain⟨FV,hFV⟩:∃FV:List Int,FV=mkL mm fun r=>σ.folded op a b r:=⟨_,rfl⟩
 have HFN:Hid (FV.length=mm∧∀r,r<mm→nth FV r=foldV op a.kind (fun x=>nth (σ.valuesOf a) (rank a.shape (foldL (idx (foldS a.shape b) r) b x)).toNat) (cn-1)):=hid ⟨by rw[hFV,mkL_length],fun r hr=>by
  rw[hFV,mkL_nth,if_pos hr];unfold Sp.folded;rw[hcn,Int.toNat_natCast]⟩
 have HF:Hid (σ.fold op h b=σ.fresh a.kind (foldS a.shape b) fun i=>asK a.kind (nth FV i)):=hid (by
  unfold Sp.fold;rw[if_neg hop,hf];simp only;rw[if_neg (by omega),Int.toNat_natCast];exact freshY_congr (fun j hj=>by rw[hFV,mkL_nth,if_pos (by omega)]))
 have HMB:=hid (And.intro hm hbf);have hvl:(σ.valuesOf a).length=a.cells.length:=by simp[Sp.valuesOf]
 have hal:=hao.length;obtain⟨M,hM⟩:∃M,a.cells.length=M:=⟨_,rfl⟩;have HVL:Hid ((σ.valuesOf a).length=M):=hid (by rw[hvl,hM]);have HMVL:Hid ((M:Int)=vol a.shape):=hid (by rw[←hM];exact hal);have hMb:1≤M:=by
  have h1:=vol_bd a.shape hao.shape.2.1 hao.shape.1 a.shape.length (Nat.le_refl _);rw[List.take_length]at h1;omega
 have HTQ:Hid (T q=(o,6)∧T gs=(o,6)):=hid ⟨hya.tag,hya.tags gs rfl⟩;have HCS0:=hid hcs;have hqw:q<w.heap.size:=lt_of_heap hya.blk;have n1:¬(b:Int)<0:=by omega
 have n2:¬(m:Int)≤(b:Int):=by omega
 have b0:(0:Int)≤(b:Int):=by omega
 have b1:(b:Int)<(m:Int):=by omega
 have b2:(b:Int)≤(cap:Int):=by omega
 have HTL:Hid ((a.shape.take b).length=b):=hid (by simp;omega);have HR1:Hid (RdI w (.slice (some ⟨gs,0,none⟩) b cap) (a.shape.take b)):=hid (ry_front hmm hcs (by omega));obtain⟨tb,htb⟩:∃tb,a.shape.take b=tb:=⟨_,rfl⟩;rw[htb]at HTL HR1;have HTB:=hid htb;have HN1:Hid (0+tb.length≤1000000000000):=hid (by rw[HTL.out];omega);clear hy hok hop hf hl hya hat hao hb hmm hcn hmv hFV hm hbf hvl hal hM htb hcs;go_enter Tryz.func116,Tryz.ntmps116
 go_wp2_with fail
 refine(yfind_calls HY.out HO.out h).mono ?_;rintro e w' ⟨rfl,hw⟩;obtain rfl:=hw.symm;rw[HL.out];simp only[ptr]
 go_wp2_with (at_builtin;refine wpList_app (by rfl) _ _ (by rfl) none 0 0 [] tb _ (by rfl) (by rfl) (OwI.nil _) HR1.out HN1.out w.heap.size (by rfl) ?_)
 intro aN cN w9 hO9 hG9 hB9;simp only[HTL.out]at hO9 hB9⊢;have HK9:Hid (Kp0 w w9):=hid ((Kp.refl _ w).grown hG9 (by simp[Value.ownBlock]));have HO9:=hid hO9;have HB9:Hid (∀b',(Value.slice aN b cN).ownBlock=some b'→w.heap.size≤b'):=hid (fun b' hb'=>by
  rcases hB9 b' hb' with h|h
  ·simp[Value.ownBlock]at h
  ·omega)
 clear hO9 hG9 hB9 HR1 HN1;have eb:IntKind.i64.wrap ((b:Int)+1)=(b:Int)+1:=by simp[IntKind.wrap,IntKind.signed,IntKind.bits];omega
 have z1':=HK9.out.cell z1
 go_upto_region 10 with(fail)
 go_cut [11]from 54 (fun s11 W=>∃ao c,s11=.slice ao (m-1) c∧OwI W (.slice ao (m-1) c) (foldS a.shape b)∧Kp0 w W∧∀b',(Value.slice ao (m-1) c).ownBlock=some b'→w.heap.size≤b')
 case first=>
  have HN2:Hid (b+(a.shape.drop (b+1)).length≤1000000000000):=hid (by simp;have:=HMM.out;omega);have HTD:Hid (b+(a.shape.drop (b+1)).length=m-1):=hid (by simp;have:=HMM.out;omega);have HFS:Hid (tb++a.shape.drop (b+1)=foldS a.shape b):=hid (by rw[←HTB.out];rfl);have HR9:Hid (∀j,j<m→w9.cell? ⟨gs,j,none⟩=some (.int .i64 (nth a.shape j))):=hid (fun j hj=>HK9.out.cell (HCS0.out j hj));obtain⟨td,htd⟩:∃td,a.shape.drop (b+1)=td:=⟨_,rfl⟩;have HR2:Hid (∀c,RdI w9 (.slice (some ⟨gs,b+1,none⟩) (m-(b+1)) c) td):=hid (fun c=>by rw[←htd];exact ry_back HMM.out HR9.out (by omega));have HR3:Hid (m≤b+1→∀a c,RdI w9 (.slice a 0 c) td):=hid (fun h a c=>by rw[←htd];exact ry_none HMM.out h);rw[htd]at HN2 HTD HFS;clear htd;by_cases hsd:cap=b+1
  ·have hmb:m=b+1:=by omega
   have HR4:Hid (∀a c,RdI w9 (.slice a 0 c) td):=hid (HR3.out (by omega));subst hsd;subst hmb;clear HR2 HR3
   go_wp2_with (at_builtin;refine wpList_app (by rfl) _ _ (by rfl) aN b cN tb td _ (by rfl) (by rfl) HO9.out (HR4.out _ _) HN2.out w9.heap.size (by rfl) ?_)
   intro ao' c' w' hC hG hB;rw[HFS.out]at hC;simp only[HTD.out]at hC hB⊢;have HC':=hid hC;have HK':Hid (Kp0 w w'):=hid (Kp.grown HK9.out hG (fun b' hb' hlt=>by have:=HB9.out b' hb';omega));have HB':Hid (∀b',(Value.slice ao' (b+1-1) c').ownBlock=some b'→w.heap.size≤b'):=hid (fun b' hb'=>by
    rcases hB b' hb' with h|h
    ·exact HB9.out b' h
    ·have:=HK9.out.size;omega)
   clear hC hG hB
   go_wp2_with fail
   go_meet
   case rel=>exact⟨_,_,rfl,HC'.out,HK'.out,HB'.out⟩
  ·have c1':(b:Int)+1≤(m:Int):=by omega
   have c2':(m:Int)≤(cap:Int):=by omega
   have c3':¬(cap:Int)=(b:Int)+1:=by omega
   go_wp2_with (at_builtin;refine wpList_app (by rfl) _ _ (by rfl) aN b cN tb td _ (by rfl) (by rfl) HO9.out (HR2.out _) HN2.out w9.heap.size (by rfl) ?_)
   intro ao' c' w' hC hG hB;rw[HFS.out]at hC;simp only[HTD.out]at hC hB⊢;have HC':=hid hC;have HK':Hid (Kp0 w w'):=hid (Kp.grown HK9.out hG (fun b' hb' hlt=>by have:=HB9.out b' hb';omega));have HB':Hid (∀b',(Value.slice ao' (m-1) c').ownBlock=some b'→w.heap.size≤b'):=hid (fun b' hb'=>by
    rcases hB b' hb' with h|h
    ·exact HB9.out b' h
    ·have:=HK9.out.size;omega)
   clear hC hG hB
   go_wp2_with fail
   go_meet
   case rel=>exact⟨_,_,rfl,HC'.out,HK'.out,HB'.out⟩
 case rest=>
  generalize wc=wE at hcut⊢;obtain⟨aF,cF,rfl,hOF,hKF,hBF⟩:=hcut;have HOF0:=hid hOF;have HBF:=hid hBF;have HKE:=hid hKF;clear hOF hKF hBF HO9 HK9 HB9 HTL HTB eb z1'
  go_wp2_with fail
  refine(yvalues_calls (HY.out.kp0 HKE.out) HO.out q _ vc a (HYA.out.kp HKE.out (fun _ _ e=>e)) HAO.out).mono ?_;rintro e wF ⟨av,cv,rfl,ho2,hk2,hb2⟩;rw[HVL.out]at ho2⊢;have HKF:Hid (Kp0 w wF):=hid (HKE.out.trans hk2);have HOF:=hid (HOF0.out.kp hk2 (fun _ _ e=>e));obtain⟨vals,hvals⟩:∃vals,σ.valuesOf a=vals:=⟨_,rfl⟩;rw[hvals]at ho2 HVL HFN;obtain⟨gv,hgv,hcv⟩:∃gv,av=some ⟨gv,0,none⟩∧∀j,j<M→wF.cell? ⟨gv,j,none⟩=some (.int .i64 (nth vals j)):=by
   obtain⟨g,cap,hv,_,_,hc⟩:=ho2.slice (by rw[HVL.out];omega);simp at hv;exact⟨g,hv.1,fun j hj=>hc j (by rw[HVL.out];exact hj)⟩
  subst hgv;have HCV:=hid hcv;obtain⟨s',hs'⟩:∃s',foldS a.shape b=s':=⟨_,rfl⟩;rw[hs']at HOF HFO HFL HMV HFN;have HS':=hid hs';clear ho2 hk2 hb2 hcv hvals hs' HOF0;have HZ:Hid (∀W,Kp0 wF W→W.cell? ⟨q,0,none⟩=some (.int .i64 a.kind)∧W.cell? ⟨q,1,none⟩=some (.slice (some ⟨gs,0,none⟩) m cap)∧W.cell? ⟨gs,b,none⟩=some (.int .i64 (cn:Int))∧RdI W (.slice (some ⟨gs,0,none⟩) m cap) a.shape):=hid (fun W kW=>by
   have kk:=HKF.out.trans kW;refine⟨kk.cell z0,kk.cell z1,?_,?_⟩
   ·have:=kk.cell (HCS0.out b hbm);rw[HCN.out]at this;exact this
   ·have h1:=ry_front (c:=cap) HMM.out (fun j hj=>kk.cell (HCS0.out j hj)) (Nat.le_refl m)
    rw[List.take_of_length_le (by rw[HMM.out];exact Nat.le_refl _)]at h1;exact h1)
  go_wp2
  go_loopw [13,14,15,16,17,18,19] (fun l t _ _ _ _ _ w'=>∃r:Nat,r≤mm∧t=.int .i64 r∧∃ao c,l=.slice ao r c∧OwI w' (.slice ao r c) (FV.take r)∧Kp0 wF w'∧(∀b',(Value.slice ao r c).ownBlock=some b'→wF.heap.size≤b')) (fun _ t _ _ _ _ _ _=>mm-(intOf t).toNat)
  case atStart=>exact⟨0,Nat.zero_le _,rfl,none,0,rfl,OwI.nil _,Kp0.refl _,fun b hb=>by simp[Value.ownBlock]at hb⟩
  case round=>
   obtain⟨r,hrm,rfl,aL,cL,rfl,hOL,hKr,hBL⟩:=hrel;have HKr:=hid hKr;have HOL:=hid hOL;have HBL:=hid hBL;clear hKr hOL hBL
   go_wp2_with fail
   refine(volume_calls _ s' wr (HOF.out.rd.kp0 HKr.out) HFO.out.2.1 HFO.out.1).mono ?_;rintro e' w' ⟨rfl,hw⟩;obtain rfl:=hw.symm;rw[HMV.out];by_cases hr:r<mm
   ·have r1:(r:Int)<(mm:Int):=by omega
    go_wp2_with fail
    refine(index_calls _ s' (r:Int) wr (HOF.out.rd.kp0 HKr.out) HFO.out.2.1 HFO.out.1 (by omega) (by omega)).mono ?_;rintro e' w10 ⟨rfl,hk10,hg10⟩;rw[HFL.out];obtain⟨il,hil⟩:∃il,idx s' r=il:=⟨_,rfl⟩;rw[hil]at hg10;have HIN:Hid (inB (foldS a.shape b) il):=hid (by rw[HS'.out,←hil];exact idx_in s' r HFO.out.2.1);have HILL:Hid (il.length=m-1):=hid (by rw[←HIN.out.1,HS'.out];exact HFL.out);have HK10:Hid (Kp0 wF w10):=hid (HKr.out.trans hk10);have HOL10:=hid (HOL.out.kp hk10 (fun _ _ e=>e));have HS10:=hid hk10.size;obtain⟨ib,hib⟩:∃ib,wr.heap.size=ib:=⟨_,rfl⟩;rw[hib]at hg10⊢;have HIC:Hid (∀W,Kp0 w10 W→∀j,j<m-1→W.cell? ⟨ib,j,none⟩=some (.int .i64 (nth il j))):=hid (fun W kW j hj=>by
     rw[cell_of_row _ _ _ _ _ _ (kW.heap hg10)];simpa using ints_get (xs:=il) (j:=j) (by rw[HILL.out];exact hj))
    obtain⟨G,hG⟩:∃G:Nat→Int,G=fun q:Nat=>nth vals (rank a.shape (foldL il b q)).toNat:=⟨_,rfl⟩
    have HSUM:Hid (nth FV r=foldV op a.kind G (cn-1)):=hid (by rw[HFN.out.2 r hr,hil,hG]);have HG:=hid hG;clear hk10 hg10 hil hib hG;go_wp2
    go_loopw [16,17,18,19] (fun s16 t _ _ w'=>∃p':Nat,p'≤cn∧t=.int .i64 p'∧s16=.int .i64 (if p'=0 then 0 else foldV op a.kind G (p'-1))∧Kp0 w10 w') (fun _ t _ _ _=>cn-(intOf t).toNat)
    case atStart=>exact⟨0,Nat.zero_le _,rfl,rfl,Kp0.refl _⟩
    case round=>
     obtain⟨p',hp,rfl,rfl,hKp⟩:=hrel;have HKp:=hid hKp;obtain⟨-,s1,s3,-⟩:=HZ.out wr (HK10.out.trans hKp);clear hKp;obtain⟨sm,hsm⟩:∃sm,(if p'=0 then 0 else foldV op a.kind G (p'-1))=sm:=⟨_,rfl⟩;have HSM:=hid hsm;rw[hsm];clear hsm;by_cases hpc:p'<cn
     ·have p1:(p':Int)<(cn:Int):=by omega
      have HR1:Hid (RdI wr (.slice (some ⟨ib,0,none⟩) b (m-1)) (il.take b)):=hid (ry_front HILL.out (HIC.out wr HKp.out) (by omega));have HTL:Hid ((il.take b).length=b):=hid (by simp;have:=HILL.out;omega);obtain⟨tb,htb⟩:∃tb,il.take b=tb:=⟨_,rfl⟩;rw[htb]at HTL HR1;have HTB:=hid htb;have HN1:Hid (0+tb.length≤1000000000000):=hid (by rw[HTL.out];omega);have b3:(b:Int)≤((m-1:Nat):Int):=by omega
      clear htb
      go_wp2_with (at_builtin;refine wpList_app (by rfl) _ _ (by rfl) none 0 0 [] tb _ (by rfl) (by rfl) (OwI.nil _) HR1.out HN1.out wr.heap.size (by rfl) ?_)
      intro aN cN w11 hO11 hG11 hB11;simp only[HTL.out]at hO11 hB11⊢;have HK11:Hid (Kp0 w10 w11):=hid (HKp.out.trans ((Kp.refl _ wr).grown hG11 (by simp[Value.ownBlock])));have HO11:=hid hO11;have HB11:Hid (∀b',(Value.slice aN b cN).ownBlock=some b'→w10.heap.size≤b'):=hid (fun b' hb'=>by
       rcases hB11 b' hb' with h|h
       ·simp[Value.ownBlock]at h
       ·have:=HKp.out.size;omega)
      have HN2:Hid (b+[(p':Int)].length≤1000000000000):=hid (by simp;omega);clear hO11 hG11 hB11 HR1 HN1 s3 s1
      go_wp2_with (at_builtin;refine wpList_app (by rfl) _ _ (by rfl) aN b cN tb [(p':Int)] _ (by rfl) (by rfl) (HO11.out.alloc _) (RdI.one _ _) HN2.out (w11.heap.size+1) (by simp) ?_)
      intro aM cM w12 hO12 hG12 hB12;have HK12:Hid (Kp0 w10 w12):=hid (Kp.grown (Kp.alloc HK11.out _) hG12 (fun b' hb' hlt=>by have:=HB11.out b' hb';omega));have HO12:Hid (OwI w12 (.slice aM (b+1) cM) (tb++[(p':Int)])):=hid hO12;have HB12:Hid (∀b',(Value.slice aM (b+1) cM).ownBlock=some b'→w10.heap.size≤b'):=hid (fun b' hb'=>by
       rcases hB12 b' hb' with h|h
       ·exact HB11.out b' h
       ·have:=HK11.out.size;omega)
      clear hO12 hG12 hB12 HN2 HO11 HB11 HK11
      go_upto_region 24 with(fail)
      go_cut [18]from 75 to 119 (fun s18 W=>∃ao c,s18=.slice ao m c∧OwI W (.slice ao m c) (foldL il b p')∧Kp0 w10 W)
      case first=>
       have HN3:Hid (b+1+(il.drop b).length≤1000000000000):=hid (by simp;have:=HILL.out;omega);have HTD:Hid (b+1+(il.drop b).length=m):=hid (by simp;have:=HILL.out;omega);have HFS:Hid (tb++(p':Int)::il.drop b=foldL il b p'):=hid (by rw[←HTB.out];simp[foldL]);have HR9:Hid (∀j,j<m-1→w12.cell? ⟨ib,j,none⟩=some (.int .i64 (nth il j))):=hid (HIC.out w12 HK12.out);obtain⟨td,htd⟩:∃td,il.drop b=td:=⟨_,rfl⟩;have HR2:Hid (∀c,RdI w12 (.slice (some ⟨ib,b,none⟩) (m-1-b) c) td):=hid (fun c=>by rw[←htd];exact ry_back HILL.out HR9.out (by omega));have HR3:Hid (m-1≤b→∀a c,RdI w12 (.slice a 0 c) td):=hid (fun h a c=>by rw[←htd];exact ry_none HILL.out h);rw[htd]at HN3 HTD HFS;clear htd;by_cases hsd:m-1=b
       ·have HR4:Hid (∀a c,RdI w12 (.slice a 0 c) td):=hid (HR3.out (by omega))
        have hmb:m=b+1:=by omega
        clear HR2 HR3 hsd;subst hmb
        go_wp2_with (at_builtin;refine wpList_app (by rfl) _ _ (by rfl) aM (b+1) cM (tb++[(p':Int)]) td _ (by rfl) (by rfl) HO12.out (HR4.out _ _) HN3.out w12.heap.size (by rfl) ?_)
        intro ao' c' w' hC hG hB;rw[HFS.out]at hC;simp only[HTD.out]at hC⊢;have HC':=hid hC;have HK':Hid (Kp0 w10 w'):=hid (Kp.grown HK12.out hG (fun b' hb' hlt=>by have:=HB12.out b' hb';omega));clear hC hG hB
        go_wp2_with fail
        go_meet
        case rel=>exact⟨_,_,rfl,HC'.out,HK'.out⟩
       ·have c1':(b:Int)≤((m-1:Nat):Int):=by omega
        have c3':¬((m-1:Nat):Int)=(b:Int):=by omega
        go_wp2_with (at_builtin;refine wpList_app (by rfl) _ _ (by rfl) aM (b+1) cM (tb++[(p':Int)]) td _ (by rfl) (by rfl) HO12.out (HR2.out _) HN3.out w12.heap.size (by rfl) ?_)
        intro ao' c' w' hC hG hB;rw[HFS.out]at hC;simp only[HTD.out]at hC⊢;have HC':=hid hC;have HK':Hid (Kp0 w10 w'):=hid (Kp.grown HK12.out hG (fun b' hb' hlt=>by have:=HB12.out b' hb';omega));clear hC hG hB
        go_wp2_with fail
        go_meet
        case rel=>exact⟨_,_,rfl,HC'.out,HK'.out⟩
      case rest=>
       obtain⟨aO,cO,rfl,hOO,hKO⟩:=hcut;have HOO:=hid hOO;have HKO:Hid (Kp0 wF wc):=hid (HK10.out.trans hKO);have HKOw:=hid hKO;clear hOO hKO HO12 HB12 HK12 HTL HTB;have HIF:=hid (foldL_in (i:=il) HBM.out (x:=(p':Int)) (by rw[HCN.out];omega) HIN.out);obtain⟨j,hj,hjl⟩:∃j:Nat,rank a.shape (foldL il b p')=(j:Int)∧j<M:=by
        have hbd:=rank_bd a.shape _ HSH.out.2.1 (fun j hj=>HIF.out.2 j hj) a.shape.length (Nat.le_refl _);rw[List.take_length]at hbd;have hrv:=HMVL.out;refine⟨(rank a.shape (foldL il b p')).toNat,?_,?_⟩<;>rw[rank_in HIF.out]<;>omega
       have HJ:=hid hj;have HGP:Hid (G p'=nth vals j):=hid (by rw[HG.out];simp only;rw[hj,Int.toNat_natCast]);obtain⟨y0,y1,-,yr⟩:=HZ.out wc HKO.out;have HYR2:=hid yr;clear hj yr
       go_wp2_with fail
       refine(rank_calls _ _ a.shape (foldL il b p') wc HYR2.out HOO.out.rd HSH.out.2.1 HSH.out.1).mono ?_;rintro e' w13 ⟨rfl,hk13⟩;rw[HJ.out];have x5:=(HKO.out.trans hk13).cell (HCV.out j hjl);rw[←HGP.out]at x5;have y0':=hk13.cell y0;have HK13:=hid (HKOw.out.trans hk13);have j0:(0:Int)≤(j:Int):=by omega
       have j1:(j:Int)<(M:Int):=by omega
       clear hk13 y0 y1 HOO HKO HKOw HYR2;by_cases hp0:p'=0
       ·have bz:((p':Int)==0)=true:=by simp[hp0]
        have HV:Hid (G p'=if p'+1=0 then 0 else foldV op a.kind G (p'+1-1)):=hid (by rw[if_neg (by omega),hp0];rfl);clear hp0;go_wp2
        go_roundw
        case rel=>exact⟨p'+1,by omega,by go_num,by rw[←HV.out],HK13.out⟩
        case measure=>simp[intOf];omega
       ·have bz:((p':Int)==0)=false:=by simp[hp0]
        have HV:Hid (opK op a.kind sm (G p')=if p'+1=0 then 0 else foldV op a.kind G (p'+1-1)):=hid (by rw[if_neg (by omega),←HSM.out,if_neg hp0,show p'+1-1=p'-1+1 by omega,foldV,show p'-1+1=p' by omega]);clear hp0
        go_wp2_with fail
        refine(yop_calls op a.kind sm (G p') w13 HKD.out HOP.out.1 HOP.out.2).mono ?_;rintro e' w' ⟨rfl,hw⟩;obtain rfl:=hw.symm;go_wp2
        go_roundw
        case rel=>exact⟨p'+1,by omega,by go_num,by rw[←HV.out],HK13.out⟩
        case measure=>simp[intOf];omega
     ·have p1:¬(p':Int)<(cn:Int):=by omega
      have hsx:sm=nth FV r:=by rw[←HSM.out,HSUM.out,if_neg (by omega),show p'=cn by omega]
      have HSX:=hid hsx;have HTE:Hid (FV.take (r+1)=FV.take r++[sm]):=hid (by rw[take_snoc _ r (by rw[HFN.out.1];exact hr),hsx]);have HOR:=hid (HOL10.out.kp HKp.out (fun _ _ e=>e));have HKR:=hid (HK10.out.trans HKp.out);have HN5:Hid (r+[sm].length≤1000000000000):=hid (by simp;omega);clear hsx hpc
      go_wp2_with (at_builtin;refine wpList_app (by rfl) _ _ (by rfl) aL r cL (FV.take r) [sm] _ (by rfl) (by rfl) (HOR.out.alloc _) (RdI.one _ _) HN5.out (wr.heap.size+1) (by simp) ?_)
      intro aL' cL' w14 hO14 hG14 hB14;have HO14:Hid (OwI w14 (.slice aL' (r+1) cL') (FV.take (r+1))):=hid (by rw[HTE.out];exact hO14);have HK14:Hid (Kp0 wF w14):=hid (Kp.grown (Kp.alloc HKR.out _) hG14 (fun b' hb' hlt=>by have:=HBL.out b' hb';omega));have HB14:Hid (∀b',(Value.slice aL' (r+1) cL').ownBlock=some b'→wF.heap.size≤b'):=hid (fun b' hb'=>by
       rcases hB14 b' hb' with h|h
       ·exact HBL.out b' h
       ·have:=HKR.out.size;omega)
      clear hO14 hG14 hB14 s1 s3;go_wp2
      go_roundw
      case rel=>exact⟨r+1,by omega,by go_num,aL',cL',rfl,HO14.out,HK14.out,HB14.out⟩
      case measure=>simp[intOf];omega
   ·obtain rfl:r=mm:=by omega
    have r1:¬(r:Int)<(r:Int):=by omega
    have HOV:Hid (OwI wr (.slice aL r cL) FV):=hid (by have:=HOL.out;rw[List.take_of_length_le (by rw[HFN.out.1];exact Nat.le_refl _)]at this;exact this);have HKW:=hid (HKF.out.trans HKr.out);obtain⟨y0,-,-,-⟩:=HZ.out wr HKr.out;have HFR:=hid (yfreshv_calls (T:=retag w T (o,6)) ((HY.out.tags (retag_to w T _)).kp0 HKW.out) HO.out a.kind HKD.out (.slice aF (m-1) cF) s' HFO.out (HOF.out.rd.kp0 HKr.out) (fun _ b' hb'=>by rw[retag_new (HBF.out b' hb')];simp[Mut]) HMB.out.1 HMB.out.2 (.slice aL r cL) FV HOV.out.rd (by rw[HFN.out.1,HMV.out];rfl) (fun b' hb'=>by rw[retag_new (by have:=HBL.out b' hb';have:=HKF.out.size;omega)];simp[Mut]));rw[HS'.out]at HF;rw[←HF.out]at HFR;clear hr hrm
    go_wp2_with fail
    refine HFR.out.mono ?_;rintro e w15 ⟨rfl,T',ht,hrep,hk⟩;have HST:Hid (YStep T o w p (σ.fold op h b).1 w15):=hid ⟨T',fun i hi=>by rw[ht i (Nat.lt_of_lt_of_le hi HKW.out.size),retag_to w T _ i hi],hrep,Kp.trans (Kp.of0 HKW.out) hk (fun i hi e=>by rw[retag_to w T _ i hi]at e;exact e)⟩;clear ht hrep hk;go_wp2
    go_ret2
    exact⟨rfl,HST.out⟩
theorem yfold_calls{T:Tags}{o:Nat}{w:World}{p:Nat}{σ:Sp}(hy:YRep T o w p σ)(op h axis:Int)(hm:σ.arrs.length+1≤100000000)(hb:σ.bufs.length+1≤100000000):Calls Tryz.prog 116 #[.pointer (some ⟨p,0,none⟩),.int .i64 op,.int .i64 h,.int .i64 axis] w fun e w'=>e=.returned (.tuple #[.int .i64 (σ.fold op h axis).2.1,.int .i64 (σ.fold op h axis).2.2])∧YStep T o w p (σ.fold op h axis).1 w':=by
 by_cases hop:op<1∨5<op∨op=2
 ·exact yfold_no hy op h axis (.inl hop)
 cases hf:σ.find h with
 |none=>exact yfold_no hy op h axis (.inr (.inl ⟨hop,hf⟩))
 |some a=>
  by_cases hax:axis<0∨(a.shape.length:Int)≤axis
  ·exact yfold_no hy op h axis (.inr (.inr ⟨hop,a,hf,hax⟩))
  ·obtain⟨b,rfl⟩:∃b:Nat,axis=(b:Int):=⟨axis.toNat,by omega⟩
   exact yfold_yes hy op h b hop a hf (by omega) hm hb
theorem views_fold{R:Tags→Nat→World→Nat→Sp→Prop}(X:XC R)(hF:FoldC R){T:Tags}{w:World}{p:Nat}{S:WS}{L:List SD}(hI:Inv R T w p S L){i:Nat}{d:SD}(hd:L[i]? =some d)(hσ:d.σx=d.σy)(oH oA oB oC oD:Int)(vL:Value)(wh:Bool)(xs:List Int)(a:Option Addr)(n c:Nat)(hL:OpL T w vL a n c xs)(hnt:S.turned.length+1≤1000000000)(hm:d.σy.arrs.length+1≤100000000)(hb:d.σy.bufs.length+1≤100000000):Calls Tryz.prog 76 #[.pointer (some ⟨p,0,none⟩),.pointer (some ⟨d.sb,0,none⟩),.agg #[.int .i64 16,.int .i64 oH,.int .i64 oA,.int .i64 oB,.int .i64 oC,.int .i64 oD,vL,.bool wh]] w fun e w'=>e=.returned (.bool true)∧Went R T w p S (L.set i {d with σx:=(d.σy.fold oA oH oB).1,σy:=(d.σy.fold oA oH oB).1}) 0 1 w':=by
 have hsd:=hI.side i d hd;have z0:w.cell? ⟨d.sb,0,none⟩=some (.pointer (some ⟨d.px,0,none⟩)):=by simp[World.cell?,hsd.blk]
 have z1:w.cell? ⟨d.sb,1,none⟩=some (.pointer (some ⟨d.py,0,none⟩)):=by simp[World.cell?,hsd.blk]
 have hsb:d.sb<w.heap.size:=lt_of_heap hsd.blk;obtain⟨rfl,hlen,hrd,htag,hbig⟩:=hL;have HRD:=hid hrd;have HTAG:=hid htag;have HLEN:=hid hlen;have HI:=hid hI;have HD:=hid hd;have HX:=hid X;have HS:=hid hσ;have HSD:=hid hsd;have HF:Hid (FoldC R):=hid hF;clear hF hI hd hσ hsd X hrd htag hlen;obtain⟨T1,hT1⟩:∃T1,retag w T (5,9)=T1:=⟨_,rfl⟩;have HT1:Hid (TagsTo w T T1):=hid (by rw[←hT1];exact retag_to w T _);have HNEW:Hid (∀b,w.heap.size≤b→T1 b=(5,9)):=hid (fun b hb=>by rw[←hT1];exact retag_new hb);clear hT1;have HLENT:Hid (∀y,Calls Tryz.prog 104 #[.slice a n c] (w.alloc y) fun e w'=>e=.returned (.slice (some ⟨w.heap.size+1,0,none⟩) (n+1) (n+1))∧w'=(w.alloc y).alloc (.cells (ints (xs++[0])).toArray 3)):=hid (fun y=>
  (lent_calls _ xs (w.alloc y) (HRD.out.kp0 (Kp.alloc (Kp.refl _ _) _)) (by have:=HLEN.out;omega)).mono (by
   rintro e w' ⟨rfl,rfl⟩;rw[HLEN.out];exact⟨by simp,rfl⟩))
 go_enter Tryz.func76,Tryz.ntmps76
 go_wp2_with fail
 refine(HLENT.out _).mono ?_;rintro e w2 ⟨rfl,hw2⟩;have HK2:Hid (Kp0 w w2):=hid (by rw[hw2];exact Kp.alloc (Kp.alloc (Kp.refl _ _) _) _);have hg2:w2.heap[w.heap.size+1]? =some (.cells (ints (xs++[0])).toArray 3 (0,0)):=by
  rw[hw2];have:=heap_alloc_new (w.alloc (.cells #[.int .i64 16,.int .i64 oH,.int .i64 oA,.int .i64 oB,.int .i64 oC,.int .i64 oD,.slice a n c,.bool wh] 87)) (.cells (ints (xs++[0])).toArray 3);simpa using this
 have hbox:w2.heap[w.heap.size]? =some (.cells #[.int .i64 16,.int .i64 oH,.int .i64 oA,.int .i64 oB,.int .i64 oC,.int .i64 oD,.slice a n c,.bool wh] 87 (0,0)):=by
  rw[hw2,Below.heap_alloc _ _ _ (by simp)];exact heap_alloc_new _ _
 have HG2:=hid hg2;have HBOX:=hid hbox;have hs2:w.heap.size+1<w2.heap.size:=lt_of_heap hg2;have b0:w2.cell? ⟨w.heap.size,0,none⟩=some (.int .i64 16):=by simp[World.cell?,hbox]
 have b1:w2.cell? ⟨w.heap.size,1,none⟩=some (.int .i64 oH):=by simp[World.cell?,hbox]
 have b2:w2.cell? ⟨w.heap.size,2,none⟩=some (.int .i64 oA):=by simp[World.cell?,hbox]
 have b3:w2.cell? ⟨w.heap.size,3,none⟩=some (.int .i64 oB):=by simp[World.cell?,hbox]
 have b6:w2.cell? ⟨w.heap.size,6,none⟩=some (.slice a n c):=by simp[World.cell?,hbox]
 have y0:=HK2.out.cell z0;have y1:=HK2.out.cell z1;have HI2:=hid (HI.out.kp0 HX.out HT1.out HK2.out);clear hw2 hg2 hbox z0 z1 HLENT
 go_wp2_with fail
 refine(hand_calls (w.heap.size+1) n c a xs w2 HLEN.out (HRD.out.kp0 HK2.out) (by omega) HG2.out).mono ?_;rintro e w2' ⟨⟨ai,ci,rfl,hin,hib⟩,hw⟩;obtain rfl:=hw.symm;have HIN:=hid hin;have HIB:Hid (∀b,(Value.slice ai n ci).ownBlock=some b→(T1 b).1≠10+2*i):=hid (fun b hb=>by
  have:=hib b hb;rw[this,HNEW.out _ (by omega)];simp;omega)
 clear hin hib;have nn:Hid (∀b,w.heap.size≤b→¬(T1 b).1=10+2*i):=hid (fun b hb=>by rw[HNEW.out b hb];simp;omega);have ct:Hid (xs≠[]→∀b,(Value.slice a n c).ownBlock=some b→b<w.heap.size∧(T1 b).1=0):=hid (fun hx b hb=>by
  have:=HTAG.out hx b hb;exact⟨this.1,by rw[HT1.out b this.1];exact this.2⟩)
 have HXC:Hid (∀W,Kp0 w2 W→Calls Tryz.prog 30 #[.pointer (some ⟨d.px,0,none⟩),.int .i64 oA,.int .i64 oH,.int .i64 oB] W fun e w3=>e=.returned (.tuple #[.int .i64 (d.σx.fold oA oH oB).2.1,.int .i64 (d.σx.fold oA oH oB).2.2])∧∃T3,TagsTo w2 T1 T3∧Inv R T3 w3 p S (L.set i {d with σx:=(d.σx.fold oA oH oB).1})∧Kp (fun b=>(T1 b).1=10+2*i) w2 w3):=hid (fun W kW=>by
  have hIW:=HI2.out.kp0 HX.out (fun _ _=>rfl) kW;refine(HF.out _ _ _ _ _ oA oH oB (hIW.side i d HD.out).x (by rw[HS.out];exact hm) (by rw[HS.out];exact hb)).mono ?_;rintro e w3 ⟨rfl,T3,ht3,hr3,hk3⟩;exact⟨rfl,T3,fun b hb=>ht3 b (Nat.lt_of_lt_of_le hb kW.size),hIW.stepX HX.out HD.out ht3 hr3 hk3,(Kp.of0 kW).trans hk3 (fun _ _ e=>e)⟩)
 have HD3:Hid ((L.set i {d with σx:=(d.σx.fold oA oH oB).1})[i]? =some {d with σx:=(d.σx.fold oA oH oB).1}):=hid (by
  rw[List.getElem?_set];have:i<L.length:=by
   have h:=HD.out;rcases Nat.lt_or_ge i L.length with h'|h'
   ·exact h'
   ·rw[List.getElem?_eq_none h']at h;cases h
  simp[this])
 go_wp2
 go_region_held3 (fun w'=>w'.cell? ⟨d.sb,0,none⟩=some (.pointer (some ⟨d.px,0,none⟩))∧w'.cell? ⟨w.heap.size,1,none⟩=some (.int .i64 oH)∧w'.cell? ⟨w.heap.size,2,none⟩=some (.int .i64 oA)∧w'.cell? ⟨w.heap.size,3,none⟩=some (.int .i64 oB)) (first|go_keep|(go_split_ands;exact⟨hk3.cell y0 (by rw[HT1.out _ hsb,HSD.out.tag];simp;omega),hk3.cell b1 (nn.out _ (Nat.le_refl _)),hk3.cell b2 (nn.out _ (Nat.le_refl _)),hk3.cell b3 (nn.out _ (Nat.le_refl _))⟩))
  ((go_at_call 30;refine(HXC.out _ ?_).mono ?_;(first|exact Kp0.refl _|exact Kp0.drew (Kp0.refl _));rintro e w3 ⟨rfl,T3,ht3,hI3,hk3⟩))
 have d0:=hk3.cell b0 (nn.out _ (Nat.le_refl _));have d1:=hk3.cell b1 (nn.out _ (Nat.le_refl _));have d2:=hk3.cell b2 (nn.out _ (Nat.le_refl _));have d3:=hk3.cell b3 (nn.out _ (Nat.le_refl _));have d6:=hk3.cell b6 (nn.out _ (Nat.le_refl _));have x1:=hk3.cell y1 (by rw[HT1.out _ hsb,HSD.out.tag];simp;omega);have HG3:=hid (hk3.heap HG2.out (nn.out _ (by omega)));have hs3:w2.heap.size≤w3.heap.size:=hk3.size;have HRD3:=hid ((HRD.out.kp0 HK2.out).kpne hk3 (fun hx b hb e=>by have:=(ct.out hx b hb).2;omega));have HI3:=hid hI3;have HT3:=hid ht3;have HK3:=hid hk3;clear ht3 hI3 hk3 b0 b1 b2 b3 b6 y0 y1 HXC;have HYC:Hid (∀W,Kp0 w3 W→Calls Tryz.prog 116 #[.pointer (some ⟨d.py,0,none⟩),.int .i64 oA,.int .i64 oH,.int .i64 oB] W fun e w4=>e=.returned (.tuple #[.int .i64 (d.σy.fold oA oH oB).2.1,.int .i64 (d.σy.fold oA oH oB).2.2])∧∃T4,TagsTo w3 T3 T4∧Inv R T4 w4 p S ((L.set i {d with σx:=(d.σx.fold oA oH oB).1}).set i {{d with σx:=(d.σx.fold oA oH oB).1}with σy:=(d.σy.fold oA oH oB).1})∧Kp (fun b=>(T3 b).1=11+2*i) w3 w4):=hid (fun W kW=>by
  have hIW:=HI3.out.kp0 HX.out (fun _ _=>rfl) kW;refine(yfold_calls (hIW.side i _ HD3.out).y oA oH oB hm hb).mono ?_;rintro e w4 ⟨rfl,hst4⟩;obtain⟨T4,ht4,hr4,hk4⟩:=hst4.step;exact⟨rfl,T4,fun b hb=>ht4 b (Nat.lt_of_lt_of_le hb kW.size),hIW.stepY HX.out HD3.out ht4 hr4 hk4,(Kp.of0 kW).trans hk4 (fun _ _ e=>e)⟩)
 have nn4:Hid (∀b,w.heap.size≤b→b<w2.heap.size→¬(T3 b).1=11+2*i):=hid (fun b hb hb2=>by rw[HT3.out b hb2,HNEW.out b hb];simp;omega);go_wp2
 go_region_held3 (fun w'=>w'.cell? ⟨d.sb,1,none⟩=some (.pointer (some ⟨d.py,0,none⟩))∧w'.cell? ⟨w.heap.size,1,none⟩=some (.int .i64 oH)∧w'.cell? ⟨w.heap.size,2,none⟩=some (.int .i64 oA)∧w'.cell? ⟨w.heap.size,3,none⟩=some (.int .i64 oB)) (first|go_keep|(go_split_ands;exact⟨hk4.cell x1 (by rw[HT3.out _ (by simp;omega),HT1.out _ hsb,HSD.out.tag];simp;omega),hk4.cell d1 (nn4.out _ (Nat.le_refl _) (by simp;omega)),hk4.cell d2 (nn4.out _ (Nat.le_refl _) (by simp;omega)),hk4.cell d3 (nn4.out _ (Nat.le_refl _) (by simp;omega))⟩))
  ((go_at_call 116;refine(HYC.out _ ?_).mono ?_;(first|exact Kp0.refl _|exact Kp0.drew (Kp0.refl _));rintro e w4 ⟨rfl,T4,ht4,hI4,hk4⟩))
 have d0':=hk4.cell d0 (nn4.out _ (Nat.le_refl _) (by simp;omega));have d6':=hk4.cell d6 (nn4.out _ (Nat.le_refl _) (by simp;omega));have HG4:=hid (hk4.heap HG3.out (nn4.out _ (by omega) hs2));have hs4:w3.heap.size≤w4.heap.size:=hk4.size;have HRD4:=hid (HRD3.out.kpne hk4 (fun hx b hb e=>by
  have:=ct.out hx b hb;rw[HT3.out b (by omega)]at e;omega))
 have HI4:=hid hI4;have HT4:=hid ht4;have HK4:=hid hk4;have HCT:=hid ct.out;clear ht4 hI4 hk4 d0 d1 d2 d3 d6 HYC;have HT41:Hid (∀b,b<w2.heap.size→T4 b=T1 b):=hid (fun b hb=>by rw[HT4.out b (by omega),HT3.out b hb])
 go_wp2_with fail
 refine(returned_calls HI4.out.wat (w.heap.size+1) n _ xs HLEN.out (by omega) HRD4.out HG4.out (by rw[HT41.out _ hs2];exact HNEW.out _ (by omega)) (fun hx b hb=>by
   have:=HCT.out hx b hb;rw[HT41.out b (by omega)];omega) hnt (fun j v hv e=>by have:=HI.out.wat.lt hv e;omega) (fun j v hv e=>by have:=HI.out.wat.ltt hv e;omega)).mono ?_
 rintro e w5 ⟨rfl,T5,vt,ht5,hw5,hk5⟩;have HI5:=hid (HI4.out.stepW HX.out ht5 hw5 rfl hk5);have HT5:=hid ht5;have HK5:=hid hk5;clear ht5 hw5 hk5;have q1:((d.σx.fold oA oH oB).2.1==(d.σy.fold oA oH oB).2.1)=true:=by rw[HS.out];simp
 have q2:((d.σx.fold oA oH oB).2.2==(d.σy.fold oA oH oB).2.2)=true:=by rw[HS.out];simp
 go_wp2
 go_ret;have hLL:(L.set i {d with σx:=(d.σx.fold oA oH oB).1}).set i {{d with σx:=(d.σx.fold oA oH oB).1}with σy:=(d.σy.fold oA oH oB).1}=L.set i {d with σx:=(d.σy.fold oA oH oB).1,σy:=(d.σy.fold oA oH oB).1}:=by first|rw[List.set_set,HS.out]|(rw[List.set_set];show L.set i ⟨d.sb,d.px,d.py,d.σx,d.σy⟩=_;rw[HS.out])
 have hI5:=HI5.out;rw[hLL]at hI5;have s2:=HK2.out.size;refine⟨ret_bool (by simp),T5,_,fun b hb=>by rw[HT5.out b (by omega),HT41.out b (by omega),HT1.out b hb],hI5,Nat.le_refl _,by simp[WS.turn],by simp[WS.turn],?_⟩;have k3:Kp (fun b=>5≤(T b).1) w w3:=(Kp.of0 HK2.out).trans HK3.out (fun b hb e=>by rw[HT1.out b hb]at e;omega);have k4:Kp (fun b=>5≤(T b).1) w w4:=k3.trans HK4.out (fun b hb e=>by rw[HT3.out b (by omega),HT1.out b hb]at e;omega);exact k4.trans HK5.out (fun b hb e=>by rw[HT41.out b (by omega),HT1.out b hb]at e;omega)
end Go.Proofs.YticbbncdcannlaaGreat
