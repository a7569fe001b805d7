import Derived.Test.YticbbncdcannlaaGreatG43
import Derived.Deep.RegionLaw
import Derived.BigRegion
set_option maxRecDepth 100000
set_option maxHeartbeats 8000000
namespace Go.Proofs.YticbbncdcannlaaGreat
open Go.RowKit Go.Maps Go.ChangeMaps Go.MapKept
theorem Tryz.mCombineB(a:Addr)(x y z:Value)(w:World):(callMethod (.iface 126 (.pointer (some a))) "Combine" #[x,y,z]).run Tryz.prog w=.ok (.enter 192 #[.pointer (some a),x,y,z]) w:=by kernel_rfl
theorem Tryz.nCombineB(a:Addr)(w:World):(nilAhead 367 126 (.pointer (some a)) "Combine").run Tryz.prog w=.ok (some false) w:=by kernel_rfl
theorem xWorkOkB(p q:Nat)(op to x y:Int)(w:World)(m0:Nat)(V0:List Int)(m1:Nat)(V1 VC:List Int)(mP:Nat)(P:List Int)(h1:1≤op)(h2:op≤5){Q:World→Prop}(HT:Hid (∀W vh,Kp0 w W→RdI W vh [x,y]→Calls Tryz.prog 99 #[.pointer (some ⟨p,0,none⟩),.int .i64 to,vh] W fun e w'=>∃aP cP g a0 c0 a1 c1,e=.returned (.tuple #[.slice aP mP cP,.iface 126 (.pointer (some ⟨q,0,none⟩)),.slice (some ⟨g,0,none⟩) 2 2,.int .i64 0])∧(Kp0 W w'∧w'.heap[g]? =some (.cells #[.slice a0 m0 c0,.slice a1 m1 c1] 26 (0,0))∧W.heap.size≤g∧Fr W.heap.size w' (.slice aP mP cP) P∧Fr W.heap.size w' (.slice a0 m0 c0) V0∧Fr W.heap.size w' (.slice a1 m1 c1) V1)))(HC:Hid (∀W v0 v1 vp,Kp0 w W→Fr w.heap.size W v0 V0→Fr w.heap.size W v1 V1→Fr w.heap.size W vp P→Calls Tryz.prog 192 #[.pointer (some ⟨q,0,none⟩),.int .i64 op,v0,v1] W fun e w'=>∃v,e=.returned v∧(Kp0 w w'∧Fr w.heap.size w' v VC∧Fr w.heap.size w' vp P)))(HW:Hid (∀W vp vv,Kp0 w W→Fr w.heap.size W vp P→Fr w.heap.size W vv VC→Calls Tryz.prog 198 #[.pointer (some ⟨q,0,none⟩),vp,vv] W fun e w'=>∃u,e=.returned u∧Q w')):Calls Tryz.prog 67 #[.pointer (some ⟨p,0,none⟩),.int .i64 op,.int .i64 to,.int .i64 x,.int .i64 y] w fun e w'=>e=.returned (.int .i64 0)∧Q w':=by
 have HK1:Hid (Kp0 w (w.alloc (.cells #[.int .i64 x,.int .i64 y] 3))):=(Kp.refl _ w).alloc _;have HR1:Hid (RdI (w.alloc (.cells #[.int .i64 x,.int .i64 y] 3)) (.slice (some ⟨w.heap.size,0,none⟩) 2 2) [x,y]):=rd_of_blk (heap_alloc_new w _) rfl;have HO:=hid (xIsOp_yes op w h1 h2);clear h1 h2;go_enter Tryz.func67,Tryz.ntmps67
 go_wp2_with fail
 refine HO.out.mono ?_;rintro e w1 ⟨rfl,hw⟩;obtain rfl:=hw.symm;clear hw HO
 go_wp2_with fail
 refine(HT.out _ _ HK1.out HR1.out).mono ?_;rintro e w2 ⟨aP,cP,g,a0,c0,a1,c1,rfl,hk,hb,hg,hP,hV,hV1⟩;have HK2:Hid (Kp0 w w2):=Kp0.trans HK1.out hk;have HFP:Hid (Fr w.heap.size w2 (.slice aP mP cP) P):=hP.le (by simp);have HFV:Hid (Fr w.heap.size w2 (.slice a0 m0 c0) V0):=hV.le (by simp);have HFV1:Hid (Fr w.heap.size w2 (.slice a1 m1 c1) V1):=hV1.le (by simp);have y0:w2.cell? ⟨g,0,none⟩=some (.slice a0 m0 c0):=cell_of_row _ g 0 _ _ _ hb;have y1:w2.cell? ⟨g,1,none⟩=some (.slice a1 m1 c1):=cell_of_row _ g 1 _ _ _ hb;have HMR:=hid (Tryz.mWriteB ⟨q,0,none⟩);have HMC:=hid (Tryz.mCombineB ⟨q,0,none⟩);have hna:=Tryz.nWriteB ⟨q,0,none⟩;have hnc:=Tryz.nCombineB ⟨q,0,none⟩;clear hk hb hg hP hV hV1 HK1 HR1 HT;go_wp2
 have HKD:Hid (Kp0 w w2.drew):=HK2.out.drew;have HFPD:Hid (Fr w.heap.size w2.drew (.slice aP mP cP) P):=HFP.out.kp0 (Kp0.refl w2).drew;have HFVD:Hid (Fr w.heap.size w2.drew (.slice a0 m0 c0) V0):=HFV.out.kp0 (Kp0.refl w2).drew;have HFVE:Hid (Fr w.heap.size w2.drew (.slice a1 m1 c1) V1):=HFV1.out.kp0 (Kp0.refl w2).drew
 go_region_law ((first
  |(refine step_invoke3 (by rfl) (.tmp 44) "Combine" (.tmp 35) (.tmp 38) (.tmp 41) _ (by rfl) _ (.int .i64 op) (.slice a0 m0 c0) (.slice a1 m1 c1) (by rfl) (by rfl) (by rfl) (by rfl) _ _ (HMC.out _ _ _ _) (HC.out _ _ _ _ HKD.out HFVD.out HFVE.out HFPD.out) ?_;intro v7 w7 hR7;obtain⟨hK7,hC7,hP7⟩:=hR7)
  |(refine step_invoke2 (by rfl) (.tmp 48) "Write" (.tmp 33) (.tmp 45) _ (by rfl) _ (.slice aP mP cP) v7 (by rfl) (by rfl) (by rfl) _ _ (HMR.out _ _ _) (HW.out _ _ _ hK7 hP7 hC7) ?_;intro v8 w8 hR8)))
 all_goals
  have HR8:=hid hR8;clear hR8 hK7 hC7 hP7;go_wp2
  go_ret;exact⟨rfl,HR8.out⟩
theorem xmakeOfOkI(p q:Nat)(kind hn:Int)(s:List Int)(vv:Value)(w:World)(mc:Nat)(P:List Int){R Q:World→Prop}(HW:Hid (∀W,Kp0 w W→Calls Tryz.prog 63 #[.pointer (some ⟨p,0,none⟩),.int .i64 kind,.iface 127 (.pointer (some ⟨q,0,none⟩)),.agg (shC s).toArray] W fun e w'=>e=.returned (.tuple #[.int .i64 hn,.int .i64 0])∧R w'))(HL:Hid (∀w',R w'→∃(x:XA) (bm:Nat) (c0 c1 c3:Value),w'.heap[p]? =some (.cells #[c0,c1,.map (some bm),c3] 130 (0,0))∧(Instr.lookup 128 (.map (some bm)) (.int .i64 hn) false).run Tryz.prog w'.drew=.ok (.agg x.cs) w'.drew∧∀W,Calls Tryz.prog 60 #[.agg (grC x.l x.t x.f).toArray] W fun e w'=>∃ao c,e=.returned (.slice ao mc c)∧Kp0 W w'∧Fr W.heap.size w' (.slice ao mc c) P))(HX:Hid (∀w' W vp,R w'→Kp0 w' W→Fr w'.heap.size W vp P→Calls Tryz.prog 218 #[.pointer (some ⟨q,0,none⟩),vp,vv] W fun e w2=>∃u,e=.returned u∧Q w2)):Calls Tryz.prog 59 #[.pointer (some ⟨p,0,none⟩),.int .i64 kind,.iface 127 (.pointer (some ⟨q,0,none⟩)),.agg (shC s).toArray,vv] w fun e w'=>e=.returned (.tuple #[.int .i64 hn,.int .i64 0])∧Q w':=by
 unfold shC at HW⊢;generalize s.length=m at*;have HMR:=hid (Tryz.mWriteI ⟨q,0,none⟩);have hna:=Tryz.nWriteI ⟨q,0,none⟩;go_enter Tryz.func59,Tryz.ntmps59
 go_wp2_with fail
 refine(HW.out _ ((Kp.refl _ w).alloc _)).mono ?_;rintro e w2 ⟨rfl,hR⟩;have HR:=hid hR;obtain⟨x,bm,c0,c1,c3,hb,hlk,hC⟩:=HL.out w2 hR;have HC2:Hid (∀W,Calls Tryz.prog 60 #[.agg (grC x.l x.t x.f).toArray] W fun e w'=>∃v,e=.returned v∧∃ao c,v=.slice ao mc c∧Kp0 W w'∧Fr W.heap.size w' (.slice ao mc c) P):=hid (fun W=>(hC W).mono (fun e w' ⟨ao,c,h1,h2,h3⟩=>⟨_,h1,ao,c,rfl,h2,h3⟩));unfold XA.cs at hlk;unfold grC at HC2;clear hC;generalize x.l.length=n at*;have y2:w2.cell? ⟨p,2,none⟩=some (.map (some bm)):=cell_of_row _ p 2 _ _ _ hb;have hfd:=Tryz.fieldGrid (.int .i64 x.kind) (.int .i64 x.buf) (.int .i64 (nth x.l 0)) (.int .i64 (nth x.l 1)) (.int .i64 (nth x.l 2)) (.int .i64 (nth x.l 3)) (.int .i64 (n:Int)) (.int .i64 x.f) (.int .i64 (nth x.t 0)) (.int .i64 (nth x.t 1)) (.int .i64 (nth x.t 2)) (.int .i64 (nth x.t 3)) (.bool x.ro);clear hR hb HL HW;go_wp2
 go_region_law ((first
  |(refine step_call1 (by rfl) 60 (.tmp 32) _ (by rfl) _ Tryz.func60 (by kernel_rfl) (by kernel_rfl) _ (by rfl) (HC2.out _) ?_;intro v7 w7 hR7;obtain⟨ao,c7,rfl,hk7,hf7⟩:=hR7)
  |(refine step_invoke2 (by rfl) (.tmp 37) "Write" (.tmp 33) (.tmp 34) _ (by rfl) _ (.slice ao mc c7) vv (by rfl) (by rfl) (by rfl) _ _ (HMR.out _ _ _) (HX.out _ _ _ HR.out (Kp0.trans (Kp0.refl w2).drew hk7) hf7) ?_;intro v8 w8 hR8)))
 all_goals
  have HR8:=hid hR8;clear hR8 hk7 hf7;go_wp2
  go_ret2
  exact⟨rfl,HR8.out⟩
end Go.Proofs.YticbbncdcannlaaGreat
namespace Go.Proofs.YticbbncdcannlaaGreat
open Go.RowKit
theorem xc_writeB2{T:Tags}{o:Nat}{w:World}{p:Nat}{σ:Sp}{L:XL}{X:XS}(hok:σ.ok)(hX:XAt T o w p L X)(hT:Tie X (Maps.size L.D) σ){h:Int}{a:Arr}{x:XA}(hf:σ.find h=some a)(hx:ATie σ a x)(hk:a.kind=1)(V:List Int)(hl:V.length=a.cells.length)(hV:∀j,IntKind.i64.wrap (nth V j)=nth V j)(W:World)(vp vv:Value)(k:Kp0 w W)(hp:Fr w.heap.size W vp a.cells)(hv:RdI W vv V)(hne:vv.ownBlock≠some L.g1):Calls Tryz.prog 198 #[.pointer (some ⟨L.q1,0,none⟩),vp,vv] W fun e w'=>∃u,e=.returned u∧Step XRep T o w p (σ.writes 1 a.cells (fun i=>asK 1 (nth V i)) a.cells.length) w':=by
 have ha:=kind_of hok hf;have hlt:L.g1<w.heap.size:=lt_of_heap hX.s1.cells;have hP:∀j,j<a.cells.length→0≤nth a.cells j∧nth a.cells j<σ.cap 1∧σ.taken 1 (nth a.cells j)=true:=fun j hj=>by
  have h1:=ha.inside j hj;have h2:=hx.taken hf j hj;rw[hk]at h1 h2;exact⟨h1.1,h1.2,h2⟩
 have h36:a.cells.length≤1000000:=by have:=ha.length;have:=ha.shape.2.2;omega
 refine(xWriteB_calls (hX.kp0 k).s1 a.cells V vp vv hp.1 (fun _ e=>by have:=hp.2 _ e;omega) hv (fun _ e=>hne e) hl (fun j _=>hV j) (fun j hj=>by rw[hT.k1.len];exact⟨(hP j hj).1,(hP j hj).2.1⟩) h36).mono ?_;rintro e w' ⟨rfl,hk',hb⟩;have hX':=(hX.kp0 k).putB hk' hb (wrTo_length _ _ _ _);have hw1:(fun j=>IntKind.wrap .u8 (nth V j))=fun j=>asK 1 (nth V j):=by funext j;rw[wrap_u8];simp[asK]
 rw[hw1]at hX';have hn:=(hT.writesFB hok a.cells hP (fun j=>asK 1 (nth V j)) (fun j _=>by simp only[asK,if_true];omega) a.cells.length (Nat.le_refl _)).1;exact⟨_,rfl,T,fun _ _=>rfl,⟨writes_ok hok _ _ _ _,L,_,hX',hn⟩,(Kp.of0 k).trans hk' (fun b _ e=>by rw[e,hX.tg1])⟩
theorem xc_writeI2{T:Tags}{o:Nat}{w:World}{p:Nat}{σ:Sp}{L:XL}{X:XS}(hok:σ.ok)(hX:XAt T o w p L X)(hT:Tie X (Maps.size L.D) σ){h:Int}{a:Arr}{x:XA}(hf:σ.find h=some a)(hx:ATie σ a x)(hk:a.kind=2)(V:List Int)(hl:V.length=a.cells.length)(hV:∀j,IntKind.i64.wrap (nth V j)=nth V j)(W:World)(vp vv:Value)(k:Kp0 w W)(hp:Fr w.heap.size W vp a.cells)(hv:RdI W vv V)(hne:vv.ownBlock≠some L.g2):Calls Tryz.prog 218 #[.pointer (some ⟨L.q2,0,none⟩),vp,vv] W fun e w'=>∃u,e=.returned u∧Step XRep T o w p (σ.writes 2 a.cells (fun i=>asK 2 (nth V i)) a.cells.length) w':=by
 have ha:=kind_of hok hf;have hlt:L.g2<w.heap.size:=lt_of_heap hX.s2.cells;have hP:∀j,j<a.cells.length→0≤nth a.cells j∧nth a.cells j<σ.cap 2∧σ.taken 2 (nth a.cells j)=true:=fun j hj=>by
  have h1:=ha.inside j hj;have h2:=hx.taken hf j hj;rw[hk]at h1 h2;exact⟨h1.1,h1.2,h2⟩
 have h36:a.cells.length≤1000000:=by have:=ha.length;have:=ha.shape.2.2;omega
 refine(xWriteI_calls (hX.kp0 k).s2 a.cells V vp vv hp.1 (fun _ e=>by have:=hp.2 _ e;omega) hv (fun _ e=>hne e) hl (fun j _=>hV j) (fun j hj=>by rw[hT.k2.len];exact⟨(hP j hj).1,(hP j hj).2.1⟩) h36).mono ?_;rintro e w' ⟨rfl,hk',hb⟩;have hX':=(hX.kp0 k).putI hk' hb (wrTo_length _ _ _ _);have hw1:(fun j=>IntKind.wrap .i64 (nth V j))=fun j=>asK 2 (nth V j):=by funext j;rw[hV];simp[asK]
 rw[hw1]at hX';have hn:=(hT.writesFI hok a.cells hP (fun j=>asK 2 (nth V j)) (fun j _=>by simp only[asK];exact hV j) a.cells.length (Nat.le_refl _)).1;exact⟨_,rfl,T,fun _ _=>rfl,⟨writes_ok hok _ _ _ _,L,_,hX',hn⟩,(Kp.of0 k).trans hk' (fun b _ e=>by rw[e,hX.tg2])⟩
theorem xc_makeOfB{T:Tags}{o:Nat}{w:World}{p:Nat}{σ:Sp}{L:XL}{X:XS}(s:List Int)(hok:σ.ok)(hX:XAt T o w p L X)(hT:Tie X (Maps.size L.D) σ)(hs:shapeB s=true)(hm:σ.arrs.length+1≤100000000)(hb:σ.bufs.length+1≤100000000)(V:List Int)(hVl:V.length=(vol s).toNat)(hV:∀j,IntKind.i64.wrap (nth V j)=nth V j)(vv:Value)(hv:RdI w vv V)(hvo:∀b,vv.ownBlock=some b→(T b).1≠o∧b<w.heap.size):Calls Tryz.prog 59 #[.pointer (some ⟨p,0,none⟩),.int .i64 1,.iface 126 (.pointer (some ⟨L.q1,0,none⟩)),.agg (shC s).toArray,vv] w fun e w'=>∃a b,e=.returned (.tuple #[.int .i64 a,.int .i64 b])∧((a=(σ.fresh 1 s fun i=>asK 1 (nth V i)).2.1∧b=(σ.fresh 1 s fun i=>asK 1 (nth V i)).2.2)∧Step XRep T o w p (σ.fresh 1 s fun i=>asK 1 (nth V i)).1 w'):=by
 have hW:=xc_whole 1 s hok hX hT (by omega) hs hm hb;have hsh:=(shapeB_iff s).1 hs;rw[inVB]at hW;have toStep:∀{σ' w'},StepQ T o w p L σ' w'→Step XRep T o w p σ' w':=fun⟨T',L',X',h1,h2,h3,h4,h5,_⟩=>⟨T',h1,⟨h2,L',X',h3,h4⟩,h5⟩
 by_cases hl:40≤σ.live
 ·have h1:σ.make 1 s=(σ,0,7):=make_many (by omega) hs hl
  have h2:(σ.fresh 1 s fun i=>asK 1 (nth V i))=(σ,0,7):=by unfold Sp.fresh;rw[if_pos hl]
  rw[h1]at hW;rw[h2];refine(xmakeOf_no p 1 _ s vv w 7 (by omega) (hid (fun W k=>(hW W k).mono (fun e w' ⟨h1,h2⟩=>⟨_,h1,h2⟩)))).mono ?_;rintro e w' ⟨rfl,hq⟩;exact⟨_,_,rfl,⟨rfl,rfl⟩,toStep hq⟩
 ·by_cases hp:σ.place 1 (vol s).toNat<0
  ·have h1:σ.make 1 s=(σ,0,8):=by unfold Sp.make;rw[if_neg (by omega),if_neg (by simp[hs]),if_neg hl,if_pos hp]
   have h2:(σ.fresh 1 s fun i=>asK 1 (nth V i))=(σ,0,8):=by unfold Sp.fresh;rw[if_neg hl,if_pos hp]
   rw[h1]at hW;rw[h2];refine(xmakeOf_no p 1 _ s vv w 8 (by omega) (hid (fun W k=>(hW W k).mono (fun e w' ⟨h1,h2⟩=>⟨_,h1,h2⟩)))).mono ?_;rintro e w' ⟨rfl,hq⟩;exact⟨_,_,rfl,⟨rfl,rfl⟩,toStep hq⟩
  ·obtain⟨a,ha⟩:∃a,σ.place 1 (vol s).toNat=a:=⟨_,rfl⟩
   rw[ha]at hp;have h1:σ.make 1 s=(σ.made 1 a s (vol s).toNat fun _=>0,(σ.arrs.length:Int)+1,0):=by unfold Sp.make;rw[if_neg (by omega),if_neg (by simp[hs]),if_neg hl,ha,if_neg hp]
   have h2:(σ.fresh 1 s fun i=>asK 1 (nth V i))=(σ.made 1 a s (vol s).toNat fun i=>asK 1 (nth V i),(σ.arrs.length:Int)+1,0):=by unfold Sp.fresh;rw[if_neg hl,ha,if_neg hp]
   rw[h1]at hW;rw[h2];have hfd:(σ.made 1 a s (vol s).toNat fun _=>0).find ((σ.arrs.length:Int)+1)=some ⟨1,s,rng a (vol s).toNat,false,σ.bufs.length⟩:=by
    unfold Sp.find;rw[if_pos (by omega)];have:(σ.made 1 a s (vol s).toNat fun _=>0).arrs=σ.arrs++[some ⟨1,s,rng a (vol s).toNat,false,σ.bufs.length⟩]:=by
     show((σ.more ⟨1,a,(vol s).toNat⟩).puts 1 a (fun _=>0) (vol s).toNat).arrs++_=_;rw[(puts_arrs _ _ _ _ _).1];rfl
    rw[this,show ix ((σ.arrs.length:Int)+1)=σ.arrs.length by unfold ix;omega];simp[List.getD]
   refine(xmakeOfOkB p L.q1 1 ((σ.arrs.length:Int)+1) s vv w (vol s).toNat (rng a (vol s).toNat) (R:=StepQ T o w p L (σ.made 1 a s (vol s).toNat fun _=>0)) (Q:=Step XRep T o w p (σ.made 1 a s (vol s).toNat fun i=>asK 1 (nth V i))) (hid hW) (hid ?_) (hid ?_)).mono ?_
   ·rintro w' ⟨T',L',X',t1,t2,t3,t4,t5,t6,t7⟩
    obtain⟨x,hA,hx⟩:=t4.som _ _ hfd;refine⟨x,L'.bm,_,_,_,t3.blk,look_run1 t3.map.drew t3.ent _ x hA,fun W=>?_⟩;have:=xc_cells hx W;simp only[rng_length]at this;exact this
   ·rintro w' W vp ⟨T',L',X',t1,t2,t3,t4,t5,t6,t7⟩ k hp'
    obtain⟨x,hA,hx⟩:=t4.som _ _ hfd;have hrd:RdI w' vv V:=hv.kp t5 (fun b e=>(hvo b e).1);have hne:vv.ownBlock≠some L'.g1:=fun e=>by
     have h3:=hvo _ e;have h4:=t3.tg1;rw[t1 _ h3.2]at h4;exact h3.1 (by rw[h4])
    have hc:=xc_writeB2 t2 t3 t4 hfd hx rfl V (by rw[hVl];exact(rng_length _ _).symm) hV W vp vv k hp' (hrd.kp0 k) hne;rw[t6]at hc;refine hc.mono ?_;rintro e w2 ⟨u,rfl,T2,u1,u2,u3⟩;refine⟨u,rfl,T2,fun b hb2=>(u1 b (Nat.lt_of_lt_of_le hb2 t5.size)).trans (t1 b hb2),?_,t5.trans u3 (fun b hb2 e=>by rw[t1 b hb2]at e;exact e)⟩;have e2:=made_writes σ 1 a s (vol s).toNat (fun i=>asK 1 (nth V i)) (by omega);rw[←e2];simpa[rng_length]using u2
   ·rintro e w' ⟨rfl,hq⟩
    exact⟨_,_,rfl,⟨rfl,rfl⟩,hq⟩
theorem xc_makeOfI{T:Tags}{o:Nat}{w:World}{p:Nat}{σ:Sp}{L:XL}{X:XS}(s:List Int)(hok:σ.ok)(hX:XAt T o w p L X)(hT:Tie X (Maps.size L.D) σ)(hs:shapeB s=true)(hm:σ.arrs.length+1≤100000000)(hb:σ.bufs.length+1≤100000000)(V:List Int)(hVl:V.length=(vol s).toNat)(hV:∀j,IntKind.i64.wrap (nth V j)=nth V j)(vv:Value)(hv:RdI w vv V)(hvo:∀b,vv.ownBlock=some b→(T b).1≠o∧b<w.heap.size):Calls Tryz.prog 59 #[.pointer (some ⟨p,0,none⟩),.int .i64 2,.iface 127 (.pointer (some ⟨L.q2,0,none⟩)),.agg (shC s).toArray,vv] w fun e w'=>∃a b,e=.returned (.tuple #[.int .i64 a,.int .i64 b])∧((a=(σ.fresh 2 s fun i=>asK 2 (nth V i)).2.1∧b=(σ.fresh 2 s fun i=>asK 2 (nth V i)).2.2)∧Step XRep T o w p (σ.fresh 2 s fun i=>asK 2 (nth V i)).1 w'):=by
 have hW:=xc_whole 2 s hok hX hT (by omega) hs hm hb;have hsh:=(shapeB_iff s).1 hs;rw[inVI]at hW;have toStep:∀{σ' w'},StepQ T o w p L σ' w'→Step XRep T o w p σ' w':=fun⟨T',L',X',h1,h2,h3,h4,h5,_⟩=>⟨T',h1,⟨h2,L',X',h3,h4⟩,h5⟩
 by_cases hl:40≤σ.live
 ·have h1:σ.make 2 s=(σ,0,7):=make_many (by omega) hs hl
  have h2:(σ.fresh 2 s fun i=>asK 2 (nth V i))=(σ,0,7):=by unfold Sp.fresh;rw[if_pos hl]
  rw[h1]at hW;rw[h2];refine(xmakeOf_no p 2 _ s vv w 7 (by omega) (hid (fun W k=>(hW W k).mono (fun e w' ⟨h1,h2⟩=>⟨_,h1,h2⟩)))).mono ?_;rintro e w' ⟨rfl,hq⟩;exact⟨_,_,rfl,⟨rfl,rfl⟩,toStep hq⟩
 ·by_cases hp:σ.place 2 (vol s).toNat<0
  ·have h1:σ.make 2 s=(σ,0,8):=by unfold Sp.make;rw[if_neg (by omega),if_neg (by simp[hs]),if_neg hl,if_pos hp]
   have h2:(σ.fresh 2 s fun i=>asK 2 (nth V i))=(σ,0,8):=by unfold Sp.fresh;rw[if_neg hl,if_pos hp]
   rw[h1]at hW;rw[h2];refine(xmakeOf_no p 2 _ s vv w 8 (by omega) (hid (fun W k=>(hW W k).mono (fun e w' ⟨h1,h2⟩=>⟨_,h1,h2⟩)))).mono ?_;rintro e w' ⟨rfl,hq⟩;exact⟨_,_,rfl,⟨rfl,rfl⟩,toStep hq⟩
  ·obtain⟨a,ha⟩:∃a,σ.place 2 (vol s).toNat=a:=⟨_,rfl⟩
   rw[ha]at hp;have h1:σ.make 2 s=(σ.made 2 a s (vol s).toNat fun _=>0,(σ.arrs.length:Int)+1,0):=by unfold Sp.make;rw[if_neg (by omega),if_neg (by simp[hs]),if_neg hl,ha,if_neg hp]
   have h2:(σ.fresh 2 s fun i=>asK 2 (nth V i))=(σ.made 2 a s (vol s).toNat fun i=>asK 2 (nth V i),(σ.arrs.length:Int)+1,0):=by unfold Sp.fresh;rw[if_neg hl,ha,if_neg hp]
   rw[h1]at hW;rw[h2];have hfd:(σ.made 2 a s (vol s).toNat fun _=>0).find ((σ.arrs.length:Int)+1)=some ⟨2,s,rng a (vol s).toNat,false,σ.bufs.length⟩:=by
    unfold Sp.find;rw[if_pos (by omega)];have:(σ.made 2 a s (vol s).toNat fun _=>0).arrs=σ.arrs++[some ⟨2,s,rng a (vol s).toNat,false,σ.bufs.length⟩]:=by
     show((σ.more ⟨2,a,(vol s).toNat⟩).puts 2 a (fun _=>0) (vol s).toNat).arrs++_=_;rw[(puts_arrs _ _ _ _ _).1];rfl
    rw[this,show ix ((σ.arrs.length:Int)+1)=σ.arrs.length by unfold ix;omega];simp[List.getD]
   refine(xmakeOfOkI p L.q2 2 ((σ.arrs.length:Int)+1) s vv w (vol s).toNat (rng a (vol s).toNat) (R:=StepQ T o w p L (σ.made 2 a s (vol s).toNat fun _=>0)) (Q:=Step XRep T o w p (σ.made 2 a s (vol s).toNat fun i=>asK 2 (nth V i))) (hid hW) (hid ?_) (hid ?_)).mono ?_
   ·rintro w' ⟨T',L',X',t1,t2,t3,t4,t5,t6,t7⟩
    obtain⟨x,hA,hx⟩:=t4.som _ _ hfd;refine⟨x,L'.bm,_,_,_,t3.blk,look_run1 t3.map.drew t3.ent _ x hA,fun W=>?_⟩;have:=xc_cells hx W;simp only[rng_length]at this;exact this
   ·rintro w' W vp ⟨T',L',X',t1,t2,t3,t4,t5,t6,t7⟩ k hp'
    obtain⟨x,hA,hx⟩:=t4.som _ _ hfd;have hrd:RdI w' vv V:=hv.kp t5 (fun b e=>(hvo b e).1);have hne:vv.ownBlock≠some L'.g2:=fun e=>by
     have h3:=hvo _ e;have h4:=t3.tg2;rw[t1 _ h3.2]at h4;exact h3.1 (by rw[h4])
    have hc:=xc_writeI2 t2 t3 t4 hfd hx rfl V (by rw[hVl];exact(rng_length _ _).symm) hV W vp vv k hp' (hrd.kp0 k) hne;rw[t7]at hc;refine hc.mono ?_;rintro e w2 ⟨u,rfl,T2,u1,u2,u3⟩;refine⟨u,rfl,T2,fun b hb2=>(u1 b (Nat.lt_of_lt_of_le hb2 t5.size)).trans (t1 b hb2),?_,t5.trans u3 (fun b hb2 e=>by rw[t1 b hb2]at e;exact e)⟩;have e2:=made_writes σ 2 a s (vol s).toNat (fun i=>asK 2 (nth V i)) (by omega);rw[←e2];simpa[rng_length]using u2
   ·rintro e w' ⟨rfl,hq⟩
    exact⟨_,_,rfl,⟨rfl,rfl⟩,hq⟩
end Go.Proofs.YticbbncdcannlaaGreat
