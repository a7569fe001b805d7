import Derived.Test.YticbbncdcannlaaGreatG44
set_option maxRecDepth 100000
set_option maxHeartbeats 8000000
namespace Go.Proofs.YticbbncdcannlaaGreat
open Go.RowKit Go.Maps Go.ChangeMaps Go.MapKept
theorem Tryz.mCombineI(a:Addr)(x y z:Value)(w:World):(callMethod (.iface 127 (.pointer (some a))) "Combine" #[x,y,z]).run Tryz.prog w=.ok (.enter 212 #[.pointer (some a),x,y,z]) w:=by kernel_rfl
theorem Tryz.nCombineI(a:Addr)(w:World):(nilAhead 367 127 (.pointer (some a)) "Combine").run Tryz.prog w=.ok (some false) w:=by kernel_rfl
theorem xWorkOkI(p q:Nat)(op to x y:Int)(w:World)(m0:Nat)(V0:List Int)(m1:Nat)(V1 VC:List Int)(mP:Nat)(P:List Int)(h1:1≤op)(h2:op≤5){Q:World→Prop}(HT:Hid (∀W vh,Kp0 w W→RdI W vh [x,y]→Calls Tryz.prog 99 #[.pointer (some ⟨p,0,none⟩),.int .i64 to,vh] W fun e w'=>∃aP cP g a0 c0 a1 c1,e=.returned (.tuple #[.slice aP mP cP,.iface 127 (.pointer (some ⟨q,0,none⟩)),.slice (some ⟨g,0,none⟩) 2 2,.int .i64 0])∧(Kp0 W w'∧w'.heap[g]? =some (.cells #[.slice a0 m0 c0,.slice a1 m1 c1] 26 (0,0))∧W.heap.size≤g∧Fr W.heap.size w' (.slice aP mP cP) P∧Fr W.heap.size w' (.slice a0 m0 c0) V0∧Fr W.heap.size w' (.slice a1 m1 c1) V1)))(HC:Hid (∀W v0 v1 vp,Kp0 w W→Fr w.heap.size W v0 V0→Fr w.heap.size W v1 V1→Fr w.heap.size W vp P→Calls Tryz.prog 212 #[.pointer (some ⟨q,0,none⟩),.int .i64 op,v0,v1] W fun e w'=>∃v,e=.returned v∧(Kp0 w w'∧Fr w.heap.size w' v VC∧Fr w.heap.size w' vp P)))(HW:Hid (∀W vp vv,Kp0 w W→Fr w.heap.size W vp P→Fr w.heap.size W vv VC→Calls Tryz.prog 218 #[.pointer (some ⟨q,0,none⟩),vp,vv] W fun e w'=>∃u,e=.returned u∧Q w')):Calls Tryz.prog 67 #[.pointer (some ⟨p,0,none⟩),.int .i64 op,.int .i64 to,.int .i64 x,.int .i64 y] w fun e w'=>e=.returned (.int .i64 0)∧Q w':=by
 have HK1:Hid (Kp0 w (w.alloc (.cells #[.int .i64 x,.int .i64 y] 3))):=(Kp.refl _ w).alloc _;have HR1:Hid (RdI (w.alloc (.cells #[.int .i64 x,.int .i64 y] 3)) (.slice (some ⟨w.heap.size,0,none⟩) 2 2) [x,y]):=rd_of_blk (heap_alloc_new w _) rfl;have HO:=hid (xIsOp_yes op w h1 h2);clear h1 h2;go_enter Tryz.func67,Tryz.ntmps67
 go_wp2_with fail
 refine HO.out.mono ?_;rintro e w1 ⟨rfl,hw⟩;obtain rfl:=hw.symm;clear hw HO
 go_wp2_with fail
 refine(HT.out _ _ HK1.out HR1.out).mono ?_;rintro e w2 ⟨aP,cP,g,a0,c0,a1,c1,rfl,hk,hb,hg,hP,hV,hV1⟩;have HK2:Hid (Kp0 w w2):=Kp0.trans HK1.out hk;have HFP:Hid (Fr w.heap.size w2 (.slice aP mP cP) P):=hP.le (by simp);have HFV:Hid (Fr w.heap.size w2 (.slice a0 m0 c0) V0):=hV.le (by simp);have HFV1:Hid (Fr w.heap.size w2 (.slice a1 m1 c1) V1):=hV1.le (by simp);have y0:w2.cell? ⟨g,0,none⟩=some (.slice a0 m0 c0):=cell_of_row _ g 0 _ _ _ hb;have y1:w2.cell? ⟨g,1,none⟩=some (.slice a1 m1 c1):=cell_of_row _ g 1 _ _ _ hb;have HMR:=hid (Tryz.mWriteI ⟨q,0,none⟩);have HMC:=hid (Tryz.mCombineI ⟨q,0,none⟩);have hna:=Tryz.nWriteI ⟨q,0,none⟩;have hnc:=Tryz.nCombineI ⟨q,0,none⟩;clear hk hb hg hP hV hV1 HK1 HR1 HT;go_wp2
 have HKD:Hid (Kp0 w w2.drew):=HK2.out.drew;have HFPD:Hid (Fr w.heap.size w2.drew (.slice aP mP cP) P):=HFP.out.kp0 (Kp0.refl w2).drew;have HFVD:Hid (Fr w.heap.size w2.drew (.slice a0 m0 c0) V0):=HFV.out.kp0 (Kp0.refl w2).drew;have HFVE:Hid (Fr w.heap.size w2.drew (.slice a1 m1 c1) V1):=HFV1.out.kp0 (Kp0.refl w2).drew
 go_region_law ((first
  |(refine step_invoke3 (by rfl) (.tmp 44) "Combine" (.tmp 35) (.tmp 38) (.tmp 41) _ (by rfl) _ (.int .i64 op) (.slice a0 m0 c0) (.slice a1 m1 c1) (by rfl) (by rfl) (by rfl) (by rfl) _ _ (HMC.out _ _ _ _) (HC.out _ _ _ _ HKD.out HFVD.out HFVE.out HFPD.out) ?_;intro v7 w7 hR7;obtain⟨hK7,hC7,hP7⟩:=hR7)
  |(refine step_invoke2 (by rfl) (.tmp 48) "Write" (.tmp 33) (.tmp 45) _ (by rfl) _ (.slice aP mP cP) v7 (by rfl) (by rfl) (by rfl) _ _ (HMR.out _ _ _) (HW.out _ _ _ hK7 hP7 hC7) ?_;intro v8 w8 hR8)))
 all_goals
  have HR8:=hid hR8;clear hR8 hK7 hC7 hP7;go_wp2
  go_ret;exact⟨rfl,HR8.out⟩
end Go.Proofs.YticbbncdcannlaaGreat
namespace Go.Proofs.YticbbncdcannlaaGreat
open Go.RowKit
theorem opK_B(op a b:Int):asK 1 (opWB op (IntKind.wrap .u8 a) (IntKind.wrap .u8 b))=opK op 1 (asK 1 a) (asK 1 b):=by
 have h1:=wrap_u8 a;have h2:=wrap_u8 b;unfold opWB opK asK wrapK;simp only[if_true,wrap_u8]
 repeat' split
 all_goals omega
theorem opK_I(op a b:Int)(ha:IntKind.i64.wrap a=a)(hb:IntKind.i64.wrap b=b):asK 2 (opWI op (IntKind.wrap .i64 a) (IntKind.wrap .i64 b))=opK op 2 (asK 2 a) (asK 2 b):=by
 rw[ha,hb];rfl
theorem xc_combineB{T:Tags}{o:Nat}{w:World}{p:Nat}{L:XL}{X:XS}(hX:XAt T o w p L X)(op:Int)(h1:1≤op)(h5:op≤5)(A B P:List Int)(hl:B.length=A.length)(hb:A.length≤1000000)(hwA:∀j,IntKind.i64.wrap (nth A j)=nth A j)(hwB:∀j,IntKind.i64.wrap (nth B j)=nth B j)(W:World)(v0 v1 vp:Value)(k:Kp0 w W)(hA:Fr w.heap.size W v0 A)(hB:Fr w.heap.size W v1 B)(hp:Fr w.heap.size W vp P):Calls Tryz.prog 192 #[.pointer (some ⟨L.q1,0,none⟩),.int .i64 op,v0,v1] W fun e w'=>∃v,e=.returned v∧(Kp0 w w'∧Fr w.heap.size w' v (mkL A.length fun i=>opWB op (IntKind.wrap .u8 (nth A i)) (IntKind.wrap .u8 (nth B i)))∧Fr w.heap.size w' vp P):=by
 refine(xCombineB_calls (hX.kp0 k).s1 op h1 h5 A B v0 v1 hA.1 hB.1 hl hb (fun j _=>hwA j) (fun j _=>hwB j)).mono ?_;rintro e w' ⟨v,rfl,hn⟩;obtain⟨ao,c,rfl,k2,hfr⟩:=hn.fr;exact⟨_,rfl,Kp0.trans k k2,hfr.le k.size,hp.kp0 k2⟩
theorem xc_combineI{T:Tags}{o:Nat}{w:World}{p:Nat}{L:XL}{X:XS}(hX:XAt T o w p L X)(op:Int)(h1:1≤op)(h5:op≤5)(A B P:List Int)(hl:B.length=A.length)(hb:A.length≤1000000)(hwA:∀j,IntKind.i64.wrap (nth A j)=nth A j)(hwB:∀j,IntKind.i64.wrap (nth B j)=nth B j)(W:World)(v0 v1 vp:Value)(k:Kp0 w W)(hA:Fr w.heap.size W v0 A)(hB:Fr w.heap.size W v1 B)(hp:Fr w.heap.size W vp P):Calls Tryz.prog 212 #[.pointer (some ⟨L.q2,0,none⟩),.int .i64 op,v0,v1] W fun e w'=>∃v,e=.returned v∧(Kp0 w w'∧Fr w.heap.size w' v (mkL A.length fun i=>opWI op (IntKind.wrap .i64 (nth A i)) (IntKind.wrap .i64 (nth B i)))∧Fr w.heap.size w' vp P):=by
 refine(xCombineI_calls (hX.kp0 k).s2 op h1 h5 A B v0 v1 hA.1 hB.1 hl hb (fun j _=>hwA j) (fun j _=>hwB j)).mono ?_;rintro e w' ⟨v,rfl,hn⟩;obtain⟨ao,c,rfl,k2,hfr⟩:=hn.fr;exact⟨_,rfl,Kp0.trans k k2,hfr.le k.size,hp.kp0 k2⟩
theorem mkL_wrap{n:Nat}{F:Nat→Int}(h:∀i,IntKind.i64.wrap (F i)=F i)(j:Nat):IntKind.i64.wrap (nth (mkL n F) j)=nth (mkL n F) j:=by
 rw[mkL_nth];split
 ·exact h j
 ·simp[IntKind.wrap,IntKind.signed,IntKind.bits]
theorem xc_work{T:Tags}{o:Nat}{w:World}{p:Nat}{σ:Sp}(op to fa fb:Int)(hR:XRep T o w p σ):Calls Tryz.prog 67 #[.pointer (some ⟨p,0,none⟩),.int .i64 op,.int .i64 to,.int .i64 fa,.int .i64 fb] w fun e w'=>e=.returned (.int .i64 (σ.work op to fa fb).2)∧Step XRep T o w p (σ.work op to fa fb).1 w':=by
 have hR':=hR;obtain⟨hok,L,X,hX,hT⟩:=hR;by_cases hop:op<1∨5<op
 ·have hres:σ.work op to fa fb=(σ,1):=by simp[Sp.work,hop]
  rw[hres];refine(xWork_op p op to fa fb w hop).mono ?_;rintro e w' ⟨rfl,hk⟩;exact⟨rfl,hR'.stay hk⟩
 have h1:1≤op:=by omega
 have h5:op≤5:=by omega
 have no:∀er,er≠0→σ.work op to fa fb=(σ,er)→(∀W vh,Kp0 w W→RdI W vh [fa,fb]→Calls Tryz.prog 99 #[.pointer (some ⟨p,0,none⟩),.int .i64 to,vh] W fun e w'=>e=.returned (.tuple #[.slice none 0 0,.nilIface,.slice none 0 0,.int .i64 er])∧Kp0 W w')→
   Calls Tryz.prog 67 #[.pointer (some ⟨p,0,none⟩),.int .i64 op,.int .i64 to,.int .i64 fa,.int .i64 fb] w fun e w'=>e=.returned (.int .i64 (σ.work op to fa fb).2)∧Step XRep T o w p (σ.work op to fa fb).1 w':=fun er he hres hh=>by
  rw[hres];refine(xWork_no p op to fa fb er w h1 h5 he (hid hh)).mono ?_;rintro e w' ⟨rfl,hk⟩;exact⟨rfl,hR'.stay hk⟩
 cases hfa:σ.find fa with
 |none=>
  refine no 2 (by omega) (by cases h:σ.find to<;>simp[Sp.work,hop,hfa,h]) (fun W vh k hr=>?_);exact xtoWork_find p to 2 vh W (by omega) (xfindAll2_no0 (hX.kp0 k) fa fb vh hr (hT.non fa hfa))
 |some a=>
  obtain⟨y,hAy,hy⟩:=hT.som fa a hfa;have ha:=kind_of hok hfa;have hky:y.kind=1∨y.kind=2:=by rw[hy.kind];exact ha.kind
  cases hfb:σ.find fb with
  |none=>
   refine no 2 (by omega) (by cases h:σ.find to<;>simp[Sp.work,hop,hfa,hfb,h]) (fun W vh k hr=>?_);exact xtoWork_find p to 2 vh W (by omega) (xfindAll2_no1 (hX.kp0 k) fa fb vh hr y hAy hky (hT.non fb hfb))
  |some b=>
   obtain⟨z,hAz,hz⟩:=hT.som fb b hfb;have hb:=kind_of hok hfb;have hkz:z.kind=1∨z.kind=2:=by rw[hz.kind];exact hb.kind
   cases hft:σ.find to with
   |none=>
    refine no 2 (by omega) (by simp[Sp.work,hop,hft]) (fun W vh k hr=>?_);refine xtoWork_write p to 2 vh W (by omega) ((xfindAll2_yes (hX.kp0 k) fa fb vh hr y hAy hky z hAz hkz).mono (fun e w' ⟨g,h1,h2,_⟩=>⟨g,2,h1,h2⟩)) (hid (fun W' k'=>xfindw_none ((hX.kp0 k).kp0 k') to (hT.non to hft)))
   |some t=>
    obtain⟨x,hA,hx⟩:=hT.som to t hft;have ht:=kind_of hok hft;have hkx:x.kind=1∨x.kind=2:=by rw[hx.kind];exact ht.kind
    cases hro:x.ro with
    |true=>
     refine no 6 (by omega) (by simp[Sp.work,hop,hft,hfa,hfb,←hx.ro,hro]) (fun W vh k hr=>?_);refine xtoWork_write p to 6 vh W (by omega) ((xfindAll2_yes (hX.kp0 k) fa fb vh hr y hAy hky z hAz hkz).mono (fun e w' ⟨g,h1,h2,_⟩=>⟨g,2,h1,h2⟩)) (hid (fun W' k'=>xfindw_ro ((hX.kp0 k).kp0 k') to x hA hkx hro))
    |false=>
     have hsx:okShape x.l:=hx.g.shape;cases hsa:stretchB a.shape t.shape with
     |false=>
      refine no 4 (by omega) (by simp[Sp.work,hop,hft,hfa,hfb,←hx.ro,hro,hsa]) (fun W vh k hr=>?_);exact xtoWork2_no0 p to vh (L.inV x.kind) W y z x (xfindAll2_yes (hX.kp0 k) fa fb vh hr y hAy hky z hAz hkz) (hid (fun W' k'=>xfindw_some ((hX.kp0 k).kp0 k') to x hA hkx hro)) (hid (fun W' k'=>xvaluesNoB p W' y x.l hy.g.shape.1 hsx.1 (by rw[hy.l,hx.l];exact hsa)))
     |true=>
      cases hsb:stretchB b.shape t.shape with
      |false=>
       refine no 4 (by omega) (by simp[Sp.work,hop,hft,hfa,hfb,←hx.ro,hro,hsa,hsb]) (fun W vh k hr=>?_);exact xtoWork2_no1 p to vh (L.inV x.kind) W y z x _ _ (xfindAll2_yes (hX.kp0 k) fa fb vh hr y hAy hky z hAz hkz) (hid (fun W' k'=>xfindw_some ((hX.kp0 k).kp0 k') to x hA hkx hro))
        (hid (fun W' k'=>by rw[hx.l];exact xc_over hok ((hX.kp0 k).kp0 k') hT hfa hy t.shape ht.shape hsa)) (hid (fun W' k'=>xvaluesNoB p W' z x.l hz.g.shape.1 hsx.1 (by rw[hz.l,hx.l];exact hsb)))
      |true=>
       have hres:σ.work op to fa fb=(σ.writes t.kind t.cells (fun i=>opK op t.kind (asK t.kind (nth (σ.seen a t.shape) i)) (asK t.kind (nth (σ.seen b t.shape) i))) t.cells.length,0):=by simp[Sp.work,hop,hft,hfa,hfb,←hx.ro,hro,hsa,hsb]
       rw[hres];have hva:(σ.seen a t.shape).length=t.cells.length:=by rw[seen_length];have:=ht.length;omega
       have hvb:(σ.seen b t.shape).length=(σ.seen a t.shape).length:=by rw[seen_length,seen_length]
       have h36:(σ.seen a t.shape).length≤1000000:=by have:=ht.length;have:=ht.shape.2.2;omega
       have hT1:∀W vh,Kp0 w W→RdI W vh [fa,fb]→Calls Tryz.prog 99 #[.pointer (some ⟨p,0,none⟩),.int .i64 to,vh] W fun e w'=>∃aP cP g a0 c0 a1 c1,e=.returned (.tuple #[.slice aP t.cells.length cP,L.inV x.kind,.slice (some ⟨g,0,none⟩) 2 2,.int .i64 0])∧(Kp0 W w'∧w'.heap[g]? =some (.cells #[.slice a0 (vol t.shape).toNat c0,.slice a1 (vol t.shape).toNat c1] 26 (0,0))∧W.heap.size≤g∧Fr W.heap.size w' (.slice aP t.cells.length cP) t.cells∧Fr W.heap.size w' (.slice a0 (vol t.shape).toNat c0) (σ.seen a t.shape)∧Fr W.heap.size w' (.slice a1 (vol t.shape).toNat c1) (σ.seen b t.shape)):=fun W vh k hr=>
        xtoWork2_yes p to vh (L.inV x.kind) W y z x _ _ _ _ _ _ (xfindAll2_yes (hX.kp0 k) fa fb vh hr y hAy hky z hAz hkz) (hid (fun W' k'=>xfindw_some ((hX.kp0 k).kp0 k') to x hA hkx hro))
         (hid (fun W' k'=>by rw[hx.l];exact xc_over hok ((hX.kp0 k).kp0 k') hT hfa hy t.shape ht.shape hsa)) (hid (fun W' k'=>by rw[hx.l];exact xc_over hok ((hX.kp0 k).kp0 k') hT hfb hz t.shape ht.shape hsb)) (hid (fun W' _=>xc_cells hx W'))
       rcases ht.kind with hk|hk
       ·rw[hx.kind,hk,inVB]at hT1
        rw[hk];have hcg:σ.writes 1 t.cells (fun i=>opK op 1 (asK 1 (nth (σ.seen a t.shape) i)) (asK 1 (nth (σ.seen b t.shape) i))) t.cells.length=σ.writes 1 t.cells (fun i=>asK 1 (nth (mkL (σ.seen a t.shape).length fun i=>opWB op (IntKind.wrap .u8 (nth (σ.seen a t.shape) i)) (IntKind.wrap .u8 (nth (σ.seen b t.shape) i))) i)) t.cells.length:=
         writes_congr _ (fun j hj=>by rw[mkL_nth,if_pos (by omega),opK_B])
        rw[hcg];exact xWorkOkB p L.q1 op to fa fb w _ _ _ _ _ _ _ h1 h5 (hid hT1) (hid (fun W v0 v1 vp k hA hB hp=>xc_combineB hX op h1 h5 _ _ _ hvb h36 (fun j=>hT.seenIn ha _ j) (fun j=>hT.seenIn hb _ j) W v0 v1 vp k hA hB hp))
         (hid (fun W vp vv k hp hv=>xc_writeB hok hX hT hft hx hk _ (by rw[mkL_length];exact hva) (fun j=>mkL_wrap (fun i=>opWB_wf op _ _) j) W vp vv k hp hv))
       ·rw[hx.kind,hk,inVI]at hT1
        rw[hk];have hcg:σ.writes 2 t.cells (fun i=>opK op 2 (asK 2 (nth (σ.seen a t.shape) i)) (asK 2 (nth (σ.seen b t.shape) i))) t.cells.length=σ.writes 2 t.cells (fun i=>asK 2 (nth (mkL (σ.seen a t.shape).length fun i=>opWI op (IntKind.wrap .i64 (nth (σ.seen a t.shape) i)) (IntKind.wrap .i64 (nth (σ.seen b t.shape) i))) i)) t.cells.length:=
         writes_congr _ (fun j hj=>by rw[mkL_nth,if_pos (by omega),opK_I op _ _ (hT.seenIn ha _ j) (hT.seenIn hb _ j)])
        rw[hcg];exact xWorkOkI p L.q2 op to fa fb w _ _ _ _ _ _ _ h1 h5 (hid hT1) (hid (fun W v0 v1 vp k hA hB hp=>xc_combineI hX op h1 h5 _ _ _ hvb h36 (fun j=>hT.seenIn ha _ j) (fun j=>hT.seenIn hb _ j) W v0 v1 vp k hA hB hp))
         (hid (fun W vp vv k hp hv=>xc_writeI hok hX hT hft hx hk _ (by rw[mkL_length];exact hva) (fun j=>mkL_wrap (fun i=>opWI_wf op _ _) j) W vp vv k hp hv))
end Go.Proofs.YticbbncdcannlaaGreat
