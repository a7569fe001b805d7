import Derived.Test.YticbbncdcannlaaGreatG27
set_option maxRecDepth 100000
set_option maxHeartbeats 8000000
namespace Go.Proofs.YticbbncdcannlaaGreat
open Go.RowKit
theorem Tryz.zeroCellI(w:World):(zeroValue 2).run Tryz.prog w=.ok (.int .i64 0) w:=by kernel_rfl
theorem zerosI(n:Nat):(Builtin.zeroCells (Value.int .i64 0).cells n).toList=List.replicate n (.int .i64 0):=by
 simp[Builtin.zeroCells,Value.cells];apply List.ext_getElem
 ·simp
 ·intro i h1 h2
  simp[Nat.mod_one]
theorem wipe_laidI(c:List Int)(s n:Nat):laidAt (vcs .i64 c).toArray s (List.replicate n (.int .i64 0))=(vcs .i64 (wipe c s n)).toArray:=by
 unfold laidAt wipe vcs;simp
theorem xGiveBackI_calls{w:World}{q g:Nat}{vb:Value}{c:List Int}{bs:List (Int×Int)}(h:StAtI w q g vb c bs)(s:Int)(i:Nat)(hi:i<bs.length)(hs:(bth bs i).1=s)(hne:∀j,j<i→(bth bs j).1≠s)(hin:bufsIn c.length bs)(hpos:1≤(bth bs i).2)(hc:c.length≤10000)(hbl:bs.length≤1000000)(hqb:vb.ownBlock≠some q)(hqg:q≠g)(hgb:vb.ownBlock≠some g):Calls Tryz.prog 214 #[.pointer (some ⟨q,0,none⟩),.int .i64 s] w fun e w'=>e=.returned (.tuple #[])∧Kp (fun b=>b=q∨b=g∨vb.ownBlock=some b) w w'∧∃vb',StAtI w' q g vb' (wipe c s.toNat (bth bs i).2.toNat) (bs.take i++bs.drop (i+1))∧vb'.ownBlock=vb.ownBlock:=by
 obtain⟨q0,q1⟩:=cells7 h.blk;have hqw:q<w.heap.size:=block_lt_of_cell q0;obtain⟨aov,capv,hvbf,hcap,hbf⟩:=h.bufs.form;subst hvbf;have HH:=hid h;have HVL:Hid (∀b,(Value.slice aov bs.length capv).ownBlock=some b→b<w.heap.size):=fun b hb=>own_lt h.bufs hb
 have HNE:Hid ((Value.slice aov bs.length capv).ownBlock≠some q∧q≠g∧(Value.slice aov bs.length capv).ownBlock≠some g):=⟨hqb,hqg,hgb⟩;obtain⟨gb,rfl,hbc⟩:=hbf (by omega);have HBC:=hid hbc;have HIN:=hid hin;have HF:=hid hne;obtain⟨z,hz⟩:∃z,z=(bth bs i).2:=⟨_,rfl⟩;have HZ:=hid hz;have HS:=hid hs;obtain⟨i1,i2,i3⟩:=hin i hi;rw[hs,←hz]at i3;rw[hs]at i1;rw[←hz]at hpos i2⊢;obtain⟨m,hm⟩:∃m,m=bs.length:=⟨_,rfl⟩;have HM:=hid hm;rw[←hm]at q1 hi hbl hcap;obtain⟨n,hn⟩:∃n,n=c.length:=⟨_,rfl⟩;have HN:=hid hn;rw[←hn]at q0 hc i3;clear h hqb hqg hgb hbc hin hne hz hs hm hn;go_enter Tryz.func214,Tryz.ntmps214
 go_wp2
 go_loopw [4,5,11] (fun _ _ t w'=>∃k:Nat,k≤i∧t=.int .i64 k∧Hid (Kp0 w w')) (fun _ _ t _=>m-(intOf t).toNat)
 case atStart=>exact⟨0,Nat.zero_le _,rfl,Kp0.refl w⟩
 case round=>
  obtain⟨k,hk,rfl,HK⟩:=hrel;have hkm:k<m:=by omega
  have p1:=HK.out.cell (HBC.out k (by have:=HM.out;omega)).1;have p2:=HK.out.cell (HBC.out k (by have:=HM.out;omega)).2;by_cases hki:k=i
  ·subst hki
   rw[HS.out]at p1;rw[←HZ.out]at p2;have d1:(s==s)=true:=by simp
   have r0:=HK.out.cell q0;have r1:=HK.out.cell q1;have hqr:q<wr.heap.size:=block_lt_of_cell r0;have HB:Hid ((wr.alloc (.cells #[.int .i64 s,.int .i64 z] 252)).heap[wr.heap.size]? =some (.cells #[.int .i64 s,.int .i64 z] 252 (0,0))):=heap_alloc_new wr _;have HKW:Hid (Kp0 w (wr.alloc (.cells #[.int .i64 s,.int .i64 z] 252))):=HK.out.alloc _;go_wp2
   clear r0 r1 p1 p2 hqr;generalize wr.alloc (.cells #[.int .i64 s,.int .i64 z] 252)=W at HB HKW⊢;generalize wr.heap.size=b at HB⊢;obtain⟨b0,b1⟩:=cells2 HB.out;have r0:=HKW.out.cell q0;have sw:IntKind.i64.wrap (s+z)=s+z:=by simp[IntKind.wrap,IntKind.signed,IntKind.bits];omega
   have HE:Hid (∀W,Calls Tryz.prog 202 #[.agg #[.int .i64 s,.int .i64 z]] W fun e w'=>∃v,e=.returned v∧(v=.int .i64 (s+z)∧Kp0 W w')):=fun W=>(xend_callsI s z W sw).mono (fun e w' h=>⟨_,h.1,rfl,h.2⟩)
   have a1:s≤s+z:=by omega
   have a2:(0:Int)≤s+z:=by omega
   have a3:¬n=s.toNat:=by omega
   have a4:(s+z).toNat -s.toNat=z.toNat:=by omega
   have a5:s.toNat≤(s+z).toNat:=by omega
   have a6:(s+z).toNat≤n:=by omega
   have HFT:Hid (s.toNat+(List.replicate z.toNat (Value.int .i64 0)).length≤(vcs .i64 c).toArray.size):=hid (by rw[List.length_replicate,List.size_toArray,vcs_length,←HN.out];omega);have HCL:Hid (∀W',Kp0 w W'→∃w8,(∀ty kk,(Builtin.clear_ #[200] ty #[.slice (some ⟨g,s.toNat,none⟩) z.toNat kk]).run Tryz.prog W'=.ok (.tuple #[]) w8)∧w8.heap[g]? =some (cellsBI (wipe c s.toNat z.toNat))∧Kp (fun b=>b=g) W' w8):=fun W' k=>by
    have hgc:=k.heap HH.out.cells;refine⟨_,fun ty kk=>run_clearN W' _ _ ty _ Tryz.underlying200 Tryz.zeroCellI g s.toNat z.toNat kk (by omega) _ _ (List.replicate z.toNat (.int .i64 0)) (zerosI _) hgc HFT.out (fun v hv=>by rw[List.eq_of_mem_replicate hv];rfl),?_,setRow_kp hgc⟩;rw[setRow_new hgc,wipe_laidI]
   go_region_law ((first
    |(refine step_call1 (by rfl) 202 (.tmp 26) _ (by rfl) _ Tryz.func202 (by kernel_rfl) (by kernel_rfl) _ (by rfl) (HE.out _) ?_;intro v7 w7 hR;obtain⟨rfl,hK7⟩:=hR;have r7:=Kp0.cell hK7 r0;have t0:=Kp0.cell hK7 b0;obtain⟨w8,hcl,hB8,hK8⟩:=HCL.out w7 (Kp0.trans HKW.out.drew hK7))))
   all_goals
    have KG:Hid (Kp (fun b=>b=g) w w8):=Kp.trans (Kp.of0 (Kp0.trans HKW.out.drew hK7)) hK8 (fun _ _ e=>e);have x1:=KG.out.cell q1 HNE.out.2.1;have HB8:=hid hB8;have HD:=hid (xdelete_calls (HH.out.bufs.kp KG.out (fun b hb e=>HNE.out.2.2 (e▸hb))) k (by have:=HM.out;omega));rw[←HM.out]at HD;clear hK7 hK8 hB8 hcl r7 t0 r0 b0 b1
    go_wp2_with fail
    refine HD.out.mono ?_;rintro e w9 ⟨vb',rfl,hb,ho,⟨ao',n',c',rfl,-⟩,hk9⟩;have hq9:=hk9.heap (KG.out.heap HH.out.blk HNE.out.2.1) (fun e=>HNE.out.1 (by rw[←HM.out];exact e));have y1:=(cells7 hq9).2;have y2:=frozen_of_row _ q 1 _ _ hq9;have HR:Hid (BsAt w9 (.slice ao' n' c') (bs.take k++bs.drop (k+1))∧(Value.slice ao' n' c').ownBlock=(Value.slice (some ⟨gb,0,none⟩) m capv).ownBlock∧Kp (fun b=>(Value.slice (some ⟨gb,0,none⟩) m capv).ownBlock=some b) w8 w9):=⟨hb,ho,hk9⟩;have HQ9:=hid hq9;clear hb ho hk9 hq9 x1;go_wp2
    (first|go_end0|((try simp only[Exit.inBlock,Exit.then]);refine bodyPost_ret (results_none rfl _ _ _) rfl ?_))
    obtain⟨hb,ho,hk9⟩:=HR.out;rw[HM.out]at ho hk9;have kall:Kp (fun b=>b=q∨b=g∨(Value.slice (some ⟨gb,0,none⟩) bs.length capv).ownBlock=some b) w w9:=(KG.out.mono (fun b _ e=>.inr (.inl e))).trans hk9 (fun b _ e=>.inr (.inr e));have k10:Kp (fun b=>b=q) w9 (w9.setCell ⟨q,1,none⟩ (.slice ao' n' c')):=(Kp.refl _ w9).setCell ⟨q,1,none⟩ _ (fun _=>rfl);refine⟨rfl,kall.setCell _ _ (fun _=>.inl rfl),.slice ao' n' c',⟨?_,?_,?_⟩,ho⟩
    ·rw[wipe_length c _ _ (by rw[←HN.out];omega)]
     exact heap_setCell_same _ q 1 _ _ _ HQ9.out
    ·rw[heap_setCell_other _ _ _ _ (by show g≠q;exact fun e=>HNE.out.2.1 e.symm)]
     exact hk9.heap HB8.out (fun e=>HNE.out.2.2 e)
    ·exact hb.kp k10 (fun b hb' e=>HNE.out.1 (by rw[←ho,hb',e]))
  ·have d1:((bth bs k).1==s)=false:=by rw[beq_eq_false_iff_ne];exact HF.out k (by omega)
   generalize (bth bs k).1=s1 at*;generalize (bth bs k).2=z1 at*;go_wp2
   go_roundw
   case rel=>exact⟨k+1,by omega,by go_num,HK.out.alloc _⟩
   case measure=>simp[intOf];omega
end Go.Proofs.YticbbncdcannlaaGreat
