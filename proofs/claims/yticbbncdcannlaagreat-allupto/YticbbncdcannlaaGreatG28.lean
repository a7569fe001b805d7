import Derived.Deep.Cut
import Derived.Test.YticbbncdcannlaaGreatG27
set_option maxRecDepth 100000
set_option maxHeartbeats 8000000
namespace Go.Proofs.YticbbncdcannlaaGreat
open Go.RowKit
theorem xTakeNoB_calls{w:World}{q g:Nat}{vb:Value}{c:List Int}{bs:List (Int×Int)}(h:StAtB w q g vb c bs)(size:Int)(h1:1≤size)(h2:size≤3600)(hin:bufsIn c.length bs)(hc:c.length≤10000)(hbl:bs.length≤1000000)(s:Int)(r:Nat)(hlow:low size bs=(s,r))(hs0:0≤s)(hs1:s≤10000)(hfit:(c.length:Int)<s+size):Calls Tryz.prog 197 #[.pointer (some ⟨q,0,none⟩),.int .i64 size] w fun e w'=>e=.returned (.tuple #[.int .i64 0,.bool false])∧Kp0 w w':=by
 have HL:=hid (xlowestB_calls h size hin hc (by omega));rw[hlow]at HL;obtain⟨q0,q1⟩:=cells7 h.blk;have hqw:q<w.heap.size:=block_lt_of_cell q0;obtain⟨n,hn⟩:∃n,n=c.length:=⟨_,rfl⟩;rw[←hn]at q0 hc hin hfit;have d1:decide ((n:Int)<s+size)=true:=by simp;omega
 clear h hin hlow hn hfit;go_enter Tryz.func197,Tryz.ntmps197
 go_wp2_with fail
 refine HL.out.mono ?_;rintro e w2 ⟨rfl,hw⟩;have HK2:=hid hw;have p0:=hw.cell q0;have hqw2:q<w2.heap.size:=Nat.lt_of_lt_of_le hqw hw.size;clear hw q0 q1 hqw;have HE:Hid (∀W,Calls Tryz.prog 202 #[.agg #[.int .i64 s,.int .i64 size]] W fun e w'=>e=.returned (.int .i64 (s+size))∧Kp0 W w'):=fun W=>xend_callsB s size W (by simp[IntKind.wrap,IntKind.signed,IntKind.bits];omega)
 have HB:Hid ((w2.alloc (.cells #[.int .i64 s,.int .i64 size] 252)).heap[w2.heap.size]? =some (.cells #[.int .i64 s,.int .i64 size] 252 (0,0))):=heap_alloc_new w2 _;have HKW:Hid (Kp0 w (w2.alloc (.cells #[.int .i64 s,.int .i64 size] 252))):=Kp0.trans HK2.out ((Kp.refl _ w2).alloc _);have p0':=Kp0.cell (w':=w2.alloc (.cells #[.int .i64 s,.int .i64 size] 252)) ((Kp.refl _ w2).alloc _) p0;go_wp2
 clear p0 hqw2;generalize w2.alloc (.cells #[.int .i64 s,.int .i64 size] 252)=W at HB HKW p0'⊢;generalize w2.heap.size=b at HB⊢;obtain⟨b0,b1⟩:=cells2 HB.out
 go_region_with (go_at_call 202;refine(HE.out W.drew).mono ?_;rintro e w7 ⟨rfl,hK7⟩;have z0:=Kp0.cell hK7 p0')
 all_goals
  have HK7:Hid (Kp0 w w7):=Kp0.trans HKW.out.drew hK7;clear hK7
  (try simp only[Act.put,List.setIfInBounds_toArray])
  go_wp2
  go_ret2
  exact⟨rfl,HK7.out⟩
theorem xTakeYesB_calls{w:World}{q g:Nat}{vb:Value}{c:List Int}{bs:List (Int×Int)}(h:StAtB w q g vb c bs)(size:Int)(h1:1≤size)(h2:size≤3600)(hin:bufsIn c.length bs)(hc:c.length≤10000)(hbl:bs.length≤1000000)(hqb:vb.ownBlock≠some q)(hqg:q≠g)(hgb:vb.ownBlock≠some g)(s:Int)(r:Nat)(hlow:low size bs=(s,r))(hr:r≤bs.length)(hs0:0≤s)(hs1:s≤10000)(hfit:s+size≤(c.length:Int)):Calls Tryz.prog 197 #[.pointer (some ⟨q,0,none⟩),.int .i64 size] w fun e w'=>e=.returned (.tuple #[.int .i64 s,.bool true])∧Kp (fun b=>b=q∨vb.ownBlock=some b) w w'∧∃vb',StAtB w' q g vb' c (addB bs r (s,size))∧∀b,vb'.ownBlock=some b→vb.ownBlock=some b∨w.heap.size≤b:=by
 have HL:=hid (xlowestB_calls h size hin hc (by omega));rw[hlow]at HL;obtain⟨q0,q1⟩:=cells7 h.blk;have hqw:q<w.heap.size:=block_lt_of_cell q0;obtain⟨aov,capv,hvbf,-,-⟩:=h.bufs.form;subst hvbf;generalize hnv:bs.length=nv at*;have HNV:=hid hnv;clear hnv;have HH:=hid h;obtain⟨n,hn⟩:∃n,n=c.length:=⟨_,rfl⟩;rw[←hn]at q0 hc hin hfit;have d1:decide ((n:Int)<s+size)=false:=by simp;omega
 have HQW:=hid hqw;have HVL:Hid (∀b,(Value.slice aov nv capv).ownBlock=some b→b<w.heap.size):=fun b hb=>own_lt h.bufs hb
 have HR:=hid hr;have HBL:=hid hbl;have HNE:Hid ((Value.slice aov nv capv).ownBlock≠some q∧q≠g∧(Value.slice aov nv capv).ownBlock≠some g):=⟨hqb,hqg,hgb⟩;clear h hin hlow hn hfit hr hbl hqb hqg hgb;go_enter Tryz.func197,Tryz.ntmps197
 go_wp2_with fail
 refine HL.out.mono ?_;rintro e w2 ⟨rfl,hw⟩;have HK2:=hid hw;have p0:=hw.cell q0;have p1:=hw.cell q1;have hqw2:q<w2.heap.size:=Nat.lt_of_lt_of_le hqw hw.size;clear hw q0 q1 hqw;have HE:Hid (∀W,Calls Tryz.prog 202 #[.agg #[.int .i64 s,.int .i64 size]] W fun e w'=>e=.returned (.int .i64 (s+size))∧Kp0 W w'):=fun W=>xend_callsB s size W (by simp[IntKind.wrap,IntKind.signed,IntKind.bits];omega)
 have HB:Hid ((w2.alloc (.cells #[.int .i64 s,.int .i64 size] 252)).heap[w2.heap.size]? =some (.cells #[.int .i64 s,.int .i64 size] 252 (0,0))):=heap_alloc_new w2 _;have HKW:Hid (Kp0 w (w2.alloc (.cells #[.int .i64 s,.int .i64 size] 252))):=Kp0.trans HK2.out ((Kp.refl _ w2).alloc _);have p0':=Kp0.cell (w':=w2.alloc (.cells #[.int .i64 s,.int .i64 size] 252)) ((Kp.refl _ w2).alloc _) p0;have p1':=Kp0.cell (w':=w2.alloc (.cells #[.int .i64 s,.int .i64 size] 252)) ((Kp.refl _ w2).alloc _) p1;go_wp2
 clear p0 p1 hqw2;generalize w2.alloc (.cells #[.int .i64 s,.int .i64 size] 252)=W at HB HKW p0' p1'⊢;generalize w2.heap.size=b at HB⊢;obtain⟨b0,b1⟩:=cells2 HB.out;have HFZ:Hid (∀W',Kp0 w W'→W'.frozen? ⟨q,1,none⟩=false):=fun W' k=>frozen_of_row _ q 1 _ _ (k.heap HH.out.blk)
 go_cut [25]from 18 (fun s25 W'=>s25=.bool false∧Hid (Kp0 w W')∧Hid (W'.heap[b]? =some (.cells #[.int .i64 s,.int .i64 size] 252 (0,0)))∧W'.cell? ⟨q,1,none⟩=some (.slice aov nv capv))
 case first=>
  go_region_with (go_at_call 202;refine(HE.out W.drew).mono ?_;rintro e w7 ⟨rfl,hK7⟩;have z0:=Kp0.cell hK7 p0')
  all_goals
   have HK7:Hid (Kp0 w w7):=Kp0.trans HKW.out.drew hK7;have z1:=Kp0.cell hK7 p1';have HB7:Hid (w7.heap[b]? =some (.cells #[.int .i64 s,.int .i64 size] 252 (0,0))):=Kp0.heap hK7 HB.out;clear hK7
   go_wp2_with fail
   go_meet
   case rel=>exact⟨rfl,HK7,HB7,z1⟩
 case rest=>
  obtain⟨rfl,HK7,HB7,z1⟩:=hcut;obtain⟨y0,y1⟩:=cells2 HB7.out;have hq7:q<wc.heap.size:=block_lt_of_cell z1;have hb7:b<wc.heap.size:=block_lt_of_cell y0;have f1:=HFZ.out _ HK7.out;have HIc:Hid (Calls Tryz.prog 206 #[.slice aov nv capv,.int .i64 (r:Int),.slice (some ⟨wc.heap.size,0,none⟩) 1 1] ((wc.alloc (.cells #[.int .i64 s,.int .i64 size] 252)).drew) fun e w'=>∃vb',e=.returned vb'∧(∃ao' n' c',vb'=.slice ao' n' c'∧Hid (BsAt w' vb' (addB bs r (s,size))∧Kp (fun b=>(Value.slice aov nv capv).ownBlock=some b) wc w'∧∀b,vb'.ownBlock=some b→(Value.slice aov nv capv).ownBlock=some b∨w.heap.size≤b)∧w'.cell? ⟨q,1,none⟩=some (.slice aov nv capv)∧w'.frozen? ⟨q,1,none⟩=false)):=by
   refine(xinsert_calls ((HH.out.bufs.kp0 HK7.out).kp0 (((Kp.refl _ wc).alloc _).drew)) r (by have:=HR.out;have:=HNV.out;omega) (by have:=HBL.out;have:=HNV.out;omega) (s,size) wc.heap.size (heap_alloc_new wc _) (fun e=>by have:=HVL.out _ e;have:=HK7.out.size;omega)).mono ?_;rintro e w' ⟨vb',rfl,hb,hk,hn⟩;have hk':Kp (fun b=>(Value.slice aov nv capv).ownBlock=some b) wc w':=Kp.trans (((Kp.refl _ wc).alloc _).drew) hk (fun _ _ e=>e);have hq:=hk'.heap (HK7.out.heap HH.out.blk) (fun e=>HNE.out.1 e);obtain⟨ao',c',he,-,-⟩:=hb.form;exact⟨vb',rfl,ao',_,c',he,⟨hb,hk',fun b e=>(hn b e).imp id (fun h=>by have:=HK7.out.size;simp at h;omega)⟩,(cells7 hq).2,frozen_of_row _ _ _ _ _ hq⟩
  clear p0' p1' b0 b1;go_wp2
  go_region_law ((refine step_call3 (by rfl) 206 (.tmp 30) (.tmp 31) (.tmp 33) _ (by rfl) _ Tryz.func206 (by kernel_rfl) (by kernel_rfl) _ _ _ (by rfl) (by rfl) (by rfl) HIc.out ?_;intro vb' w8 hR;obtain⟨ao',n',c',rfl,hR8,x1,x2⟩:=hR))
  all_goals
   have HR8:=hid hR8;clear hR8;go_wp2
   go_ret2
   obtain⟨hb8,hk8,hn8⟩:=HR8.out;have k8:Kp (fun b=>b=q∨(Value.slice aov nv capv).ownBlock=some b) w w8:=(Kp.of0 HK7.out).trans hk8 (fun b _ e=>.inr e);have hq8:=hk8.heap (HK7.out.heap HH.out.blk) (fun e=>HNE.out.1 e);have hg8:=hk8.heap (HK7.out.heap HH.out.cells) (fun e=>HNE.out.2.2 e);refine⟨rfl,k8.setCell _ _ (fun _=>.inl rfl),.slice ao' n' c',⟨?_,?_,?_⟩,hn8⟩
   ·exact heap_setCell_same _ q 1 _ _ _ hq8
   ·rw[heap_setCell_other _ _ _ _ (by show g≠q;exact fun e=>HNE.out.2.1 e.symm)];exact hg8
   ·have k9:Kp (fun b=>b=q) w8 (w8.setCell ⟨q,1,none⟩ (.slice ao' n' c')):=(Kp.refl _ w8).setCell ⟨q,1,none⟩ _ (fun _=>rfl)
    exact hb8.kp k9 (fun b hb e=>by
     rcases hn8 b hb with h|h
     ·exact HNE.out.1 (e▸h)
     ·have:=HQW.out;omega)
end Go.Proofs.YticbbncdcannlaaGreat
