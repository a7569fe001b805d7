import Derived.Test.YticbbncdcannlaaGreatG14
import Derived.Test.YticbbncdcannlaaGreatG17
import Derived.Deep.RegionLaw
import Derived.BigRegion
import Derived.Test.YticbbncdcannlaaGreatG11
set_option maxRecDepth 100000
set_option maxHeartbeats 8000000
namespace Go.Proofs.YticbbncdcannlaaGreat
open Go.RowKit
theorem xhasAxis_calls(l:List Int)(axis:Int)(w:World):Calls Tryz.prog 93 #[.agg (shC l).toArray,.int .i64 axis] w fun e w'=>e=.returned (.bool (decide (0≤axis)&&decide (axis<(l.length:Int))))∧Kp0 w w':=by
 obtain⟨n,hn⟩:∃n,n=l.length:=⟨_,rfl⟩;unfold shC;rw[←hn];clear hn;by_cases h1:0≤axis
 ·have d1:decide (0≤axis)=true:=by simp[h1]
  clear h1;go_enter Tryz.func93,Tryz.ntmps93
  go_wp2
  go_ret;exact⟨by rw[d1];simp,(Kp.refl _ w).alloc _⟩
 ·have d1:decide (0≤axis)=false:=by simp[h1]
  clear h1;go_enter Tryz.func93,Tryz.ntmps93
  go_wp2
  go_ret;exact⟨by rw[d1];simp,(Kp.refl _ w).alloc _⟩
theorem mul_small{a b:Int}(h1:0≤a)(h2:a≤60)(h3: -60≤b)(h4:b≤60): -3600≤a*b∧a*b≤3600:=by
 constructor
 ·have:=Int.mul_le_mul_of_nonneg_left h3 h1
  omega
 ·have:=Int.mul_le_mul_of_nonneg_left h4 h1
  omega
def cutsP(size start count step:Int):Bool:=
 if step=0 then false else if count<1 then false else if size<count then false else if start<0 then false else if size≤start then false else if count=1 then true else if step≤ -size then false else if size≤step then false else decide (0≤start+(count-1)*step)&&decide (start+(count-1)*step<size)
theorem xcuts_calls(size start count step:Int)(w:World)(hs:1≤size∧size≤60):Calls Tryz.prog 94 #[.int .i64 size,.int .i64 start,.int .i64 count,.int .i64 step] w fun e w'=>e=.returned (.bool (cutsP size start count step))∧w'=w:=by
 by_cases h1:step=0
 ·have HR:Hid (cutsP size start count step=false):=hid (by simp[cutsP,h1])
  rw[HR.out];have e1:(step==0)=true:=by simp;omega
  clear h1 HR;go_enter Tryz.func94,Tryz.ntmps94
  go_wp2
  go_ret;exact⟨rfl,rfl⟩
 ·
  by_cases h2:count<1
  ·have HR:Hid (cutsP size start count step=false):=hid (by simp[cutsP,h1,h2])
   rw[HR.out];have e1:(step==0)=false:=by simp;omega
   have e2:decide (count<1)=true:=by simp;omega
   clear h1 h2 HR;go_enter Tryz.func94,Tryz.ntmps94
   go_wp2
   go_ret;exact⟨rfl,rfl⟩
  ·
   by_cases h3:size<count
   ·have HR:Hid (cutsP size start count step=false):=hid (by simp[cutsP,h1,h2,h3])
    rw[HR.out];have e1:(step==0)=false:=by simp;omega
    have e2:decide (count<1)=false:=by simp;omega
    have e3:decide (size<count)=true:=by simp;omega
    clear h1 h2 h3 HR;go_enter Tryz.func94,Tryz.ntmps94
    go_wp2
    go_ret;exact⟨rfl,rfl⟩
   ·
    by_cases h4:start<0
    ·have HR:Hid (cutsP size start count step=false):=hid (by simp[cutsP,h1,h2,h3,h4])
     rw[HR.out];have e1:(step==0)=false:=by simp;omega
     have e2:decide (count<1)=false:=by simp;omega
     have e3:decide (size<count)=false:=by simp;omega
     have e4:decide (start<0)=true:=by simp;omega
     clear h1 h2 h3 h4 HR;go_enter Tryz.func94,Tryz.ntmps94
     go_wp2
     go_ret;exact⟨rfl,rfl⟩
    ·
     by_cases h5:size≤start
     ·have HR:Hid (cutsP size start count step=false):=hid (by simp[cutsP,h1,h2,h3,h4,h5])
      rw[HR.out];have e1:(step==0)=false:=by simp;omega
      have e2:decide (count<1)=false:=by simp;omega
      have e3:decide (size<count)=false:=by simp;omega
      have e4:decide (start<0)=false:=by simp;omega
      have e5:decide (size≤start)=true:=by simp;omega
      clear h1 h2 h3 h4 h5 HR;go_enter Tryz.func94,Tryz.ntmps94
      go_wp2
      go_ret;exact⟨rfl,rfl⟩
     ·
      by_cases h6:count=1
      ·have HR:Hid (cutsP size start count step=true):=hid (by unfold cutsP;rw[if_neg h1,if_neg h2,if_neg h3,if_neg h4,if_neg h5,if_pos h6])
       rw[HR.out];have e1:(step==0)=false:=by simp;omega
       have e2:decide (count<1)=false:=by simp;omega
       have e3:decide (size<count)=false:=by simp;omega
       have e4:decide (start<0)=false:=by simp;omega
       have e5:decide (size≤start)=false:=by simp;omega
       have e6:(count==1)=true:=by simp;omega
       clear h1 h2 h3 h4 h5 h6 HR;go_enter Tryz.func94,Tryz.ntmps94
       go_wp2
       go_ret;exact⟨rfl,rfl⟩
      ·
       by_cases h7:step≤ -size
       ·have HR:Hid (cutsP size start count step=false):=hid (by simp[cutsP,h1,h2,h3,h4,h5,h6,h7])
        rw[HR.out];have e1:(step==0)=false:=by simp;omega
        have e2:decide (count<1)=false:=by simp;omega
        have e3:decide (size<count)=false:=by simp;omega
        have e4:decide (start<0)=false:=by simp;omega
        have e5:decide (size≤start)=false:=by simp;omega
        have e6:(count==1)=false:=by simp;omega
        have e7:decide (step≤ -size)=true:=by simp;omega
        clear h1 h2 h3 h4 h5 h6 h7 HR;go_enter Tryz.func94,Tryz.ntmps94
        go_wp2
        go_ret;exact⟨rfl,rfl⟩
       ·
        by_cases h8:size≤step
        ·have HR:Hid (cutsP size start count step=false):=hid (by simp[cutsP,h1,h2,h3,h4,h5,h6,h7,h8])
         rw[HR.out];have e1:(step==0)=false:=by simp;omega
         have e2:decide (count<1)=false:=by simp;omega
         have e3:decide (size<count)=false:=by simp;omega
         have e4:decide (start<0)=false:=by simp;omega
         have e5:decide (size≤start)=false:=by simp;omega
         have e6:(count==1)=false:=by simp;omega
         have e7:decide (step≤ -size)=false:=by simp;omega
         have e8:decide (size≤step)=true:=by simp;omega
         clear h1 h2 h3 h4 h5 h6 h7 h8 HR;go_enter Tryz.func94,Tryz.ntmps94
         go_wp2
         go_ret;exact⟨rfl,rfl⟩
        ·
         have e1:(step==0)=false:=by simp;omega
         have e2:decide (count<1)=false:=by simp;omega
         have e3:decide (size<count)=false:=by simp;omega
         have e4:decide (start<0)=false:=by simp;omega
         have e5:decide (size≤start)=false:=by simp;omega
         have e6:(count==1)=false:=by simp;omega
         have e7:decide (step≤ -size)=false:=by simp;omega
         have e8:decide (size≤step)=false:=by simp;omega
         have HR:Hid (cutsP size start count step=(decide (0≤start+(count-1)*step)&&decide (start+(count-1)*step<size))):=hid (by simp[cutsP,h1,h2,h3,h4,h5,h6,h7,h8]);rw[HR.out];clear HR;have b1: -3600≤(count-1)*step∧(count-1)*step≤3600:=mul_small (by omega) (by omega) (by omega) (by omega);obtain⟨b2,b3⟩:=b1;have c1:1≤count:=by omega
         have c2:count≤60:=by omega
         have c3:0≤start:=by omega
         have c4:start≤60:=by omega
         by_cases h9:0≤start+(count-1)*step
         ·have e9:decide (0≤start+(count-1)*step)=true:=by simp[h9]
          clear h1 h2 h3 h4 h5 h6 h7 h8 h9;go_enter Tryz.func94,Tryz.ntmps94
          go_wp2
          go_ret;exact⟨by rw[e9];simp,rfl⟩
         ·have e9:decide (0≤start+(count-1)*step)=false:=by simp[h9]
          clear h1 h2 h3 h4 h5 h6 h7 h8 h9;go_enter Tryz.func94,Tryz.ntmps94
          go_wp2
          go_ret;exact⟨by rw[e9];simp,rfl⟩
def zG:Array Value:= #[.int .i64 0,.int .i64 0,.int .i64 0,.int .i64 0,.int .i64 0,.int .i64 0,.int .i64 0,.int .i64 0,.int .i64 0,.int .i64 0]
abbrev zGB:Obj:=.cells #[.int .i64 0,.int .i64 0,.int .i64 0,.int .i64 0,.int .i64 0,.int .i64 0,.int .i64 0,.int .i64 0,.int .i64 0,.int .i64 0] 107
theorem two_heap(w:World)(A B:Obj):((w.alloc A).alloc B).heap[w.heap.size]? =some A∧((w.alloc A).alloc B).heap[w.heap.size+1]? =some B:=
 ⟨heap_alloc2_old w A B,heap_alloc2_new w A B⟩
theorem nth_setU{l:List Int}{k:Nat}(hk:k<l.length)(x:Int)(j:Nat):nth (l.set k x) j=upd (nth l) k x j:=by rw[nth_setN _ _ _ _ hk];rfl
theorem cutT_nth{l t:List Int}(ht:t.length≤l.length){k:Nat}(hk:k<l.length)(count step:Int)(j:Nat):nth (cutT l t k count step) j=upd (nth t) k (stepOf count (step*nth t k)) j:=by
 unfold cutT;rw[mkL_nth];split
 ·rfl
 ·unfold upd
  rw[if_neg (by omega),nth_out (by omega)]
theorem gr_first{w:World}{b:Nat}{S T:Nat→Int}{f:Int}{n:Nat}(h:w.heap[b]? =some (grG S T f n))(x:Int):((w.setCell ⟨b,5,none⟩ (.int .i64 x)).drew).heap[b]? =some (grG S T x n):=by
 have h1:=heap_setCell_same w b 5 _ _ (.int .i64 x) h;exact h1
theorem xgcut_axis(l t:List Int)(f axis start count step:Int)(w:World)(h:(decide (0≤axis)&&decide (axis<(l.length:Int)))=false):Calls Tryz.prog 55 #[.agg (grC l t f).toArray,.int .i64 axis,.int .i64 start,.int .i64 count,.int .i64 step] w fun e w'=>e=.returned (.tuple #[.agg zG,.bool false])∧Kp0 w w':=by
 have HA:=hid (fun W=>xhasAxis_calls l axis W);rw[h]at HA;unfold shC at HA;unfold grC zG;generalize l.length=n at*;clear h;obtain⟨hB0,hB1⟩:=two_heap w (grB l t f n) zGB;have HB1:=hid hB1;clear hB0 hB1;go_enter Tryz.func55,Tryz.ntmps55
 go_wp2_with fail
 refine(HA.out _).mono ?_;rintro e w2 ⟨rfl,hw⟩;have HB2:=hid (hw.heap HB1.out);have HK:Hid (Kp0 w w2):=Kp0.trans (((Kp.refl _ w).alloc _).alloc _) hw;clear hw HB1;obtain⟨b0,hb0⟩:∃b0,w.heap.size=b0:=⟨_,rfl⟩;rw[hb0]at HB2⊢;have HBB:=hid hb0;clear hb0
 go_wp2_with (refine wpList_storeRow _ rfl 107 (.tmp 10) _ rfl (b0+1) _ _ rfl rfl HB2.out Tryz.szGrid rfl (all10 rfl rfl rfl rfl rfl rfl rfl rfl rfl rfl) ?_;intro w5 hB5 hK5)
 (try simp only[Exit.inBlock,Exit.then])
 refine bodyPost_ret (res_cell2 rfl _ _ (b0+1) _ _ _ _ rfl hB5 Tryz.underlying107 rfl Tryz.szGrid) rfl ?_;exact⟨rfl,Kp.trans HK.out hK5 (fun i hi e=>by have:=HBB.out;omega)⟩
theorem xgcut_no(l t:List Int)(f start count step:Int)(k:Nat)(w:World)(hk:k<l.length)(hl:l.length≤4)(hs:sized l)(h:cutsP (nth l k) start count step=false):Calls Tryz.prog 55 #[.agg (grC l t f).toArray,.int .i64 (k:Int),.int .i64 start,.int .i64 count,.int .i64 step] w fun e w'=>e=.returned (.tuple #[.agg zG,.bool false])∧Kp0 w w':=by
 have HA:=hid (fun W=>xhasAxis_calls l (k:Int) W);rw[show(decide ((0:Int)≤(k:Int))&&decide ((k:Int)<(l.length:Int)))=true by simp;omega]at HA;have HC:=hid (fun W=>xcuts_calls (nth l k) start count step W (hs k hk));rw[h]at HC;unfold shC at HA;unfold grC zG;have k1:(k:Int)<4:=by omega
 have k2:k<4:=by omega
 generalize l.length=n at*;clear h hs hk hl;obtain⟨hB0,hB1⟩:=two_heap w (grB l t f n) zGB;have HB0:=hid hB0;have HB1:=hid hB1;clear hB0 hB1;go_enter Tryz.func55,Tryz.ntmps55
 go_wp2_with fail
 refine(HA.out _).mono ?_;rintro e w2 ⟨rfl,hw⟩;have HB2:=hid (hw.heap HB1.out);have HB3:=hid (hw.heap HB0.out);have HK:Hid (Kp0 w w2):=Kp0.trans (((Kp.refl _ w).alloc _).alloc _) hw;clear hw HB1 HB0;obtain⟨b0,hb0⟩:∃b0,w.heap.size=b0:=⟨_,rfl⟩;rw[hb0]at HB2 HB3⊢;have HBB:=hid hb0;clear hb0;have q1:=gr_sizes HB3.out k k2
 go_wp2_with fail
 refine(HC.out _).mono ?_;rintro e w3 ⟨rfl,hw⟩;obtain rfl:=hw.symm
 go_wp2_with (refine wpList_storeRow _ rfl 107 (.tmp 10) _ rfl (b0+1) _ _ rfl rfl HB2.out Tryz.szGrid rfl (all10 rfl rfl rfl rfl rfl rfl rfl rfl rfl rfl) ?_;intro w5 hB5 hK5)
 (try simp only[Exit.inBlock,Exit.then])
 refine bodyPost_ret (res_cell2 rfl _ _ (b0+1) _ _ _ _ rfl hB5 Tryz.underlying107 rfl Tryz.szGrid) rfl ?_;exact⟨rfl,Kp.trans HK.out hK5 (fun i hi e=>by have:=HBB.out;omega)⟩
theorem xgcut_yes(l t:List Int)(f start step:Int)(k cn:Nat)(w:World)(hk:k<l.length)(hl:l.length≤4)(ht:t.length≤l.length)(hs:sized l)(h:cutsP (nth l k) start cn step=true)(hf:0≤f∧f≤1000000)(hp: -1000000≤start*nth t k∧start*nth t k≤1000000)(hq:(cn:Int)≠1→IntKind.i64.wrap (step*nth t k)=step*nth t k):Calls Tryz.prog 55 #[.agg (grC l t f).toArray,.int .i64 (k:Int),.int .i64 start,.int .i64 (cn:Int),.int .i64 step] w fun e w'=>e=.returned (.tuple #[.agg (grC (l.set k (cn:Int)) (cutT l t k cn step) (f+start*nth t k)).toArray,.bool true])∧Kp0 w w':=by
 have HA:=hid (fun W=>xhasAxis_calls l (k:Int) W);rw[show(decide ((0:Int)≤(k:Int))&&decide ((k:Int)<(l.length:Int)))=true by simp;omega]at HA;have HC:=hid (fun W=>xcuts_calls (nth l k) start cn step W (hs k hk));rw[h]at HC;obtain⟨u,hu⟩:∃u,IntKind.i64.wrap (step*nth t k)=u:=⟨_,rfl⟩;have HU:Hid (stepOf cn (step*nth t k)=stepOf cn u):=hid (by
  unfold stepOf;by_cases h1:(cn:Int)=1
  ·rw[if_pos h1,if_pos h1]
  ·rw[if_neg h1,if_neg h1,←hu,hq h1])
 have HRES:Hid ((grC (l.set k (cn:Int)) (cutT l t k cn step) (f+start*nth t k)).toArray= #[.int .i64 (upd (nth l) k cn 0),.int .i64 (upd (nth l) k cn 1),.int .i64 (upd (nth l) k cn 2),.int .i64 (upd (nth l) k cn 3),.int .i64 (l.length:Int),.int .i64 (f+start*nth t k),.int .i64 (upd (nth t) k (stepOf cn u) 0),.int .i64 (upd (nth t) k (stepOf cn u) 1),.int .i64 (upd (nth t) k (stepOf cn u) 2),.int .i64 (upd (nth t) k (stepOf cn u) 3)]):=hid (by
  unfold grC;simp only[nth_setU hk,cutT_nth ht hk,HU.out,List.length_set])
 have HP:=hid (fun W b hb=>xput_calls b k (cn:Int) u (nth l) (nth t) (f+start*nth t k) l.length W (by omega) hb);rw[HRES.out];clear HRES HU hq;unfold shC at HA;unfold grC;have k1:(k:Int)<4:=by omega
 have k2:k<4:=by omega
 obtain⟨f0,f1⟩:=hf;obtain⟨p0,p1⟩:=hp;generalize l.length=n at*;clear h hs hk hl ht;obtain⟨hB0,hB1⟩:=two_heap w (grB l t f n) zGB;have HB0:=hid hB0;have HB1:=hid hB1;clear hB0 hB1;go_enter Tryz.func55,Tryz.ntmps55
 go_wp2_with fail
 refine(HA.out _).mono ?_;rintro e w2 ⟨rfl,hw⟩;have HB2:=hid (hw.heap HB1.out);have HB3:=hid (hw.heap HB0.out);have HK:Hid (Kp0 w w2):=Kp0.trans (((Kp.refl _ w).alloc _).alloc _) hw;clear hw HB1 HB0;obtain⟨b0,hb0⟩:∃b0,w.heap.size=b0:=⟨_,rfl⟩;rw[hb0]at HB2 HB3⊢;have HBB:=hid hb0;clear hb0;have q1:=gr_sizes HB3.out k k2;obtain⟨c0,c1,c2,c3,c4,c5,c6,c7,c8,c9⟩:=cells10 HB3.out
 go_wp2_with fail
 refine(HC.out _).mono ?_;rintro e w3 ⟨rfl,hw⟩;obtain rfl:=hw.symm
 go_wp2_with fail
 have HG2:Hid ((w2.alloc (grG (nth l) (nth t) f n)).heap[w2.heap.size]? =some (grG (nth l) (nth t) f n)):=heap_alloc_new w2 _;have HG0:Hid ((w2.alloc (grG (nth l) (nth t) f n)).heap[b0]? =some (grB l t f n)):=heap_alloc_keeps HB3.out _;have HG1:Hid ((w2.alloc (grG (nth l) (nth t) f n)).heap[b0+1]? =some zGB):=heap_alloc_keeps HB2.out _;have HKW:Hid (Kp0 w (w2.alloc (grG (nth l) (nth t) f n))):=HK.out.alloc _;have h02:b0<w2.heap.size:=lt_of_heap HB3.out;have h12:b0+1<w2.heap.size:=lt_of_heap HB2.out;clear c0 c1 c2 c3 c4 c5 c6 c7 c8 c9 q1 HB3 HB2 HK;generalize w2.alloc (grG (nth l) (nth t) f n)=W at HG2 HG0 HG1 HKW⊢;generalize w2.heap.size=b2 at HG2 h02 h12⊢;have s5:=(gr_rest (l:=l) (t:=t) HG2.out).2;have s6:=frozen_of_row W b2 5 _ _ HG2.out;have s7:=gr_steps HG0.out k k2;have hne:¬b0=b2:=by omega
 go_region
 go_wp2_with fail
 refine(HP.out _ b2 (gr_first HG2.out _)).mono ?_;rintro e w6 ⟨rfl,hk6,hb6⟩;have k5:Kp (fun x=>x=b2) W ((W.setCell ⟨b2,5,none⟩ (.int .i64 (f+start*nth t k))).drew):=by
  have k4:Kp (fun x=>x=b2) W (W.setCell ⟨b2,5,none⟩ (.int .i64 (f+start*nth t k))):=(Kp.refl _ W).setCell ⟨b2,5,none⟩ _ (fun _=>rfl);exact k4.drew
 have k6:Kp (fun x=>x=b2) W w6:=Kp.trans k5 hk6 (fun _ _ e=>e);have HZ:=hid (k6.heap HG1.out (by omega));have HW6:Hid (Kp0 w w6):=Kp.trans HKW.out k6 (fun i hi e=>by have:=HBB.out;omega);have HB6:=hid hb6;clear hk6 hb6 k5 k6 s5 s6 s7 HG2 HG0 HG1 HKW;obtain⟨y0,y1,y2,y3,y4,y5,y6,y7,y8,y9⟩:=cells10 HB6.out
 go_wp2_with (refine wpList_storeRow _ rfl 107 (.tmp 10) _ rfl (b0+1) _ _ rfl rfl HZ.out Tryz.szGrid rfl (all10 rfl rfl rfl rfl rfl rfl rfl rfl rfl rfl) ?_;intro w5 hB5 hK5)
 (try simp only[Exit.inBlock,Exit.then])
 refine bodyPost_ret (res_cell2 rfl _ _ (b0+1) _ _ _ _ rfl hB5 Tryz.underlying107 rfl Tryz.szGrid) rfl ?_;exact⟨rfl,Kp.trans HW6.out hK5 (fun i hi e=>by have:=HBB.out;omega)⟩
def opWB(op a b:Int):Int:=if op=1 then IntKind.wrap .u8 (a+b)else if op=2 then IntKind.wrap .u8 (a-b)else if op=3 then IntKind.wrap .u8 (a*b)else if op=4 then(if b<a then b else a)else(if a<b then b else a)
theorem wrapSB_range(v:Int):IntKind.i64.wrap (IntKind.wrap .u8 v)=IntKind.wrap .u8 v:=by
 simp[IntKind.wrap,IntKind.signed,IntKind.bits]
 try omega
theorem opWB_wf(op a b:Int):IntKind.i64.wrap (opWB op (IntKind.wrap .u8 a) (IntKind.wrap .u8 b))=opWB op (IntKind.wrap .u8 a) (IntKind.wrap .u8 b):=by
 unfold opWB
 repeat' split
 all_goals exact wrapSB_range _
theorem xop1B(a b:Int)(w:World):Calls Tryz.prog 159 #[.int .u8 a,.int .u8 b] w fun e w'=>e=.returned (.int .u8 (opWB 1 a b))∧w'=w:=by
 go_enter Tryz.func159,Tryz.ntmps159
 go_wp2
 go_ret;exact⟨rfl,rfl⟩
theorem xop2B(a b:Int)(w:World):Calls Tryz.prog 160 #[.int .u8 a,.int .u8 b] w fun e w'=>e=.returned (.int .u8 (opWB 2 a b))∧w'=w:=by
 go_enter Tryz.func160,Tryz.ntmps160
 go_wp2
 go_ret;exact⟨rfl,rfl⟩
theorem xop3B(a b:Int)(w:World):Calls Tryz.prog 161 #[.int .u8 a,.int .u8 b] w fun e w'=>e=.returned (.int .u8 (opWB 3 a b))∧w'=w:=by
 go_enter Tryz.func161,Tryz.ntmps161
 go_wp2
 go_ret;exact⟨rfl,rfl⟩
theorem xop4B(a b:Int)(w:World):Calls Tryz.prog 162 #[.int .u8 a,.int .u8 b] w fun e w'=>e=.returned (.int .u8 (opWB 4 a b))∧w'=w:=by
 go_enter Tryz.func162,Tryz.ntmps162
 go_wp2
 all_goals
  go_ret;exact⟨by simp[opWB];omega,rfl⟩
theorem xop5B(a b:Int)(w:World):Calls Tryz.prog 163 #[.int .u8 a,.int .u8 b] w fun e w'=>e=.returned (.int .u8 (opWB 5 a b))∧w'=w:=by
 go_enter Tryz.func163,Tryz.ntmps163
 go_wp2
 all_goals
  go_ret;exact⟨by simp[opWB];omega,rfl⟩
theorem xcombineB_calls(f:FuncId)(fn:Func)(hf:Tryz.prog.funcs[f]? =some fn)(hname:(fn.name== "runtime.NumGoroutine")=false)(hbd:fn.body.isSome=true)(F:Int→Int→Int)(hF:∀x y W,Calls Tryz.prog f #[.int .u8 x,.int .u8 y] W fun e w'=>∃v,e=.returned v∧(v=.int .u8 (F x y)∧w'=W))(A B:List Int)(va vb:Value)(w:World)(hA:RdI w va A)(hB:RdI w vb B)(hl:B.length=A.length)(hb:A.length≤1000000)(hwA:∀j,j<A.length→IntKind.i64.wrap (nth A j)=nth A j)(hwB:∀j,j<A.length→IntKind.i64.wrap (nth B j)=nth B j)(hFr:∀i,i<A.length→IntKind.i64.wrap (F (IntKind.wrap .u8 (nth A i)) (IntKind.wrap .u8 (nth B i)))=F (IntKind.wrap .u8 (nth A i)) (IntKind.wrap .u8 (nth B i))):Calls Tryz.prog 199 #[va,vb,.func (.func f) #[] #[]] w fun e w'=>∃v,e=.returned v∧NewI w w' v (mkL A.length fun i=>F (IntKind.wrap .u8 (nth A i)) (IntKind.wrap .u8 (nth B i))):=by
 obtain⟨a1,c1,rfl,hra⟩:=hA;obtain⟨a2,c2,rfl,hrb⟩:=hB;obtain⟨m,hm⟩:∃m,m=A.length:=⟨_,rfl⟩;rw[hl]at hrb⊢;rw[←hm]at hrb hra⊢;have hmb:m≤1000000:=by omega
 obtain⟨xs,hxs⟩:∃xs,xs=mkL m fun i=>F (IntKind.wrap .u8 (nth A i)) (IntKind.wrap .u8 (nth B i)):=⟨_,rfl⟩
 have HX:=hid hxs;have HXL:Hid (xs.length=m):=hid (by rw[hxs,mkL_length]);rw[←hxs];have HM:=hid hm.symm;have HL:=hid hl;have HRA:=hid hra;have HRB:=hid hrb;have HF:=hid hF;have HFF:=hid hf;have HFN:=hid hname;have HFB:=hid hbd;have HWA:=hid hwA;have HWB:=hid hwB;have HFR:=hid hFr;have hmk:=fun W=>run_mk (P:=Tryz.prog) 26 3 (.int .i64 0) 8 Tryz.underlying26 Tryz.infoInt rfl (by omega) m (by omega) W
 clear hm hxs hra hrb hb hl hF hf hname hbd hwA hwB hFr;go_enter Tryz.func199,Tryz.ntmps199
 go_wp2
 have HB0:Hid ((w.alloc (.cells (rep m (.int .i64 0)) 3)).heap[w.heap.size]? =some (.cells (ints (fillI xs 0 m)).toArray 3 (0,0))):=hid (by rw[fillI_zero,←rep_ints];exact heap_alloc_new w _);have HK:Hid (Kp0 w (w.alloc (.cells (rep m (.int .i64 0)) 3))):=(Kp.refl _ w).alloc _;obtain⟨b0,hb0⟩:∃b0,b0=w.heap.size:=⟨_,rfl⟩;rw[←hb0]at HB0⊢;have HBB:=hid hb0;clear hb0 hmk;generalize w.alloc (.cells (rep m (.int .i64 0)) 3)=W at HB0 HK⊢
 go_loopw [8,14] (fun _ t w'=>∃k:Nat,k≤m∧t=.int .i64 k∧Hid (Kp0 w w')∧Hid (w'.heap[b0]? =some (.cells (ints (fillI xs k m)).toArray 3 (0,0)))) (fun _ t _=>m-(intOf t).toNat)
 case atStart=>exact⟨0,Nat.zero_le _,rfl,HK,HB0⟩
 case round=>
  clear HB0 HK;obtain⟨k,hk,rfl,HK,HB0⟩:=hrel;by_cases hlt:k<m
  ·have hne:A≠[]:=fun e=>by have:=HM.out;rw[e]at this;simp at this;omega
   have hne2:B≠[]:=fun e=>by have:=HM.out;have:=HL.out;rw[e]at this;simp at this;omega
   obtain⟨g1,o1,rfl,hc1⟩:=HRA.out hne;obtain⟨g2,o2,rfl,hc2⟩:=HRB.out hne2;have q1:=HK.out.cell (hc1 k (by have:=HM.out;omega));have q2:=HK.out.cell (hc2 k (by have:=HM.out;have:=HL.out;omega));clear hc1 hc2 hne hne2;have HV:Hid (nth xs k=F (IntKind.wrap .u8 (nth A k)) (IntKind.wrap .u8 (nth B k))):=hid (by rw[HX.out,mkL_nth,if_pos hlt]);obtain⟨v1,q4⟩:=fillI_cell _ b0 xs k m HXL.out hlt HB0.out;have f1:=frozen_of_row _ b0 k _ _ HB0.out;have HST:=hid (fillI_step _ b0 xs k m HXL.out hlt HB0.out);rw[HV.out]at HST;have q5:=HWA.out k (by have:=HM.out;omega);have q6:=HWB.out k (by have:=HM.out;omega);have q7:=HFR.out k (by have:=HM.out;omega);clear HWA HWB HFR;generalize nth A k=x at*;generalize nth B k=y at*;have HFXY:=hid (HF.out (IntKind.wrap .u8 x) (IntKind.wrap .u8 y));generalize F (IntKind.wrap .u8 x) (IntKind.wrap .u8 y)=r at*;have HKS:Hid (Kp0 w (wr.setCell ⟨b0,k,none⟩ (.int .i64 r)).drew):=Kp.drew (Kp.setCell HK.out ⟨b0,k,none⟩ _ (fun h=>by have:=HBB.out;change b0<_ at h;omega));go_wp2
   go_region_law ((refine step_callv2 (by rfl) f (.tmp 19) (.tmp 24) (.tmp 29) _ (by rfl) (by rfl) fn HFF.out HFN.out HFB.out _ _ (by rfl) (by rfl) (HFXY.out _) ?_;intro v8 w8 hR8;obtain⟨rfl,rfl⟩:=hR8))
   all_goals
    go_wp2
    go_roundw
    case rel=>exact⟨k+1,by omega,by go_num,HKS,HST⟩
    case measure=>simp[intOf];omega
  ·obtain rfl:k=m:=by omega
   go_wp2
   go_ret;exact⟨_,rfl,NewI.made HXL.out (by omega) (by have:=HB0.out;rwa [fillI_end xs k HXL.out]at this) HK.out (by have:=HBB.out;omega)⟩
def opFB(op:Int):Value:=if op=1 then opB1 else if op=2 then opB2 else if op=3 then opB3 else if op=4 then opB4 else opB5
theorem xofB_calls(op:Int)(w:World):Calls Tryz.prog 200 #[.agg #[opB1,opB2,opB3,opB4,opB5],.int .i64 op] w fun e w'=>e=.returned (opFB op)∧Kp0 w w':=by
 have HK:Hid (Kp0 w (w.alloc (.cells #[opB1,opB2,opB3,opB4,opB5] 195))):=(Kp.refl _ w).alloc _;unfold opFB;by_cases h1:op=1
 ·subst h1
  go_enter Tryz.func200,Tryz.ntmps200
  go_wp2
  go_ret;exact⟨rfl,HK.out⟩
 have d1:(op==1)=false:=by simp[h1]
 rw[if_neg h1];by_cases h2:op=2
 ·subst h2
  go_enter Tryz.func200,Tryz.ntmps200
  go_wp2
  go_ret;exact⟨rfl,HK.out⟩
 have d2:(op==2)=false:=by simp[h2]
 rw[if_neg h2];by_cases h3:op=3
 ·subst h3
  go_enter Tryz.func200,Tryz.ntmps200
  go_wp2
  go_ret;exact⟨rfl,HK.out⟩
 have d3:(op==3)=false:=by simp[h3]
 rw[if_neg h3];by_cases h4:op=4
 ·subst h4
  go_enter Tryz.func200,Tryz.ntmps200
  go_wp2
  go_ret;exact⟨rfl,HK.out⟩
 have d4:(op==4)=false:=by simp[h4]
 rw[if_neg h4];clear h1 h2 h3 h4;go_enter Tryz.func200,Tryz.ntmps200
 go_wp2
 go_ret;exact⟨rfl,HK.out⟩
theorem xcombOpB_calls(op:Int)(h1:1≤op)(h5:op≤5)(A B:List Int)(va vb:Value)(w:World)(hA:RdI w va A)(hB:RdI w vb B)(hl:B.length=A.length)(hb:A.length≤1000000)(hwA:∀j,j<A.length→IntKind.i64.wrap (nth A j)=nth A j)(hwB:∀j,j<A.length→IntKind.i64.wrap (nth B j)=nth B j):Calls Tryz.prog 199 #[va,vb,opFB op] w fun e w'=>∃v,e=.returned v∧NewI w w' v (mkL A.length fun i=>opWB op (IntKind.wrap .u8 (nth A i)) (IntKind.wrap .u8 (nth B i))):=by
 have hFr:∀op i,i<A.length→IntKind.i64.wrap (opWB op (IntKind.wrap .u8 (nth A i)) (IntKind.wrap .u8 (nth B i)))=opWB op (IntKind.wrap .u8 (nth A i)) (IntKind.wrap .u8 (nth B i)):=fun op i hi=>opWB_wf op _ _
 have key:op=1∨op=2∨op=3∨op=4∨op=5:=by omega
 rcases key with rfl|rfl|rfl|rfl|rfl
 ·exact xcombineB_calls 159 _ Tryz.func159 (by kernel_rfl) (by kernel_rfl) (opWB 1) (fun x y W=>(xop1B x y W).mono (fun e w' ⟨h,k⟩=>⟨_,h,rfl,k⟩)) A B va vb w hA hB hl hb hwA hwB (hFr _)
 ·exact xcombineB_calls 160 _ Tryz.func160 (by kernel_rfl) (by kernel_rfl) (opWB 2) (fun x y W=>(xop2B x y W).mono (fun e w' ⟨h,k⟩=>⟨_,h,rfl,k⟩)) A B va vb w hA hB hl hb hwA hwB (hFr _)
 ·exact xcombineB_calls 161 _ Tryz.func161 (by kernel_rfl) (by kernel_rfl) (opWB 3) (fun x y W=>(xop3B x y W).mono (fun e w' ⟨h,k⟩=>⟨_,h,rfl,k⟩)) A B va vb w hA hB hl hb hwA hwB (hFr _)
 ·exact xcombineB_calls 162 _ Tryz.func162 (by kernel_rfl) (by kernel_rfl) (opWB 4) (fun x y W=>(xop4B x y W).mono (fun e w' ⟨h,k⟩=>⟨_,h,rfl,k⟩)) A B va vb w hA hB hl hb hwA hwB (hFr _)
 ·exact xcombineB_calls 163 _ Tryz.func163 (by kernel_rfl) (by kernel_rfl) (opWB 5) (fun x y W=>(xop5B x y W).mono (fun e w' ⟨h,k⟩=>⟨_,h,rfl,k⟩)) A B va vb w hA hB hl hb hwA hwB (hFr _)
theorem xCombineB_calls{w:World}{q g:Nat}{vb:Value}{c:List Int}{bs:List (Int×Int)}(h:StAtB w q g vb c bs)(op:Int)(h1:1≤op)(h5:op≤5)(A B:List Int)(x y:Value)(hA:RdI w x A)(hB:RdI w y B)(hl:B.length=A.length)(hb:A.length≤1000000)(hwA:∀j,j<A.length→IntKind.i64.wrap (nth A j)=nth A j)(hwB:∀j,j<A.length→IntKind.i64.wrap (nth B j)=nth B j):Calls Tryz.prog 192 #[.pointer (some ⟨q,0,none⟩),.int .i64 op,x,y] w fun e w'=>∃v,e=.returned v∧NewI w w' v (mkL A.length fun i=>opWB op (IntKind.wrap .u8 (nth A i)) (IntKind.wrap .u8 (nth B i))):=by
 have HO:Hid (∀W,Calls Tryz.prog 200 #[.agg #[opB1,opB2,opB3,opB4,opB5],.int .i64 op] W fun e w'=>e=.returned (opFB op)∧Kp0 W w'):=fun W=>xofB_calls op W
 have HC:Hid (∀W,Kp0 w W→Calls Tryz.prog 199 #[x,y,opFB op] W fun e w'=>∃v,e=.returned v∧NewI w w' v (mkL A.length fun i=>opWB op (IntKind.wrap .u8 (nth A i)) (IntKind.wrap .u8 (nth B i)))):=fun W k=>(xcombOpB_calls op h1 h5 A B x y W (hA.kp0 k) (hB.kp0 k) hl hb hwA hwB).mono (fun e w' ⟨v,e1,ao,c,e2,n1,n2,n3⟩=>⟨v,e1,ao,c,e2,n1,Kp0.trans k n2,fun b hb=>Nat.le_trans k.size (n3 b hb)⟩)
 have q2:w.cell? ⟨q,2,none⟩=some opB1:=cell_of_row w q 2 _ _ _ h.blk;have q3:w.cell? ⟨q,3,none⟩=some opB2:=cell_of_row w q 3 _ _ _ h.blk;have q4:w.cell? ⟨q,4,none⟩=some opB3:=cell_of_row w q 4 _ _ _ h.blk;have q5:w.cell? ⟨q,5,none⟩=some opB4:=cell_of_row w q 5 _ _ _ h.blk;have q6:w.cell? ⟨q,6,none⟩=some opB5:=cell_of_row w q 6 _ _ _ h.blk;generalize (mkL A.length fun i=>opWB op (IntKind.wrap .u8 (nth A i)) (IntKind.wrap .u8 (nth B i)))=V at*;clear h hA hB hl hb h1 h5 hwA hwB;go_enter Tryz.func192,Tryz.ntmps192
 go_wp2_with fail
 refine(HO.out _).mono ?_;rintro e w2 ⟨rfl,hk⟩;have HK:=hid hk;clear hk
 go_wp2_with fail
 refine(HC.out _ HK.out).mono ?_;rintro e w3 ⟨v,rfl,hn⟩;have HN:=hid hn;clear hn;obtain⟨ao,cc,hv,-⟩:=HN.out;subst hv;go_wp2
 go_ret;exact⟨_,rfl,HN.out⟩
def opWI(op a b:Int):Int:=if op=1 then IntKind.wrap .i64 (a+b)else if op=2 then IntKind.wrap .i64 (a-b)else if op=3 then IntKind.wrap .i64 (a*b)else if op=4 then(if b<a then b else a)else(if a<b then b else a)
theorem wrapSI_range(v:Int):IntKind.i64.wrap (IntKind.wrap .i64 v)=IntKind.wrap .i64 v:=by
 simp[IntKind.wrap,IntKind.signed,IntKind.bits]
 try omega
theorem opWI_wf(op a b:Int):IntKind.i64.wrap (opWI op (IntKind.wrap .i64 a) (IntKind.wrap .i64 b))=opWI op (IntKind.wrap .i64 a) (IntKind.wrap .i64 b):=by
 unfold opWI
 repeat' split
 all_goals exact wrapSI_range _
theorem wrap64_eqI(v:Int):wrap64 v=IntKind.i64.wrap v:=by
 unfold wrap64;exact(IntKind.wrap_i64 v).symm
theorem xop1I(a b:Int)(w:World):Calls Tryz.prog 164 #[.int .i64 a,.int .i64 b] w fun e w'=>e=.returned (.int .i64 (opWI 1 a b))∧w'=w:=by
 go_enter Tryz.func164,Tryz.ntmps164
 go_wp2
 go_ret;exact⟨by simp[opWI,wrap64_eqI],rfl⟩
theorem xop2I(a b:Int)(w:World):Calls Tryz.prog 165 #[.int .i64 a,.int .i64 b] w fun e w'=>e=.returned (.int .i64 (opWI 2 a b))∧w'=w:=by
 go_enter Tryz.func165,Tryz.ntmps165
 go_wp2
 go_ret;exact⟨by simp[opWI,wrap64_eqI],rfl⟩
theorem xop3I(a b:Int)(w:World):Calls Tryz.prog 166 #[.int .i64 a,.int .i64 b] w fun e w'=>e=.returned (.int .i64 (opWI 3 a b))∧w'=w:=by
 go_enter Tryz.func166,Tryz.ntmps166
 go_wp2
 go_ret;exact⟨by simp[opWI,wrap64_eqI],rfl⟩
theorem xop4I(a b:Int)(w:World):Calls Tryz.prog 167 #[.int .i64 a,.int .i64 b] w fun e w'=>e=.returned (.int .i64 (opWI 4 a b))∧w'=w:=by
 go_enter Tryz.func167,Tryz.ntmps167
 go_wp2
 all_goals
  go_ret;exact⟨by simp[opWI];omega,rfl⟩
theorem xop5I(a b:Int)(w:World):Calls Tryz.prog 168 #[.int .i64 a,.int .i64 b] w fun e w'=>e=.returned (.int .i64 (opWI 5 a b))∧w'=w:=by
 go_enter Tryz.func168,Tryz.ntmps168
 go_wp2
 all_goals
  go_ret;exact⟨by simp[opWI];omega,rfl⟩
theorem xcombineI_calls(f:FuncId)(fn:Func)(hf:Tryz.prog.funcs[f]? =some fn)(hname:(fn.name== "runtime.NumGoroutine")=false)(hbd:fn.body.isSome=true)(F:Int→Int→Int)(hF:∀x y W,Calls Tryz.prog f #[.int .i64 x,.int .i64 y] W fun e w'=>∃v,e=.returned v∧(v=.int .i64 (F x y)∧w'=W))(A B:List Int)(va vb:Value)(w:World)(hA:RdI w va A)(hB:RdI w vb B)(hl:B.length=A.length)(hb:A.length≤1000000)(hwA:∀j,j<A.length→IntKind.i64.wrap (nth A j)=nth A j)(hwB:∀j,j<A.length→IntKind.i64.wrap (nth B j)=nth B j)(hFr:∀i,i<A.length→IntKind.i64.wrap (F (IntKind.wrap .i64 (nth A i)) (IntKind.wrap .i64 (nth B i)))=F (IntKind.wrap .i64 (nth A i)) (IntKind.wrap .i64 (nth B i))):Calls Tryz.prog 220 #[va,vb,.func (.func f) #[] #[]] w fun e w'=>∃v,e=.returned v∧NewI w w' v (mkL A.length fun i=>F (IntKind.wrap .i64 (nth A i)) (IntKind.wrap .i64 (nth B i))):=by
 obtain⟨a1,c1,rfl,hra⟩:=hA;obtain⟨a2,c2,rfl,hrb⟩:=hB;obtain⟨m,hm⟩:∃m,m=A.length:=⟨_,rfl⟩;rw[hl]at hrb⊢;rw[←hm]at hrb hra⊢;have hmb:m≤1000000:=by omega
 obtain⟨xs,hxs⟩:∃xs,xs=mkL m fun i=>F (IntKind.wrap .i64 (nth A i)) (IntKind.wrap .i64 (nth B i)):=⟨_,rfl⟩
 have HX:=hid hxs;have HXL:Hid (xs.length=m):=hid (by rw[hxs,mkL_length]);rw[←hxs];have HM:=hid hm.symm;have HL:=hid hl;have HRA:=hid hra;have HRB:=hid hrb;have HF:=hid hF;have HFF:=hid hf;have HFN:=hid hname;have HFB:=hid hbd;have HWA:=hid hwA;have HWB:=hid hwB;have HFR:=hid hFr;have hmk:=fun W=>run_mk (P:=Tryz.prog) 26 3 (.int .i64 0) 8 Tryz.underlying26 Tryz.infoInt rfl (by omega) m (by omega) W
 clear hm hxs hra hrb hb hl hF hf hname hbd hwA hwB hFr;go_enter Tryz.func220,Tryz.ntmps220
 go_wp2
 have HB0:Hid ((w.alloc (.cells (rep m (.int .i64 0)) 3)).heap[w.heap.size]? =some (.cells (ints (fillI xs 0 m)).toArray 3 (0,0))):=hid (by rw[fillI_zero,←rep_ints];exact heap_alloc_new w _);have HK:Hid (Kp0 w (w.alloc (.cells (rep m (.int .i64 0)) 3))):=(Kp.refl _ w).alloc _;obtain⟨b0,hb0⟩:∃b0,b0=w.heap.size:=⟨_,rfl⟩;rw[←hb0]at HB0⊢;have HBB:=hid hb0;clear hb0 hmk;generalize w.alloc (.cells (rep m (.int .i64 0)) 3)=W at HB0 HK⊢
 go_loopw [8,14] (fun _ t w'=>∃k:Nat,k≤m∧t=.int .i64 k∧Hid (Kp0 w w')∧Hid (w'.heap[b0]? =some (.cells (ints (fillI xs k m)).toArray 3 (0,0)))) (fun _ t _=>m-(intOf t).toNat)
 case atStart=>exact⟨0,Nat.zero_le _,rfl,HK,HB0⟩
 case round=>
  clear HB0 HK;obtain⟨k,hk,rfl,HK,HB0⟩:=hrel;by_cases hlt:k<m
  ·have hne:A≠[]:=fun e=>by have:=HM.out;rw[e]at this;simp at this;omega
   have hne2:B≠[]:=fun e=>by have:=HM.out;have:=HL.out;rw[e]at this;simp at this;omega
   obtain⟨g1,o1,rfl,hc1⟩:=HRA.out hne;obtain⟨g2,o2,rfl,hc2⟩:=HRB.out hne2;have q1:=HK.out.cell (hc1 k (by have:=HM.out;omega));have q2:=HK.out.cell (hc2 k (by have:=HM.out;have:=HL.out;omega));clear hc1 hc2 hne hne2;have HV:Hid (nth xs k=F (IntKind.wrap .i64 (nth A k)) (IntKind.wrap .i64 (nth B k))):=hid (by rw[HX.out,mkL_nth,if_pos hlt]);obtain⟨v1,q4⟩:=fillI_cell _ b0 xs k m HXL.out hlt HB0.out;have f1:=frozen_of_row _ b0 k _ _ HB0.out;have HST:=hid (fillI_step _ b0 xs k m HXL.out hlt HB0.out);rw[HV.out]at HST;have q5:=HWA.out k (by have:=HM.out;omega);have q6:=HWB.out k (by have:=HM.out;omega);have q7:=HFR.out k (by have:=HM.out;omega);clear HWA HWB HFR;generalize nth A k=x at*;generalize nth B k=y at*;rw[q5,q6]at q7 HV HST;have HFXY:=hid (HF.out x y);generalize F x y=r at*;have HKS:Hid (Kp0 w (wr.setCell ⟨b0,k,none⟩ (.int .i64 r)).drew):=Kp.drew (Kp.setCell HK.out ⟨b0,k,none⟩ _ (fun h=>by have:=HBB.out;change b0<_ at h;omega));go_wp2
   go_region_law ((refine step_callv2 (by rfl) f (.tmp 19) (.tmp 23) (.tmp 27) _ (by rfl) (by rfl) fn HFF.out HFN.out HFB.out _ _ (by rfl) (by rfl) (HFXY.out _) ?_;intro v8 w8 hR8;obtain⟨rfl,rfl⟩:=hR8))
   all_goals
    go_wp2
    go_roundw
    case rel=>exact⟨k+1,by omega,by go_num,HKS,HST⟩
    case measure=>simp[intOf];omega
  ·obtain rfl:k=m:=by omega
   go_wp2
   go_ret;exact⟨_,rfl,NewI.made HXL.out (by omega) (by have:=HB0.out;rwa [fillI_end xs k HXL.out]at this) HK.out (by have:=HBB.out;omega)⟩
def opFI(op:Int):Value:=if op=1 then opI1 else if op=2 then opI2 else if op=3 then opI3 else if op=4 then opI4 else opI5
theorem xofI_calls(op:Int)(w:World):Calls Tryz.prog 221 #[.agg #[opI1,opI2,opI3,opI4,opI5],.int .i64 op] w fun e w'=>e=.returned (opFI op)∧Kp0 w w':=by
 have HK:Hid (Kp0 w (w.alloc (.cells #[opI1,opI2,opI3,opI4,opI5] 203))):=(Kp.refl _ w).alloc _;unfold opFI;by_cases h1:op=1
 ·subst h1
  go_enter Tryz.func221,Tryz.ntmps221
  go_wp2
  go_ret;exact⟨rfl,HK.out⟩
 have d1:(op==1)=false:=by simp[h1]
 rw[if_neg h1];by_cases h2:op=2
 ·subst h2
  go_enter Tryz.func221,Tryz.ntmps221
  go_wp2
  go_ret;exact⟨rfl,HK.out⟩
 have d2:(op==2)=false:=by simp[h2]
 rw[if_neg h2];by_cases h3:op=3
 ·subst h3
  go_enter Tryz.func221,Tryz.ntmps221
  go_wp2
  go_ret;exact⟨rfl,HK.out⟩
 have d3:(op==3)=false:=by simp[h3]
 rw[if_neg h3];by_cases h4:op=4
 ·subst h4
  go_enter Tryz.func221,Tryz.ntmps221
  go_wp2
  go_ret;exact⟨rfl,HK.out⟩
 have d4:(op==4)=false:=by simp[h4]
 rw[if_neg h4];clear h1 h2 h3 h4;go_enter Tryz.func221,Tryz.ntmps221
 go_wp2
 go_ret;exact⟨rfl,HK.out⟩
theorem xcombOpI_calls(op:Int)(h1:1≤op)(h5:op≤5)(A B:List Int)(va vb:Value)(w:World)(hA:RdI w va A)(hB:RdI w vb B)(hl:B.length=A.length)(hb:A.length≤1000000)(hwA:∀j,j<A.length→IntKind.i64.wrap (nth A j)=nth A j)(hwB:∀j,j<A.length→IntKind.i64.wrap (nth B j)=nth B j):Calls Tryz.prog 220 #[va,vb,opFI op] w fun e w'=>∃v,e=.returned v∧NewI w w' v (mkL A.length fun i=>opWI op (IntKind.wrap .i64 (nth A i)) (IntKind.wrap .i64 (nth B i))):=by
 have hFr:∀op i,i<A.length→IntKind.i64.wrap (opWI op (IntKind.wrap .i64 (nth A i)) (IntKind.wrap .i64 (nth B i)))=opWI op (IntKind.wrap .i64 (nth A i)) (IntKind.wrap .i64 (nth B i)):=fun op i hi=>opWI_wf op _ _
 have key:op=1∨op=2∨op=3∨op=4∨op=5:=by omega
 rcases key with rfl|rfl|rfl|rfl|rfl
 ·exact xcombineI_calls 164 _ Tryz.func164 (by kernel_rfl) (by kernel_rfl) (opWI 1) (fun x y W=>(xop1I x y W).mono (fun e w' ⟨h,k⟩=>⟨_,h,rfl,k⟩)) A B va vb w hA hB hl hb hwA hwB (hFr _)
 ·exact xcombineI_calls 165 _ Tryz.func165 (by kernel_rfl) (by kernel_rfl) (opWI 2) (fun x y W=>(xop2I x y W).mono (fun e w' ⟨h,k⟩=>⟨_,h,rfl,k⟩)) A B va vb w hA hB hl hb hwA hwB (hFr _)
 ·exact xcombineI_calls 166 _ Tryz.func166 (by kernel_rfl) (by kernel_rfl) (opWI 3) (fun x y W=>(xop3I x y W).mono (fun e w' ⟨h,k⟩=>⟨_,h,rfl,k⟩)) A B va vb w hA hB hl hb hwA hwB (hFr _)
 ·exact xcombineI_calls 167 _ Tryz.func167 (by kernel_rfl) (by kernel_rfl) (opWI 4) (fun x y W=>(xop4I x y W).mono (fun e w' ⟨h,k⟩=>⟨_,h,rfl,k⟩)) A B va vb w hA hB hl hb hwA hwB (hFr _)
 ·exact xcombineI_calls 168 _ Tryz.func168 (by kernel_rfl) (by kernel_rfl) (opWI 5) (fun x y W=>(xop5I x y W).mono (fun e w' ⟨h,k⟩=>⟨_,h,rfl,k⟩)) A B va vb w hA hB hl hb hwA hwB (hFr _)
theorem xCombineI_calls{w:World}{q g:Nat}{vb:Value}{c:List Int}{bs:List (Int×Int)}(h:StAtI w q g vb c bs)(op:Int)(h1:1≤op)(h5:op≤5)(A B:List Int)(x y:Value)(hA:RdI w x A)(hB:RdI w y B)(hl:B.length=A.length)(hb:A.length≤1000000)(hwA:∀j,j<A.length→IntKind.i64.wrap (nth A j)=nth A j)(hwB:∀j,j<A.length→IntKind.i64.wrap (nth B j)=nth B j):Calls Tryz.prog 212 #[.pointer (some ⟨q,0,none⟩),.int .i64 op,x,y] w fun e w'=>∃v,e=.returned v∧NewI w w' v (mkL A.length fun i=>opWI op (IntKind.wrap .i64 (nth A i)) (IntKind.wrap .i64 (nth B i))):=by
 have HO:Hid (∀W,Calls Tryz.prog 221 #[.agg #[opI1,opI2,opI3,opI4,opI5],.int .i64 op] W fun e w'=>e=.returned (opFI op)∧Kp0 W w'):=fun W=>xofI_calls op W
 have HC:Hid (∀W,Kp0 w W→Calls Tryz.prog 220 #[x,y,opFI op] W fun e w'=>∃v,e=.returned v∧NewI w w' v (mkL A.length fun i=>opWI op (IntKind.wrap .i64 (nth A i)) (IntKind.wrap .i64 (nth B i)))):=fun W k=>(xcombOpI_calls op h1 h5 A B x y W (hA.kp0 k) (hB.kp0 k) hl hb hwA hwB).mono (fun e w' ⟨v,e1,ao,c,e2,n1,n2,n3⟩=>⟨v,e1,ao,c,e2,n1,Kp0.trans k n2,fun b hb=>Nat.le_trans k.size (n3 b hb)⟩)
 have q2:w.cell? ⟨q,2,none⟩=some opI1:=cell_of_row w q 2 _ _ _ h.blk;have q3:w.cell? ⟨q,3,none⟩=some opI2:=cell_of_row w q 3 _ _ _ h.blk;have q4:w.cell? ⟨q,4,none⟩=some opI3:=cell_of_row w q 4 _ _ _ h.blk;have q5:w.cell? ⟨q,5,none⟩=some opI4:=cell_of_row w q 5 _ _ _ h.blk;have q6:w.cell? ⟨q,6,none⟩=some opI5:=cell_of_row w q 6 _ _ _ h.blk;generalize (mkL A.length fun i=>opWI op (IntKind.wrap .i64 (nth A i)) (IntKind.wrap .i64 (nth B i)))=V at*;clear h hA hB hl hb h1 h5 hwA hwB;go_enter Tryz.func212,Tryz.ntmps212
 go_wp2_with fail
 refine(HO.out _).mono ?_;rintro e w2 ⟨rfl,hk⟩;have HK:=hid hk;clear hk
 go_wp2_with fail
 refine(HC.out _ HK.out).mono ?_;rintro e w3 ⟨v,rfl,hn⟩;have HN:=hid hn;clear hn;obtain⟨ao,cc,hv,-⟩:=HN.out;subst hv;go_wp2
 go_ret;exact⟨_,rfl,HN.out⟩
end Go.Proofs.YticbbncdcannlaaGreat
