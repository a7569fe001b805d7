import Derived.Handy
import Derived.Test.YticbbncdcannlaaGreatG02
import Derived.Test.YticbbncdcannlaaGreatG10
set_option maxRecDepth 100000
set_option maxHeartbeats 8000000
namespace Go.Proofs.YticbbncdcannlaaGreat
open Go.RowKit
theorem Tryz.szShape:(Tryz.prog.info? 104).map (·.size)=some 5:=by kernel_rfl
def padTo(s:List Int)(k j:Nat):Int:=if j<k then nth s j else 0
abbrev fillB(s:List Int)(k n:Nat):Obj:=.cells #[.int .i64 (padTo s k 0),.int .i64 (padTo s k 1),.int .i64 (padTo s k 2),.int .i64 (padTo s k 3),.int .i64 (n:Int)] 104
theorem fill_step(w:World)(b:Nat)(s:List Int)(k n:Nat)(h:k<4)(hb:w.heap[b]? =some (fillB s k n)):(w.setCell ⟨b,k,none⟩ (.int .i64 (nth s k))).heap[b]? =some (fillB s (k+1) n):=by
 rw[heap_setCell_same w b k _ _ _ hb]
 match k,h with
 |0,_=>rfl
 |1,_=>rfl
 |2,_=>rfl
 |3,_=>rfl
theorem fill_cell(w:World)(b:Nat)(s:List Int)(k n:Nat)(h:k<4)(hb:w.heap[b]? =some (fillB s k n)):∃v,w.cell? ⟨b,k,none⟩=some v:=by
 rw[cell_of_row w b k _ _ _ hb]
 match k,h with
 |0,_=>exact⟨_,rfl⟩
 |1,_=>exact⟨_,rfl⟩
 |2,_=>exact⟨_,rfl⟩
 |3,_=>exact⟨_,rfl⟩
theorem nth_out{s:List Int}{j:Nat}(h:s.length≤j):nth s j=0:=by simp[nth,List.getD,List.getElem?_eq_none h]
theorem padTo_all{s:List Int}{n:Nat}(h:s.length=n)(j:Nat):padTo s n j=nth s j:=by
 unfold padTo;split
 ·rfl
 ·rw[nth_out (by omega)]
theorem fill_end(s:List Int)(n:Nat)(h:s.length=n):fillB s n n=shB s n:=by simp[padTo_all h]
abbrev zeroB:Obj:=.cells #[.int .i64 0,.int .i64 0,.int .i64 0,.int .i64 0,.int .i64 0] 104
theorem xshape_long(a:Option Addr)(n c:Nat)(w:World)(h:4<n):Calls Tryz.prog 56 #[.slice a n c] w fun e w'=>e=.returned (.tuple #[.agg (shC []).toArray,.bool false])∧Kp0 w w':=by
 have h1:decide ((4:Int)<(n:Int))=true:=by simp;omega
 go_enter Tryz.func56,Tryz.ntmps56
 go_wp2
 go_returns
 exact⟨rfl,(Kp.refl _ w).alloc _⟩
theorem xshape_any(g o c:Nat)(s:List Int)(n:Nat)(w:World)(HN:Hid (s.length=n))(hl:n≤4)(h1:∀j,j<n→w.cell? ⟨g,o+j,none⟩=some (.int .i64 (nth s j)))(R:Value)(HRR:Hid (R=.tuple #[.agg (shC (if shapeB s=true then s else[])).toArray,.bool (shapeB s)])):Calls Tryz.prog 56 #[.slice (some ⟨g,o,none⟩) n c] w fun e w'=>e=.returned R∧Kp0 w w':=by
 have d1:decide ((4:Int)<(n:Int))=false:=by simp;omega
 have HR:=hid h1;clear h1;go_enter Tryz.func56,Tryz.ntmps56
 go_wp2
 have HB0:Hid (((w.alloc zeroB).alloc (fillB s 0 n)).heap[w.heap.size]? =some zeroB):=heap_alloc2_old w _ _;have HB1:Hid (((w.alloc zeroB).alloc (fillB s 0 n)).heap[w.heap.size+1]? =some (fillB s 0 n)):=heap_alloc2_new w _ _;have HK:Hid (Kp0 w ((w.alloc zeroB).alloc (fillB s 0 n))):=((Kp.refl _ w).alloc _).alloc _;obtain⟨b0,hb0⟩:∃b0,b0=w.heap.size:=⟨_,rfl⟩;rw[←hb0];rw[show w.heap.size+1=b0+1 by rw[hb0]]at HB1;rw[←hb0]at HB0;have HBB:=hid hb0;clear hb0;have e0:((w.alloc (.cells #[.int .i64 0,.int .i64 0,.int .i64 0,.int .i64 0,.int .i64 0] 104)).alloc (.cells #[.int .i64 0,.int .i64 0,.int .i64 0,.int .i64 0,.int .i64 (n:Int)] 104))=(w.alloc zeroB).alloc (fillB s 0 n):=rfl;rw[e0];clear e0;generalize (w.alloc zeroB).alloc (fillB s 0 n)=W at HB0 HB1 HK⊢
 go_loopw [5,6,16] (fun _ _ t w'=>∃k:Nat,k≤n∧t=.int .i64 k∧Hid (∀j,j<k→1≤nth s j∧nth s j≤60)∧Hid (Kp0 w w')∧Hid (w'.heap[b0]? =some zeroB)∧Hid (w'.heap[b0+1]? =some (fillB s k n))) (fun _ _ t _=>n-(intOf t).toNat)
 case atStart=>exact⟨0,Nat.zero_le _,rfl,fun j hj=>by omega,HK,HB0,HB1⟩
 case round=>
  clear HB0 HB1 HK;obtain⟨k,hk,rfl,HIN,HK,HB0,HB1⟩:=hrel;by_cases hlt:k<n
  ·have q2:=HK.out.cell (HR.out k hlt)
   obtain⟨v1,q1⟩:=fill_cell _ (b0+1) s k n (by omega) HB1.out;have f1:=frozen_of_row _ (b0+1) k _ _ HB1.out;have k1:(k:Int)<4:=by omega
   have z0:=cell_of_row _ b0 0 _ _ _ HB0.out;have z1:=cell_of_row _ b0 1 _ _ _ HB0.out;have z2:=cell_of_row _ b0 2 _ _ _ HB0.out;have z3:=cell_of_row _ b0 3 _ _ _ HB0.out;have z4:=cell_of_row _ b0 4 _ _ _ HB0.out;have y0:=frozen_of_row _ b0 0 _ _ HB0.out;have y1:=frozen_of_row _ b0 1 _ _ HB0.out;have y2:=frozen_of_row _ b0 2 _ _ HB0.out;have y3:=frozen_of_row _ b0 3 _ _ HB0.out;have y4:=frozen_of_row _ b0 4 _ _ HB0.out;simp at z0 z1 z2 z3 z4;by_cases h0:nth s k<1
   ·have d1:decide (nth s k<1)=true:=by simp[h0]
    have HF:Hid (shapeB s=false):=by
     rw[←Bool.not_eq_true];exact fun e=>by have:=((shapeB_iff s).1 e).2.1 k (by have:=HN.out;omega);omega
    go_wp2
    (try simp only[Exit.inBlock,Exit.then])
    refine bodyPost_ret (res_cell2 rfl _ _ b0 _ _ _ _ rfl (chain5 _ b0 _ _ _ _ _ _ _ _ _ _ _ HB0.out) Tryz.underlying104 rfl Tryz.szShape) rfl ?_;rw[HRR.out,HF.out];exact⟨rfl,kchain5 HK.out b0 _ _ _ _ _ (fun h=>by have:=HBB.out;omega)⟩
   ·have d1:decide (nth s k<1)=false:=by simp[h0]
    by_cases hg:60<nth s k
    ·have d2:decide (60<nth s k)=true:=by simp[hg]
     have HF:Hid (shapeB s=false):=by
      rw[←Bool.not_eq_true];exact fun e=>by have:=((shapeB_iff s).1 e).2.1 k (by have:=HN.out;omega);omega
     go_wp2
     (try simp only[Exit.inBlock,Exit.then])
     refine bodyPost_ret (res_cell2 rfl _ _ b0 _ _ _ _ rfl (chain5 _ b0 _ _ _ _ _ _ _ _ _ _ _ HB0.out) Tryz.underlying104 rfl Tryz.szShape) rfl ?_;rw[HRR.out,HF.out];exact⟨rfl,kchain5 HK.out b0 _ _ _ _ _ (fun h=>by have:=HBB.out;omega)⟩
    ·have d2:decide (60<nth s k)=false:=by simp[hg]
     have HS:Hid (∀j,j<k+1→1≤nth s j∧nth s j≤60):=fun j hj=>by
      rcases Nat.lt_succ_iff_lt_or_eq.1 hj with h|h
      ·exact HIN.out j h
      ·subst h;omega
     go_wp2
     go_roundw
     case rel=>exact⟨k+1,by omega,by go_num,HS,HK.out.setCell _ _ (fun h=>by have:=HBB.out;change b0+1<_ at h;omega),hid (by rw[heap_setCell_other _ _ _ _ (by show b0≠b0+1;omega)];exact HB0.out),fill_step _ (b0+1) s k n (by omega) HB1.out⟩
     case measure=>simp[intOf];omega
  ·obtain rfl:k=n:=by omega
   have HSZ:Hid (sized s):=fun j hj=>HIN.out j (by have:=HN.out;omega)
   have HVB:Hid (shapeB s=decide (vol s≤3600)):=hid<|by
    have h1:decide (s.length≤4)=true:=by simp;have:=HN.out;omega
    simp[shapeB,(sizedB_iff s).2 HSZ.out,h1]
   rw[fill_end s k HN.out]at HB1;have c0:=cell_of_row _ (b0+1) 0 _ _ _ HB1.out;have c1:=cell_of_row _ (b0+1) 1 _ _ _ HB1.out;have c2:=cell_of_row _ (b0+1) 2 _ _ _ HB1.out;have c3:=cell_of_row _ (b0+1) 3 _ _ _ HB1.out;have c4:=cell_of_row _ (b0+1) 4 _ _ _ HB1.out;simp at c0 c1 c2 c3 c4;have HV:=fun w0=>xvolume_calls s w0 HSZ.out (by have:=HN.out;omega)
   unfold shC at HV;rw[HN.out]at HV;have HVV:=hid HV;clear HV
   go_wp2_with fail
   refine(HVV.out _).mono ?_;rintro e w2 ⟨rfl,hw⟩;have HB0':Hid (w2.heap[b0]? =some zeroB):=hw.heap HB0.out;have d0:=hw.cell c0;have d1:=hw.cell c1;have d2:=hw.cell c2;have d3:=hw.cell c3;have d4:=hw.cell c4;have HW:Hid (Kp0 w w2):=HK.out.trans hw;clear hw c0 c1 c2 c3 c4;have z0:=cell_of_row _ b0 0 _ _ _ HB0'.out;have z1:=cell_of_row _ b0 1 _ _ _ HB0'.out;have z2:=cell_of_row _ b0 2 _ _ _ HB0'.out;have z3:=cell_of_row _ b0 3 _ _ _ HB0'.out;have z4:=cell_of_row _ b0 4 _ _ _ HB0'.out;have y0:=frozen_of_row _ b0 0 _ _ HB0'.out;have y1:=frozen_of_row _ b0 1 _ _ HB0'.out;have y2:=frozen_of_row _ b0 2 _ _ HB0'.out;have y3:=frozen_of_row _ b0 3 _ _ HB0'.out;have y4:=frozen_of_row _ b0 4 _ _ HB0'.out;simp at z0 z1 z2 z3 z4;by_cases hv:3600<vol s
   ·have e1:decide (3600<vol s)=true:=by simp[hv]
    have HF:Hid (shapeB s=false):=hid (by rw[HVB.out];simp;omega);go_wp2
    (try simp only[Exit.inBlock,Exit.then])
    refine bodyPost_ret (res_cell2 rfl _ _ b0 _ _ _ _ rfl (chain5 _ b0 _ _ _ _ _ _ _ _ _ _ _ HB0'.out) Tryz.underlying104 rfl Tryz.szShape) rfl ?_;rw[HRR.out,HF.out];exact⟨rfl,kchain5 HW.out b0 _ _ _ _ _ (fun h=>by have:=HBB.out;omega)⟩
   ·have e1:decide (3600<vol s)=false:=by simp[hv]
    have HF:Hid (shapeB s=true):=hid (by rw[HVB.out];simp;omega);go_wp2
    (try simp only[Exit.inBlock,Exit.then])
    refine bodyPost_ret (res_cell2 rfl _ _ b0 _ _ _ _ rfl (chain5 _ b0 _ _ _ _ _ _ _ _ _ _ _ HB0'.out) Tryz.underlying104 rfl Tryz.szShape) rfl ?_;rw[HRR.out,HF.out];refine⟨?_,kchain5 HW.out b0 _ _ _ _ _ (fun h=>by have:=HBB.out;omega)⟩;simp[shC,HN.out]
theorem xshape_nil(a:Option Addr)(c:Nat)(w:World):Calls Tryz.prog 56 #[.slice a 0 c] w fun e w'=>e=.returned (.tuple #[.agg (shC []).toArray,.bool true])∧Kp0 w w':=by
 have HV:=fun w0=>xvolume_calls [] w0 (fun j hj=>by simp at hj) (by simp)
 have e0:(shC []).toArray= #[.int .i64 0,.int .i64 0,.int .i64 0,.int .i64 0,.int .i64 0]:=rfl;rw[e0]at HV;rw[e0];have HVV:=hid HV;clear HV e0;go_enter Tryz.func56,Tryz.ntmps56
 go_wp2
 refine wp_loop_rounds 1 ?_;rw[rounds_succ]
 go_wp2_with fail
 refine(HVV.out _).mono ?_;rintro e w2 ⟨rfl,hw⟩;have HB0:Hid (w2.heap[w.heap.size]? =some zeroB):=hw.heap (heap_alloc2_old w _ _);have HB1:=cell_of_row _ (w.heap.size+1) 0 _ _ _ (hw.heap (heap_alloc2_new w _ _));have c1:=cell_of_row _ (w.heap.size+1) 1 _ _ _ (hw.heap (heap_alloc2_new w _ _));have c2:=cell_of_row _ (w.heap.size+1) 2 _ _ _ (hw.heap (heap_alloc2_new w _ _));have c3:=cell_of_row _ (w.heap.size+1) 3 _ _ _ (hw.heap (heap_alloc2_new w _ _));have c4:=cell_of_row _ (w.heap.size+1) 4 _ _ _ (hw.heap (heap_alloc2_new w _ _));simp at HB1 c1 c2 c3 c4;have HW:Hid (Kp0 w w2):=Kp0.trans (((Kp.refl _ w).alloc _).alloc _) hw;clear hw;obtain⟨b0,hb0⟩:∃b0,b0=w.heap.size:=⟨_,rfl⟩;rw[←hb0]at HB0 HB1 c1 c2 c3 c4⊢;have HBB:=hid hb0;clear hb0;have z0:=cell_of_row _ b0 0 _ _ _ HB0.out;have z1:=cell_of_row _ b0 1 _ _ _ HB0.out;have z2:=cell_of_row _ b0 2 _ _ _ HB0.out;have z3:=cell_of_row _ b0 3 _ _ _ HB0.out;have z4:=cell_of_row _ b0 4 _ _ _ HB0.out;have y0:=frozen_of_row _ b0 0 _ _ HB0.out;have y1:=frozen_of_row _ b0 1 _ _ HB0.out;have y2:=frozen_of_row _ b0 2 _ _ HB0.out;have y3:=frozen_of_row _ b0 3 _ _ HB0.out;have y4:=frozen_of_row _ b0 4 _ _ HB0.out;simp at z0 z1 z2 z3 z4;rw[show vol []=1 from rfl];go_wp2
 (try simp only[Exit.inBlock,Exit.then])
 refine bodyPost_ret (res_cell2 rfl _ _ b0 _ _ _ _ rfl (chain5 _ b0 _ _ _ _ _ _ _ _ _ _ _ HB0.out) Tryz.underlying104 rfl Tryz.szShape) rfl ?_;exact⟨rfl,kchain5 HW.out b0 _ _ _ _ _ (fun h=>by have:=HBB.out;omega)⟩
theorem xshape_calls(v:Value)(s:List Int)(w:World)(hr:RdI w v s):Calls Tryz.prog 56 #[v] w fun e w'=>e=.returned (.tuple #[.agg (shC (if shapeB s=true then s else[])).toArray,.bool (shapeB s)])∧Kp0 w w':=by
 obtain⟨a,c,rfl,h⟩:=hr;by_cases hx:s=[]
 ·subst hx
  exact xshape_nil a c w
 ·by_cases hl:s.length≤4
  ·obtain⟨g,o,rfl,h'⟩:=h hx
   exact xshape_any g o c s s.length w rfl hl h' _ rfl
  ·have hf:shapeB s=false:=by
    rw[←Bool.not_eq_true,shapeB_iff];exact fun h=>hl h.1
   rw[hf];exact xshape_long a _ c w (by omega)
end Go.Proofs.YticbbncdcannlaaGreat
