import Derived.Deep.RegionLaw
import Derived.BigRegion
import Derived.Test.YticbbncdcannlaaGreatG11
import Derived.Test.YticbbncdcannlaaGreatG17
set_option maxRecDepth 100000
set_option maxHeartbeats 8000000
namespace Go.Proofs.YticbbncdcannlaaGreat
open Go.RowKit
theorem Tryz.szOpsB:(Tryz.prog.info? 195).map (·.size)=some 5:=by kernel_rfl
theorem Tryz.infoNB:(Tryz.prog.info? 5).map (fun i=>(i.zero,i.size,i.bytes))=some (some (.int .u8 0),1,1):=by kernel_rfl
theorem xnewOpsB_calls(w:World):Calls Tryz.prog 135 #[] w fun e w'=>∃v,e=.returned v∧(v=.agg #[opB1,opB2,opB3,opB4,opB5]∧Kp0 w w'):=by
 have HB0:Hid ((w.alloc (.cells #[.nilFunc,.nilFunc,.nilFunc,.nilFunc,.nilFunc] 195)).heap[w.heap.size]? =some (.cells #[.nilFunc,.nilFunc,.nilFunc,.nilFunc,.nilFunc] 195 (0,0))):=heap_alloc_new w _;have HK:Hid (Kp0 w (w.alloc (.cells #[.nilFunc,.nilFunc,.nilFunc,.nilFunc,.nilFunc] 195))):=(Kp.refl _ w).alloc _;go_enter Tryz.func135,Tryz.ntmps135
 go_wp2_with (refine wpList_storeRow _ rfl 195 (.tmp 0) _ rfl w.heap.size _ _ rfl rfl HB0.out Tryz.szOpsB rfl (all5 rfl rfl rfl rfl rfl) ?_;intro w5 hB5 hK5)
 (try simp only[Exit.inBlock,Exit.then])
 refine bodyPost_ret (res_cell rfl _ _ w.heap.size _ _ _ _ rfl hB5 Tryz.underlying195 rfl Tryz.szOpsB) rfl ?_;exact⟨_,rfl,rfl,Kp.trans HK.out hK5 (fun i hi e=>by omega)⟩
theorem rep_vcsB(n:Nat):(vcs .u8 (List.replicate n 0)).toArray=rep n (.int .u8 0):=by simp[vcs,rep]
theorem xnewStoreB_calls(n:Nat)(w:World)(hn:n≤10000):Calls Tryz.prog 101 #[.int .i64 (n:Int)] w fun e w'=>∃q g,e=.returned (.pointer (some ⟨q,0,none⟩))∧StAtB w' q g (.slice none 0 0) (List.replicate n 0) []∧Kp0 w w'∧w.heap.size≤q∧w.heap.size≤g∧q≠g:=by
 have hmk:=fun W=>run_mk (P:=Tryz.prog) 192 5 (.int .u8 0) 1 Tryz.underlying192 Tryz.infoNB rfl (by omega) n (by omega) W
 have HO:Hid (∀W,Calls Tryz.prog 135 #[] W fun e w'=>∃v,e=.returned v∧(v=.agg #[opB1,opB2,opB3,opB4,opB5]∧Kp0 W w')):=fun W=>xnewOpsB_calls W
 go_enter Tryz.func101,Tryz.ntmps101
 go_wp2
 go_region_law ((refine step_call0 (by rfl) 135 _ (by rfl) _ Tryz.func135 (by kernel_rfl) (by kernel_rfl) (HO.out _) ?_;intro v7 w7 hR;obtain⟨rfl,hK7⟩:=hR))
 ·go_wp2
  go_ret;have h1:=hK7.heap (b:=w.heap.size) (o:=.cells (rep n (.int .u8 0)) 5 (0,0)) (heap_alloc_new w _);have hs:=hK7.size;have hg:w.heap.size<w7.heap.size:=lt_of_heap h1;have hk:Kp0 w w7:=Kp0.trans (((Kp.refl _ w).alloc _).drew) hK7;refine⟨w7.heap.size,w.heap.size,rfl,⟨?_,?_,World.ownsRow_nil _ 0 _ 2⟩,hk.alloc _,by omega,Nat.le_refl _,by omega⟩
  ·have:=heap_alloc_new w7 (.cells #[.slice (some ⟨w.heap.size,0,none⟩) n n,.slice none 0 0,opB1,opB2,opB3,opB4,opB5] 199)
   simpa using this
  ·rw[cellsBB,rep_vcsB]
   exact heap_alloc_keeps h1 _
 ·go_wp2
  go_ret;have hk:Kp0 w w7:=Kp0.trans ((Kp.refl _ w).drew) hK7;have hs:=hk.size;refine⟨w7.heap.size+1,w7.heap.size,rfl,⟨?_,?_,World.ownsRow_nil _ 0 _ 2⟩,(hk.alloc _).alloc _,by omega,by omega,by omega⟩
  ·have:=heap_alloc_new (w7.alloc (.cells (rep n (.int .u8 0)) 5)) (.cells #[.slice (some ⟨w7.heap.size,0,none⟩) n n,.slice none 0 0,opB1,opB2,opB3,opB4,opB5] 199)
   simpa using this
  ·rw[cellsBB,rep_vcsB]
   exact heap_alloc_keeps (heap_alloc_new w7 _) _
theorem Tryz.szOpsI:(Tryz.prog.info? 203).map (·.size)=some 5:=by kernel_rfl
theorem Tryz.infoNI:(Tryz.prog.info? 2).map (fun i=>(i.zero,i.size,i.bytes))=some (some (.int .i64 0),1,8):=by kernel_rfl
theorem xnewOpsI_calls(w:World):Calls Tryz.prog 136 #[] w fun e w'=>∃v,e=.returned v∧(v=.agg #[opI1,opI2,opI3,opI4,opI5]∧Kp0 w w'):=by
 have HB0:Hid ((w.alloc (.cells #[.nilFunc,.nilFunc,.nilFunc,.nilFunc,.nilFunc] 203)).heap[w.heap.size]? =some (.cells #[.nilFunc,.nilFunc,.nilFunc,.nilFunc,.nilFunc] 203 (0,0))):=heap_alloc_new w _;have HK:Hid (Kp0 w (w.alloc (.cells #[.nilFunc,.nilFunc,.nilFunc,.nilFunc,.nilFunc] 203))):=(Kp.refl _ w).alloc _;go_enter Tryz.func136,Tryz.ntmps136
 go_wp2_with (refine wpList_storeRow _ rfl 203 (.tmp 0) _ rfl w.heap.size _ _ rfl rfl HB0.out Tryz.szOpsI rfl (all5 rfl rfl rfl rfl rfl) ?_;intro w5 hB5 hK5)
 (try simp only[Exit.inBlock,Exit.then])
 refine bodyPost_ret (res_cell rfl _ _ w.heap.size _ _ _ _ rfl hB5 Tryz.underlying203 rfl Tryz.szOpsI) rfl ?_;exact⟨_,rfl,rfl,Kp.trans HK.out hK5 (fun i hi e=>by omega)⟩
theorem rep_vcsI(n:Nat):(vcs .i64 (List.replicate n 0)).toArray=rep n (.int .i64 0):=by simp[vcs,rep]
theorem xnewStoreI_calls(n:Nat)(w:World)(hn:n≤10000):Calls Tryz.prog 102 #[.int .i64 (n:Int)] w fun e w'=>∃q g,e=.returned (.pointer (some ⟨q,0,none⟩))∧StAtI w' q g (.slice none 0 0) (List.replicate n 0) []∧Kp0 w w'∧w.heap.size≤q∧w.heap.size≤g∧q≠g:=by
 have hmk:=fun W=>run_mk (P:=Tryz.prog) 200 2 (.int .i64 0) 8 Tryz.underlying200 Tryz.infoNI rfl (by omega) n (by omega) W
 have HO:Hid (∀W,Calls Tryz.prog 136 #[] W fun e w'=>∃v,e=.returned v∧(v=.agg #[opI1,opI2,opI3,opI4,opI5]∧Kp0 W w')):=fun W=>xnewOpsI_calls W
 go_enter Tryz.func102,Tryz.ntmps102
 go_wp2
 go_region_law ((refine step_call0 (by rfl) 136 _ (by rfl) _ Tryz.func136 (by kernel_rfl) (by kernel_rfl) (HO.out _) ?_;intro v7 w7 hR;obtain⟨rfl,hK7⟩:=hR))
 ·go_wp2
  go_ret;have h1:=hK7.heap (b:=w.heap.size) (o:=.cells (rep n (.int .i64 0)) 2 (0,0)) (heap_alloc_new w _);have hs:=hK7.size;have hg:w.heap.size<w7.heap.size:=lt_of_heap h1;have hk:Kp0 w w7:=Kp0.trans (((Kp.refl _ w).alloc _).drew) hK7;refine⟨w7.heap.size,w.heap.size,rfl,⟨?_,?_,World.ownsRow_nil _ 0 _ 2⟩,hk.alloc _,by omega,Nat.le_refl _,by omega⟩
  ·have:=heap_alloc_new w7 (.cells #[.slice (some ⟨w.heap.size,0,none⟩) n n,.slice none 0 0,opI1,opI2,opI3,opI4,opI5] 206)
   simpa using this
  ·rw[cellsBI,rep_vcsI]
   exact heap_alloc_keeps h1 _
 ·go_wp2
  go_ret;have hk:Kp0 w w7:=Kp0.trans ((Kp.refl _ w).drew) hK7;have hs:=hk.size;refine⟨w7.heap.size+1,w7.heap.size,rfl,⟨?_,?_,World.ownsRow_nil _ 0 _ 2⟩,(hk.alloc _).alloc _,by omega,by omega,by omega⟩
  ·have:=heap_alloc_new (w7.alloc (.cells (rep n (.int .i64 0)) 2)) (.cells #[.slice (some ⟨w7.heap.size,0,none⟩) n n,.slice none 0 0,opI1,opI2,opI3,opI4,opI5] 206)
   simpa using this
  ·rw[cellsBI,rep_vcsI]
   exact heap_alloc_keeps (heap_alloc_new w7 _) _
end Go.Proofs.YticbbncdcannlaaGreat
