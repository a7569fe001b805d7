/- The program's stores of uint8, walked: newOps, NewStore. -/
import Derived.Test.YticbbncdcannlaaG08
import Derived.Test.YticbbncdcannlaaG14
import Derived.Deep.RegionLaw
import Derived.BigRegion

namespace Go.Proofs.Yticbbncdcannlaa
open Go.RowKit

theorem Try.szOpsB : (Try.prog.info? 106).map (·.size) = some 5 := by kernel_rfl
theorem Try.infoNB : (Try.prog.info? 5).map (fun i => (i.zero, i.size, i.bytes)) = some (some (.int .u8 0), 1, 1) := by kernel_rfl

set_option maxRecDepth 100000 in
set_option maxHeartbeats 1000000 in
theorem xnewOpsB_calls (w : World) :
    Calls Try.prog 50 #[] w fun e w' => ∃ v, e = .returned v ∧ (v = .agg #[opB1, opB2, opB3, opB4, opB5] ∧ Kp0 w w') := by
  have HB0 : Hid ((w.alloc (.cells #[.nilFunc, .nilFunc, .nilFunc, .nilFunc, .nilFunc] 106)).heap[w.heap.size]? = some (.cells #[.nilFunc, .nilFunc, .nilFunc, .nilFunc, .nilFunc] 106 (0, 0))) := heap_alloc_new w _
  have HK : Hid (Kp0 w (w.alloc (.cells #[.nilFunc, .nilFunc, .nilFunc, .nilFunc, .nilFunc] 106))) := (Kp.refl _ w).alloc _
  go_enter Try.func50, Try.ntmps50
  go_wp2_with (refine wpList_storeRow _ rfl 106 (.tmp 0) _ rfl w.heap.size _ _ rfl rfl HB0.out Try.szOpsB rfl (all5 rfl rfl rfl rfl rfl) ?_; intro w5 hB5 hK5)
  (try simp only [Exit.inBlock, Exit.then])
  refine bodyPost_ret (res_cell rfl _ _ w.heap.size _ _ _ _ rfl hB5 Try.underlying106 rfl Try.szOpsB) rfl ?_
  exact ⟨_, rfl, rfl, Kp.trans HK.out hK5 (fun i hi e => by omega)⟩

theorem rep_vcsB (n : Nat) : (vcs .u8 (List.replicate n 0)).toArray = rep n (.int .u8 0) := by simp [vcs, rep]

set_option maxRecDepth 100000 in
set_option maxHeartbeats 1000000 in
theorem xnewStoreB_calls (n : Nat) (w : World) (hn : n ≤ 10000) :
    Calls Try.prog 36 #[.int .i64 (n : Int)] w fun e w' => ∃ q g, e = .returned (.pointer (some ⟨q, 0, none⟩)) ∧ StAtB w' q g (.slice none 0 0) (List.replicate n 0) [] ∧ Kp0 w w' ∧ w.heap.size ≤ q ∧ w.heap.size ≤ g ∧ q ≠ g := by
  have hmk := fun W => run_mk (P := Try.prog) 103 5 (.int .u8 0) 1 Try.underlying103 Try.infoNB rfl (by omega) n (by omega) W
  have HO : Hid (∀ W, Calls Try.prog 50 #[] W fun e w' => ∃ v, e = .returned v ∧ (v = .agg #[opB1, opB2, opB3, opB4, opB5] ∧ Kp0 W w')) := fun W => xnewOpsB_calls W
  go_enter Try.func36, Try.ntmps36
  go_wp2
  go_region_law ((refine step_call0 (by rfl) 50 _ (by rfl) _ Try.func50 (by kernel_rfl) (by kernel_rfl) (HO.out _) ?_; intro v7 w7 hR; obtain ⟨rfl, hK7⟩ := hR))
  · go_wp2
    go_ret
    have h1 := hK7.heap (b := w.heap.size) (o := .cells (rep n (.int .u8 0)) 5 (0, 0)) (heap_alloc_new w _)
    have hs := hK7.size
    have hg : w.heap.size < w7.heap.size := lt_of_heap h1
    have hk : Kp0 w w7 := Kp0.trans (((Kp.refl _ w).alloc _).drew) hK7
    refine ⟨w7.heap.size, w.heap.size, rfl, ⟨?_, ?_, World.ownsRow_nil _ 0 _ 2⟩, hk.alloc _, by omega, Nat.le_refl _, by omega⟩
    · have := heap_alloc_new w7 (.cells #[.slice (some ⟨w.heap.size, 0, none⟩) n n, .slice none 0 0, opB1, opB2, opB3, opB4, opB5] 110)
      simpa using this
    · rw [cellsBB, rep_vcsB]
      exact heap_alloc_keeps h1 _
  · go_wp2
    go_ret
    have hk : Kp0 w w7 := Kp0.trans ((Kp.refl _ w).drew) hK7
    have hs := hk.size
    refine ⟨w7.heap.size + 1, w7.heap.size, rfl, ⟨?_, ?_, World.ownsRow_nil _ 0 _ 2⟩, (hk.alloc _).alloc _, by omega, by omega, by omega⟩
    · have := heap_alloc_new (w7.alloc (.cells (rep n (.int .u8 0)) 5)) (.cells #[.slice (some ⟨w7.heap.size, 0, none⟩) n n, .slice none 0 0, opB1, opB2, opB3, opB4, opB5] 110)
      simpa using this
    · rw [cellsBB, rep_vcsB]
      exact heap_alloc_keeps (heap_alloc_new w7 _) _

end Go.Proofs.Yticbbncdcannlaa

/- The program's stores of int64, walked: newOps, NewStore. -/
namespace Go.Proofs.Yticbbncdcannlaa
open Go.RowKit

theorem Try.szOpsI : (Try.prog.info? 114).map (·.size) = some 5 := by kernel_rfl
theorem Try.infoNI : (Try.prog.info? 2).map (fun i => (i.zero, i.size, i.bytes)) = some (some (.int .i64 0), 1, 8) := by kernel_rfl

set_option maxRecDepth 100000 in
set_option maxHeartbeats 1000000 in
theorem xnewOpsI_calls (w : World) :
    Calls Try.prog 51 #[] w fun e w' => ∃ v, e = .returned v ∧ (v = .agg #[opI1, opI2, opI3, opI4, opI5] ∧ Kp0 w w') := by
  have HB0 : Hid ((w.alloc (.cells #[.nilFunc, .nilFunc, .nilFunc, .nilFunc, .nilFunc] 114)).heap[w.heap.size]? = some (.cells #[.nilFunc, .nilFunc, .nilFunc, .nilFunc, .nilFunc] 114 (0, 0))) := heap_alloc_new w _
  have HK : Hid (Kp0 w (w.alloc (.cells #[.nilFunc, .nilFunc, .nilFunc, .nilFunc, .nilFunc] 114))) := (Kp.refl _ w).alloc _
  go_enter Try.func51, Try.ntmps51
  go_wp2_with (refine wpList_storeRow _ rfl 114 (.tmp 0) _ rfl w.heap.size _ _ rfl rfl HB0.out Try.szOpsI rfl (all5 rfl rfl rfl rfl rfl) ?_; intro w5 hB5 hK5)
  (try simp only [Exit.inBlock, Exit.then])
  refine bodyPost_ret (res_cell rfl _ _ w.heap.size _ _ _ _ rfl hB5 Try.underlying114 rfl Try.szOpsI) rfl ?_
  exact ⟨_, rfl, rfl, Kp.trans HK.out hK5 (fun i hi e => by omega)⟩

theorem rep_vcsI (n : Nat) : (vcs .i64 (List.replicate n 0)).toArray = rep n (.int .i64 0) := by simp [vcs, rep]

set_option maxRecDepth 100000 in
set_option maxHeartbeats 1000000 in
theorem xnewStoreI_calls (n : Nat) (w : World) (hn : n ≤ 10000) :
    Calls Try.prog 37 #[.int .i64 (n : Int)] w fun e w' => ∃ q g, e = .returned (.pointer (some ⟨q, 0, none⟩)) ∧ StAtI w' q g (.slice none 0 0) (List.replicate n 0) [] ∧ Kp0 w w' ∧ w.heap.size ≤ q ∧ w.heap.size ≤ g ∧ q ≠ g := by
  have hmk := fun W => run_mk (P := Try.prog) 111 2 (.int .i64 0) 8 Try.underlying111 Try.infoNI rfl (by omega) n (by omega) W
  have HO : Hid (∀ W, Calls Try.prog 51 #[] W fun e w' => ∃ v, e = .returned v ∧ (v = .agg #[opI1, opI2, opI3, opI4, opI5] ∧ Kp0 W w')) := fun W => xnewOpsI_calls W
  go_enter Try.func37, Try.ntmps37
  go_wp2
  go_region_law ((refine step_call0 (by rfl) 51 _ (by rfl) _ Try.func51 (by kernel_rfl) (by kernel_rfl) (HO.out _) ?_; intro v7 w7 hR; obtain ⟨rfl, hK7⟩ := hR))
  · go_wp2
    go_ret
    have h1 := hK7.heap (b := w.heap.size) (o := .cells (rep n (.int .i64 0)) 2 (0, 0)) (heap_alloc_new w _)
    have hs := hK7.size
    have hg : w.heap.size < w7.heap.size := lt_of_heap h1
    have hk : Kp0 w w7 := Kp0.trans (((Kp.refl _ w).alloc _).drew) hK7
    refine ⟨w7.heap.size, w.heap.size, rfl, ⟨?_, ?_, World.ownsRow_nil _ 0 _ 2⟩, hk.alloc _, by omega, Nat.le_refl _, by omega⟩
    · have := heap_alloc_new w7 (.cells #[.slice (some ⟨w.heap.size, 0, none⟩) n n, .slice none 0 0, opI1, opI2, opI3, opI4, opI5] 117)
      simpa using this
    · rw [cellsBI, rep_vcsI]
      exact heap_alloc_keeps h1 _
  · go_wp2
    go_ret
    have hk : Kp0 w w7 := Kp0.trans ((Kp.refl _ w).drew) hK7
    have hs := hk.size
    refine ⟨w7.heap.size + 1, w7.heap.size, rfl, ⟨?_, ?_, World.ownsRow_nil _ 0 _ 2⟩, (hk.alloc _).alloc _, by omega, by omega, by omega⟩
    · have := heap_alloc_new (w7.alloc (.cells (rep n (.int .i64 0)) 2)) (.cells #[.slice (some ⟨w7.heap.size, 0, none⟩) n n, .slice none 0 0, opI1, opI2, opI3, opI4, opI5] 117)
      simpa using this
    · rw [cellsBI, rep_vcsI]
      exact heap_alloc_keeps (heap_alloc_new w7 _) _

end Go.Proofs.Yticbbncdcannlaa
