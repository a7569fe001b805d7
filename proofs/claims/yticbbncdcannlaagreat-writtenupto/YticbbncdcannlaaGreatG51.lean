/- The law's step, walked: Store. -/
import Derived.Deep.RegionHeld3
import Derived.Deep.Cut
import Derived.Test.YticbbncdcannlaaGreatG03

namespace Go.Proofs.YticbbncdcannlaaGreat
open Go.RowKit

theorem kp_new {Z : Nat → Prop} {w0 w3 : World} {x y z : Value} {t : TypeId} (hk : Kp Z (w0.alloc (.cells #[x, y, z] t)).drew w3) (hz : ¬ Z w0.heap.size) :
    (w3.cell? ⟨w0.heap.size, 0, none⟩ = some x ∧ w3.cell? ⟨w0.heap.size, 1, none⟩ = some y ∧ w3.cell? ⟨w0.heap.size, 2, none⟩ = some z) ∧ (∀ j, w3.frozen? ⟨w0.heap.size, j, none⟩ = false) ∧ w0.heap.size < w3.heap.size := by
  have h : w3.heap[w0.heap.size]? = some (.cells #[x, y, z] t (0, 0)) := hk.heap (heap_alloc_new w0 _) hz
  exact ⟨by simp [World.cell?, h], fun j => frozen_blk h, lt_of_heap h⟩

theorem three_kp (w : World) (A : Nat) (x y z : Value) : Kp (fun b => b = A) w (((w.setCell ⟨A, 0, none⟩ x).setCell ⟨A, 1, none⟩ y).setCell ⟨A, 2, none⟩ z) := by
  have k0 := Kp.refl (fun b => b = A) w
  have k1 := k0.setCell ⟨A, 0, none⟩ x (fun _ => rfl)
  have k2 := k1.setCell ⟨A, 1, none⟩ y (fun _ => rfl)
  exact k2.setCell ⟨A, 2, none⟩ z (fun _ => rfl)

theorem three_cells {w : World} {A : Nat} {x y z x' y' z' : Value} (c0 : w.cell? ⟨A, 0, none⟩ = some x) (c1 : w.cell? ⟨A, 1, none⟩ = some y) (c2 : w.cell? ⟨A, 2, none⟩ = some z) :
    (((w.setCell ⟨A, 0, none⟩ x').setCell ⟨A, 1, none⟩ y').setCell ⟨A, 2, none⟩ z').cell? ⟨A, 0, none⟩ = some x' ∧ (((w.setCell ⟨A, 0, none⟩ x').setCell ⟨A, 1, none⟩ y').setCell ⟨A, 2, none⟩ z').cell? ⟨A, 1, none⟩ = some y' ∧ (((w.setCell ⟨A, 0, none⟩ x').setCell ⟨A, 1, none⟩ y').setCell ⟨A, 2, none⟩ z').cell? ⟨A, 2, none⟩ = some z' := by
  refine ⟨?_, ?_, ?_⟩
  · rw [World.cell?_setCell_other _ _ _ _ (by simp), World.cell?_setCell_other _ _ _ _ (by simp)]
    exact World.cell?_setCell_same _ _ _ c0
  · rw [World.cell?_setCell_other _ _ _ _ (by simp)]
    exact World.cell?_setCell_same _ _ _ (by rw [World.cell?_setCell_other _ _ _ _ (by simp)]; exact c1)
  · exact World.cell?_setCell_same _ _ _ (by rw [World.cell?_setCell_other _ _ _ _ (by simp), World.cell?_setCell_other _ _ _ _ (by simp)]; exact c2)

end Go.Proofs.YticbbncdcannlaaGreat
