/- The program's space, walked: findToWork. -/
import Derived.Test.YticbbncdcannlaaGreatG42
import Derived.Test.YticbbncdcannlaaGreatG25
import Derived.Test.YticbbncdcannlaaGreatG19
import Derived.Deep.RegionLaw
import Derived.BigRegion

namespace Go.Proofs.YticbbncdcannlaaGreat
open Go.RowKit Go.Maps Go.ChangeMaps Go.MapKept

/-- A list in memory, in no block below N. -/
def Fr (N : Nat) (w' : World) (v : Value) (xs : List Int) : Prop := RdI w' v xs ∧ ∀ b, v.ownBlock = some b → N ≤ b
theorem Fr.kp0 {N : Nat} {w' w2 : World} {v : Value} {xs : List Int} (h : Fr N w' v xs) (k : Kp0 w' w2) : Fr N w2 v xs := ⟨h.1.kp0 k, h.2⟩
theorem Fr.kp {N : Nat} {S : Nat → Prop} {w' w2 : World} {v : Value} {xs : List Int} (h : Fr N w' v xs) (k : Kp S w' w2) (hs : ∀ b, N ≤ b → ¬ S b) : Fr N w2 v xs := ⟨h.1.kp k (fun b hb => hs b (h.2 b hb)), h.2⟩
theorem Fr.le {N M : Nat} {w' : World} {v : Value} {xs : List Int} (h : Fr N w' v xs) (hm : M ≤ N) : Fr M w' v xs := ⟨h.1, fun b hb => Nat.le_trans hm (h.2 b hb)⟩
theorem NewI.fr {W w' : World} {v : Value} {xs : List Int} (h : NewI W w' v xs) : ∃ ao c, v = .slice ao xs.length c ∧ Kp0 W w' ∧ Fr W.heap.size w' (.slice ao xs.length c) xs := by
  obtain ⟨ao, c, rfl, h1, h2, h3⟩ := h
  exact ⟨ao, c, rfl, h2, h1.rd, h3⟩
theorem cells26a {w : World} {g : Nat} {t : TypeId} {c0 c1 c2 c3 c4 c5 c6 c7 c8 c9 c10 c11 c12 c13 c14 c15 c16 c17 c18 c19 c20 c21 c22 c23 c24 c25 : Value} {fr : Nat × Nat} (h : w.heap[g]? = some (.cells #[c0, c1, c2, c3, c4, c5, c6, c7, c8, c9, c10, c11, c12, c13, c14, c15, c16, c17, c18, c19, c20, c21, c22, c23, c24, c25] t fr)) :
    w.cell? ⟨g, 0, none⟩ = some c0 ∧ w.cell? ⟨g, 1, none⟩ = some c1 ∧ w.cell? ⟨g, 2, none⟩ = some c2 ∧ w.cell? ⟨g, 3, none⟩ = some c3 ∧ w.cell? ⟨g, 4, none⟩ = some c4 ∧ w.cell? ⟨g, 5, none⟩ = some c5 ∧ w.cell? ⟨g, 6, none⟩ = some c6 ∧ w.cell? ⟨g, 7, none⟩ = some c7 ∧ w.cell? ⟨g, 8, none⟩ = some c8 ∧ w.cell? ⟨g, 9, none⟩ = some c9 ∧ w.cell? ⟨g, 10, none⟩ = some c10 ∧ w.cell? ⟨g, 11, none⟩ = some c11 ∧ w.cell? ⟨g, 12, none⟩ = some c12 :=
  ⟨cell_of_row w g 0 _ _ _ h, cell_of_row w g 1 _ _ _ h, cell_of_row w g 2 _ _ _ h, cell_of_row w g 3 _ _ _ h, cell_of_row w g 4 _ _ _ h, cell_of_row w g 5 _ _ _ h, cell_of_row w g 6 _ _ _ h, cell_of_row w g 7 _ _ _ h, cell_of_row w g 8 _ _ _ h, cell_of_row w g 9 _ _ _ h, cell_of_row w g 10 _ _ _ h, cell_of_row w g 11 _ _ _ h, cell_of_row w g 12 _ _ _ h⟩
theorem cells26b {w : World} {g : Nat} {t : TypeId} {c0 c1 c2 c3 c4 c5 c6 c7 c8 c9 c10 c11 c12 c13 c14 c15 c16 c17 c18 c19 c20 c21 c22 c23 c24 c25 : Value} {fr : Nat × Nat} (h : w.heap[g]? = some (.cells #[c0, c1, c2, c3, c4, c5, c6, c7, c8, c9, c10, c11, c12, c13, c14, c15, c16, c17, c18, c19, c20, c21, c22, c23, c24, c25] t fr)) :
    w.cell? ⟨g, 13, none⟩ = some c13 ∧ w.cell? ⟨g, 14, none⟩ = some c14 ∧ w.cell? ⟨g, 15, none⟩ = some c15 ∧ w.cell? ⟨g, 16, none⟩ = some c16 ∧ w.cell? ⟨g, 17, none⟩ = some c17 ∧ w.cell? ⟨g, 18, none⟩ = some c18 ∧ w.cell? ⟨g, 19, none⟩ = some c19 ∧ w.cell? ⟨g, 20, none⟩ = some c20 ∧ w.cell? ⟨g, 21, none⟩ = some c21 ∧ w.cell? ⟨g, 22, none⟩ = some c22 ∧ w.cell? ⟨g, 23, none⟩ = some c23 ∧ w.cell? ⟨g, 24, none⟩ = some c24 ∧ w.cell? ⟨g, 25, none⟩ = some c25 :=
  ⟨cell_of_row w g 13 _ _ _ h, cell_of_row w g 14 _ _ _ h, cell_of_row w g 15 _ _ _ h, cell_of_row w g 16 _ _ _ h, cell_of_row w g 17 _ _ _ h, cell_of_row w g 18 _ _ _ h, cell_of_row w g 19 _ _ _ h, cell_of_row w g 20 _ _ _ h, cell_of_row w g 21 _ _ _ h, cell_of_row w g 22 _ _ _ h, cell_of_row w g 23 _ _ _ h, cell_of_row w g 24 _ _ _ h, cell_of_row w g 25 _ _ _ h⟩
theorem app26 (c0 c1 c2 c3 c4 c5 c6 c7 c8 c9 c10 c11 c12 c13 c14 c15 c16 c17 c18 c19 c20 c21 c22 c23 c24 c25 : Value) : (#[c0, c1, c2, c3, c4, c5, c6, c7, c8, c9, c10, c11, c12] ++ #[c13, c14, c15, c16, c17, c18, c19, c20, c21, c22, c23, c24, c25] : Array Value) = #[c0, c1, c2, c3, c4, c5, c6, c7, c8, c9, c10, c11, c12, c13, c14, c15, c16, c17, c18, c19, c20, c21, c22, c23, c24, c25] := rfl
end Go.Proofs.YticbbncdcannlaaGreat

/- The program's space, walked: Assign, Work where they refuse. -/
namespace Go.Proofs.YticbbncdcannlaaGreat
open Go.RowKit Go.Maps Go.ChangeMaps Go.MapKept

end Go.Proofs.YticbbncdcannlaaGreat

/- The program's space, walked where the array that is written is one of uint8: Assign. -/
namespace Go.Proofs.YticbbncdcannlaaGreat
open Go.RowKit Go.Maps Go.ChangeMaps Go.MapKept

theorem Tryz.mWriteB (a : Addr) (x y : Value) (w : World) : (callMethod (.iface 126 (.pointer (some a))) "Write" #[x, y]).run Tryz.prog w = .ok (.enter 198 #[.pointer (some a), x, y]) w := by kernel_rfl
theorem Tryz.nWriteB (a : Addr) (w : World) : (nilAhead 367 126 (.pointer (some a)) "Write").run Tryz.prog w = .ok (some false) w := by kernel_rfl

end Go.Proofs.YticbbncdcannlaaGreat
