/- Structs in cells: what a store of a whole struct leaves, results that lie in cells. No program. -/
import Derived.Laws.ResultCell
import Derived.Laws.Rows
import Derived.Test.YticbbncdcannlaaGreatG01

namespace Go.Proofs.YticbbncdcannlaaGreat
open Go.RowKit

theorem chain3 (w : World) (g : Nat) (t : TypeId) (c0 c1 c2 v0 v1 v2 : Value) (h : w.heap[g]? = some (.cells #[c0, c1, c2] t (0, 0))) :
    (((w.setCell ⟨g, 0, none⟩ v0).setCell ⟨g, 1, none⟩ v1).setCell ⟨g, 2, none⟩ v2).heap[g]? = some (.cells #[v0, v1, v2] t (0, 0)) := by
  have h0 := heap_setCell_same _ g 0 #[c0, c1, c2] t v0 h
  have h1 := heap_setCell_same _ g 1 #[v0, c1, c2] t v1 h0
  have h2 := heap_setCell_same _ g 2 #[v0, v1, c2] t v2 h1
  exact h2

theorem kchain3 {S : Nat → Prop} {a w : World} (h : Kp S a w) (g : Nat) (v0 v1 v2 : Value) (hs : g < a.heap.size → S g) : Kp S a (((w.setCell ⟨g, 0, none⟩ v0).setCell ⟨g, 1, none⟩ v1).setCell ⟨g, 2, none⟩ v2) :=
  (((h.setCell ⟨g, 0, none⟩ v0 hs).setCell ⟨g, 1, none⟩ v1 hs).setCell ⟨g, 2, none⟩ v2 hs)

theorem chain5 (w : World) (g : Nat) (t : TypeId) (c0 c1 c2 c3 c4 v0 v1 v2 v3 v4 : Value) (h : w.heap[g]? = some (.cells #[c0, c1, c2, c3, c4] t (0, 0))) :
    (((((w.setCell ⟨g, 0, none⟩ v0).setCell ⟨g, 1, none⟩ v1).setCell ⟨g, 2, none⟩ v2).setCell ⟨g, 3, none⟩ v3).setCell ⟨g, 4, none⟩ v4).heap[g]? = some (.cells #[v0, v1, v2, v3, v4] t (0, 0)) := by
  have h0 := heap_setCell_same _ g 0 #[c0, c1, c2, c3, c4] t v0 h
  have h1 := heap_setCell_same _ g 1 #[v0, c1, c2, c3, c4] t v1 h0
  have h2 := heap_setCell_same _ g 2 #[v0, v1, c2, c3, c4] t v2 h1
  have h3 := heap_setCell_same _ g 3 #[v0, v1, v2, c3, c4] t v3 h2
  have h4 := heap_setCell_same _ g 4 #[v0, v1, v2, v3, c4] t v4 h3
  exact h4

theorem kchain5 {S : Nat → Prop} {a w : World} (h : Kp S a w) (g : Nat) (v0 v1 v2 v3 v4 : Value) (hs : g < a.heap.size → S g) : Kp S a (((((w.setCell ⟨g, 0, none⟩ v0).setCell ⟨g, 1, none⟩ v1).setCell ⟨g, 2, none⟩ v2).setCell ⟨g, 3, none⟩ v3).setCell ⟨g, 4, none⟩ v4) :=
  (((((h.setCell ⟨g, 0, none⟩ v0 hs).setCell ⟨g, 1, none⟩ v1 hs).setCell ⟨g, 2, none⟩ v2 hs).setCell ⟨g, 3, none⟩ v3 hs).setCell ⟨g, 4, none⟩ v4 hs)

theorem chain10 (w : World) (g : Nat) (t : TypeId) (c0 c1 c2 c3 c4 c5 c6 c7 c8 c9 v0 v1 v2 v3 v4 v5 v6 v7 v8 v9 : Value) (h : w.heap[g]? = some (.cells #[c0, c1, c2, c3, c4, c5, c6, c7, c8, c9] t (0, 0))) :
    ((((((((((w.setCell ⟨g, 0, none⟩ v0).setCell ⟨g, 1, none⟩ v1).setCell ⟨g, 2, none⟩ v2).setCell ⟨g, 3, none⟩ v3).setCell ⟨g, 4, none⟩ v4).setCell ⟨g, 5, none⟩ v5).setCell ⟨g, 6, none⟩ v6).setCell ⟨g, 7, none⟩ v7).setCell ⟨g, 8, none⟩ v8).setCell ⟨g, 9, none⟩ v9).heap[g]? = some (.cells #[v0, v1, v2, v3, v4, v5, v6, v7, v8, v9] t (0, 0)) := by
  have h0 := heap_setCell_same _ g 0 #[c0, c1, c2, c3, c4, c5, c6, c7, c8, c9] t v0 h
  have h1 := heap_setCell_same _ g 1 #[v0, c1, c2, c3, c4, c5, c6, c7, c8, c9] t v1 h0
  have h2 := heap_setCell_same _ g 2 #[v0, v1, c2, c3, c4, c5, c6, c7, c8, c9] t v2 h1
  have h3 := heap_setCell_same _ g 3 #[v0, v1, v2, c3, c4, c5, c6, c7, c8, c9] t v3 h2
  have h4 := heap_setCell_same _ g 4 #[v0, v1, v2, v3, c4, c5, c6, c7, c8, c9] t v4 h3
  have h5 := heap_setCell_same _ g 5 #[v0, v1, v2, v3, v4, c5, c6, c7, c8, c9] t v5 h4
  have h6 := heap_setCell_same _ g 6 #[v0, v1, v2, v3, v4, v5, c6, c7, c8, c9] t v6 h5
  have h7 := heap_setCell_same _ g 7 #[v0, v1, v2, v3, v4, v5, v6, c7, c8, c9] t v7 h6
  have h8 := heap_setCell_same _ g 8 #[v0, v1, v2, v3, v4, v5, v6, v7, c8, c9] t v8 h7
  have h9 := heap_setCell_same _ g 9 #[v0, v1, v2, v3, v4, v5, v6, v7, v8, c9] t v9 h8
  exact h9

theorem kchain10 {S : Nat → Prop} {a w : World} (h : Kp S a w) (g : Nat) (v0 v1 v2 v3 v4 v5 v6 v7 v8 v9 : Value) (hs : g < a.heap.size → S g) : Kp S a ((((((((((w.setCell ⟨g, 0, none⟩ v0).setCell ⟨g, 1, none⟩ v1).setCell ⟨g, 2, none⟩ v2).setCell ⟨g, 3, none⟩ v3).setCell ⟨g, 4, none⟩ v4).setCell ⟨g, 5, none⟩ v5).setCell ⟨g, 6, none⟩ v6).setCell ⟨g, 7, none⟩ v7).setCell ⟨g, 8, none⟩ v8).setCell ⟨g, 9, none⟩ v9) :=
  ((((((((((h.setCell ⟨g, 0, none⟩ v0 hs).setCell ⟨g, 1, none⟩ v1 hs).setCell ⟨g, 2, none⟩ v2 hs).setCell ⟨g, 3, none⟩ v3 hs).setCell ⟨g, 4, none⟩ v4 hs).setCell ⟨g, 5, none⟩ v5 hs).setCell ⟨g, 6, none⟩ v6 hs).setCell ⟨g, 7, none⟩ v7 hs).setCell ⟨g, 8, none⟩ v8 hs).setCell ⟨g, 9, none⟩ v9 hs)

theorem cells7 {w : World} {g : Nat} {t : TypeId} {c0 c1 c2 c3 c4 c5 c6 : Value} {fr : Nat × Nat} (h : w.heap[g]? = some (.cells #[c0, c1, c2, c3, c4, c5, c6] t fr)) :
    w.cell? ⟨g, 0, none⟩ = some c0 ∧ w.cell? ⟨g, 1, none⟩ = some c1 :=
  ⟨cell_of_row w g 0 _ _ _ h, cell_of_row w g 1 _ _ _ h⟩

theorem cells2 {w : World} {g : Nat} {t : TypeId} {c0 c1 : Value} {fr : Nat × Nat} (h : w.heap[g]? = some (.cells #[c0, c1] t fr)) :
    w.cell? ⟨g, 0, none⟩ = some c0 ∧ w.cell? ⟨g, 1, none⟩ = some c1 :=
  ⟨cell_of_row w g 0 _ _ _ h, cell_of_row w g 1 _ _ _ h⟩

theorem cells5 {w : World} {g : Nat} {t : TypeId} {c0 c1 c2 c3 c4 : Value} {fr : Nat × Nat} (h : w.heap[g]? = some (.cells #[c0, c1, c2, c3, c4] t fr)) :
    w.cell? ⟨g, 0, none⟩ = some c0 ∧ w.cell? ⟨g, 1, none⟩ = some c1 ∧ w.cell? ⟨g, 2, none⟩ = some c2 ∧ w.cell? ⟨g, 3, none⟩ = some c3 ∧ w.cell? ⟨g, 4, none⟩ = some c4 :=
  ⟨cell_of_row w g 0 _ _ _ h, cell_of_row w g 1 _ _ _ h, cell_of_row w g 2 _ _ _ h, cell_of_row w g 3 _ _ _ h, cell_of_row w g 4 _ _ _ h⟩

theorem cells10 {w : World} {g : Nat} {t : TypeId} {c0 c1 c2 c3 c4 c5 c6 c7 c8 c9 : Value} {fr : Nat × Nat} (h : w.heap[g]? = some (.cells #[c0, c1, c2, c3, c4, c5, c6, c7, c8, c9] t fr)) :
    w.cell? ⟨g, 0, none⟩ = some c0 ∧ w.cell? ⟨g, 1, none⟩ = some c1 ∧ w.cell? ⟨g, 2, none⟩ = some c2 ∧ w.cell? ⟨g, 3, none⟩ = some c3 ∧ w.cell? ⟨g, 4, none⟩ = some c4 ∧ w.cell? ⟨g, 5, none⟩ = some c5 ∧ w.cell? ⟨g, 6, none⟩ = some c6 ∧ w.cell? ⟨g, 7, none⟩ = some c7 ∧ w.cell? ⟨g, 8, none⟩ = some c8 ∧ w.cell? ⟨g, 9, none⟩ = some c9 :=
  ⟨cell_of_row w g 0 _ _ _ h, cell_of_row w g 1 _ _ _ h, cell_of_row w g 2 _ _ _ h, cell_of_row w g 3 _ _ _ h, cell_of_row w g 4 _ _ _ h, cell_of_row w g 5 _ _ _ h, cell_of_row w g 6 _ _ _ h, cell_of_row w g 7 _ _ _ h, cell_of_row w g 8 _ _ _ h, cell_of_row w g 9 _ _ _ h⟩

theorem frozen10 {w : World} {g : Nat} {t : TypeId} {c0 c1 c2 c3 c4 c5 c6 c7 c8 c9 : Value} (h : w.heap[g]? = some (.cells #[c0, c1, c2, c3, c4, c5, c6, c7, c8, c9] t (0, 0))) :
    w.frozen? ⟨g, 0, none⟩ = false ∧ w.frozen? ⟨g, 1, none⟩ = false ∧ w.frozen? ⟨g, 2, none⟩ = false ∧ w.frozen? ⟨g, 3, none⟩ = false ∧ w.frozen? ⟨g, 4, none⟩ = false ∧ w.frozen? ⟨g, 5, none⟩ = false ∧ w.frozen? ⟨g, 6, none⟩ = false ∧ w.frozen? ⟨g, 7, none⟩ = false ∧ w.frozen? ⟨g, 8, none⟩ = false ∧ w.frozen? ⟨g, 9, none⟩ = false :=
  ⟨frozen_of_row w g 0 _ _ h, frozen_of_row w g 1 _ _ h, frozen_of_row w g 2 _ _ h, frozen_of_row w g 3 _ _ h, frozen_of_row w g 4 _ _ h, frozen_of_row w g 5 _ _ h, frozen_of_row w g 6 _ _ h, frozen_of_row w g 7 _ _ h, frozen_of_row w g 8 _ _ h, frozen_of_row w g 9 _ _ h⟩

theorem cells13 {w : World} {g : Nat} {t : TypeId} {c0 c1 c2 c3 c4 c5 c6 c7 c8 c9 c10 c11 c12 : Value} {fr : Nat × Nat} (h : w.heap[g]? = some (.cells #[c0, c1, c2, c3, c4, c5, c6, c7, c8, c9, c10, c11, c12] t fr)) :
    w.cell? ⟨g, 0, none⟩ = some c0 ∧ w.cell? ⟨g, 1, none⟩ = some c1 ∧ w.cell? ⟨g, 2, none⟩ = some c2 ∧ w.cell? ⟨g, 3, none⟩ = some c3 ∧ w.cell? ⟨g, 4, none⟩ = some c4 ∧ w.cell? ⟨g, 5, none⟩ = some c5 ∧ w.cell? ⟨g, 6, none⟩ = some c6 ∧ w.cell? ⟨g, 7, none⟩ = some c7 ∧ w.cell? ⟨g, 8, none⟩ = some c8 ∧ w.cell? ⟨g, 9, none⟩ = some c9 ∧ w.cell? ⟨g, 10, none⟩ = some c10 ∧ w.cell? ⟨g, 11, none⟩ = some c11 ∧ w.cell? ⟨g, 12, none⟩ = some c12 :=
  ⟨cell_of_row w g 0 _ _ _ h, cell_of_row w g 1 _ _ _ h, cell_of_row w g 2 _ _ _ h, cell_of_row w g 3 _ _ _ h, cell_of_row w g 4 _ _ _ h, cell_of_row w g 5 _ _ _ h, cell_of_row w g 6 _ _ _ h, cell_of_row w g 7 _ _ _ h, cell_of_row w g 8 _ _ _ h, cell_of_row w g 9 _ _ _ h, cell_of_row w g 10 _ _ _ h, cell_of_row w g 11 _ _ _ h, cell_of_row w g 12 _ _ _ h⟩

theorem heap_alloc_keeps {w : World} {g : Nat} {x : Obj} (h : w.heap[g]? = some x) (O : Obj) : (w.alloc O).heap[g]? = some x := (Below.heap_alloc w O g (lt_of_heap h)).trans h

variable {P : Program}

theorem res_cell {fn : Func} {p : Tmp} {ty : TypeId} (h : fn.results = #[.cell p ty]) (tmps : Array Value) (w : World) (g : Nat) (t : TypeId) (cs : Array Value) (fr : Nat × Nat) (d : TypeDesc)
    (hp : tmps.getD p undef = .pointer (some ⟨g, 0, none⟩)) (hg : w.heap[g]? = some (.cells cs t fr))
    (hu : P.underlying ty = some d) (hd : (match d with | .struct _ | .array _ _ => true | _ => false) = true) (hi : (P.info? ty).map (·.size) = some cs.size) :
    (results fn tmps).run P w = .ok (.agg cs) w := results_cell_row h tmps w g t cs fr d hp hg hu hd hi

theorem res_cell2 {fn : Func} {p u : Tmp} {ty : TypeId} (h : fn.results = #[.cell p ty, .tmp u]) (tmps : Array Value) (w : World) (g : Nat) (t : TypeId) (cs : Array Value) (fr : Nat × Nat) (d : TypeDesc)
    (hp : tmps.getD p undef = .pointer (some ⟨g, 0, none⟩)) (hg : w.heap[g]? = some (.cells cs t fr))
    (hu : P.underlying ty = some d) (hd : (match d with | .struct _ | .array _ _ => true | _ => false) = true) (hi : (P.info? ty).map (·.size) = some cs.size) :
    (results fn tmps).run P w = .ok (.tuple #[.agg cs, tmps.getD u undef]) w := by
  have hp' : tmps[p]?.getD undef = .pointer (some ⟨g, 0, none⟩) := by simpa using hp
  simp [results, h, hp', asAddr, run_loadVar_row w g t ty cs fr d hg hu hd hi]

theorem res_cell3 {fn : Func} {p u v : Tmp} {ty : TypeId} (h : fn.results = #[.cell p ty, .tmp u, .tmp v]) (tmps : Array Value) (w : World) (g : Nat) (t : TypeId) (cs : Array Value) (fr : Nat × Nat) (d : TypeDesc)
    (hp : tmps.getD p undef = .pointer (some ⟨g, 0, none⟩)) (hg : w.heap[g]? = some (.cells cs t fr))
    (hu : P.underlying ty = some d) (hd : (match d with | .struct _ | .array _ _ => true | _ => false) = true) (hi : (P.info? ty).map (·.size) = some cs.size) :
    (results fn tmps).run P w = .ok (.tuple #[.agg cs, tmps.getD u undef, tmps.getD v undef]) w := by
  have hp' : tmps[p]?.getD undef = .pointer (some ⟨g, 0, none⟩) := by simpa using hp
  simp [results, h, hp', asAddr, run_loadVar_row w g t ty cs fr d hg hu hd hi]

end Go.Proofs.YticbbncdcannlaaGreat
