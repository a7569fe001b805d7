/- The program's space, walked: findToWork. -/
import Derived.Test.YticbbncdcannlaaGreatG50
import Derived.Test.YticbbncdcannlaaGreatG25

namespace Go.Proofs.YticbbncdcannlaaGreat
open Go.RowKit Go.Maps Go.ChangeMaps Go.MapKept

/-- A list in memory, in no block below N. -/
def Fr (N : Nat) (w' : World) (v : Value) (xs : List Int) : Prop := RdI w' v xs ∧ ∀ b, v.ownBlock = some b → N ≤ b
theorem Fr.kp0 {N : Nat} {w' w2 : World} {v : Value} {xs : List Int} (h : Fr N w' v xs) (k : Kp0 w' w2) : Fr N w2 v xs := ⟨h.1.kp0 k, h.2⟩
theorem Fr.kp {N : Nat} {S : Nat → Prop} {w' w2 : World} {v : Value} {xs : List Int} (h : Fr N w' v xs) (k : Kp S w' w2) (hs : ∀ b, N ≤ b → ¬ S b) : Fr N w2 v xs := ⟨h.1.kp k (fun b hb => hs b (h.2 b hb)), h.2⟩
theorem Fr.le {N M : Nat} {w' : World} {v : Value} {xs : List Int} (h : Fr N w' v xs) (hm : M ≤ N) : Fr M w' v xs := ⟨h.1, fun b hb => Nat.le_trans hm (h.2 b hb)⟩
theorem NewI.fr {W w' : World} {v : Value} {xs : List Int} (h : NewI W w' v xs) : ∃ ao c, v = .slice ao xs.length c ∧ Kp0 W w' ∧ Fr W.heap.size w' (.slice ao xs.length c) xs := by
  obtain ⟨ao, c, rfl, h1, h2, h3⟩ := h
  exact ⟨ao, c, rfl, h2, h1.rd, h3⟩
theorem cells26a {w : World} {g : Nat} {t : TypeId} {c0 c1 c2 c3 c4 c5 c6 c7 c8 c9 c10 c11 c12 c13 c14 c15 c16 c17 c18 c19 c20 c21 c22 c23 c24 c25 : Value} {fr : Nat × Nat} (h : w.heap[g]? = some (.cells #[c0, c1, c2, c3, c4, c5, c6, c7, c8, c9, c10, c11, c12, c13, c14, c15, c16, c17, c18, c19, c20, c21, c22, c23, c24, c25] t fr)) :
    w.cell? ⟨g, 0, none⟩ = some c0 ∧ w.cell? ⟨g, 1, none⟩ = some c1 ∧ w.cell? ⟨g, 2, none⟩ = some c2 ∧ w.cell? ⟨g, 3, none⟩ = some c3 ∧ w.cell? ⟨g, 4, none⟩ = some c4 ∧ w.cell? ⟨g, 5, none⟩ = some c5 ∧ w.cell? ⟨g, 6, none⟩ = some c6 ∧ w.cell? ⟨g, 7, none⟩ = some c7 ∧ w.cell? ⟨g, 8, none⟩ = some c8 ∧ w.cell? ⟨g, 9, none⟩ = some c9 ∧ w.cell? ⟨g, 10, none⟩ = some c10 ∧ w.cell? ⟨g, 11, none⟩ = some c11 ∧ w.cell? ⟨g, 12, none⟩ = some c12 :=
  ⟨cell_of_row w g 0 _ _ _ h, cell_of_row w g 1 _ _ _ h, cell_of_row w g 2 _ _ _ h, cell_of_row w g 3 _ _ _ h, cell_of_row w g 4 _ _ _ h, cell_of_row w g 5 _ _ _ h, cell_of_row w g 6 _ _ _ h, cell_of_row w g 7 _ _ _ h, cell_of_row w g 8 _ _ _ h, cell_of_row w g 9 _ _ _ h, cell_of_row w g 10 _ _ _ h, cell_of_row w g 11 _ _ _ h, cell_of_row w g 12 _ _ _ h⟩
theorem cells26b {w : World} {g : Nat} {t : TypeId} {c0 c1 c2 c3 c4 c5 c6 c7 c8 c9 c10 c11 c12 c13 c14 c15 c16 c17 c18 c19 c20 c21 c22 c23 c24 c25 : Value} {fr : Nat × Nat} (h : w.heap[g]? = some (.cells #[c0, c1, c2, c3, c4, c5, c6, c7, c8, c9, c10, c11, c12, c13, c14, c15, c16, c17, c18, c19, c20, c21, c22, c23, c24, c25] t fr)) :
    w.cell? ⟨g, 13, none⟩ = some c13 ∧ w.cell? ⟨g, 14, none⟩ = some c14 ∧ w.cell? ⟨g, 15, none⟩ = some c15 ∧ w.cell? ⟨g, 16, none⟩ = some c16 ∧ w.cell? ⟨g, 17, none⟩ = some c17 ∧ w.cell? ⟨g, 18, none⟩ = some c18 ∧ w.cell? ⟨g, 19, none⟩ = some c19 ∧ w.cell? ⟨g, 20, none⟩ = some c20 ∧ w.cell? ⟨g, 21, none⟩ = some c21 ∧ w.cell? ⟨g, 22, none⟩ = some c22 ∧ w.cell? ⟨g, 23, none⟩ = some c23 ∧ w.cell? ⟨g, 24, none⟩ = some c24 ∧ w.cell? ⟨g, 25, none⟩ = some c25 :=
  ⟨cell_of_row w g 13 _ _ _ h, cell_of_row w g 14 _ _ _ h, cell_of_row w g 15 _ _ _ h, cell_of_row w g 16 _ _ _ h, cell_of_row w g 17 _ _ _ h, cell_of_row w g 18 _ _ _ h, cell_of_row w g 19 _ _ _ h, cell_of_row w g 20 _ _ _ h, cell_of_row w g 21 _ _ _ h, cell_of_row w g 22 _ _ _ h, cell_of_row w g 23 _ _ _ h, cell_of_row w g 24 _ _ _ h, cell_of_row w g 25 _ _ _ h⟩
theorem app26 (c0 c1 c2 c3 c4 c5 c6 c7 c8 c9 c10 c11 c12 c13 c14 c15 c16 c17 c18 c19 c20 c21 c22 c23 c24 c25 : Value) : (#[c0, c1, c2, c3, c4, c5, c6, c7, c8, c9, c10, c11, c12] ++ #[c13, c14, c15, c16, c17, c18, c19, c20, c21, c22, c23, c24, c25] : Array Value) = #[c0, c1, c2, c3, c4, c5, c6, c7, c8, c9, c10, c11, c12, c13, c14, c15, c16, c17, c18, c19, c20, c21, c22, c23, c24, c25] := rfl
theorem cells13z {w : World} {g : Nat} {t : TypeId} {c0 c1 c2 c3 c4 c5 c6 c7 c8 c9 c10 c11 c12 : Value} {fr : Nat × Nat} (h : w.heap[g]? = some (.cells #[c0, c1, c2, c3, c4, c5, c6, c7, c8, c9, c10, c11, c12] t fr)) :
    w.cell? ⟨g, 0, none⟩ = some c0 ∧ w.cell? ⟨g, 1, none⟩ = some c1 ∧ w.cell? ⟨g, 2, none⟩ = some c2 ∧ w.cell? ⟨g, 3, none⟩ = some c3 ∧ w.cell? ⟨g, 4, none⟩ = some c4 ∧ w.cell? ⟨g, 5, none⟩ = some c5 ∧ w.cell? ⟨g, 6, none⟩ = some c6 ∧ w.cell? ⟨g, 7, none⟩ = some c7 ∧ w.cell? ⟨g, 8, none⟩ = some c8 ∧ w.cell? ⟨g, 9, none⟩ = some c9 ∧ w.cell? ⟨g, 10, none⟩ = some c10 ∧ w.cell? ⟨g, 11, none⟩ = some c11 ∧ w.cell? ⟨g, 12, none⟩ = some c12 :=
  ⟨cell_of_row w g 0 _ _ _ h, cell_of_row w g 1 _ _ _ h, cell_of_row w g 2 _ _ _ h, cell_of_row w g 3 _ _ _ h, cell_of_row w g 4 _ _ _ h, cell_of_row w g 5 _ _ _ h, cell_of_row w g 6 _ _ _ h, cell_of_row w g 7 _ _ _ h, cell_of_row w g 8 _ _ _ h, cell_of_row w g 9 _ _ _ h, cell_of_row w g 10 _ _ _ h, cell_of_row w g 11 _ _ _ h, cell_of_row w g 12 _ _ _ h⟩
set_option maxRecDepth 100000 in
set_option maxHeartbeats 1000000 in
theorem xtoWork_find (p : Nat) (h er : Int) (vh : Value) (w : World) (he : er ≠ 0)
    (HA : Hid (Calls Tryz.prog 50 #[.pointer (some ⟨p, 0, none⟩), vh] w fun e w' => e = .returned (.tuple #[.slice none 0 0, .int .i64 er]) ∧ Kp0 w w')) :
    Calls Tryz.prog 99 #[.pointer (some ⟨p, 0, none⟩), .int .i64 h, vh] w fun e w' => e = .returned (.tuple #[.slice none 0 0, .nilIface, .slice none 0 0, .int .i64 er]) ∧ Kp0 w w' := by
  have d1 : (er != 0) = true := by simp [he]
  clear he
  go_enter Tryz.func99, Tryz.ntmps99
  go_wp2_with fail
  refine HA.out.mono ?_
  rintro e w2 ⟨rfl, hw⟩
  have HK := hid hw
  clear hw
  go_wp2
  go_returns
  exact ⟨rfl, HK.out⟩

set_option maxRecDepth 100000 in
set_option maxHeartbeats 1000000 in
theorem xtoWork_write (p : Nat) (h er : Int) (vh : Value) (w : World) (he : er ≠ 0)
    (HA : Hid (Calls Tryz.prog 50 #[.pointer (some ⟨p, 0, none⟩), vh] w fun e w' => ∃ g n, e = .returned (.tuple #[.slice (some ⟨g, 0, none⟩) n n, .int .i64 0]) ∧ Kp0 w w'))
    (HW : Hid (∀ W, Kp0 w W → Calls Tryz.prog 73 #[.pointer (some ⟨p, 0, none⟩), .int .i64 h] W fun e w' => e = .returned (.tuple #[.agg xaZ, .nilIface, .int .i64 er]) ∧ Kp0 W w')) :
    Calls Tryz.prog 99 #[.pointer (some ⟨p, 0, none⟩), .int .i64 h, vh] w fun e w' => e = .returned (.tuple #[.slice none 0 0, .nilIface, .slice none 0 0, .int .i64 er]) ∧ Kp0 w w' := by
  have d1 : (er != 0) = true := by simp [he]
  clear he
  unfold xaZ at HW
  go_enter Tryz.func99, Tryz.ntmps99
  go_wp2_with fail
  refine HA.out.mono ?_
  rintro e w2 ⟨g, n, rfl, hw⟩
  have HK := hid hw
  clear hw
  go_wp2_with fail
  refine (HW.out _ HK.out).mono ?_
  rintro e w3 ⟨rfl, hw⟩
  have HK3 : Hid (Kp0 w w3) := Kp0.trans HK.out hw
  clear hw
  go_wp2
  go_returns
  exact ⟨rfl, HK3.out.alloc _⟩

set_option maxRecDepth 100000 in
set_option maxHeartbeats 4000000 in
theorem xtoWork1_no0 (p : Nat) (h : Int) (vh I : Value) (w : World) (x z : XA)
    (HA : Hid (Calls Tryz.prog 50 #[.pointer (some ⟨p, 0, none⟩), vh] w fun e w' => ∃ g, e = .returned (.tuple #[.slice (some ⟨g, 0, none⟩) 1 1, .int .i64 0]) ∧ Kp0 w w' ∧ w'.heap[g]? = some (.cells x.cs 109 (0, 0)) ∧ w.heap.size ≤ g))
    (HW : Hid (∀ W, Kp0 w W → Calls Tryz.prog 73 #[.pointer (some ⟨p, 0, none⟩), .int .i64 h] W fun e w' => e = .returned (.tuple #[.agg z.cs, I, .int .i64 0]) ∧ Kp0 W w'))
    (HV0 : Hid (∀ W, Kp0 w W → Calls Tryz.prog 134 #[.pointer (some ⟨p, 0, none⟩), .agg x.cs, .agg (shC z.l).toArray] W fun e w' => e = .returned (.tuple #[.slice none 0 0, .bool false]) ∧ Kp0 W w')) :
    Calls Tryz.prog 99 #[.pointer (some ⟨p, 0, none⟩), .int .i64 h, vh] w fun e w' => e = .returned (.tuple #[.slice none 0 0, .nilIface, .slice none 0 0, .int .i64 4]) ∧ Kp0 w w' := by
  have hmk := Tryz.mkVal1
  obtain ⟨nz, hnz⟩ : ∃ nz, z.l.length = nz := ⟨_, rfl⟩
  obtain ⟨nx, hnx⟩ : ∃ nx, x.l.length = nx := ⟨_, rfl⟩
  unfold XA.cs at *
  unfold shC at *
  simp only [hnz, hnx] at *
  clear hnz hnx
  go_enter Tryz.func99, Tryz.ntmps99
  go_wp2_with fail
  refine HA.out.mono ?_
  rintro e w2 ⟨g1, rfl, hw, hb, hge⟩
  have HK2 := hid hw
  have HG2 := hid hb
  have HGE := hid hge
  clear hw hb hge
  go_wp2_with fail
  refine (HW.out _ HK2.out).mono ?_
  rintro e w3 ⟨rfl, hw⟩
  have HK3 : Hid (Kp0 w w3) := Kp0.trans HK2.out hw
  have HG3 := hid (hw.heap HG2.out)
  have hlt3 : g1 < w3.heap.size := lt_of_heap HG3.out
  clear hw HG2 HK2
  have HB4 : Hid (((w3.alloc (.cells #[.int .i64 z.kind, .int .i64 z.buf, .int .i64 (nth z.l 0), .int .i64 (nth z.l 1), .int .i64 (nth z.l 2), .int .i64 (nth z.l 3), .int .i64 (nz : Int), .int .i64 z.f, .int .i64 (nth z.t 0), .int .i64 (nth z.t 1), .int .i64 (nth z.t 2), .int .i64 (nth z.t 3), .bool z.ro] 109)).alloc (.cells #[.slice none 0 0] 26)).heap[w3.heap.size]? = some (.cells #[.int .i64 z.kind, .int .i64 z.buf, .int .i64 (nth z.l 0), .int .i64 (nth z.l 1), .int .i64 (nth z.l 2), .int .i64 (nth z.l 3), .int .i64 (nz : Int), .int .i64 z.f, .int .i64 (nth z.t 0), .int .i64 (nth z.t 1), .int .i64 (nth z.t 2), .int .i64 (nth z.t 3), .bool z.ro] 109 (0, 0))) := (two_heap w3 _ _).1
  have HB5 : Hid (((w3.alloc (.cells #[.int .i64 z.kind, .int .i64 z.buf, .int .i64 (nth z.l 0), .int .i64 (nth z.l 1), .int .i64 (nth z.l 2), .int .i64 (nth z.l 3), .int .i64 (nz : Int), .int .i64 z.f, .int .i64 (nth z.t 0), .int .i64 (nth z.t 1), .int .i64 (nth z.t 2), .int .i64 (nth z.t 3), .bool z.ro] 109)).alloc (.cells #[.slice none 0 0] 26)).heap[w3.heap.size + 1]? = some (.cells #[.slice none 0 0] 26 (0, 0))) := (two_heap w3 _ _).2
  have HG4 : Hid (((w3.alloc (.cells #[.int .i64 z.kind, .int .i64 z.buf, .int .i64 (nth z.l 0), .int .i64 (nth z.l 1), .int .i64 (nth z.l 2), .int .i64 (nth z.l 3), .int .i64 (nz : Int), .int .i64 z.f, .int .i64 (nth z.t 0), .int .i64 (nth z.t 1), .int .i64 (nth z.t 2), .int .i64 (nth z.t 3), .bool z.ro] 109)).alloc (.cells #[.slice none 0 0] 26)).heap[g1]? = _) := heap_alloc_keeps (heap_alloc_keeps HG3.out _) _
  have HK4 : Hid (Kp0 w ((w3.alloc (.cells #[.int .i64 z.kind, .int .i64 z.buf, .int .i64 (nth z.l 0), .int .i64 (nth z.l 1), .int .i64 (nth z.l 2), .int .i64 (nth z.l 3), .int .i64 (nz : Int), .int .i64 z.f, .int .i64 (nth z.t 0), .int .i64 (nth z.t 1), .int .i64 (nth z.t 2), .int .i64 (nth z.t 3), .bool z.ro] 109)).alloc (.cells #[.slice none 0 0] 26))) := (HK3.out.alloc _).alloc _
  have HS3 : Hid (w.heap.size ≤ w3.heap.size) := HK3.out.size
  go_wp2
  clear HG3 HK3 hmk
  generalize (w3.alloc (.cells #[.int .i64 z.kind, .int .i64 z.buf, .int .i64 (nth z.l 0), .int .i64 (nth z.l 1), .int .i64 (nth z.l 2), .int .i64 (nth z.l 3), .int .i64 (nz : Int), .int .i64 z.f, .int .i64 (nth z.t 0), .int .i64 (nth z.t 1), .int .i64 (nth z.t 2), .int .i64 (nth z.t 3), .bool z.ro] 109)).alloc (.cells #[.slice none 0 0] 26) = W4 at HB4 HB5 HG4 HK4 ⊢
  generalize w3.heap.size = b0 at HB4 HB5 HS3 hlt3 ⊢
  go_loopw [43] (fun t w' => ((t = .int .i64 0 ∧ Hid (w'.heap[b0 + 1]? = some (.cells #[.slice none 0 0] 26 (0, 0))))) ∧ Hid (Kp0 w w') ∧ Hid (w'.heap[b0]? = some (.cells #[.int .i64 z.kind, .int .i64 z.buf, .int .i64 (nth z.l 0), .int .i64 (nth z.l 1), .int .i64 (nth z.l 2), .int .i64 (nth z.l 3), .int .i64 (nz : Int), .int .i64 z.f, .int .i64 (nth z.t 0), .int .i64 (nth z.t 1), .int .i64 (nth z.t 2), .int .i64 (nth z.t 3), .bool z.ro] 109 (0, 0))) ∧ Hid (w'.heap[g1]? = some (.cells (#[.int .i64 x.kind, .int .i64 x.buf, .int .i64 (nth x.l 0), .int .i64 (nth x.l 1), .int .i64 (nth x.l 2), .int .i64 (nth x.l 3), .int .i64 (nx : Int), .int .i64 x.f, .int .i64 (nth x.t 0), .int .i64 (nth x.t 1), .int .i64 (nth x.t 2), .int .i64 (nth x.t 3), .bool x.ro]) 109 (0, 0)))) (fun t _ => 1 - (intOf t).toNat)
  case atStart => exact ⟨⟨rfl, HB5⟩, HK4, HB4, HG4⟩
  case round =>
    clear HB4 HB5 HG4 HK4
    obtain ⟨hrel, HK, HB4, HG⟩ := hrel
    obtain ⟨rfl, HB⟩ := hrel
    obtain ⟨y0, y1, y2, y3, y4, y5, y6, y7, y8, y9, y10, y11, y12⟩ := cells13z HG.out
    obtain ⟨z0, z1, z2, z3, z4, z5, z6, z7, z8, z9, z10, z11, z12⟩ := cells13 HB4.out
    have hg1 : g1 < wr.heap.size := lt_of_heap HG.out
    have hb0 : b0 < wr.heap.size := lt_of_heap HB4.out
    have hb1 : b0 + 1 < wr.heap.size := lt_of_heap HB.out
    go_wp2_with fail
    refine (HV0.out _ (HK.out.alloc _)).mono ?_
    rintro e w5 ⟨rfl, hw⟩
    have HK5 : Hid (Kp0 w w5) := Kp0.trans (HK.out.alloc _) hw
    clear hw y0 y1 y2 y3 y4 y5 y6 y7 y8 y9 y10 y11 y12 z0 z1 z2 z3 z4 z5 z6 z7 z8 z9 z10 z11 z12
    go_wp2
    go_returns
    exact ⟨rfl, HK5.out⟩

set_option maxRecDepth 100000 in
set_option maxHeartbeats 4000000 in
theorem xtoWork1_yes (p : Nat) (h : Int) (vh I : Value) (w : World) (x z : XA) (m0 : Nat) (V0 : List Int) (mP : Nat) (P : List Int)
    (HA : Hid (Calls Tryz.prog 50 #[.pointer (some ⟨p, 0, none⟩), vh] w fun e w' => ∃ g, e = .returned (.tuple #[.slice (some ⟨g, 0, none⟩) 1 1, .int .i64 0]) ∧ Kp0 w w' ∧ w'.heap[g]? = some (.cells x.cs 109 (0, 0)) ∧ w.heap.size ≤ g))
    (HW : Hid (∀ W, Kp0 w W → Calls Tryz.prog 73 #[.pointer (some ⟨p, 0, none⟩), .int .i64 h] W fun e w' => e = .returned (.tuple #[.agg z.cs, I, .int .i64 0]) ∧ Kp0 W w'))
    (HV0 : Hid (∀ W, Kp0 w W → Calls Tryz.prog 134 #[.pointer (some ⟨p, 0, none⟩), .agg x.cs, .agg (shC z.l).toArray] W fun e w' => ∃ ao c, e = .returned (.tuple #[.slice ao m0 c, .bool true]) ∧ Kp0 W w' ∧ Fr W.heap.size w' (.slice ao m0 c) V0))
    (HC : Hid (∀ W, Kp0 w W → Calls Tryz.prog 60 #[.agg (grC z.l z.t z.f).toArray] W fun e w' => ∃ ao c, e = .returned (.slice ao mP c) ∧ Kp0 W w' ∧ Fr W.heap.size w' (.slice ao mP c) P)) :
    Calls Tryz.prog 99 #[.pointer (some ⟨p, 0, none⟩), .int .i64 h, vh] w fun e w' => ∃ aP cP g a0 c0, e = .returned (.tuple #[.slice aP mP cP, I, .slice (some ⟨g, 0, none⟩) 1 1, .int .i64 0]) ∧ (Kp0 w w' ∧ w'.heap[g]? = some (.cells #[.slice a0 m0 c0] 26 (0, 0)) ∧ w.heap.size ≤ g ∧ Fr w.heap.size w' (.slice aP mP cP) P ∧ Fr w.heap.size w' (.slice a0 m0 c0) V0) := by
  have hmk := Tryz.mkVal1
  obtain ⟨nz, hnz⟩ : ∃ nz, z.l.length = nz := ⟨_, rfl⟩
  obtain ⟨nx, hnx⟩ : ∃ nx, x.l.length = nx := ⟨_, rfl⟩
  unfold XA.cs at *
  unfold shC at *
  unfold grC at *
  simp only [hnz, hnx] at *
  clear hnz hnx
  go_enter Tryz.func99, Tryz.ntmps99
  go_wp2_with fail
  refine HA.out.mono ?_
  rintro e w2 ⟨g1, rfl, hw, hb, hge⟩
  have HK2 := hid hw
  have HG2 := hid hb
  have HGE := hid hge
  clear hw hb hge
  go_wp2_with fail
  refine (HW.out _ HK2.out).mono ?_
  rintro e w3 ⟨rfl, hw⟩
  have HK3 : Hid (Kp0 w w3) := Kp0.trans HK2.out hw
  have HG3 := hid (hw.heap HG2.out)
  have hlt3 : g1 < w3.heap.size := lt_of_heap HG3.out
  clear hw HG2 HK2
  have HB4 : Hid (((w3.alloc (.cells #[.int .i64 z.kind, .int .i64 z.buf, .int .i64 (nth z.l 0), .int .i64 (nth z.l 1), .int .i64 (nth z.l 2), .int .i64 (nth z.l 3), .int .i64 (nz : Int), .int .i64 z.f, .int .i64 (nth z.t 0), .int .i64 (nth z.t 1), .int .i64 (nth z.t 2), .int .i64 (nth z.t 3), .bool z.ro] 109)).alloc (.cells #[.slice none 0 0] 26)).heap[w3.heap.size]? = some (.cells #[.int .i64 z.kind, .int .i64 z.buf, .int .i64 (nth z.l 0), .int .i64 (nth z.l 1), .int .i64 (nth z.l 2), .int .i64 (nth z.l 3), .int .i64 (nz : Int), .int .i64 z.f, .int .i64 (nth z.t 0), .int .i64 (nth z.t 1), .int .i64 (nth z.t 2), .int .i64 (nth z.t 3), .bool z.ro] 109 (0, 0))) := (two_heap w3 _ _).1
  have HB5 : Hid (((w3.alloc (.cells #[.int .i64 z.kind, .int .i64 z.buf, .int .i64 (nth z.l 0), .int .i64 (nth z.l 1), .int .i64 (nth z.l 2), .int .i64 (nth z.l 3), .int .i64 (nz : Int), .int .i64 z.f, .int .i64 (nth z.t 0), .int .i64 (nth z.t 1), .int .i64 (nth z.t 2), .int .i64 (nth z.t 3), .bool z.ro] 109)).alloc (.cells #[.slice none 0 0] 26)).heap[w3.heap.size + 1]? = some (.cells #[.slice none 0 0] 26 (0, 0))) := (two_heap w3 _ _).2
  have HG4 : Hid (((w3.alloc (.cells #[.int .i64 z.kind, .int .i64 z.buf, .int .i64 (nth z.l 0), .int .i64 (nth z.l 1), .int .i64 (nth z.l 2), .int .i64 (nth z.l 3), .int .i64 (nz : Int), .int .i64 z.f, .int .i64 (nth z.t 0), .int .i64 (nth z.t 1), .int .i64 (nth z.t 2), .int .i64 (nth z.t 3), .bool z.ro] 109)).alloc (.cells #[.slice none 0 0] 26)).heap[g1]? = _) := heap_alloc_keeps (heap_alloc_keeps HG3.out _) _
  have HK4 : Hid (Kp0 w ((w3.alloc (.cells #[.int .i64 z.kind, .int .i64 z.buf, .int .i64 (nth z.l 0), .int .i64 (nth z.l 1), .int .i64 (nth z.l 2), .int .i64 (nth z.l 3), .int .i64 (nz : Int), .int .i64 z.f, .int .i64 (nth z.t 0), .int .i64 (nth z.t 1), .int .i64 (nth z.t 2), .int .i64 (nth z.t 3), .bool z.ro] 109)).alloc (.cells #[.slice none 0 0] 26))) := (HK3.out.alloc _).alloc _
  have HS3 : Hid (w.heap.size ≤ w3.heap.size) := HK3.out.size
  go_wp2
  clear HG3 HK3 hmk
  generalize (w3.alloc (.cells #[.int .i64 z.kind, .int .i64 z.buf, .int .i64 (nth z.l 0), .int .i64 (nth z.l 1), .int .i64 (nth z.l 2), .int .i64 (nth z.l 3), .int .i64 (nz : Int), .int .i64 z.f, .int .i64 (nth z.t 0), .int .i64 (nth z.t 1), .int .i64 (nth z.t 2), .int .i64 (nth z.t 3), .bool z.ro] 109)).alloc (.cells #[.slice none 0 0] 26) = W4 at HB4 HB5 HG4 HK4 ⊢
  generalize w3.heap.size = b0 at HB4 HB5 HS3 hlt3 ⊢
  go_loopw [43] (fun t w' => ((t = .int .i64 0 ∧ Hid (w'.heap[b0 + 1]? = some (.cells #[.slice none 0 0] 26 (0, 0)))) ∨ (∃ a0 c0, t = .int .i64 1 ∧ Hid (w'.heap[b0 + 1]? = some (.cells #[.slice a0 m0 c0] 26 (0, 0))) ∧ Hid (Fr (b0 + 2) w' (.slice a0 m0 c0) V0))) ∧ Hid (Kp0 w w') ∧ Hid (w'.heap[b0]? = some (.cells #[.int .i64 z.kind, .int .i64 z.buf, .int .i64 (nth z.l 0), .int .i64 (nth z.l 1), .int .i64 (nth z.l 2), .int .i64 (nth z.l 3), .int .i64 (nz : Int), .int .i64 z.f, .int .i64 (nth z.t 0), .int .i64 (nth z.t 1), .int .i64 (nth z.t 2), .int .i64 (nth z.t 3), .bool z.ro] 109 (0, 0))) ∧ Hid (w'.heap[g1]? = some (.cells (#[.int .i64 x.kind, .int .i64 x.buf, .int .i64 (nth x.l 0), .int .i64 (nth x.l 1), .int .i64 (nth x.l 2), .int .i64 (nth x.l 3), .int .i64 (nx : Int), .int .i64 x.f, .int .i64 (nth x.t 0), .int .i64 (nth x.t 1), .int .i64 (nth x.t 2), .int .i64 (nth x.t 3), .bool x.ro]) 109 (0, 0)))) (fun t _ => 1 - (intOf t).toNat)
  case atStart => exact ⟨.inl ⟨rfl, HB5⟩, HK4, HB4, HG4⟩
  case round =>
    clear HB4 HB5 HG4 HK4
    obtain ⟨hrel, HK, HB4, HG⟩ := hrel
    rcases hrel with ⟨rfl, HB⟩ | ⟨a0, c0, rfl, HB, HF0⟩
    · obtain ⟨y0, y1, y2, y3, y4, y5, y6, y7, y8, y9, y10, y11, y12⟩ := cells13z HG.out
      obtain ⟨z0, z1, z2, z3, z4, z5, z6, z7, z8, z9, z10, z11, z12⟩ := cells13 HB4.out
      have hg1 : g1 < wr.heap.size := lt_of_heap HG.out
      have hb0 : b0 < wr.heap.size := lt_of_heap HB4.out
      have hb1 : b0 + 1 < wr.heap.size := lt_of_heap HB.out
      go_wp2_with fail
      refine (HV0.out _ (HK.out.alloc _)).mono ?_
      rintro e w5 ⟨a0, c0, rfl, hw, hfr⟩
      have kk : Kp0 wr w5 := Kp0.trans ((Kp.refl _ wr).alloc _) hw
      have HK5 : Hid (Kp0 w w5) := Kp0.trans HK.out kk
      have HN0 : Hid (Fr (b0 + 2) w5 _ _) := hid (hfr.le (by simp; omega))
      have HB5 := hid (kk.heap HB.out)
      have HB6 := hid (kk.heap HB4.out)
      have HG5 := hid (kk.heap HG.out)
      have f1 := frozen_of_row w5 (b0 + 1) 0 _ _ HB5.out
      have f2 : w5.cell? ⟨b0 + 1, 0, none⟩ = some (.slice none 0 0) := cell_of_row _ (b0 + 1) 0 _ _ _ HB5.out
      have HST : Hid ((w5.setCell ⟨b0 + 1, 0, none⟩ (.slice a0 m0 c0)).heap[b0 + 1]? = some (.cells #[.slice a0 m0 c0] 26 (0, 0))) := heap_setCell_same _ (b0 + 1) 0 _ _ _ HB5.out
      have KST : Hid (Kp (fun b => b = b0 + 1) w5 (w5.setCell ⟨b0 + 1, 0, none⟩ (.slice a0 m0 c0))) := (Kp.refl _ w5).setCell ⟨b0 + 1, 0, none⟩ _ (fun _ => rfl)
      clear hw hfr kk y0 y1 y2 y3 y4 y5 y6 y7 y8 y9 y10 y11 y12 z0 z1 z2 z3 z4 z5 z6 z7 z8 z9 z10 z11 z12
      go_wp2
      go_roundw
      case rel => exact ⟨.inr (⟨a0, c0, by go_num, HST, hid (HN0.out.kp KST.out (fun b hb e => by omega))⟩), hid (Kp.trans HK5.out KST.out (fun i hi e => by have := HS3.out; omega)), hid (KST.out.heap HB6.out (by omega)), hid (KST.out.heap HG5.out (by omega))⟩
      case measure => simp [intOf]
    · obtain ⟨z0, z1, z2, z3, z4, z5, z6, z7, z8, z9, z10, z11, z12⟩ := cells13 HB4.out
      go_wp2_with fail
      refine (HC.out _ HK.out).mono ?_
      rintro e w5 ⟨aP, cP, rfl, hw, hfr⟩
      have HK5 := hid (Kp0.trans HK.out hw)
      have HB5 := hid (hw.heap HB.out)
      have HFP := hid (hfr.le HK.out.size)
      have HO0 := hid ((HF0.out.kp0 hw).le (M := w.heap.size) (by have := HS3.out; omega))
      clear hw hfr z0 z1 z2 z3 z4 z5 z6 z7 z8 z9 z10 z11 z12
      go_wp2
      go_returns
      exact ⟨aP, cP, b0 + 1, a0, c0, rfl, HK5.out, HB5.out, by have := HS3.out; omega, HFP.out, HO0.out⟩

set_option maxRecDepth 100000 in
set_option maxHeartbeats 4000000 in
theorem xtoWork2_no0 (p : Nat) (h : Int) (vh I : Value) (w : World) (x y z : XA)
    (HA : Hid (Calls Tryz.prog 50 #[.pointer (some ⟨p, 0, none⟩), vh] w fun e w' => ∃ g, e = .returned (.tuple #[.slice (some ⟨g, 0, none⟩) 2 2, .int .i64 0]) ∧ Kp0 w w' ∧ w'.heap[g]? = some (.cells (x.cs ++ y.cs) 109 (0, 0)) ∧ w.heap.size ≤ g))
    (HW : Hid (∀ W, Kp0 w W → Calls Tryz.prog 73 #[.pointer (some ⟨p, 0, none⟩), .int .i64 h] W fun e w' => e = .returned (.tuple #[.agg z.cs, I, .int .i64 0]) ∧ Kp0 W w'))
    (HV0 : Hid (∀ W, Kp0 w W → Calls Tryz.prog 134 #[.pointer (some ⟨p, 0, none⟩), .agg x.cs, .agg (shC z.l).toArray] W fun e w' => e = .returned (.tuple #[.slice none 0 0, .bool false]) ∧ Kp0 W w')) :
    Calls Tryz.prog 99 #[.pointer (some ⟨p, 0, none⟩), .int .i64 h, vh] w fun e w' => e = .returned (.tuple #[.slice none 0 0, .nilIface, .slice none 0 0, .int .i64 4]) ∧ Kp0 w w' := by
  have hmk := Tryz.mkVal2
  obtain ⟨nz, hnz⟩ : ∃ nz, z.l.length = nz := ⟨_, rfl⟩
  obtain ⟨nx, hnx⟩ : ∃ nx, x.l.length = nx := ⟨_, rfl⟩
  obtain ⟨ny, hny⟩ : ∃ ny, y.l.length = ny := ⟨_, rfl⟩
  unfold XA.cs at *
  unfold shC at *
  simp only [hnz, hnx, hny] at *
  clear hnz hnx hny
  simp only [app26] at HA
  go_enter Tryz.func99, Tryz.ntmps99
  go_wp2_with fail
  refine HA.out.mono ?_
  rintro e w2 ⟨g1, rfl, hw, hb, hge⟩
  have HK2 := hid hw
  have HG2 := hid hb
  have HGE := hid hge
  clear hw hb hge
  go_wp2_with fail
  refine (HW.out _ HK2.out).mono ?_
  rintro e w3 ⟨rfl, hw⟩
  have HK3 : Hid (Kp0 w w3) := Kp0.trans HK2.out hw
  have HG3 := hid (hw.heap HG2.out)
  have hlt3 : g1 < w3.heap.size := lt_of_heap HG3.out
  clear hw HG2 HK2
  have HB4 : Hid (((w3.alloc (.cells #[.int .i64 z.kind, .int .i64 z.buf, .int .i64 (nth z.l 0), .int .i64 (nth z.l 1), .int .i64 (nth z.l 2), .int .i64 (nth z.l 3), .int .i64 (nz : Int), .int .i64 z.f, .int .i64 (nth z.t 0), .int .i64 (nth z.t 1), .int .i64 (nth z.t 2), .int .i64 (nth z.t 3), .bool z.ro] 109)).alloc (.cells #[.slice none 0 0, .slice none 0 0] 26)).heap[w3.heap.size]? = some (.cells #[.int .i64 z.kind, .int .i64 z.buf, .int .i64 (nth z.l 0), .int .i64 (nth z.l 1), .int .i64 (nth z.l 2), .int .i64 (nth z.l 3), .int .i64 (nz : Int), .int .i64 z.f, .int .i64 (nth z.t 0), .int .i64 (nth z.t 1), .int .i64 (nth z.t 2), .int .i64 (nth z.t 3), .bool z.ro] 109 (0, 0))) := (two_heap w3 _ _).1
  have HB5 : Hid (((w3.alloc (.cells #[.int .i64 z.kind, .int .i64 z.buf, .int .i64 (nth z.l 0), .int .i64 (nth z.l 1), .int .i64 (nth z.l 2), .int .i64 (nth z.l 3), .int .i64 (nz : Int), .int .i64 z.f, .int .i64 (nth z.t 0), .int .i64 (nth z.t 1), .int .i64 (nth z.t 2), .int .i64 (nth z.t 3), .bool z.ro] 109)).alloc (.cells #[.slice none 0 0, .slice none 0 0] 26)).heap[w3.heap.size + 1]? = some (.cells #[.slice none 0 0, .slice none 0 0] 26 (0, 0))) := (two_heap w3 _ _).2
  have HG4 : Hid (((w3.alloc (.cells #[.int .i64 z.kind, .int .i64 z.buf, .int .i64 (nth z.l 0), .int .i64 (nth z.l 1), .int .i64 (nth z.l 2), .int .i64 (nth z.l 3), .int .i64 (nz : Int), .int .i64 z.f, .int .i64 (nth z.t 0), .int .i64 (nth z.t 1), .int .i64 (nth z.t 2), .int .i64 (nth z.t 3), .bool z.ro] 109)).alloc (.cells #[.slice none 0 0, .slice none 0 0] 26)).heap[g1]? = _) := heap_alloc_keeps (heap_alloc_keeps HG3.out _) _
  have HK4 : Hid (Kp0 w ((w3.alloc (.cells #[.int .i64 z.kind, .int .i64 z.buf, .int .i64 (nth z.l 0), .int .i64 (nth z.l 1), .int .i64 (nth z.l 2), .int .i64 (nth z.l 3), .int .i64 (nz : Int), .int .i64 z.f, .int .i64 (nth z.t 0), .int .i64 (nth z.t 1), .int .i64 (nth z.t 2), .int .i64 (nth z.t 3), .bool z.ro] 109)).alloc (.cells #[.slice none 0 0, .slice none 0 0] 26))) := (HK3.out.alloc _).alloc _
  have HS3 : Hid (w.heap.size ≤ w3.heap.size) := HK3.out.size
  go_wp2
  clear HG3 HK3 hmk
  generalize (w3.alloc (.cells #[.int .i64 z.kind, .int .i64 z.buf, .int .i64 (nth z.l 0), .int .i64 (nth z.l 1), .int .i64 (nth z.l 2), .int .i64 (nth z.l 3), .int .i64 (nz : Int), .int .i64 z.f, .int .i64 (nth z.t 0), .int .i64 (nth z.t 1), .int .i64 (nth z.t 2), .int .i64 (nth z.t 3), .bool z.ro] 109)).alloc (.cells #[.slice none 0 0, .slice none 0 0] 26) = W4 at HB4 HB5 HG4 HK4 ⊢
  generalize w3.heap.size = b0 at HB4 HB5 HS3 hlt3 ⊢
  go_loopw [43] (fun t w' => ((t = .int .i64 0 ∧ Hid (w'.heap[b0 + 1]? = some (.cells #[.slice none 0 0, .slice none 0 0] 26 (0, 0))))) ∧ Hid (Kp0 w w') ∧ Hid (w'.heap[b0]? = some (.cells #[.int .i64 z.kind, .int .i64 z.buf, .int .i64 (nth z.l 0), .int .i64 (nth z.l 1), .int .i64 (nth z.l 2), .int .i64 (nth z.l 3), .int .i64 (nz : Int), .int .i64 z.f, .int .i64 (nth z.t 0), .int .i64 (nth z.t 1), .int .i64 (nth z.t 2), .int .i64 (nth z.t 3), .bool z.ro] 109 (0, 0))) ∧ Hid (w'.heap[g1]? = some (.cells (#[.int .i64 x.kind, .int .i64 x.buf, .int .i64 (nth x.l 0), .int .i64 (nth x.l 1), .int .i64 (nth x.l 2), .int .i64 (nth x.l 3), .int .i64 (nx : Int), .int .i64 x.f, .int .i64 (nth x.t 0), .int .i64 (nth x.t 1), .int .i64 (nth x.t 2), .int .i64 (nth x.t 3), .bool x.ro, .int .i64 y.kind, .int .i64 y.buf, .int .i64 (nth y.l 0), .int .i64 (nth y.l 1), .int .i64 (nth y.l 2), .int .i64 (nth y.l 3), .int .i64 (ny : Int), .int .i64 y.f, .int .i64 (nth y.t 0), .int .i64 (nth y.t 1), .int .i64 (nth y.t 2), .int .i64 (nth y.t 3), .bool y.ro]) 109 (0, 0)))) (fun t _ => 2 - (intOf t).toNat)
  case atStart => exact ⟨⟨rfl, HB5⟩, HK4, HB4, HG4⟩
  case round =>
    clear HB4 HB5 HG4 HK4
    obtain ⟨hrel, HK, HB4, HG⟩ := hrel
    obtain ⟨rfl, HB⟩ := hrel
    obtain ⟨y0, y1, y2, y3, y4, y5, y6, y7, y8, y9, y10, y11, y12⟩ := cells26a HG.out
    obtain ⟨z0, z1, z2, z3, z4, z5, z6, z7, z8, z9, z10, z11, z12⟩ := cells13 HB4.out
    have hg1 : g1 < wr.heap.size := lt_of_heap HG.out
    have hb0 : b0 < wr.heap.size := lt_of_heap HB4.out
    have hb1 : b0 + 1 < wr.heap.size := lt_of_heap HB.out
    go_wp2_with fail
    refine (HV0.out _ (HK.out.alloc _)).mono ?_
    rintro e w5 ⟨rfl, hw⟩
    have HK5 : Hid (Kp0 w w5) := Kp0.trans (HK.out.alloc _) hw
    clear hw y0 y1 y2 y3 y4 y5 y6 y7 y8 y9 y10 y11 y12 z0 z1 z2 z3 z4 z5 z6 z7 z8 z9 z10 z11 z12
    go_wp2
    go_returns
    exact ⟨rfl, HK5.out⟩

set_option maxRecDepth 100000 in
set_option maxHeartbeats 4000000 in
theorem xtoWork2_no1 (p : Nat) (h : Int) (vh I : Value) (w : World) (x y z : XA) (m0 : Nat) (V0 : List Int)
    (HA : Hid (Calls Tryz.prog 50 #[.pointer (some ⟨p, 0, none⟩), vh] w fun e w' => ∃ g, e = .returned (.tuple #[.slice (some ⟨g, 0, none⟩) 2 2, .int .i64 0]) ∧ Kp0 w w' ∧ w'.heap[g]? = some (.cells (x.cs ++ y.cs) 109 (0, 0)) ∧ w.heap.size ≤ g))
    (HW : Hid (∀ W, Kp0 w W → Calls Tryz.prog 73 #[.pointer (some ⟨p, 0, none⟩), .int .i64 h] W fun e w' => e = .returned (.tuple #[.agg z.cs, I, .int .i64 0]) ∧ Kp0 W w'))
    (HV0 : Hid (∀ W, Kp0 w W → Calls Tryz.prog 134 #[.pointer (some ⟨p, 0, none⟩), .agg x.cs, .agg (shC z.l).toArray] W fun e w' => ∃ ao c, e = .returned (.tuple #[.slice ao m0 c, .bool true]) ∧ Kp0 W w' ∧ Fr W.heap.size w' (.slice ao m0 c) V0))
    (HV1 : Hid (∀ W, Kp0 w W → Calls Tryz.prog 134 #[.pointer (some ⟨p, 0, none⟩), .agg y.cs, .agg (shC z.l).toArray] W fun e w' => e = .returned (.tuple #[.slice none 0 0, .bool false]) ∧ Kp0 W w')) :
    Calls Tryz.prog 99 #[.pointer (some ⟨p, 0, none⟩), .int .i64 h, vh] w fun e w' => e = .returned (.tuple #[.slice none 0 0, .nilIface, .slice none 0 0, .int .i64 4]) ∧ Kp0 w w' := by
  have hmk := Tryz.mkVal2
  obtain ⟨nz, hnz⟩ : ∃ nz, z.l.length = nz := ⟨_, rfl⟩
  obtain ⟨nx, hnx⟩ : ∃ nx, x.l.length = nx := ⟨_, rfl⟩
  obtain ⟨ny, hny⟩ : ∃ ny, y.l.length = ny := ⟨_, rfl⟩
  unfold XA.cs at *
  unfold shC at *
  simp only [hnz, hnx, hny] at *
  clear hnz hnx hny
  simp only [app26] at HA
  go_enter Tryz.func99, Tryz.ntmps99
  go_wp2_with fail
  refine HA.out.mono ?_
  rintro e w2 ⟨g1, rfl, hw, hb, hge⟩
  have HK2 := hid hw
  have HG2 := hid hb
  have HGE := hid hge
  clear hw hb hge
  go_wp2_with fail
  refine (HW.out _ HK2.out).mono ?_
  rintro e w3 ⟨rfl, hw⟩
  have HK3 : Hid (Kp0 w w3) := Kp0.trans HK2.out hw
  have HG3 := hid (hw.heap HG2.out)
  have hlt3 : g1 < w3.heap.size := lt_of_heap HG3.out
  clear hw HG2 HK2
  have HB4 : Hid (((w3.alloc (.cells #[.int .i64 z.kind, .int .i64 z.buf, .int .i64 (nth z.l 0), .int .i64 (nth z.l 1), .int .i64 (nth z.l 2), .int .i64 (nth z.l 3), .int .i64 (nz : Int), .int .i64 z.f, .int .i64 (nth z.t 0), .int .i64 (nth z.t 1), .int .i64 (nth z.t 2), .int .i64 (nth z.t 3), .bool z.ro] 109)).alloc (.cells #[.slice none 0 0, .slice none 0 0] 26)).heap[w3.heap.size]? = some (.cells #[.int .i64 z.kind, .int .i64 z.buf, .int .i64 (nth z.l 0), .int .i64 (nth z.l 1), .int .i64 (nth z.l 2), .int .i64 (nth z.l 3), .int .i64 (nz : Int), .int .i64 z.f, .int .i64 (nth z.t 0), .int .i64 (nth z.t 1), .int .i64 (nth z.t 2), .int .i64 (nth z.t 3), .bool z.ro] 109 (0, 0))) := (two_heap w3 _ _).1
  have HB5 : Hid (((w3.alloc (.cells #[.int .i64 z.kind, .int .i64 z.buf, .int .i64 (nth z.l 0), .int .i64 (nth z.l 1), .int .i64 (nth z.l 2), .int .i64 (nth z.l 3), .int .i64 (nz : Int), .int .i64 z.f, .int .i64 (nth z.t 0), .int .i64 (nth z.t 1), .int .i64 (nth z.t 2), .int .i64 (nth z.t 3), .bool z.ro] 109)).alloc (.cells #[.slice none 0 0, .slice none 0 0] 26)).heap[w3.heap.size + 1]? = some (.cells #[.slice none 0 0, .slice none 0 0] 26 (0, 0))) := (two_heap w3 _ _).2
  have HG4 : Hid (((w3.alloc (.cells #[.int .i64 z.kind, .int .i64 z.buf, .int .i64 (nth z.l 0), .int .i64 (nth z.l 1), .int .i64 (nth z.l 2), .int .i64 (nth z.l 3), .int .i64 (nz : Int), .int .i64 z.f, .int .i64 (nth z.t 0), .int .i64 (nth z.t 1), .int .i64 (nth z.t 2), .int .i64 (nth z.t 3), .bool z.ro] 109)).alloc (.cells #[.slice none 0 0, .slice none 0 0] 26)).heap[g1]? = _) := heap_alloc_keeps (heap_alloc_keeps HG3.out _) _
  have HK4 : Hid (Kp0 w ((w3.alloc (.cells #[.int .i64 z.kind, .int .i64 z.buf, .int .i64 (nth z.l 0), .int .i64 (nth z.l 1), .int .i64 (nth z.l 2), .int .i64 (nth z.l 3), .int .i64 (nz : Int), .int .i64 z.f, .int .i64 (nth z.t 0), .int .i64 (nth z.t 1), .int .i64 (nth z.t 2), .int .i64 (nth z.t 3), .bool z.ro] 109)).alloc (.cells #[.slice none 0 0, .slice none 0 0] 26))) := (HK3.out.alloc _).alloc _
  have HS3 : Hid (w.heap.size ≤ w3.heap.size) := HK3.out.size
  go_wp2
  clear HG3 HK3 hmk
  generalize (w3.alloc (.cells #[.int .i64 z.kind, .int .i64 z.buf, .int .i64 (nth z.l 0), .int .i64 (nth z.l 1), .int .i64 (nth z.l 2), .int .i64 (nth z.l 3), .int .i64 (nz : Int), .int .i64 z.f, .int .i64 (nth z.t 0), .int .i64 (nth z.t 1), .int .i64 (nth z.t 2), .int .i64 (nth z.t 3), .bool z.ro] 109)).alloc (.cells #[.slice none 0 0, .slice none 0 0] 26) = W4 at HB4 HB5 HG4 HK4 ⊢
  generalize w3.heap.size = b0 at HB4 HB5 HS3 hlt3 ⊢
  go_loopw [43] (fun t w' => ((t = .int .i64 0 ∧ Hid (w'.heap[b0 + 1]? = some (.cells #[.slice none 0 0, .slice none 0 0] 26 (0, 0)))) ∨ (∃ a0 c0, t = .int .i64 1 ∧ Hid (w'.heap[b0 + 1]? = some (.cells #[.slice a0 m0 c0, .slice none 0 0] 26 (0, 0))) ∧ Hid (Fr (b0 + 2) w' (.slice a0 m0 c0) V0))) ∧ Hid (Kp0 w w') ∧ Hid (w'.heap[b0]? = some (.cells #[.int .i64 z.kind, .int .i64 z.buf, .int .i64 (nth z.l 0), .int .i64 (nth z.l 1), .int .i64 (nth z.l 2), .int .i64 (nth z.l 3), .int .i64 (nz : Int), .int .i64 z.f, .int .i64 (nth z.t 0), .int .i64 (nth z.t 1), .int .i64 (nth z.t 2), .int .i64 (nth z.t 3), .bool z.ro] 109 (0, 0))) ∧ Hid (w'.heap[g1]? = some (.cells (#[.int .i64 x.kind, .int .i64 x.buf, .int .i64 (nth x.l 0), .int .i64 (nth x.l 1), .int .i64 (nth x.l 2), .int .i64 (nth x.l 3), .int .i64 (nx : Int), .int .i64 x.f, .int .i64 (nth x.t 0), .int .i64 (nth x.t 1), .int .i64 (nth x.t 2), .int .i64 (nth x.t 3), .bool x.ro, .int .i64 y.kind, .int .i64 y.buf, .int .i64 (nth y.l 0), .int .i64 (nth y.l 1), .int .i64 (nth y.l 2), .int .i64 (nth y.l 3), .int .i64 (ny : Int), .int .i64 y.f, .int .i64 (nth y.t 0), .int .i64 (nth y.t 1), .int .i64 (nth y.t 2), .int .i64 (nth y.t 3), .bool y.ro]) 109 (0, 0)))) (fun t _ => 2 - (intOf t).toNat)
  case atStart => exact ⟨.inl ⟨rfl, HB5⟩, HK4, HB4, HG4⟩
  case round =>
    clear HB4 HB5 HG4 HK4
    obtain ⟨hrel, HK, HB4, HG⟩ := hrel
    rcases hrel with ⟨rfl, HB⟩ | ⟨a0, c0, rfl, HB, HF0⟩
    · obtain ⟨y0, y1, y2, y3, y4, y5, y6, y7, y8, y9, y10, y11, y12⟩ := cells26a HG.out
      obtain ⟨z0, z1, z2, z3, z4, z5, z6, z7, z8, z9, z10, z11, z12⟩ := cells13 HB4.out
      have hg1 : g1 < wr.heap.size := lt_of_heap HG.out
      have hb0 : b0 < wr.heap.size := lt_of_heap HB4.out
      have hb1 : b0 + 1 < wr.heap.size := lt_of_heap HB.out
      go_wp2_with fail
      refine (HV0.out _ (HK.out.alloc _)).mono ?_
      rintro e w5 ⟨a0, c0, rfl, hw, hfr⟩
      have kk : Kp0 wr w5 := Kp0.trans ((Kp.refl _ wr).alloc _) hw
      have HK5 : Hid (Kp0 w w5) := Kp0.trans HK.out kk
      have HN0 : Hid (Fr (b0 + 2) w5 _ _) := hid (hfr.le (by simp; omega))
      have HB5 := hid (kk.heap HB.out)
      have HB6 := hid (kk.heap HB4.out)
      have HG5 := hid (kk.heap HG.out)
      have f1 := frozen_of_row w5 (b0 + 1) 0 _ _ HB5.out
      have f2 : w5.cell? ⟨b0 + 1, 0, none⟩ = some (.slice none 0 0) := cell_of_row _ (b0 + 1) 0 _ _ _ HB5.out
      have HST : Hid ((w5.setCell ⟨b0 + 1, 0, none⟩ (.slice a0 m0 c0)).heap[b0 + 1]? = some (.cells #[.slice a0 m0 c0, .slice none 0 0] 26 (0, 0))) := heap_setCell_same _ (b0 + 1) 0 _ _ _ HB5.out
      have KST : Hid (Kp (fun b => b = b0 + 1) w5 (w5.setCell ⟨b0 + 1, 0, none⟩ (.slice a0 m0 c0))) := (Kp.refl _ w5).setCell ⟨b0 + 1, 0, none⟩ _ (fun _ => rfl)
      clear hw hfr kk y0 y1 y2 y3 y4 y5 y6 y7 y8 y9 y10 y11 y12 z0 z1 z2 z3 z4 z5 z6 z7 z8 z9 z10 z11 z12
      go_wp2
      go_roundw
      case rel => exact ⟨.inr (⟨a0, c0, by go_num, HST, hid (HN0.out.kp KST.out (fun b hb e => by omega))⟩), hid (Kp.trans HK5.out KST.out (fun i hi e => by have := HS3.out; omega)), hid (KST.out.heap HB6.out (by omega)), hid (KST.out.heap HG5.out (by omega))⟩
      case measure => simp [intOf]
    · obtain ⟨y0, y1, y2, y3, y4, y5, y6, y7, y8, y9, y10, y11, y12⟩ := cells26b HG.out
      obtain ⟨z0, z1, z2, z3, z4, z5, z6, z7, z8, z9, z10, z11, z12⟩ := cells13 HB4.out
      have hg1 : g1 < wr.heap.size := lt_of_heap HG.out
      have hb0 : b0 < wr.heap.size := lt_of_heap HB4.out
      have hb1 : b0 + 1 < wr.heap.size := lt_of_heap HB.out
      go_wp2_with fail
      refine (HV1.out _ (HK.out.alloc _)).mono ?_
      rintro e w5 ⟨rfl, hw⟩
      have HK5 : Hid (Kp0 w w5) := Kp0.trans (HK.out.alloc _) hw
      clear hw y0 y1 y2 y3 y4 y5 y6 y7 y8 y9 y10 y11 y12 z0 z1 z2 z3 z4 z5 z6 z7 z8 z9 z10 z11 z12
      go_wp2
      go_returns
      exact ⟨rfl, HK5.out⟩

set_option maxRecDepth 100000 in
set_option maxHeartbeats 4000000 in
theorem xtoWork2_yes (p : Nat) (h : Int) (vh I : Value) (w : World) (x y z : XA) (m0 : Nat) (V0 : List Int) (m1 : Nat) (V1 : List Int) (mP : Nat) (P : List Int)
    (HA : Hid (Calls Tryz.prog 50 #[.pointer (some ⟨p, 0, none⟩), vh] w fun e w' => ∃ g, e = .returned (.tuple #[.slice (some ⟨g, 0, none⟩) 2 2, .int .i64 0]) ∧ Kp0 w w' ∧ w'.heap[g]? = some (.cells (x.cs ++ y.cs) 109 (0, 0)) ∧ w.heap.size ≤ g))
    (HW : Hid (∀ W, Kp0 w W → Calls Tryz.prog 73 #[.pointer (some ⟨p, 0, none⟩), .int .i64 h] W fun e w' => e = .returned (.tuple #[.agg z.cs, I, .int .i64 0]) ∧ Kp0 W w'))
    (HV0 : Hid (∀ W, Kp0 w W → Calls Tryz.prog 134 #[.pointer (some ⟨p, 0, none⟩), .agg x.cs, .agg (shC z.l).toArray] W fun e w' => ∃ ao c, e = .returned (.tuple #[.slice ao m0 c, .bool true]) ∧ Kp0 W w' ∧ Fr W.heap.size w' (.slice ao m0 c) V0))
    (HV1 : Hid (∀ W, Kp0 w W → Calls Tryz.prog 134 #[.pointer (some ⟨p, 0, none⟩), .agg y.cs, .agg (shC z.l).toArray] W fun e w' => ∃ ao c, e = .returned (.tuple #[.slice ao m1 c, .bool true]) ∧ Kp0 W w' ∧ Fr W.heap.size w' (.slice ao m1 c) V1))
    (HC : Hid (∀ W, Kp0 w W → Calls Tryz.prog 60 #[.agg (grC z.l z.t z.f).toArray] W fun e w' => ∃ ao c, e = .returned (.slice ao mP c) ∧ Kp0 W w' ∧ Fr W.heap.size w' (.slice ao mP c) P)) :
    Calls Tryz.prog 99 #[.pointer (some ⟨p, 0, none⟩), .int .i64 h, vh] w fun e w' => ∃ aP cP g a0 c0 a1 c1, e = .returned (.tuple #[.slice aP mP cP, I, .slice (some ⟨g, 0, none⟩) 2 2, .int .i64 0]) ∧ (Kp0 w w' ∧ w'.heap[g]? = some (.cells #[.slice a0 m0 c0, .slice a1 m1 c1] 26 (0, 0)) ∧ w.heap.size ≤ g ∧ Fr w.heap.size w' (.slice aP mP cP) P ∧ Fr w.heap.size w' (.slice a0 m0 c0) V0 ∧ Fr w.heap.size w' (.slice a1 m1 c1) V1) := by
  have hmk := Tryz.mkVal2
  obtain ⟨nz, hnz⟩ : ∃ nz, z.l.length = nz := ⟨_, rfl⟩
  obtain ⟨nx, hnx⟩ : ∃ nx, x.l.length = nx := ⟨_, rfl⟩
  obtain ⟨ny, hny⟩ : ∃ ny, y.l.length = ny := ⟨_, rfl⟩
  unfold XA.cs at *
  unfold shC at *
  unfold grC at *
  simp only [hnz, hnx, hny] at *
  clear hnz hnx hny
  simp only [app26] at HA
  go_enter Tryz.func99, Tryz.ntmps99
  go_wp2_with fail
  refine HA.out.mono ?_
  rintro e w2 ⟨g1, rfl, hw, hb, hge⟩
  have HK2 := hid hw
  have HG2 := hid hb
  have HGE := hid hge
  clear hw hb hge
  go_wp2_with fail
  refine (HW.out _ HK2.out).mono ?_
  rintro e w3 ⟨rfl, hw⟩
  have HK3 : Hid (Kp0 w w3) := Kp0.trans HK2.out hw
  have HG3 := hid (hw.heap HG2.out)
  have hlt3 : g1 < w3.heap.size := lt_of_heap HG3.out
  clear hw HG2 HK2
  have HB4 : Hid (((w3.alloc (.cells #[.int .i64 z.kind, .int .i64 z.buf, .int .i64 (nth z.l 0), .int .i64 (nth z.l 1), .int .i64 (nth z.l 2), .int .i64 (nth z.l 3), .int .i64 (nz : Int), .int .i64 z.f, .int .i64 (nth z.t 0), .int .i64 (nth z.t 1), .int .i64 (nth z.t 2), .int .i64 (nth z.t 3), .bool z.ro] 109)).alloc (.cells #[.slice none 0 0, .slice none 0 0] 26)).heap[w3.heap.size]? = some (.cells #[.int .i64 z.kind, .int .i64 z.buf, .int .i64 (nth z.l 0), .int .i64 (nth z.l 1), .int .i64 (nth z.l 2), .int .i64 (nth z.l 3), .int .i64 (nz : Int), .int .i64 z.f, .int .i64 (nth z.t 0), .int .i64 (nth z.t 1), .int .i64 (nth z.t 2), .int .i64 (nth z.t 3), .bool z.ro] 109 (0, 0))) := (two_heap w3 _ _).1
  have HB5 : Hid (((w3.alloc (.cells #[.int .i64 z.kind, .int .i64 z.buf, .int .i64 (nth z.l 0), .int .i64 (nth z.l 1), .int .i64 (nth z.l 2), .int .i64 (nth z.l 3), .int .i64 (nz : Int), .int .i64 z.f, .int .i64 (nth z.t 0), .int .i64 (nth z.t 1), .int .i64 (nth z.t 2), .int .i64 (nth z.t 3), .bool z.ro] 109)).alloc (.cells #[.slice none 0 0, .slice none 0 0] 26)).heap[w3.heap.size + 1]? = some (.cells #[.slice none 0 0, .slice none 0 0] 26 (0, 0))) := (two_heap w3 _ _).2
  have HG4 : Hid (((w3.alloc (.cells #[.int .i64 z.kind, .int .i64 z.buf, .int .i64 (nth z.l 0), .int .i64 (nth z.l 1), .int .i64 (nth z.l 2), .int .i64 (nth z.l 3), .int .i64 (nz : Int), .int .i64 z.f, .int .i64 (nth z.t 0), .int .i64 (nth z.t 1), .int .i64 (nth z.t 2), .int .i64 (nth z.t 3), .bool z.ro] 109)).alloc (.cells #[.slice none 0 0, .slice none 0 0] 26)).heap[g1]? = _) := heap_alloc_keeps (heap_alloc_keeps HG3.out _) _
  have HK4 : Hid (Kp0 w ((w3.alloc (.cells #[.int .i64 z.kind, .int .i64 z.buf, .int .i64 (nth z.l 0), .int .i64 (nth z.l 1), .int .i64 (nth z.l 2), .int .i64 (nth z.l 3), .int .i64 (nz : Int), .int .i64 z.f, .int .i64 (nth z.t 0), .int .i64 (nth z.t 1), .int .i64 (nth z.t 2), .int .i64 (nth z.t 3), .bool z.ro] 109)).alloc (.cells #[.slice none 0 0, .slice none 0 0] 26))) := (HK3.out.alloc _).alloc _
  have HS3 : Hid (w.heap.size ≤ w3.heap.size) := HK3.out.size
  go_wp2
  clear HG3 HK3 hmk
  generalize (w3.alloc (.cells #[.int .i64 z.kind, .int .i64 z.buf, .int .i64 (nth z.l 0), .int .i64 (nth z.l 1), .int .i64 (nth z.l 2), .int .i64 (nth z.l 3), .int .i64 (nz : Int), .int .i64 z.f, .int .i64 (nth z.t 0), .int .i64 (nth z.t 1), .int .i64 (nth z.t 2), .int .i64 (nth z.t 3), .bool z.ro] 109)).alloc (.cells #[.slice none 0 0, .slice none 0 0] 26) = W4 at HB4 HB5 HG4 HK4 ⊢
  generalize w3.heap.size = b0 at HB4 HB5 HS3 hlt3 ⊢
  go_loopw [43] (fun t w' => ((t = .int .i64 0 ∧ Hid (w'.heap[b0 + 1]? = some (.cells #[.slice none 0 0, .slice none 0 0] 26 (0, 0)))) ∨ (∃ a0 c0, t = .int .i64 1 ∧ Hid (w'.heap[b0 + 1]? = some (.cells #[.slice a0 m0 c0, .slice none 0 0] 26 (0, 0))) ∧ Hid (Fr (b0 + 2) w' (.slice a0 m0 c0) V0)) ∨ (∃ a0 c0 a1 c1, t = .int .i64 2 ∧ Hid (w'.heap[b0 + 1]? = some (.cells #[.slice a0 m0 c0, .slice a1 m1 c1] 26 (0, 0))) ∧ Hid (Fr (b0 + 2) w' (.slice a0 m0 c0) V0) ∧ Hid (Fr (b0 + 2) w' (.slice a1 m1 c1) V1))) ∧ Hid (Kp0 w w') ∧ Hid (w'.heap[b0]? = some (.cells #[.int .i64 z.kind, .int .i64 z.buf, .int .i64 (nth z.l 0), .int .i64 (nth z.l 1), .int .i64 (nth z.l 2), .int .i64 (nth z.l 3), .int .i64 (nz : Int), .int .i64 z.f, .int .i64 (nth z.t 0), .int .i64 (nth z.t 1), .int .i64 (nth z.t 2), .int .i64 (nth z.t 3), .bool z.ro] 109 (0, 0))) ∧ Hid (w'.heap[g1]? = some (.cells (#[.int .i64 x.kind, .int .i64 x.buf, .int .i64 (nth x.l 0), .int .i64 (nth x.l 1), .int .i64 (nth x.l 2), .int .i64 (nth x.l 3), .int .i64 (nx : Int), .int .i64 x.f, .int .i64 (nth x.t 0), .int .i64 (nth x.t 1), .int .i64 (nth x.t 2), .int .i64 (nth x.t 3), .bool x.ro, .int .i64 y.kind, .int .i64 y.buf, .int .i64 (nth y.l 0), .int .i64 (nth y.l 1), .int .i64 (nth y.l 2), .int .i64 (nth y.l 3), .int .i64 (ny : Int), .int .i64 y.f, .int .i64 (nth y.t 0), .int .i64 (nth y.t 1), .int .i64 (nth y.t 2), .int .i64 (nth y.t 3), .bool y.ro]) 109 (0, 0)))) (fun t _ => 2 - (intOf t).toNat)
  case atStart => exact ⟨.inl ⟨rfl, HB5⟩, HK4, HB4, HG4⟩
  case round =>
    clear HB4 HB5 HG4 HK4
    obtain ⟨hrel, HK, HB4, HG⟩ := hrel
    rcases hrel with ⟨rfl, HB⟩ | ⟨a0, c0, rfl, HB, HF0⟩ | ⟨a0, c0, a1, c1, rfl, HB, HF0, HF1⟩
    · obtain ⟨y0, y1, y2, y3, y4, y5, y6, y7, y8, y9, y10, y11, y12⟩ := cells26a HG.out
      obtain ⟨z0, z1, z2, z3, z4, z5, z6, z7, z8, z9, z10, z11, z12⟩ := cells13 HB4.out
      have hg1 : g1 < wr.heap.size := lt_of_heap HG.out
      have hb0 : b0 < wr.heap.size := lt_of_heap HB4.out
      have hb1 : b0 + 1 < wr.heap.size := lt_of_heap HB.out
      go_wp2_with fail
      refine (HV0.out _ (HK.out.alloc _)).mono ?_
      rintro e w5 ⟨a0, c0, rfl, hw, hfr⟩
      have kk : Kp0 wr w5 := Kp0.trans ((Kp.refl _ wr).alloc _) hw
      have HK5 : Hid (Kp0 w w5) := Kp0.trans HK.out kk
      have HN0 : Hid (Fr (b0 + 2) w5 _ _) := hid (hfr.le (by simp; omega))
      have HB5 := hid (kk.heap HB.out)
      have HB6 := hid (kk.heap HB4.out)
      have HG5 := hid (kk.heap HG.out)
      have f1 := frozen_of_row w5 (b0 + 1) 0 _ _ HB5.out
      have f2 : w5.cell? ⟨b0 + 1, 0, none⟩ = some (.slice none 0 0) := cell_of_row _ (b0 + 1) 0 _ _ _ HB5.out
      have HST : Hid ((w5.setCell ⟨b0 + 1, 0, none⟩ (.slice a0 m0 c0)).heap[b0 + 1]? = some (.cells #[.slice a0 m0 c0, .slice none 0 0] 26 (0, 0))) := heap_setCell_same _ (b0 + 1) 0 _ _ _ HB5.out
      have KST : Hid (Kp (fun b => b = b0 + 1) w5 (w5.setCell ⟨b0 + 1, 0, none⟩ (.slice a0 m0 c0))) := (Kp.refl _ w5).setCell ⟨b0 + 1, 0, none⟩ _ (fun _ => rfl)
      clear hw hfr kk y0 y1 y2 y3 y4 y5 y6 y7 y8 y9 y10 y11 y12 z0 z1 z2 z3 z4 z5 z6 z7 z8 z9 z10 z11 z12
      go_wp2
      go_roundw
      case rel => exact ⟨.inr (.inl ⟨a0, c0, by go_num, HST, hid (HN0.out.kp KST.out (fun b hb e => by omega))⟩), hid (Kp.trans HK5.out KST.out (fun i hi e => by have := HS3.out; omega)), hid (KST.out.heap HB6.out (by omega)), hid (KST.out.heap HG5.out (by omega))⟩
      case measure => simp [intOf]
    · obtain ⟨y0, y1, y2, y3, y4, y5, y6, y7, y8, y9, y10, y11, y12⟩ := cells26b HG.out
      obtain ⟨z0, z1, z2, z3, z4, z5, z6, z7, z8, z9, z10, z11, z12⟩ := cells13 HB4.out
      have hg1 : g1 < wr.heap.size := lt_of_heap HG.out
      have hb0 : b0 < wr.heap.size := lt_of_heap HB4.out
      have hb1 : b0 + 1 < wr.heap.size := lt_of_heap HB.out
      go_wp2_with fail
      refine (HV1.out _ (HK.out.alloc _)).mono ?_
      rintro e w5 ⟨a1, c1, rfl, hw, hfr⟩
      have kk : Kp0 wr w5 := Kp0.trans ((Kp.refl _ wr).alloc _) hw
      have HK5 : Hid (Kp0 w w5) := Kp0.trans HK.out kk
      have HN1 : Hid (Fr (b0 + 2) w5 _ _) := hid (hfr.le (by simp; omega))
      have HB5 := hid (kk.heap HB.out)
      have HB6 := hid (kk.heap HB4.out)
      have HG5 := hid (kk.heap HG.out)
      have HO0 := hid (HF0.out.kp0 kk)
      have f1 := frozen_of_row w5 (b0 + 1) 1 _ _ HB5.out
      have f2 : w5.cell? ⟨b0 + 1, 1, none⟩ = some (.slice none 0 0) := cell_of_row _ (b0 + 1) 1 _ _ _ HB5.out
      have HST : Hid ((w5.setCell ⟨b0 + 1, 1, none⟩ (.slice a1 m1 c1)).heap[b0 + 1]? = some (.cells #[.slice a0 m0 c0, .slice a1 m1 c1] 26 (0, 0))) := heap_setCell_same _ (b0 + 1) 1 _ _ _ HB5.out
      have KST : Hid (Kp (fun b => b = b0 + 1) w5 (w5.setCell ⟨b0 + 1, 1, none⟩ (.slice a1 m1 c1))) := (Kp.refl _ w5).setCell ⟨b0 + 1, 1, none⟩ _ (fun _ => rfl)
      clear hw hfr kk y0 y1 y2 y3 y4 y5 y6 y7 y8 y9 y10 y11 y12 z0 z1 z2 z3 z4 z5 z6 z7 z8 z9 z10 z11 z12
      go_wp2
      go_roundw
      case rel => exact ⟨.inr (.inr (⟨a0, c0, a1, c1, by go_num, HST, hid (HO0.out.kp KST.out (fun b hb e => by omega)), hid (HN1.out.kp KST.out (fun b hb e => by omega))⟩)), hid (Kp.trans HK5.out KST.out (fun i hi e => by have := HS3.out; omega)), hid (KST.out.heap HB6.out (by omega)), hid (KST.out.heap HG5.out (by omega))⟩
      case measure => simp [intOf]
    · obtain ⟨z0, z1, z2, z3, z4, z5, z6, z7, z8, z9, z10, z11, z12⟩ := cells13 HB4.out
      go_wp2_with fail
      refine (HC.out _ HK.out).mono ?_
      rintro e w5 ⟨aP, cP, rfl, hw, hfr⟩
      have HK5 := hid (Kp0.trans HK.out hw)
      have HB5 := hid (hw.heap HB.out)
      have HFP := hid (hfr.le HK.out.size)
      have HO0 := hid ((HF0.out.kp0 hw).le (M := w.heap.size) (by have := HS3.out; omega))
      have HO1 := hid ((HF1.out.kp0 hw).le (M := w.heap.size) (by have := HS3.out; omega))
      clear hw hfr z0 z1 z2 z3 z4 z5 z6 z7 z8 z9 z10 z11 z12
      go_wp2
      go_returns
      exact ⟨aP, cP, b0 + 1, a0, c0, a1, c1, rfl, HK5.out, HB5.out, by have := HS3.out; omega, HFP.out, HO0.out, HO1.out⟩

end Go.Proofs.YticbbncdcannlaaGreat

/- The program's space, walked: Assign, Work where they refuse. -/
namespace Go.Proofs.YticbbncdcannlaaGreat
open Go.RowKit Go.Maps Go.ChangeMaps Go.MapKept

set_option maxRecDepth 100000 in
set_option maxHeartbeats 2000000 in
theorem xAssign_no (p : Nat) (to fr er : Int) (w : World) (he : er ≠ 0)
    (HT : Hid (∀ W vh, Kp0 w W → RdI W vh [fr] → Calls Tryz.prog 99 #[.pointer (some ⟨p, 0, none⟩), .int .i64 to, vh] W fun e w' => e = .returned (.tuple #[.slice none 0 0, .nilIface, .slice none 0 0, .int .i64 er]) ∧ Kp0 W w')) :
    Calls Tryz.prog 65 #[.pointer (some ⟨p, 0, none⟩), .int .i64 to, .int .i64 fr] w fun e w' => e = .returned (.int .i64 er) ∧ Kp0 w w' := by
  have HK1 : Hid (Kp0 w (w.alloc (.cells #[.int .i64 fr] 3))) := (Kp.refl _ w).alloc _
  have HR1 : Hid (RdI (w.alloc (.cells #[.int .i64 fr] 3)) (.slice (some ⟨w.heap.size, 0, none⟩) 1 1) [fr]) := rd_of_blk (heap_alloc_new w _) rfl
  have d1 : (er != 0) = true := by simp [he]
  clear he
  go_enter Tryz.func65, Tryz.ntmps65
  go_wp2_with fail
  refine (HT.out _ _ HK1.out HR1.out).mono ?_
  rintro e w2 ⟨rfl, hk⟩
  have HK2 : Hid (Kp0 w w2) := Kp0.trans HK1.out hk
  clear hk HK1 HR1 HT
  go_wp2
  go_ret
  exact ⟨rfl, HK2.out⟩

set_option maxRecDepth 100000 in
set_option maxHeartbeats 2000000 in
theorem xIsOp_yes (op : Int) (w : World) (h1 : 1 ≤ op) (h2 : op ≤ 5) : Calls Tryz.prog 68 #[.int .i64 op] w fun e w' => e = .returned (.bool true) ∧ w' = w := by
  have d2 : decide (op ≥ 1) = true := by simp; omega
  have d3 : decide (op ≤ 5) = true := by simp; omega
  clear h1 h2
  go_enter Tryz.func68, Tryz.ntmps68
  go_wp2
  go_ret
  exact ⟨rfl, rfl⟩

set_option maxRecDepth 100000 in
set_option maxHeartbeats 2000000 in
theorem xWork_op (p : Nat) (op to x y : Int) (w : World) (he : op < 1 ∨ 5 < op) :
    Calls Tryz.prog 67 #[.pointer (some ⟨p, 0, none⟩), .int .i64 op, .int .i64 to, .int .i64 x, .int .i64 y] w fun e w' => e = .returned (.int .i64 1) ∧ Kp0 w w' := by
  have HK : Hid (Kp0 w w) := Kp0.refl w
  rcases he with he | he
  · have d1 : decide (op ≥ 1) = false := by simp; omega
    clear he
    go_enter Tryz.func67, Tryz.ntmps67
    go_wp2
    go_ret
    exact ⟨rfl, HK.out⟩
  · have d1 : decide (op ≥ 1) = true := by simp; omega
    have d2 : decide (op ≤ 5) = false := by simp; omega
    clear he
    go_enter Tryz.func67, Tryz.ntmps67
    go_wp2
    go_ret
    exact ⟨rfl, HK.out⟩

set_option maxRecDepth 100000 in
set_option maxHeartbeats 2000000 in
theorem xWork_no (p : Nat) (op to x y er : Int) (w : World) (h1 : 1 ≤ op) (h2 : op ≤ 5) (he : er ≠ 0)
    (HT : Hid (∀ W vh, Kp0 w W → RdI W vh [x, y] → Calls Tryz.prog 99 #[.pointer (some ⟨p, 0, none⟩), .int .i64 to, vh] W fun e w' => e = .returned (.tuple #[.slice none 0 0, .nilIface, .slice none 0 0, .int .i64 er]) ∧ Kp0 W w')) :
    Calls Tryz.prog 67 #[.pointer (some ⟨p, 0, none⟩), .int .i64 op, .int .i64 to, .int .i64 x, .int .i64 y] w fun e w' => e = .returned (.int .i64 er) ∧ Kp0 w w' := by
  have HK1 : Hid (Kp0 w (w.alloc (.cells #[.int .i64 x, .int .i64 y] 3))) := (Kp.refl _ w).alloc _
  have HR1 : Hid (RdI (w.alloc (.cells #[.int .i64 x, .int .i64 y] 3)) (.slice (some ⟨w.heap.size, 0, none⟩) 2 2) [x, y]) := rd_of_blk (heap_alloc_new w _) rfl
  have d1 : (er != 0) = true := by simp [he]
  have HO := hid (xIsOp_yes op w h1 h2)
  clear he h1 h2
  go_enter Tryz.func67, Tryz.ntmps67
  go_wp2_with fail
  refine HO.out.mono ?_
  rintro e w1 ⟨rfl, hw⟩
  obtain rfl := hw.symm
  clear hw
  go_wp2_with fail
  refine (HT.out _ _ HK1.out HR1.out).mono ?_
  rintro e w2 ⟨rfl, hk⟩
  have HK2 : Hid (Kp0 w w2) := Kp0.trans HK1.out hk
  clear hk HK1 HR1 HT
  go_wp2
  go_ret
  exact ⟨rfl, HK2.out⟩

end Go.Proofs.YticbbncdcannlaaGreat
