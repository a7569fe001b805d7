/- The keeping statements' rows: raw numbers and views out of their readings. -/
import Derived.Test.YticbbncdcannlaaGreatRows
import Derived.WalkKit
import Derived.ProofKit
import Derived.OpenShut
import Derived.JoinedCond
import Derived.ChangeOld
import Derived.Below
import Derived.ShutString
import Derived.Carry
import Derived.Deep.Slices
import Derived.Test.YticbbncdcannlaaGreatG51

namespace Go.Proofs.YticbbncdcannlaaGreat
open Go.ChangeShapes Go.WideShapes Go.ChangeAt Go.RowKit

theorem Tryz.ownNone : ownKnob Tryz.prog.godebug = none := by kernel_rfl
theorem Tryz.laidOutYes : laidOutB Tryz.prog = true := by kernel_rfl
theorem Tryz.intCells : Tryz.prog.cellsOf 3 = 1 := by kernel_rfl

theorem bulk_pos {H : Type} (d : DataW H) : 1 ≤ Rows.uptoBulk d := by
  cases d with
  | lit l => cases l <;> simp [Rows.uptoBulk]
  | _ => simp [Rows.uptoBulk]

theorem bulk_mem {H : Type} {d : DataW H} : ∀ {l : List (DataW H)}, d ∈ l → Rows.uptoBulk d ≤ Rows.uptoBulkAll l
  | x :: r, h => by
    rw [Rows.uptoBulkAll]
    rcases List.mem_cons.1 h with rfl | h'
    · omega
    · have := bulk_mem h'; omega

theorem bulk_len {H : Type} : ∀ (l : List (DataW H)), l.length ≤ Rows.uptoBulkAll l
  | [] => by simp
  | x :: r => by have := bulk_len r; have := bulk_pos x; rw [Rows.uptoBulkAll, List.length_cons]; omega

theorem bulk_slice {H : Type} (xs ys : List (DataW H)) : xs.length + ys.length + 1 ≤ Rows.uptoBulk (.slice xs ys) ∧ Rows.uptoBulkAll xs + 1 ≤ Rows.uptoBulk (.slice xs ys) := by
  have h1 := bulk_len xs
  have h2 := bulk_len ys
  rw [Rows.uptoBulk]
  omega

theorem wrap_wf {k : IntKind} {n : Int} (h : (Lit.int k n).wf = true) (hk : k = .i64) : IntKind.i64.wrap n = n := by
  subst hk
  have hx : -9223372036854775808 ≤ n ∧ n ≤ 9223372036854775807 := by simpa [Lit.wf, IntKind.min, IntKind.max, IntKind.signed, IntKind.bits] using h
  simp [IntKind.wrap, IntKind.signed, IntKind.bits]
  omega

/-- A list of ints out of its reading. -/
theorem open_list {H : Type} {enc : TypeId × Value → H} {W : World} {a : Option Addr} {n c : Nat} {d : DataW H} {ps : List MemPlace} (h : DataW.Trod enc Tryz.prog W 0 (fun _ => true) true 26 (.slice a n c) d ps) :
    ∃ S : List Int, S.length = n ∧ n ≤ 9223372036854775807 ∧ (0 < n → ∃ g o, a = some ⟨g, o, none⟩ ∧ ∀ j, j < n → W.cell? ⟨g, o + j, none⟩ = some (.int .i64 (nth S j))) ∧ ∀ j, j < n → IntKind.i64.wrap (nth S j) = nth S j := by
  obtain ⟨fuel, h⟩ := h
  rcases open_ints Tryz.underlying26 Tryz.underlying3 Tryz.intCells h with ⟨e, -⟩ | ⟨a', len, cap, zs, e, -, hl, hm, hz, ex, hcell, hwf⟩
  · simp [Value.cells] at e
    obtain ⟨rfl, rfl, rfl⟩ := e
    exact ⟨[], rfl, by omega, fun h => absurd h (by omega), fun j hj => by omega⟩
  · simp [Value.cells] at e
    obtain ⟨rfl, rfl, rfl⟩ := e
    rw [if_pos rfl] at hz
    have hn : ∀ j, j < n → nth (zs.take n) j = zs.getD j 0 := fun j hj => by
      unfold nth List.getD
      rw [List.getElem?_take_of_lt hj]
    refine ⟨zs.take n, by rw [List.length_take]; omega, by unfold maxLen at hm; omega, fun h0 => ?_, fun j hj => ?_⟩
    · have hsp : a'.spot = none := by
        have := World.cell?_spot (hcell 0 (by omega))
        obtain ⟨b, o, s⟩ := a'
        simpa [Addr.add] using this
      obtain ⟨g, o, s⟩ := a'
      simp only at hsp
      subst hsp
      refine ⟨g, o, rfl, fun j hj => ?_⟩
      have hc := hcell j (by omega)
      rw [hn j hj, ← hc]
      simp only [Addr.add]
      by_cases hj0 : j = 0
      · subst hj0; simp
      · simp [hj0]
    · rw [hn j hj]
      refine wrap_wf (hwf _ ?_) rfl
      unfold List.getD
      rw [List.getElem?_eq_getElem (by omega)]
      exact List.getElem_mem _

/-- Likewise, with the bound of its row. -/
theorem open_list_upto {H : Type} {enc : TypeId × Value → H} {W : World} {a : Option Addr} {n c : Nat} {d : DataW H} {ps : List MemPlace} (h : DataW.Trod enc Tryz.prog W 0 (fun _ => true) true 26 (.slice a n c) d ps) (hb : Rows.uptoBulk d ≤ 1048576) :
    ∃ S : List Int, S.length = n ∧ n ≤ 1048576 ∧ (0 < n → ∃ g o, a = some ⟨g, o, none⟩ ∧ ∀ j, j < n → W.cell? ⟨g, o + j, none⟩ = some (.int .i64 (nth S j))) ∧ ∀ j, j < n → IntKind.i64.wrap (nth S j) = nth S j := by
  obtain ⟨S, h1, h2, h3, h4⟩ := open_list h
  refine ⟨S, h1, ?_, h3, h4⟩
  obtain ⟨fuel, h⟩ := h
  rcases open_ints Tryz.underlying26 Tryz.underlying3 Tryz.intCells h with ⟨e, -⟩ | ⟨a', len, cap, zs, e, -, hl, hm, hz, ex, hcell, hwf⟩
  · simp [Value.cells] at e
    obtain ⟨rfl, rfl, rfl⟩ := e
    omega
  · simp [Value.cells] at e
    obtain ⟨rfl, rfl, rfl⟩ := e
    rw [if_pos rfl] at hz
    have hs := (bulk_slice (lits .i64 (zs.take n)) (lits .i64 (zs.drop n) : List (DataW H))).1
    injection ex with ex1 ex2
    subst ex1
    have : (lits .i64 (zs.take n) : List (DataW H)).length = n := by simp only [lits, List.length_map, List.length_take]; omega
    omega

theorem Tryz.viewShape : (Tryz.prog.underlying 93).map (fun u => match u with | .struct fs => fs.toList.map (fun f => (f.type, f.offset)) | _ => []) = some [(3, 0), (3, 1), (3, 2), (3, 3), (3, 4), (3, 5)] := by kernel_rfl
theorem Tryz.viewCells : Tryz.prog.cellsOf 93 = 6 := by kernel_rfl
theorem Tryz.viewFields : ∃ fs, Tryz.prog.underlying 93 = some (.struct fs) ∧ fs.toList.map (fun f => (f.type, f.offset)) = [(3, 0), (3, 1), (3, 2), (3, 3), (3, 4), (3, 5)] := by
  have h := Tryz.viewShape
  generalize Tryz.prog.underlying 93 = u at h
  match u, h with
  | some (.struct fs), h => exact ⟨fs, rfl, by simpa using h⟩

/-- Its numbers are ints. -/
def VD.wf (v : VD) : Prop := IntKind.i64.wrap v.vK = v.vK ∧ IntKind.i64.wrap v.vO = v.vO ∧ IntKind.i64.wrap v.vA = v.vA ∧ IntKind.i64.wrap v.vB = v.vB ∧ IntKind.i64.wrap v.vC = v.vC ∧ IntKind.i64.wrap v.vD = v.vD

section
variable {H : Type} {enc : TypeId × Value → H}

set_option maxRecDepth 100000 in
/-- One view out of its reading. -/
theorem open_view {W : World} {fuel : Nat} {cs : List Value} {x : DataW H × List MemPlace} (h : DataW.trod enc Tryz.prog W 0 (fun _ => true) true fuel 93 cs = some x) : ∃ v : VD, cs = v.cells ∧ v.wf := by
  obtain ⟨fs, hfs, hm⟩ := Tryz.viewFields
  obtain ⟨xs, n, rfl, rfl, hlen, hxl, hf⟩ := DataW.trod_struct hfs h
  rw [Tryz.viewCells] at hlen
  have hsz : fs.size = 6 := by have := congrArg List.length hm; simpa using this
  have fld : ∀ (i : Nat) (t o : Nat), (fs.toList.map (fun f => (f.type, f.offset)))[i]? = some (t, o) → DataW.trod enc Tryz.prog W 0 (fun _ => true) true n t ((cs.drop o).take (Tryz.prog.cellsOf t)) = xs[i]? := fun i t o e => by
    rw [List.getElem?_map, Option.map_eq_some_iff] at e
    obtain ⟨f, e1, e2⟩ := e
    have := hf i f (by simpa using e1)
    injection e2 with e3 e4
    rw [e3, e4] at this
    exact this
  rw [hm] at fld
  match cs, hlen with
  | [c0, c1, c2, c3, c4, c5], _ =>
  match xs, hxl.trans hsz with
  | [x0, x1, x2, x3, x4, x5], _ =>
  have f0 := fld 0 _ _ rfl
  have f1 := fld 1 _ _ rfl
  have f2 := fld 2 _ _ rfl
  have f3 := fld 3 _ _ rfl
  have f4 := fld 4 _ _ rfl
  have f5 := fld 5 _ _ rfl
  rw [Tryz.intCells] at f0 f1 f2 f3 f4 f5
  simp only [List.drop, List.take, List.getElem?_cons_zero, List.getElem?_cons_succ] at f0 f1 f2 f3 f4 f5
  obtain ⟨n0, e0, -, w0⟩ := DataW.trod_int Tryz.underlying3 f0
  obtain ⟨n1, e1, -, w1⟩ := DataW.trod_int Tryz.underlying3 f1
  obtain ⟨n2, e2, -, w2⟩ := DataW.trod_int Tryz.underlying3 f2
  obtain ⟨n3, e3, -, w3⟩ := DataW.trod_int Tryz.underlying3 f3
  obtain ⟨n4, e4, -, w4⟩ := DataW.trod_int Tryz.underlying3 f4
  obtain ⟨n5, e5, -, w5⟩ := DataW.trod_int Tryz.underlying3 f5
  simp only [List.cons.injEq, and_true] at e0 e1 e2 e3 e4 e5
  subst e0 e1 e2 e3 e4 e5
  exact ⟨⟨n0, n1, n2, n3, n4, n5⟩, rfl, wrap_wf w0 rfl, wrap_wf w1 rfl, wrap_wf w2 rfl, wrap_wf w3 rfl, wrap_wf w4 rfl, wrap_wf w5 rfl⟩

/-- Views out of their reading. -/
theorem open_views {W : World} {a : Option Addr} {N c : Nat} {d : DataW H} {ps : List MemPlace} (h : DataW.Trod enc Tryz.prog W 0 (fun _ => true) true 33 (.slice a N c) d ps) (hb : Rows.uptoBulk d ≤ 1048576) :
    ∃ vs : List VD, vs.length = N ∧ N ≤ 1048576 ∧ (0 < N → ∃ g off, a = some ⟨g, off, none⟩ ∧ VS W g off vs) := by
  obtain ⟨fuel, h⟩ := h
  rcases Go.Deep.open_slice Tryz.underlying33 h with ⟨e, -⟩ | ⟨a', len, cap, m, n, D, Pl, e, -, hl, -, hm, hx, hel⟩
  · simp [Value.cells] at e
    obtain ⟨rfl, rfl, rfl⟩ := e
    exact ⟨[], rfl, by omega, fun h => absurd h (by omega)⟩
  · simp [Value.cells] at e
    obtain ⟨rfl, rfl, rfl⟩ := e
    rw [if_pos rfl] at hm
    subst hm
    injection hx with hx1 hx2
    subst hx1
    have hbs := bulk_slice ((List.range N).map D) ((List.range (m - N)).map fun j => D (N + j))
    simp only [List.length_map, List.length_range] at hbs
    rw [Tryz.viewCells] at hel
    have hinh : Inhabited VD := ⟨⟨0, 0, 0, 0, 0, 0⟩⟩
    obtain ⟨O, hO⟩ := Go.Deep.choose_lt (α := VD) (n := N) (p := fun i o => W.cells? 0 (a'.add (i * 6)) 6 = some o.cells ∧ o.wf) (fun i hi => by
      obtain ⟨cs, h1, h2⟩ := hel i (by omega)
      obtain ⟨o, rfl, h3⟩ := open_view h2
      exact ⟨o, h1, h3⟩)
    refine ⟨(List.range N).map O, by simp, by omega, fun hN => ?_⟩
    have hc0 : ∀ i, i < N → ∀ f, f < 6 → W.cell? (a'.add (i * 6 + f)) = (O i).cells[f]? := fun i hi f hf => by
      have := (World.cells?_some (hO i hi).1).2.2 f hf
      rwa [Go.Deep.add_add] at this
    have hspot : a'.spot = none := by
      have := World.cell?_spot ((hc0 0 hN 0 (by omega)).trans (by rfl))
      obtain ⟨b, o, s⟩ := a'
      simpa [Addr.add] using this
    obtain ⟨g, off, s⟩ := a'
    simp only at hspot
    subst hspot
    refine ⟨g, off, rfl, ⟨fun j o ho f v hv => ?_, fun j o ho => ?_⟩⟩
    · have hj : j < N := by have := (List.getElem?_eq_some_iff.1 ho).1; simpa using this
      have ho' : O j = o := by simpa [hj] using ho
      have hf : f < 6 := by have := (List.getElem?_eq_some_iff.1 hv).1; simpa [VD.cells] using this
      have := hc0 j hj f hf
      rw [ho', hv] at this
      rw [← this]
      simp only [Addr.add]
      by_cases h0 : j * 6 + f = 0
      · rw [h0]; simp [show off + j * 6 + f = off by omega]
      · rw [if_neg h0, Nat.add_assoc]
    · have hj : j < N := by have := (List.getElem?_eq_some_iff.1 ho).1; simpa using this
      have ho' : O j = o := by simpa [hj] using ho
      rw [← ho']
      exact (hO j hj).2
end

end Go.Proofs.YticbbncdcannlaaGreat
