/- Proved: at all arguments the call of the law Own returns true, and its arguments read afterwards as before: arrays of bytes that are made and freed in any order have cells of their own, so many cells are used, and one more is refused only without room behind the top, or where too many are there. Conditions: none beyond those of the statement's row. -/
import Derived.Test.YticbbncdcannlaaRows
import Derived.Test.YticbbncdcannlaaG34
import Derived.WalkKit
import Derived.ProofKit
import Derived.OpenShut
import Derived.Below
import Derived.ShutString
import Derived.Carry
import Derived.Deep.Slices

namespace Go.Proofs.Yticbbncdcannlaa
open Go.ChangeShapes Go.WideShapes Go.ChangeAt Go.RowKit

theorem Try.ownNone : ownKnob Try.prog.godebug = none := by kernel_rfl
theorem Try.laidOutYes : laidOutB Try.prog = true := by kernel_rfl
theorem Try.intCells : Try.prog.cellsOf 3 = 1 := by kernel_rfl

theorem wrap_wf {k : IntKind} {n : Int} (h : (Lit.int k n).wf = true) (hk : k = .i64) : IntKind.i64.wrap n = n := by
  subst hk
  have hx : -9223372036854775808 ≤ n ∧ n ≤ 9223372036854775807 := by simpa [Lit.wf, IntKind.min, IntKind.max, IntKind.signed, IntKind.bits] using h
  exact bd_wf hx

/-- A list of ints out of its reading. -/
theorem open_list {H : Type} {enc : TypeId × Value → H} {W : World} {a : Option Addr} {n c : Nat} {d : DataW H} {ps : List MemPlace} (h : DataW.Trod enc Try.prog W 0 (fun _ => true) true 22 (.slice a n c) d ps) :
    ∃ S : List Int, S.length = n ∧ n ≤ 9223372036854775807 ∧ (0 < n → ∃ g o, a = some ⟨g, o, none⟩ ∧ ∀ j, j < n → W.cell? ⟨g, o + j, none⟩ = some (.int .i64 (nth S j))) ∧ ∀ j, j < n → IntKind.i64.wrap (nth S j) = nth S j := by
  obtain ⟨fuel, h⟩ := h
  rcases open_ints Try.underlying22 Try.underlying3 Try.intCells h with ⟨e, -⟩ | ⟨a', len, cap, zs, e, -, hl, hm, hz, ex, hcell, hwf⟩
  · simp [Value.cells] at e
    obtain ⟨rfl, rfl, rfl⟩ := e
    exact ⟨[], rfl, by omega, fun h => absurd h (by omega), fun j hj => by omega⟩
  · simp [Value.cells] at e
    obtain ⟨rfl, rfl, rfl⟩ := e
    rw [if_pos rfl] at hz
    have hn : ∀ j, j < n → nth (zs.take n) j = zs.getD j 0 := fun j hj => by
      unfold nth List.getD
      rw [List.getElem?_take_of_lt hj]
    refine ⟨zs.take n, by rw [List.length_take]; omega, by unfold maxLen at hm; omega, fun h0 => ?_, fun j hj => ?_⟩
    · have hsp : a'.spot = none := by
        have := World.cell?_spot (hcell 0 (by omega))
        obtain ⟨b, o, s⟩ := a'
        simpa [Addr.add] using this
      obtain ⟨g, o, s⟩ := a'
      simp only at hsp
      subst hsp
      refine ⟨g, o, rfl, fun j hj => ?_⟩
      have hc := hcell j (by omega)
      rw [hn j hj, ← hc]
      simp only [Addr.add]
      by_cases hj0 : j = 0
      · subst hj0; simp
      · simp [hj0]
    · rw [hn j hj]
      refine wrap_wf (hwf _ ?_) rfl
      unfold List.getD
      rw [List.getElem?_eq_getElem (by omega)]
      exact List.getElem_mem _

set_option maxRecDepth 100000 in
theorem own_lifted (os : Os) (started : os.Started) (H : Type) (enc : TypeId × Value → H) :
    ReturnsInHanded {} Try.checked os 3 .any (Rows.ownSpec.pre6 enc Try.prog Try.f3 Rows.ownRow.domain false) (Rows.ownSpec.post enc Try.prog Try.f3 false true false false) := by
  refine returnsInHanded_of_change (C := Try.checked) Try.ownNone started (by kernel_rfl) Try.func3
    (ChangeSpec.witness6 (enc := enc) (C := Try.checked) false ⟨#[], #[.int .i64 0, .slice none 0 0], []⟩ 8 (by kernel_rfl) (by kernel_rfl) (by kernel_rfl) (by kernel_rfl)) ?_
  intro W base args ds gs before hval0 hW hcnd _
  have hval : ∀ (j : Nat) t v, Try.f3.params[j]? = some t → args[j]? = some v → Value.okWide Try.prog W .any base t v := hval0
  have hW' := hW
  obtain ⟨p, q, hA0, hV, rfl, hfz, hnd⟩ := hW
  have hA : DataW.TrodAll enc Try.prog W 0 (fun _ => true) true Try.f3.params.toList args.toList ds p := hA0
  rw [Try.params3] at hA hval
  obtain ⟨v0, vs0, d0, ds0, p0, q0, hargs, rfl, rfl, h0, r0⟩ := trodAll_cons hA
  obtain ⟨v1, vs1, d1, ds1, p1, q1, rfl, rfl, rfl, h1, r1⟩ := trodAll_cons r0
  obtain ⟨rfl, rfl, rfl⟩ := trodAll_nil r1
  obtain rfl : args = #[v0, v1] := Array.ext' hargs
  obtain ⟨rfl, rfl⟩ := trodVars_none hV
  obtain ⟨a0, rfl, rfl, rfl, w0⟩ := open_int Try.underlying3 (hval 0 3 v0 rfl rfl) h0
  obtain ⟨aS, N, cS, rfl⟩ := okWide_slice Try.underlying22 (hval 1 22 v1 rfl rfl)
  have k1 := h1
  have lt1 : ∀ x ∈ p1, x.block < W.heap.size := by obtain ⟨m, hm⟩ := k1; exact DataW.trod_lt m _ _ _ hm
  obtain ⟨S, hN, hNb, hS, hSw⟩ := open_list h1
  clear hA0 hval0
  refine (own_calls a0 aS N cS S W (wrap_wf w0 rfl) hN hNb hS hSw).mono fun e W' ⟨he, hk0⟩ => ?_
  subst he
  have bel := hk0.below
  exact ⟨_, rfl, _, _, _, [], _, [], hW', trodAll_mk1 (shut_bool Try.underlying4 _), (trodAll_cons_mk (shut_int Try.underlying3 w0) (trodAll_cons_mk (Below.trod Try.laidOutYes (by kernel_rfl) (of_decide_eq_true (by kernel_rfl)) k1 bel lt1) trodAll_mk0)), rfl, bel.frame _, fun h => by cases h⟩

theorem own_whole : Rows.OwnSaid :=
  OpenClaim.holds_of_wide 3 Try.f3 rfl rfl rfl rfl rfl rfl rfl ⟨rfl, rfl, rfl, rfl, rfl⟩ rfl rfl rfl rfl rfl (by kernel_rfl) Try.func3 (by kernel_rfl)
    (of_decide_eq_true (by kernel_rfl)) (by unfold Func.isWrapper; first | (rw [if_pos (by decide +kernel)]; kernel_rfl) | (rw [if_neg (by decide +kernel)]; exact ⟨rfl, rfl⟩))
    (fun os started H enc _ => own_lifted os started H enc)

#print axioms own_whole

end Go.Proofs.Yticbbncdcannlaa
