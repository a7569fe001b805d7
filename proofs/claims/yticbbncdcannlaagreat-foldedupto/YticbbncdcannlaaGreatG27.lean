/- The document's answer, walked: derived. -/
import Derived.Deep.RegionLaw
import Derived.BigRegion
import Derived.Test.YticbbncdcannlaaGreatG04

namespace Go.Proofs.YticbbncdcannlaaGreat
open Go.RowKit

/-- The cells of a view: of those of an array. -/
def picked (cells rk : List Int) : List Int := rk.map fun r => nth cells r.toNat
theorem picked_take (cells rk : List Int) (k : Nat) (h : k < rk.length) : picked cells (rk.take (k + 1)) = picked cells (rk.take k) ++ [nth cells (nth rk k).toNat] := by
  unfold picked
  rw [take_snoc rk k h]
  simp

/-- A view of an array laid: the state, the handle, the error. -/
def Sp.derive (σ : Sp) (a : Arr) (s rk : List Int) (read : Bool) : Sp × Int × Int :=
  if 40 ≤ σ.live then (σ, 0, 7) else (σ.lay ⟨a.kind, s, picked a.cells rk, a.ro || read, a.buf⟩, (σ.arrs.length : Int) + 1, 0)

end Go.Proofs.YticbbncdcannlaaGreat
