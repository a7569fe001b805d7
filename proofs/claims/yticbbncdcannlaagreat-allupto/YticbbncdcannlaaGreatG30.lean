/- Arrays of four ints, compared. -/
import Derived.ChangeKeysEq
import Derived.Test.YticbbncdcannlaaGreatG23

namespace Go.Proofs.YticbbncdcannlaaGreat
open Go.RowKit

theorem Tryz.cellsI : Tryz.prog.cellsOf 3 = 1 := by kernel_rfl
theorem Tryz.plainI : Tryz.prog.plainKey 3 = true := by kernel_rfl

theorem eqI_cons (d : Nat) (xs ys : Array Value) (j : Nat) (x y : Int) (hx : xs[j]? = some (.int .i64 x)) (hy : ys[j]? = some (.int .i64 y)) (is : List Nat) (W : World) :
    (Op.eqItems (d + 1) 3 1 xs ys (j :: is)).run Tryz.prog W = if x = y then (Op.eqItems (d + 1) 3 1 xs ys is).run Tryz.prog W else .ok false W := by
  have p1 : (part 3 xs (j * 1)).run Tryz.prog W = .ok (.int .i64 x) W := run_part_plain W Tryz.plainI (by rw [Nat.mul_one]; exact hx)
  have p2 : (part 3 ys (j * 1)).run Tryz.prog W = .ok (.int .i64 y) W := run_part_plain W Tryz.plainI (by rw [Nat.mul_one]; exact hy)
  simp only [Op.eqItems, Sem.run_bind, p1, p2, Result.andThen_ok, run_equalIn_int W d 3 .i64 .i64 x y Tryz.underlying3]
  by_cases h : x = y
  · simp [h]
  · simp [h]

theorem eq4_run (d : Nat) (t : TypeId) (hu : Tryz.prog.underlying t = some (.array 4 3)) (x0 x1 x2 x3 y0 y1 y2 y3 : Int) (W : World) :
    (Op.equalIn (d + 2) t (.agg #[.int .i64 x0, .int .i64 x1, .int .i64 x2, .int .i64 x3]) (.agg #[.int .i64 y0, .int .i64 y1, .int .i64 y2, .int .i64 y3])).run Tryz.prog W = .ok (decide (x0 = y0 ∧ x1 = y1 ∧ x2 = y2 ∧ x3 = y3)) W := by
  obtain ⟨i, hi⟩ := info_of_underlying Tryz.underlying3
  rw [run_equalIn_array W (d + 1) _ _ hu hi, Tryz.cellsI, show List.range 4 = [0, 1, 2, 3] from rfl]
  rw [eqI_cons d _ _ 0 x0 y0 rfl rfl, eqI_cons d _ _ 1 x1 y1 rfl rfl, eqI_cons d _ _ 2 x2 y2 rfl rfl, eqI_cons d _ _ 3 x3 y3 rfl rfl]
  by_cases h0 : x0 = y0 <;> by_cases h1 : x1 = y1 <;> by_cases h2 : x2 = y2 <;> by_cases h3 : x3 = y3 <;> simp [h0, h1, h2, h3, Op.eqItems]

end Go.Proofs.YticbbncdcannlaaGreat
