/- The row of Plain, second form, out of the contracts of the program's space. -/
import Derived.ShutString
import Derived.Carry
import Derived.Test.YticbbncdcannlaaGreatG08

namespace Go.Proofs.YticbbncdcannlaaGreat
open Go.ChangeShapes Go.WideShapes Go.ChangeAt Go.RowKit

theorem Tryz.ownNone : ownKnob Tryz.prog.godebug = none := by kernel_rfl
theorem Tryz.laidOutYes : laidOutB Tryz.prog = true := by kernel_rfl

end Go.Proofs.YticbbncdcannlaaGreat
