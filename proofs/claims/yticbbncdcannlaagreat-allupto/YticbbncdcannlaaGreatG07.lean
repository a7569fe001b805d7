import Derived.ShutString
import Derived.Carry
import Derived.Test.YticbbncdcannlaaGreatG06
set_option maxRecDepth 100000
set_option maxHeartbeats 8000000
namespace Go.Proofs.YticbbncdcannlaaGreat
open Go.ChangeShapes Go.WideShapes Go.ChangeAt Go.RowKit
theorem Tryz.ownNone:ownKnob Tryz.prog.godebug=none:=by kernel_rfl
theorem Tryz.laidOutYes:laidOutB Tryz.prog=true:=by kernel_rfl
end Go.Proofs.YticbbncdcannlaaGreat
