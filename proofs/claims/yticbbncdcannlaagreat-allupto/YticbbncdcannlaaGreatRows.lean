/-
  No cell of these rows narrows 'for every input' (looked for: loops, veiled, ifaces, maps, wideKeys, modest, calm, conditions, laid).
  DERIVED. THE GIVEN ROWS OF THIS SEAT. 8 by the template 'for every input the law returns true; each argument reads behind the call as it read before'; 0 by the template 'total and deterministic' (their statements: YticbbncdcannlaaGreatTotals.lean).
  GIVEN WITH THE SEED: the statements are not yours to turn. If you find one false, say at which input.
  Laid BY PROGRAM, IN A SANDBOX (cutbox-rows.mjs): the forced cells as the released guide's own fill.sh prints them over the translation c20a10babec05b6a… (all of the seat's roots in one cut). By AI agents, Wed Nov 11 2026. No macro, syntax, notation, axiom, sorry.
-/
import Derived.Test.YticbbncdcannlaaGreatChecked
import GoSem.Claim
import GoSem.ClaimJoined
import GoSem.ClaimMapViews
import Derived.JoinedTies
import Derived.KernelRfl
namespace Go.Proofs.YticbbncdcannlaaGreat
/- THE CELL 'sum', in the pinned program and in every row, IS THE sha256 OF THE DUMP (.gsa) THAT YticbbncdcannlaaGreatProg.lean LOADS. Nothing in Lean hashes anything: it is a label: what it is worth is what the hold of that sum in a sandbox is worth. -/
noncomputable def Tryz.pinned : Pinned := { name := "yticbbncdcannlaagreat", sum := "c20a10babec05b6acd308fac7ba0c26f80753c999b9536055d4ffabf275b57fc", checked := Tryz.checked }
namespace Rows
def none {H : Type} : Left H := { results := [], args := [] }

/-- 'trellislaw.Plain': WHATEVER THE INPUT: true; the input reads as it did. -/
def plainSpec : ChangeSpec := { name := "plain", fn := fun _ => fun
  | [d1, d2, d3] => { results := [.lit (.bool true)], args := [d1, d2, d3] }
  | _ => none }
def plainRow : OpenClaim := { program := "yticbbncdcannlaagreat", sum := "c20a10babec05b6acd308fac7ba0c26f80753c999b9536055d4ffabf275b57fc", func := "trellis/trellislaw.Plain", spec := "plain", unfollowed := true, recurses := true, apart := false }
def PlainSaid : Prop := plainRow.holds Tryz.pinned (OpenSpec.ofChange plainSpec)

/-- ITS FALSE NEIGHBOUR: 'it returns false'. Refute it at one input. -/
def plainWrong : ChangeSpec := { name := "plain", fn := fun _ => fun
  | [d1, d2, d3] => { results := [.lit (.bool false)], args := [d1, d2, d3] }
  | _ => none }
def PlainWrongFalsely : Prop := plainRow.holds Tryz.pinned (OpenSpec.ofChange plainWrong)

/-- 'trellislaw.Views': WHATEVER THE INPUT: true; the input reads as it did. -/
def viewsSpec : ChangeSpec := { name := "views", fn := fun _ => fun
  | [d1, d2, d3] => { results := [.lit (.bool true)], args := [d1, d2, d3] }
  | _ => none }
def viewsRow : OpenClaim := { program := "yticbbncdcannlaagreat", sum := "c20a10babec05b6acd308fac7ba0c26f80753c999b9536055d4ffabf275b57fc", func := "trellis/trellislaw.Views", spec := "views", unfollowed := true, recurses := true, apart := false }
def ViewsSaid : Prop := viewsRow.holds Tryz.pinned (OpenSpec.ofChange viewsSpec)

/-- ITS FALSE NEIGHBOUR: 'it returns false'. Refute it at one input. -/
def viewsWrong : ChangeSpec := { name := "views", fn := fun _ => fun
  | [d1, d2, d3] => { results := [.lit (.bool false)], args := [d1, d2, d3] }
  | _ => none }
def ViewsWrongFalsely : Prop := viewsRow.holds Tryz.pinned (OpenSpec.ofChange viewsWrong)

/-- 'trelliskeep.Meant': WHATEVER THE INPUT: true; the input reads as it did. -/
def meantSpec : ChangeSpec := { name := "meant", fn := fun _ => fun
  | [d1, d2] => { results := [.lit (.bool true)], args := [d1, d2] }
  | _ => none }
def meantRow : OpenClaim := { program := "yticbbncdcannlaagreat", sum := "c20a10babec05b6acd308fac7ba0c26f80753c999b9536055d4ffabf275b57fc", func := "trellis/trelliskeep.Meant", spec := "meant", unfollowed := true, recurses := true, apart := false }
def MeantSaid : Prop := meantRow.holds Tryz.pinned (OpenSpec.ofChange meantSpec)

/-- ITS FALSE NEIGHBOUR: 'it returns false'. Refute it at one input. -/
def meantWrong : ChangeSpec := { name := "meant", fn := fun _ => fun
  | [d1, d2] => { results := [.lit (.bool false)], args := [d1, d2] }
  | _ => none }
def MeantWrongFalsely : Prop := meantRow.holds Tryz.pinned (OpenSpec.ofChange meantWrong)

/-- 'trelliskeep.Back': WHATEVER THE INPUT: true; the input reads as it did. -/
def backSpec : ChangeSpec := { name := "back", fn := fun _ => fun
  | [d1, d2, d3, d4, d5] => { results := [.lit (.bool true)], args := [d1, d2, d3, d4, d5] }
  | _ => none }
def backRow : OpenClaim := { program := "yticbbncdcannlaagreat", sum := "c20a10babec05b6acd308fac7ba0c26f80753c999b9536055d4ffabf275b57fc", func := "trellis/trelliskeep.Back", spec := "back", unfollowed := true, recurses := true, apart := false }
def BackSaid : Prop := backRow.holds Tryz.pinned (OpenSpec.ofChange backSpec)

/-- ITS FALSE NEIGHBOUR: 'it returns false'. Refute it at one input. -/
def backWrong : ChangeSpec := { name := "back", fn := fun _ => fun
  | [d1, d2, d3, d4, d5] => { results := [.lit (.bool false)], args := [d1, d2, d3, d4, d5] }
  | _ => none }
def BackWrongFalsely : Prop := backRow.holds Tryz.pinned (OpenSpec.ofChange backWrong)

/-- 'trelliskeep.Freed': WHATEVER THE INPUT: true; the input reads as it did. -/
def freedSpec : ChangeSpec := { name := "freed", fn := fun _ => fun
  | [d1, d2, d3] => { results := [.lit (.bool true)], args := [d1, d2, d3] }
  | _ => none }
def freedRow : OpenClaim := { program := "yticbbncdcannlaagreat", sum := "c20a10babec05b6acd308fac7ba0c26f80753c999b9536055d4ffabf275b57fc", func := "trellis/trelliskeep.Freed", spec := "freed", unfollowed := true, recurses := true, apart := false }
def FreedSaid : Prop := freedRow.holds Tryz.pinned (OpenSpec.ofChange freedSpec)

/-- ITS FALSE NEIGHBOUR: 'it returns false'. Refute it at one input. -/
def freedWrong : ChangeSpec := { name := "freed", fn := fun _ => fun
  | [d1, d2, d3] => { results := [.lit (.bool false)], args := [d1, d2, d3] }
  | _ => none }
def FreedWrongFalsely : Prop := freedRow.holds Tryz.pinned (OpenSpec.ofChange freedWrong)

/-- 'trelliskeep.Written': WHATEVER THE INPUT: true; the input reads as it did. -/
def writtenSpec : ChangeSpec := { name := "written", fn := fun _ => fun
  | [d1, d2, d3] => { results := [.lit (.bool true)], args := [d1, d2, d3] }
  | _ => none }
def writtenRow : OpenClaim := { program := "yticbbncdcannlaagreat", sum := "c20a10babec05b6acd308fac7ba0c26f80753c999b9536055d4ffabf275b57fc", func := "trellis/trelliskeep.Written", spec := "written", unfollowed := true, recurses := true, apart := false }
def WrittenSaid : Prop := writtenRow.holds Tryz.pinned (OpenSpec.ofChange writtenSpec)

/-- ITS FALSE NEIGHBOUR: 'it returns false'. Refute it at one input. -/
def writtenWrong : ChangeSpec := { name := "written", fn := fun _ => fun
  | [d1, d2, d3] => { results := [.lit (.bool false)], args := [d1, d2, d3] }
  | _ => none }
def WrittenWrongFalsely : Prop := writtenRow.holds Tryz.pinned (OpenSpec.ofChange writtenWrong)

/-- 'trelliskeep.Folded': WHATEVER THE INPUT: true; the input reads as it did. -/
def foldedSpec : ChangeSpec := { name := "folded", fn := fun _ => fun
  | [d1, d2, d3, d4, d5] => { results := [.lit (.bool true)], args := [d1, d2, d3, d4, d5] }
  | _ => none }
def foldedRow : OpenClaim := { program := "yticbbncdcannlaagreat", sum := "c20a10babec05b6acd308fac7ba0c26f80753c999b9536055d4ffabf275b57fc", func := "trellis/trelliskeep.Folded", spec := "folded", unfollowed := true, recurses := true, apart := false }
def FoldedSaid : Prop := foldedRow.holds Tryz.pinned (OpenSpec.ofChange foldedSpec)

/-- ITS FALSE NEIGHBOUR: 'it returns false'. Refute it at one input. -/
def foldedWrong : ChangeSpec := { name := "folded", fn := fun _ => fun
  | [d1, d2, d3, d4, d5] => { results := [.lit (.bool false)], args := [d1, d2, d3, d4, d5] }
  | _ => none }
def FoldedWrongFalsely : Prop := foldedRow.holds Tryz.pinned (OpenSpec.ofChange foldedWrong)

/-- 'trellislaw.All': WHATEVER THE INPUT: true; the input reads as it did. -/
def allSpec : ChangeSpec := { name := "all", fn := fun _ => fun
  | [d1, d2, d3, d4, d5] => { results := [.lit (.bool true)], args := [d1, d2, d3, d4, d5] }
  | _ => none }
def allRow : OpenClaim := { program := "yticbbncdcannlaagreat", sum := "c20a10babec05b6acd308fac7ba0c26f80753c999b9536055d4ffabf275b57fc", func := "trellis/trellislaw.All", spec := "all", unfollowed := true, recurses := true, apart := false }
def AllSaid : Prop := allRow.holds Tryz.pinned (OpenSpec.ofChange allSpec)

/-- ITS FALSE NEIGHBOUR: 'it returns false'. Refute it at one input. -/
def allWrong : ChangeSpec := { name := "all", fn := fun _ => fun
  | [d1, d2, d3, d4, d5] => { results := [.lit (.bool false)], args := [d1, d2, d3, d4, d5] }
  | _ => none }
def AllWrongFalsely : Prop := allRow.holds Tryz.pinned (OpenSpec.ofChange allWrong)

/- THE SECOND FORM. 'bulk': how many values and letters a reading holds, each counted each time it is reached (what is shared counts as often as it is met; a slice's spare places count too). A statement '..UptoSaid' is the law's where the arguments, and the package variables that the reading takes, are together of bulk at most 1048576: NARROWER than '..Said'. Prove '..Said' where nothing that the law and all that it calls make is longer than what came in: it says more and counts as full. Else prove '..UptoSaid'. A law counts once. -/
mutual
def uptoBulk {H : Type} : DataW H → Nat
  | .lit (.string bytes) => bytes.length + 1
  | .lit _ => 1
  | .nil => 1
  | .ptr d => uptoBulk d + 1
  | .slice elems spare => uptoBulkAll elems + uptoBulkAll spare + 1
  | .agg parts => uptoBulkAll parts + 1
  | .iface _ d => uptoBulk d + 1
  | .map entries => uptoBulkEntries entries + 1
  | .held _ => 1
def uptoBulkAll {H : Type} : List (DataW H) → Nat
  | [] => 0
  | d :: r => uptoBulk d + uptoBulkAll r
def uptoBulkEntries {H : Type} : List (Lit × DataW H) → Nat
  | [] => 0
  | x :: r => uptoBulkEntry x + uptoBulkEntries r
def uptoBulkEntry {H : Type} : Lit × DataW H → Nat
  | (.string bytes, d) => bytes.length + uptoBulk d + 1
  | (_, d) => uptoBulk d + 1
 end
def uptoSmall : (H : Type) → List (DataW H) → Bool := fun _ ds => decide (uptoBulkAll ds ≤ 1048576)
def OpenSpec.upto (s : _root_.Go.ChangeSpec) : _root_.Go.OpenSpec := { _root_.Go.OpenSpec.ofChange s with cond := some uptoSmall }

/-- 'trellislaw.Plain', WHERE WHAT IT READS IS OF BULK AT MOST 1048576: true; the input reads as it did. -/
def plainUptoRow : OpenClaim := { program := "yticbbncdcannlaagreat", sum := "c20a10babec05b6acd308fac7ba0c26f80753c999b9536055d4ffabf275b57fc", func := "trellis/trellislaw.Plain", spec := "plain", unfollowed := true, recurses := true, apart := false, narrowed := true }
def PlainUptoSaid : Prop := plainUptoRow.holds Tryz.pinned (OpenSpec.upto plainSpec)

/-- 'trellislaw.Views', WHERE WHAT IT READS IS OF BULK AT MOST 1048576: true; the input reads as it did. -/
def viewsUptoRow : OpenClaim := { program := "yticbbncdcannlaagreat", sum := "c20a10babec05b6acd308fac7ba0c26f80753c999b9536055d4ffabf275b57fc", func := "trellis/trellislaw.Views", spec := "views", unfollowed := true, recurses := true, apart := false, narrowed := true }
def ViewsUptoSaid : Prop := viewsUptoRow.holds Tryz.pinned (OpenSpec.upto viewsSpec)

/-- 'trelliskeep.Meant', WHERE WHAT IT READS IS OF BULK AT MOST 1048576: true; the input reads as it did. -/
def meantUptoRow : OpenClaim := { program := "yticbbncdcannlaagreat", sum := "c20a10babec05b6acd308fac7ba0c26f80753c999b9536055d4ffabf275b57fc", func := "trellis/trelliskeep.Meant", spec := "meant", unfollowed := true, recurses := true, apart := false, narrowed := true }
def MeantUptoSaid : Prop := meantUptoRow.holds Tryz.pinned (OpenSpec.upto meantSpec)

/-- 'trelliskeep.Back', WHERE WHAT IT READS IS OF BULK AT MOST 1048576: true; the input reads as it did. -/
def backUptoRow : OpenClaim := { program := "yticbbncdcannlaagreat", sum := "c20a10babec05b6acd308fac7ba0c26f80753c999b9536055d4ffabf275b57fc", func := "trellis/trelliskeep.Back", spec := "back", unfollowed := true, recurses := true, apart := false, narrowed := true }
def BackUptoSaid : Prop := backUptoRow.holds Tryz.pinned (OpenSpec.upto backSpec)

/-- 'trelliskeep.Freed', WHERE WHAT IT READS IS OF BULK AT MOST 1048576: true; the input reads as it did. -/
def freedUptoRow : OpenClaim := { program := "yticbbncdcannlaagreat", sum := "c20a10babec05b6acd308fac7ba0c26f80753c999b9536055d4ffabf275b57fc", func := "trellis/trelliskeep.Freed", spec := "freed", unfollowed := true, recurses := true, apart := false, narrowed := true }
def FreedUptoSaid : Prop := freedUptoRow.holds Tryz.pinned (OpenSpec.upto freedSpec)

/-- 'trelliskeep.Written', WHERE WHAT IT READS IS OF BULK AT MOST 1048576: true; the input reads as it did. -/
def writtenUptoRow : OpenClaim := { program := "yticbbncdcannlaagreat", sum := "c20a10babec05b6acd308fac7ba0c26f80753c999b9536055d4ffabf275b57fc", func := "trellis/trelliskeep.Written", spec := "written", unfollowed := true, recurses := true, apart := false, narrowed := true }
def WrittenUptoSaid : Prop := writtenUptoRow.holds Tryz.pinned (OpenSpec.upto writtenSpec)

/-- 'trelliskeep.Folded', WHERE WHAT IT READS IS OF BULK AT MOST 1048576: true; the input reads as it did. -/
def foldedUptoRow : OpenClaim := { program := "yticbbncdcannlaagreat", sum := "c20a10babec05b6acd308fac7ba0c26f80753c999b9536055d4ffabf275b57fc", func := "trellis/trelliskeep.Folded", spec := "folded", unfollowed := true, recurses := true, apart := false, narrowed := true }
def FoldedUptoSaid : Prop := foldedUptoRow.holds Tryz.pinned (OpenSpec.upto foldedSpec)

/-- 'trellislaw.All', WHERE WHAT IT READS IS OF BULK AT MOST 1048576: true; the input reads as it did. -/
def allUptoRow : OpenClaim := { program := "yticbbncdcannlaagreat", sum := "c20a10babec05b6acd308fac7ba0c26f80753c999b9536055d4ffabf275b57fc", func := "trellis/trellislaw.All", spec := "all", unfollowed := true, recurses := true, apart := false, narrowed := true }
def AllUptoSaid : Prop := allUptoRow.holds Tryz.pinned (OpenSpec.upto allSpec)

end Rows
end Go.Proofs.YticbbncdcannlaaGreat
