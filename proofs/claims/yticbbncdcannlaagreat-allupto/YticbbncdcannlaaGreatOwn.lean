/- Proved: for all arguments that hold together at most 1048576 values (Rows.AllUptoSaid), the call of the law All returns true, and its arguments read afterwards as before: every call of a space (Make, Set, Get, Fill, Free, Values, Look, Store, Cut, Turn, Stretch, Reshape, Shared, Assign, Work, Fold) answers as the document's own space does, at every script of them, on two spaces beside one another. Conditions: none beyond those of the statement's row. -/
import Derived.Test.YticbbncdcannlaaGreatG52
import Derived.Test.YticbbncdcannlaaGreatG51
import Derived.Test.YticbbncdcannlaaGreatG47
set_option maxRecDepth 100000
set_option maxHeartbeats 8000000
namespace Go.Proofs.YticbbncdcannlaaGreat
open Go.RowKit
theorem xc3:XC3 XRep where
 views:={
  base:=xc
  cut:=fun _ _ _ _ _ h axis start count step hR hm=>xc_cut h axis start count step hR hm
  turn:=fun _ _ _ _ _ h va ax hR hr _ hm=>xc_turn h va ax hr hR hm
  stretch:=fun _ _ _ _ _ h va s hR hr _ hm=>xc_stretch h va s hr hR hm
  reshape:=fun _ _ _ _ _ h va s hR hr _ hm hb=>xc_reshape h va s hr hR hm hb
  shared:=fun _ _ _ _ _ fa fb hR=>xc_shared fa fb hR}
 assign:=fun _ _ _ _ _ at0 fr hR=>xc_assign at0 fr hR
 work:=fun _ _ _ _ _ op at0 fa fb hR=>xc_work op at0 fa fb hR
 fold:=fun _ _ _ _ _ op h axis hR hm hb=>xc_fold op h axis hR hm hb
theorem all_whole:Rows.AllUptoSaid:=all_over xc3
#print axioms all_whole
end Go.Proofs.YticbbncdcannlaaGreat
