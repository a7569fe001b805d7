/- Proved: for all arguments that hold together at most 1048576 values (Rows.ViewsUptoSaid), the call of the law Views returns true, and its arguments read afterwards as before: besides the calls of the law Plain, Cut, Turn, Stretch, Reshape and Shared answer as the document's own space does, at every script of them. Conditions: none beyond those of the statement's row. -/
import Derived.Test.YticbbncdcannlaaGreatG38
import Derived.Test.YticbbncdcannlaaGreatG47
import Derived.Test.YticbbncdcannlaaGreatG35
import Derived.Test.YticbbncdcannlaaGreatG51
import Derived.Test.YticbbncdcannlaaGreatG45

namespace Go.Proofs.YticbbncdcannlaaGreat
open Go.RowKit

theorem xc2 : XC2 XRep where
  base := xc
  cut := fun _ _ _ _ _ h axis start count step hR hm => xc_cut h axis start count step hR hm
  turn := fun _ _ _ _ _ h va ax hR hr _ hm => xc_turn h va ax hr hR hm
  stretch := fun _ _ _ _ _ h va s hR hr _ hm => xc_stretch h va s hr hR hm
  reshape := fun _ _ _ _ _ h va s hR hr _ hm hb => xc_reshape h va s hr hR hm hb
  shared := fun _ _ _ _ _ fa fb hR => xc_shared fa fb hR

theorem views_whole : Rows.ViewsUptoSaid := views_over xc2

#print axioms views_whole

end Go.Proofs.YticbbncdcannlaaGreat
