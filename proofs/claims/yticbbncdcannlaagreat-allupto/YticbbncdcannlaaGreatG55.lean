/- Proved: for all arguments that hold together at most 1048576 values (Rows.PlainUptoSaid), the call of the law Plain returns true, and its arguments read afterwards as before: New, Make, Free, Set, Get, Fill, Values, Look and Store answer as the document's own space does, at every script of them. Conditions: none beyond those of the statement's row. -/
import Derived.Test.YticbbncdcannlaaGreatG50
import Derived.Test.YticbbncdcannlaaGreatG09

namespace Go.Proofs.YticbbncdcannlaaGreat
open Go.RowKit

theorem xc : XC XRep where
  kp := fun h k hs => h.kp k hs
  tags := fun h k => h.tags k
  newNo := fun b i w h => xc_newNo b i w h
  newYes := fun b i w T o hb hi => xc_newYes b i w T o hb hi
  make := fun kind vs s hR hr _ _ hm hb => xc_make kind vs s hR hr hm hb
  free := fun h hR => xc_free h hR
  set := fun h v vi i hR hr _ _ hv => xc_set h v vi i hR hr hv
  get := fun h vi i hR hr _ _ => xc_get h vi i hR hr
  fill := fun h v hR hv => xc_fill h v hR hv
  values := fun h t hR _ => xc_values h t hR
  look := fun h t hR _ => xc_look h t hR
  store := fun kind hR => xc_store kind hR

end Go.Proofs.YticbbncdcannlaaGreat
