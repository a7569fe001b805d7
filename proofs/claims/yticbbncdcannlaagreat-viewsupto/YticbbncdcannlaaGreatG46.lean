/- The program's space, walked where the array that is written is one of int64: Work. -/
import Derived.Test.YticbbncdcannlaaGreatG44
import Derived.Test.YticbbncdcannlaaGreatG43
import Derived.Test.YticbbncdcannlaaGreatG19
import Derived.Test.YticbbncdcannlaaGreatG21

namespace Go.Proofs.YticbbncdcannlaaGreat
open Go.RowKit Go.Maps Go.ChangeMaps Go.MapKept

end Go.Proofs.YticbbncdcannlaaGreat

/- The program's calls in the document's words: Work. -/
namespace Go.Proofs.YticbbncdcannlaaGreat
open Go.RowKit

end Go.Proofs.YticbbncdcannlaaGreat
