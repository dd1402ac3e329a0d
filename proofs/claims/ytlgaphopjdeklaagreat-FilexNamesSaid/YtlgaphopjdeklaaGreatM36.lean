/-
  The walk of the document's own 'Same' at two expressions that are one. Condition: both lie in memory as said.
-/
import Derived.Test.YtlgaphopjdeklaaGreatM35
import Derived.Test.YtlgaphopjdeklaaGreatM09
import Derived.BigQuiet
import Derived.Deep.LoopGhost
import Derived.Deep.DeepCutAuto
namespace Go.Proofs.YtlgaphopjdeklaaGreat
open Go.RowKit
open Go.Lib hiding intOf
end Go.Proofs.YtlgaphopjdeklaaGreat
