/-
  The walk of the document's own 'Same' at two values of one type. Condition: both lie in memory as said.
-/
import Derived.Test.YtlgaphopjdeklaaGreatM09
namespace Go.Proofs.YtlgaphopjdeklaaGreat
open Go.RowKit
open Go.Lib hiding intOf
end Go.Proofs.YtlgaphopjdeklaaGreat
