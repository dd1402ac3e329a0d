/-
  The walk of the document's own 'Same' at two rows of statements that are one. Condition: both lie in memory as said.
  Plain: what is read has no more parts than there are tokens. No condition.
-/
import Derived.Test.YtlgaphopjdeklaaGreatM12
import Derived.Test.YtlgaphopjdeklaaGreatM36
import Derived.Test.YtlgaphopjdeklaaGreatM13
namespace Go.Proofs.YtlgaphopjdeklaaGreat
section
variable {l : List TZ} {N : Nat}
end
end Go.Proofs.YtlgaphopjdeklaaGreat
namespace Go.Proofs.YtlgaphopjdeklaaGreat
open Go.RowKit
open Go.Lib hiding intOf
end Go.Proofs.YtlgaphopjdeklaaGreat
