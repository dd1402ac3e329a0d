/-
  Plain: blocks of 'else' may be thirty within one another (fifty and more). No condition.
-/
import Derived.Test.YtoppknnjnfgbiaaStm
namespace Go.Proofs.Ytoppknnjnfgbiaa

set_option maxRecDepth 100000 in
set_option maxHeartbeats 4000000 in
theorem deepE_hi : ∀ n < 18, deepS ((toks (txE (n + 52))).map zTok) (n + 52) = true := by decide +kernel

end Go.Proofs.Ytoppknnjnfgbiaa
