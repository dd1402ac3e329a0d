/-
  Plain: blocks of 'for' may be thirty within one another. No condition.
-/
import Derived.Test.YtoppknnjnfgbiaaStm
namespace Go.Proofs.Ytoppknnjnfgbiaa

set_option maxRecDepth 100000 in
theorem deepL_all : ∀ n < 70, deepS ((toks (txL n)).map zTok) n = true := by decide +kernel

end Go.Proofs.Ytoppknnjnfgbiaa
