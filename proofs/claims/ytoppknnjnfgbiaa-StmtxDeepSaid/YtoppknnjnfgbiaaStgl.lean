/-
  Plain: blocks of 'else' may be thirty within one another (fewer than fifty). No condition.
-/
import Derived.Test.YtoppknnjnfgbiaaStm
namespace Go.Proofs.Ytoppknnjnfgbiaa

set_option maxRecDepth 100000 in
set_option maxHeartbeats 4000000 in
theorem deepE_a : ∀ n < 30, deepS ((toks (txE n)).map zTok) n = true := by decide +kernel
set_option maxRecDepth 100000 in
set_option maxHeartbeats 4000000 in
theorem deepE_b : ∀ n < 12, deepS ((toks (txE (n + 30))).map zTok) (n + 30) = true := by decide +kernel
set_option maxRecDepth 100000 in
set_option maxHeartbeats 4000000 in
theorem deepE_c : ∀ n < 10, deepS ((toks (txE (n + 42))).map zTok) (n + 42) = true := by decide +kernel
theorem deepE_lo (n : Nat) (h : n < 52) : deepS ((toks (txE n)).map zTok) n = true := by
  by_cases h1 : n < 30
  · exact deepE_a n h1
  by_cases h2 : n < 42
  · have := deepE_b (n - 30) (by omega)
    rwa [show n - 30 + 30 = n by omega] at this
  · have := deepE_c (n - 42) (by omega)
    rwa [show n - 42 + 42 = n by omega] at this

end Go.Proofs.Ytoppknnjnfgbiaa
