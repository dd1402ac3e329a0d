/-
  Plain: brackets and signs may be thirty within one another. No condition.
-/
import Derived.Test.YtoppknnjnfgbiaaExt
namespace Go.Proofs.Ytoppknnjnfgbiaa

def txB (n : Nat) : List UInt8 := List.replicate n 40 ++ 97 :: List.replicate n 41
def txN (n : Nat) : List UInt8 := List.replicate n 33 ++ [97]
def txI : Nat → List UInt8
  | 0 => [97]
  | n + 1 => 97 :: 91 :: txI n ++ [93]

def deepB (l : List TZ) (f n : Nat) : Bool := match ex l f 1 0 0 with
  | .ok _ j => decide (n ≤ 30) && decide (j + 1 = l.length)
  | .err _ c => decide (30 < n) && decide (c = 6)
  | .out => false

/-- Steps enough for so many tokens. -/
def fuel (l : List TZ) : Nat := 8 * l.length + 16

set_option maxRecDepth 100000 in
theorem deepB_all : ∀ n < 70, deepB ((toks (txB n)).map zTok) (fuel ((toks (txB n)).map zTok)) n = true := by decide +kernel
set_option maxRecDepth 100000 in
theorem deepN_all : ∀ n < 70, deepB ((toks (txN n)).map zTok) (fuel ((toks (txN n)).map zTok)) n = true := by decide +kernel
set_option maxRecDepth 100000 in
theorem deepI_all : ∀ n < 70, deepB ((toks (txI n)).map zTok) (fuel ((toks (txI n)).map zTok)) n = true := by decide +kernel

theorem lexB_all : ∀ n < 70, bad (toks (txB n)) 0 = none := by decide +kernel
theorem lexN_all : ∀ n < 70, bad (toks (txN n)) 0 = none := by decide +kernel
theorem lexI_all : ∀ n < 70, bad (toks (txI n)) 0 = none := by decide +kernel

end Go.Proofs.Ytoppknnjnfgbiaa
