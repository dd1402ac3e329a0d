/-
  No cell of these rows narrows 'for every input' (looked for: loops, veiled, ifaces, maps, wideKeys, modest, calm, conditions, laid).
  DERIVED. THE GIVEN ROWS OF THIS SEAT. 4 by the template 'for every input the law returns true; each argument reads behind the call as it read before'; 0 by the template 'total and deterministic' (their statements: YtoppknnjnfgbiaaTotals.lean).
  GIVEN WITH THE SEED: the statements are not yours to turn. If you find one false, say at which input.
  Laid BY PROGRAM, IN A SANDBOX (cutbox-rows.mjs): the forced cells as the released guide's own fill.sh prints them over the translation 2ab8a12d8a49e104… (all of the seat's roots in one cut). By AI agents, Wed Nov 11 2026. No macro, syntax, notation, axiom, sorry.
-/
import Derived.Test.YtoppknnjnfgbiaaChecked
import GoSem.Claim
import GoSem.ClaimJoined
import GoSem.ClaimMapViews
import Derived.JoinedTies
import Derived.KernelRfl
namespace Go.Proofs.Ytoppknnjnfgbiaa
/- THE CELL 'sum', in the pinned program and in every row, IS THE sha256 OF THE DUMP (.gsa) THAT YtoppknnjnfgbiaaProg.lean LOADS. Nothing in Lean hashes anything: it is a label: what it is worth is what the hold of that sum in a sandbox is worth. -/
noncomputable def Try.pinned : Pinned := { name := "ytoppknnjnfgbiaa", sum := "2ab8a12d8a49e104b6c8f6cd7cbd6a5eaa627661fb7d9a5295ea902c229c2c4f", checked := Try.checked }
namespace Rows
def none {H : Type} : Left H := { results := [], args := [] }

/-- 'quoinlaw05.StmtxNames': WHATEVER THE INPUT: true; the input reads as it did. -/
def stmtxNamesSpec : ChangeSpec := { name := "stmtxNames", fn := fun _ => fun
  | [] => { results := [.lit (.bool true)], args := [] }
  | _ => none }
def stmtxNamesRow : OpenClaim := { program := "ytoppknnjnfgbiaa", sum := "2ab8a12d8a49e104b6c8f6cd7cbd6a5eaa627661fb7d9a5295ea902c229c2c4f", func := "quoin/quoinlaw05.StmtxNames", spec := "stmtxNames", inPlace := ["internal/bytealg.IndexByteString"], unfollowed := true, recurses := true, apart := false }
def StmtxNamesSaid : Prop := stmtxNamesRow.holds Try.pinned (OpenSpec.ofChange stmtxNamesSpec)

/-- ITS FALSE NEIGHBOUR: 'it returns false'. Refute it at one input. -/
def stmtxNamesWrong : ChangeSpec := { name := "stmtxNames", fn := fun _ => fun
  | [] => { results := [.lit (.bool false)], args := [] }
  | _ => none }
def StmtxNamesWrongFalsely : Prop := stmtxNamesRow.holds Try.pinned (OpenSpec.ofChange stmtxNamesWrong)

/-- 'quoinlaw05.StmtxBehind': WHATEVER THE INPUT: true; the input reads as it did. -/
def stmtxBehindSpec : ChangeSpec := { name := "stmtxBehind", fn := fun _ => fun
  | [d1, d2] => { results := [.lit (.bool true)], args := [d1, d2] }
  | _ => none }
def stmtxBehindRow : OpenClaim := { program := "ytoppknnjnfgbiaa", sum := "2ab8a12d8a49e104b6c8f6cd7cbd6a5eaa627661fb7d9a5295ea902c229c2c4f", func := "quoin/quoinlaw05.StmtxBehind", spec := "stmtxBehind", inPlace := ["internal/bytealg.IndexByteString"], unfollowed := true, recurses := true, apart := false }
def StmtxBehindSaid : Prop := stmtxBehindRow.holds Try.pinned (OpenSpec.ofChange stmtxBehindSpec)

/-- ITS FALSE NEIGHBOUR: 'it returns false'. Refute it at one input. -/
def stmtxBehindWrong : ChangeSpec := { name := "stmtxBehind", fn := fun _ => fun
  | [d1, d2] => { results := [.lit (.bool false)], args := [d1, d2] }
  | _ => none }
def StmtxBehindWrongFalsely : Prop := stmtxBehindRow.holds Try.pinned (OpenSpec.ofChange stmtxBehindWrong)

/-- 'quoinlaw05.StmtxJoins': WHATEVER THE INPUT: true; the input reads as it did. -/
def stmtxJoinsSpec : ChangeSpec := { name := "stmtxJoins", fn := fun _ => fun
  | [d1, d2] => { results := [.lit (.bool true)], args := [d1, d2] }
  | _ => none }
def stmtxJoinsRow : OpenClaim := { program := "ytoppknnjnfgbiaa", sum := "2ab8a12d8a49e104b6c8f6cd7cbd6a5eaa627661fb7d9a5295ea902c229c2c4f", func := "quoin/quoinlaw05.StmtxJoins", spec := "stmtxJoins", inPlace := ["internal/bytealg.IndexByteString"], unfollowed := true, recurses := true, apart := false }
def StmtxJoinsSaid : Prop := stmtxJoinsRow.holds Try.pinned (OpenSpec.ofChange stmtxJoinsSpec)

/-- ITS FALSE NEIGHBOUR: 'it returns false'. Refute it at one input. -/
def stmtxJoinsWrong : ChangeSpec := { name := "stmtxJoins", fn := fun _ => fun
  | [d1, d2] => { results := [.lit (.bool false)], args := [d1, d2] }
  | _ => none }
def StmtxJoinsWrongFalsely : Prop := stmtxJoinsRow.holds Try.pinned (OpenSpec.ofChange stmtxJoinsWrong)

/-- 'quoinlaw05.StmtxDeep': WHATEVER THE INPUT: true; the input reads as it did. -/
def stmtxDeepSpec : ChangeSpec := { name := "stmtxDeep", fn := fun _ => fun
  | [d1, d2] => { results := [.lit (.bool true)], args := [d1, d2] }
  | _ => none }
def stmtxDeepRow : OpenClaim := { program := "ytoppknnjnfgbiaa", sum := "2ab8a12d8a49e104b6c8f6cd7cbd6a5eaa627661fb7d9a5295ea902c229c2c4f", func := "quoin/quoinlaw05.StmtxDeep", spec := "stmtxDeep", inPlace := ["internal/bytealg.IndexByteString"], unfollowed := true, recurses := true, apart := false }
def StmtxDeepSaid : Prop := stmtxDeepRow.holds Try.pinned (OpenSpec.ofChange stmtxDeepSpec)

/-- ITS FALSE NEIGHBOUR: 'it returns false'. Refute it at one input. -/
def stmtxDeepWrong : ChangeSpec := { name := "stmtxDeep", fn := fun _ => fun
  | [d1, d2] => { results := [.lit (.bool false)], args := [d1, d2] }
  | _ => none }
def StmtxDeepWrongFalsely : Prop := stmtxDeepRow.holds Try.pinned (OpenSpec.ofChange stmtxDeepWrong)

/- THE SECOND FORM. 'bulk': how many values and letters a reading holds, each counted each time it is reached (what is shared counts as often as it is met; a slice's spare places count too). A statement '..UptoSaid' is the law's where the arguments, and the package variables that the reading takes, are together of bulk at most 1048576: NARROWER than '..Said'. Prove '..Said' where nothing that the law and all that it calls make is longer than what came in: it says more and counts as full. Else prove '..UptoSaid'. A law counts once. -/
mutual
def uptoBulk {H : Type} : DataW H → Nat
  | .lit (.string bytes) => bytes.length + 1
  | .lit _ => 1
  | .nil => 1
  | .ptr d => uptoBulk d + 1
  | .slice elems spare => uptoBulkAll elems + uptoBulkAll spare + 1
  | .agg parts => uptoBulkAll parts + 1
  | .iface _ d => uptoBulk d + 1
  | .map entries => uptoBulkEntries entries + 1
  | .held _ => 1
def uptoBulkAll {H : Type} : List (DataW H) → Nat
  | [] => 0
  | d :: r => uptoBulk d + uptoBulkAll r
def uptoBulkEntries {H : Type} : List (Lit × DataW H) → Nat
  | [] => 0
  | x :: r => uptoBulkEntry x + uptoBulkEntries r
def uptoBulkEntry {H : Type} : Lit × DataW H → Nat
  | (.string bytes, d) => bytes.length + uptoBulk d + 1
  | (_, d) => uptoBulk d + 1
 end
def uptoSmall : (H : Type) → List (DataW H) → Bool := fun _ ds => decide (uptoBulkAll ds ≤ 1048576)
def OpenSpec.upto (s : _root_.Go.ChangeSpec) : _root_.Go.OpenSpec := { _root_.Go.OpenSpec.ofChange s with cond := some uptoSmall }

/-- 'quoinlaw05.StmtxNames', WHERE WHAT IT READS IS OF BULK AT MOST 1048576: true; the input reads as it did. -/
def stmtxNamesUptoRow : OpenClaim := { program := "ytoppknnjnfgbiaa", sum := "2ab8a12d8a49e104b6c8f6cd7cbd6a5eaa627661fb7d9a5295ea902c229c2c4f", func := "quoin/quoinlaw05.StmtxNames", spec := "stmtxNames", inPlace := ["internal/bytealg.IndexByteString"], unfollowed := true, recurses := true, apart := false, narrowed := true }
def StmtxNamesUptoSaid : Prop := stmtxNamesUptoRow.holds Try.pinned (OpenSpec.upto stmtxNamesSpec)

/-- 'quoinlaw05.StmtxBehind', WHERE WHAT IT READS IS OF BULK AT MOST 1048576: true; the input reads as it did. -/
def stmtxBehindUptoRow : OpenClaim := { program := "ytoppknnjnfgbiaa", sum := "2ab8a12d8a49e104b6c8f6cd7cbd6a5eaa627661fb7d9a5295ea902c229c2c4f", func := "quoin/quoinlaw05.StmtxBehind", spec := "stmtxBehind", inPlace := ["internal/bytealg.IndexByteString"], unfollowed := true, recurses := true, apart := false, narrowed := true }
def StmtxBehindUptoSaid : Prop := stmtxBehindUptoRow.holds Try.pinned (OpenSpec.upto stmtxBehindSpec)

/-- 'quoinlaw05.StmtxJoins', WHERE WHAT IT READS IS OF BULK AT MOST 1048576: true; the input reads as it did. -/
def stmtxJoinsUptoRow : OpenClaim := { program := "ytoppknnjnfgbiaa", sum := "2ab8a12d8a49e104b6c8f6cd7cbd6a5eaa627661fb7d9a5295ea902c229c2c4f", func := "quoin/quoinlaw05.StmtxJoins", spec := "stmtxJoins", inPlace := ["internal/bytealg.IndexByteString"], unfollowed := true, recurses := true, apart := false, narrowed := true }
def StmtxJoinsUptoSaid : Prop := stmtxJoinsUptoRow.holds Try.pinned (OpenSpec.upto stmtxJoinsSpec)

/-- 'quoinlaw05.StmtxDeep', WHERE WHAT IT READS IS OF BULK AT MOST 1048576: true; the input reads as it did. -/
def stmtxDeepUptoRow : OpenClaim := { program := "ytoppknnjnfgbiaa", sum := "2ab8a12d8a49e104b6c8f6cd7cbd6a5eaa627661fb7d9a5295ea902c229c2c4f", func := "quoin/quoinlaw05.StmtxDeep", spec := "stmtxDeep", inPlace := ["internal/bytealg.IndexByteString"], unfollowed := true, recurses := true, apart := false, narrowed := true }
def StmtxDeepUptoSaid : Prop := stmtxDeepUptoRow.holds Try.pinned (OpenSpec.upto stmtxDeepSpec)

end Rows
end Go.Proofs.Ytoppknnjnfgbiaa
