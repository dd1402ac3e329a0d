/-
  No cell of these rows narrows 'for every input' (looked for: loops, veiled, ifaces, maps, wideKeys, modest, calm, conditions, laid).
  DERIVED. THE GIVEN ROWS OF THIS SEAT. 4 by the template 'for every input the law returns true; each argument reads behind the call as it read before'; 0 by the template 'total and deterministic' (their statements: YtjkdingeicdjoaaTotals.lean).
  GIVEN WITH THE SEED: the statements are not yours to turn. If you find one false, say at which input.
  Laid BY PROGRAM, IN A SANDBOX (cutbox-rows.mjs): the forced cells as the released guide's own fill.sh prints them over the translation 07fd2f4cad308cb6… (all of the seat's roots in one cut). By AI agents, Wed Nov 11 2026. No macro, syntax, notation, axiom, sorry.
-/
import Derived.Test.YtjkdingeicdjoaaChecked
import GoSem.Claim
import GoSem.ClaimJoined
import GoSem.ClaimMapViews
import Derived.JoinedTies
import Derived.KernelRfl
namespace Go.Proofs.Ytjkdingeicdjoaa
/- THE CELL 'sum', in the pinned program and in every row, IS THE sha256 OF THE DUMP (.gsa) THAT YtjkdingeicdjoaaProg.lean LOADS. Nothing in Lean hashes anything: it is a label: what it is worth is what the hold of that sum in a sandbox is worth. -/
noncomputable def Try.pinned : Pinned := { name := "ytjkdingeicdjoaa", sum := "07fd2f4cad308cb61ff451ca05f23202dcd17379b05caf1ee94ac0887c736897", checked := Try.checked }
namespace Rows
def none {H : Type} : Left H := { results := [], args := [] }

/-- 'quoinlaw04.ExprxNames': WHATEVER THE INPUT: true; the input reads as it did. -/
def exprxNamesSpec : ChangeSpec := { name := "exprxNames", fn := fun _ => fun
  | [] => { results := [.lit (.bool true)], args := [] }
  | _ => none }
def exprxNamesRow : OpenClaim := { program := "ytjkdingeicdjoaa", sum := "07fd2f4cad308cb61ff451ca05f23202dcd17379b05caf1ee94ac0887c736897", func := "quoin/quoinlaw04.ExprxNames", spec := "exprxNames", inPlace := ["internal/bytealg.IndexByteString"], unfollowed := true, recurses := true, apart := false }
def ExprxNamesSaid : Prop := exprxNamesRow.holds Try.pinned (OpenSpec.ofChange exprxNamesSpec)

/-- ITS FALSE NEIGHBOUR: 'it returns false'. Refute it at one input. -/
def exprxNamesWrong : ChangeSpec := { name := "exprxNames", fn := fun _ => fun
  | [] => { results := [.lit (.bool false)], args := [] }
  | _ => none }
def ExprxNamesWrongFalsely : Prop := exprxNamesRow.holds Try.pinned (OpenSpec.ofChange exprxNamesWrong)

/-- 'quoinlaw04.ExprxLies': WHATEVER THE INPUT: true; the input reads as it did. -/
def exprxLiesSpec : ChangeSpec := { name := "exprxLies", fn := fun _ => fun
  | [d] => { results := [.lit (.bool true)], args := [d] }
  | _ => none }
def exprxLiesRow : OpenClaim := { program := "ytjkdingeicdjoaa", sum := "07fd2f4cad308cb61ff451ca05f23202dcd17379b05caf1ee94ac0887c736897", func := "quoin/quoinlaw04.ExprxLies", spec := "exprxLies", inPlace := ["internal/bytealg.IndexByteString"], unfollowed := true, recurses := true, apart := false }
def ExprxLiesSaid : Prop := exprxLiesRow.holds Try.pinned (OpenSpec.ofChange exprxLiesSpec)

/-- ITS FALSE NEIGHBOUR: 'it returns false'. Refute it at one input. -/
def exprxLiesWrong : ChangeSpec := { name := "exprxLies", fn := fun _ => fun
  | [d] => { results := [.lit (.bool false)], args := [d] }
  | _ => none }
def ExprxLiesWrongFalsely : Prop := exprxLiesRow.holds Try.pinned (OpenSpec.ofChange exprxLiesWrong)

/-- 'quoinlaw04.ExprxBrackets': WHATEVER THE INPUT: true; the input reads as it did. -/
def exprxBracketsSpec : ChangeSpec := { name := "exprxBrackets", fn := fun _ => fun
  | [d] => { results := [.lit (.bool true)], args := [d] }
  | _ => none }
def exprxBracketsRow : OpenClaim := { program := "ytjkdingeicdjoaa", sum := "07fd2f4cad308cb61ff451ca05f23202dcd17379b05caf1ee94ac0887c736897", func := "quoin/quoinlaw04.ExprxBrackets", spec := "exprxBrackets", inPlace := ["internal/bytealg.IndexByteString"], unfollowed := true, recurses := true, apart := false }
def ExprxBracketsSaid : Prop := exprxBracketsRow.holds Try.pinned (OpenSpec.ofChange exprxBracketsSpec)

/-- ITS FALSE NEIGHBOUR: 'it returns false'. Refute it at one input. -/
def exprxBracketsWrong : ChangeSpec := { name := "exprxBrackets", fn := fun _ => fun
  | [d] => { results := [.lit (.bool false)], args := [d] }
  | _ => none }
def ExprxBracketsWrongFalsely : Prop := exprxBracketsRow.holds Try.pinned (OpenSpec.ofChange exprxBracketsWrong)

/-- 'quoinlaw04.ExprxDeep': WHATEVER THE INPUT: true; the input reads as it did. -/
def exprxDeepSpec : ChangeSpec := { name := "exprxDeep", fn := fun _ => fun
  | [d1, d2] => { results := [.lit (.bool true)], args := [d1, d2] }
  | _ => none }
def exprxDeepRow : OpenClaim := { program := "ytjkdingeicdjoaa", sum := "07fd2f4cad308cb61ff451ca05f23202dcd17379b05caf1ee94ac0887c736897", func := "quoin/quoinlaw04.ExprxDeep", spec := "exprxDeep", inPlace := ["internal/bytealg.IndexByteString"], unfollowed := true, recurses := true, apart := false }
def ExprxDeepSaid : Prop := exprxDeepRow.holds Try.pinned (OpenSpec.ofChange exprxDeepSpec)

/-- ITS FALSE NEIGHBOUR: 'it returns false'. Refute it at one input. -/
def exprxDeepWrong : ChangeSpec := { name := "exprxDeep", fn := fun _ => fun
  | [d1, d2] => { results := [.lit (.bool false)], args := [d1, d2] }
  | _ => none }
def ExprxDeepWrongFalsely : Prop := exprxDeepRow.holds Try.pinned (OpenSpec.ofChange exprxDeepWrong)

/- THE SECOND FORM. 'bulk': how many values and letters a reading holds, each counted each time it is reached (what is shared counts as often as it is met; a slice's spare places count too). A statement '..UptoSaid' is the law's where the arguments, and the package variables that the reading takes, are together of bulk at most 1048576: NARROWER than '..Said'. Prove '..Said' where nothing that the law and all that it calls make is longer than what came in: it says more and counts as full. Else prove '..UptoSaid'. A law counts once. -/
mutual
def uptoBulk {H : Type} : DataW H → Nat
  | .lit (.string bytes) => bytes.length + 1
  | .lit _ => 1
  | .nil => 1
  | .ptr d => uptoBulk d + 1
  | .slice elems spare => uptoBulkAll elems + uptoBulkAll spare + 1
  | .agg parts => uptoBulkAll parts + 1
  | .iface _ d => uptoBulk d + 1
  | .map entries => uptoBulkEntries entries + 1
  | .held _ => 1
def uptoBulkAll {H : Type} : List (DataW H) → Nat
  | [] => 0
  | d :: r => uptoBulk d + uptoBulkAll r
def uptoBulkEntries {H : Type} : List (Lit × DataW H) → Nat
  | [] => 0
  | x :: r => uptoBulkEntry x + uptoBulkEntries r
def uptoBulkEntry {H : Type} : Lit × DataW H → Nat
  | (.string bytes, d) => bytes.length + uptoBulk d + 1
  | (_, d) => uptoBulk d + 1
 end
def uptoSmall : (H : Type) → List (DataW H) → Bool := fun _ ds => decide (uptoBulkAll ds ≤ 1048576)
def OpenSpec.upto (s : _root_.Go.ChangeSpec) : _root_.Go.OpenSpec := { _root_.Go.OpenSpec.ofChange s with cond := some uptoSmall }

/-- 'quoinlaw04.ExprxNames', WHERE WHAT IT READS IS OF BULK AT MOST 1048576: true; the input reads as it did. -/
def exprxNamesUptoRow : OpenClaim := { program := "ytjkdingeicdjoaa", sum := "07fd2f4cad308cb61ff451ca05f23202dcd17379b05caf1ee94ac0887c736897", func := "quoin/quoinlaw04.ExprxNames", spec := "exprxNames", inPlace := ["internal/bytealg.IndexByteString"], unfollowed := true, recurses := true, apart := false, narrowed := true }
def ExprxNamesUptoSaid : Prop := exprxNamesUptoRow.holds Try.pinned (OpenSpec.upto exprxNamesSpec)

/-- 'quoinlaw04.ExprxLies', WHERE WHAT IT READS IS OF BULK AT MOST 1048576: true; the input reads as it did. -/
def exprxLiesUptoRow : OpenClaim := { program := "ytjkdingeicdjoaa", sum := "07fd2f4cad308cb61ff451ca05f23202dcd17379b05caf1ee94ac0887c736897", func := "quoin/quoinlaw04.ExprxLies", spec := "exprxLies", inPlace := ["internal/bytealg.IndexByteString"], unfollowed := true, recurses := true, apart := false, narrowed := true }
def ExprxLiesUptoSaid : Prop := exprxLiesUptoRow.holds Try.pinned (OpenSpec.upto exprxLiesSpec)

/-- 'quoinlaw04.ExprxBrackets', WHERE WHAT IT READS IS OF BULK AT MOST 1048576: true; the input reads as it did. -/
def exprxBracketsUptoRow : OpenClaim := { program := "ytjkdingeicdjoaa", sum := "07fd2f4cad308cb61ff451ca05f23202dcd17379b05caf1ee94ac0887c736897", func := "quoin/quoinlaw04.ExprxBrackets", spec := "exprxBrackets", inPlace := ["internal/bytealg.IndexByteString"], unfollowed := true, recurses := true, apart := false, narrowed := true }
def ExprxBracketsUptoSaid : Prop := exprxBracketsUptoRow.holds Try.pinned (OpenSpec.upto exprxBracketsSpec)

/-- 'quoinlaw04.ExprxDeep', WHERE WHAT IT READS IS OF BULK AT MOST 1048576: true; the input reads as it did. -/
def exprxDeepUptoRow : OpenClaim := { program := "ytjkdingeicdjoaa", sum := "07fd2f4cad308cb61ff451ca05f23202dcd17379b05caf1ee94ac0887c736897", func := "quoin/quoinlaw04.ExprxDeep", spec := "exprxDeep", inPlace := ["internal/bytealg.IndexByteString"], unfollowed := true, recurses := true, apart := false, narrowed := true }
def ExprxDeepUptoSaid : Prop := exprxDeepUptoRow.holds Try.pinned (OpenSpec.upto exprxDeepSpec)

end Rows
end Go.Proofs.Ytjkdingeicdjoaa
