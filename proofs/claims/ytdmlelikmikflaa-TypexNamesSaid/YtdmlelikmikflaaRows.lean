/-
  No cell of these rows narrows 'for every input' (looked for: loops, veiled, ifaces, maps, wideKeys, modest, calm, conditions, laid).
  DERIVED. THE GIVEN ROWS OF THIS SEAT. 5 by the template 'for every input the law returns true; each argument reads behind the call as it read before'; 0 by the template 'total and deterministic' (their statements: YtdmlelikmikflaaTotals.lean).
  GIVEN WITH THE SEED: the statements are not yours to turn. If you find one false, say at which input.
  Laid BY PROGRAM, IN A SANDBOX (cutbox-rows.mjs): the forced cells as the released guide's own fill.sh prints them over the translation 9c280c5d684f2073… (all of the seat's roots in one cut). By AI agents, Wed Nov 11 2026. No macro, syntax, notation, axiom, sorry.
-/
import Derived.Test.YtdmlelikmikflaaChecked
import GoSem.Claim
import GoSem.ClaimJoined
import GoSem.ClaimMapViews
import Derived.JoinedTies
import Derived.KernelRfl
namespace Go.Proofs.Ytdmlelikmikflaa
/- THE CELL 'sum', in the pinned program and in every row, IS THE sha256 OF THE DUMP (.gsa) THAT YtdmlelikmikflaaProg.lean LOADS. Nothing in Lean hashes anything: it is a label: what it is worth is what the hold of that sum in a sandbox is worth. -/
noncomputable def Try.pinned : Pinned := { name := "ytdmlelikmikflaa", sum := "9c280c5d684f20736c15be21eea60deb5e1ba2a94d04e9fc71de32c6ffa42438", checked := Try.checked }
namespace Rows
def none {H : Type} : Left H := { results := [], args := [] }

/-- 'quoinlaw03.TypexNames': WHATEVER THE INPUT: true; the input reads as it did. -/
def typexNamesSpec : ChangeSpec := { name := "typexNames", fn := fun _ => fun
  | [] => { results := [.lit (.bool true)], args := [] }
  | _ => none }
def typexNamesRow : OpenClaim := { program := "ytdmlelikmikflaa", sum := "9c280c5d684f20736c15be21eea60deb5e1ba2a94d04e9fc71de32c6ffa42438", func := "quoin/quoinlaw03.TypexNames", spec := "typexNames", inPlace := ["internal/bytealg.IndexByteString"], unfollowed := true, recurses := true, apart := false }
def TypexNamesSaid : Prop := typexNamesRow.holds Try.pinned (OpenSpec.ofChange typexNamesSpec)

/-- ITS FALSE NEIGHBOUR: 'it returns false'. Refute it at one input. -/
def typexNamesWrong : ChangeSpec := { name := "typexNames", fn := fun _ => fun
  | [] => { results := [.lit (.bool false)], args := [] }
  | _ => none }
def TypexNamesWrongFalsely : Prop := typexNamesRow.holds Try.pinned (OpenSpec.ofChange typexNamesWrong)

/-- 'quoinlaw03.TypexReads': WHATEVER THE INPUT: true; the input reads as it did. -/
def typexReadsSpec : ChangeSpec := { name := "typexReads", fn := fun _ => fun
  | [d1, d2] => { results := [.lit (.bool true)], args := [d1, d2] }
  | _ => none }
def typexReadsRow : OpenClaim := { program := "ytdmlelikmikflaa", sum := "9c280c5d684f20736c15be21eea60deb5e1ba2a94d04e9fc71de32c6ffa42438", func := "quoin/quoinlaw03.TypexReads", spec := "typexReads", inPlace := ["internal/bytealg.IndexByteString"], unfollowed := true, recurses := true, apart := false }
def TypexReadsSaid : Prop := typexReadsRow.holds Try.pinned (OpenSpec.ofChange typexReadsSpec)

/-- ITS FALSE NEIGHBOUR: 'it returns false'. Refute it at one input. -/
def typexReadsWrong : ChangeSpec := { name := "typexReads", fn := fun _ => fun
  | [d1, d2] => { results := [.lit (.bool false)], args := [d1, d2] }
  | _ => none }
def TypexReadsWrongFalsely : Prop := typexReadsRow.holds Try.pinned (OpenSpec.ofChange typexReadsWrong)

/-- 'quoinlaw03.TypexTexts': WHATEVER THE INPUT: true; the input reads as it did. -/
def typexTextsSpec : ChangeSpec := { name := "typexTexts", fn := fun _ => fun
  | [d] => { results := [.lit (.bool true)], args := [d] }
  | _ => none }
def typexTextsRow : OpenClaim := { program := "ytdmlelikmikflaa", sum := "9c280c5d684f20736c15be21eea60deb5e1ba2a94d04e9fc71de32c6ffa42438", func := "quoin/quoinlaw03.TypexTexts", spec := "typexTexts", inPlace := ["internal/bytealg.IndexByteString"], unfollowed := true, recurses := true, apart := false }
def TypexTextsSaid : Prop := typexTextsRow.holds Try.pinned (OpenSpec.ofChange typexTextsSpec)

/-- ITS FALSE NEIGHBOUR: 'it returns false'. Refute it at one input. -/
def typexTextsWrong : ChangeSpec := { name := "typexTexts", fn := fun _ => fun
  | [d] => { results := [.lit (.bool false)], args := [d] }
  | _ => none }
def TypexTextsWrongFalsely : Prop := typexTextsRow.holds Try.pinned (OpenSpec.ofChange typexTextsWrong)

/-- 'quoinlaw03.TypexBehind': WHATEVER THE INPUT: true; the input reads as it did. -/
def typexBehindSpec : ChangeSpec := { name := "typexBehind", fn := fun _ => fun
  | [d1, d2, d3] => { results := [.lit (.bool true)], args := [d1, d2, d3] }
  | _ => none }
def typexBehindRow : OpenClaim := { program := "ytdmlelikmikflaa", sum := "9c280c5d684f20736c15be21eea60deb5e1ba2a94d04e9fc71de32c6ffa42438", func := "quoin/quoinlaw03.TypexBehind", spec := "typexBehind", inPlace := ["internal/bytealg.IndexByteString"], unfollowed := true, recurses := true, apart := false }
def TypexBehindSaid : Prop := typexBehindRow.holds Try.pinned (OpenSpec.ofChange typexBehindSpec)

/-- ITS FALSE NEIGHBOUR: 'it returns false'. Refute it at one input. -/
def typexBehindWrong : ChangeSpec := { name := "typexBehind", fn := fun _ => fun
  | [d1, d2, d3] => { results := [.lit (.bool false)], args := [d1, d2, d3] }
  | _ => none }
def TypexBehindWrongFalsely : Prop := typexBehindRow.holds Try.pinned (OpenSpec.ofChange typexBehindWrong)

/-- 'quoinlaw03.TypexDeep': WHATEVER THE INPUT: true; the input reads as it did. -/
def typexDeepSpec : ChangeSpec := { name := "typexDeep", fn := fun _ => fun
  | [d] => { results := [.lit (.bool true)], args := [d] }
  | _ => none }
def typexDeepRow : OpenClaim := { program := "ytdmlelikmikflaa", sum := "9c280c5d684f20736c15be21eea60deb5e1ba2a94d04e9fc71de32c6ffa42438", func := "quoin/quoinlaw03.TypexDeep", spec := "typexDeep", inPlace := ["internal/bytealg.IndexByteString"], unfollowed := true, recurses := true, apart := false }
def TypexDeepSaid : Prop := typexDeepRow.holds Try.pinned (OpenSpec.ofChange typexDeepSpec)

/-- ITS FALSE NEIGHBOUR: 'it returns false'. Refute it at one input. -/
def typexDeepWrong : ChangeSpec := { name := "typexDeep", fn := fun _ => fun
  | [d] => { results := [.lit (.bool false)], args := [d] }
  | _ => none }
def TypexDeepWrongFalsely : Prop := typexDeepRow.holds Try.pinned (OpenSpec.ofChange typexDeepWrong)

/- THE SECOND FORM. 'bulk': how many values and letters a reading holds, each counted each time it is reached (what is shared counts as often as it is met; a slice's spare places count too). A statement '..UptoSaid' is the law's where the arguments, and the package variables that the reading takes, are together of bulk at most 1048576: NARROWER than '..Said'. Prove '..Said' where nothing that the law and all that it calls make is longer than what came in: it says more and counts as full. Else prove '..UptoSaid'. A law counts once. -/
mutual
def uptoBulk {H : Type} : DataW H → Nat
  | .lit (.string bytes) => bytes.length + 1
  | .lit _ => 1
  | .nil => 1
  | .ptr d => uptoBulk d + 1
  | .slice elems spare => uptoBulkAll elems + uptoBulkAll spare + 1
  | .agg parts => uptoBulkAll parts + 1
  | .iface _ d => uptoBulk d + 1
  | .map entries => uptoBulkEntries entries + 1
  | .held _ => 1
def uptoBulkAll {H : Type} : List (DataW H) → Nat
  | [] => 0
  | d :: r => uptoBulk d + uptoBulkAll r
def uptoBulkEntries {H : Type} : List (Lit × DataW H) → Nat
  | [] => 0
  | x :: r => uptoBulkEntry x + uptoBulkEntries r
def uptoBulkEntry {H : Type} : Lit × DataW H → Nat
  | (.string bytes, d) => bytes.length + uptoBulk d + 1
  | (_, d) => uptoBulk d + 1
 end
def uptoSmall : (H : Type) → List (DataW H) → Bool := fun _ ds => decide (uptoBulkAll ds ≤ 1048576)
def OpenSpec.upto (s : _root_.Go.ChangeSpec) : _root_.Go.OpenSpec := { _root_.Go.OpenSpec.ofChange s with cond := some uptoSmall }

/-- 'quoinlaw03.TypexNames', WHERE WHAT IT READS IS OF BULK AT MOST 1048576: true; the input reads as it did. -/
def typexNamesUptoRow : OpenClaim := { program := "ytdmlelikmikflaa", sum := "9c280c5d684f20736c15be21eea60deb5e1ba2a94d04e9fc71de32c6ffa42438", func := "quoin/quoinlaw03.TypexNames", spec := "typexNames", inPlace := ["internal/bytealg.IndexByteString"], unfollowed := true, recurses := true, apart := false, narrowed := true }
def TypexNamesUptoSaid : Prop := typexNamesUptoRow.holds Try.pinned (OpenSpec.upto typexNamesSpec)

/-- 'quoinlaw03.TypexReads', WHERE WHAT IT READS IS OF BULK AT MOST 1048576: true; the input reads as it did. -/
def typexReadsUptoRow : OpenClaim := { program := "ytdmlelikmikflaa", sum := "9c280c5d684f20736c15be21eea60deb5e1ba2a94d04e9fc71de32c6ffa42438", func := "quoin/quoinlaw03.TypexReads", spec := "typexReads", inPlace := ["internal/bytealg.IndexByteString"], unfollowed := true, recurses := true, apart := false, narrowed := true }
def TypexReadsUptoSaid : Prop := typexReadsUptoRow.holds Try.pinned (OpenSpec.upto typexReadsSpec)

/-- 'quoinlaw03.TypexTexts', WHERE WHAT IT READS IS OF BULK AT MOST 1048576: true; the input reads as it did. -/
def typexTextsUptoRow : OpenClaim := { program := "ytdmlelikmikflaa", sum := "9c280c5d684f20736c15be21eea60deb5e1ba2a94d04e9fc71de32c6ffa42438", func := "quoin/quoinlaw03.TypexTexts", spec := "typexTexts", inPlace := ["internal/bytealg.IndexByteString"], unfollowed := true, recurses := true, apart := false, narrowed := true }
def TypexTextsUptoSaid : Prop := typexTextsUptoRow.holds Try.pinned (OpenSpec.upto typexTextsSpec)

/-- 'quoinlaw03.TypexBehind', WHERE WHAT IT READS IS OF BULK AT MOST 1048576: true; the input reads as it did. -/
def typexBehindUptoRow : OpenClaim := { program := "ytdmlelikmikflaa", sum := "9c280c5d684f20736c15be21eea60deb5e1ba2a94d04e9fc71de32c6ffa42438", func := "quoin/quoinlaw03.TypexBehind", spec := "typexBehind", inPlace := ["internal/bytealg.IndexByteString"], unfollowed := true, recurses := true, apart := false, narrowed := true }
def TypexBehindUptoSaid : Prop := typexBehindUptoRow.holds Try.pinned (OpenSpec.upto typexBehindSpec)

/-- 'quoinlaw03.TypexDeep', WHERE WHAT IT READS IS OF BULK AT MOST 1048576: true; the input reads as it did. -/
def typexDeepUptoRow : OpenClaim := { program := "ytdmlelikmikflaa", sum := "9c280c5d684f20736c15be21eea60deb5e1ba2a94d04e9fc71de32c6ffa42438", func := "quoin/quoinlaw03.TypexDeep", spec := "typexDeep", inPlace := ["internal/bytealg.IndexByteString"], unfollowed := true, recurses := true, apart := false, narrowed := true }
def TypexDeepUptoSaid : Prop := typexDeepUptoRow.holds Try.pinned (OpenSpec.upto typexDeepSpec)

end Rows
end Go.Proofs.Ytdmlelikmikflaa
