/-
  NARROWER THAN 'FOR EVERY INPUT', by the rows' own cells (each row's printed sentence says how): InferUnifies: loops · InferCalls: loops · InferBack: loops · InferPlain: loops · InferOnce: loops · InferMore: loops.
  DERIVED. THE GIVEN ROWS OF THIS SEAT. 7 by the template 'for every input the law returns true; each argument reads behind the call as it read before'; 0 by the template 'total and deterministic' (their statements: YtlakmniaocpaaaaTotals.lean).
  GIVEN WITH THE SEED: the statements are not yours to turn. If you find one false, say at which input.
  Laid BY PROGRAM, IN A SANDBOX (cutbox-rows.mjs): the forced cells as the released guide's own fill.sh prints them over the translation 816431b2ab562ca1… (all of the seat's roots in one cut). By AI agents, Wed Nov 11 2026. No macro, syntax, notation, axiom, sorry.
-/
import Derived.Test.YtlakmniaocpaaaaChecked
import GoSem.Claim
import GoSem.ClaimJoined
import GoSem.ClaimMapViews
import Derived.JoinedTies
import Derived.KernelRfl
namespace Go.Proofs.Ytlakmniaocpaaaa
/- THE CELL 'sum', in the pinned program and in every row, IS THE sha256 OF THE DUMP (.gsa) THAT YtlakmniaocpaaaaProg.lean LOADS. Nothing in Lean hashes anything: it is a label: what it is worth is what the hold of that sum in a sandbox is worth. -/
noncomputable def Try.pinned : Pinned := { name := "ytlakmniaocpaaaa", sum := "816431b2ab562ca1c4dbf858e9fec16955fff9fda609bc33cf348ed7938050b9", checked := Try.checked }
namespace Rows
def none {H : Type} : Left H := { results := [], args := [] }

/-- 'quoinlaw12.InferNames': WHATEVER THE INPUT: true; the input reads as it did. -/
def inferNamesSpec : ChangeSpec := { name := "inferNames", fn := fun _ => fun
  | [] => { results := [.lit (.bool true)], args := [] }
  | _ => none }
def inferNamesRow : OpenClaim := { program := "ytlakmniaocpaaaa", sum := "816431b2ab562ca1c4dbf858e9fec16955fff9fda609bc33cf348ed7938050b9", func := "quoin/quoinlaw12.InferNames", spec := "inferNames", unfollowed := true, recurses := true, apart := false }
def InferNamesSaid : Prop := inferNamesRow.holds Try.pinned (OpenSpec.ofChange inferNamesSpec)

/-- ITS FALSE NEIGHBOUR: 'it returns false'. Refute it at one input. -/
def inferNamesWrong : ChangeSpec := { name := "inferNames", fn := fun _ => fun
  | [] => { results := [.lit (.bool false)], args := [] }
  | _ => none }
def InferNamesWrongFalsely : Prop := inferNamesRow.holds Try.pinned (OpenSpec.ofChange inferNamesWrong)

/-- 'quoinlaw12.InferUnifies': WHATEVER THE INPUT: true; the input reads as it did. -/
def inferUnifiesSpec : ChangeSpec := { name := "inferUnifies", fn := fun _ => fun
  | [d1, d2, d3] => { results := [.lit (.bool true)], args := [d1, d2, d3] }
  | _ => none }
def inferUnifiesRow : OpenClaim := { program := "ytlakmniaocpaaaa", sum := "816431b2ab562ca1c4dbf858e9fec16955fff9fda609bc33cf348ed7938050b9", func := "quoin/quoinlaw12.InferUnifies", spec := "inferUnifies", unfollowed := true, recurses := true, loops := true, apart := false }
def InferUnifiesSaid : Prop := inferUnifiesRow.holds Try.pinned (OpenSpec.ofChange inferUnifiesSpec)

/-- ITS FALSE NEIGHBOUR: 'it returns false'. Refute it at one input. -/
def inferUnifiesWrong : ChangeSpec := { name := "inferUnifies", fn := fun _ => fun
  | [d1, d2, d3] => { results := [.lit (.bool false)], args := [d1, d2, d3] }
  | _ => none }
def InferUnifiesWrongFalsely : Prop := inferUnifiesRow.holds Try.pinned (OpenSpec.ofChange inferUnifiesWrong)

/-- 'quoinlaw12.InferCalls': WHATEVER THE INPUT: true; the input reads as it did. -/
def inferCallsSpec : ChangeSpec := { name := "inferCalls", fn := fun _ => fun
  | [d1, d2, d3] => { results := [.lit (.bool true)], args := [d1, d2, d3] }
  | _ => none }
def inferCallsRow : OpenClaim := { program := "ytlakmniaocpaaaa", sum := "816431b2ab562ca1c4dbf858e9fec16955fff9fda609bc33cf348ed7938050b9", func := "quoin/quoinlaw12.InferCalls", spec := "inferCalls", unfollowed := true, recurses := true, loops := true, apart := false }
def InferCallsSaid : Prop := inferCallsRow.holds Try.pinned (OpenSpec.ofChange inferCallsSpec)

/-- ITS FALSE NEIGHBOUR: 'it returns false'. Refute it at one input. -/
def inferCallsWrong : ChangeSpec := { name := "inferCalls", fn := fun _ => fun
  | [d1, d2, d3] => { results := [.lit (.bool false)], args := [d1, d2, d3] }
  | _ => none }
def InferCallsWrongFalsely : Prop := inferCallsRow.holds Try.pinned (OpenSpec.ofChange inferCallsWrong)

/-- 'quoinlaw12.InferBack': WHATEVER THE INPUT: true; the input reads as it did. -/
def inferBackSpec : ChangeSpec := { name := "inferBack", fn := fun _ => fun
  | [d1, d2] => { results := [.lit (.bool true)], args := [d1, d2] }
  | _ => none }
def inferBackRow : OpenClaim := { program := "ytlakmniaocpaaaa", sum := "816431b2ab562ca1c4dbf858e9fec16955fff9fda609bc33cf348ed7938050b9", func := "quoin/quoinlaw12.InferBack", spec := "inferBack", unfollowed := true, recurses := true, loops := true, apart := false }
def InferBackSaid : Prop := inferBackRow.holds Try.pinned (OpenSpec.ofChange inferBackSpec)

/-- ITS FALSE NEIGHBOUR: 'it returns false'. Refute it at one input. -/
def inferBackWrong : ChangeSpec := { name := "inferBack", fn := fun _ => fun
  | [d1, d2] => { results := [.lit (.bool false)], args := [d1, d2] }
  | _ => none }
def InferBackWrongFalsely : Prop := inferBackRow.holds Try.pinned (OpenSpec.ofChange inferBackWrong)

/-- 'quoinlaw12.InferPlain': WHATEVER THE INPUT: true; the input reads as it did. -/
def inferPlainSpec : ChangeSpec := { name := "inferPlain", fn := fun _ => fun
  | [d1, d2, d3] => { results := [.lit (.bool true)], args := [d1, d2, d3] }
  | _ => none }
def inferPlainRow : OpenClaim := { program := "ytlakmniaocpaaaa", sum := "816431b2ab562ca1c4dbf858e9fec16955fff9fda609bc33cf348ed7938050b9", func := "quoin/quoinlaw12.InferPlain", spec := "inferPlain", unfollowed := true, recurses := true, loops := true, apart := false }
def InferPlainSaid : Prop := inferPlainRow.holds Try.pinned (OpenSpec.ofChange inferPlainSpec)

/-- ITS FALSE NEIGHBOUR: 'it returns false'. Refute it at one input. -/
def inferPlainWrong : ChangeSpec := { name := "inferPlain", fn := fun _ => fun
  | [d1, d2, d3] => { results := [.lit (.bool false)], args := [d1, d2, d3] }
  | _ => none }
def InferPlainWrongFalsely : Prop := inferPlainRow.holds Try.pinned (OpenSpec.ofChange inferPlainWrong)

/-- 'quoinlaw12.InferOnce': WHATEVER THE INPUT: true; the input reads as it did. -/
def inferOnceSpec : ChangeSpec := { name := "inferOnce", fn := fun _ => fun
  | [d1, d2, d3] => { results := [.lit (.bool true)], args := [d1, d2, d3] }
  | _ => none }
def inferOnceRow : OpenClaim := { program := "ytlakmniaocpaaaa", sum := "816431b2ab562ca1c4dbf858e9fec16955fff9fda609bc33cf348ed7938050b9", func := "quoin/quoinlaw12.InferOnce", spec := "inferOnce", unfollowed := true, recurses := true, loops := true, apart := false }
def InferOnceSaid : Prop := inferOnceRow.holds Try.pinned (OpenSpec.ofChange inferOnceSpec)

/-- ITS FALSE NEIGHBOUR: 'it returns false'. Refute it at one input. -/
def inferOnceWrong : ChangeSpec := { name := "inferOnce", fn := fun _ => fun
  | [d1, d2, d3] => { results := [.lit (.bool false)], args := [d1, d2, d3] }
  | _ => none }
def InferOnceWrongFalsely : Prop := inferOnceRow.holds Try.pinned (OpenSpec.ofChange inferOnceWrong)

/-- 'quoinlaw12.InferMore': WHATEVER THE INPUT: true; the input reads as it did. -/
def inferMoreSpec : ChangeSpec := { name := "inferMore", fn := fun _ => fun
  | [d1, d2, d3, d4] => { results := [.lit (.bool true)], args := [d1, d2, d3, d4] }
  | _ => none }
def inferMoreRow : OpenClaim := { program := "ytlakmniaocpaaaa", sum := "816431b2ab562ca1c4dbf858e9fec16955fff9fda609bc33cf348ed7938050b9", func := "quoin/quoinlaw12.InferMore", spec := "inferMore", unfollowed := true, recurses := true, loops := true, apart := false }
def InferMoreSaid : Prop := inferMoreRow.holds Try.pinned (OpenSpec.ofChange inferMoreSpec)

/-- ITS FALSE NEIGHBOUR: 'it returns false'. Refute it at one input. -/
def inferMoreWrong : ChangeSpec := { name := "inferMore", fn := fun _ => fun
  | [d1, d2, d3, d4] => { results := [.lit (.bool false)], args := [d1, d2, d3, d4] }
  | _ => none }
def InferMoreWrongFalsely : Prop := inferMoreRow.holds Try.pinned (OpenSpec.ofChange inferMoreWrong)

/- THE SECOND FORM. 'bulk': how many values and letters a reading holds, each counted each time it is reached (what is shared counts as often as it is met; a slice's spare places count too). A statement '..UptoSaid' is the law's where the arguments, and the package variables that the reading takes, are together of bulk at most 1048576: NARROWER than '..Said'. Prove '..Said' where nothing that the law and all that it calls make is longer than what came in: it says more and counts as full. Else prove '..UptoSaid'. A law counts once. -/
mutual
def uptoBulk {H : Type} : DataW H → Nat
  | .lit (.string bytes) => bytes.length + 1
  | .lit _ => 1
  | .nil => 1
  | .ptr d => uptoBulk d + 1
  | .slice elems spare => uptoBulkAll elems + uptoBulkAll spare + 1
  | .agg parts => uptoBulkAll parts + 1
  | .iface _ d => uptoBulk d + 1
  | .map entries => uptoBulkEntries entries + 1
  | .held _ => 1
def uptoBulkAll {H : Type} : List (DataW H) → Nat
  | [] => 0
  | d :: r => uptoBulk d + uptoBulkAll r
def uptoBulkEntries {H : Type} : List (Lit × DataW H) → Nat
  | [] => 0
  | x :: r => uptoBulkEntry x + uptoBulkEntries r
def uptoBulkEntry {H : Type} : Lit × DataW H → Nat
  | (.string bytes, d) => bytes.length + uptoBulk d + 1
  | (_, d) => uptoBulk d + 1
 end
def uptoSmall : (H : Type) → List (DataW H) → Bool := fun _ ds => decide (uptoBulkAll ds ≤ 1048576)
def OpenSpec.upto (s : _root_.Go.ChangeSpec) : _root_.Go.OpenSpec := { _root_.Go.OpenSpec.ofChange s with cond := some uptoSmall }

/-- 'quoinlaw12.InferNames', WHERE WHAT IT READS IS OF BULK AT MOST 1048576: true; the input reads as it did. -/
def inferNamesUptoRow : OpenClaim := { program := "ytlakmniaocpaaaa", sum := "816431b2ab562ca1c4dbf858e9fec16955fff9fda609bc33cf348ed7938050b9", func := "quoin/quoinlaw12.InferNames", spec := "inferNames", unfollowed := true, recurses := true, apart := false, narrowed := true }
def InferNamesUptoSaid : Prop := inferNamesUptoRow.holds Try.pinned (OpenSpec.upto inferNamesSpec)

/-- 'quoinlaw12.InferUnifies', WHERE WHAT IT READS IS OF BULK AT MOST 1048576: true; the input reads as it did. -/
def inferUnifiesUptoRow : OpenClaim := { program := "ytlakmniaocpaaaa", sum := "816431b2ab562ca1c4dbf858e9fec16955fff9fda609bc33cf348ed7938050b9", func := "quoin/quoinlaw12.InferUnifies", spec := "inferUnifies", unfollowed := true, recurses := true, loops := true, apart := false, narrowed := true }
def InferUnifiesUptoSaid : Prop := inferUnifiesUptoRow.holds Try.pinned (OpenSpec.upto inferUnifiesSpec)

/-- 'quoinlaw12.InferCalls', WHERE WHAT IT READS IS OF BULK AT MOST 1048576: true; the input reads as it did. -/
def inferCallsUptoRow : OpenClaim := { program := "ytlakmniaocpaaaa", sum := "816431b2ab562ca1c4dbf858e9fec16955fff9fda609bc33cf348ed7938050b9", func := "quoin/quoinlaw12.InferCalls", spec := "inferCalls", unfollowed := true, recurses := true, loops := true, apart := false, narrowed := true }
def InferCallsUptoSaid : Prop := inferCallsUptoRow.holds Try.pinned (OpenSpec.upto inferCallsSpec)

/-- 'quoinlaw12.InferBack', WHERE WHAT IT READS IS OF BULK AT MOST 1048576: true; the input reads as it did. -/
def inferBackUptoRow : OpenClaim := { program := "ytlakmniaocpaaaa", sum := "816431b2ab562ca1c4dbf858e9fec16955fff9fda609bc33cf348ed7938050b9", func := "quoin/quoinlaw12.InferBack", spec := "inferBack", unfollowed := true, recurses := true, loops := true, apart := false, narrowed := true }
def InferBackUptoSaid : Prop := inferBackUptoRow.holds Try.pinned (OpenSpec.upto inferBackSpec)

/-- 'quoinlaw12.InferPlain', WHERE WHAT IT READS IS OF BULK AT MOST 1048576: true; the input reads as it did. -/
def inferPlainUptoRow : OpenClaim := { program := "ytlakmniaocpaaaa", sum := "816431b2ab562ca1c4dbf858e9fec16955fff9fda609bc33cf348ed7938050b9", func := "quoin/quoinlaw12.InferPlain", spec := "inferPlain", unfollowed := true, recurses := true, loops := true, apart := false, narrowed := true }
def InferPlainUptoSaid : Prop := inferPlainUptoRow.holds Try.pinned (OpenSpec.upto inferPlainSpec)

/-- 'quoinlaw12.InferOnce', WHERE WHAT IT READS IS OF BULK AT MOST 1048576: true; the input reads as it did. -/
def inferOnceUptoRow : OpenClaim := { program := "ytlakmniaocpaaaa", sum := "816431b2ab562ca1c4dbf858e9fec16955fff9fda609bc33cf348ed7938050b9", func := "quoin/quoinlaw12.InferOnce", spec := "inferOnce", unfollowed := true, recurses := true, loops := true, apart := false, narrowed := true }
def InferOnceUptoSaid : Prop := inferOnceUptoRow.holds Try.pinned (OpenSpec.upto inferOnceSpec)

/-- 'quoinlaw12.InferMore', WHERE WHAT IT READS IS OF BULK AT MOST 1048576: true; the input reads as it did. -/
def inferMoreUptoRow : OpenClaim := { program := "ytlakmniaocpaaaa", sum := "816431b2ab562ca1c4dbf858e9fec16955fff9fda609bc33cf348ed7938050b9", func := "quoin/quoinlaw12.InferMore", spec := "inferMore", unfollowed := true, recurses := true, loops := true, apart := false, narrowed := true }
def InferMoreUptoSaid : Prop := inferMoreUptoRow.holds Try.pinned (OpenSpec.upto inferMoreSpec)

end Rows
end Go.Proofs.Ytlakmniaocpaaaa
