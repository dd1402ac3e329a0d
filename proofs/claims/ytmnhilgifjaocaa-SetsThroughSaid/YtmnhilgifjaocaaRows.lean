/-
  NARROWER THAN 'FOR EVERY INPUT', by the rows' own cells (each row's printed sentence says how): SetsTells: loops · SetsFits: loops · SetsThrough: loops · SetsNone: loops · SetsSides: loops · SetsMore: loops.
  DERIVED. THE GIVEN ROWS OF THIS SEAT. 6 by the template 'for every input the law returns true; each argument reads behind the call as it read before'; 0 by the template 'total and deterministic' (their statements: YtmnhilgifjaocaaTotals.lean).
  GIVEN WITH THE SEED: the statements are not yours to turn. If you find one false, say at which input.
  Laid BY PROGRAM, IN A SANDBOX (cutbox-rows.mjs): the forced cells as the released guide's own fill.sh prints them over the translation 5de93078291cf7f8… (all of the seat's roots in one cut). By AI agents, Wed Nov 11 2026. No macro, syntax, notation, axiom, sorry.
-/
import Derived.Test.YtmnhilgifjaocaaChecked
import GoSem.Claim
import GoSem.ClaimJoined
import GoSem.ClaimMapViews
import Derived.JoinedTies
import Derived.KernelRfl
namespace Go.Proofs.Ytmnhilgifjaocaa
/- THE CELL 'sum', in the pinned program and in every row, IS THE sha256 OF THE DUMP (.gsa) THAT YtmnhilgifjaocaaProg.lean LOADS. Nothing in Lean hashes anything: it is a label: what it is worth is what the hold of that sum in a sandbox is worth. -/
noncomputable def Try.pinned : Pinned := { name := "ytmnhilgifjaocaa", sum := "5de93078291cf7f8067bc6196b776ba16320abead4a8fae3c701f0f41c0e23eb", checked := Try.checked }
namespace Rows
def none {H : Type} : Left H := { results := [], args := [] }

/-- 'quoinlaw11.SetsTells': WHATEVER THE INPUT: true; the input reads as it did. -/
def setsTellsSpec : ChangeSpec := { name := "setsTells", fn := fun _ => fun
  | [d1, d2, d3] => { results := [.lit (.bool true)], args := [d1, d2, d3] }
  | _ => none }
def setsTellsRow : OpenClaim := { program := "ytmnhilgifjaocaa", sum := "5de93078291cf7f8067bc6196b776ba16320abead4a8fae3c701f0f41c0e23eb", func := "quoin/quoinlaw11.SetsTells", spec := "setsTells", unfollowed := true, recurses := true, loops := true, apart := false }
def SetsTellsSaid : Prop := setsTellsRow.holds Try.pinned (OpenSpec.ofChange setsTellsSpec)

/-- ITS FALSE NEIGHBOUR: 'it returns false'. Refute it at one input. -/
def setsTellsWrong : ChangeSpec := { name := "setsTells", fn := fun _ => fun
  | [d1, d2, d3] => { results := [.lit (.bool false)], args := [d1, d2, d3] }
  | _ => none }
def SetsTellsWrongFalsely : Prop := setsTellsRow.holds Try.pinned (OpenSpec.ofChange setsTellsWrong)

/-- 'quoinlaw11.SetsFits': WHATEVER THE INPUT: true; the input reads as it did. -/
def setsFitsSpec : ChangeSpec := { name := "setsFits", fn := fun _ => fun
  | [d1, d2, d3] => { results := [.lit (.bool true)], args := [d1, d2, d3] }
  | _ => none }
def setsFitsRow : OpenClaim := { program := "ytmnhilgifjaocaa", sum := "5de93078291cf7f8067bc6196b776ba16320abead4a8fae3c701f0f41c0e23eb", func := "quoin/quoinlaw11.SetsFits", spec := "setsFits", unfollowed := true, recurses := true, loops := true, apart := false }
def SetsFitsSaid : Prop := setsFitsRow.holds Try.pinned (OpenSpec.ofChange setsFitsSpec)

/-- ITS FALSE NEIGHBOUR: 'it returns false'. Refute it at one input. -/
def setsFitsWrong : ChangeSpec := { name := "setsFits", fn := fun _ => fun
  | [d1, d2, d3] => { results := [.lit (.bool false)], args := [d1, d2, d3] }
  | _ => none }
def SetsFitsWrongFalsely : Prop := setsFitsRow.holds Try.pinned (OpenSpec.ofChange setsFitsWrong)

/-- 'quoinlaw11.SetsThrough': WHATEVER THE INPUT: true; the input reads as it did. -/
def setsThroughSpec : ChangeSpec := { name := "setsThrough", fn := fun _ => fun
  | [d1, d2, d3, d4] => { results := [.lit (.bool true)], args := [d1, d2, d3, d4] }
  | _ => none }
def setsThroughRow : OpenClaim := { program := "ytmnhilgifjaocaa", sum := "5de93078291cf7f8067bc6196b776ba16320abead4a8fae3c701f0f41c0e23eb", func := "quoin/quoinlaw11.SetsThrough", spec := "setsThrough", unfollowed := true, recurses := true, loops := true, apart := false }
def SetsThroughSaid : Prop := setsThroughRow.holds Try.pinned (OpenSpec.ofChange setsThroughSpec)

/-- ITS FALSE NEIGHBOUR: 'it returns false'. Refute it at one input. -/
def setsThroughWrong : ChangeSpec := { name := "setsThrough", fn := fun _ => fun
  | [d1, d2, d3, d4] => { results := [.lit (.bool false)], args := [d1, d2, d3, d4] }
  | _ => none }
def SetsThroughWrongFalsely : Prop := setsThroughRow.holds Try.pinned (OpenSpec.ofChange setsThroughWrong)

/-- 'quoinlaw11.SetsNone': WHATEVER THE INPUT: true; the input reads as it did. -/
def setsNoneSpec : ChangeSpec := { name := "setsNone", fn := fun _ => fun
  | [d1, d2, d3] => { results := [.lit (.bool true)], args := [d1, d2, d3] }
  | _ => none }
def setsNoneRow : OpenClaim := { program := "ytmnhilgifjaocaa", sum := "5de93078291cf7f8067bc6196b776ba16320abead4a8fae3c701f0f41c0e23eb", func := "quoin/quoinlaw11.SetsNone", spec := "setsNone", unfollowed := true, recurses := true, loops := true, apart := false }
def SetsNoneSaid : Prop := setsNoneRow.holds Try.pinned (OpenSpec.ofChange setsNoneSpec)

/-- ITS FALSE NEIGHBOUR: 'it returns false'. Refute it at one input. -/
def setsNoneWrong : ChangeSpec := { name := "setsNone", fn := fun _ => fun
  | [d1, d2, d3] => { results := [.lit (.bool false)], args := [d1, d2, d3] }
  | _ => none }
def SetsNoneWrongFalsely : Prop := setsNoneRow.holds Try.pinned (OpenSpec.ofChange setsNoneWrong)

/-- 'quoinlaw11.SetsSides': WHATEVER THE INPUT: true; the input reads as it did. -/
def setsSidesSpec : ChangeSpec := { name := "setsSides", fn := fun _ => fun
  | [d1, d2] => { results := [.lit (.bool true)], args := [d1, d2] }
  | _ => none }
def setsSidesRow : OpenClaim := { program := "ytmnhilgifjaocaa", sum := "5de93078291cf7f8067bc6196b776ba16320abead4a8fae3c701f0f41c0e23eb", func := "quoin/quoinlaw11.SetsSides", spec := "setsSides", unfollowed := true, recurses := true, loops := true, apart := false }
def SetsSidesSaid : Prop := setsSidesRow.holds Try.pinned (OpenSpec.ofChange setsSidesSpec)

/-- ITS FALSE NEIGHBOUR: 'it returns false'. Refute it at one input. -/
def setsSidesWrong : ChangeSpec := { name := "setsSides", fn := fun _ => fun
  | [d1, d2] => { results := [.lit (.bool false)], args := [d1, d2] }
  | _ => none }
def SetsSidesWrongFalsely : Prop := setsSidesRow.holds Try.pinned (OpenSpec.ofChange setsSidesWrong)

/-- 'quoinlaw11.SetsMore': WHATEVER THE INPUT: true; the input reads as it did. -/
def setsMoreSpec : ChangeSpec := { name := "setsMore", fn := fun _ => fun
  | [d1, d2, d3, d4] => { results := [.lit (.bool true)], args := [d1, d2, d3, d4] }
  | _ => none }
def setsMoreRow : OpenClaim := { program := "ytmnhilgifjaocaa", sum := "5de93078291cf7f8067bc6196b776ba16320abead4a8fae3c701f0f41c0e23eb", func := "quoin/quoinlaw11.SetsMore", spec := "setsMore", unfollowed := true, recurses := true, loops := true, apart := false }
def SetsMoreSaid : Prop := setsMoreRow.holds Try.pinned (OpenSpec.ofChange setsMoreSpec)

/-- ITS FALSE NEIGHBOUR: 'it returns false'. Refute it at one input. -/
def setsMoreWrong : ChangeSpec := { name := "setsMore", fn := fun _ => fun
  | [d1, d2, d3, d4] => { results := [.lit (.bool false)], args := [d1, d2, d3, d4] }
  | _ => none }
def SetsMoreWrongFalsely : Prop := setsMoreRow.holds Try.pinned (OpenSpec.ofChange setsMoreWrong)

/- THE SECOND FORM. 'bulk': how many values and letters a reading holds, each counted each time it is reached (what is shared counts as often as it is met; a slice's spare places count too). A statement '..UptoSaid' is the law's where the arguments, and the package variables that the reading takes, are together of bulk at most 1048576: NARROWER than '..Said'. Prove '..Said' where nothing that the law and all that it calls make is longer than what came in: it says more and counts as full. Else prove '..UptoSaid'. A law counts once. -/
mutual
def uptoBulk {H : Type} : DataW H → Nat
  | .lit (.string bytes) => bytes.length + 1
  | .lit _ => 1
  | .nil => 1
  | .ptr d => uptoBulk d + 1
  | .slice elems spare => uptoBulkAll elems + uptoBulkAll spare + 1
  | .agg parts => uptoBulkAll parts + 1
  | .iface _ d => uptoBulk d + 1
  | .map entries => uptoBulkEntries entries + 1
  | .held _ => 1
def uptoBulkAll {H : Type} : List (DataW H) → Nat
  | [] => 0
  | d :: r => uptoBulk d + uptoBulkAll r
def uptoBulkEntries {H : Type} : List (Lit × DataW H) → Nat
  | [] => 0
  | x :: r => uptoBulkEntry x + uptoBulkEntries r
def uptoBulkEntry {H : Type} : Lit × DataW H → Nat
  | (.string bytes, d) => bytes.length + uptoBulk d + 1
  | (_, d) => uptoBulk d + 1
 end
def uptoSmall : (H : Type) → List (DataW H) → Bool := fun _ ds => decide (uptoBulkAll ds ≤ 1048576)
def OpenSpec.upto (s : _root_.Go.ChangeSpec) : _root_.Go.OpenSpec := { _root_.Go.OpenSpec.ofChange s with cond := some uptoSmall }

/-- 'quoinlaw11.SetsTells', WHERE WHAT IT READS IS OF BULK AT MOST 1048576: true; the input reads as it did. -/
def setsTellsUptoRow : OpenClaim := { program := "ytmnhilgifjaocaa", sum := "5de93078291cf7f8067bc6196b776ba16320abead4a8fae3c701f0f41c0e23eb", func := "quoin/quoinlaw11.SetsTells", spec := "setsTells", unfollowed := true, recurses := true, loops := true, apart := false, narrowed := true }
def SetsTellsUptoSaid : Prop := setsTellsUptoRow.holds Try.pinned (OpenSpec.upto setsTellsSpec)

/-- 'quoinlaw11.SetsFits', WHERE WHAT IT READS IS OF BULK AT MOST 1048576: true; the input reads as it did. -/
def setsFitsUptoRow : OpenClaim := { program := "ytmnhilgifjaocaa", sum := "5de93078291cf7f8067bc6196b776ba16320abead4a8fae3c701f0f41c0e23eb", func := "quoin/quoinlaw11.SetsFits", spec := "setsFits", unfollowed := true, recurses := true, loops := true, apart := false, narrowed := true }
def SetsFitsUptoSaid : Prop := setsFitsUptoRow.holds Try.pinned (OpenSpec.upto setsFitsSpec)

/-- 'quoinlaw11.SetsThrough', WHERE WHAT IT READS IS OF BULK AT MOST 1048576: true; the input reads as it did. -/
def setsThroughUptoRow : OpenClaim := { program := "ytmnhilgifjaocaa", sum := "5de93078291cf7f8067bc6196b776ba16320abead4a8fae3c701f0f41c0e23eb", func := "quoin/quoinlaw11.SetsThrough", spec := "setsThrough", unfollowed := true, recurses := true, loops := true, apart := false, narrowed := true }
def SetsThroughUptoSaid : Prop := setsThroughUptoRow.holds Try.pinned (OpenSpec.upto setsThroughSpec)

/-- 'quoinlaw11.SetsNone', WHERE WHAT IT READS IS OF BULK AT MOST 1048576: true; the input reads as it did. -/
def setsNoneUptoRow : OpenClaim := { program := "ytmnhilgifjaocaa", sum := "5de93078291cf7f8067bc6196b776ba16320abead4a8fae3c701f0f41c0e23eb", func := "quoin/quoinlaw11.SetsNone", spec := "setsNone", unfollowed := true, recurses := true, loops := true, apart := false, narrowed := true }
def SetsNoneUptoSaid : Prop := setsNoneUptoRow.holds Try.pinned (OpenSpec.upto setsNoneSpec)

/-- 'quoinlaw11.SetsSides', WHERE WHAT IT READS IS OF BULK AT MOST 1048576: true; the input reads as it did. -/
def setsSidesUptoRow : OpenClaim := { program := "ytmnhilgifjaocaa", sum := "5de93078291cf7f8067bc6196b776ba16320abead4a8fae3c701f0f41c0e23eb", func := "quoin/quoinlaw11.SetsSides", spec := "setsSides", unfollowed := true, recurses := true, loops := true, apart := false, narrowed := true }
def SetsSidesUptoSaid : Prop := setsSidesUptoRow.holds Try.pinned (OpenSpec.upto setsSidesSpec)

/-- 'quoinlaw11.SetsMore', WHERE WHAT IT READS IS OF BULK AT MOST 1048576: true; the input reads as it did. -/
def setsMoreUptoRow : OpenClaim := { program := "ytmnhilgifjaocaa", sum := "5de93078291cf7f8067bc6196b776ba16320abead4a8fae3c701f0f41c0e23eb", func := "quoin/quoinlaw11.SetsMore", spec := "setsMore", unfollowed := true, recurses := true, loops := true, apart := false, narrowed := true }
def SetsMoreUptoSaid : Prop := setsMoreUptoRow.holds Try.pinned (OpenSpec.upto setsMoreSpec)

end Rows
end Go.Proofs.Ytmnhilgifjaocaa
