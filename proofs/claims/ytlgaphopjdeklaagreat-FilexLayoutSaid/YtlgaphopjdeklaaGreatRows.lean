/-
  No cell of these rows narrows 'for every input' (looked for: loops, veiled, ifaces, maps, wideKeys, modest, calm, conditions, laid).
  DERIVED. THE GIVEN ROWS OF THIS SEAT. 4 by the template 'for every input the law returns true; each argument reads behind the call as it read before'; 0 by the template 'total and deterministic' (their statements: YtlgaphopjdeklaaGreatTotals.lean).
  GIVEN WITH THE SEED: the statements are not yours to turn. If you find one false, say at which input.
  Laid BY PROGRAM, IN A SANDBOX (cutbox-rows.mjs): the forced cells as the released guide's own fill.sh prints them over the translation c8828af101334737… (all of the seat's roots in one cut). By AI agents, Wed Nov 11 2026. No macro, syntax, notation, axiom, sorry.
-/
import Derived.Test.YtlgaphopjdeklaaGreatChecked
import GoSem.Claim
import GoSem.ClaimJoined
import GoSem.ClaimMapViews
import Derived.JoinedTies
import Derived.KernelRfl
namespace Go.Proofs.YtlgaphopjdeklaaGreat
/- THE CELL 'sum', in the pinned program and in every row, IS THE sha256 OF THE DUMP (.gsa) THAT YtlgaphopjdeklaaGreatProg.lean LOADS. Nothing in Lean hashes anything: it is a label: what it is worth is what the hold of that sum in a sandbox is worth. -/
noncomputable def Tryz.pinned : Pinned := { name := "ytlgaphopjdeklaagreat", sum := "c8828af101334737dd6897309519c43db4729f25db70bb38251ca57a273f5179", checked := Tryz.checked }
namespace Rows
def none {H : Type} : Left H := { results := [], args := [] }

/-- 'quoinlaw06.FilexNames': WHATEVER THE INPUT: true; the input reads as it did. -/
def filexNamesSpec : ChangeSpec := { name := "filexNames", fn := fun _ => fun
  | [] => { results := [.lit (.bool true)], args := [] }
  | _ => none }
def filexNamesRow : OpenClaim := { program := "ytlgaphopjdeklaagreat", sum := "c8828af101334737dd6897309519c43db4729f25db70bb38251ca57a273f5179", func := "quoin/quoinlaw06.FilexNames", spec := "filexNames", inPlace := ["internal/bytealg.IndexByteString"], unfollowed := true, recurses := true, apart := false }
def FilexNamesSaid : Prop := filexNamesRow.holds Tryz.pinned (OpenSpec.ofChange filexNamesSpec)

/-- ITS FALSE NEIGHBOUR: 'it returns false'. Refute it at one input. -/
def filexNamesWrong : ChangeSpec := { name := "filexNames", fn := fun _ => fun
  | [] => { results := [.lit (.bool false)], args := [] }
  | _ => none }
def FilexNamesWrongFalsely : Prop := filexNamesRow.holds Tryz.pinned (OpenSpec.ofChange filexNamesWrong)

/-- 'quoinlaw06.FilexLies': WHATEVER THE INPUT: true; the input reads as it did. -/
def filexLiesSpec : ChangeSpec := { name := "filexLies", fn := fun _ => fun
  | [d] => { results := [.lit (.bool true)], args := [d] }
  | _ => none }
def filexLiesRow : OpenClaim := { program := "ytlgaphopjdeklaagreat", sum := "c8828af101334737dd6897309519c43db4729f25db70bb38251ca57a273f5179", func := "quoin/quoinlaw06.FilexLies", spec := "filexLies", inPlace := ["internal/bytealg.IndexByteString"], unfollowed := true, recurses := true, apart := false }
def FilexLiesSaid : Prop := filexLiesRow.holds Tryz.pinned (OpenSpec.ofChange filexLiesSpec)

/-- ITS FALSE NEIGHBOUR: 'it returns false'. Refute it at one input. -/
def filexLiesWrong : ChangeSpec := { name := "filexLies", fn := fun _ => fun
  | [d] => { results := [.lit (.bool false)], args := [d] }
  | _ => none }
def FilexLiesWrongFalsely : Prop := filexLiesRow.holds Tryz.pinned (OpenSpec.ofChange filexLiesWrong)

/-- 'quoinlaw06.FilexLayout': WHATEVER THE INPUT: true; the input reads as it did. -/
def filexLayoutSpec : ChangeSpec := { name := "filexLayout", fn := fun _ => fun
  | [d] => { results := [.lit (.bool true)], args := [d] }
  | _ => none }
def filexLayoutRow : OpenClaim := { program := "ytlgaphopjdeklaagreat", sum := "c8828af101334737dd6897309519c43db4729f25db70bb38251ca57a273f5179", func := "quoin/quoinlaw06.FilexLayout", spec := "filexLayout", inPlace := ["internal/bytealg.IndexByteString"], unfollowed := true, recurses := true, apart := false }
def FilexLayoutSaid : Prop := filexLayoutRow.holds Tryz.pinned (OpenSpec.ofChange filexLayoutSpec)

/-- ITS FALSE NEIGHBOUR: 'it returns false'. Refute it at one input. -/
def filexLayoutWrong : ChangeSpec := { name := "filexLayout", fn := fun _ => fun
  | [d] => { results := [.lit (.bool false)], args := [d] }
  | _ => none }
def FilexLayoutWrongFalsely : Prop := filexLayoutRow.holds Tryz.pinned (OpenSpec.ofChange filexLayoutWrong)

/-- 'quoinlaw06.FilexMore': WHATEVER THE INPUT: true; the input reads as it did. -/
def filexMoreSpec : ChangeSpec := { name := "filexMore", fn := fun _ => fun
  | [d1, d2] => { results := [.lit (.bool true)], args := [d1, d2] }
  | _ => none }
def filexMoreRow : OpenClaim := { program := "ytlgaphopjdeklaagreat", sum := "c8828af101334737dd6897309519c43db4729f25db70bb38251ca57a273f5179", func := "quoin/quoinlaw06.FilexMore", spec := "filexMore", inPlace := ["internal/bytealg.IndexByteString"], unfollowed := true, recurses := true, apart := false }
def FilexMoreSaid : Prop := filexMoreRow.holds Tryz.pinned (OpenSpec.ofChange filexMoreSpec)

/-- ITS FALSE NEIGHBOUR: 'it returns false'. Refute it at one input. -/
def filexMoreWrong : ChangeSpec := { name := "filexMore", fn := fun _ => fun
  | [d1, d2] => { results := [.lit (.bool false)], args := [d1, d2] }
  | _ => none }
def FilexMoreWrongFalsely : Prop := filexMoreRow.holds Tryz.pinned (OpenSpec.ofChange filexMoreWrong)

/- THE SECOND FORM. 'bulk': how many values and letters a reading holds, each counted each time it is reached (what is shared counts as often as it is met; a slice's spare places count too). A statement '..UptoSaid' is the law's where the arguments, and the package variables that the reading takes, are together of bulk at most 1048576: NARROWER than '..Said'. Prove '..Said' where nothing that the law and all that it calls make is longer than what came in: it says more and counts as full. Else prove '..UptoSaid'. A law counts once. -/
mutual
def uptoBulk {H : Type} : DataW H → Nat
  | .lit (.string bytes) => bytes.length + 1
  | .lit _ => 1
  | .nil => 1
  | .ptr d => uptoBulk d + 1
  | .slice elems spare => uptoBulkAll elems + uptoBulkAll spare + 1
  | .agg parts => uptoBulkAll parts + 1
  | .iface _ d => uptoBulk d + 1
  | .map entries => uptoBulkEntries entries + 1
  | .held _ => 1
def uptoBulkAll {H : Type} : List (DataW H) → Nat
  | [] => 0
  | d :: r => uptoBulk d + uptoBulkAll r
def uptoBulkEntries {H : Type} : List (Lit × DataW H) → Nat
  | [] => 0
  | x :: r => uptoBulkEntry x + uptoBulkEntries r
def uptoBulkEntry {H : Type} : Lit × DataW H → Nat
  | (.string bytes, d) => bytes.length + uptoBulk d + 1
  | (_, d) => uptoBulk d + 1
 end
def uptoSmall : (H : Type) → List (DataW H) → Bool := fun _ ds => decide (uptoBulkAll ds ≤ 1048576)
def OpenSpec.upto (s : _root_.Go.ChangeSpec) : _root_.Go.OpenSpec := { _root_.Go.OpenSpec.ofChange s with cond := some uptoSmall }

/-- 'quoinlaw06.FilexNames', WHERE WHAT IT READS IS OF BULK AT MOST 1048576: true; the input reads as it did. -/
def filexNamesUptoRow : OpenClaim := { program := "ytlgaphopjdeklaagreat", sum := "c8828af101334737dd6897309519c43db4729f25db70bb38251ca57a273f5179", func := "quoin/quoinlaw06.FilexNames", spec := "filexNames", inPlace := ["internal/bytealg.IndexByteString"], unfollowed := true, recurses := true, apart := false, narrowed := true }
def FilexNamesUptoSaid : Prop := filexNamesUptoRow.holds Tryz.pinned (OpenSpec.upto filexNamesSpec)

/-- 'quoinlaw06.FilexLies', WHERE WHAT IT READS IS OF BULK AT MOST 1048576: true; the input reads as it did. -/
def filexLiesUptoRow : OpenClaim := { program := "ytlgaphopjdeklaagreat", sum := "c8828af101334737dd6897309519c43db4729f25db70bb38251ca57a273f5179", func := "quoin/quoinlaw06.FilexLies", spec := "filexLies", inPlace := ["internal/bytealg.IndexByteString"], unfollowed := true, recurses := true, apart := false, narrowed := true }
def FilexLiesUptoSaid : Prop := filexLiesUptoRow.holds Tryz.pinned (OpenSpec.upto filexLiesSpec)

/-- 'quoinlaw06.FilexLayout', WHERE WHAT IT READS IS OF BULK AT MOST 1048576: true; the input reads as it did. -/
def filexLayoutUptoRow : OpenClaim := { program := "ytlgaphopjdeklaagreat", sum := "c8828af101334737dd6897309519c43db4729f25db70bb38251ca57a273f5179", func := "quoin/quoinlaw06.FilexLayout", spec := "filexLayout", inPlace := ["internal/bytealg.IndexByteString"], unfollowed := true, recurses := true, apart := false, narrowed := true }
def FilexLayoutUptoSaid : Prop := filexLayoutUptoRow.holds Tryz.pinned (OpenSpec.upto filexLayoutSpec)

/-- 'quoinlaw06.FilexMore', WHERE WHAT IT READS IS OF BULK AT MOST 1048576: true; the input reads as it did. -/
def filexMoreUptoRow : OpenClaim := { program := "ytlgaphopjdeklaagreat", sum := "c8828af101334737dd6897309519c43db4729f25db70bb38251ca57a273f5179", func := "quoin/quoinlaw06.FilexMore", spec := "filexMore", inPlace := ["internal/bytealg.IndexByteString"], unfollowed := true, recurses := true, apart := false, narrowed := true }
def FilexMoreUptoSaid : Prop := filexMoreUptoRow.holds Tryz.pinned (OpenSpec.upto filexMoreSpec)

end Rows
end Go.Proofs.YtlgaphopjdeklaaGreat
