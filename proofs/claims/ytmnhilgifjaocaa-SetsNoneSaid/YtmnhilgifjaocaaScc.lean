/-
  The first element of a name; what a type is declared to be; whether it is an interface: the program's answers. No condition.
-/
import Derived.Test.YtmnhilgifjaocaaSca
import Derived.Test.YtmnhilgifjaocaaSrd
import Derived.Deep.RegionHeld
namespace Go.Proofs.Ytmnhilgifjaocaa
open Go.RowKit
open Go.Lib hiding intOf

def zeroI : IF := ⟨noB, []⟩
theorem IsIf.zero {w : World} : IsIf w zeroI [.string noB, .slice none 0 0, .slice none 0 0] := ⟨none, none, 0, 0, 0, rfl, Nat.le_refl _, Nat.zero_le _, IsRow.nil⟩
theorem IsFd.zero {w : World} : IsFd w (noB, zeroY) [.string noB, .int .i64 0, .string noB, .string noB, .int .i64 0, .slice none 0 0] := ⟨_, _, _, _, _, rfl, IsY.zero⟩
theorem below3s {B g : Nat} {w V : World} (h : Below B w V) (hg : B ≤ g) (v0 v1 v2 : Value) : Below B w (((V.setCell ⟨g, 0, none⟩ v0).setCell ⟨g, 1, none⟩ v1).setCell ⟨g, 2, none⟩ v2) := ((h.setCell hg v0).setCell hg v1).setCell hg v2
theorem below4s {B g : Nat} {w V : World} (h : Below B w V) (hg : B ≤ g) (v0 v1 v2 v3 : Value) : Below B w ((((V.setCell ⟨g, 0, none⟩ v0).setCell ⟨g, 1, none⟩ v1).setCell ⟨g, 2, none⟩ v2).setCell ⟨g, 3, none⟩ v3) := below4 h hg v0 v1 v2 v3
theorem below6s {B g : Nat} {w V : World} (h : Below B w V) (hg : B ≤ g) (v0 v1 v2 v3 v4 v5 : Value) : Below B w ((((((V.setCell ⟨g, 0, none⟩ v0).setCell ⟨g, 1, none⟩ v1).setCell ⟨g, 2, none⟩ v2).setCell ⟨g, 3, none⟩ v3).setCell ⟨g, 4, none⟩ v4).setCell ⟨g, 5, none⟩ v5) := (below5 h hg v0 v1 v2 v3 v4).setCell hg v5
end Go.Proofs.Ytmnhilgifjaocaa
