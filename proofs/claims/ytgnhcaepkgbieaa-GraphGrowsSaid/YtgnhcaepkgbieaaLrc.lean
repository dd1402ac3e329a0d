/-
  What several statements' walks use. No condition.
-/
import Derived.Test.YtgnhcaepkgbieaaLop
import Derived.BigQuiet
import Derived.Deep.RegionHeld3
namespace Go.Proofs.Ytgnhcaepkgbieaa
open Go.RowKit

theorem undrew' {B : Nat} {w w' : World} (h : Below B w.drew w') : Below B w w' := ⟨h.os, h.tape, h.output, h.size, h.block⟩
theorem names_take (xs : List ND) (j : Nat) : nms ((xs.take j).map (·.name)) = namesN ((xs.map toNd).take j) := by rw [names_nd, List.map_take]
theorem nms_at {l : List ByteArray} {j : Nat} {s : ByteArray} (h : l[j]? = some s) : (nms l)[j]? = some (nm s) := by unfold nms; rw [List.getElem?_map, h]; rfl
theorem nd_at {xs : List ND} {j : Nat} {y : ND} (h : xs[j]? = some y) : (xs.map toNd)[j]? = some (toNd y) := by rw [List.getElem?_map, h]; rfl

end Go.Proofs.Ytgnhcaepkgbieaa
