/-
  What the bound of the second form gives: a text that comes in first has at most 1,048,576 bytes. No other condition.
-/
import Derived.Test.YtakjajpacilnaaaRows
namespace Go.Proofs.Ytakjajpacilnaaa

theorem short {H : Type} {s : ByteArray} {r : List (DataW H)} (hk : Rows.uptoSmall H (.lit (.string s.data.toList) :: r) = true) : s.size ≤ 1048576 := by
  have h : Rows.uptoBulkAll (DataW.lit (H := H) (.string s.data.toList) :: r) ≤ 1048576 := of_decide_eq_true hk
  simp only [Rows.uptoBulkAll, Rows.uptoBulk] at h
  have e : s.data.toList.length = s.size := by rw [Array.length_toList]; rfl
  omega

end Go.Proofs.Ytakjajpacilnaaa
