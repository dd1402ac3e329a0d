/-
  All's contract, and the document's own, where what is answered has names; what the bound of the second form gives. Condition: none beside the text's length.
-/
import Derived.Test.YtoppknnjnfgbiaaSame
namespace Go.Proofs.Ytoppknnjnfgbiaa
open Go.RowKit
open Go.Lib hiding intOf

theorem all_at (s : ByteArray) (ts : List Tok) (a : Nat) (c : Int) (hl : lexed s.data.toList = (ts, a, c)) (w : World) (hs : s.size ≤ 9223372036854775807) :
    Calls Try.prog 10 #[.string s] w fun e w' => ∃ o cap, e = .returned (.tuple #[.slice o ts.length cap, .agg #[.int .i64 (a : Nat), .int .i64 c]]) ∧ AtToks w' o ts ∧ Below w.heap.size w w' ∧ ts.length ≤ cap :=
  (all_any s w hs).mono fun e w' ⟨v, he, ht, hb⟩ => by
    rw [hl] at he ht
    obtain ⟨o, cap, hv, hle, ht⟩ := ht.at_
    simp only at he ht hv hle
    exact ⟨o, cap, by rw [he, hv], ht, hb, hle⟩

theorem lexed_len {l : List UInt8} {ts : List Tok} {a : Nat} {c : Int} (hl : lexed l = (ts, a, c)) : ts.length ≤ l.length + 1 := by
  have h := pcs_len l.length 0 l
  unfold lexed at hl
  split at hl
  · injection hl with hl _
    rw [← hl]
    unfold toks pcsAt
    rw [List.length_append]; simp only [List.length_cons, List.length_nil]; omega
  · injection hl with hl _
    rw [← hl]; simp

theorem short {H : Type} {s : ByteArray} {r : List (DataW H)} (hk : Rows.uptoSmall H (.lit (.string s.data.toList) :: r) = true) : s.size ≤ 1048576 := by
  have h : Rows.uptoBulkAll (DataW.lit (H := H) (.string s.data.toList) :: r) ≤ 1048576 := of_decide_eq_true hk
  simp only [Rows.uptoBulkAll, Rows.uptoBulk] at h
  have e : s.data.toList.length = s.size := by rw [Array.length_toList]; rfl
  omega

/-- A box of two numbers, made behind a world and still there. -/
theorem box25 {w w1 : World} {x y : Value} (hb : Below (w.alloc (.cells #[x, y] 26)).heap.size (w.alloc (.cells #[x, y] 26)) w1) : w1.cell? ⟨w.heap.size, 0, none⟩ = some x ∧ w1.cell? ⟨w.heap.size, 1, none⟩ = some y :=
  ⟨(hb.cell (p := ⟨w.heap.size, 0, none⟩) (by simp)).trans ((Blk.new w 26 #[x, y]).cell 0), (hb.cell (p := ⟨w.heap.size, 1, none⟩) (by simp)).trans ((Blk.new w 26 #[x, y]).cell 1)⟩

theorem below_box {B : Nat} {a w w1 : World} {o : Obj} (h : Below B a w) (hB : B ≤ w.heap.size) (hb : Below (w.alloc o).heap.size (w.alloc o) w1) : Below B a w1 :=
  (h.alloc hB o).trans (hb.mono (by simp; omega))

end Go.Proofs.Ytoppknnjnfgbiaa
