/-
  The statements' own helper: a name's place. Condition: at most a million names.
-/
import Derived.Test.YtgnhcaepkgbieaaNmj
namespace Go.Proofs.Ytgnhcaepkgbieaa
open Go.RowKit

set_option maxRecDepth 100000 in
set_option maxHeartbeats 4000000 in
/-- A name's place in a list. -/
theorem placeL_any (xs : List ByteArray) (o : Option Addr) (n c : Nat) (s : ByteArray) (w : World) (hn : xs.length = n) (h : AtS w o xs) (hl : n ≤ 1000000) :
    Calls Try.prog 21 #[.slice o n c, .string s] w fun e w' => e = .returned (.int .i64 (plN (nms xs) (nm s))) ∧ w' = w := by
  have HX := Lib.hid h
  have HN := Lib.hid hn
  clear h hn
  go_enter Try.func21, Try.ntmps21
  go_wp2
  go_loopw [5] (fun i wr => ∃ j : Nat, i = .int .i64 (j : Nat) ∧ Hid (j ≤ n) ∧ Hid (s ∉ xs.take j) ∧ wr = w) (fun i _ => n - (RowKit.intOf i).toNat)
  case atStart => exact ⟨0, rfl, Nat.zero_le _, by show _ ∉ _; simp, rfl⟩
  case round =>
    obtain ⟨j, rfl, HJ, HS, rfl⟩ := hrel
    by_cases hj : j < n
    · have hj' : ((j : Int) < (n : Int)) := by omega
      have hj0 : (0 : Int) ≤ (j : Int) := by omega
      have hwj := IntWalk.i64_in ((j : Int) + 1) ⟨by omega, by omega⟩
      have hjx : j < xs.length := by have := HN.out; omega
      obtain ⟨a, ho, hc⟩ := HX.out j _ (List.getElem?_eq_getElem hjx)
      subst ho
      have hq := hc
      have ht : xs.take (j + 1) = xs.take j ++ [xs[j]] := by rw [List.take_add_one, List.getElem?_eq_getElem hjx]; rfl
      have HT := Lib.hid ht
      have he := nm_eq xs[j] s
      have hsp : xs = xs.take j ++ xs[j] :: xs.drop (j + 1) := by rw [← List.drop_eq_getElem_cons hjx, List.take_append_drop]
      have HSP := Lib.hid hsp
      have HTL : Hid ((xs.take j).length = j) := by show _ = _; rw [List.length_take]; omega
      have HJN := Lib.hid hj
      clear hc ht hsp
      generalize xs[j] = y at *
      clear hj hjx
      by_cases hy : nm y = nm s
      · rw [decide_eq_true hy] at he
        have HP : Hid (plN (nms xs) (nm s) = (j : Int)) := by
          show _ = _
          rw [HSP.out, ← nm_inj hy, nms_app]
          have h1 : nm y ∉ nms (xs.take j) := fun h => HS.out (nm_inj hy ▸ nms_mem.1 h)
          unfold plN
          have := plG_in (s := nm y) (p := nms (xs.take j)) (q := nms (xs.drop (j + 1))) (i := 0) h1
          rw [show nms (y :: xs.drop (j + 1)) = nm y :: nms (xs.drop (j + 1)) from rfl, this, show (nms (xs.take j)).length = (xs.take j).length by simp [nms], HTL.out]
          omega
        clear hy
        go_wp2
        go_ret
        exact ⟨by rw [HP.out]; rfl, rfl⟩
      · rw [decide_eq_false hy] at he
        have HS2 : Hid (s ∉ xs.take (j + 1)) := by
          show _ ∉ _
          rw [HT.out]
          intro hs
          rcases List.mem_append.1 hs with hs | hs
          · exact HS.out hs
          · exact hy (congrArg nm (List.mem_singleton.1 hs).symm)
        clear hy
        go_wp2
        case roundEnd =>
          have := HJN.out
          exact ⟨⟨j + 1, by push_cast; rfl, by show _ ≤ _; omega, HS2, by first | rfl | trivial⟩, by simp [RowKit.intOf]; omega⟩
    · have hj' : ¬ ((j : Int) < (n : Int)) := by omega
      have hs := HS.out
      rw [List.take_of_length_le (by have := HN.out; omega)] at hs
      have HP : Hid (plN (nms xs) (nm s) = -1) := by
        show _ = _
        unfold plN
        exact plG_out fun h => hs (nms_mem.1 h)
      clear hs
      go_wp2
      go_ret
      exact ⟨by rw [HP.out]; rfl, rfl⟩

/-- Two lists of names, their lengths by letters. -/
theorem sameR_n (xs ys : List ByteArray) (o o' : Option Addr) (n m c c' : Nat) (w : World) (hx : AtS w o xs) (hy : AtS w o' ys) (hn : xs.length = n) (hm : ys.length = m) (hl : n ≤ 1000000) (hl' : m ≤ 1000000) :
    Calls Try.prog 14 #[.slice o n c, .slice o' m c'] w fun e w' => e = .returned (.bool (decide (nms xs = nms ys))) ∧ Below w.heap.size w w' := by
  subst hn
  subst hm
  exact sameR_any xs ys o o' c c' w hx hy hl hl'

end Go.Proofs.Ytgnhcaepkgbieaa
