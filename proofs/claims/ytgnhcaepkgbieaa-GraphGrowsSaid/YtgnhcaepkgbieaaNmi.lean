/-
  The document's own list of who uses a package. Condition: at most some hundred thousand packages.
-/
import Derived.Test.YtgnhcaepkgbieaaNmh
namespace Go.Proofs.Ytgnhcaepkgbieaa
open Go.RowKit

set_option maxRecDepth 100000 in
set_option maxHeartbeats 8000000 in
/-- Who uses. -/
theorem usersR_any (xs : List ND) (o : Option Addr) (c : Nat) (s : ByteArray) (w : World) (h : AtD w o xs) (hl : xs.length ≤ 800000) :
    Calls Try.prog 20 #[.slice o xs.length c, .string s] w fun e w' => ∃ (R : List ByteArray) (o' : Option Addr) (n c' : Nat), e = .returned (.slice o' n c') ∧ R.length = n ∧ nms R = usersF (xs.map toNd) (nm s) ∧ n ≤ xs.length ∧ AtS w' o' R ∧ Below w.heap.size w w' := by
  have HN := Lib.hid (nodesR_any xs o c w h hl)
  clear h
  go_enter Try.func20, Try.ntmps20
  go_wp2_with fail
  refine HN.out.mono ?_
  rintro e w1 ⟨L, o1, n1, c1, rfl, hL, hF, hle, hown, hLies, hB⟩
  have HB2 := Lib.hid hB
  have hat := own_nodes hown hL hLies
  obtain ⟨ys, hys⟩ : ∃ ys, ys = L.map (·.1) := ⟨_, rfl⟩
  have hyl : ys.length = n1 := by rw [hys, List.length_map, hL]
  have hyf : ys.map toNd = firstsN (xs.map toNd) := by rw [← hF, hys, List.map_map]; rfl
  rw [← hys] at hat
  have HY2 := Lib.hid hat
  have HYL := Lib.hid hyl
  have HYF := Lib.hid hyf
  have hn1 : n1 ≤ 800000 := by omega
  have HLE := Lib.hid hle
  clear hown hLies hat hys hyl hyf hL hF hle hB HN
  go_wp2_with fail
  go_loopw [5, 6] (fun v i wr => ∃ (j : Nat) (R : List ByteArray) (o' : Option Addr) (n cap : Nat), v = .slice o' n cap ∧ i = .int .i64 (j : Nat) ∧ Hid (R.length = n) ∧ Hid (n ≤ j) ∧ Hid (j ≤ n1) ∧ Hid (nms R = keepF (fun n => decide (nm s ∈ n.imps)) ((ys.take j).map toNd) []) ∧ Hid (AtS wr o' R) ∧ Hid (Below w1.heap.size w1 wr)) (fun _ i _ => n1 - (RowKit.intOf i).toNat)
  case atStart => exact ⟨0, [], none, 0, 0, rfl, rfl, by show _ = _; rfl, Nat.le_refl _, Nat.zero_le _, by show _ = _; rfl, AtS.nil _ _, Below.refl _ _⟩
  case round =>
    obtain ⟨j, R, o', n, cap, rfl, rfl, HRN, HNJ, HJ, HK, HR, HB⟩ := hrel
    have HYY := Lib.hid (HY2.out.below HB.out)
    by_cases hj : j < n1
    · have hj' : ((j : Int) < (n1 : Int)) := by omega
      have hj0 : (0 : Int) ≤ (j : Int) := by omega
      have hj1 : (j : Int) + 1 ≤ 9223372036854775807 := by omega
      have hj2 : -9223372036854775808 ≤ (j : Int) + 1 := by omega
      have hjy : j < ys.length := by have := HYL.out; omega
      obtain ⟨a, oi, ci, ho, hc, hi, hil, his⟩ := HYY.out j _ (List.getElem?_eq_getElem hjy)
      subst ho
      have HT : Hid ((ys.take (j + 1)).map toNd = (ys.take j).map toNd ++ [toNd ys[j]]) := by
        show _ = _
        rw [List.take_add_one, List.getElem?_eq_getElem hjy, Option.toList_some, List.map_append]
        rfl
      generalize ys[j] = y at *
      have HH := Lib.hid (hasR_any y.imps oi ci s wr his (by omega))
      have HW := Lib.hid (by
        have := withR_any R o' cap y.name wr HR.out (by have := HRN.out; have := HNJ.out; omega)
        rw [HRN.out] at this
        exact this)
      clear his hil
      go_wp2_with fail
      refine HH.out.mono ?_
      rintro e w3 ⟨rfl, hw⟩
      have hw' := hw.symm
      subst hw'
      clear hw HH
      have hio : (toNd y).imps = nms y.imps := rfl
      by_cases hin : nm s ∈ nms y.imps
      · have HK3 : Hid (nms (withB R y.name) = keepF (fun n => decide (nm s ∈ n.imps)) ((ys.take (j + 1)).map toNd) []) := by
          show _ = _
          rw [HT.out, keepF_snoc, hio, if_pos (decide_eq_true hin), ← HK.out, withB_nm]
          rfl
        rw [decide_eq_true hin]
        clear hin hio
        go_wp2_with fail
        refine HW.out.mono ?_
        rintro e w8 ⟨o8, c8, n8, rfl, h8, hrow, hB⟩
        have HB8 := Lib.hid (HB.out.trans (hB.mono HB.out.size))
        have HR8 := Lib.hid (own_names_n hrow h8)
        have HL8 := Lib.hid h8
        have HN8 : Hid (n8 ≤ j + 1) := by
          have h1 := withB_len R y.name
          have h2 := HRN.out
          have h3 := HNJ.out
          show _ ≤ _
          omega
        clear hrow hB h8
        go_wp2
        case roundEnd => exact ⟨⟨j + 1, withB R y.name, o8, n8, c8, rfl, by push_cast; rfl, HL8, HN8, by show _ ≤ _; omega, HK3, HR8, HB8⟩, by simp [RowKit.intOf]; omega⟩
      · have HK3 : Hid (nms R = keepF (fun n => decide (nm s ∈ n.imps)) ((ys.take (j + 1)).map toNd) []) := by
          show _ = _
          rw [HT.out, keepF_snoc, hio, if_neg (by rw [decide_eq_true_eq]; exact hin), ← HK.out]
        rw [decide_eq_false hin]
        clear hin hio
        go_wp2
        case roundEnd => exact ⟨⟨j + 1, R, o', n, cap, rfl, by push_cast; rfl, HRN, by have := HNJ.out; show _ ≤ _; omega, by show _ ≤ _; omega, HK3, HR, HB⟩, by simp [RowKit.intOf]; omega⟩
    · have hj' : ¬ ((j : Int) < (n1 : Int)) := by omega
      have hle := HJ.out
      obtain rfl : j = n1 := by omega
      have hk := HK.out
      rw [List.take_of_length_le (by rw [HYL.out]; omega), HYF.out] at hk
      have HK2 := Lib.hid hk
      clear hk hle
      go_wp2
      go_ret
      exact ⟨R, o', n, ⟨cap, rfl⟩, HRN.out, HK2.out, by have := HNJ.out; have := HLE.out; omega, HR.out, HB2.out.trans (HB.out.mono HB2.out.size)⟩

end Go.Proofs.Ytgnhcaepkgbieaa
