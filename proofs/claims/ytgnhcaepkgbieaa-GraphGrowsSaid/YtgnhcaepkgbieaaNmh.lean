/-
  The document's own list of who is ready. Condition: at most some hundred thousand packages.
-/
import Derived.Test.YtgnhcaepkgbieaaNmg
namespace Go.Proofs.Ytgnhcaepkgbieaa
open Go.RowKit

theorem keepF_snoc (t : Nd → Bool) (l : List Nd) (n : Nd) (out : List Nm) : keepF t (l ++ [n]) out = if t n then withF (keepF t l out) n.name else keepF t l out := by
  unfold keepF
  rw [List.foldl_append]
  rfl
/-- What an import tells. -/
def impB (all done : List Nm) (b : ByteArray) : Bool := !decide (nm b ∈ all) || decide (nm b ∈ done)
theorem rdyB_nd (all done : List Nm) (n : ND) : rdyB all done (toNd n) = (!decide (nm n.name ∈ done) && n.imps.all (impB all done)) := by
  unfold rdyB toNd nms
  rw [List.all_map]
  rfl
theorem all_take {α : Type} (p : α → Bool) (l : List α) (k : Nat) (h : (l.take k).all p = false) : l.all p = false := by
  rw [← List.take_append_drop k l, List.all_append, h, Bool.false_and]

theorem bfold_true (s : ByteArray) : ∀ (l : List ByteArray) (st : List ByteArray × Bool), st.2 = true → (l.foldl (bstep s) st).2 = true
  | [], st, h => h
  | a :: r, st, h => by
    rw [List.foldl_cons]
    refine bfold_true s r _ ?_
    unfold bstep
    split
    · rfl
    · exact h
theorem bfold_false (s : ByteArray) : ∀ (l : List ByteArray) (st : List ByteArray × Bool), (l.foldl (bstep s) st).2 = false → (l.foldl (bstep s) st).1.length = st.1.length + l.length
  | [], st, _ => by simp
  | a :: r, st, h => by
    rw [List.foldl_cons] at h ⊢
    rw [bfold_false s r _ h]
    cases hb : (bstep s st a).2 with
    | true => rw [bfold_true s r _ hb] at h; cases h
    | false =>
      unfold bstep at hb ⊢
      split at hb
      · cases hb
      · next hc =>
        rw [if_neg hc]
        simp only [List.length_append, List.length_cons, List.length_nil]
        omega
theorem withB_len (l : List ByteArray) (s : ByteArray) : (withB l s).length ≤ l.length + 1 := by
  unfold withB
  simp only
  split
  · have := (bfold_len s l ([], decide (nm s ∈ nms l))).1
    simp only [List.length_nil] at this
    omega
  · next h =>
    have := bfold_false s l ([], decide (nm s ∈ nms l)) (by simpa using h)
    simp only [List.length_nil] at this
    simp only [List.length_append, List.length_cons, List.length_nil]
    omega
set_option maxRecDepth 100000 in
set_option maxHeartbeats 8000000 in
/-- Who is ready. -/
theorem readyR_any (xs : List ND) (o : Option Addr) (c : Nat) (ds : List ByteArray) (od : Option Addr) (cd : Nat) (w : World) (h : AtD w o xs) (hd : AtS w od ds) (hl : xs.length ≤ 800000) (hdl : ds.length ≤ 800000) :
    Calls Try.prog 18 #[.slice o xs.length c, .slice od ds.length cd] w fun e w' => ∃ (R : List ByteArray) (o' : Option Addr) (n c' : Nat), e = .returned (.slice o' n c') ∧ R.length = n ∧ nms R = readyF (xs.map toNd) (nms ds) ∧ n ≤ xs.length ∧ AtS w' o' R ∧ Below w.heap.size w w' := by
  have HD := Lib.hid hd
  have HN := Lib.hid (nodesR_any xs o c w h hl)
  clear h hd
  go_enter Try.func18, Try.ntmps18
  go_wp2_with fail
  refine HN.out.mono ?_
  rintro e w1 ⟨L, o1, n1, c1, rfl, hL, hF, hle, hown, hLies, hB⟩
  have HB1 := Lib.hid hB
  have hat := own_nodes hown hL hLies
  obtain ⟨ys, hys⟩ : ∃ ys, ys = L.map (·.1) := ⟨_, rfl⟩
  have hyl : ys.length = n1 := by rw [hys, List.length_map, hL]
  have hyf : ys.map toNd = firstsN (xs.map toNd) := by rw [← hF, hys, List.map_map]; rfl
  rw [← hys] at hat
  have HY := Lib.hid hat
  have HYL := Lib.hid hyl
  have HYF := Lib.hid hyf
  have hn1 : n1 ≤ 800000 := by omega
  have HM := Lib.hid (by
    have := namesR_any ys o1 c1 w1 hat (by omega)
    rw [hyl] at this
    exact this)
  have HLE := Lib.hid hle
  clear hown hLies hat hys hyl hyf hL hF hle hB HN
  go_wp2_with fail
  refine HM.out.mono ?_
  rintro e w2 ⟨o2, c2, rfl, hrow, hB⟩
  have HB2 := Lib.hid (HB1.out.trans (hB.mono HB1.out.size))
  have HY2 := Lib.hid (HY.out.below hB)
  have HS2 := Lib.hid (own_names_n hrow (by rw [List.length_map]; exact HYL.out))
  have HAL := Lib.hid (names_nd ys)
  have HSL : Hid ((ys.map (·.name)).length = n1) := by show _ = _; rw [List.length_map]; exact HYL.out
  clear hB hrow HM HY HB1
  generalize ys.map (·.name) = ns at *
  go_wp2_with fail
  go_loopw [6, 7] (fun v i wr => ∃ (j : Nat) (R : List ByteArray) (o' : Option Addr) (n cap : Nat), v = .slice o' n cap ∧ i = .int .i64 (j : Nat) ∧ Hid (R.length = n) ∧ Hid (n ≤ j) ∧ Hid (j ≤ n1) ∧ Hid (nms R = keepF (rdyB (nms ns) (nms ds)) ((ys.take j).map toNd) []) ∧ Hid (AtS wr o' R) ∧ Hid (Below w2.heap.size w2 wr)) (fun _ i _ => n1 - (RowKit.intOf i).toNat)
  case atStart => exact ⟨0, [], none, 0, 0, rfl, rfl, by show _ = _; rfl, Nat.le_refl _, Nat.zero_le _, by show _ = _; rfl, AtS.nil _ _, Below.refl _ _⟩
  case round =>
    obtain ⟨j, R, o', n, cap, rfl, rfl, HRN, HNJ, HJ, HK, HR, HB⟩ := hrel
    have HS := Lib.hid (HS2.out.below HB.out)
    have HDD := Lib.hid (HD.out.below (HB2.out.trans (HB.out.mono HB2.out.size)))
    have HYY := Lib.hid (HY2.out.below HB.out)
    by_cases hj : j < n1
    · have hj' : ((j : Int) < (n1 : Int)) := by omega
      have hj0 : (0 : Int) ≤ (j : Int) := by omega
      have hj1 : (j : Int) + 1 ≤ 9223372036854775807 := by omega
      have hj2 : -9223372036854775808 ≤ (j : Int) + 1 := by omega
      have hjy : j < ys.length := by have := HYL.out; omega
      obtain ⟨a, oi, ci, ho, hc, hi, hil, his⟩ := HYY.out j _ (List.getElem?_eq_getElem hjy)
      subst ho
      have HT : Hid ((ys.take (j + 1)).map toNd = (ys.take j).map toNd ++ [toNd ys[j]]) := by
        show _ = _
        rw [List.take_add_one, List.getElem?_eq_getElem hjy, Option.toList_some, List.map_append]
        rfl
      have HIS := Lib.hid his
      have HIL := Lib.hid hil
      generalize ys[j] = y at *
      have HH := Lib.hid (hasR_any ds od cd y.name wr HDD.out (by omega))
      have HHI := Lib.hid (fun (b : ByteArray) => And.intro (by
        have := hasR_any ns o2 c2 b wr HS.out (by have := HSL.out; omega)
        rw [HSL.out] at this
        exact this) (hasR_any ds od cd b wr HDD.out (by omega)))
      have HW := Lib.hid (by
        have := withR_any R o' cap y.name wr HR.out (by have := HRN.out; have := HNJ.out; omega)
        rw [HRN.out] at this
        exact this)
      clear his hil
      go_wp2_with fail
      refine HH.out.mono ?_
      rintro e w3 ⟨rfl, hw⟩
      have hw' := hw.symm
      subst hw'
      clear hw HH
      go_wp2_with fail
      obtain ⟨w5, rfl⟩ : ∃ w5, w5 = wr := ⟨wr, rfl⟩
      go_loopw [8, 9] (fun u k wx => ∃ (m : Nat) (b : Bool), u = .bool b ∧ k = .int .i64 (m : Nat) ∧ Hid (m ≤ y.imps.length) ∧ Hid (b = (!decide (nm y.name ∈ nms ds) && (y.imps.take m).all (impB (nms ns) (nms ds)))) ∧ wx = w5) (fun _ k _ => y.imps.length - (RowKit.intOf k).toNat)
      case atStart => exact ⟨0, _, rfl, rfl, Nat.zero_le _, by show _ = _; simp, rfl⟩
      case round =>
        obtain ⟨m, b, rfl, rfl, HMM, HBB, rfl⟩ := hrel
        by_cases hm : m < y.imps.length
        · have hm' : ((m : Int) < (y.imps.length : Int)) := by omega
          cases b with
          | false =>
            have hall : rdyB (nms ns) (nms ds) (toNd y) = false := by
              rw [rdyB_nd]
              have := HBB.out
              cases hd : (!decide (nm y.name ∈ nms ds)) with
              | false => rfl
              | true => rw [hd, Bool.true_and] at this; rw [Bool.true_and]; exact all_take _ _ _ this.symm
            have HK3 : Hid (nms R = keepF (rdyB (nms ns) (nms ds)) ((ys.take (j + 1)).map toNd) []) := by
              show _ = _
              rw [HT.out, keepF_snoc, hall, ← HK.out]
              rfl
            clear hall
            go_wp2
            case roundEnd => exact ⟨⟨j + 1, R, o', n, cap, rfl, by push_cast; rfl, HRN, by have := HNJ.out; show _ ≤ _; omega, by show _ ≤ _; omega, HK3, HR, HB⟩, by simp [RowKit.intOf]; omega⟩
          | true =>
            have hm0 : (0 : Int) ≤ (m : Int) := by omega
            have hil := HIL.out
            have hm1 : (m : Int) + 1 ≤ 9223372036854775807 := by omega
            have hm2 : -9223372036854775808 ≤ (m : Int) + 1 := by omega
            obtain ⟨ai, hoi, hci⟩ := HIS.out m _ (List.getElem?_eq_getElem hm)
            subst hoi
            have HTI : Hid ((y.imps.take (m + 1)).all (impB (nms ns) (nms ds)) = ((y.imps.take m).all (impB (nms ns) (nms ds)) && impB (nms ns) (nms ds) y.imps[m])) := by
              show _ = _
              rw [List.take_add_one, List.getElem?_eq_getElem hm, Option.toList_some, List.all_append]
              simp
            generalize y.imps[m] = z at *
            have HZ := Lib.hid (HHI.out z)
            have HB4 : ∀ q : Bool, impB (nms ns) (nms ds) z = q → Hid (q = (!decide (nm y.name ∈ nms ds) && (y.imps.take (m + 1)).all (impB (nms ns) (nms ds)))) := fun q hq => by
              show _ = _
              rw [HTI.out, hq]
              have := HBB.out
              rw [← Bool.and_assoc, ← this, Bool.true_and]
            have HB5 := Lib.hid HB4
            clear HB4 hil
            go_wp2_with fail
            refine HZ.out.1.mono ?_
            rintro e w6 ⟨rfl, hw⟩
            have hw' := hw.symm
            subst hw'
            clear hw
            by_cases h1 : nm z ∈ nms ns
            · rw [decide_eq_true h1]
              go_wp2_with fail
              refine HZ.out.2.mono ?_
              rintro e w7 ⟨rfl, hw⟩
              have hw' := hw.symm
              subst hw'
              clear hw
              have HQ := HB5.out (decide (nm z ∈ nms ds)) (by unfold impB; rw [decide_eq_true h1]; rfl)
              clear h1
              go_wp2
              case roundEnd => exact ⟨⟨m + 1, _, rfl, by push_cast; rfl, by show _ ≤ _; omega, HQ, by first | rfl | trivial⟩, by simp [RowKit.intOf]; omega⟩
            · rw [decide_eq_false h1]
              have HQ := HB5.out true (by unfold impB; rw [decide_eq_false h1]; rfl)
              clear h1
              go_wp2
              case roundEnd => exact ⟨⟨m + 1, true, rfl, by push_cast; rfl, by show _ ≤ _; omega, HQ, by first | rfl | trivial⟩, by simp [RowKit.intOf]; omega⟩
        · have hm' : ¬ ((m : Int) < (y.imps.length : Int)) := by omega
          have hbb := HBB.out
          rw [List.take_of_length_le (by omega), ← rdyB_nd] at hbb
          have HBR := Lib.hid hbb
          clear hbb
          cases b with
          | false =>
            have HK3 : Hid (nms R = keepF (rdyB (nms ns) (nms ds)) ((ys.take (j + 1)).map toNd) []) := by
              show _ = _
              rw [HT.out, keepF_snoc, ← HBR.out, ← HK.out]
              rfl
            go_wp2
            case roundEnd => exact ⟨⟨j + 1, R, o', n, cap, rfl, by push_cast; rfl, HRN, by have := HNJ.out; show _ ≤ _; omega, by show _ ≤ _; omega, HK3, HR, HB⟩, by simp [RowKit.intOf]; omega⟩
          | true =>
            have HK3 : Hid (nms (withB R y.name) = keepF (rdyB (nms ns) (nms ds)) ((ys.take (j + 1)).map toNd) []) := by
              show _ = _
              rw [HT.out, keepF_snoc, ← HBR.out, ← HK.out, withB_nm]
              rfl
            go_wp2_with fail
            refine HW.out.mono ?_
            rintro e w8 ⟨o8, c8, n8, rfl, h8, hrow, hB⟩
            have HB8 := Lib.hid (HB.out.trans (hB.mono HB.out.size))
            have HR8 := Lib.hid (own_names_n hrow h8)
            have HL8 := Lib.hid h8
            have HN8 : Hid (n8 ≤ j + 1) := by
              have h1 := withB_len R y.name
              have h2 := HRN.out
              have h3 := HNJ.out
              show _ ≤ _
              omega
            clear hrow hB h8
            go_wp2
            case roundEnd => exact ⟨⟨j + 1, withB R y.name, o8, n8, c8, rfl, by push_cast; rfl, HL8, HN8, by show _ ≤ _; omega, HK3, HR8, HB8⟩, by simp [RowKit.intOf]; omega⟩
    · have hj' : ¬ ((j : Int) < (n1 : Int)) := by omega
      have hle := HJ.out
      obtain rfl : j = n1 := by omega
      have hk := HK.out
      rw [List.take_of_length_le (by rw [HYL.out]; omega), HAL.out, HYF.out] at hk
      have HK2 := Lib.hid hk
      clear hk hle
      go_wp2
      go_ret
      exact ⟨R, o', n, ⟨cap, rfl⟩, HRN.out, HK2.out, by have := HNJ.out; have := HLE.out; omega, HR.out, HB2.out.trans (HB.out.mono HB2.out.size)⟩

end Go.Proofs.Ytgnhcaepkgbieaa
