/-
  The document's own imports of a package, in memory. Condition: at most a thousand packages.
-/
import Derived.Test.YtgnhcaepkgbieaaNmk
namespace Go.Proofs.Ytgnhcaepkgbieaa
open Go.RowKit

theorem impF_snoc (all bs : List Nm) (b : Nm) (out : List Nm) : impF all (bs ++ [b]) out = if b ∈ all then withF (impF all bs out) b else impF all bs out := by
  unfold impF
  rw [List.foldl_append]
  rfl
theorem imsG_snoc (all : List Nm) (a : Nm) (l : List Nd) (n : Nd) (out : List Nm) : imsG all a (l ++ [n]) out = if n.name = a then impF all n.imps (imsG all a l out) else imsG all a l out := by
  unfold imsG
  rw [List.foldl_append]
  rfl
/-- A rising list of names out of others has no more. -/
theorem srt_le {s all : List Nm} (h : Srt s) (hs : ∀ x ∈ s, x ∈ all) : s.length ≤ all.length := (all_in h.nodup hs).1
theorem ims_srt (all : List Nm) (a : Nm) (l : List Nd) (bs : List Nm) : Srt (impF all bs (imsG all a l [])) ∧ ∀ x ∈ impF all bs (imsG all a l []), x ∈ all := by
  obtain ⟨h1, h2⟩ := imsG_is all a l [] trivial
  obtain ⟨g1, g2⟩ := impF_is all bs _ h1
  refine ⟨g1, fun x hx => ?_⟩
  rcases (g2 x).1 hx with h | h
  · rcases (h2 x).1 h with h | ⟨n, _, _, _, h⟩
    · simp at h
    · exact h
  · exact h.2
theorem ims_srt0 (all : List Nm) (a : Nm) (l : List Nd) : Srt (imsG all a l []) ∧ ∀ x ∈ imsG all a l [], x ∈ all := by
  have := ims_srt all a l []
  simpa [impF] using this
theorem nms_len (l : List ByteArray) : (nms l).length = l.length := List.length_map ..

theorem row_low {w : World} {b0 base n : Nat} {e : TypeId} {v : Value} {xs : List Value} (h : w.ownsRow base e 1 v n xs) (hb : b0 ≤ base) : w.ownsRow b0 e 1 v n xs := by
  refine ⟨h.1, ?_⟩
  rcases h.2 with h1 | ⟨g, cap, cur, hv, hg, h2⟩
  · exact .inl h1
  · exact .inr ⟨g, cap, cur, hv, Nat.le_trans hb hg, h2⟩
theorem withO {ws : List ByteArray} {o : Option Addr} {n c : Nat} {s : ByteArray} {w : World} (hn : ws.length = n) (h : AtS w o ws) (hl : n ≤ 900000) :
    Calls Try.prog 29 #[.slice o n c, .string s] w fun e w' => ∃ (o' : Option Addr) (c' n' : Nat), e = .returned (.slice o' n' c') ∧ (withB ws s).length = n' ∧ w'.ownsRow w.heap.size 9 1 (.slice o' n' c') n' (sC (withB ws s)) ∧ Below w.heap.size w w' := by
  subst hn
  exact withR_any ws o c s w h hl

set_option maxRecDepth 100000 in
set_option maxHeartbeats 8000000 in
/-- Imports of a name. -/
theorem importsR_any {xs : List ND} {o : Option Addr} {m c : Nat} {s : ByteArray} {w : World} (hm : xs.length = m) (h : AtD w o xs) (hl : m ≤ 1000) :
    Calls Try.prog 47 #[.slice o m c, .string s] w fun e w' => ∃ (V : List ByteArray) (o1 : Option Addr) (n1 c1 : Nat), e = .returned (.slice o1 n1 c1) ∧ V.length = n1 ∧ n1 ≤ m ∧ nms V = imsF (xs.map toNd) (nm s) ∧ w'.ownsRow w.heap.size 9 1 (.slice o1 n1 c1) n1 (sC V) ∧ Below w.heap.size w w' := by
  have HX := Lib.hid h
  have HM := Lib.hid hm
  have HNA := Lib.hid (namesT (c := c) hm h (by omega))
  clear h hm
  go_enter Try.func47, Try.ntmps47
  go_wp2_with fail
  refine HNA.out.mono ?_
  rintro e w1 ⟨o5, c5, rfl, hAt, hln, hB⟩
  have HNS := Lib.hid hAt
  have HNL := Lib.hid hln
  have HB1 := Lib.hid hB
  have HX1 := Lib.hid (HX.out.below hB)
  have HALL : Hid (nms (xs.map (·.name)) = namesN (xs.map toNd)) := names_nd xs
  clear hAt hln hB HNA HX
  generalize xs.map (·.name) = ns at *
  go_wp2_with fail
  go_loopw [6, 7] (fun v i wr => ∃ (j : Nat) (V : List ByteArray) (ov : Option Addr) (nv cv : Nat), v = .slice ov nv cv ∧ i = .int .i64 (j : Nat) ∧ Hid (V.length = nv) ∧ Hid (j ≤ m) ∧ Hid (nms V = imsG (nms ns) (nm s) ((xs.take j).map toNd) []) ∧ Hid (wr.ownsRow w1.heap.size 9 1 (.slice ov nv cv) nv (sC V)) ∧ Hid (Below w1.heap.size w1 wr)) (fun _ i _ => m - (RowKit.intOf i).toNat)
  case atStart => exact ⟨0, [], none, 0, 0, rfl, rfl, rfl, Nat.zero_le _, by show _ = _; rfl, World.ownsRow_nil _ _ _ _, Below.refl _ _⟩
  case round =>
    obtain ⟨j, V, ov, nv, cv, rfl, rfl, HVL, HJ, HV, HR, HB⟩ := hrel
    by_cases hj : j < m
    · have hj' : ((j : Int) < (m : Int)) := by omega
      have hj0 : (0 : Int) ≤ (j : Int) := by omega
      have hwj := IntWalk.i64_in ((j : Int) + 1) ⟨by omega, by omega⟩
      have hjx : j < xs.length := by have := HM.out; omega
      obtain ⟨a, oi, ci, ho, hcn, hci, hik, his⟩ := HX1.out j _ (List.getElem?_eq_getElem hjx)
      subst ho
      have HT : Hid ((xs.take (j + 1)).map toNd = (xs.take j).map toNd ++ [toNd xs[j]]) := by
        show _ = _
        rw [List.take_add_one, List.getElem?_eq_getElem hjx, Option.toList_some, List.map_append]
        rfl
      have HCN := Lib.hid hcn
      have HCI := Lib.hid hci
      have HIS := Lib.hid his
      have HJM := Lib.hid hj
      have q0 := (HB.out.cell (World.block_lt_of_cell? _ _ hcn)).trans hcn
      have q1 := (HB.out.cell (World.block_lt_of_cell? _ _ hci)).trans hci
      clear hcn hci his hj
      generalize xs[j] = y at *
      clear hjx
      have he := nm_eq y.name s
      generalize hK : y.imps.length = K at *
      have HK := Lib.hid hK
      have HIK := Lib.hid hik
      clear hK hik
      by_cases hn : nm y.name = nm s
      · have HT2 : Hid (imsG (nms ns) (nm s) ((xs.take (j + 1)).map toNd) [] = impF (nms ns) (nms y.imps) (imsG (nms ns) (nm s) ((xs.take j).map toNd) [])) := by
          show _ = _
          rw [HT.out, imsG_snoc]
          exact if_pos hn
        rw [decide_eq_true hn] at he
        clear hn HT
        go_wp2_with fail
        clear q0 q1
        go_loopw [6, 8] (fun v i wx => ∃ (k : Nat) (V : List ByteArray) (ov : Option Addr) (nv cv : Nat), v = .slice ov nv cv ∧ i = .int .i64 (k : Nat) ∧ Hid (V.length = nv) ∧ Hid (k ≤ K) ∧ Hid (nms V = impF (nms ns) (nms (y.imps.take k)) (imsG (nms ns) (nm s) ((xs.take j).map toNd) [])) ∧ Hid (wx.ownsRow w1.heap.size 9 1 (.slice ov nv cv) nv (sC V)) ∧ Hid (Below w1.heap.size w1 wx)) (fun _ i _ => K - (RowKit.intOf i).toNat)
        case atStart => exact ⟨0, V, ov, nv, cv, rfl, rfl, HVL, Nat.zero_le _, by show _ = _; exact HV.out, HR, HB⟩
        case round =>
          clear HV HVL HR HB
          obtain ⟨k, V, ov, nv, cv, rfl, rfl, HVL, HKK, HV, HR, HB⟩ := hrel
          have q0 := (HB.out.cell (World.block_lt_of_cell? _ _ HCN.out)).trans HCN.out
          have q1 := (HB.out.cell (World.block_lt_of_cell? _ _ HCI.out)).trans HCI.out
          by_cases hk : k < K
          · have hk' : ((k : Int) < (K : Int)) := by omega
            have hk0 : (0 : Int) ≤ (k : Int) := by omega
            have hwk := IntWalk.i64_in ((k : Int) + 1) ⟨by omega, by have := HIK.out; omega⟩
            have hkx : k < y.imps.length := by have := HK.out; omega
            have hgk : y.imps[k]? = some y.imps[k] := List.getElem?_eq_getElem hkx
            obtain ⟨b, hob, hcb⟩ := HIS.out k _ hgk
            subst hob
            have qb := (HB.out.cell (World.block_lt_of_cell? _ _ hcb)).trans hcb
            have HTK : Hid (nms (y.imps.take (k + 1)) = nms (y.imps.take k) ++ [nm y.imps[k]]) := by
              show _ = _
              rw [List.take_add_one, hgk, Option.toList_some, nms_app]
              rfl
            have HCB := Lib.hid hcb
            have HKL := Lib.hid hk
            clear hgk hcb hk
            generalize y.imps[k] = z at *
            clear hkx
            have HNV : Hid (nv ≤ 1000) := by
              have h1 := ims_srt (nms ns) (nm s) ((xs.take j).map toNd) (nms (y.imps.take k))
              rw [← HV.out] at h1
              have := srt_le h1.1 h1.2
              rw [nms_len, nms_len, HNL.out, HVL.out] at this
              show _ ≤ _
              omega
            have HH := Lib.hid (hasT (c := c5) (s := z) HNL.out (HNS.out.below HB.out) (by omega))
            have HWT := Lib.hid (withO (c := cv) (s := z) HVL.out (own_names_n HR.out HVL.out) (by have := HNV.out; omega))
            have HV2 : Hid (impF (nms ns) (nms (y.imps.take (k + 1))) (imsG (nms ns) (nm s) ((xs.take j).map toNd) []) = if nm z ∈ nms ns then withF (nms V) (nm z) else nms V) := by
              show _ = _
              rw [HTK.out, impF_snoc, HV.out]
            clear HTK
            go_wp2_with fail
            refine HH.out.mono ?_
            rintro e w3 ⟨rfl, hw⟩
            have hw' := hw.symm
            subst hw'
            clear hw HH
            by_cases hmm : nm z ∈ nms ns
            · have hv2 := HV2.out
              rw [if_pos hmm, ← withB_nm] at hv2
              rw [decide_eq_true hmm]
              have HV3 := Lib.hid hv2
              clear hv2 hmm HV2
              go_wp2_with fail
              refine HWT.out.mono ?_
              rintro e w3 ⟨ob, cb, nb, rfl, hb1, hb2, hB⟩
              have HBX := Lib.hid (HB.out.trans (hB.mono HB.out.size))
              have HB1' := Lib.hid hb1
              have HR' := Lib.hid (row_low hb2 HB.out.size)
              clear hb1 hb2 hB HWT
              go_wp2
              case roundEnd =>
                have := HKL.out
                exact ⟨⟨k + 1, withB V z, ob, nb, cb, rfl, by push_cast; rfl, HB1', by show _ ≤ _; omega, by show _ = _; exact HV3.out.symm, HR', HBX⟩, by simp [RowKit.intOf]; omega⟩
            · have hv2 := HV2.out
              rw [if_neg hmm] at hv2
              rw [decide_eq_false hmm]
              have HV3 := Lib.hid hv2
              clear hv2 hmm HV2 HWT
              go_wp2
              case roundEnd =>
                have := HKL.out
                exact ⟨⟨k + 1, V, ov, nv, cv, rfl, by push_cast; rfl, HVL, by show _ ≤ _; omega, by show _ = _; exact HV3.out.symm, HR, HB⟩, by simp [RowKit.intOf]; omega⟩
          · have hk' : ¬ ((k : Int) < (K : Int)) := by omega
            have hv := HV.out
            rw [List.take_of_length_le (by have := HK.out; omega), ← HT2.out] at hv
            have HV2 := Lib.hid hv
            clear hv hk
            go_wp2
            case roundEnd =>
              have := HJM.out
              exact ⟨⟨j + 1, V, ov, nv, cv, rfl, by push_cast; rfl, HVL, by show _ ≤ _; omega, HV2, HR, HB⟩, by simp [RowKit.intOf]; omega⟩
      · have HT2 : Hid (nms V = imsG (nms ns) (nm s) ((xs.take (j + 1)).map toNd) []) := by
          show _ = _
          rw [HT.out, imsG_snoc]
          exact HV.out.trans (if_neg (show ¬ (toNd y).name = nm s from hn)).symm
        rw [decide_eq_false hn] at he
        clear hn HT
        by_cases hK0 : (0 : Int) < (K : Int)
        · go_wp2_with fail
          go_loopw [6, 8] (fun v i wx => v = .slice ov nv cv ∧ i = .int .i64 0 ∧ wx = wr) (fun _ _ _ => 0)
          case atStart => exact ⟨rfl, rfl, rfl⟩
          case round =>
            obtain ⟨rfl, rfl, hw⟩ := hrel
            have hw' := hw.symm
            subst hw'
            clear hw
            go_wp2
            case roundEnd =>
              have := HJM.out
              exact ⟨⟨j + 1, V, ov, nv, cv, rfl, by push_cast; rfl, HVL, by show _ ≤ _; omega, HT2, HR, HB⟩, by simp [RowKit.intOf]; omega⟩
        · go_wp2_with fail
          go_loopw [6, 8] (fun v i wx => v = .slice ov nv cv ∧ i = .int .i64 0 ∧ wx = wr) (fun _ _ _ => 0)
          case atStart => exact ⟨rfl, rfl, rfl⟩
          case round =>
            obtain ⟨rfl, rfl, hw⟩ := hrel
            have hw' := hw.symm
            subst hw'
            clear hw
            go_wp2
            case roundEnd =>
              have := HJM.out
              exact ⟨⟨j + 1, V, ov, nv, cv, rfl, by push_cast; rfl, HVL, by show _ ≤ _; omega, HT2, HR, HB⟩, by simp [RowKit.intOf]; omega⟩
    · have hj' : ¬ ((j : Int) < (m : Int)) := by omega
      have hv := HV.out
      rw [List.take_of_length_le (by rw [HM.out]; omega), HALL.out] at hv
      have HNV : Hid (nv ≤ m) := by
        have h1 := ims_srt0 (nms ns) (nm s) ((xs.take j).map toNd)
        rw [← HV.out] at h1
        have := srt_le h1.1 h1.2
        rw [nms_len, nms_len, HNL.out, HVL.out] at this
        exact this
      have HV2 : Hid (nms V = imsF (xs.map toNd) (nm s)) := hv
      clear hv hj
      go_wp2
      go_ret
      exact ⟨V, ov, nv, cv, rfl, HVL.out, HNV.out, HV2.out, row_low HR.out HB1.out.size, HB1.out.trans (HB.out.mono HB1.out.size)⟩

end Go.Proofs.Ytgnhcaepkgbieaa
