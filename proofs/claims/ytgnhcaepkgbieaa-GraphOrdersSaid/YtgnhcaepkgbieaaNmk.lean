/-
  The document's own order, in memory. Condition: at most a thousand packages.
-/
import Derived.Test.YtgnhcaepkgbieaaLwd
import Derived.Deep.CutBlock
namespace Go.Proofs.Ytgnhcaepkgbieaa
open Go.RowKit

theorem same_ready {l l' : List Nd} {d r : List Nm} (h : SameN l l') (hr : IsReady l d r) : IsReady l' d r := ⟨hr.1, fun a => (hr.2 a).trans ⟨h.rdy, h.symm.rdy⟩⟩
/-- Nodes, its lengths by letters. -/
theorem nodesT {xs : List ND} {o : Option Addr} {m c : Nat} {w : World} (hm : xs.length = m) (h : AtD w o xs) (hl : m ≤ 800000) :
    Calls Try.prog 27 #[.slice o m c] w fun e w' => ∃ (ys : List ND) (o' : Option Addr) (n c' : Nat), e = .returned (.slice o' n c') ∧ ys.length = n ∧ ys.map toNd = firstsN (xs.map toNd) ∧ n ≤ m ∧ AtD w' o' ys ∧ Below w.heap.size w w' := by
  subst hm
  refine (nodesR_any xs o c w h hl).mono ?_
  rintro e w' ⟨L, o1, n1, c1, rfl, hL, hF, hle, hown, hLies, hB⟩
  exact ⟨L.map (·.1), o1, n1, c1, rfl, by rw [List.length_map, hL], by rw [← hF, List.map_map]; rfl, hle, own_nodes hown hL hLies, hB⟩
theorem readyRT {xs : List ND} {o : Option Addr} {m c : Nat} {ds : List ByteArray} {od : Option Addr} {nd cd : Nat} {w : World} (hm : xs.length = m) (h : AtD w o xs) (hl : m ≤ 800000) (hnd : ds.length = nd) (hd : AtS w od ds) (hdl : nd ≤ 800000) :
    Calls Try.prog 18 #[.slice o m c, .slice od nd cd] w fun e w' => ∃ (R : List ByteArray) (o' : Option Addr) (n c' : Nat), e = .returned (.slice o' n c') ∧ R.length = n ∧ IsReady (xs.map toNd) (nms ds) (nms R) ∧ n ≤ m ∧ AtS w' o' R ∧ Below w.heap.size w w' := by
  subst hm
  subst hnd
  refine (readyR_any xs o c ds od cd w h hd hl hdl).mono ?_
  rintro e w' ⟨R, o', n, c', rfl, h1, h2, h3, h4, h5⟩
  exact ⟨R, o', n, c', rfl, h1, by rw [h2]; exact readyF_is _ _, h3, h4, h5⟩
theorem withT {ws : List ByteArray} {o : Option Addr} {n c : Nat} {s : ByteArray} {w : World} (hn : ws.length = n) (h : AtS w o ws) (hl : n ≤ 900000) :
    Calls Try.prog 29 #[.slice o n c, .string s] w fun e w' => ∃ (o' : Option Addr) (c' n' : Nat), e = .returned (.slice o' n' c') ∧ (withB ws s).length = n' ∧ AtS w' o' (withB ws s) ∧ Below w.heap.size w w' := by
  subst hn
  refine (withR_any ws o c s w h hl).mono ?_
  rintro e w' ⟨o', c', n', rfl, h1, h2, h3⟩
  exact ⟨o', c', n', rfl, h1, own_names_n h2 h1, h3⟩
theorem hasT {ws : List ByteArray} {o : Option Addr} {n c : Nat} {s : ByteArray} {w : World} (hn : ws.length = n) (h : AtS w o ws) (hl : n ≤ 1000000) :
    Calls Try.prog 28 #[.slice o n c, .string s] w fun e w' => e = .returned (.bool (decide (nm s ∈ nms ws))) ∧ w' = w := by
  subst hn
  exact hasR_any ws o c s w h hl
theorem withB_few (l : List ByteArray) (s : ByteArray) : (withB l s).length ≤ l.length + 2 := by
  have h := (bfold_len s l ([], decide (nm s ∈ nms l))).1
  unfold withB
  simp only at h ⊢
  simp only [List.length_nil] at h
  split
  · omega
  · rw [List.length_append]
    simp only [List.length_singleton]
    omega

set_option maxRecDepth 100000 in
set_option maxHeartbeats 8000000 in
/-- The document's order, and who is stuck. -/
theorem orderR_any {xs : List ND} {o : Option Addr} {m c : Nat} {w : World} (hm : xs.length = m) (h : AtD w o xs) (hl : m ≤ 1000) :
    Calls Try.prog 13 #[.slice o m c] w fun e w' => ∃ (O S : List ByteArray) (o1 o2 : Option Addr) (n1 n2 c1 c2 : Nat), e = .returned (.tuple #[.slice o1 n1 c1, .slice o2 n2 c2]) ∧ O.length = n1 ∧ S.length = n2 ∧ n1 ≤ 1000 ∧ n2 ≤ 3000 ∧ RunN (xs.map toNd) [] (nms O) ∧ StkIs (xs.map toNd) (nms O) (nms S) ∧
      AtS w' o1 O ∧ AtS w' o2 S ∧ Below w.heap.size w w' := by
  have HN := Lib.hid (nodesT (c := c) hm h (by omega))
  clear h hm
  go_enter Try.func13, Try.ntmps13
  go_wp2_with fail
  refine HN.out.mono ?_
  rintro e w1 ⟨ys, o1, n1, c1, rfl, hyl, hyf, hle, hat, hB⟩
  have HY := Lib.hid hat
  have HYL := Lib.hid hyl
  have HYF := Lib.hid hyf
  have HB1 := Lib.hid hB
  have HLE : Hid (n1 ≤ 1000) := by show _ ≤ _; omega
  have HFL : Hid ((firstsN (xs.map toNd)).length = n1) := by show _ = _; rw [← hyf, List.length_map]; exact hyl
  clear hat hyl hyf hB hle hl HN
  go_upto_block 0 with fail
  go_cut [4, 5] from 11 to 27 (fun v u wx => ∃ (R : List ByteArray) (o' : Option Addr) (k cap : Nat), v = .slice o' k cap ∧ Hid (R.length = k) ∧ Hid (k ≤ 1000) ∧ Hid (RunN (xs.map toNd) [] (nms R)) ∧ Hid (AtS wx o' R) ∧ Hid (Below w1.heap.size w1 wx))
  case first =>
    go_wp2_with fail
    go_loopw [4] (fun v wr => ∃ (R : List ByteArray) (o' : Option Addr) (k cap : Nat), v = .slice o' k cap ∧ Hid (R.length = k) ∧ Hid (k ≤ n1) ∧ Hid (PreN (xs.map toNd) (nms R)) ∧ Hid (wr.ownsRow w1.heap.size 9 1 (.slice o' k cap) k (sC R)) ∧ Hid (Below w1.heap.size w1 wr)) (fun v _ => n1 - lenV v)
    case atStart => exact ⟨[], none, 0, 0, rfl, rfl, Nat.zero_le _, PreN.nil _, World.ownsRow_nil _ _ _ _, Below.refl _ _⟩
    case round =>
      obtain ⟨R, o', k, cap, rfl, HRL, HKN, HP, HR, HB⟩ := hrel
      by_cases hk : k < n1
      · have hk' : ((k : Int) < (n1 : Int)) := by omega
        have HRD := Lib.hid (readyRT (c := c1) (cd := cap) HYL.out (HY.out.below HB.out) (by have := HLE.out; omega) HRL.out (own_names_n HR.out HRL.out) (by have := HLE.out; have := HKN.out; omega))
        have HKL := Lib.hid hk
        clear hk
        go_wp2_with fail
        refine HRD.out.mono ?_
        rintro e w2 ⟨Q, oq, nq, cq, rfl, hQ, hq, _, hAQ, hB⟩
        rw [HYF.out] at hq
        have HQ := Lib.hid (same_ready (firsts_same _) hq)
        have HB2 := Lib.hid (HB.out.trans (hB.mono HB.out.size))
        have HR2 := Lib.hid (below_row hB HR.out)
        clear HRD hq hB HR HB
        by_cases h0 : nq = 0
        · subst h0
          obtain rfl : Q = [] := List.length_eq_zero_iff.1 hQ
          have HRUN := Lib.hid (HP.out.run (IsReady.none HQ.out))
          clear hQ hAQ
          go_wp2
          go_meet
          exact ⟨R, o', k, cap, rfl, HRL, by have := HLE.out; have := HKN.out; show _ ≤ _; omega, HRUN, own_names_n HR2.out HRL.out, HB2⟩
        · have h0' : ¬ ((nq : Int) = 0) := by omega
          have h1' : (0 : Int) < (nq : Int) := by omega
          have hg : Q[0]? = some Q[0] := List.getElem?_eq_getElem (by omega)
          obtain ⟨a, rfl, hc⟩ := hAQ 0 _ hg
          have z0 : a.add 0 = a := by obtain ⟨x, y, z⟩ := a; cases z <;> simp [Addr.add]
          rw [z0] at hc
          have hfst : FirstN (xs.map toNd) (nms R) (nm Q[0]) := by
            have hqq := HQ.out
            match Q, hQ, hqq with
            | [], hQ, _ => exact absurd hQ.symm h0
            | x :: r, _, hqq => exact hqq.first
          have HFS := Lib.hid hfst
          clear hg hfst hAQ z0 HQ h0
          generalize Q[0] = x at *
          go_wp2_with (refine wpList_append_name rfl _ _ rfl w1.heap.size (.slice o' k cap) k R x rfl HRL.out HR2.out rfl HB2.out.size (by have := HLE.out; have := HKL.out; omega) ?_; intro o9 c9 w9 hrow hbel; have HR9 := Lib.hid hrow; have HB9 := Lib.hid (HB2.out.trans hbel); clear hrow hbel)
          case roundEnd =>
            have := HKL.out
            exact ⟨⟨R ++ [x], o9, k + 1, c9, rfl, by show _ = _; rw [List.length_append, HRL.out]; rfl, by show _ ≤ _; omega, by show PreN _ _; rw [nms_app]; exact HP.out.snoc HFS.out, HR9, HB9⟩, by simp only [lenV]; omega⟩
      · have hk' : ¬ ((k : Int) < (n1 : Int)) := by omega
        have HRUN := Lib.hid (HP.out.run (HP.out.full (by rw [HFL.out]; unfold nms; rw [List.length_map, HRL.out]; omega)))
        clear hk
        go_wp2
        go_meet
        exact ⟨R, o', k, cap, rfl, HRL, by have := HLE.out; have := HKN.out; show _ ≤ _; omega, HRUN, own_names_n HR.out HRL.out, HB⟩
  case rest =>
    obtain ⟨R, o', k, cap, rfl, HRL, HKN, HRUN, HR, HB⟩ := hcut
    have HYC := Lib.hid (HY.out.below HB.out)
    have HB2 := Lib.hid (HB1.out.trans (HB.out.mono HB1.out.size))
    clear HY HB HB1
    go_wp2_with fail
    go_loopw [6, 7] (fun v i wr => ∃ (j : Nat) (S : List ByteArray) (os : Option Addr) (ns cs : Nat), v = .slice os ns cs ∧ i = .int .i64 (j : Nat) ∧ Hid (S.length = ns) ∧ Hid (ns ≤ 2 * j) ∧ Hid (j ≤ n1) ∧ Hid (nms S = keepF (fun n => !decide (n.name ∈ nms R)) ((ys.take j).map toNd) []) ∧ Hid (AtS wr os S) ∧ Hid (Below wc.heap.size wc wr)) (fun _ i _ => n1 - (RowKit.intOf i).toNat)
    case atStart => exact ⟨0, [], none, 0, 0, rfl, rfl, rfl, Nat.le_refl _, Nat.zero_le _, by show _ = _; rfl, AtS.nil _ _, Below.refl _ _⟩
    case round =>
      obtain ⟨j, S, os, ns, cs, rfl, rfl, HSL, HNS, HJ, HK, HS, HBW⟩ := hrel
      by_cases hj : j < n1
      · have hj' : ((j : Int) < (n1 : Int)) := by omega
        have hj0 : (0 : Int) ≤ (j : Int) := by omega
        have hwj := IntWalk.i64_in ((j : Int) + 1) ⟨by omega, by have := HLE.out; omega⟩
        have hjy : j < ys.length := by have := HYL.out; omega
        obtain ⟨a, oi, ci, ho, hcn, _⟩ := HYC.out j _ (List.getElem?_eq_getElem hjy)
        subst ho
        have HT : Hid ((ys.take (j + 1)).map toNd = (ys.take j).map toNd ++ [toNd ys[j]]) := by
          show _ = _
          rw [List.take_add_one, List.getElem?_eq_getElem hjy, Option.toList_some, List.map_append]
          rfl
        have q0 := (HBW.out.cell (World.block_lt_of_cell? _ _ hcn)).trans hcn
        have HJN := Lib.hid hj
        clear hcn hj
        generalize ys[j] = y at *
        clear hjy
        have HH := Lib.hid (hasT (c := cap) (s := y.name) HRL.out (HR.out.below HBW.out) (by have := HKN.out; omega))
        have HWT := Lib.hid (withT (c := cs) (s := y.name) HSL.out HS.out (by have := HNS.out; have := HJN.out; have := HLE.out; omega))
        have HT2 : Hid (keepF (fun n => !decide (n.name ∈ nms R)) ((ys.take (j + 1)).map toNd) [] = if (!decide (nm y.name ∈ nms R)) = true then withF (nms S) (nm y.name) else nms S) := by
          show _ = _
          rw [HT.out, keepF_snoc, HK.out]
          rfl
        clear HT
        go_wp2_with fail
        refine HH.out.mono ?_
        rintro e w3 ⟨rfl, hw⟩
        have hw' := hw.symm
        subst hw'
        clear hw HH
        by_cases hm : nm y.name ∈ nms R
        · have ht2 := HT2.out
          rw [decide_eq_true hm] at ht2 ⊢
          simp only [Bool.not_true, Bool.false_eq_true, if_false] at ht2
          have HT3 := Lib.hid ht2
          clear ht2 hm HT2 HWT
          go_wp2
          case roundEnd =>
            have := HJN.out
            exact ⟨⟨j + 1, S, os, ns, cs, rfl, by push_cast; rfl, HSL, by have := HNS.out; show _ ≤ _; omega, by show _ ≤ _; omega, by show _ = _; exact HT3.out.symm, HS, HBW⟩, by simp [RowKit.intOf]; omega⟩
        · have ht2 := HT2.out
          rw [decide_eq_false hm] at ht2 ⊢
          simp only [Bool.not_false, if_true] at ht2
          rw [← withB_nm] at ht2
          have HT3 := Lib.hid ht2
          clear ht2 hm HT2
          go_wp2_with fail
          refine HWT.out.mono ?_
          rintro e w3 ⟨ob, cb, nb, rfl, hb1, hb2, hB⟩
          have HB1' := Lib.hid hb1
          have HB2' := Lib.hid hb2
          have HBX := Lib.hid (HBW.out.trans (hB.mono HBW.out.size))
          have HNB : Hid (nb ≤ 2 * (j + 1)) := by
            have := withB_few S y.name
            rw [hb1, HSL.out] at this
            have := HNS.out
            show _ ≤ _
            omega
          clear hb1 hb2 hB HWT
          go_wp2
          case roundEnd =>
            have := HJN.out
            exact ⟨⟨j + 1, withB S y.name, ob, nb, cb, rfl, by push_cast; rfl, HB1', HNB, by show _ ≤ _; omega, by show _ = _; exact HT3.out.symm, HB2', HBX⟩, by simp [RowKit.intOf]; omega⟩
      · have hj' : ¬ ((j : Int) < (n1 : Int)) := by omega
        have hk := HK.out
        rw [List.take_of_length_le (by rw [HYL.out]; omega), HYF.out] at hk
        have HSTK : Hid (StkIs (xs.map toNd) (nms R) (nms S)) := by show StkIs _ _ _; rw [hk]; exact stuckF_is _ _
        clear hj hk
        go_wp2
        go_ret2
        exact ⟨R, S, o', os, k, ns, ⟨cap, cs, rfl⟩, HRL.out, HSL.out, HKN.out, by have := HNS.out; have := HJ.out; have := HLE.out; omega, HRUN.out, HSTK.out, HR.out.below HBW.out, HS.out, HB2.out.trans (HBW.out.mono HB2.out.size)⟩

end Go.Proofs.Ytgnhcaepkgbieaa
