/-
  The document's own answer who is cyclic, in memory. Condition: at most a thousand packages.
-/
import Derived.Test.YtgnhcaepkgbieaaNmn
import Derived.Deep.RegionHeld3
namespace Go.Proofs.Ytgnhcaepkgbieaa
open Go.RowKit

noncomputable def cycT (l : List Nd) (n : Nd) : Bool := @decide (RchN l n.name n.name) (Classical.propDecidable _)
theorem cycT_iff {l : List Nd} {n : Nd} : cycT l n = true ↔ RchN l n.name n.name := by
  unfold cycT
  exact @decide_eq_true_iff _ (Classical.propDecidable _)
theorem undrewB' {B : Nat} {w w' : World} (h : Below B w.drew w') : Below B w w' := ⟨h.os, h.tape, h.output, h.size, h.block⟩

set_option maxRecDepth 100000 in
set_option maxHeartbeats 8000000 in
set_option linter.unusedSimpArgs false in
/-- Who is cyclic. -/
theorem cyclicR_any {xs : List ND} {o : Option Addr} {m c : Nat} {w : World} (hm : xs.length = m) (h : AtD w o xs) (hl : m ≤ 1000) :
    Calls Try.prog 16 #[.slice o m c] w fun e w' => ∃ (V : List ByteArray) (o1 : Option Addr) (n1 c1 : Nat), e = .returned (.slice o1 n1 c1) ∧ V.length = n1 ∧ n1 ≤ 3000 ∧ CycIs (xs.map toNd) (nms V) ∧ AtS w' o1 V ∧ Below w.heap.size w w' := by
  have HN := Lib.hid (nodesT (c := c) hm h (by omega))
  clear h hm
  go_enter Try.func16, Try.ntmps16
  go_wp2_with fail
  refine HN.out.mono ?_
  rintro e w1 ⟨ys, o1, n1, c1, rfl, hyl, hyf, hle, hat, hB⟩
  have HY := Lib.hid hat
  have HYL := Lib.hid hyl
  have HYF := Lib.hid hyf
  have HB1 := Lib.hid hB
  have HLE : Hid (n1 ≤ 1000) := by show _ ≤ _; omega
  have HRE := Lib.hid (fun (W : World) (t : ByteArray) (hb : Below w1.heap.size w1 W) => reachedR_any (c := c1) (s := t) hyl (hat.below hb) (by omega))
  clear hat hyl hyf hB hle hl HN
  go_wp2_with fail
  go_loopw [3, 4] (fun v i wr => ∃ (j : Nat) (V : List ByteArray) (ov : Option Addr) (nv cv : Nat), v = .slice ov nv cv ∧ i = .int .i64 (j : Nat) ∧ Hid (V.length = nv) ∧ Hid (nv ≤ 2 * j) ∧ Hid (j ≤ n1) ∧ Hid (nms V = keepF (cycT (ys.map toNd)) ((ys.take j).map toNd) []) ∧ Hid (AtS wr ov V) ∧ Hid (Below w1.heap.size w1 wr)) (fun _ i _ => n1 - (RowKit.intOf i).toNat)
  case atStart => exact ⟨0, [], none, 0, 0, rfl, rfl, rfl, Nat.le_refl _, Nat.zero_le _, by show _ = _; rfl, AtS.nil _ _, Below.refl _ _⟩
  case round =>
    obtain ⟨j, V, ov, nv, cv, rfl, rfl, HVL, HNV, HJ, HK, HV, HB⟩ := hrel
    by_cases hj : j < n1
    · have hj' : ((j : Int) < (n1 : Int)) := by omega
      have hj0 : (0 : Int) ≤ (j : Int) := by omega
      have hwj := IntWalk.i64_in ((j : Int) + 1) ⟨by omega, by have := HLE.out; omega⟩
      have hjy : j < ys.length := by have := HYL.out; omega
      obtain ⟨a, oi, ci, ho, hcn, _⟩ := HY.out j _ (List.getElem?_eq_getElem hjy)
      subst ho
      have HT : Hid ((ys.take (j + 1)).map toNd = (ys.take j).map toNd ++ [toNd ys[j]]) := by
        show _ = _
        rw [List.take_add_one, List.getElem?_eq_getElem hjy, Option.toList_some, List.map_append]
        rfl
      have q0 := (HB.out.cell (World.block_lt_of_cell? _ _ hcn)).trans hcn
      have HCN := Lib.hid hcn
      have HJN := Lib.hid hj
      clear hcn hj
      generalize ys[j] = y at *
      clear hjy
      go_upto_region 6 with fail
      go_cut [5] from 14 to 26 (fun v wx => ∃ q : Bool, v = .bool q ∧ Hid (q = true ↔ RchN (ys.map toNd) (nm y.name) (nm y.name)) ∧ Hid (Below wr.heap.size wr wx))
      case first =>
        go_region_held3 (fun w' => w'.cell? (a.add (j * 2)) = some (.string y.name))
          (first | with_reducible assumption | (simp [q1]; done) | (simp [q0]; done) | (trace_state; fail))
          ((first
            | (go_at_call 35; refine (HRE.out _ y.name (by first | exact HB.out | exact HB.out.drew)).mono ?_; rintro e wa ⟨R, o9, n9, c9, rfl, hr1, hr2, hr3, hr4, hB⟩; have KB : Hid (Below wr.heap.size wr wa) := (by first | exact hB | exact undrewB' hB); have q1 : wa.cell? (a.add (j * 2)) = some (.string y.name) := (KB.out.cell (World.block_lt_of_cell? _ _ q0)).trans q0; have HHA := Lib.hid (fun W (hb : Below wa.heap.size wa W) => hasT (c := c9) (s := y.name) hr1 (hr4.below hb) (by omega)); have HRC := Lib.hid (hr3 (nm y.name)); clear hr1 hr2 hr3 hr4 hB)
            | (go_at_call 28; refine (HHA.out _ (by first | exact Below.refl _ _ | exact (Below.refl _ _).drew)).mono ?_; rintro e wb ⟨rfl, rfl⟩)))
        all_goals go_wp2_with fail
        all_goals go_meet
        all_goals exact ⟨_, rfl, by show _ ↔ _; rw [decide_eq_true_eq]; exact HRC.out, KB⟩
      case rest =>
        obtain ⟨q, rfl, HQ, HBC⟩ := hcut
        have HB2 := Lib.hid (HB.out.trans (HBC.out.mono HB.out.size))
        have HWT := Lib.hid (withT (c := cv) (s := y.name) HVL.out (HV.out.below HBC.out) (by have := HNV.out; have := HJN.out; have := HLE.out; omega))
        have HV2 := Lib.hid (HV.out.below HBC.out)
        have q0 := (HB2.out.cell (World.block_lt_of_cell? _ _ HCN.out)).trans HCN.out
        have hqt : cycT (ys.map toNd) (toNd y) = q := by
          have h1 : cycT (ys.map toNd) (toNd y) = true ↔ q = true := cycT_iff.trans HQ.out.symm
          cases q <;> cases hc : cycT (ys.map toNd) (toNd y) <;> simp_all
        have HT2 : Hid (keepF (cycT (ys.map toNd)) ((ys.take (j + 1)).map toNd) [] = if q = true then withF (nms V) (nm y.name) else nms V) := by
          show _ = _
          rw [HT.out, keepF_snoc, HK.out, hqt]
          rfl
        clear HT hqt HQ
        cases q with
        | false =>
          have ht2 := HT2.out
          simp only [Bool.false_eq_true, if_false] at ht2
          have HT3 := Lib.hid ht2
          clear ht2 HT2 HWT
          go_wp2
          case roundEnd =>
            have := HJN.out
            exact ⟨⟨j + 1, V, ov, nv, cv, rfl, by push_cast; rfl, HVL, by have := HNV.out; show _ ≤ _; omega, by show _ ≤ _; omega, by show _ = _; exact HT3.out.symm, HV2, HB2⟩, by simp [RowKit.intOf]; omega⟩
        | true =>
          have ht2 := HT2.out
          simp only [if_true] at ht2
          rw [← withB_nm] at ht2
          have HT3 := Lib.hid ht2
          clear ht2 HT2
          go_wp2_with fail
          refine HWT.out.mono ?_
          rintro e w3 ⟨ob, cb, nb, rfl, hb1, hb2, hB⟩
          have HB1' := Lib.hid hb1
          have HB2' := Lib.hid hb2
          have HBX := Lib.hid (HB2.out.trans (hB.mono HB2.out.size))
          have HNB : Hid (nb ≤ 2 * (j + 1)) := by
            have := withB_few V y.name
            rw [hb1, HVL.out] at this
            have := HNV.out
            show _ ≤ _
            omega
          clear hb1 hb2 hB HWT
          go_wp2
          case roundEnd =>
            have := HJN.out
            exact ⟨⟨j + 1, withB V y.name, ob, nb, cb, rfl, by push_cast; rfl, HB1', HNB, by show _ ≤ _; omega, by show _ = _; exact HT3.out.symm, HB2', HBX⟩, by simp [RowKit.intOf]; omega⟩
    · have hj' : ¬ ((j : Int) < (n1 : Int)) := by omega
      have hk := HK.out
      rw [List.take_of_length_le (by rw [HYL.out]; omega), HYF.out] at hk
      have HCY : Hid (CycIs (xs.map toNd) (nms V)) := by
        show CycIs _ _
        rw [hk]
        exact cycF_is _ _ fun n _ => cycT_iff
      clear hj hk
      go_wp2
      go_ret
      exact ⟨V, ov, nv, ⟨cv, rfl⟩, HVL.out, by have := HNV.out; have := HJ.out; have := HLE.out; omega, HCY.out, HV.out, HB1.out.trans (HB.out.mono HB1.out.size)⟩

end Go.Proofs.Ytgnhcaepkgbieaa
