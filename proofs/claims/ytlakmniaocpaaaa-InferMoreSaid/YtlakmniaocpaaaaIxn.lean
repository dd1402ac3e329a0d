/-
  A call, checked: what the type that it answers is made of lies in blocks of the call's own. Condition: as for a call.
-/

import Derived.Test.YtlakmniaocpaaaaM25
import Derived.Deep.CutBlock
namespace Go.Proofs.Ytlakmniaocpaaaa
open Go.RowKit
open Go.Lib hiding intOf

set_option maxRecDepth 100000 in
set_option maxHeartbeats 32000000 in
theorem callPF_any (q : Nat) (hq : q ≤ 281474976710656) (s : SCP) (f : FN) (A : List GY) (cs cf : List Value) (oA : Option Addr) (cA : Nat) (w0 w : World) (hs : IsSc w0 s cs) (hfs : FitS 140737488351232 s) (hf : IsFn w0 f cf) (hA : IsYs w0 oA 0 A) (hlcA : A.length ≤ cA) (hcmA : cA ≤ maxLen) (h0 : Below w0.heap.size w0 w)
    (hlP : f.params.length ≤ 100) (hwP : WfYs f.params) (hcnt : cntYs f.params ≤ 1000000) (hfA : FitYs q A) (hfP : FitYs q f.params) (hfR : FitY q f.result) :
    Calls Try.prog 17 #[.agg cs.toArray, .agg cf.toArray, .slice oA A.length cA] w fun e w' => ∃ u v, e = .returned (.tuple #[u, v]) ∧ IsYF w' w.heap.size (callT f.bounds f.params f.result A) u ∧ IsEs w' (callE s f.bounds f.params A) v ∧ Below w.heap.size w w' := by
  have HS := Lib.hid hs
  obtain ⟨o, o1, o2, o3, o4, k, n1, k1, n2, k2, k3, n4, k4, rfl, _⟩ := hs
  obtain ⟨oB, kB, oP, kP, ra, rp, rq, rn, ro, re, rk, rfl, hlcB, hcmB, hlcP, hcmP, hB, hP, hR⟩ := hf
  obtain ⟨fname, B, P, Rr⟩ := f
  dsimp only at *
  generalize s.W.length = nW at *
  generalize s.bounds.length = nb at *
  obtain ⟨nB, hnB⟩ : ∃ nB, B.length = nB := ⟨_, rfl⟩
  obtain ⟨nP, hnP⟩ : ∃ nP, P.length = nP := ⟨_, rfl⟩
  obtain ⟨nA, hnA⟩ : ∃ nA, A.length = nA := ⟨_, rfl⟩
  obtain ⟨nM, hnM⟩ : ∃ nM, min nA nP = nM := ⟨_, rfl⟩
  have hrmin : ∀ (W : World), (Builtin.min_ #[3, 3] 3 #[.int .i64 (nA : Int), .int .i64 (nP : Int)]).run Try.prog W = .ok (.int .i64 (nM : Int)) W := fun W => by
    rw [run_min_two]
    have : (if (nP : Int) < (nA : Int) then (nP : Int) else (nA : Int)) = (nM : Int) := by split <;> omega
    rw [this]
  have HMN : Hid (nM ≤ nA ∧ nM ≤ nP ∧ (nM = nA ∨ nM = nP)) := by show _ ∧ _; omega
  have htt := told_types B P A
  obtain ⟨W2, hW2, HBX⟩ := bx3 w #[.slice o nW k, .slice o1 n1 k1, .slice o2 n2 k2, .slice o3 nb k3, .slice o4 n4 k4] #[.string fname, .slice oB nB kB, .slice oP nP kP, .int .i64 ra, .string rp, .string rq, .int .i64 rn, .slice ro re rk] #[.int .i64 0, .string noB, .string noB, .int .i64 0, .slice none 0 0] 32 36 34
  have hw2 := h0.trans (HBX.out.2.1.mono h0.size)
  have hU := unifyP_any q hq P A oP oA kP cA (B.length : Int) w0 W2 (EntL.of hlcP hcmP hP) (EntL.of hlcA hcmA hA) hwP hfA hcnt hw2
  have hTF : FitYs q (toldY P A (B.length : Int)) := told_fit hfA
  rw [htt] at hU hTF
  have HCE : Hid (errC P A ++ errB s B (typesY B P A) ++ errA s (typesY B P A) 0 A P = callE s B P A) := rfl
  have HCT : Hid (callT B P Rr A = subY (typesY B P A) Rr) := rfl
  obtain ⟨htb, htl⟩ := types_len B P A
  obtain ⟨nT, hnT⟩ : ∃ nT, (typesY B P A).length = nT := ⟨_, rfl⟩
  rw [hnT] at htb htl hU
  generalize typesY B P A = TT at *
  have HTL : Hid (nT ≤ 16) := htl
  rw [hnB] at htb
  have HTB : Hid (nT ≤ nB) := htb
  have HTF := Lib.hid hTF
  have HNT := Lib.hid hnT
  rw [hnB, hnP, hnA] at hU
  rw [hnA]
  rw [hnP] at hlP ⊢
  rw [hnB]
  have HU := Lib.hid hU
  have HNB := Lib.hid hnB
  have HNP := Lib.hid hnP
  have HNA := Lib.hid hnA
  have HW2 := Lib.hid hW2
  have HB := Lib.hid hB
  have HP := Lib.hid hP
  have HA := Lib.hid hA
  have HRR := Lib.hid hR
  have HFS := Lib.hid hfs
  have HFP := Lib.hid hfP
  have HFR := Lib.hid hfR
  have H0 := Lib.hid h0
  have b0 : ∀ i, W2.cell? ⟨w.heap.size, i, none⟩ = _ := (HBX.out.at_ (Below.refl _ _) 0 rfl).cell
  have b1 : ∀ i, W2.cell? ⟨w.heap.size + 1, i, none⟩ = _ := (HBX.out.at_ (Below.refl _ _) 1 rfl).cell
  clear hU hnB hnP hnA hW2 hB hP hA hR htt htl htb hTF hnT hfs hfP hfR h0 hw2 hnM hlcA hcmA hlcB hcmB hlcP hcmP hwP hcnt hfA
  go_enter Try.func17, Try.ntmps17
  go_upto_region 1 with fail
  change Code.wp Try.prog _ _ _ (((w.alloc (.cells #[.slice o nW k, .slice o1 n1 k1, .slice o2 n2 k2, .slice o3 nb k3, .slice o4 n4 k4] 32)).alloc (.cells #[.string fname, .slice oB nB kB, .slice oP nP kP, .int .i64 ra, .string rp, .string rq, .int .i64 rn, .slice ro re rk] 36)).alloc (.cells #[.int .i64 0, .string noB, .string noB, .int .i64 0, .slice none 0 0] 34))
  rw [HW2.out]
  go_wp2_with fail
  refine HU.out.mono ?_
  rintro e V ⟨oT, cT, rfl, hlT, hcT, hyT, hbV⟩
  have HVW := Lib.hid hbV
  have HVT := Lib.hid hyT
  have hwV := H0.out.trans ((HBX.out.below hbV).mono H0.out.size)
  have HVS := Lib.hid (HS.out.below hwV)
  have HVB := Lib.hid (HB.out.below hwV)
  have HVP := Lib.hid (HP.out.below hwV)
  have HVA := Lib.hid (HA.out.below hwV)
  have HVR := Lib.hid (HRR.out.below hwV)
  have hTc : (nT : Int) ≤ (cT : Int) := by omega
  clear hbV hyT b0 b1 HU HW2 hwV hlT hcT
  have kk0 := HBX.out.at_ HVW.out 0 rfl
  have kk1 := HBX.out.at_ HVW.out 1 rfl
  rw [Nat.add_zero] at kk0
  have KK0 := Lib.hid kk0
  have KK1 := Lib.hid kk1
  have c0 := kk0.cell
  have c1 := kk1.cell
  clear kk0 kk1
  have HR0 := Lib.hid (Below.refl V.heap.size V)
  have hvz : V.heap.size ≤ V.heap.size := Nat.le_refl _
  have HSZ := Lib.hid hvz
  have HRE0 : Hid (RowE V V.heap.size none 0 0 []) := RowQ.start _ _
  clear hvz
  go_upto_if 25 with fail
  go_cut [9] from 25 to 29 (fun v9 wx => ∃ (oe : Option Addr) (m ce : Nat) (es : List (Int × Int)), v9 = .slice oe m ce ∧ Hid (m ≤ 1) ∧ Hid (es = errC P A) ∧ Hid (RowE wx V.heap.size oe m ce es) ∧ Hid (Below V.heap.size V wx))
  case first =>
    by_cases hnn : nA = nP
    · have hne : ((nA : Int) != (nP : Int)) = false := by simp [hnn]
      have HE0 : Hid ([] = errC P A) := (if_pos (HNA.out.trans (hnn.trans HNP.out.symm))).symm
      clear hnn
      have HM0 : Hid (0 ≤ 1) := by show _ ≤ _; omega
      go_wp2
      go_meet
      exact ⟨none, 0, 0, [], rfl, HM0, HE0, HRE0, HR0⟩
    · have hne : ((nA : Int) != (nP : Int)) = true := by simp; omega
      have HE0 : Hid ([(-1, 12)] = errC P A) := (if_neg (by rw [HNA.out, HNP.out]; exact hnn)).symm
      have HM0 : Hid (0 + 1 ≤ 1) := by show _ ≤ _; omega
      go_wp2_with (first
        | (refine boxRow1 39 51 2 (.agg #[.int .i64 0, .int .i64 0]) Try.underlying39 (by kernel_rfl) rfl (by decide) rfl _ rfl [.int .i64 (-1), .int .i64 (12)] rfl rfl ?_)
        | (refine rowE_append rfl _ _ rfl V.heap.size 0 0 none [] (-1, 12) rfl rfl HRE0.out (by omega) (by exact HSZ.out) ?_; intro o9 c9 w9 hr9 hb9; have HR9 := Lib.hid hr9; have HB9 := Lib.hid hb9; clear hr9 hb9))
      go_meet
      exact ⟨o9, 0 + 1, c9, [(-1, 12)], rfl, HM0, HE0, HR9, HB9⟩
  case rest =>
    obtain ⟨oe, m, ce, es, rfl, HM1, HE1, HRE, HR⟩ := hcut
    obtain ⟨wd, rfl⟩ : ∃ wd, wd = wc := ⟨wc, rfl⟩
    have HST : Hid (es ++ errB s (B.drop 0) (TT.drop 0) = errC P A ++ errB s B TT) := by show _ = _; rw [List.drop_zero, List.drop_zero, HE1.out]
    have HM : Hid (m ≤ 1 + 0) := HM1.out
    clear HE1 HM1 HRE0 HR0 HSZ c0 c1 KK0 KK1
    have kk0 := HBX.out.at_ (stepB HVW.out HR.out (Nat.le_refl _)) 0 rfl
    have kk1 := HBX.out.at_ (stepB HVW.out HR.out (Nat.le_refl _)) 1 rfl
    rw [Nat.add_zero] at kk0
    have KK0 := Lib.hid kk0
    have KK1 := Lib.hid kk1
    have c0 := kk0.cell
    have c1 := kk1.cell
    clear kk0 kk1
    go_wp2
    go_loopw [9, 32] (fun v i wr => ∃ (j m : Nat) (oe : Option Addr) (ce : Nat) (es : List (Int × Int)), v = .slice oe m ce ∧ i = .int .i64 (j : Nat) ∧ Hid (j ≤ nT) ∧ Hid (m ≤ 1 + j) ∧ Hid (es ++ errB s (B.drop j) (TT.drop j) = errC P A ++ errB s B TT) ∧ Hid (RowE wr V.heap.size oe m ce es) ∧ Hid (Below V.heap.size V wr)) (fun _ i _ => nT - (RowKit.intOf i).toNat)
    case atStart => exact ⟨0, m, oe, ce, es, rfl, rfl, Nat.zero_le _, HM, HST, HRE, HR⟩
    case round =>
      clear HST HRE HR HM c0 c1 KK0 KK1
      obtain ⟨j, m, oe, ce, es, rfl, rfl, HJ, HM, HE, HRE, HR⟩ := hrel
      have hsz : V.heap.size ≤ wr.heap.size := HR.out.size
      have HSZ := Lib.hid hsz
      have hm := HM.out
      have hn16 := HTL.out
      have kk0 := HBX.out.at_ (stepB HVW.out HR.out (Nat.le_refl _)) 0 rfl
      have kk1 := HBX.out.at_ (stepB HVW.out HR.out (Nat.le_refl _)) 1 rfl
      rw [Nat.add_zero] at kk0
      have KK0 := Lib.hid kk0
      have KK1 := Lib.hid kk1
      have c0 := kk0.cell
      have c1 := kk1.cell
      clear kk0 kk1
      by_cases hj : j < nT
      · have hj1 : ((j : Int) < (nT : Int)) := by omega
        have hj0 : (0 : Int) ≤ (j : Int) := by omega
        have hwj := IntWalk.i64_in ((j : Int) + 1) ⟨by omega, by omega⟩
        have hjB : j < nB := Nat.lt_of_lt_of_le hj HTB.out
        have hj2 : ((j : Int) < (nB : Int)) := by omega
        obtain ⟨b, hb⟩ : ∃ b, B[j]? = some b := ⟨_, List.getElem?_eq_getElem (by rw [HNB.out]; exact hjB)⟩
        obtain ⟨t, ht⟩ : ∃ t, TT[j]? = some t := ⟨_, List.getElem?_eq_getElem (by rw [HNT.out]; exact hj)⟩
        have HED := Lib.hid (errB_drop (s := s) hb ht)
        obtain ⟨aB, x0, x1, x2, x3, x4, rfl, hcb, hbb⟩ := HVB.out.at_ j hb
        obtain ⟨aT, y0, y1, y2, y3, y4, rfl, hct, htt⟩ := HVT.out.at_ j ht
        rw [Nat.zero_add] at hcb hct
        have HO := Lib.hid htt.ones
        obtain ⟨w7, hw7⟩ : ∃ w7, wr.alloc (.cells #[y0, y1, y2, y3, y4] 34) = w7 := ⟨_, rfl⟩
        have hb7 : Below wr.heap.size wr w7 := by rw [← hw7]; exact (Below.refl _ _).alloc (Nat.le_refl _) _
        have hk7 : Blk w7 wr.heap.size 34 #[y0, y1, y2, y3, y4] := by rw [← hw7]; exact Blk.new wr _ _
        have HW7 := Lib.hid hw7
        have HCT : Hid (∀ (i : Nat) (v : Value), [y0, y1, y2, y3, y4][i]? = some v → wr.cell? ((aT.add (j * 5)).add i) = some v) := mvc HR.out hct
        have HCB : Hid (∀ (i : Nat) (v : Value), [x0, x1, x2, x3, x4][i]? = some v → w7.cell? ((aB.add (j * 5)).add i) = some v) := mvc (stepB HR.out hb7 (Nat.le_refl _)) hcb
        have HC7 : Hid (∀ (i : Nat) (v : Value), [y0, y1, y2, y3, y4][i]? = some v → w7.cell? ((⟨wr.heap.size, 0, none⟩ : Addr).add i) = some v) := bk0 hk7
        have HCS : Hid (∀ (i : Nat) (v : Value), [.slice o nW k, .slice o1 n1 k1, .slice o2 n2 k2, .slice o3 nb k3, .slice o4 n4 k4][i]? = some v → w7.cell? ((⟨w.heap.size, 0, none⟩ : Addr).add i) = some v) := bk0 (blkB KK0.out hb7)
        have HB7 := Lib.hid hb7
        have HKE := Lib.hid (fun X (hX : Below w7.heap.size w7 X) => keeps_any s t b _ _ _ V X HVS.out htt hbb (stepB (stepB HR.out hb7 (Nat.le_refl _)) hX (Nat.le_refl _)) HFS.out)
        have d1 := (blkB KK1.out hb7).cell 1
        generalize wB s b t = WB at *
        clear hcb hct hbb htt hb ht hw7 hb7 hk7
        go_wp2_with (first
          | (refine boxLoadG 34 5 size5 Try.underlying34 rfl _ rfl _ rfl (cs := [y0, y1, y2, y3, y4]) HCT.out rfl ?_)
          | (refine boxNewAt 34 5 size5 rfl _ _ rfl _ rfl rfl [y0, y1, y2, y3, y4] rfl rfl rfl HO.out ?_))
        change Code.wp _ _ _ _ (wr.alloc (.cells #[y0, y1, y2, y3, y4] 34))
        rw [HW7.out]
        refine wp_region_still_tail 7 (by kernel_rfl) (by kernel_rfl) ?_
        simp only [List.take_succ_cons, List.take_zero, List.drop_succ_cons, List.drop_zero]
        refine stillLoadG 32 5 sizeS5 Try.underlying32 rfl _ rfl ⟨w.heap.size, 0, none⟩ rfl HCS.out rfl ?_
        refine stillLoadG 34 5 size5 Try.underlying34 rfl _ rfl ⟨wr.heap.size, 0, none⟩ rfl HC7.out rfl ?_
        iterate 4 still_step
        refine stillLoadG 34 5 size5 Try.underlying34 rfl _ rfl (aB.add (j * 5)) rfl HCB.out rfl ?_
        refine wpStill_nil ?_
        change wpList _ _ _ _ _ w7.drew
        go_wp2_with fail
        refine (HKE.out _ (Below.refl _ _).drew).mono ?_
        rintro e w5 ⟨rfl, hb5⟩
        have hbw : Below wr.heap.size wr w5 := stepB HB7.out ((Below.refl _ _).drew.trans hb5) (Nat.le_refl _)
        have HR5 := Lib.hid (stepB HR.out hbw (Nat.le_refl _))
        have HRE5 := Lib.hid (RowQ.below keepW HRE.out hbw)
        have hsz5 : V.heap.size ≤ w5.heap.size := HR5.out.size
        clear hb5 hbw HSZ HCB HCT HC7 HCS HB7 HKE d1 c0 c1 KK0 KK1 HO
        have HSZ := Lib.hid hsz5
        cases WB with
        | false =>
          have HE2 : Hid (es ++ errB s (B.drop (j + 1)) (TT.drop (j + 1)) = errC P A ++ errB s B TT) := by
            have e := HE.out
            rw [HED.out, if_neg (by decide)] at e
            exact e
          clear HED HE
          go_wp2
          case roundEnd => exact ⟨⟨j + 1, m, oe, ce, es, rfl, by push_cast; rfl, hj, (by show m ≤ _; omega), HE2, HRE5, HR5⟩, by simp [RowKit.intOf]; omega⟩
        | true =>
          have HE2 : Hid ((es ++ [(-1, 15)]) ++ errB s (B.drop (j + 1)) (TT.drop (j + 1)) = errC P A ++ errB s B TT) := by
            have e := HE.out
            rw [HED.out, if_pos rfl] at e
            show _ = _
            rw [← e]; simp
          clear HED HE
          go_upto_region 9 with fail
          go_wp2_with (first
            | (refine boxRow1 39 51 2 (.agg #[.int .i64 0, .int .i64 0]) Try.underlying39 (by kernel_rfl) rfl (by decide) rfl _ rfl [.int .i64 (-1), .int .i64 (15)] rfl rfl ?_)
            | (refine rowE_append rfl _ _ rfl V.heap.size m ce oe es (-1, 15) rfl rfl HRE5.out (by omega) (by exact HSZ.out) ?_; intro o9 c9 w9 hr9 hb9; have HR9 := Lib.hid hr9; have HB9 := Lib.hid hb9; clear hr9 hb9))
          case roundEnd => exact ⟨⟨j + 1, m + 1, o9, c9, _, rfl, by push_cast; rfl, hj, (by show m + 1 ≤ _; omega), HE2, HR9, HR5.out.trans (HB9.out.mono (Nat.le_refl _))⟩, by simp [RowKit.intOf]; omega⟩
      · have hj1 : ¬ ((j : Int) < (nT : Int)) := by omega
        have HE2 : Hid (es = errC P A ++ errB s B TT) := by
          have e := HE.out
          rw [errB_end (.inr (by rw [HNT.out]; omega)), List.append_nil] at e
          exact e
        have HST2 : Hid (es ++ errA s TT 0 (A.drop 0) (P.drop 0) = callE s B P A) := by
          show _ = _
          rw [HE2.out, List.drop_zero, List.drop_zero]
          exact HCE.out
        have HM2 : Hid (m ≤ 20 + 0) := by have := HJ.out; show _ ≤ _; omega
        have hrm := hrmin wr
        clear hj HE HE2 HJ hm
        go_wp2
        go_loopw [9, 57] (fun v i wr => ∃ (j m : Nat) (oe : Option Addr) (ce : Nat) (es : List (Int × Int)), v = .slice oe m ce ∧ i = .int .i64 (j : Nat) ∧ Hid (j ≤ nM) ∧ Hid (m ≤ 20 + j) ∧ Hid (es ++ errA s TT j (A.drop j) (P.drop j) = callE s B P A) ∧ Hid (RowE wr V.heap.size oe m ce es) ∧ Hid (Below V.heap.size V wr)) (fun _ i _ => nM - (RowKit.intOf i).toNat)
        case atStart => exact ⟨0, m, oe, ce, es, rfl, rfl, Nat.zero_le _, HM2, HST2, HRE, HR⟩
        case round =>
          clear HST2 HRE HR HM HM2 c0 c1 KK0 KK1 HSZ hrm hrmin
          obtain ⟨j, m, oe, ce, es, rfl, rfl, HJ, HM, HE, HRE, HR⟩ := hrel
          have hsz : V.heap.size ≤ wr.heap.size := HR.out.size
          have HSZ := Lib.hid hsz
          have hm := HM.out
          have hmn := HMN.out
          have kk0 := HBX.out.at_ (stepB HVW.out HR.out (Nat.le_refl _)) 0 rfl
          have kk1 := HBX.out.at_ (stepB HVW.out HR.out (Nat.le_refl _)) 1 rfl
          rw [Nat.add_zero] at kk0
          have KK0 := Lib.hid kk0
          have KK1 := Lib.hid kk1
          have c0 := kk0.cell
          have c1 := kk1.cell
          clear kk0 kk1
          by_cases hj : j < nM
          · have hj1 : ((j : Int) < (nM : Int)) := by omega
            have hj0 : (0 : Int) ≤ (j : Int) := by omega
            have hjA : j < nA := by omega
            have hjP : j < nP := by omega
            have hjA1 : ((j : Int) < (nA : Int)) := by omega
            have hjP1 : ((j : Int) < (nP : Int)) := by omega
            have hwj := IntWalk.i64_in ((j : Int) + 1) ⟨by omega, by omega⟩
            obtain ⟨a, ha⟩ : ∃ a, A[j]? = some a := ⟨_, List.getElem?_eq_getElem (by rw [HNA.out]; exact hjA)⟩
            obtain ⟨p, hp⟩ : ∃ p, P[j]? = some p := ⟨_, List.getElem?_eq_getElem (by rw [HNP.out]; exact hjP)⟩
            have HED := Lib.hid (errA_drop (s := s) (ts := TT) ha hp)
            obtain ⟨aA, x0, x1, x2, x3, x4, rfl, hca, haa⟩ := HVA.out.at_ j ha
            obtain ⟨aP, y0, y1, y2, y3, y4, rfl, hcp, hpp⟩ := HVP.out.at_ j hp
            rw [Nat.zero_add] at hca hcp
            have HCA := Lib.hid (mvc HR.out hca)
            have HCP := Lib.hid (mvc HR.out hcp)
            have HSU := Lib.hid (fun X (hX : Below wr.heap.size wr X) => substP_any q hq TT oT nT cT HNT.out HTF.out p _ X (FitYs.mem HFP.out p (List.mem_of_getElem? hp)) (hpp.below (stepB HR.out hX (Nat.le_refl _))) (HVT.out.below (stepB HR.out hX (Nat.le_refl _))))
            have HAS := Lib.hid (fun (u : Value) X (hX : Below wr.heap.size wr X) (hu : IsY X (subY TT p) u) => assignQ_any s a (subY TT p) _ _ u X X (HVS.out.below (stepB HR.out hX (Nat.le_refl _))) (haa.below (stepB HR.out hX (Nat.le_refl _))) hu (Below.refl _ _) HFS.out)
            have HWA : Hid (wA s TT a p = !assignS s a (subY TT p)) := rfl
            generalize assignS s a (subY TT p) = AB at *
            clear hca hcp haa hpp ha hp
            have f0 := c0 0
            have f1 := c0 1
            have f2 := c0 2
            have f3 := c0 3
            have f4 := c0 4
            have f5 := c1 2
            have f6 := at0 (HCA.out 0 _ rfl)
            have f7 := atS (HCA.out 1 _ rfl)
            have f8 := atS (HCA.out 2 _ rfl)
            have f9 := atS (HCA.out 3 _ rfl)
            have f10 := atS (HCA.out 4 _ rfl)
            have f11 := at0 (HCP.out 0 _ rfl)
            have f12 := atS (HCP.out 1 _ rfl)
            have f13 := atS (HCP.out 2 _ rfl)
            have f14 := atS (HCP.out 3 _ rfl)
            have f15 := atS (HCP.out 4 _ rfl)
            simp only [List.getElem?_toArray, List.getElem?_cons_zero, List.getElem?_cons_succ] at f0 f1 f2 f3 f4 f5
            have q0 := f0
            have q1 := f1
            have q2 := f2
            have q3 := f3
            have q4 := f4
            have q5 := f5
            have q6 := f6
            have q7 := f7
            have q8 := f8
            have q9 := f9
            have q10 := f10
            have q11 := f11
            have q12 := f12
            have q13 := f13
            have q14 := f14
            have q15 := f15
            have KB := Lib.hid (Below.refl wr.heap.size wr)
            go_wp2_with fail
            go_region_held3 (fun w' => w'.cell? ⟨w.heap.size, 0, none⟩ = some (.slice o nW k) ∧ w'.cell? ⟨w.heap.size, 1, none⟩ = some (.slice o1 n1 k1) ∧ w'.cell? ⟨w.heap.size, 2, none⟩ = some (.slice o2 n2 k2) ∧ w'.cell? ⟨w.heap.size, 3, none⟩ = some (.slice o3 nb k3) ∧ w'.cell? ⟨w.heap.size, 4, none⟩ = some (.slice o4 n4 k4) ∧ w'.cell? ⟨w.heap.size + 1, 2, none⟩ = some (.slice (some aP) nP kP) ∧ w'.cell? (aA.add (j * 5)) = some (x0) ∧ w'.cell? ⟨(aA.add (j * 5)).block, (aA.add (j * 5)).off + 1, none⟩ = some (x1) ∧ w'.cell? ⟨(aA.add (j * 5)).block, (aA.add (j * 5)).off + 2, none⟩ = some (x2) ∧ w'.cell? ⟨(aA.add (j * 5)).block, (aA.add (j * 5)).off + 3, none⟩ = some (x3) ∧ w'.cell? ⟨(aA.add (j * 5)).block, (aA.add (j * 5)).off + 4, none⟩ = some (x4) ∧ w'.cell? (aP.add (j * 5)) = some (y0) ∧ w'.cell? ⟨(aP.add (j * 5)).block, (aP.add (j * 5)).off + 1, none⟩ = some (y1) ∧ w'.cell? ⟨(aP.add (j * 5)).block, (aP.add (j * 5)).off + 2, none⟩ = some (y2) ∧ w'.cell? ⟨(aP.add (j * 5)).block, (aP.add (j * 5)).off + 3, none⟩ = some (y3) ∧ w'.cell? ⟨(aP.add (j * 5)).block, (aP.add (j * 5)).off + 4, none⟩ = some (y4))
              (refine ⟨?_, ?_, ?_, ?_, ?_, ?_, ?_, ?_, ?_, ?_, ?_, ?_, ?_, ?_, ?_, ?_⟩ <;> (repeat (first | with_reducible assumption | with_reducible refine keepD1 ?_ | with_reducible refine keepA1 ?_)))
              ((first
                | (go_at_call 23; refine (HSU.out _ (by first | exact KB.out | exact KB.out.drew)).mono ?_; rintro e w4 ⟨pu, rfl, hpu, hb4⟩; have HPU := Lib.hid hpu.toY; clear hpu; have kb : Below wr.heap.size wr w4 := (by first | with_reducible exact stepB KB.out hb4 (Nat.le_refl _) | with_reducible exact stepB KB.out.drew hb4 (Nat.le_refl _)); clear KB hb4 q0 q1 q2 q3 q4 q5 q6 q7 q8 q9 q10 q11 q12 q13 q14 q15; have KB := Lib.hid kb; clear kb; have q0 := (KB.out.cell (World.block_lt_of_cell? _ _ f0)).trans f0; have q1 := (KB.out.cell (World.block_lt_of_cell? _ _ f1)).trans f1; have q2 := (KB.out.cell (World.block_lt_of_cell? _ _ f2)).trans f2; have q3 := (KB.out.cell (World.block_lt_of_cell? _ _ f3)).trans f3; have q4 := (KB.out.cell (World.block_lt_of_cell? _ _ f4)).trans f4; have q5 := (KB.out.cell (World.block_lt_of_cell? _ _ f5)).trans f5; have q6 := (KB.out.cell (World.block_lt_of_cell? _ _ f6)).trans f6; have q7 := (KB.out.cell (World.block_lt_of_cell? _ _ f7)).trans f7; have q8 := (KB.out.cell (World.block_lt_of_cell? _ _ f8)).trans f8; have q9 := (KB.out.cell (World.block_lt_of_cell? _ _ f9)).trans f9; have q10 := (KB.out.cell (World.block_lt_of_cell? _ _ f10)).trans f10; have q11 := (KB.out.cell (World.block_lt_of_cell? _ _ f11)).trans f11; have q12 := (KB.out.cell (World.block_lt_of_cell? _ _ f12)).trans f12; have q13 := (KB.out.cell (World.block_lt_of_cell? _ _ f13)).trans f13; have q14 := (KB.out.cell (World.block_lt_of_cell? _ _ f14)).trans f14; have q15 := (KB.out.cell (World.block_lt_of_cell? _ _ f15)).trans f15)
                | (go_at_call 24; refine (HAS.out _ _ (by first | exact KB.out | exact KB.out.drew) HPU.out).mono ?_; rintro e w5 ⟨rfl, hb4⟩; have kb : Below wr.heap.size wr w5 := (by first | with_reducible exact stepB KB.out hb4 (Nat.le_refl _) | with_reducible exact stepB KB.out.drew hb4 (Nat.le_refl _)); clear KB hb4 q0 q1 q2 q3 q4 q5 q6 q7 q8 q9 q10 q11 q12 q13 q14 q15; have KB := Lib.hid kb; clear kb; have q0 := (KB.out.cell (World.block_lt_of_cell? _ _ f0)).trans f0; have q1 := (KB.out.cell (World.block_lt_of_cell? _ _ f1)).trans f1; have q2 := (KB.out.cell (World.block_lt_of_cell? _ _ f2)).trans f2; have q3 := (KB.out.cell (World.block_lt_of_cell? _ _ f3)).trans f3; have q4 := (KB.out.cell (World.block_lt_of_cell? _ _ f4)).trans f4; have q5 := (KB.out.cell (World.block_lt_of_cell? _ _ f5)).trans f5; have q6 := (KB.out.cell (World.block_lt_of_cell? _ _ f6)).trans f6; have q7 := (KB.out.cell (World.block_lt_of_cell? _ _ f7)).trans f7; have q8 := (KB.out.cell (World.block_lt_of_cell? _ _ f8)).trans f8; have q9 := (KB.out.cell (World.block_lt_of_cell? _ _ f9)).trans f9; have q10 := (KB.out.cell (World.block_lt_of_cell? _ _ f10)).trans f10; have q11 := (KB.out.cell (World.block_lt_of_cell? _ _ f11)).trans f11; have q12 := (KB.out.cell (World.block_lt_of_cell? _ _ f12)).trans f12; have q13 := (KB.out.cell (World.block_lt_of_cell? _ _ f13)).trans f13; have q14 := (KB.out.cell (World.block_lt_of_cell? _ _ f14)).trans f14; have q15 := (KB.out.cell (World.block_lt_of_cell? _ _ f15)).trans f15)))
            clear f0 q0 f1 q1 f2 q2 f3 q3 f4 q4 f5 q5 f6 q6 f7 q7 f8 q8 f9 q9 f10 q10 f11 q11 f12 q12 f13 q13 f14 q14 f15 q15
            have hbw : Below wr.heap.size wr w5 := KB.out
            have HR5 := Lib.hid (stepB HR.out hbw (Nat.le_refl _))
            have HRE5 := Lib.hid (RowQ.below keepW HRE.out hbw)
            have hsz5 : V.heap.size ≤ w5.heap.size := HR5.out.size
            clear KB hbw HSZ HCA HCP HSU HAS HPU KK0 KK1 c0 c1
            have HSZ := Lib.hid hsz5
            cases AB with
            | true =>
              have HE2 : Hid (es ++ errA s TT (j + 1) (A.drop (j + 1)) (P.drop (j + 1)) = callE s B P A) := by
                have e := HE.out
                rw [HED.out, if_neg (by rw [HWA.out]; simp)] at e
                exact e
              clear HED HE HWA
              go_wp2
              case roundEnd => exact ⟨⟨j + 1, m, oe, ce, es, rfl, by push_cast; rfl, hj, (by show m ≤ _; omega), HE2, HRE5, HR5⟩, by simp [RowKit.intOf]; omega⟩
            | false =>
              have HE2 : Hid ((es ++ [((j : Int), 11)]) ++ errA s TT (j + 1) (A.drop (j + 1)) (P.drop (j + 1)) = callE s B P A) := by
                have e := HE.out
                rw [HED.out, if_pos (by rw [HWA.out]; rfl)] at e
                show _ = _
                rw [← e]; simp
              clear HED HE HWA
              go_upto_region 15 with fail
              go_wp2_with (first
                | (refine boxRow1 39 51 2 (.agg #[.int .i64 0, .int .i64 0]) Try.underlying39 (by kernel_rfl) rfl (by decide) rfl _ rfl [.int .i64 ((j : Int)), .int .i64 (11)] rfl rfl ?_)
                | (refine rowE_append rfl _ _ rfl V.heap.size m ce oe es ((j : Int), 11) rfl rfl HRE5.out (by omega) (by exact HSZ.out) ?_; intro o9 c9 w9 hr9 hb9; have HR9 := Lib.hid hr9; have HB9 := Lib.hid hb9; clear hr9 hb9))
              case roundEnd => exact ⟨⟨j + 1, m + 1, o9, c9, _, rfl, by push_cast; rfl, hj, (by show m + 1 ≤ _; omega), HE2, HR9, HR5.out.trans (HB9.out.mono (Nat.le_refl _))⟩, by simp [RowKit.intOf]; omega⟩
          · have hj1 : ¬ ((j : Int) < (nM : Int)) := by omega
            have HTOT : Hid (es = callE s B P A) := by
              have e := HE.out
              rw [errA_end (by have := HMN.out; have := HNA.out; have := HNP.out; omega), List.append_nil] at e
              exact e
            have HFN := Lib.hid (fun X (hX : Below wr.heap.size wr X) => substP_any q hq TT oT nT cT HNT.out HTF.out Rr _ X HFR.out (HVR.out.below (stepB HR.out hX (Nat.le_refl _))) (HVT.out.below (stepB HR.out hX (Nat.le_refl _))))
            have r3 := c1 3
            have r4 := c1 4
            have r5 := c1 5
            have r6 := c1 6
            have r7 := c1 7
            simp only [List.getElem?_toArray, List.getElem?_cons_zero, List.getElem?_cons_succ] at r3 r4 r5 r6 r7
            clear c0 c1 KK0 hj HE
            go_wp2_with fail
            refine (HFN.out _ (Below.refl _ _)).mono ?_
            rintro e X ⟨ru, rfl, hru, hbX⟩
            obtain ⟨za, zn, zp, zq, zz, ze, zk, rfl⟩ := hru.toY.expl
            have HRU := Lib.hid hru
            have hX := stepB HR.out hbX (Nat.le_refl _)
            have hXW := stepB HVW.out hX (Nat.le_refl _)
            have kx := HBX.out.at_ hXW 2 rfl
            have c4 : ∀ i, X.cell? ⟨w.heap.size + 1 + 1, i, none⟩ = _ := kx.cell
            have f4 : ∀ i, X.frozen? ⟨w.heap.size + 1 + 1, i, none⟩ = false := kx.frozen
            have HX := Lib.hid hX
            have HXW := Lib.hid (HBX.out.below hXW)
            have HEX := Lib.hid (RowQ.below keepW HRE.out hbX)
            have hlt : w.heap.size + 1 + 1 < V.heap.size := (HBX.out.at_ HVW.out 2 rfl).lt
            have HLT := Lib.hid hlt
            have HWS := Lib.hid HR.out.size
            clear hbX hX hXW kx hlt hru r3 r4 r5 r6 r7 KK1
            go_wp2
            refine bodyPost_ret (v := .tuple #[.agg #[.int .i64 za, .string zp, .string zq, .int .i64 zn, .slice zz ze zk], .slice oe m ce]) (by simp [results, Try.results17, go_sem, c4]) rfl ?_
            refine ⟨_, _, rfl, ?_, ?_, below5 HXW.out (by omega) _ _ _ _ _⟩
            · rw [HCT.out]
              refine HRU.out.keep (by have h1 := HLT.out; have h2 := HWS.out; omega) fun a u ha hc => ?_
              have h1 := HLT.out
              have h2 := HWS.out
              have hne : ¬ a.block = w.heap.size + 1 + 1 := by omega
              exact far1 (far1 (far1 (far1 (far1 hc hne) hne) hne) hne) hne
            · rw [← HTOT.out]
              exact (RowE.farC5 HEX.out HLT.out _ _ _ _ _).es
end Go.Proofs.Ytlakmniaocpaaaa
