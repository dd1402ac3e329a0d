/-
  InferPlain: a call of a function without bounds is right just if each argument may stand. No condition.
-/
import Derived.Test.YtlakmniaocpaaaaM24
import Derived.Test.YtlakmniaocpaaaaM25
import Derived.ProofKit
import Derived.OpenShut
import Derived.ChangeMaps5
import Derived.Test.YtlakmniaocpaaaaM01
namespace Go.Proofs.Ytlakmniaocpaaaa.inferPlain
open Go.RowKit
open Go.Lib hiding intOf

set_option maxRecDepth 100000 in
set_option maxHeartbeats 32000000 in
theorem walk (haw : Awk) (s : SCP) (cs : List Value) (f : FN) (cf : List Value) (A : List GY) (oA : Option Addr) (cA : Nat) (w : World) (hs : IsSc w s cs) (hfs : FitS 140737488351232 s) (hf : IsFn w f cf) (wfP : WfYs f.params) (fB : FitYs 140737488351232 f.bounds) (fP : FitYs 140737488351232 f.params) (fR : FitY 140737488351232 f.result) (hA : IsYs w oA 0 A) (lcA : A.length ≤ cA) (cmA : cA ≤ maxLen) (fA : FitYs 140737488351232 A) (_wfA : WfYs A) :
    Calls Try.prog 7 #[.agg cs.toArray, .agg cf.toArray, .slice oA A.length cA] w fun e w' => e = .returned (.bool true) ∧ Below w.heap.size w w' := by
  have hlA : A.length ≤ 9223372036854775807 := by unfold maxLen at cmA; omega
  have HAW := Lib.hid haw
  have HS := Lib.hid hs
  have HF := Lib.hid hf
  have HFS := Lib.hid hfs
  have HWF := Lib.hid wfP
  have HFB := Lib.hid fB
  have HFP := Lib.hid fP
  have HFR := Lib.hid fR
  have HA := Lib.hid hA
  have HLC := Lib.hid lcA
  have HCM := Lib.hid cmA
  have HFA := Lib.hid fA
  obtain ⟨o, o1, o2, o3, o4, k, n1, k1, n2, k2, k3, n4, k4, rfl, _⟩ := hs
  obtain ⟨fname, B, P, Rr⟩ := f
  obtain ⟨oB, kB, oP, kP, ra, rp, rq, rn, ro, re, rk, rfl, lcB, cmB, lcP, cmP, hB, hP, hR⟩ := hf
  dsimp only at *
  have hlP : P.length ≤ 9223372036854775807 := by unfold maxLen at cmP; omega
  have hlB : B.length ≤ 9223372036854775807 := by unfold maxLen at cmB; omega
  have HS1 := Lib.hid (fun V (hV : Below w.heap.size w V) => small12_any A oA cA w V hA hlA hV)
  have HS2 := Lib.hid (fun V (hV : Below w.heap.size w V) => small12_any P oP kP w V hP hlP hV)
  have HS3 := Lib.hid (fun V (hV : Below w.heap.size w V) => small12_any B oB kB w V hB hlB hV)
  have HS4 := Lib.hid (fun V (hV : Below w.heap.size w V) => little_any s _ w V HS.out hV)
  have HS5 := Lib.hid (fun V (hV : Below w.heap.size w V) => parts12_any _ Rr _ 0 V (Nat.lt_succ_self _) (hR.below hV) (Int.le_refl _) (by decide))
  have HC1 : Hid (∀ V, Below w.heap.size w V → Sml P → Calls Try.prog 17 #[.agg #[.slice o s.W.length k, .slice o1 n1 k1, .slice o2 n2 k2, .slice o3 s.bounds.length k3, .slice o4 n4 k4], .agg #[.string fname, .slice oB B.length kB, .slice oP P.length kP, .int .i64 ra, .string rp, .string rq, .int .i64 rn, .slice ro re rk], .slice oA A.length cA] V fun e w' => ∃ u v, e = .returned (.tuple #[u, v]) ∧ IsY w' (callT B P Rr A) u ∧ IsEs w' (callE s B P A) v ∧ Below V.heap.size V w') := Lib.hid (fun V hV hs => callP_any 140737488351232 (by decide) s ⟨fname, B, P, Rr⟩ A _ _ oA cA w V HS.out HFS.out HF.out HA.out HLC.out HCM.out hV (Nat.le_trans hs.1 (by decide)) HWF.out (cnts_small hs) HFA.out HFP.out HFR.out)
  have HC2 : Hid (∀ V, Below w.heap.size w V → Sml A → Sml P → Sml B → cntY Rr ≤ 60 → Calls Try.prog 18 #[.agg #[.slice o s.W.length k, .slice o1 n1 k1, .slice o2 n2 k2, .slice o3 s.bounds.length k3, .slice o4 n4 k4], .agg #[.string fname, .slice oB B.length kB, .slice oP P.length kP, .int .i64 ra, .string rp, .string rq, .int .i64 rn, .slice ro re rk], .slice oA A.length cA] V fun e w' => ∃ u v, e = .returned (.tuple #[u, v]) ∧ IsY w' (callT B P Rr A) u ∧ IsEs w' (callE s B P A) v ∧ Below V.heap.size V w') := Lib.hid (fun V hV ha hp hb hr => callR_any s ⟨fname, B, P, Rr⟩ A _ _ oA cA V (HS.out.below hV) (HF.out.below hV) (HA.out.below hV) ha.1 hp.1 hb.1 (fun p h => Nat.le_trans (hp.2 p h) (by decide)) (Nat.le_trans hr (by decide)))
  have HC3 : Hid (∀ V, Below w.heap.size w V → Sml P → Calls Try.prog 17 #[.agg #[.slice o s.W.length k, .slice o1 n1 k1, .slice o2 n2 k2, .slice o3 s.bounds.length k3, .slice o4 n4 k4], .agg #[.string fname, .slice none 0 0, .slice oP P.length kP, .int .i64 ra, .string rp, .string rq, .int .i64 rn, .slice ro re rk], .slice oA A.length cA] V fun e w' => ∃ u v, e = .returned (.tuple #[u, v]) ∧ IsY w' (callT [] P Rr A) u ∧ IsEs w' (callE s [] P A) v ∧ Below V.heap.size V w') := Lib.hid (fun V hV hs => callP_any 140737488351232 (by decide) s ⟨fname, [], P, Rr⟩ A _ _ oA cA w V HS.out HFS.out ⟨none, 0, oP, kP, ra, rp, rq, rn, ro, re, rk, rfl, Nat.le_refl _, Nat.zero_le _, lcP, cmP, IsYs.nil _ _ _, hP, hR⟩ HA.out HLC.out HCM.out hV (Nat.le_trans hs.1 (by decide)) HWF.out (cnts_small hs) HFA.out HFP.out HFR.out)
  have HPY := Lib.hid hP
  have HBY := Lib.hid hB
  have HRY := Lib.hid hR
  have HLP := Lib.hid lcP
  have HCP := Lib.hid cmP
  obtain ⟨nB, hnB⟩ : ∃ nB, B.length = nB := ⟨_, rfl⟩
  obtain ⟨nP, hnP⟩ : ∃ nP, P.length = nP := ⟨_, rfl⟩
  obtain ⟨nA, hnA⟩ : ∃ nA, A.length = nA := ⟨_, rfl⟩
  rw [hnA] at HS1 HLC HC1 HC2 HC3
  rw [hnP] at HS2 HF HLP HC1 HC2 HC3
  rw [hnB] at HS3 HF HC1 HC2
  rw [hnA, hnP, hnB]
  have HNB := Lib.hid hnB
  have HNP := Lib.hid hnP
  have HNA := Lib.hid hnA
  clear haw hfs wfP fB fP fR hA lcA cmA fA hlA lcB cmB lcP cmP hB hP hR hlP hlB hnB hnP hnA
  generalize s.W.length = nW at *
  generalize s.bounds.length = nb at *
  obtain ⟨W1, hW1, HBX⟩ := bx2 w #[.slice o nW k, .slice o1 n1 k1, .slice o2 n2 k2, .slice o3 nb k3, .slice o4 n4 k4] #[.string fname, .slice oB nB kB, .slice oP nP kP, .int .i64 ra, .string rp, .string rq, .int .i64 rn, .slice ro re rk] 32 36
  have HW := Lib.hid hW1
  clear hW1
  go_enter Try.func7, Try.ntmps7
  go_wp2_with fail
  refine (HAW.out _).mono ?_
  rintro e U0 ⟨rfl, hb⟩
  rw [HW.out] at hb
  have H0 := Lib.hid hb
  clear hb HW
  have c0 := (HBX.out.at_ H0.out 0 rfl).cell
  rw [Nat.add_zero] at c0
  have c1 := (HBX.out.at_ H0.out 1 rfl).cell
  go_wp2_with fail
  refine (HS1.out _ (HBX.out.below H0.out)).mono ?_
  rintro e U1 ⟨⟨b1, rfl, hs1⟩, hb⟩
  have H1 := Lib.hid (stepB H0.out hb (Nat.le_refl _))
  have HQ1 := Lib.hid hs1
  clear hs1
  clear hb c0 c1
  have c0 := (HBX.out.at_ H1.out 0 rfl).cell
  rw [Nat.add_zero] at c0
  have c1 := (HBX.out.at_ H1.out 1 rfl).cell
  go_wp2_with fail
  refine (HS2.out _ (HBX.out.below H1.out)).mono ?_
  rintro e U2 ⟨⟨b2, rfl, hs2⟩, hb⟩
  have H2 := Lib.hid (stepB H1.out hb (Nat.le_refl _))
  have HQ2 := Lib.hid hs2
  clear hs2
  clear hb c0 c1
  have c0 := (HBX.out.at_ H2.out 0 rfl).cell
  rw [Nat.add_zero] at c0
  have c1 := (HBX.out.at_ H2.out 1 rfl).cell
  go_wp2_with fail
  refine (HS4.out _ (HBX.out.below H2.out)).mono ?_
  rintro e U3 ⟨⟨b4, rfl⟩, hb⟩
  have H3 := Lib.hid (stepB H2.out hb (Nat.le_refl _))
  clear hb c0 c1
  have c0 := (HBX.out.at_ H3.out 0 rfl).cell
  rw [Nat.add_zero] at c0
  have c1 := (HBX.out.at_ H3.out 1 rfl).cell
  cases b1 with
  | false =>
    go_wp2
    go_ret
    exact ⟨rfl, (HBX.out.below H3.out)⟩
  | true =>
    cases b2 with
    | false =>
      go_wp2
      go_ret
      exact ⟨rfl, (HBX.out.below H3.out)⟩
    | true =>
      cases b4 with
      | false =>
        go_wp2
        go_ret
        exact ⟨rfl, (HBX.out.below H3.out)⟩
      | true =>
        go_wp2_with fail
        refine (HS5.out _ (HBX.out.below H3.out)).mono ?_
        rintro e U4 ⟨⟨r5, rfl, hr1, hr2, hr3⟩, hb⟩
        have H4 := Lib.hid (stepB H3.out hb (Nat.le_refl _))
        have HR5 := Lib.hid hr3
        clear hr1 hr2 hr3
        clear hb c0 c1
        have c0 := (HBX.out.at_ H4.out 0 rfl).cell
        rw [Nat.add_zero] at c0
        have c1 := (HBX.out.at_ H4.out 1 rfl).cell
        by_cases h60 : r5 > 60
        · go_wp2
          go_ret
          exact ⟨rfl, (HBX.out.below H4.out)⟩
        obtain ⟨U5, hZ⟩ : ∃ Z, U4.setCell ⟨w.heap.size + 1, 1, none⟩ (.slice none 0 0) = Z := ⟨_, rfl⟩
        have f1 := (HBX.out.at_ H4.out 1 rfl).frozen 1
        have BXa : Hid (Blk U5 w.heap.size 32 #[.slice o nW k, .slice o1 n1 k1, .slice o2 n2 k2, .slice o3 nb k3, .slice o4 n4 k4]) := by rw [← hZ]; exact Blk.far (HBX.out.at_ H4.out 0 rfl) (by simp) _
        have BXb : Hid (Blk U5 (w.heap.size + 1) 36 #[.string fname, .slice none 0 0, .slice oP nP kP, .int .i64 ra, .string rp, .string rq, .int .i64 rn, .slice ro re rk]) := by rw [← hZ]; exact Blk.set_ (HBX.out.at_ H4.out 1 rfl) 1 _
        have H5 : Hid (Below w.heap.size w U5) := by rw [← hZ]; exact (HBX.out.below H4.out).setCell (Nat.le_succ _) _
        have HHZ := Lib.hid hZ
        clear hZ
        have da := BXa.out.cell
        have db := BXb.out.cell
        go_wp2_with (rw [HHZ.out])
        clear c0 c1 HHZ f1
        refine (HC3.out _ H5.out (HQ2.out (by first | rfl | trivial))).mono ?_
        rintro e U6 ⟨ux, vx, rfl, hu, hv, hb⟩
        obtain ⟨xa, xn, xp, xq, xo, xe, xk, rfl⟩ := hu.expl
        obtain ⟨ovx, kvx, rfl⟩ : ∃ o k, vx = .slice o (callE s [] P A).length k := by obtain ⟨o, k, h, _⟩ := hv; exact ⟨o, k, h⟩
        have H6 := Lib.hid (stepB H5.out hb (Nat.le_refl _))
        have BXa := Lib.hid (blkB BXa.out hb)
        have BXb := Lib.hid (blkB BXb.out hb)
        clear hb  da db
        obtain ⟨U7, hX⟩ : ∃ X, U6.alloc (.cells #[.int .i64 xa, .string xp, .string xq, .int .i64 xn, .slice xo xe xk] 34) = X := ⟨_, rfl⟩
        have hb : Below U6.heap.size U6 U7 := by rw [← hX]; exact (Below.refl _ _).alloc (Nat.le_refl _) _
        have H7 := Lib.hid (stepB H6.out hb (Nat.le_refl _))
        have BXx : Hid (Blk U7 U6.heap.size 34 #[.int .i64 xa, .string xp, .string xq, .int .i64 xn, .slice xo xe xk]) := by rw [← hX]; exact bkN rfl _ _
        have HUx := Lib.hid (hu.below hb)
        have HVx := Lib.hid (hv.belowE hb)
        have BXa := Lib.hid (blkB BXa.out hb)
        have BXb := Lib.hid (blkB BXb.out hb)
        have HXx := Lib.hid hX
        clear hb hu hv hX
        have da := BXa.out.cell
        have db := BXb.out.cell
        have dx := BXx.out.cell
        go_wp2_with (rw [HXx.out])
        have HVP := Lib.hid (plain_call (s := s) (P := P) (args := A))
        have HUx : Hid (IsY U7 Rr (.agg #[.int .i64 xa, .string xp, .string xq, .int .i64 xn, .slice xo xe xk])) := by have h := HUx.out; rw [plain_type] at h; exact h
        clear HVx HS1 HS2 HS4 HS5 HC1 HC2 HC3 HQ1 HQ2 HR5 da db dx HXx
        obtain ⟨nE, hnE⟩ : ∃ n, (callE s [] P A).length = n := ⟨_, rfl⟩
        have HNE := Lib.hid hnE
        rw [hnE]
        clear hnE
        have HBR := Lib.hid (Below.refl U7.heap.size U7)
        have HI0 : Hid (((nA : Int) == (nP : Int)) = true ↔ (A.length = P.length ∧ ∀ (k : Nat) (a p : GY), k < 0 → A[k]? = some a → P[k]? = some p → assignS s a p = true)) := by
          show _ ↔ _
          rw [HNA.out, HNP.out, beq_iff_eq]
          exact ⟨fun h => ⟨by omega, fun k _ _ hk => by omega⟩, fun h => by have := h.1; omega⟩
        generalize hb0 : ((nA : Int) == (nP : Int)) = b0 at *
        clear hb0
        go_loopw [13, 14] (fun r i wr => ∃ (j : Nat) (b : Bool), r = .bool b ∧ i = .int .i64 (j : Nat) ∧ Hid (j ≤ nA ∧ j ≤ nP) ∧ Hid (b = true ↔ (A.length = P.length ∧ ∀ (k : Nat) (a p : GY), k < j → A[k]? = some a → P[k]? = some p → assignS s a p = true)) ∧ Hid (Below U7.heap.size U7 wr)) (fun _ i _ => nA - (RowKit.intOf i).toNat)
        case atStart => exact ⟨0, _, rfl, rfl, ⟨Nat.zero_le _, Nat.zero_le _⟩, HI0, HBR⟩
        case round =>
          obtain ⟨j, b, rfl, rfl, HJ, HI, HR⟩ := hrel
          clear HI0 HBR
          have BXa := Lib.hid (blkB BXa.out HR.out)
          have BXb := Lib.hid (blkB BXb.out HR.out)
          have BXx := Lib.hid (blkB BXx.out HR.out)
          have db := BXb.out.cell
          have hww : Below w.heap.size w wr := stepB H7.out HR.out (Nat.le_refl _)
          have HWW := Lib.hid hww
          by_cases hjA : j < nA
          · have hjA' : ((j : Int) < (nA : Int)) := by omega
            by_cases hjP : j < nP
            · have hjP' : ((j : Int) < (nP : Int)) := by omega
              have hj0 : (0 : Int) ≤ (j : Int) := by omega
              have hqA : A.length ≤ maxLen := Nat.le_trans (by rw [HNA.out]; exact HLC.out) HCM.out
              have hq : nA ≤ 9223372036854775807 := by have e := HNA.out; unfold maxLen at hqA; omega
              have hwj := IntWalk.i64_in ((j : Int) + 1) ⟨by omega, by omega⟩
              obtain ⟨a, ha⟩ : ∃ x, A[j]? = some x := ⟨_, List.getElem?_eq_getElem (by rw [HNA.out]; exact hjA)⟩
              obtain ⟨p, hp⟩ : ∃ x, P[j]? = some x := ⟨_, List.getElem?_eq_getElem (by rw [HNP.out]; exact hjP)⟩
              have HI1 : Hid ((b && assignS s a p) = true ↔ (A.length = P.length ∧ ∀ (k : Nat) (a p : GY), k < j + 1 → A[k]? = some a → P[k]? = some p → assignS s a p = true)) := by
                show _ ↔ _
                rw [Bool.and_eq_true, HI.out]
                refine ⟨fun h => ⟨h.1.1, fun k x y hk hx hy => ?_⟩, fun h => ⟨⟨h.1, fun k x y hk => h.2 k x y (by omega)⟩, h.2 j a p (by omega) ha hp⟩⟩
                by_cases hkj : k = j
                · subst hkj
                  rw [ha] at hx; rw [hp] at hy
                  obtain rfl := Option.some.inj hx
                  obtain rfl := Option.some.inj hy
                  exact h.2
                · exact h.1.2 k x y (by omega) hx hy
              obtain ⟨aA, x0, x1, x2, x3, x4, rfl, hca, haa⟩ := HA.out.at_ j ha
              obtain ⟨aP, y0, y1, y2, y3, y4, rfl, hcp, hpp⟩ := HPY.out.at_ j hp
              rw [Nat.zero_add] at hca hcp
              have HCA : Hid (∀ (i : Nat) (v : Value), [x0, x1, x2, x3, x4][i]? = some v → wr.cell? ((aA.add (j * 5)).add i) = some v) := mvc hww hca
              have HCP : Hid (∀ (i : Nat) (v : Value), [y0, y1, y2, y3, y4][i]? = some v → wr.cell? ((aP.add (j * 5)).add i) = some v) := mvc hww hcp
              have HCS : Hid (∀ (i : Nat) (v : Value), [.slice o nW k, .slice o1 n1 k1, .slice o2 n2 k2, .slice o3 nb k3, .slice o4 n4 k4][i]? = some v → wr.cell? ((⟨w.heap.size, 0, none⟩ : Addr).add i) = some v) := bk0 BXa.out
              have HKE := Lib.hid (fun X (hX : Below wr.heap.size wr X) => assignQ_any s a p _ _ _ w X HS.out haa hpp (stepB HWW.out hX (Nat.le_refl _)) HFS.out)
              generalize assignS s a p = tt at *
              clear hca haa hcp hpp ha hp HI hww hqA HVP
              go_wp2_with fail
              refine wp_region_still_tail 10 (by kernel_rfl) (by kernel_rfl) ?_
              simp only [List.take_succ_cons, List.take_zero, List.drop_succ_cons, List.drop_zero]
              refine stillLoadG 32 5 sizeS5 Try.underlying32 rfl _ rfl ⟨w.heap.size, 0, none⟩ rfl HCS.out rfl ?_
              iterate 3 still_step
              refine stillLoadG 34 5 size5 Try.underlying34 rfl _ rfl (aA.add (j * 5)) rfl HCA.out rfl ?_
              iterate 4 still_step
              refine stillLoadG 34 5 size5 Try.underlying34 rfl _ rfl (aP.add (j * 5)) rfl HCP.out rfl ?_
              refine wpStill_nil ?_
              change wpList _ _ _ _ _ wr.drew
              go_wp2_with fail
              refine (HKE.out _ (Below.refl _ _).drew).mono ?_
              rintro e w5 ⟨rfl, hb5⟩
              have HR5 := Lib.hid (stepB HR.out ((Below.refl _ _).drew.trans hb5) (Nat.le_refl _))
              clear hb5 HCA HCP HCS HKE db
              cases b with
              | true =>
                go_wp2
                case roundEnd => exact ⟨⟨j + 1, tt, rfl, by push_cast; rfl, ⟨hjA, hjP⟩, HI1, HR5⟩, by simp [RowKit.intOf]; omega⟩
              | false =>
                go_wp2
                case roundEnd => exact ⟨⟨j + 1, false, rfl, by push_cast; rfl, ⟨hjA, hjP⟩, HI1, HR5⟩, by simp [RowKit.intOf]; omega⟩
            · have hjP' : ¬ ((j : Int) < (nP : Int)) := by omega
              have HB : Hid (b = true ↔ callE s [] P A = []) := by
                show _ ↔ _
                rw [HI.out, HVP.out]
                refine ⟨fun h => ⟨h.1, fun k a p ha hp => h.2 k a p (by have h1 := (List.getElem?_eq_some_iff.1 ha).1; have h2 := (List.getElem?_eq_some_iff.1 hp).1; have e1 := HNA.out; have e2 := HNP.out; omega) ha hp⟩, fun h => ⟨h.1, fun k a p _ => h.2 k a p⟩⟩
              have dx := BXx.out.cell
              clear hww HI HVP
              go_wp2_with fail
              refine (equal_any _ Rr _ _ _ (Nat.lt_succ_self _) (HUx.out.below HR.out) (HRY.out.below HWW.out)).mono ?_
              rintro e U9 ⟨rfl, hb⟩
              have H9 := Lib.hid (stepB HWW.out hb (Nat.le_refl _))
              clear hb db dx
              cases b with
              | true =>
                have hE : nE = 0 := by have h := HB.out.1 rfl; have e := HNE.out; rw [h] at e; exact e.symm
                subst hE
                go_wp2
                go_ret
                exact ⟨rfl, H9.out⟩
              | false =>
                have hE : ¬ nE = 0 := fun h => by have e := HNE.out; rw [h] at e; have := HB.out.2 (List.eq_nil_of_length_eq_zero e); exact absurd this (by decide)
                have hE1 : ((nE : Int) == 0) = false := by rw [beq_eq_false_iff_ne]; omega
                go_wp2
                go_ret
                exact ⟨rfl, H9.out⟩
          · have hjA' : ¬ ((j : Int) < (nA : Int)) := by omega
            have HB : Hid (b = true ↔ callE s [] P A = []) := by
              show _ ↔ _
              rw [HI.out, HVP.out]
              refine ⟨fun h => ⟨h.1, fun k a p ha hp => h.2 k a p (by have h1 := (List.getElem?_eq_some_iff.1 ha).1; have h2 := (List.getElem?_eq_some_iff.1 hp).1; have e1 := HNA.out; have e2 := HNP.out; omega) ha hp⟩, fun h => ⟨h.1, fun k a p _ => h.2 k a p⟩⟩
            have dx := BXx.out.cell
            clear hww HI HVP
            go_wp2_with fail
            refine (equal_any _ Rr _ _ _ (Nat.lt_succ_self _) (HUx.out.below HR.out) (HRY.out.below HWW.out)).mono ?_
            rintro e U9 ⟨rfl, hb⟩
            have H9 := Lib.hid (stepB HWW.out hb (Nat.le_refl _))
            clear hb db dx
            cases b with
            | true =>
              have hE : nE = 0 := by have h := HB.out.1 rfl; have e := HNE.out; rw [h] at e; exact e.symm
              subst hE
              go_wp2
              go_ret
              exact ⟨rfl, H9.out⟩
            | false =>
              have hE : ¬ nE = 0 := fun h => by have e := HNE.out; rw [h] at e; have := HB.out.2 (List.eq_nil_of_length_eq_zero e); exact absurd this (by decide)
              have hE1 : ((nE : Int) == 0) = false := by rw [beq_eq_false_iff_ne]; omega
              go_wp2
              go_ret
              exact ⟨rfl, H9.out⟩
open Go.ChangeShapes Go.WideShapes Go.ChangeAt Go.ChangeMaps
theorem laidOut : laidOutB Try.prog = true := by kernel_rfl
theorem own : ownKnob Try.prog.godebug = none := by kernel_rfl

theorem int_range {n : Int} (h : (Lit.int .i64 n).wf = true) : -9223372036854775808 ≤ n ∧ n ≤ 9223372036854775807 := by
  have h2 : IntKind.i64.min ≤ n ∧ n ≤ IntKind.i64.max := by
    unfold Lit.wf at h
    simpa only [Bool.and_eq_true, decide_eq_true_eq] using h
  rw [show IntKind.i64.min = -9223372036854775808 by decide, show IntKind.i64.max = 9223372036854775807 by decide] at h2
  exact h2

set_option maxRecDepth 100000 in
theorem lifted (os : Os) (started : os.Started) (H : Type) (enc : TypeId × Value → H) :
    ReturnsInHanded {} Try.checked os 7 .any (Rows.inferPlainSpec.pre6 enc Try.prog Try.f7 Rows.inferPlainRow.domain false) (Rows.inferPlainSpec.post enc Try.prog Try.f7 false true false false) := by
  refine returnsInHanded_of_change_sized (C := Try.checked) own started (by kernel_rfl) Try.func7
    (ChangeSpec.witness6 (enc := enc) (C := Try.checked) false ⟨#[], #[.agg #[.slice none 0 0, .slice none 0 0, .slice none 0 0, .slice none 0 0, .slice none 0 0], .agg #[.string .empty, .slice none 0 0, .slice none 0 0, .int .i64 0, .string .empty, .string .empty, .int .i64 0, .slice none 0 0], .slice none 0 0], []⟩ 8 (by kernel_rfl) (by kernel_rfl) (by kernel_rfl) (by kernel_rfl)) ?_
  intro W base args ds gs before hval0 hW hcnd hsz _
  have hval : ∀ (j : Nat) t v, Try.f7.params[j]? = some t → args[j]? = some v → Value.okWide Try.prog W .any base t v := hval0
  have hW' := hW
  obtain ⟨p, q, hA0, hV, rfl, hfz, hnd⟩ := hW
  have hA : DataW.TrodAll enc Try.prog W 0 (fun _ => true) true Try.f7.params.toList args.toList ds p := hA0
  rw [Try.params7] at hA hval
  obtain ⟨v0, vs0, d0, ds0, p0, q0, hargs, rfl, rfl, h0, r0⟩ := trodAll_cons hA
  obtain ⟨v1, vs1, d1, ds1, p1, q1, rfl, rfl, rfl, h1, r1⟩ := trodAll_cons r0
  obtain ⟨v2, vs2, d2, ds2, p2, q2, rfl, rfl, rfl, h2, r2⟩ := trodAll_cons r1
  obtain ⟨rfl, rfl, rfl⟩ := trodAll_nil r2
  obtain rfl : args = #[v0, v1, v2] := by cases args; simp_all
  obtain ⟨rfl, rfl⟩ := trodVars_none hV
  have t0 := h0
  obtain ⟨fl0, k0⟩ := h0
  have lt0 : ∀ x ∈ p0, x.block < W.heap.size := fun x hx => by simpa using hW'.lt x (by simp [hx])
  obtain ⟨cc0, rfl, _⟩ := okWide_struct Try.underlying32 (hval 0 32 v0 rfl rfl)
  have kk0 : DataW.trod enc Try.prog W 0 (fun _ => true) true fl0 32 cc0.toList = some (d0, p0) := k0
  obtain ⟨cl0, rfl⟩ : ∃ cl : List Value, cc0 = cl.toArray := ⟨cc0.toList, by simp⟩
  obtain ⟨sc0, g0, s0⟩ := open_sc fl0 _ _ kk0
  have m0 := s0 reachBytes (fun k hk => by simpa using List.all_eq_true.1 hsz k (DataW.weights_mem_each (j := 0) rfl rfl k hk))
  rw [show cl0.toArray.toList = cl0 from rfl] at g0
  have t1 := h1
  obtain ⟨fl1, k1⟩ := h1
  have lt1 : ∀ x ∈ p1, x.block < W.heap.size := fun x hx => by simpa using hW'.lt x (by simp [hx])
  obtain ⟨cc1, rfl, _⟩ := okWide_struct Try.underlying36 (hval 1 36 v1 rfl rfl)
  have kk1 : DataW.trod enc Try.prog W 0 (fun _ => true) true fl1 36 cc1.toList = some (d1, p1) := k1
  obtain ⟨cl1, rfl⟩ : ∃ cl : List Value, cc1 = cl.toArray := ⟨cc1.toList, by simp⟩
  obtain ⟨fn1, g1, b1, s1⟩ := open_fn fl1 _ _ kk1
  obtain ⟨m1, n1, rr1⟩ := s1 reachBytes (fun k hk => by simpa using List.all_eq_true.1 hsz k (DataW.weights_mem_each (j := 1) rfl rfl k hk))
  rw [show cl1.toArray.toList = cl1 from rfl] at g1
  have t2 := h2
  obtain ⟨fl2, k2⟩ := h2
  have lt2 : ∀ x ∈ p2, x.block < W.heap.size := fun x hx => by simpa using hW'.lt x (by simp [hx])
  obtain ⟨oo2, ll2, cc2, rfl⟩ := okWide_slice Try.underlying23 (hval 2 23 v2 rfl rfl)
  have kk2 : DataW.trod enc Try.prog W 0 (fun _ => true) true fl2 23 [.slice oo2 ll2 cc2] = some (d2, p2) := k2
  obtain ⟨o2, l2, c2, e2, lc2, cm2, g2, s2⟩ := open_ys kk2
  have m2 := (s2 reachBytes (fun k hk => by simpa using List.all_eq_true.1 hsz k (DataW.weights_mem_each (j := 2) rfl rfl k hk))).1
  simp only [List.cons.injEq, and_true, Value.slice.injEq] at e2
  obtain ⟨rfl, rfl, rfl⟩ := e2
  have b2 : WfYs l2 := wf_ys rfl kk2 g2
  clear hA0 hval0
  simp only [List.append_nil] at hW'
  refine (walk awake_any sc0 cl0 fn1 cl1 l2 oo2 cc2 W g0 m0 g1 b1 m1 n1 rr1 g2 lc2 cm2 m2 b2).mono fun e W' ⟨he, hg⟩ => ?_
  subst he
  exact ⟨_, rfl, _, _, _, [], _, [], hW', (trodAll_cons_mk (shut_bool Try.underlying4 _) trodAll_mk0), (trodAll_cons_mk (Below.trod laidOut (by kernel_rfl) (of_decide_eq_true (by kernel_rfl)) t0 hg lt0) (trodAll_cons_mk (Below.trod laidOut (by kernel_rfl) (of_decide_eq_true (by kernel_rfl)) t1 hg lt1) (trodAll_cons_mk (Below.trod laidOut (by kernel_rfl) (of_decide_eq_true (by kernel_rfl)) t2 hg lt2) trodAll_mk0))), rfl, hg.frame _, fun h => by cases h⟩

theorem over : Rows.inferPlainRow.holds Try.pinned (OpenSpec.ofChange Rows.inferPlainSpec) :=
  OpenClaim.holds_of_wide 7 Try.f7 rfl rfl rfl rfl rfl rfl rfl ⟨rfl, rfl, rfl, rfl, rfl⟩ rfl rfl rfl rfl rfl (by kernel_rfl) Try.func7 (by kernel_rfl)
    (of_decide_eq_true (by kernel_rfl)) (by unfold Func.isWrapper; first | (rw [if_pos (by decide +kernel)]; kernel_rfl) | (rw [if_neg (by decide +kernel)]; exact ⟨rfl, rfl⟩))
    (fun os started H enc _ => lifted os started H enc)

/-- InferPlain answers true. -/
theorem proved : Rows.InferPlainSaid :=
  over

end Go.Proofs.Ytlakmniaocpaaaa.inferPlain
