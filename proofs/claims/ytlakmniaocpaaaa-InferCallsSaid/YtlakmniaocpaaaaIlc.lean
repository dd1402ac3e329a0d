/-
  InferCalls: any call's type, and what is wrong, in any scope, is what the chapter says. No condition.
-/
import Derived.Test.YtlakmniaocpaaaaM24
import Derived.Test.YtlakmniaocpaaaaM25
import Derived.ProofKit
import Derived.OpenShut
import Derived.ChangeMaps5
namespace Go.Proofs.Ytlakmniaocpaaaa.inferCalls
open Go.RowKit
open Go.Lib hiding intOf

set_option maxRecDepth 100000 in
set_option maxHeartbeats 32000000 in
theorem walk (haw : Awk) (s : SCP) (cs : List Value) (f : FN) (cf : List Value) (A : List GY) (oA : Option Addr) (cA : Nat) (w : World) (hs : IsSc w s cs) (hfs : FitS 140737488351232 s) (hf : IsFn w f cf) (wfP : WfYs f.params) (fB : FitYs 140737488351232 f.bounds) (fP : FitYs 140737488351232 f.params) (fR : FitY 140737488351232 f.result) (hA : IsYs w oA 0 A) (lcA : A.length ≤ cA) (cmA : cA ≤ maxLen) (fA : FitYs 140737488351232 A) (_wfA : WfYs A) :
    Calls Try.prog 5 #[.agg cs.toArray, .agg cf.toArray, .slice oA A.length cA] w fun e w' => e = .returned (.bool true) ∧ Below w.heap.size w w' := by
  have hlA : A.length ≤ 9223372036854775807 := by unfold maxLen at cmA; omega
  have HAW := Lib.hid haw
  have HS := Lib.hid hs
  have HF := Lib.hid hf
  have HFS := Lib.hid hfs
  have HWF := Lib.hid wfP
  have HFB := Lib.hid fB
  have HFP := Lib.hid fP
  have HFR := Lib.hid fR
  have HA := Lib.hid hA
  have HLC := Lib.hid lcA
  have HCM := Lib.hid cmA
  have HFA := Lib.hid fA
  obtain ⟨o, o1, o2, o3, o4, k, n1, k1, n2, k2, k3, n4, k4, rfl, _⟩ := hs
  obtain ⟨fname, B, P, Rr⟩ := f
  obtain ⟨oB, kB, oP, kP, ra, rp, rq, rn, ro, re, rk, rfl, lcB, cmB, lcP, cmP, hB, hP, hR⟩ := hf
  dsimp only at *
  have hlP : P.length ≤ 9223372036854775807 := by unfold maxLen at cmP; omega
  have hlB : B.length ≤ 9223372036854775807 := by unfold maxLen at cmB; omega
  have HS1 := Lib.hid (fun V (hV : Below w.heap.size w V) => small12_any A oA cA w V hA hlA hV)
  have HS2 := Lib.hid (fun V (hV : Below w.heap.size w V) => small12_any P oP kP w V hP hlP hV)
  have HS3 := Lib.hid (fun V (hV : Below w.heap.size w V) => small12_any B oB kB w V hB hlB hV)
  have HS4 := Lib.hid (fun V (hV : Below w.heap.size w V) => little_any s _ w V HS.out hV)
  have HS5 := Lib.hid (fun V (hV : Below w.heap.size w V) => parts12_any _ Rr _ 0 V (Nat.lt_succ_self _) (hR.below hV) (Int.le_refl _) (by decide))
  have HC1 : Hid (∀ V, Below w.heap.size w V → Sml P → Calls Try.prog 17 #[.agg #[.slice o s.W.length k, .slice o1 n1 k1, .slice o2 n2 k2, .slice o3 s.bounds.length k3, .slice o4 n4 k4], .agg #[.string fname, .slice oB B.length kB, .slice oP P.length kP, .int .i64 ra, .string rp, .string rq, .int .i64 rn, .slice ro re rk], .slice oA A.length cA] V fun e w' => ∃ u v, e = .returned (.tuple #[u, v]) ∧ IsY w' (callT B P Rr A) u ∧ IsEs w' (callE s B P A) v ∧ Below V.heap.size V w') := Lib.hid (fun V hV hs => callP_any 140737488351232 (by decide) s ⟨fname, B, P, Rr⟩ A _ _ oA cA w V HS.out HFS.out HF.out HA.out HLC.out HCM.out hV (Nat.le_trans hs.1 (by decide)) HWF.out (cnts_small hs) HFA.out HFP.out HFR.out)
  have HC2 : Hid (∀ V, Below w.heap.size w V → Sml A → Sml P → Sml B → cntY Rr ≤ 60 → Calls Try.prog 18 #[.agg #[.slice o s.W.length k, .slice o1 n1 k1, .slice o2 n2 k2, .slice o3 s.bounds.length k3, .slice o4 n4 k4], .agg #[.string fname, .slice oB B.length kB, .slice oP P.length kP, .int .i64 ra, .string rp, .string rq, .int .i64 rn, .slice ro re rk], .slice oA A.length cA] V fun e w' => ∃ u v, e = .returned (.tuple #[u, v]) ∧ IsY w' (callT B P Rr A) u ∧ IsEs w' (callE s B P A) v ∧ Below V.heap.size V w') := Lib.hid (fun V hV ha hp hb hr => callR_any s ⟨fname, B, P, Rr⟩ A _ _ oA cA V (HS.out.below hV) (HF.out.below hV) (HA.out.below hV) ha.1 hp.1 hb.1 (fun p h => Nat.le_trans (hp.2 p h) (by decide)) (Nat.le_trans hr (by decide)))
  have HPY := Lib.hid hP
  have HBY := Lib.hid hB
  have HRY := Lib.hid hR
  have HLP := Lib.hid lcP
  have HCP := Lib.hid cmP
  obtain ⟨nB, hnB⟩ : ∃ nB, B.length = nB := ⟨_, rfl⟩
  obtain ⟨nP, hnP⟩ : ∃ nP, P.length = nP := ⟨_, rfl⟩
  obtain ⟨nA, hnA⟩ : ∃ nA, A.length = nA := ⟨_, rfl⟩
  rw [hnA] at HS1 HLC HC1 HC2
  rw [hnP] at HS2 HF HLP HC1 HC2
  rw [hnB] at HS3 HF HC1 HC2
  rw [hnA, hnP, hnB]
  have HNB := Lib.hid hnB
  have HNP := Lib.hid hnP
  have HNA := Lib.hid hnA
  clear haw hfs wfP fB fP fR hA lcA cmA fA hlA lcB cmB lcP cmP hB hP hR hlP hlB hnB hnP hnA
  generalize s.W.length = nW at *
  generalize s.bounds.length = nb at *
  obtain ⟨W1, hW1, HBX⟩ := bx2 w #[.slice o nW k, .slice o1 n1 k1, .slice o2 n2 k2, .slice o3 nb k3, .slice o4 n4 k4] #[.string fname, .slice oB nB kB, .slice oP nP kP, .int .i64 ra, .string rp, .string rq, .int .i64 rn, .slice ro re rk] 32 36
  have HW := Lib.hid hW1
  clear hW1
  go_enter Try.func5, Try.ntmps5
  go_wp2_with fail
  refine (HAW.out _).mono ?_
  rintro e U0 ⟨rfl, hb⟩
  rw [HW.out] at hb
  have H0 := Lib.hid hb
  clear hb HW
  have c0 := (HBX.out.at_ H0.out 0 rfl).cell
  rw [Nat.add_zero] at c0
  have c1 := (HBX.out.at_ H0.out 1 rfl).cell
  go_wp2_with fail
  refine (HS1.out _ (HBX.out.below H0.out)).mono ?_
  rintro e U1 ⟨⟨b1, rfl, hs1⟩, hb⟩
  have H1 := Lib.hid (stepB H0.out hb (Nat.le_refl _))
  have HQ1 := Lib.hid hs1
  clear hs1
  clear hb c0 c1
  have c0 := (HBX.out.at_ H1.out 0 rfl).cell
  rw [Nat.add_zero] at c0
  have c1 := (HBX.out.at_ H1.out 1 rfl).cell
  go_wp2_with fail
  refine (HS2.out _ (HBX.out.below H1.out)).mono ?_
  rintro e U2 ⟨⟨b2, rfl, hs2⟩, hb⟩
  have H2 := Lib.hid (stepB H1.out hb (Nat.le_refl _))
  have HQ2 := Lib.hid hs2
  clear hs2
  clear hb c0 c1
  have c0 := (HBX.out.at_ H2.out 0 rfl).cell
  rw [Nat.add_zero] at c0
  have c1 := (HBX.out.at_ H2.out 1 rfl).cell
  go_wp2_with fail
  refine (HS3.out _ (HBX.out.below H2.out)).mono ?_
  rintro e U3 ⟨⟨b3, rfl, hs3⟩, hb⟩
  have H3 := Lib.hid (stepB H2.out hb (Nat.le_refl _))
  have HQ3 := Lib.hid hs3
  clear hs3
  clear hb c0 c1
  have c0 := (HBX.out.at_ H3.out 0 rfl).cell
  rw [Nat.add_zero] at c0
  have c1 := (HBX.out.at_ H3.out 1 rfl).cell
  go_wp2_with fail
  refine (HS4.out _ (HBX.out.below H3.out)).mono ?_
  rintro e U4 ⟨⟨b4, rfl⟩, hb⟩
  have H4 := Lib.hid (stepB H3.out hb (Nat.le_refl _))
  clear hb c0 c1
  have c0 := (HBX.out.at_ H4.out 0 rfl).cell
  rw [Nat.add_zero] at c0
  have c1 := (HBX.out.at_ H4.out 1 rfl).cell
  cases b1 with
  | false =>
    go_wp2
    go_ret
    exact ⟨rfl, HBX.out.below H4.out⟩
  | true =>
    cases b2 with
    | false =>
      go_wp2
      go_ret
      exact ⟨rfl, HBX.out.below H4.out⟩
    | true =>
      cases b3 with
      | false =>
        go_wp2
        go_ret
        exact ⟨rfl, HBX.out.below H4.out⟩
      | true =>
        cases b4 with
        | false =>
          go_wp2
          go_ret
          exact ⟨rfl, HBX.out.below H4.out⟩
        | true =>
          go_wp2_with fail
          refine (HS5.out _ (HBX.out.below H4.out)).mono ?_
          rintro e U5 ⟨⟨r5, rfl, hr1, hr2, hr3⟩, hb⟩
          have H5 := Lib.hid (stepB H4.out hb (Nat.le_refl _))
          have HR5 := Lib.hid hr3
          clear hr1 hr2 hr3
          clear hb c0 c1
          have c0 := (HBX.out.at_ H5.out 0 rfl).cell
          rw [Nat.add_zero] at c0
          have c1 := (HBX.out.at_ H5.out 1 rfl).cell
          by_cases h60 : r5 > 60
          · go_wp2
            go_ret
            exact ⟨rfl, HBX.out.below H5.out⟩
          go_wp2_with fail
          refine (HC1.out _ (HBX.out.below H5.out) (HQ2.out (by first | rfl | trivial))).mono ?_
          rintro e U6 ⟨ux, vx, rfl, hu, hv, hb⟩
          obtain ⟨xa, xn, xp, xq, xo, xe, xk, rfl⟩ := hu.expl
          obtain ⟨ovx, kvx, rfl⟩ : ∃ o k, vx = .slice o (callE s B P A).length k := by obtain ⟨o, k, h, _⟩ := hv; exact ⟨o, k, h⟩
          have H6 := Lib.hid (stepB H5.out hb (Nat.le_refl _))
          clear hb c0 c1 
          obtain ⟨U7, hX⟩ : ∃ X, U6.alloc (.cells #[.int .i64 xa, .string xp, .string xq, .int .i64 xn, .slice xo xe xk] 34) = X := ⟨_, rfl⟩
          have hb : Below U6.heap.size U6 U7 := by rw [← hX]; exact (Below.refl _ _).alloc (Nat.le_refl _) _
          have H7 := Lib.hid (stepB H6.out hb (Nat.le_refl _))
          have BXx : Hid (Blk U7 U6.heap.size 34 #[.int .i64 xa, .string xp, .string xq, .int .i64 xn, .slice xo xe xk]) := by rw [← hX]; exact bkN rfl _ _
          have HUx := Lib.hid (hu.below hb)
          have HVx := Lib.hid (hv.belowE hb)
          have HXx := Lib.hid hX
          clear hb hu hv hX
          have c0 := (HBX.out.at_ H7.out 0 rfl).cell
          rw [Nat.add_zero] at c0
          have c1 := (HBX.out.at_ H7.out 1 rfl).cell
          have dx := BXx.out.cell
          go_wp2_with (rw [HXx.out])
          refine (HC2.out _ (HBX.out.below H7.out) (HQ1.out (by first | rfl | trivial)) (HQ2.out (by first | rfl | trivial)) (HQ3.out (by first | rfl | trivial)) (by have := HR5.out (by omega); omega)).mono ?_
          rintro e U8 ⟨uz, vz, rfl, hu, hv, hb⟩
          obtain ⟨za, zn, zp, zq, zo, ze, zk, rfl⟩ := hu.expl
          obtain ⟨ovz, kvz, rfl⟩ : ∃ o k, vz = .slice o (callE s B P A).length k := by obtain ⟨o, k, h, _⟩ := hv; exact ⟨o, k, h⟩
          have H8 := Lib.hid (stepB H7.out hb (Nat.le_refl _))
          have BXx := Lib.hid (blkB BXx.out hb)
          have HUx := Lib.hid (HUx.out.below hb)
          have HVx := Lib.hid (HVx.out.belowE hb)
          clear hb c0 c1 dx
          obtain ⟨U9, hX⟩ : ∃ X, U8.alloc (.cells #[.int .i64 za, .string zp, .string zq, .int .i64 zn, .slice zo ze zk] 34) = X := ⟨_, rfl⟩
          have hb : Below U8.heap.size U8 U9 := by rw [← hX]; exact (Below.refl _ _).alloc (Nat.le_refl _) _
          have H9 := Lib.hid (stepB H8.out hb (Nat.le_refl _))
          have BXz : Hid (Blk U9 U8.heap.size 34 #[.int .i64 za, .string zp, .string zq, .int .i64 zn, .slice zo ze zk]) := by rw [← hX]; exact bkN rfl _ _
          have HUz := Lib.hid (hu.below hb)
          have HVz := Lib.hid (hv.belowE hb)
          have BXx := Lib.hid (blkB BXx.out hb)
          have HUx := Lib.hid (HUx.out.below hb)
          have HVx := Lib.hid (HVx.out.belowE hb)
          have HXz := Lib.hid hX
          clear hb hu hv hX
          have c0 := (HBX.out.at_ H9.out 0 rfl).cell
          rw [Nat.add_zero] at c0
          have c1 := (HBX.out.at_ H9.out 1 rfl).cell
          have dx := BXx.out.cell
          have dz := BXz.out.cell
          go_wp2_with (rw [HXz.out])
          refine (equal_any _ (callT B P Rr A) _ _ _ (Nat.lt_succ_self _) HUx.out HUz.out).mono ?_
          rintro e U10 ⟨rfl, hb⟩
          have H10 := Lib.hid (stepB H9.out hb (Nat.le_refl _))
          have BXx := Lib.hid (blkB BXx.out hb)
          have BXz := Lib.hid (blkB BXz.out hb)
          have HUx := Lib.hid (HUx.out.below hb)
          have HVx := Lib.hid (HVx.out.belowE hb)
          have HUz := Lib.hid (HUz.out.below hb)
          have HVz := Lib.hid (HVz.out.belowE hb)
          clear hb c0 c1 dx dz
          have c0 := (HBX.out.at_ H10.out 0 rfl).cell
          rw [Nat.add_zero] at c0
          have c1 := (HBX.out.at_ H10.out 1 rfl).cell
          have dx := BXx.out.cell
          have dz := BXz.out.cell
          go_wp2_with fail
          refine (sameW_any _ _ _ _ _ HVx.out HVz.out (Below.refl _ _)).mono ?_
          rintro e U11 ⟨rfl, hb⟩
          have H11 := Lib.hid (stepB H10.out hb (Nat.le_refl _))
          have BXx := Lib.hid (blkB BXx.out hb)
          have BXz := Lib.hid (blkB BXz.out hb)
          have HUx := Lib.hid (HUx.out.below hb)
          have HVx := Lib.hid (HVx.out.belowE hb)
          have HUz := Lib.hid (HUz.out.below hb)
          have HVz := Lib.hid (HVz.out.belowE hb)
          clear hb c0 c1 dx dz
          have c0 := (HBX.out.at_ H11.out 0 rfl).cell
          rw [Nat.add_zero] at c0
          have c1 := (HBX.out.at_ H11.out 1 rfl).cell
          have dx := BXx.out.cell
          have dz := BXz.out.cell
          go_wp2
          go_ret
          exact ⟨rfl, HBX.out.below H11.out⟩
open Go.ChangeShapes Go.WideShapes Go.ChangeAt Go.ChangeMaps
theorem laidOut : laidOutB Try.prog = true := by kernel_rfl
theorem own : ownKnob Try.prog.godebug = none := by kernel_rfl

theorem int_range {n : Int} (h : (Lit.int .i64 n).wf = true) : -9223372036854775808 ≤ n ∧ n ≤ 9223372036854775807 := by
  have h2 : IntKind.i64.min ≤ n ∧ n ≤ IntKind.i64.max := by
    unfold Lit.wf at h
    simpa only [Bool.and_eq_true, decide_eq_true_eq] using h
  rw [show IntKind.i64.min = -9223372036854775808 by decide, show IntKind.i64.max = 9223372036854775807 by decide] at h2
  exact h2

set_option maxRecDepth 100000 in
theorem lifted (os : Os) (started : os.Started) (H : Type) (enc : TypeId × Value → H) :
    ReturnsInHanded {} Try.checked os 5 .any (Rows.inferCallsSpec.pre6 enc Try.prog Try.f5 Rows.inferCallsRow.domain false) (Rows.inferCallsSpec.post enc Try.prog Try.f5 false true false false) := by
  refine returnsInHanded_of_change_sized (C := Try.checked) own started (by kernel_rfl) Try.func5
    (ChangeSpec.witness6 (enc := enc) (C := Try.checked) false ⟨#[], #[.agg #[.slice none 0 0, .slice none 0 0, .slice none 0 0, .slice none 0 0, .slice none 0 0], .agg #[.string .empty, .slice none 0 0, .slice none 0 0, .int .i64 0, .string .empty, .string .empty, .int .i64 0, .slice none 0 0], .slice none 0 0], []⟩ 8 (by kernel_rfl) (by kernel_rfl) (by kernel_rfl) (by kernel_rfl)) ?_
  intro W base args ds gs before hval0 hW hcnd hsz _
  have hval : ∀ (j : Nat) t v, Try.f5.params[j]? = some t → args[j]? = some v → Value.okWide Try.prog W .any base t v := hval0
  have hW' := hW
  obtain ⟨p, q, hA0, hV, rfl, hfz, hnd⟩ := hW
  have hA : DataW.TrodAll enc Try.prog W 0 (fun _ => true) true Try.f5.params.toList args.toList ds p := hA0
  rw [Try.params5] at hA hval
  obtain ⟨v0, vs0, d0, ds0, p0, q0, hargs, rfl, rfl, h0, r0⟩ := trodAll_cons hA
  obtain ⟨v1, vs1, d1, ds1, p1, q1, rfl, rfl, rfl, h1, r1⟩ := trodAll_cons r0
  obtain ⟨v2, vs2, d2, ds2, p2, q2, rfl, rfl, rfl, h2, r2⟩ := trodAll_cons r1
  obtain ⟨rfl, rfl, rfl⟩ := trodAll_nil r2
  obtain rfl : args = #[v0, v1, v2] := by cases args; simp_all
  obtain ⟨rfl, rfl⟩ := trodVars_none hV
  have t0 := h0
  obtain ⟨fl0, k0⟩ := h0
  have lt0 : ∀ x ∈ p0, x.block < W.heap.size := fun x hx => by simpa using hW'.lt x (by simp [hx])
  obtain ⟨cc0, rfl, _⟩ := okWide_struct Try.underlying32 (hval 0 32 v0 rfl rfl)
  have kk0 : DataW.trod enc Try.prog W 0 (fun _ => true) true fl0 32 cc0.toList = some (d0, p0) := k0
  obtain ⟨cl0, rfl⟩ : ∃ cl : List Value, cc0 = cl.toArray := ⟨cc0.toList, by simp⟩
  obtain ⟨sc0, g0, s0⟩ := open_sc fl0 _ _ kk0
  have m0 := s0 reachBytes (fun k hk => by simpa using List.all_eq_true.1 hsz k (DataW.weights_mem_each (j := 0) rfl rfl k hk))
  rw [show cl0.toArray.toList = cl0 from rfl] at g0
  have t1 := h1
  obtain ⟨fl1, k1⟩ := h1
  have lt1 : ∀ x ∈ p1, x.block < W.heap.size := fun x hx => by simpa using hW'.lt x (by simp [hx])
  obtain ⟨cc1, rfl, _⟩ := okWide_struct Try.underlying36 (hval 1 36 v1 rfl rfl)
  have kk1 : DataW.trod enc Try.prog W 0 (fun _ => true) true fl1 36 cc1.toList = some (d1, p1) := k1
  obtain ⟨cl1, rfl⟩ : ∃ cl : List Value, cc1 = cl.toArray := ⟨cc1.toList, by simp⟩
  obtain ⟨fn1, g1, b1, s1⟩ := open_fn fl1 _ _ kk1
  obtain ⟨m1, n1, rr1⟩ := s1 reachBytes (fun k hk => by simpa using List.all_eq_true.1 hsz k (DataW.weights_mem_each (j := 1) rfl rfl k hk))
  rw [show cl1.toArray.toList = cl1 from rfl] at g1
  have t2 := h2
  obtain ⟨fl2, k2⟩ := h2
  have lt2 : ∀ x ∈ p2, x.block < W.heap.size := fun x hx => by simpa using hW'.lt x (by simp [hx])
  obtain ⟨oo2, ll2, cc2, rfl⟩ := okWide_slice Try.underlying23 (hval 2 23 v2 rfl rfl)
  have kk2 : DataW.trod enc Try.prog W 0 (fun _ => true) true fl2 23 [.slice oo2 ll2 cc2] = some (d2, p2) := k2
  obtain ⟨o2, l2, c2, e2, lc2, cm2, g2, s2⟩ := open_ys kk2
  have m2 := (s2 reachBytes (fun k hk => by simpa using List.all_eq_true.1 hsz k (DataW.weights_mem_each (j := 2) rfl rfl k hk))).1
  simp only [List.cons.injEq, and_true, Value.slice.injEq] at e2
  obtain ⟨rfl, rfl, rfl⟩ := e2
  have b2 : WfYs l2 := wf_ys rfl kk2 g2
  clear hA0 hval0
  simp only [List.append_nil] at hW'
  refine (walk awake_any sc0 cl0 fn1 cl1 l2 oo2 cc2 W g0 m0 g1 b1 m1 n1 rr1 g2 lc2 cm2 m2 b2).mono fun e W' ⟨he, hg⟩ => ?_
  subst he
  exact ⟨_, rfl, _, _, _, [], _, [], hW', (trodAll_cons_mk (shut_bool Try.underlying4 _) trodAll_mk0), (trodAll_cons_mk (Below.trod laidOut (by kernel_rfl) (of_decide_eq_true (by kernel_rfl)) t0 hg lt0) (trodAll_cons_mk (Below.trod laidOut (by kernel_rfl) (of_decide_eq_true (by kernel_rfl)) t1 hg lt1) (trodAll_cons_mk (Below.trod laidOut (by kernel_rfl) (of_decide_eq_true (by kernel_rfl)) t2 hg lt2) trodAll_mk0))), rfl, hg.frame _, fun h => by cases h⟩

theorem over : Rows.inferCallsRow.holds Try.pinned (OpenSpec.ofChange Rows.inferCallsSpec) :=
  OpenClaim.holds_of_wide 5 Try.f5 rfl rfl rfl rfl rfl rfl rfl ⟨rfl, rfl, rfl, rfl, rfl⟩ rfl rfl rfl rfl rfl (by kernel_rfl) Try.func5 (by kernel_rfl)
    (of_decide_eq_true (by kernel_rfl)) (by unfold Func.isWrapper; first | (rw [if_pos (by decide +kernel)]; kernel_rfl) | (rw [if_neg (by decide +kernel)]; exact ⟨rfl, rfl⟩))
    (fun os started H enc _ => lifted os started H enc)

/-- InferCalls answers true. -/
theorem proved : Rows.InferCallsSaid :=
  over

end Go.Proofs.Ytlakmniaocpaaaa.inferCalls
