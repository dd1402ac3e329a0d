/-
  InferOnce: a call that is right stays right with what its types make of its parameters. No condition.
-/
import Derived.Test.YtlakmniaocpaaaaM24
import Derived.Test.YtlakmniaocpaaaaM25
import Derived.ProofKit
import Derived.OpenShut
import Derived.ChangeMaps5
import Derived.Test.YtlakmniaocpaaaaIxm
import Derived.Test.YtlakmniaocpaaaaTph
namespace Go.Proofs.Ytlakmniaocpaaaa.inferOnce
open Go.RowKit
open Go.Lib hiding intOf

theorem boxLoadGW (T : TypeId) (n : Nat) (hi : (Try.prog.info? T).map (·.size) = some n) {fs : _} (hu : Try.prog.underlying T = some (.struct fs)) {ops : Array Oper} {rest : List Oper} {o : Oper} {a : Act} {w : World} {Q : Exit → Act → World → Prop} (hw : Region.wanted o (yielded ops a.tmps) = true) (x : Operand) (ho : o.op = .load T x) (g : Addr) (hx : a.eval x = .pointer (some g)) {cs : List Value} (hc : ∀ (j : Nat) (v : Value), cs[j]? = some v → w.cell? (g.add j) = some v) (hs : cs.length = n)
    (h : wpList Try.prog ops Q rest (a.put o.dst (.agg cs.toArray)) w) : wpList Try.prog ops Q (o :: rest) a w := by
  refine wpList_step fun K hK => ?_
  rw [if_pos hw]
  have hr := run_loadG T n hi hu x ho g hx hc hs
  unfold Oper.wp
  rw [hr]
  exact hK _ _ h
set_option maxRecDepth 100000 in
set_option maxHeartbeats 32000000 in
theorem walk (haw : Awk) (s : SCP) (cs : List Value) (f : FN) (cf : List Value) (A : List GY) (oA : Option Addr) (cA : Nat) (w : World) (hs : IsSc w s cs) (hfs : FitS 140737488351232 s) (hf : IsFn w f cf) (wfP : WfYs f.params) (fB : FitYs 140737488351232 f.bounds) (fP : FitYs 140737488351232 f.params) (fR : FitY 140737488351232 f.result) (hA : IsYs w oA 0 A) (lcA : A.length ≤ cA) (cmA : cA ≤ maxLen) (fA : FitYs 140737488351232 A) (_wfA : WfYs A) :
    Calls Try.prog 8 #[.agg cs.toArray, .agg cf.toArray, .slice oA A.length cA] w fun e w' => e = .returned (.bool true) ∧ Below w.heap.size w w' := by
  have hlA : A.length ≤ 9223372036854775807 := by unfold maxLen at cmA; omega
  have HAW := Lib.hid haw
  have HS := Lib.hid hs
  have HF := Lib.hid hf
  have HFS := Lib.hid hfs
  have HWF := Lib.hid wfP
  have HFB := Lib.hid fB
  have HFP := Lib.hid fP
  have HFR := Lib.hid fR
  have HA := Lib.hid hA
  have HLC := Lib.hid lcA
  have HCM := Lib.hid cmA
  have HFA := Lib.hid fA
  obtain ⟨o, o1, o2, o3, o4, k, n1, k1, n2, k2, k3, n4, k4, rfl, _⟩ := hs
  obtain ⟨fname, B, P, Rr⟩ := f
  obtain ⟨oB, kB, oP, kP, ra, rp, rq, rn, ro, re, rk, rfl, lcB, cmB, lcP, cmP, hB, hP, hR⟩ := hf
  dsimp only at *
  have hlP : P.length ≤ 9223372036854775807 := by unfold maxLen at cmP; omega
  have hlB : B.length ≤ 9223372036854775807 := by unfold maxLen at cmB; omega
  have HS1 := Lib.hid (fun V (hV : Below w.heap.size w V) => small12_any A oA cA w V hA hlA hV)
  have HS2 := Lib.hid (fun V (hV : Below w.heap.size w V) => small12_any P oP kP w V hP hlP hV)
  have HS3 := Lib.hid (fun V (hV : Below w.heap.size w V) => small12_any B oB kB w V hB hlB hV)
  have HS4 := Lib.hid (fun V (hV : Below w.heap.size w V) => little_any s _ w V HS.out hV)
  have HS5 := Lib.hid (fun V (hV : Below w.heap.size w V) => parts12_any _ Rr _ 0 V (Nat.lt_succ_self _) (hR.below hV) (Int.le_refl _) (by decide))
  have HC1 : Hid (∀ V, Below w.heap.size w V → Sml P → Calls Try.prog 17 #[.agg #[.slice o s.W.length k, .slice o1 n1 k1, .slice o2 n2 k2, .slice o3 s.bounds.length k3, .slice o4 n4 k4], .agg #[.string fname, .slice oB B.length kB, .slice oP P.length kP, .int .i64 ra, .string rp, .string rq, .int .i64 rn, .slice ro re rk], .slice oA A.length cA] V fun e w' => ∃ u v, e = .returned (.tuple #[u, v]) ∧ IsY w' (callT B P Rr A) u ∧ IsEs w' (callE s B P A) v ∧ Below V.heap.size V w') := Lib.hid (fun V hV hs => callP_any 140737488351232 (by decide) s ⟨fname, B, P, Rr⟩ A _ _ oA cA w V HS.out HFS.out HF.out HA.out HLC.out HCM.out hV (Nat.le_trans hs.1 (by decide)) HWF.out (cnts_small hs) HFA.out HFP.out HFR.out)
  have HC2 : Hid (∀ V, Below w.heap.size w V → Sml A → Sml P → Sml B → cntY Rr ≤ 60 → Calls Try.prog 18 #[.agg #[.slice o s.W.length k, .slice o1 n1 k1, .slice o2 n2 k2, .slice o3 s.bounds.length k3, .slice o4 n4 k4], .agg #[.string fname, .slice oB B.length kB, .slice oP P.length kP, .int .i64 ra, .string rp, .string rq, .int .i64 rn, .slice ro re rk], .slice oA A.length cA] V fun e w' => ∃ u v, e = .returned (.tuple #[u, v]) ∧ IsY w' (callT B P Rr A) u ∧ IsEs w' (callE s B P A) v ∧ Below V.heap.size V w') := Lib.hid (fun V hV ha hp hb hr => callR_any s ⟨fname, B, P, Rr⟩ A _ _ oA cA V (HS.out.below hV) (HF.out.below hV) (HA.out.below hV) ha.1 hp.1 hb.1 (fun p h => Nat.le_trans (hp.2 p h) (by decide)) (Nat.le_trans hr (by decide)))
  obtain ⟨TT, hTT⟩ : ∃ t, typesY B P A = t := ⟨_, rfl⟩
  have HUN : Hid (∀ V, Below w.heap.size w V → Sml P → Calls Try.prog 13 #[.slice oP P.length kP, .slice oA A.length cA, .int .i64 (B.length : Int)] V fun e w' => ∃ o c, e = .returned (.slice o TT.length c) ∧ IsYs w' o 0 TT ∧ Below V.heap.size V w') := Lib.hid (fun V hV hs => (unifyP_any 140737488351232 (by decide) P A oP oA kP cA (B.length : Int) w V (EntL.of lcP cmP hP) (EntL.of HLC.out HCM.out HA.out) HWF.out HFA.out (cnts_small hs) hV).mono (by rintro e w' ⟨o, c, rfl, _, _, h, hb⟩; rw [told_types] at h ⊢; rw [hTT] at h ⊢; exact ⟨o, c, rfl, h, hb⟩))
  have HTL : Hid (TT.length ≤ 16) := by have h := toldY_len P A (B.length : Int); rw [told_types, hTT] at h; exact h
  have HTC : Hid (Sml A → ∀ y ∈ TT, cntY y ≤ 60) := Lib.hid (fun h => by rw [← hTT]; exact told_cnt (by decide) h.2)
  have HTF : Hid (FitYs 140737488351232 TT) := by have h := told_fit (P := P) (n := (B.length : Int)) HFA.out; rw [told_types, hTT] at h; exact h
  have HO1 : Hid (callE s B P A = [] → (∀ p ∈ P, (subY TT p).kind ≠ 7) → callE s B P (subYs TT P) = []) := Lib.hid (fun h => by rw [← hTT]; exact once_call h)
  have HO2 : Hid (callE s B P A = [] → callT B P Rr (subYs TT P) = callT B P Rr A) := Lib.hid (fun h => by rw [← hTT]; exact once_type h)
  have HC4 : Hid (∀ V (o' : Option Addr) (c' : Nat), Below w.heap.size w V → Sml P → IsYs V o' 0 (subYs TT P) → P.length ≤ c' → c' ≤ maxLen → callE s B P A = [] → (∀ p ∈ P, (subY TT p).kind ≠ 7) → Calls Try.prog 17 #[.agg #[.slice o s.W.length k, .slice o1 n1 k1, .slice o2 n2 k2, .slice o3 s.bounds.length k3, .slice o4 n4 k4], .agg #[.string fname, .slice oB B.length kB, .slice oP P.length kP, .int .i64 ra, .string rp, .string rq, .int .i64 rn, .slice ro re rk], .slice o' P.length c'] V fun e w' => ∃ u v, e = .returned (.tuple #[u, v]) ∧ IsY w' (callT B P Rr A) u ∧ IsEs w' [] v ∧ Below V.heap.size V w') := Lib.hid (fun V o' c' hV hs hy hl hc he hk => by
    have hL : (subYs TT P).length = P.length := by rw [subs_map, List.length_map]
    have h := callP_any 140737488351232 (by decide) s ⟨fname, B, P, Rr⟩ (subYs TT P) _ _ o' c' V V (HS.out.below hV) HFS.out (HF.out.below hV) hy (by rw [hL]; exact hl) hc (Below.refl _ _) (Nat.le_trans hs.1 (by decide)) HWF.out (cnts_small hs) (fits_sub HTF.out HFP.out) HFP.out HFR.out
    rw [hL] at h
    dsimp only at h
    rw [HO2.out he, HO1.out he hk] at h
    exact h)
  obtain ⟨nT, hnT⟩ : ∃ n, TT.length = n := ⟨_, rfl⟩
  rw [hnT] at HUN HTL
  have HNT := Lib.hid hnT
  clear hTT hnT HO1 HO2
  have HPY := Lib.hid hP
  have HBY := Lib.hid hB
  have HRY := Lib.hid hR
  have HLP := Lib.hid lcP
  have HCP := Lib.hid cmP
  obtain ⟨nB, hnB⟩ : ∃ nB, B.length = nB := ⟨_, rfl⟩
  obtain ⟨nP, hnP⟩ : ∃ nP, P.length = nP := ⟨_, rfl⟩
  obtain ⟨nA, hnA⟩ : ∃ nA, A.length = nA := ⟨_, rfl⟩
  rw [hnA] at HS1 HLC HC1 HC2 HUN
  rw [hnP] at HS2 HF HLP HC1 HC2 HUN HC4
  rw [hnB] at HS3 HF HC1 HC2 HUN HC4
  rw [hnA, hnP, hnB]
  have HNB := Lib.hid hnB
  have HNP := Lib.hid hnP
  have HNA := Lib.hid hnA
  clear haw hfs wfP fB fP fR hA lcA cmA fA hlA lcB cmB lcP cmP hB hP hR hlP hlB hnB hnP hnA
  generalize s.W.length = nW at *
  generalize s.bounds.length = nb at *
  obtain ⟨W1, hW1, HBX⟩ := bx2 w #[.slice o nW k, .slice o1 n1 k1, .slice o2 n2 k2, .slice o3 nb k3, .slice o4 n4 k4] #[.string fname, .slice oB nB kB, .slice oP nP kP, .int .i64 ra, .string rp, .string rq, .int .i64 rn, .slice ro re rk] 32 36
  have HW := Lib.hid hW1
  clear hW1
  go_enter Try.func8, Try.ntmps8
  go_wp2_with fail
  refine (HAW.out _).mono ?_
  rintro e U0 ⟨rfl, hb⟩
  rw [HW.out] at hb
  have H0 := Lib.hid hb
  clear hb HW
  have c0 := (HBX.out.at_ H0.out 0 rfl).cell
  rw [Nat.add_zero] at c0
  have c1 := (HBX.out.at_ H0.out 1 rfl).cell
  go_wp2_with fail
  refine (HS1.out _ (HBX.out.below H0.out)).mono ?_
  rintro e U1 ⟨⟨b1, rfl, hs1⟩, hb⟩
  have H1 := Lib.hid (stepB H0.out hb (Nat.le_refl _))
  have HQ1 := Lib.hid hs1
  clear hs1
  clear hb c0 c1
  have c0 := (HBX.out.at_ H1.out 0 rfl).cell
  rw [Nat.add_zero] at c0
  have c1 := (HBX.out.at_ H1.out 1 rfl).cell
  go_wp2_with fail
  refine (HS2.out _ (HBX.out.below H1.out)).mono ?_
  rintro e U2 ⟨⟨b2, rfl, hs2⟩, hb⟩
  have H2 := Lib.hid (stepB H1.out hb (Nat.le_refl _))
  have HQ2 := Lib.hid hs2
  clear hs2
  clear hb c0 c1
  have c0 := (HBX.out.at_ H2.out 0 rfl).cell
  rw [Nat.add_zero] at c0
  have c1 := (HBX.out.at_ H2.out 1 rfl).cell
  go_wp2_with fail
  refine (HS3.out _ (HBX.out.below H2.out)).mono ?_
  rintro e U3 ⟨⟨b3, rfl, hs3⟩, hb⟩
  have H3 := Lib.hid (stepB H2.out hb (Nat.le_refl _))
  have HQ3 := Lib.hid hs3
  clear hs3
  clear hb c0 c1
  have c0 := (HBX.out.at_ H3.out 0 rfl).cell
  rw [Nat.add_zero] at c0
  have c1 := (HBX.out.at_ H3.out 1 rfl).cell
  go_wp2_with fail
  refine (HS4.out _ (HBX.out.below H3.out)).mono ?_
  rintro e U4 ⟨⟨b4, rfl⟩, hb⟩
  have H4 := Lib.hid (stepB H3.out hb (Nat.le_refl _))
  clear hb c0 c1
  have c0 := (HBX.out.at_ H4.out 0 rfl).cell
  rw [Nat.add_zero] at c0
  have c1 := (HBX.out.at_ H4.out 1 rfl).cell
  cases b1 with
  | false =>
    go_wp2
    go_ret
    exact ⟨rfl, (HBX.out.below H4.out)⟩
  | true =>
    cases b2 with
    | false =>
      go_wp2
      go_ret
      exact ⟨rfl, (HBX.out.below H4.out)⟩
    | true =>
      cases b3 with
      | false =>
        go_wp2
        go_ret
        exact ⟨rfl, (HBX.out.below H4.out)⟩
      | true =>
        cases b4 with
        | false =>
          go_wp2
          go_ret
          exact ⟨rfl, (HBX.out.below H4.out)⟩
        | true =>
          go_wp2_with fail
          refine (HS5.out _ (HBX.out.below H4.out)).mono ?_
          rintro e U5 ⟨⟨r5, rfl, hr1, hr2, hr3⟩, hb⟩
          have H5 := Lib.hid (stepB H4.out hb (Nat.le_refl _))
          have HR5 := Lib.hid hr3
          clear hr1 hr2 hr3
          clear hb c0 c1
          have c0 := (HBX.out.at_ H5.out 0 rfl).cell
          rw [Nat.add_zero] at c0
          have c1 := (HBX.out.at_ H5.out 1 rfl).cell
          by_cases h60 : r5 > 60
          · go_wp2
            go_ret
            exact ⟨rfl, (HBX.out.below H5.out)⟩
          by_cases h16 : (nB : Int) > 16
          · go_wp2
            go_ret
            exact ⟨rfl, (HBX.out.below H5.out)⟩
          go_wp2_with fail
          refine (HC1.out _ (HBX.out.below H5.out) (HQ2.out (by first | rfl | trivial))).mono ?_
          rintro e U6 ⟨ux, vx, rfl, hu, hv, hb⟩
          obtain ⟨xa, xn, xp, xq, xo, xe, xk, rfl⟩ := hu.expl
          obtain ⟨ovx, kvx, rfl⟩ : ∃ o k, vx = .slice o (callE s B P A).length k := by obtain ⟨o, k, h, _⟩ := hv; exact ⟨o, k, h⟩
          have H6 := Lib.hid (stepB H5.out hb (Nat.le_refl _))
          clear hb c0 c1 
          obtain ⟨U7, hX⟩ : ∃ X, U6.alloc (.cells #[.int .i64 xa, .string xp, .string xq, .int .i64 xn, .slice xo xe xk] 34) = X := ⟨_, rfl⟩
          have hb : Below U6.heap.size U6 U7 := by rw [← hX]; exact (Below.refl _ _).alloc (Nat.le_refl _) _
          have H7 := Lib.hid (stepB H6.out hb (Nat.le_refl _))
          have BXx : Hid (Blk U7 U6.heap.size 34 #[.int .i64 xa, .string xp, .string xq, .int .i64 xn, .slice xo xe xk]) := by rw [← hX]; exact bkN rfl _ _
          have HUx := Lib.hid (hu.below hb)
          have HVx := Lib.hid (hv.belowE hb)
          have HXx := Lib.hid hX
          clear hb hu hv hX
          have c0 := (HBX.out.at_ H7.out 0 rfl).cell
          rw [Nat.add_zero] at c0
          have c1 := (HBX.out.at_ H7.out 1 rfl).cell
          have dx := BXx.out.cell
          obtain ⟨nE, hnE⟩ : ∃ n, (callE s B P A).length = n := ⟨_, rfl⟩
          rw [hnE]
          have HNE := Lib.hid hnE
          clear hnE
          by_cases hE : ¬ nE = 0
          · have hE1 : ((nE : Int) != 0) = true := by rw [bne_iff_ne]; omega
            go_wp2_with (rw [HXx.out])
            go_ret
            exact ⟨rfl, HBX.out.below H7.out⟩
          have hE := Decidable.not_not.1 hE
          subst hE
          have HCE : Hid (callE s B P A = []) := List.eq_nil_of_length_eq_zero HNE.out
          go_wp2_with (rw [HXx.out])
          refine (HUN.out _ (HBX.out.below H7.out) (HQ2.out (by first | rfl | trivial))).mono ?_
          rintro e U8 ⟨oT, cT, rfl, hyT, hb⟩
          have H8 := Lib.hid (stepB H7.out hb (Nat.le_refl _))
          have HYT := Lib.hid hyT
          have BXx := Lib.hid (blkB BXx.out hb)
          have HUx := Lib.hid (HUx.out.below hb)
          have HTS := Lib.hid (HTC.out (HQ1.out (by first | rfl | trivial)))
          have HSP := Lib.hid (HQ2.out (by first | rfl | trivial))
          clear hb hyT c0 c1 dx HUN HTC HVx HXx HC1 HC2 HS1 HS2 HS3 HS4 HS5 HQ1 HQ2 HQ3 HR5
          have HBR := Lib.hid (Below.refl U8.heap.size U8)
          have HW8 : Hid (Below w.heap.size w U8) := HBX.out.below H8.out
          go_wp2_with fail
          go_loopw [16] (fun i wr => ∃ j : Nat, i = .int .i64 (j : Nat) ∧ Hid (j ≤ nT) ∧ Hid (Below U8.heap.size U8 wr)) (fun i _ => nT - (RowKit.intOf i).toNat)
          case atStart => exact ⟨0, rfl, Nat.zero_le _, HBR⟩
          case round =>
            obtain ⟨j, rfl, HJ, HR⟩ := hrel
            clear HBR
            by_cases hj : j < nT
            · have hj' : ((j : Int) < (nT : Int)) := by omega
              have hj0 : (0 : Int) ≤ (j : Int) := by omega
              have hwj := IntWalk.i64_in ((j : Int) + 1) ⟨by omega, by have := HTL.out; omega⟩
              obtain ⟨t, ht⟩ : ∃ t, TT[j]? = some t := ⟨_, List.getElem?_eq_getElem (by rw [HNT.out]; exact hj)⟩
              obtain ⟨aT, x0, x1, x2, x3, x4, rfl, hct, htt⟩ := HYT.out.at_ j ht
              rw [Nat.zero_add] at hct
              have htc : cntY t ≤ 60 := HTS.out t (List.mem_of_getElem? ht)
              have htf : FitY 140737488351232 t := FitYs.mem HTF.out t (List.mem_of_getElem? ht)
              have HCT := Lib.hid hct
              have HTT := Lib.hid htt
              have HC : Hid (∀ (i : Nat) (v : Value), [x0, x1, x2, x3, x4][i]? = some v → wr.cell? ((aT.add (j * 5)).add i) = some v) := mvc HR.out hct
              have HPA := Lib.hid (paramsP_any t (Nat.le_trans htc (by decide)) _ wr (htt.below HR.out))
              have HCK := Lib.hid (fun V (hV : Below U8.heap.size U8 V) => checkP_any t (Nat.le_trans htc (by decide)) 140737488351232 (by decide) htf _ V (htt.below hV))
              have HJN := Lib.hid hj
              clear hct htt ht htc htf
              go_wp2_with (refine boxLoadG 34 5 size5 Try.underlying34 rfl _ rfl (aT.add (j * 5)) rfl (cs := [x0, x1, x2, x3, x4]) HC.out rfl ?_)
              refine HPA.out.mono ?_
              rintro e W2 ⟨L, oL, nL, cL, rfl, _, _, _, _, hb⟩
              have HR2 := Lib.hid (stepB HR.out hb (Nat.le_refl _))
              have HC2 : Hid (∀ (i : Nat) (v : Value), [x0, x1, x2, x3, x4][i]? = some v → W2.cell? ((aT.add (j * 5)).add i) = some v) := mvc HR2.out HCT.out
              have HPT := Lib.hid (parts12_any _ t _ 0 W2 (Nat.lt_succ_self _) (HTT.out.below HR2.out) (Int.le_refl _) (by decide))
              clear hb HPA HC
              by_cases hnL : 0 < nL
              · have hnL' : (0 : Int) < (nL : Int) := by omega
                go_wp2
                go_ret
                exact ⟨rfl, stepB HW8.out HR2.out (Nat.le_refl _)⟩
              have hnL' : ¬ ((0 : Int) < (nL : Int)) := by omega
              go_wp2_with (first | (refine boxLoadGW 34 5 size5 Try.underlying34 (by rfl) _ rfl (aT.add (j * 5)) rfl (cs := [x0, x1, x2, x3, x4]) HC2.out rfl ?_))
              refine HPT.out.mono ?_
              rintro e W3 ⟨⟨r6, rfl, _, _, _⟩, hb⟩
              have HR3 := Lib.hid (stepB HR2.out hb (Nat.le_refl _))
              have HC3 : Hid (∀ (i : Nat) (v : Value), [x0, x1, x2, x3, x4][i]? = some v → W3.cell? ((aT.add (j * 5)).add i) = some v) := mvc HR3.out HCT.out
              clear hb HPT HC2
              by_cases h20 : r6 > 20
              · go_wp2
                go_ret
                exact ⟨rfl, stepB HW8.out HR3.out (Nat.le_refl _)⟩
              go_wp2_with (refine boxLoadG 34 5 size5 Try.underlying34 rfl _ rfl (aT.add (j * 5)) rfl (cs := [x0, x1, x2, x3, x4]) HC3.out rfl ?_)
              refine (HCK.out _ HR3.out).mono ?_
              rintro e W4 ⟨rfl, hb⟩
              have HR4 := Lib.hid (stepB HR3.out hb (Nat.le_refl _))
              clear hb HCK HC3 HCT
              generalize chkY okN 0 t = ck at *
              cases ck with
              | false =>
                go_wp2
                go_ret
                exact ⟨rfl, stepB HW8.out HR4.out (Nat.le_refl _)⟩
              | true =>
                go_wp2
                case roundEnd => exact ⟨⟨j + 1, by push_cast; rfl, HJN.out, HR4⟩, by have := HJN.out; simp [RowKit.intOf]; omega⟩
            · have hj' : ¬ ((j : Int) < (nT : Int)) := by omega
              obtain ⟨V2, rfl⟩ : ∃ V, V = wr := ⟨wr, rfl⟩
              have HV2 : Hid (Below w.heap.size w V2) := stepB HW8.out HR.out (Nat.le_refl _)
              have HQ0 : Hid (RowQ 34 5 IsYPc V2 V2.heap.size none 0 0 ((subYs TT P).take 0)) := RowQ.start V2 _
              have HB0 := Lib.hid (Below.refl V2.heap.size V2)
              have HYT := Lib.hid (HYT.out.below HR.out)
              have BXx := Lib.hid (blkB BXx.out HR.out)
              have HUx := Lib.hid (HUx.out.below HR.out)
              have H9 := Lib.hid (stepB H8.out HR.out (Nat.le_refl _))
              have HSL : Hid ((subYs TT P).length = nP) := by show _ = _; rw [subs_map, List.length_map]; exact HNP.out
              clear hj HR HJ HW8 HTS
              go_wp2_with fail
              go_loopw [15, 19] (fun v i wr2 => ∃ (j : Nat) (op : Option Addr) (cp : Nat), v = .slice op j cp ∧ i = .int .i64 (j : Nat) ∧ Hid (j ≤ nP) ∧ Hid (RowQ 34 5 IsYPc wr2 V2.heap.size op j cp ((subYs TT P).take j)) ∧ Hid (∀ (k : Nat) (p : GY), k < j → P[k]? = some p → (subY TT p).kind ≠ 7) ∧ Hid (Below V2.heap.size V2 wr2)) (fun _ i _ => nP - (RowKit.intOf i).toNat)
              case atStart => exact ⟨0, none, 0, rfl, rfl, Nat.zero_le _, HQ0, (fun k p h => by omega), HB0⟩
              case round =>
                obtain ⟨j, op, cp, rfl, rfl, HJ, HRQ, HK, HR⟩ := hrel
                clear HQ0 HB0
                have HWW : Hid (Below w.heap.size w wr) := stepB HV2.out HR.out (Nat.le_refl _)
                have H10 := Lib.hid (stepB H9.out HR.out (Nat.le_refl _))
                have c1 := (HBX.out.at_ H10.out 1 rfl).cell
                have hsp : nP ≤ 20 := by rw [← HNP.out]; exact HSP.out.1
                by_cases hj : j < nP
                · have hj' : ((j : Int) < (nP : Int)) := by omega
                  have hj0 : (0 : Int) ≤ (j : Int) := by omega
                  have hwj := IntWalk.i64_in ((j : Int) + 1) ⟨by omega, by omega⟩
                  obtain ⟨p, hp⟩ : ∃ x, P[j]? = some x := ⟨_, List.getElem?_eq_getElem (by rw [HNP.out]; exact hj)⟩
                  obtain ⟨aP, y0, y1, y2, y3, y4, rfl, hcp, hpp⟩ := HPY.out.at_ j hp
                  rw [Nat.zero_add] at hcp
                  have HCP : Hid (∀ (i : Nat) (v : Value), [y0, y1, y2, y3, y4][i]? = some v → wr.cell? ((aP.add (j * 5)).add i) = some v) := mvc HWW.out hcp
                  have HSU := Lib.hid (substP_any 140737488351232 (by decide) TT oT nT cT HNT.out HTF.out p _ wr (FitYs.mem HFP.out p (List.mem_of_getElem? hp)) (hpp.below HWW.out) (HYT.out.below HR.out))
                  have HT : Hid ((subYs TT P).take (j + 1) = (subYs TT P).take j ++ [subY TT p]) := by show _ = _; rw [List.take_add_one, subs_map, List.getElem?_map, hp]; rfl
                  have HPP := Lib.hid hp
                  have HJN := Lib.hid hj
                  clear hcp hpp hp
                  go_wp2_with (refine boxLoadG 34 5 size5 Try.underlying34 rfl _ rfl (aP.add (j * 5)) rfl (cs := [y0, y1, y2, y3, y4]) HCP.out rfl ?_)
                  refine HSU.out.mono ?_
                  rintro e w8 ⟨u, rfl, huf, hb⟩
                  obtain ⟨xx, hxx⟩ : ∃ x, subY TT p = x := ⟨_, rfl⟩
                  rw [hxx] at huf
                  have HXX := Lib.hid hxx
                  clear hxx
                  obtain ⟨xk, xp, xm, xn, xl⟩ := xx
                  have hup := IsYF.toP huf
                  obtain ⟨ox, cx, rfl, _, _, _⟩ := hup.parts
                  have HUP := Lib.hid hup
                  obtain ⟨nX, hnX⟩ : ∃ n, xl.length = n := ⟨_, rfl⟩
                  rw [hnX] at HUP ⊢
                  clear hup huf hnX HSU HCP c1
                  obtain ⟨X9, hX9⟩ : ∃ X, w8.alloc (.cells #[.int .i64 xk, .string xp, .string xm, .int .i64 xn, .slice ox nX cx] 34) = X := ⟨_, rfl⟩
                  have hb9 : Below w8.heap.size w8 X9 := by rw [← hX9]; exact (Below.refl _ _).alloc (Nat.le_refl _) _
                  have BXq : Hid (Blk X9 w8.heap.size 34 #[.int .i64 xk, .string xp, .string xm, .int .i64 xn, .slice ox nX cx]) := by rw [← hX9]; exact bkN rfl _ _
                  have HU9 := Lib.hid (stepB hb hb9 (Nat.le_refl _))
                  have HS9 : Hid (V2.heap.size ≤ X9.heap.size) := Nat.le_trans HR.out.size HU9.out.size
                  have HQ8 := Lib.hid (HRQ.out.below keepY HU9.out)
                  have HD : Hid (IsYPc (fun k => V2.heap.size ≤ k ∧ (Value.slice op j cp).ownBlock ≠ some k) X9 (subY TT p) [.int .i64 xk, .string xp, .string xm, .int .i64 xn, .slice ox nX cx]) := by
                    have h1 := HUP.out.below hb9
                    rw [HXX.out]
                    refine ⟨rfl, rfl, h1.keep (fun a u h _ => ⟨Nat.le_trans HR.out.size h, fun e => ?_⟩) (fun _ _ _ h => h)⟩
                    obtain ⟨_, L', hL', _⟩ := HRQ.out
                    have := (hL'.lt _ e).2
                    omega
                  have HX9 := Lib.hid hX9
                  have dq := BXq.out.cell
                  clear hX9 hb hb9
                  by_cases hk7 : xk = 7
                  · subst hk7
                    go_wp2_with (rw [HX9.out])
                    go_ret
                    exact ⟨rfl, stepB HWW.out HU9.out (Nat.le_refl _)⟩
                  have hk7' : (xk == 7) = false := by rw [beq_eq_false_iff_ne]; exact hk7
                  have HK2 : Hid (∀ (k : Nat) (p : GY), k < j + 1 → P[k]? = some p → (subY TT p).kind ≠ 7) := fun k p' hk hp' => by
                    by_cases hkj : k = j
                    · subst hkj
                      rw [HPP.out] at hp'
                      obtain rfl := Option.some.inj hp'
                      rw [HXX.out]
                      exact hk7
                    · exact HK.out k p' (by omega) hp'
                  obtain ⟨hL5, L, hL1, hL2, hL3, hL4⟩ := HQ8.out
                  have HL1 := Lib.hid hL1
                  have HL2 := Lib.hid hL2
                  have HL3 := Lib.hid hL3
                  have HL4 := Lib.hid hL4
                  have HL5 := Lib.hid hL5
                  obtain ⟨i0, hi, hz0, hz1, hz2⟩ := info_parts infoTT
                  clear hL1 hL2 hL3 hL4 hL5 HK
                  go_upto_region 29 with (rw [HX9.out])
                  go_wp2_with (first
                    | (refine boxRow1 23 34 5 (.agg #[.int .i64 0, .string ⟨#[]⟩, .string ⟨#[]⟩, .int .i64 0, .slice none 0 0]) Try.underlying23 (by kernel_rfl) rfl (by decide) rfl _ rfl [.int .i64 xk, .string xp, .string xm, .int .i64 xn, .slice ox nX cx] rfl rfl ?_)
                    | (refine wpList_append_tells X9 rfl _ _ 23 rfl V2.heap.size 34 i0 (.agg #[.int .i64 0, .string ⟨#[]⟩, .string ⟨#[]⟩, .int .i64 0, .slice none 0 0]) 5 72 Try.underlying23 hi hz0 hz1 hz2 rfl (by decide) (.slice op j cp) j L.flatten rfl HL1.out _ [.int .i64 xk, .string xp, .string xm, .int .i64 xn, .slice ox nX cx] rfl rfl (cells_new X9 34 [.int .i64 xk, .string xp, .string xm, .int .i64 xn, .slice ox nX cx]) (List.all_eq_true.1 HD.out.2.1) (by unfold maxLen; omega) (by omega) HS9.out ?_; intro o9 c9 w9 hrow hT9 hfr; have HROW := Lib.hid hrow; have HT9 := Lib.hid hT9; have HFR := Lib.hid hfr; clear hrow hT9 hfr))
                  case roundEnd =>
                    have hN := RowQ.next keepY HL1.out HL2.out HL3.out HL4.out HL5.out rfl HD.out HROW.out HT9.out HFR.out
                    refine ⟨⟨j + 1, o9, c9, rfl, by push_cast; rfl, HJN.out, by show RowQ _ _ _ _ _ _ _ _ _; rw [HT.out]; exact hN, HK2, ?_⟩, by have := HJN.out; simp [RowKit.intOf]; omega⟩
                    exact (stepB HR.out HU9.out (Nat.le_refl _)).trans (HT9.out.below (by have := HS9.out; omega) fun k hk => by have := (HL1.out.lt k hk).1; omega)
                · have hj' : ¬ ((j : Int) < (nP : Int)) := by omega
                  have hjP := HJ.out
                  obtain rfl : j = nP := by omega
                  have hfull : (subYs TT P).take j = subYs TT P := List.take_of_length_le (by rw [HSL.out]; exact Nat.le_refl _)
                  have hRQ := HRQ.out
                  rw [hfull] at hRQ
                  obtain ⟨hq1, hq2, hq3⟩ := hRQ.done keepY
                  have HCC := Lib.hid (HC4.out wr op cp HWW.out HSP.out hq3.toYs hq1 hq2 HCE.out (fun p hp => by
                    obtain ⟨i, hi, e⟩ := List.getElem_of_mem hp
                    exact HK.out i p (by have := HNP.out; omega) (by rw [List.getElem?_eq_getElem hi, e])))
                  have BXx := Lib.hid (blkB BXx.out HR.out)
                  have HUx := Lib.hid (HUx.out.below HR.out)
                  have c0 := (HBX.out.at_ H10.out 0 rfl).cell
                  rw [Nat.add_zero] at c0
                  have dx := BXx.out.cell
                  clear hfull hRQ hq1 hq2 hq3 hj HRQ HK hjP HC4
                  go_wp2_with fail
                  refine (HCC.out).mono ?_
                  rintro e U11 ⟨uz, vz, rfl, hu, hv, hb⟩
                  obtain ⟨za, zn, zp, zq, zo, ze, zk, rfl⟩ := hu.expl
                  obtain ⟨ovz, kvz, rfl⟩ : ∃ o k, vz = .slice o 0 k := hv.len0
                  have H11 := Lib.hid (stepB H10.out hb (Nat.le_refl _))
                  have BXx := Lib.hid (blkB BXx.out hb)
                  have HUx := Lib.hid (HUx.out.below hb)
                  clear hb c0 c1 dx
                  obtain ⟨U12, hX⟩ : ∃ X, U11.alloc (.cells #[.int .i64 za, .string zp, .string zq, .int .i64 zn, .slice zo ze zk] 34) = X := ⟨_, rfl⟩
                  have hb : Below U11.heap.size U11 U12 := by rw [← hX]; exact (Below.refl _ _).alloc (Nat.le_refl _) _
                  have H12 := Lib.hid (stepB H11.out hb (Nat.le_refl _))
                  have BXz : Hid (Blk U12 U11.heap.size 34 #[.int .i64 za, .string zp, .string zq, .int .i64 zn, .slice zo ze zk]) := by rw [← hX]; exact bkN rfl _ _
                  have HUz := Lib.hid (hu.below hb)
                  have HVz := Lib.hid (hv.belowE hb)
                  have BXx := Lib.hid (blkB BXx.out hb)
                  have HUx := Lib.hid (HUx.out.below hb)
                  have HXz := Lib.hid hX
                  clear hb hu hv hX
                  have c0 := (HBX.out.at_ H12.out 0 rfl).cell
                  rw [Nat.add_zero] at c0
                  have c1 := (HBX.out.at_ H12.out 1 rfl).cell
                  have dx := BXx.out.cell
                  have dz := BXz.out.cell
                  go_wp2_with (rw [HXz.out])
                  refine (equal_any _ (callT B P Rr A) _ _ _ (Nat.lt_succ_self _) HUx.out HUz.out).mono ?_
                  rintro e U13 ⟨rfl, hb⟩
                  have H13 := Lib.hid (stepB H12.out hb (Nat.le_refl _))
                  have BXx := Lib.hid (blkB BXx.out hb)
                  have BXz := Lib.hid (blkB BXz.out hb)
                  have HUx := Lib.hid (HUx.out.below hb)
                  have HUz := Lib.hid (HUz.out.below hb)
                  have HVz := Lib.hid (HVz.out.belowE hb)
                  clear hb c0 c1 dx dz
                  have c0 := (HBX.out.at_ H13.out 0 rfl).cell
                  rw [Nat.add_zero] at c0
                  have c1 := (HBX.out.at_ H13.out 1 rfl).cell
                  have dx := BXx.out.cell
                  have dz := BXz.out.cell
                  go_wp2
                  go_ret
                  exact ⟨rfl, (HBX.out.below H13.out)⟩
open Go.ChangeShapes Go.WideShapes Go.ChangeAt Go.ChangeMaps
theorem laidOut : laidOutB Try.prog = true := by kernel_rfl
theorem own : ownKnob Try.prog.godebug = none := by kernel_rfl

theorem int_range {n : Int} (h : (Lit.int .i64 n).wf = true) : -9223372036854775808 ≤ n ∧ n ≤ 9223372036854775807 := by
  have h2 : IntKind.i64.min ≤ n ∧ n ≤ IntKind.i64.max := by
    unfold Lit.wf at h
    simpa only [Bool.and_eq_true, decide_eq_true_eq] using h
  rw [show IntKind.i64.min = -9223372036854775808 by decide, show IntKind.i64.max = 9223372036854775807 by decide] at h2
  exact h2

set_option maxRecDepth 100000 in
theorem lifted (os : Os) (started : os.Started) (H : Type) (enc : TypeId × Value → H) :
    ReturnsInHanded {} Try.checked os 8 .any (Rows.inferOnceSpec.pre6 enc Try.prog Try.f8 Rows.inferOnceRow.domain false) (Rows.inferOnceSpec.post enc Try.prog Try.f8 false true false false) := by
  refine returnsInHanded_of_change_sized (C := Try.checked) own started (by kernel_rfl) Try.func8
    (ChangeSpec.witness6 (enc := enc) (C := Try.checked) false ⟨#[], #[.agg #[.slice none 0 0, .slice none 0 0, .slice none 0 0, .slice none 0 0, .slice none 0 0], .agg #[.string .empty, .slice none 0 0, .slice none 0 0, .int .i64 0, .string .empty, .string .empty, .int .i64 0, .slice none 0 0], .slice none 0 0], []⟩ 8 (by kernel_rfl) (by kernel_rfl) (by kernel_rfl) (by kernel_rfl)) ?_
  intro W base args ds gs before hval0 hW hcnd hsz _
  have hval : ∀ (j : Nat) t v, Try.f8.params[j]? = some t → args[j]? = some v → Value.okWide Try.prog W .any base t v := hval0
  have hW' := hW
  obtain ⟨p, q, hA0, hV, rfl, hfz, hnd⟩ := hW
  have hA : DataW.TrodAll enc Try.prog W 0 (fun _ => true) true Try.f8.params.toList args.toList ds p := hA0
  rw [Try.params8] at hA hval
  obtain ⟨v0, vs0, d0, ds0, p0, q0, hargs, rfl, rfl, h0, r0⟩ := trodAll_cons hA
  obtain ⟨v1, vs1, d1, ds1, p1, q1, rfl, rfl, rfl, h1, r1⟩ := trodAll_cons r0
  obtain ⟨v2, vs2, d2, ds2, p2, q2, rfl, rfl, rfl, h2, r2⟩ := trodAll_cons r1
  obtain ⟨rfl, rfl, rfl⟩ := trodAll_nil r2
  obtain rfl : args = #[v0, v1, v2] := by cases args; simp_all
  obtain ⟨rfl, rfl⟩ := trodVars_none hV
  have t0 := h0
  obtain ⟨fl0, k0⟩ := h0
  have lt0 : ∀ x ∈ p0, x.block < W.heap.size := fun x hx => by simpa using hW'.lt x (by simp [hx])
  obtain ⟨cc0, rfl, _⟩ := okWide_struct Try.underlying32 (hval 0 32 v0 rfl rfl)
  have kk0 : DataW.trod enc Try.prog W 0 (fun _ => true) true fl0 32 cc0.toList = some (d0, p0) := k0
  obtain ⟨cl0, rfl⟩ : ∃ cl : List Value, cc0 = cl.toArray := ⟨cc0.toList, by simp⟩
  obtain ⟨sc0, g0, s0⟩ := open_sc fl0 _ _ kk0
  have m0 := s0 reachBytes (fun k hk => by simpa using List.all_eq_true.1 hsz k (DataW.weights_mem_each (j := 0) rfl rfl k hk))
  rw [show cl0.toArray.toList = cl0 from rfl] at g0
  have t1 := h1
  obtain ⟨fl1, k1⟩ := h1
  have lt1 : ∀ x ∈ p1, x.block < W.heap.size := fun x hx => by simpa using hW'.lt x (by simp [hx])
  obtain ⟨cc1, rfl, _⟩ := okWide_struct Try.underlying36 (hval 1 36 v1 rfl rfl)
  have kk1 : DataW.trod enc Try.prog W 0 (fun _ => true) true fl1 36 cc1.toList = some (d1, p1) := k1
  obtain ⟨cl1, rfl⟩ : ∃ cl : List Value, cc1 = cl.toArray := ⟨cc1.toList, by simp⟩
  obtain ⟨fn1, g1, b1, s1⟩ := open_fn fl1 _ _ kk1
  obtain ⟨m1, n1, rr1⟩ := s1 reachBytes (fun k hk => by simpa using List.all_eq_true.1 hsz k (DataW.weights_mem_each (j := 1) rfl rfl k hk))
  rw [show cl1.toArray.toList = cl1 from rfl] at g1
  have t2 := h2
  obtain ⟨fl2, k2⟩ := h2
  have lt2 : ∀ x ∈ p2, x.block < W.heap.size := fun x hx => by simpa using hW'.lt x (by simp [hx])
  obtain ⟨oo2, ll2, cc2, rfl⟩ := okWide_slice Try.underlying23 (hval 2 23 v2 rfl rfl)
  have kk2 : DataW.trod enc Try.prog W 0 (fun _ => true) true fl2 23 [.slice oo2 ll2 cc2] = some (d2, p2) := k2
  obtain ⟨o2, l2, c2, e2, lc2, cm2, g2, s2⟩ := open_ys kk2
  have m2 := (s2 reachBytes (fun k hk => by simpa using List.all_eq_true.1 hsz k (DataW.weights_mem_each (j := 2) rfl rfl k hk))).1
  simp only [List.cons.injEq, and_true, Value.slice.injEq] at e2
  obtain ⟨rfl, rfl, rfl⟩ := e2
  have b2 : WfYs l2 := wf_ys rfl kk2 g2
  clear hA0 hval0
  simp only [List.append_nil] at hW'
  refine (walk awake_any sc0 cl0 fn1 cl1 l2 oo2 cc2 W g0 m0 g1 b1 m1 n1 rr1 g2 lc2 cm2 m2 b2).mono fun e W' ⟨he, hg⟩ => ?_
  subst he
  exact ⟨_, rfl, _, _, _, [], _, [], hW', (trodAll_cons_mk (shut_bool Try.underlying4 _) trodAll_mk0), (trodAll_cons_mk (Below.trod laidOut (by kernel_rfl) (of_decide_eq_true (by kernel_rfl)) t0 hg lt0) (trodAll_cons_mk (Below.trod laidOut (by kernel_rfl) (of_decide_eq_true (by kernel_rfl)) t1 hg lt1) (trodAll_cons_mk (Below.trod laidOut (by kernel_rfl) (of_decide_eq_true (by kernel_rfl)) t2 hg lt2) trodAll_mk0))), rfl, hg.frame _, fun h => by cases h⟩

theorem over : Rows.inferOnceRow.holds Try.pinned (OpenSpec.ofChange Rows.inferOnceSpec) :=
  OpenClaim.holds_of_wide 8 Try.f8 rfl rfl rfl rfl rfl rfl rfl ⟨rfl, rfl, rfl, rfl, rfl⟩ rfl rfl rfl rfl rfl (by kernel_rfl) Try.func8 (by kernel_rfl)
    (of_decide_eq_true (by kernel_rfl)) (by unfold Func.isWrapper; first | (rw [if_pos (by decide +kernel)]; kernel_rfl) | (rw [if_neg (by decide +kernel)]; exact ⟨rfl, rfl⟩))
    (fun os started H enc _ => lifted os started H enc)

/-- InferOnce answers true. -/
theorem proved : Rows.InferOnceSaid :=
  over

end Go.Proofs.Ytlakmniaocpaaaa.inferOnce
