/-
  InferMore: an argument more changes the type of no call, and is wrong alone. No condition.
-/
import Derived.Test.YtlakmniaocpaaaaM24
import Derived.Test.YtlakmniaocpaaaaIya
import Derived.ProofKit
import Derived.OpenShut
import Derived.ChangeMaps5
import Derived.Deep.RegionHeld3
namespace Go.Proofs.Ytlakmniaocpaaaa.inferMore
open Go.RowKit
open Go.Lib hiding intOf

theorem boxLoadGW (T : TypeId) (n : Nat) (hi : (Try.prog.info? T).map (·.size) = some n) {fs : _} (hu : Try.prog.underlying T = some (.struct fs)) {ops : Array Oper} {rest : List Oper} {o : Oper} {a : Act} {w : World} {Q : Exit → Act → World → Prop} (hw : Region.wanted o (yielded ops a.tmps) = true) (x : Operand) (ho : o.op = .load T x) (g : Addr) (hx : a.eval x = .pointer (some g)) {cs : List Value} (hc : ∀ (j : Nat) (v : Value), cs[j]? = some v → w.cell? (g.add j) = some v) (hs : cs.length = n)
    (h : wpList Try.prog ops Q rest (a.put o.dst (.agg cs.toArray)) w) : wpList Try.prog ops Q (o :: rest) a w := by
  refine wpList_step fun K hK => ?_
  rw [if_pos hw]
  have hr := run_loadG T n hi hu x ho g hx hc hs
  unfold Oper.wp
  rw [hr]
  exact hK _ _ h
theorem sizeW : (Try.prog.info? 51).map (·.size) = some 2 := by kernel_rfl
set_option maxRecDepth 100000 in
set_option maxHeartbeats 32000000 in
theorem walk (haw : Awk) (s : SCP) (cs : List Value) (f : FN) (cf : List Value) (A : List GY) (oA : Option Addr) (cA : Nat) (x : GY) (vx : Value) (w : World) (hs : IsSc w s cs) (hfs : FitS 140737488351232 s) (hf : IsFn w f cf) (wfP : WfYs f.params) (fB : FitYs 140737488351232 f.bounds) (fP : FitYs 140737488351232 f.params) (fR : FitY 140737488351232 f.result) (hA : IsYs w oA 0 A) (lcA : A.length ≤ cA) (cmA : cA ≤ maxLen) (fA : FitYs 140737488351232 A) (_wfA : WfYs A) (hx : IsY w x vx) (fx : FitY 140737488351232 x) :
    Calls Try.prog 9 #[.agg cs.toArray, .agg cf.toArray, .slice oA A.length cA, vx] w fun e w' => e = .returned (.bool true) ∧ Below w.heap.size w w' := by
  have hlA : A.length ≤ 9223372036854775807 := by unfold maxLen at cmA; omega
  have HAW := Lib.hid haw
  have HS := Lib.hid hs
  have HF := Lib.hid hf
  have HFS := Lib.hid hfs
  have HWF := Lib.hid wfP
  have HFB := Lib.hid fB
  have HFP := Lib.hid fP
  have HFR := Lib.hid fR
  have HA := Lib.hid hA
  have HLC := Lib.hid lcA
  have HCM := Lib.hid cmA
  have HFA := Lib.hid fA
  obtain ⟨o, o1, o2, o3, o4, k, n1, k1, n2, k2, k3, n4, k4, rfl, _⟩ := hs
  obtain ⟨fname, B, P, Rr⟩ := f
  obtain ⟨oB, kB, oP, kP, ra, rp, rq, rn, ro, re, rk, rfl, lcB, cmB, lcP, cmP, hB, hP, hR⟩ := hf
  dsimp only at *
  have hlP : P.length ≤ 9223372036854775807 := by unfold maxLen at cmP; omega
  have hlB : B.length ≤ 9223372036854775807 := by unfold maxLen at cmB; omega
  have HS1 := Lib.hid (fun V (hV : Below w.heap.size w V) => small12_any A oA cA w V hA hlA hV)
  have HS2 := Lib.hid (fun V (hV : Below w.heap.size w V) => small12_any P oP kP w V hP hlP hV)
  have HS3 := Lib.hid (fun V (hV : Below w.heap.size w V) => small12_any B oB kB w V hB hlB hV)
  have HS4 := Lib.hid (fun V (hV : Below w.heap.size w V) => little_any s _ w V HS.out hV)
  have HS5 := Lib.hid (fun V (hV : Below w.heap.size w V) => parts12_any _ Rr _ 0 V (Nat.lt_succ_self _) (hR.below hV) (Int.le_refl _) (by decide))
  have HC1 : Hid (∀ V, Below w.heap.size w V → Sml P → Calls Try.prog 17 #[.agg #[.slice o s.W.length k, .slice o1 n1 k1, .slice o2 n2 k2, .slice o3 s.bounds.length k3, .slice o4 n4 k4], .agg #[.string fname, .slice oB B.length kB, .slice oP P.length kP, .int .i64 ra, .string rp, .string rq, .int .i64 rn, .slice ro re rk], .slice oA A.length cA] V fun e w' => ∃ u v, e = .returned (.tuple #[u, v]) ∧ IsY w' (callT B P Rr A) u ∧ IsEs w' (callE s B P A) v ∧ Below V.heap.size V w') := Lib.hid (fun V hV hs => callP_any 140737488351232 (by decide) s ⟨fname, B, P, Rr⟩ A _ _ oA cA w V HS.out HFS.out HF.out HA.out HLC.out HCM.out hV (Nat.le_trans hs.1 (by decide)) HWF.out (cnts_small hs) HFA.out HFP.out HFR.out)
  have HC2 : Hid (∀ V, Below w.heap.size w V → Sml A → Sml P → Sml B → cntY Rr ≤ 60 → Calls Try.prog 18 #[.agg #[.slice o s.W.length k, .slice o1 n1 k1, .slice o2 n2 k2, .slice o3 s.bounds.length k3, .slice o4 n4 k4], .agg #[.string fname, .slice oB B.length kB, .slice oP P.length kP, .int .i64 ra, .string rp, .string rq, .int .i64 rn, .slice ro re rk], .slice oA A.length cA] V fun e w' => ∃ u v, e = .returned (.tuple #[u, v]) ∧ IsY w' (callT B P Rr A) u ∧ IsEs w' (callE s B P A) v ∧ Below V.heap.size V w') := Lib.hid (fun V hV ha hp hb hr => callR_any s ⟨fname, B, P, Rr⟩ A _ _ oA cA V (HS.out.below hV) (HF.out.below hV) (HA.out.below hV) ha.1 hp.1 hb.1 (fun p h => Nat.le_trans (hp.2 p h) (by decide)) (Nat.le_trans hr (by decide)))
  have HPY := Lib.hid hP
  have HBY := Lib.hid hB
  have HRY := Lib.hid hR
  have HLP := Lib.hid lcP
  have HCP := Lib.hid cmP
  have HX := Lib.hid hx
  have HFX := Lib.hid fx
  have HS6 := Lib.hid (fun V (hV : Below w.heap.size w V) => parts12_any _ x _ 0 V (Nat.lt_succ_self _) (hx.below hV) (Int.le_refl _) (by decide))
  obtain ⟨xa, xn, xp, xq, xo, xe, xk, rfl⟩ := hx.expl
  obtain ⟨nB, hnB⟩ : ∃ nB, B.length = nB := ⟨_, rfl⟩
  obtain ⟨nP, hnP⟩ : ∃ nP, P.length = nP := ⟨_, rfl⟩
  obtain ⟨nA, hnA⟩ : ∃ nA, A.length = nA := ⟨_, rfl⟩
  rw [hnA] at HS1 HLC HC1 HC2
  rw [hnP] at HS2 HF HLP HC1 HC2
  rw [hnB] at HS3 HF HC1 HC2
  rw [hnA, hnP, hnB]
  have HNB := Lib.hid hnB
  have HNP := Lib.hid hnP
  have HNA := Lib.hid hnA
  clear haw hfs wfP fB fP fR hA lcA cmA fA hlA lcB cmB lcP cmP hB hP hR hlP hlB hnB hnP hnA hx fx
  generalize s.W.length = nW at *
  generalize s.bounds.length = nb at *
  obtain ⟨W1, hW1, HBX⟩ := bx3 w #[.slice o nW k, .slice o1 n1 k1, .slice o2 n2 k2, .slice o3 nb k3, .slice o4 n4 k4] #[.string fname, .slice oB nB kB, .slice oP nP kP, .int .i64 ra, .string rp, .string rq, .int .i64 rn, .slice ro re rk] #[.int .i64 xa, .string xp, .string xq, .int .i64 xn, .slice xo xe xk] 32 36 34
  have HW := Lib.hid hW1
  clear hW1
  go_enter Try.func9, Try.ntmps9
  go_wp2_with fail
  refine (HAW.out _).mono ?_
  rintro e U0 ⟨rfl, hb⟩
  rw [HW.out] at hb
  have H0 := Lib.hid hb
  clear hb HW
  have c0 := (HBX.out.at_ H0.out 0 rfl).cell
  rw [Nat.add_zero] at c0
  have c1 := (HBX.out.at_ H0.out 1 rfl).cell
  have c2 := (HBX.out.at_ H0.out 2 rfl).cell
  go_wp2_with fail
  refine (HS1.out _ (HBX.out.below H0.out)).mono ?_
  rintro e U1 ⟨⟨b1, rfl, hs1⟩, hb⟩
  have H1 := Lib.hid (stepB H0.out hb (Nat.le_refl _))
  have HQ1 := Lib.hid hs1
  clear hs1
  clear hb c0 c1 c2
  have c0 := (HBX.out.at_ H1.out 0 rfl).cell
  rw [Nat.add_zero] at c0
  have c1 := (HBX.out.at_ H1.out 1 rfl).cell
  have c2 := (HBX.out.at_ H1.out 2 rfl).cell
  go_wp2_with fail
  refine (HS2.out _ (HBX.out.below H1.out)).mono ?_
  rintro e U2 ⟨⟨b2, rfl, hs2⟩, hb⟩
  have H2 := Lib.hid (stepB H1.out hb (Nat.le_refl _))
  have HQ2 := Lib.hid hs2
  clear hs2
  clear hb c0 c1 c2
  have c0 := (HBX.out.at_ H2.out 0 rfl).cell
  rw [Nat.add_zero] at c0
  have c1 := (HBX.out.at_ H2.out 1 rfl).cell
  have c2 := (HBX.out.at_ H2.out 2 rfl).cell
  go_wp2_with fail
  refine (HS3.out _ (HBX.out.below H2.out)).mono ?_
  rintro e U3 ⟨⟨b3, rfl, hs3⟩, hb⟩
  have H3 := Lib.hid (stepB H2.out hb (Nat.le_refl _))
  have HQ3 := Lib.hid hs3
  clear hs3
  clear hb c0 c1 c2
  have c0 := (HBX.out.at_ H3.out 0 rfl).cell
  rw [Nat.add_zero] at c0
  have c1 := (HBX.out.at_ H3.out 1 rfl).cell
  have c2 := (HBX.out.at_ H3.out 2 rfl).cell
  go_wp2_with fail
  refine (HS4.out _ (HBX.out.below H3.out)).mono ?_
  rintro e U4 ⟨⟨b4, rfl⟩, hb⟩
  have H4 := Lib.hid (stepB H3.out hb (Nat.le_refl _))
  clear hb c0 c1 c2
  have c0 := (HBX.out.at_ H4.out 0 rfl).cell
  rw [Nat.add_zero] at c0
  have c1 := (HBX.out.at_ H4.out 1 rfl).cell
  have c2 := (HBX.out.at_ H4.out 2 rfl).cell
  cases b1 with
  | false =>
    go_wp2
    go_ret
    exact ⟨rfl, (HBX.out.below H4.out)⟩
  | true =>
    cases b2 with
    | false =>
      go_wp2
      go_ret
      exact ⟨rfl, (HBX.out.below H4.out)⟩
    | true =>
      cases b3 with
      | false =>
        go_wp2
        go_ret
        exact ⟨rfl, (HBX.out.below H4.out)⟩
      | true =>
        cases b4 with
        | false =>
          go_wp2
          go_ret
          exact ⟨rfl, (HBX.out.below H4.out)⟩
        | true =>
          go_wp2_with fail
          refine (HS5.out _ (HBX.out.below H4.out)).mono ?_
          rintro e U5 ⟨⟨r5, rfl, hr1, hr2, hr3⟩, hb⟩
          have H5 := Lib.hid (stepB H4.out hb (Nat.le_refl _))
          have HR5 := Lib.hid hr3
          clear hr1 hr2 hr3
          clear hb c0 c1 c2
          have c0 := (HBX.out.at_ H5.out 0 rfl).cell
          rw [Nat.add_zero] at c0
          have c1 := (HBX.out.at_ H5.out 1 rfl).cell
          have c2 := (HBX.out.at_ H5.out 2 rfl).cell
          by_cases h60 : r5 > 60
          · go_wp2
            go_ret
            exact ⟨rfl, (HBX.out.below H5.out)⟩
          go_wp2_with fail
          refine (HS6.out _ (HBX.out.below H5.out)).mono ?_
          rintro e U6 ⟨⟨r6, rfl, hr1, hr2, hr3⟩, hb⟩
          have H6 := Lib.hid (stepB H5.out hb (Nat.le_refl _))
          have HR6 := Lib.hid hr3
          clear hr1 hr2 hr3
          clear hb c0 c1 c2
          have c0 := (HBX.out.at_ H6.out 0 rfl).cell
          rw [Nat.add_zero] at c0
          have c1 := (HBX.out.at_ H6.out 1 rfl).cell
          have c2 := (HBX.out.at_ H6.out 2 rfl).cell
          by_cases h61 : r6 > 60
          · go_wp2
            go_ret
            exact ⟨rfl, (HBX.out.below H6.out)⟩
          by_cases hlen : ¬ nA = nP
          · have hne : ((nA : Int) != (nP : Int)) = true := by rw [bne_iff_ne]; omega
            go_wp2
            go_ret
            exact ⟨rfl, (HBX.out.below H6.out)⟩
          have hlen := Decidable.not_not.1 hlen
          subst hlen
          have hne : ((nA : Int) != (nA : Int)) = false := bne_self_eq_false' ..
          go_wp2_with fail
          clear hne
          refine (HC1.out _ (HBX.out.below H6.out) (HQ2.out (by first | rfl | trivial))).mono ?_
          rintro e U7 ⟨uy, vy, rfl, hu, hv, hb⟩
          obtain ⟨ya, yn, yp, yq, yo, ye, yk, rfl⟩ := hu.expl
          obtain ⟨nE, hnE⟩ : ∃ n, (callE s B P A).length = n := ⟨_, rfl⟩
          obtain ⟨ovy, kvy, rfl⟩ : ∃ o k, vy = .slice o nE k := by obtain ⟨o, k, h, _⟩ := hv; exact ⟨o, k, by rw [h, hnE]⟩
          have HNE0 := Lib.hid hnE
          clear hnE
          have H7 := Lib.hid (stepB H6.out hb (Nat.le_refl _))
          clear hb c0 c1 c2 
          obtain ⟨U8, hX⟩ : ∃ X, U7.alloc (.cells #[.int .i64 ya, .string yp, .string yq, .int .i64 yn, .slice yo ye yk] 34) = X := ⟨_, rfl⟩
          have hb : Below U7.heap.size U7 U8 := by rw [← hX]; exact (Below.refl _ _).alloc (Nat.le_refl _) _
          have H8 := Lib.hid (stepB H7.out hb (Nat.le_refl _))
          have BXy : Hid (Blk U8 U7.heap.size 34 #[.int .i64 ya, .string yp, .string yq, .int .i64 yn, .slice yo ye yk]) := by rw [← hX]; exact bkN rfl _ _
          have HUy := Lib.hid (hu.below hb)
          have HVy := Lib.hid (hv.belowE hb)
          have HXy := Lib.hid hX
          clear hb hu hv hX
          have c0 := (HBX.out.at_ H8.out 0 rfl).cell
          rw [Nat.add_zero] at c0
          have c1 := (HBX.out.at_ H8.out 1 rfl).cell
          have c2 := (HBX.out.at_ H8.out 2 rfl).cell
          have dy := BXy.out.cell
          have BX0 : Hid (Blk U8 w.heap.size 32 #[.slice o nW k, .slice o1 n1 k1, .slice o2 n2 k2, .slice o3 nb k3, .slice o4 n4 k4]) := by have h := HBX.out.at_ H8.out 0 rfl; rwa [Nat.add_zero] at h
          have BX1 : Hid (Blk U8 (w.heap.size + 1) 36 #[.string fname, .slice oB nB kB, .slice oP nA kP, .int .i64 ra, .string rp, .string rq, .int .i64 rn, .slice ro re rk]) := HBX.out.at_ H8.out 1 rfl
          have BX2 : Hid (Blk U8 (w.heap.size + 2) 34 #[.int .i64 xa, .string xp, .string xq, .int .i64 xn, .slice xo xe xk]) := HBX.out.at_ H8.out 2 rfl
          have HW8 := Lib.hid (HBX.out.below H8.out)
          have hSA := HQ1.out (by first | rfl | trivial)
          have hSP := HQ2.out (by first | rfl | trivial)
          have hlenP : A.length = P.length := by rw [HNA.out, HNP.out]
          obtain ⟨D, hD1, hD2, hD3, hD4, hD5⟩ := ys_flat HA.out
          have hnA20 : nA ≤ 20 := by rw [← HNA.out]; exact hSA.1
          have HCP : Hid (∀ (W : World) (b0 : Nat), Below U8.heap.size U8 W → Blk W b0 34 #[] → U8.heap.size ≤ b0 → ∀ ty, ∃ v X, (Builtin.append_ #[23, 23] ty #[.slice (some ⟨b0, 0, none⟩) 0 0, .slice oA nA cA]).run Try.prog W = .ok v X ∧ CopyT U8.heap.size nA D W v X) := Lib.hid (fun W b0 hb hE h0 => run_copy_ys W U8.heap.size b0 hE h0 oA nA cA D (hD1.trans HNA.out) hD2 (by rcases hD4 with h | h; exact .inl (by rw [← HNA.out, h]; rfl); exact .inr h) (fun a ha j u hu => by
            have h := hD5 a ha j u hu
            rw [Nat.zero_mul, Nat.zero_add] at h
            exact ((stepB HW8.out hb (Nat.le_refl _)).cell (World.block_lt_of_cell? _ _ h)).trans h) (by omega))
          have HMO : Hid (∀ (W : World) (v : Value) (g : Nat), Below U8.heap.size U8 W → W.ownsRow U8.heap.size 34 5 v nA D.flatten → Blk W g 34 #[.int .i64 xa, .string xp, .string xq, .int .i64 xn, .slice xo xe xk] → ∀ ty, ∃ v' X, (Builtin.append_ #[23, 23] ty #[v, .slice (some ⟨g, 0, none⟩) 1 1]).run Try.prog W = .ok v' X ∧ MoreT U8.heap.size nA v D [.int .i64 xa, .string xp, .string xq, .int .i64 xn, .slice xo xe xk] W v' X) := Lib.hid (fun W v g hb hr hg => run_more_ys W U8.heap.size nA v D hr hb.size g _ hg ⟨rfl, rfl⟩ (by omega))
          have HYS : Hid (∀ (X : World) (o : Option Addr) (c : Nat), Below U8.heap.size U8 X → X.ownsRow U8.heap.size 34 5 (.slice o (nA + 1) c) (nA + 1) (D ++ [([.int .i64 xa, .string xp, .string xq, .int .i64 xn, .slice xo xe xk] : List Value)]).flatten → nA + 1 ≤ c ∧ c ≤ maxLen ∧ IsYs X o 0 (A ++ [x])) := Lib.hid (fun X o c hb hr => row_ys hr (by rw [List.length_append, hD1, HNA.out]; rfl) (fun d hd => by
            rcases List.mem_append.1 hd with hd | hd
            · exact hD2 d hd
            · rw [List.mem_singleton.1 hd]; exact ⟨rfl, rfl⟩) (by rw [List.length_append, HNA.out]; rfl) (fun i y d hy hd => by
            have hwX := stepB HW8.out hb (Nat.le_refl _)
            by_cases hi : i < nA
            · rw [List.getElem?_append_left (by rw [HNA.out]; exact hi)] at hy
              rw [List.getElem?_append_left (by rw [hD1, HNA.out]; exact hi)] at hd
              exact (hD3 i y d hy hd).below hwX
            · have hi' : i = nA := by have := (List.getElem?_eq_some_iff.1 hy).1; rw [List.length_append, HNA.out] at this; simp at this; omega
              subst hi'
              rw [List.getElem?_append_right (by rw [HNA.out]; exact Nat.le_refl _), HNA.out, Nat.sub_self] at hy
              rw [List.getElem?_append_right (by rw [hD1, HNA.out]; exact Nat.le_refl _), hD1, HNA.out, Nat.sub_self] at hd
              simp only [List.getElem?_cons_zero, Option.some.injEq] at hy hd
              subst hy
              subst hd
              exact HX.out.below hwX))
          have HC3 : Hid (∀ (V : World) (o' : Option Addr) (c' : Nat), Below w.heap.size w V → nA + 1 ≤ c' → c' ≤ maxLen → IsYs V o' 0 (A ++ [x]) → Calls Try.prog 17 #[.agg #[.slice o nW k, .slice o1 n1 k1, .slice o2 n2 k2, .slice o3 nb k3, .slice o4 n4 k4], .agg #[.string fname, .slice oB nB kB, .slice oP nA kP, .int .i64 ra, .string rp, .string rq, .int .i64 rn, .slice ro re rk], .slice o' (nA + 1) c'] V fun e w' => ∃ (za zn : Int) (zp zq : ByteArray) (zo : Option Addr) (ze zk : Nat) (ov : Option Addr) (kv : Nat), e = .returned (.tuple #[.agg #[.int .i64 za, .string zp, .string zq, .int .i64 zn, .slice zo ze zk], .slice ov (nE + 1) kv]) ∧ IsYF w' V.heap.size (callT B P Rr A) (.agg #[.int .i64 za, .string zp, .string zq, .int .i64 zn, .slice zo ze zk]) ∧ IsEs w' ((-1, 12) :: callE s B P A) (.slice ov (nE + 1) kv) ∧ Below V.heap.size V w') := Lib.hid (fun V o' c' hV h1 h2 h3 => by
            have hl : (A ++ [x]).length = nA + 1 := by rw [List.length_append, HNA.out]; rfl
            have h := callPF_any 140737488351232 (by decide) s ⟨fname, B, P, Rr⟩ (A ++ [x]) _ _ o' c' V V (HS.out.below hV) HFS.out (HF.out.below hV) h3 (by rw [hl]; exact h1) h2 (Below.refl _ _) (Nat.le_trans hSP.1 (by decide)) HWF.out (cnts_small hSP) (fits_app HFA.out (by unfold FitYs; exact ⟨HFX.out, by unfold FitYs; trivial⟩)) HFP.out HFR.out
            rw [hl] at h
            dsimp only at h
            rw [more_type hlenP, more_call hlenP] at h
            refine h.mono ?_
            rintro e w' ⟨u, v, rfl, hu, hv, hb⟩
            obtain ⟨za, zn, zp, zq, zo, ze, zk, rfl⟩ := hu.toY.expl
            have hv2 := hv
            obtain ⟨ov, kv, rfl, _⟩ := hv2
            rw [List.length_cons, HNE0.out] at hv ⊢
            exact ⟨za, zn, zp, zq, zo, ze, zk, ov, kv, rfl, hu, hv, hb⟩)
          have HCD : Hid (∀ e ∈ ((-1, 12) : Int × Int) :: callE s B P A, e.2 ≠ 0) := fun e h => by
            rcases List.mem_cons.1 h with rfl | h
            · simp
            · exact call_codes e h
          clear hSA hSP hlenP hD1 hD2 hD3 hD4 hD5 HQ1 HQ2 HQ3 HA HX HFX HFA
          go_wp2_with (rw [HXy.out])
          go_cut [16, 17] from 71 to 82 (fun v1 v2 wx => ∃ (gz : Nat) (za zn : Int) (zp zq : ByteArray) (zo : Option Addr) (ze zk : Nat) (ov : Option Addr) (kv : Nat), v1 = .pointer (some ⟨gz, 0, none⟩) ∧ v2 = .slice ov (nE + 1) kv ∧ Hid (Blk wx gz 34 #[.int .i64 za, .string zp, .string zq, .int .i64 zn, .slice zo ze zk]) ∧ Hid (IsY wx (callT B P Rr A) (.agg #[.int .i64 za, .string zp, .string zq, .int .i64 zn, .slice zo ze zk])) ∧ Hid (IsEs wx ((-1, 12) :: callE s B P A) (.slice ov (nE + 1) kv)) ∧ Hid (Below U8.heap.size U8 wx))
          case first =>
            have hS0 : (fun w' : World => Below U8.heap.size U8 w') U8.drew := (Below.refl _ _).drew
            refine wp_region_held_drew (S := (fun w' : World => Below U8.heap.size U8 w')) (by kernel_rfl) hS0 fun hS0 => ?_
            refine wpAnyH_take (i := 0) (v := .agg #[.slice o nW k, .slice o1 n1 k1, .slice o2 n2 k2, .slice o3 nb k3, .slice o4 n4 k4]) rfl (by kernel_rfl) (by kernel_rfl) (by kernel_rfl) (fun _ _ _ h => h) (Or.inl ⟨by kernel_rfl, fun w' hw' => ?_⟩) hS0 ?_
            · exact run_loadG 32 5 sizeS5 Try.underlying32 _ rfl ⟨w.heap.size, 0, none⟩ (by kernel_rfl) (cs := [.slice o nW k, .slice o1 n1 k1, .slice o2 n2 k2, .slice o3 nb k3, .slice o4 n4 k4]) (bk0 (blkB BX0.out hw')) rfl
            refine wpAnyH_take (i := 1) (v := .agg #[.string fname, .slice oB nB kB, .slice oP nA kP, .int .i64 ra, .string rp, .string rq, .int .i64 rn, .slice ro re rk]) rfl (by kernel_rfl) (by kernel_rfl) (by kernel_rfl) (fun _ _ _ h => h) (Or.inl ⟨by kernel_rfl, fun w' hw' => ?_⟩) hS0 ?_
            · exact run_loadG 36 8 sizeF8 Try.underlying36 _ rfl ⟨(w.heap.size + 1), 0, none⟩ (by kernel_rfl) (cs := [.string fname, .slice oB nB kB, .slice oP nA kP, .int .i64 ra, .string rp, .string rq, .int .i64 rn, .slice ro re rk]) (bk0 (blkB BX1.out hw')) rfl
            refine wpAnyH_take (i := 3) (v := .slice oA nA cA) rfl (by kernel_rfl) (by kernel_rfl) (by kernel_rfl) (fun _ _ _ h => h) (Or.inl ⟨by kernel_rfl, fun w' hw' => ?_⟩) hS0 ?_
            · kernel_rfl
            refine wpAnyH_take (i := 5) (v := .agg #[.int .i64 xa, .string xp, .string xq, .int .i64 xn, .slice xo xe xk]) rfl (by kernel_rfl) (by kernel_rfl) (by kernel_rfl) (fun _ _ _ h => h) (Or.inl ⟨by kernel_rfl, fun w' hw' => ?_⟩) hS0 ?_
            · exact run_loadG 34 5 size5 Try.underlying34 _ rfl ⟨(w.heap.size + 2), 0, none⟩ (by kernel_rfl) (cs := [.int .i64 xa, .string xp, .string xq, .int .i64 xn, .slice xo xe xk]) (bk0 (blkB BX2.out hw')) rfl
            obtain ⟨V0, hV0⟩ : ∃ V0, U8.drew = V0 := ⟨_, rfl⟩
            rw [hV0] at hS0 ⊢
            clear hV0
            refine wpAnyH_ready (rs := [2, 6, 12]) (by kernel_rfl) (by simp) (AllReadyH.cons rfl (fun KK hK => ?_) (AllReadyH.cons rfl (fun KK hK => ?_) (AllReadyH.cons rfl (fun KK hK => ?_) AllReadyH.nil)))
            · go_simp
              obtain ⟨X1, hX⟩ : ∃ X, V0.alloc (.cells #[] 34) = X := ⟨_, rfl⟩
              have hr : Blk X1 V0.heap.size 34 #[] := by rw [← hX]; exact bkN rfl _ _
              have hb : Below V0.heap.size V0 X1 := by rw [← hX]; exact (Below.refl _ _).alloc (Nat.le_refl _) _
              have h' := stepB hS0 hb (Nat.le_refl _)
              have E0 := Lib.hid hr
              refine hK.out _ _ (by rw [hX]; exact h') (fun h2 => ?_)
              change wpAnyH Try.prog _ _ _ _ _ _ _ (V0.alloc (.cells #[] 34))
              rw [hX] at h2 ⊢
              clear hX hb h' hr
              refine wpAnyH_ready (rs := [4, 6, 12]) (by kernel_rfl) (by simp) (AllReadyH.cons rfl (fun KK hK => ?_) (AllReadyH.cons rfl (fun KK hK => ?_) (AllReadyH.cons rfl (fun KK hK => ?_) AllReadyH.nil)))
              · refine step_append_ex rfl (.tmp 74) (.tmp 75) 23 rfl (.slice (some ⟨V0.heap.size, 0, none⟩) 0 0) (.slice oA nA cA) (by kernel_rfl) (by kernel_rfl) (HCP.out X1 _ h2 E0.out hS0.size) fun vq X3 hR => ?_
                obtain ⟨⟨oq, cq, rfl, hrw, hkp⟩, hbl⟩ := hR
                have h' := h2.trans hbl
                have R1 := Lib.hid hrw
                refine hK.out _ _ h' (fun h4 => ?_)
                clear hrw hkp hbl h' E0
                refine wpAnyH_ready (rs := [6, 12]) (by kernel_rfl) (by simp) (AllReadyH.cons rfl (fun KK hK => ?_) (AllReadyH.cons rfl (fun KK hK => ?_) AllReadyH.nil))
                · go_simp
                  obtain ⟨X5, hX⟩ : ∃ X, X3.alloc (.cells #[.int .i64 xa, .string xp, .string xq, .int .i64 xn, .slice xo xe xk] 34) = X := ⟨_, rfl⟩
                  have hr : Blk X5 X3.heap.size 34 #[.int .i64 xa, .string xp, .string xq, .int .i64 xn, .slice xo xe xk] := by rw [← hX]; exact bkN rfl _ _
                  have hb : Below X3.heap.size X3 X5 := by rw [← hX]; exact (Below.refl _ _).alloc (Nat.le_refl _) _
                  have h' := stepB h4 hb (Nat.le_refl _)
                  have R1 := Lib.hid (row_below R1.out hb)
                  have N1 := Lib.hid hr
                  refine hK.out _ _ (by rw [hX]; exact h') (fun h6 => ?_)
                  change wpAnyH Try.prog _ _ _ _ _ _ _ (X3.alloc (.cells #[.int .i64 xa, .string xp, .string xq, .int .i64 xn, .slice xo xe xk] 34))
                  rw [hX] at h6 ⊢
                  clear hX hb h' hr
                  refine wpAnyH_ready (rs := [7, 12]) (by kernel_rfl) (by simp) (AllReadyH.cons rfl (fun KK hK => ?_) (AllReadyH.cons rfl (fun KK hK => ?_) AllReadyH.nil))
                  · refine step_append_ex rfl (.tmp 76) (.tmp 78) 23 rfl (.slice oq nA cq) (.slice (some ⟨X3.heap.size, 0, none⟩) 1 1) (by kernel_rfl) (by kernel_rfl) (HMO.out X5 _ _ h6 R1.out N1.out) fun vq X7 hR => ?_
                    obtain ⟨⟨o9, c9, rfl, hrw⟩, hkp, hbl⟩ := hR
                    have h' := h6.trans hbl
                    obtain ⟨hy1, hy2, hy3⟩ := HYS.out _ _ _ h' hrw
                    have HY1 := Lib.hid hy1
                    have HY2 := Lib.hid hy2
                    have YS := Lib.hid hy3
                    refine hK.out _ _ h' (fun h8 => ?_)
                    clear hrw hkp hbl h' hy1 hy2 hy3 R1 N1
                    refine wpAnyH_ready (rs := [8, 12]) (by kernel_rfl) (by simp) (AllReadyH.cons rfl (fun KK hK => ?_) (AllReadyH.cons rfl (fun KK hK => ?_) AllReadyH.nil))
                    · go_simp
                      refine (HC3.out X7 o9 c9 (stepB HW8.out h8 (Nat.le_refl _)) HY1.out HY2.out YS.out).mono ?_
                      rintro e X9 ⟨za, zn, zp, zq, zo, ze, zk, ov, kv, rfl, hu, hv, hb⟩
                      have h' := stepB h8 hb (Nat.le_refl _)
                      have HUF := Lib.hid hu
                      have HVZ := Lib.hid hv
                      refine hK.out _ _ h' (fun h10 => ?_)
                      clear hu hv hb h' YS HY1 HY2
                      refine wpAnyH_take (i := 9) (v := .tuple #[.agg #[.int .i64 za, .string zp, .string zq, .int .i64 zn, .slice zo ze zk], .slice ov (nE + 1) kv]) rfl (by kernel_rfl) (by kernel_rfl) (by kernel_rfl) (fun _ _ _ h => h) (Or.inl ⟨by kernel_rfl, fun w' hw' => ?_⟩) h10 ?_
                      · go_simp
                      refine wpAnyH_take (i := 10) (v := .agg #[.int .i64 za, .string zp, .string zq, .int .i64 zn, .slice zo ze zk]) rfl (by kernel_rfl) (by kernel_rfl) (by kernel_rfl) (fun _ _ _ h => h) (Or.inl ⟨by kernel_rfl, fun w' hw' => ?_⟩) h10 ?_
                      · go_simp
                      refine wpAnyH_take (i := 11) (v := .slice ov (nE + 1) kv) rfl (by kernel_rfl) (by kernel_rfl) (by kernel_rfl) (fun _ _ _ h => h) (Or.inl ⟨by kernel_rfl, fun w' hw' => ?_⟩) h10 ?_
                      · go_simp
                      refine wpAnyH_ready (rs := [12]) (by kernel_rfl) (by simp) (AllReadyH.cons rfl (fun KK hK => ?_) AllReadyH.nil)
                      go_simp
                      obtain ⟨X11, hX⟩ : ∃ X, X9.alloc (.cells #[.int .i64 0, .string ⟨#[]⟩, .string ⟨#[]⟩, .int .i64 0, .slice none 0 0] 34) = X := ⟨_, rfl⟩
                      have hr : Blk X11 X9.heap.size 34 #[.int .i64 0, .string ⟨#[]⟩, .string ⟨#[]⟩, .int .i64 0, .slice none 0 0] := by rw [← hX]; exact bkN rfl _ _
                      have hb : Below X9.heap.size X9 X11 := by rw [← hX]; exact (Below.refl _ _).alloc (Nat.le_refl _) _
                      have h' := stepB h10 hb (Nat.le_refl _)
                      have HBC := Lib.hid hb
                      have BX := Lib.hid hr
                      refine hK.out _ _ (by rw [hX]; exact h') (fun h12 => ?_)
                      change wpAnyH Try.prog _ _ _ _ _ _ _ (X9.alloc (.cells #[.int .i64 0, .string ⟨#[]⟩, .string ⟨#[]⟩, .int .i64 0, .slice none 0 0] 34))
                      rw [hX] at h12 ⊢
                      clear hX hb h' hr
                      refine wpAnyH_ready (rs := [13]) (by kernel_rfl) (by simp) (AllReadyH.cons rfl (fun KK hK => ?_) AllReadyH.nil)
                      refine wp_store_row (P := Try.prog) 34 _ _ rfl (X9.heap.size) #[.int .i64 za, .string zp, .string zq, .int .i64 zn, .slice zo ze zk] (by kernel_rfl) (by kernel_rfl) 34 #[.int .i64 0, .string ⟨#[]⟩, .string ⟨#[]⟩, .int .i64 0, .slice none 0 0] BX.out (by rw [size5]; rfl) rfl (by simp [Value.oneCell']) ?_
                      refine hK.out _ _ (below_setRow h12 h10.size _) (fun hz => ?_)
                      refine wpAnyH_take (i := 14) (v := .slice ov (nE + 1) kv) rfl (by kernel_rfl) (by kernel_rfl) (by kernel_rfl) (fun _ _ _ h => h) (Or.inl ⟨by kernel_rfl, fun w' hw' => ?_⟩) hz ?_
                      · go_simp
                      refine wpAnyH_done (by kernel_rfl) ?_ _
                      go_wp2_with fail
                      go_meet
                      exact ⟨_, _, _, _, _, _, _, _, _, _, rfl, rfl, BX.out.row _, HUF.out.toY.below (below_setRow HBC.out (Nat.le_refl _) _), HVZ.out.belowE (below_setRow HBC.out (Nat.le_refl _) _), hz⟩
                    · go_simp
                      obtain ⟨X13, hX⟩ : ∃ X, X7.alloc (.cells #[.int .i64 0, .string ⟨#[]⟩, .string ⟨#[]⟩, .int .i64 0, .slice none 0 0] 34) = X := ⟨_, rfl⟩
                      have hr : Blk X13 X7.heap.size 34 #[.int .i64 0, .string ⟨#[]⟩, .string ⟨#[]⟩, .int .i64 0, .slice none 0 0] := by rw [← hX]; exact bkN rfl _ _
                      have hb : Below X7.heap.size X7 X13 := by rw [← hX]; exact (Below.refl _ _).alloc (Nat.le_refl _) _
                      have h' := stepB h8 hb (Nat.le_refl _)
                      have YS := Lib.hid (YS.out.below hb)
                      have BX := Lib.hid hr
                      refine hK.out _ _ (by rw [hX]; exact h') (fun h14 => ?_)
                      change wpAnyH Try.prog _ _ _ _ _ _ _ (X7.alloc (.cells #[.int .i64 0, .string ⟨#[]⟩, .string ⟨#[]⟩, .int .i64 0, .slice none 0 0] 34))
                      rw [hX] at h14 ⊢
                      clear hX hb h' hr
                      refine wpAnyH_ready (rs := [8]) (by kernel_rfl) (by simp) (AllReadyH.cons rfl (fun KK hK => ?_) AllReadyH.nil)
                      go_simp
                      refine (HC3.out X13 o9 c9 (stepB HW8.out h14 (Nat.le_refl _)) HY1.out HY2.out YS.out).mono ?_
                      rintro e X15 ⟨za, zn, zp, zq, zo, ze, zk, ov, kv, rfl, hu, hv, hb⟩
                      have h' := stepB h14 hb (Nat.le_refl _)
                      have HGL := Lib.hid BX.out.lt
                      have BX := Lib.hid (blkB BX.out hb)
                      have HUF := Lib.hid hu
                      have HVZ := Lib.hid hv
                      refine hK.out _ _ h' (fun h16 => ?_)
                      clear hu hv hb h' YS HY1 HY2
                      refine wpAnyH_take (i := 9) (v := .tuple #[.agg #[.int .i64 za, .string zp, .string zq, .int .i64 zn, .slice zo ze zk], .slice ov (nE + 1) kv]) rfl (by kernel_rfl) (by kernel_rfl) (by kernel_rfl) (fun _ _ _ h => h) (Or.inl ⟨by kernel_rfl, fun w' hw' => ?_⟩) h16 ?_
                      · go_simp
                      refine wpAnyH_take (i := 11) (v := .slice ov (nE + 1) kv) rfl (by kernel_rfl) (by kernel_rfl) (by kernel_rfl) (fun _ _ _ h => h) (Or.inl ⟨by kernel_rfl, fun w' hw' => ?_⟩) h16 ?_
                      · go_simp
                      refine wpAnyH_ready (rs := [10]) (by kernel_rfl) (by simp) (AllReadyH.cons rfl (fun KK hK => ?_) AllReadyH.nil)
                      go_simp
                      refine hK.out _ _ h16 (fun h16 => ?_)
                      refine wpAnyH_ready (rs := [13]) (by kernel_rfl) (by simp) (AllReadyH.cons rfl (fun KK hK => ?_) AllReadyH.nil)
                      refine wp_store_row (P := Try.prog) 34 _ _ rfl (X7.heap.size) #[.int .i64 za, .string zp, .string zq, .int .i64 zn, .slice zo ze zk] (by kernel_rfl) (by kernel_rfl) 34 #[.int .i64 0, .string ⟨#[]⟩, .string ⟨#[]⟩, .int .i64 0, .slice none 0 0] BX.out (by rw [size5]; rfl) rfl (by simp [Value.oneCell']) ?_
                      refine hK.out _ _ (below_setRow h16 h8.size _) (fun hz => ?_)
                      refine wpAnyH_take (i := 14) (v := .slice ov (nE + 1) kv) rfl (by kernel_rfl) (by kernel_rfl) (by kernel_rfl) (fun _ _ _ h => h) (Or.inl ⟨by kernel_rfl, fun w' hw' => ?_⟩) hz ?_
                      · go_simp
                      refine wpAnyH_done (by kernel_rfl) ?_ _
                      go_wp2_with fail
                      go_meet
                      exact ⟨_, _, _, _, _, _, _, _, _, _, rfl, rfl, BX.out.row _, isY_row HUF.out HGL.out _, es_row2 HVZ.out HCD.out BX.out _, hz⟩
                  · go_simp
                    obtain ⟨X17, hX⟩ : ∃ X, X5.alloc (.cells #[.int .i64 0, .string ⟨#[]⟩, .string ⟨#[]⟩, .int .i64 0, .slice none 0 0] 34) = X := ⟨_, rfl⟩
                    have hr : Blk X17 X5.heap.size 34 #[.int .i64 0, .string ⟨#[]⟩, .string ⟨#[]⟩, .int .i64 0, .slice none 0 0] := by rw [← hX]; exact bkN rfl _ _
                    have hb : Below X5.heap.size X5 X17 := by rw [← hX]; exact (Below.refl _ _).alloc (Nat.le_refl _) _
                    have h' := stepB h6 hb (Nat.le_refl _)
                    have HNE : Hid ((Value.slice oq nA cq).ownBlock ≠ some X5.heap.size) := fun e => by have := (R1.out.lt _ e).2; omega
                    have N1 := Lib.hid (blkB N1.out hb)
                    have R1 := Lib.hid (row_below R1.out hb)
                    have BX := Lib.hid hr
                    refine hK.out _ _ (by rw [hX]; exact h') (fun h18 => ?_)
                    change wpAnyH Try.prog _ _ _ _ _ _ _ (X5.alloc (.cells #[.int .i64 0, .string ⟨#[]⟩, .string ⟨#[]⟩, .int .i64 0, .slice none 0 0] 34))
                    rw [hX] at h18 ⊢
                    clear hX hb h' hr
                    refine wpAnyH_ready (rs := [7]) (by kernel_rfl) (by simp) (AllReadyH.cons rfl (fun KK hK => ?_) AllReadyH.nil)
                    refine step_append_ex rfl (.tmp 76) (.tmp 78) 23 rfl (.slice oq nA cq) (.slice (some ⟨X3.heap.size, 0, none⟩) 1 1) (by kernel_rfl) (by kernel_rfl) (HMO.out X17 _ _ h18 R1.out N1.out) fun vq X19 hR => ?_
                    obtain ⟨⟨o9, c9, rfl, hrw⟩, hkp, hbl⟩ := hR
                    have h' := h18.trans hbl
                    have BX := Lib.hid (hkp _ _ BX.out HNE.out)
                    obtain ⟨hy1, hy2, hy3⟩ := HYS.out _ _ _ h' hrw
                    have HY1 := Lib.hid hy1
                    have HY2 := Lib.hid hy2
                    have YS := Lib.hid hy3
                    refine hK.out _ _ h' (fun h20 => ?_)
                    clear hrw hkp hbl h' hy1 hy2 hy3 R1 N1
                    refine wpAnyH_ready (rs := [8]) (by kernel_rfl) (by simp) (AllReadyH.cons rfl (fun KK hK => ?_) AllReadyH.nil)
                    go_simp
                    refine (HC3.out X19 o9 c9 (stepB HW8.out h20 (Nat.le_refl _)) HY1.out HY2.out YS.out).mono ?_
                    rintro e X21 ⟨za, zn, zp, zq, zo, ze, zk, ov, kv, rfl, hu, hv, hb⟩
                    have h' := stepB h20 hb (Nat.le_refl _)
                    have HGL := Lib.hid BX.out.lt
                    have BX := Lib.hid (blkB BX.out hb)
                    have HUF := Lib.hid hu
                    have HVZ := Lib.hid hv
                    refine hK.out _ _ h' (fun h22 => ?_)
                    clear hu hv hb h' YS HY1 HY2
                    refine wpAnyH_take (i := 9) (v := .tuple #[.agg #[.int .i64 za, .string zp, .string zq, .int .i64 zn, .slice zo ze zk], .slice ov (nE + 1) kv]) rfl (by kernel_rfl) (by kernel_rfl) (by kernel_rfl) (fun _ _ _ h => h) (Or.inl ⟨by kernel_rfl, fun w' hw' => ?_⟩) h22 ?_
                    · go_simp
                    refine wpAnyH_take (i := 11) (v := .slice ov (nE + 1) kv) rfl (by kernel_rfl) (by kernel_rfl) (by kernel_rfl) (fun _ _ _ h => h) (Or.inl ⟨by kernel_rfl, fun w' hw' => ?_⟩) h22 ?_
                    · go_simp
                    refine wpAnyH_ready (rs := [10]) (by kernel_rfl) (by simp) (AllReadyH.cons rfl (fun KK hK => ?_) AllReadyH.nil)
                    go_simp
                    refine hK.out _ _ h22 (fun h22 => ?_)
                    refine wpAnyH_ready (rs := [13]) (by kernel_rfl) (by simp) (AllReadyH.cons rfl (fun KK hK => ?_) AllReadyH.nil)
                    refine wp_store_row (P := Try.prog) 34 _ _ rfl (X5.heap.size) #[.int .i64 za, .string zp, .string zq, .int .i64 zn, .slice zo ze zk] (by kernel_rfl) (by kernel_rfl) 34 #[.int .i64 0, .string ⟨#[]⟩, .string ⟨#[]⟩, .int .i64 0, .slice none 0 0] BX.out (by rw [size5]; rfl) rfl (by simp [Value.oneCell']) ?_
                    refine hK.out _ _ (below_setRow h22 h6.size _) (fun hz => ?_)
                    refine wpAnyH_take (i := 14) (v := .slice ov (nE + 1) kv) rfl (by kernel_rfl) (by kernel_rfl) (by kernel_rfl) (fun _ _ _ h => h) (Or.inl ⟨by kernel_rfl, fun w' hw' => ?_⟩) hz ?_
                    · go_simp
                    refine wpAnyH_done (by kernel_rfl) ?_ _
                    go_wp2_with fail
                    go_meet
                    exact ⟨_, _, _, _, _, _, _, _, _, _, rfl, rfl, BX.out.row _, isY_row HUF.out HGL.out _, es_row2 HVZ.out HCD.out BX.out _, hz⟩
                · go_simp
                  obtain ⟨X23, hX⟩ : ∃ X, X3.alloc (.cells #[.int .i64 0, .string ⟨#[]⟩, .string ⟨#[]⟩, .int .i64 0, .slice none 0 0] 34) = X := ⟨_, rfl⟩
                  have hr : Blk X23 X3.heap.size 34 #[.int .i64 0, .string ⟨#[]⟩, .string ⟨#[]⟩, .int .i64 0, .slice none 0 0] := by rw [← hX]; exact bkN rfl _ _
                  have hb : Below X3.heap.size X3 X23 := by rw [← hX]; exact (Below.refl _ _).alloc (Nat.le_refl _) _
                  have h' := stepB h4 hb (Nat.le_refl _)
                  have HNE : Hid ((Value.slice oq nA cq).ownBlock ≠ some X3.heap.size) := fun e => by have := (R1.out.lt _ e).2; omega
                  have R1 := Lib.hid (row_below R1.out hb)
                  have BX := Lib.hid hr
                  refine hK.out _ _ (by rw [hX]; exact h') (fun h24 => ?_)
                  change wpAnyH Try.prog _ _ _ _ _ _ _ (X3.alloc (.cells #[.int .i64 0, .string ⟨#[]⟩, .string ⟨#[]⟩, .int .i64 0, .slice none 0 0] 34))
                  rw [hX] at h24 ⊢
                  clear hX hb h' hr
                  refine wpAnyH_ready (rs := [6]) (by kernel_rfl) (by simp) (AllReadyH.cons rfl (fun KK hK => ?_) AllReadyH.nil)
                  go_simp
                  obtain ⟨X25, hX⟩ : ∃ X, X23.alloc (.cells #[.int .i64 xa, .string xp, .string xq, .int .i64 xn, .slice xo xe xk] 34) = X := ⟨_, rfl⟩
                  have hr : Blk X25 X23.heap.size 34 #[.int .i64 xa, .string xp, .string xq, .int .i64 xn, .slice xo xe xk] := by rw [← hX]; exact bkN rfl _ _
                  have hb : Below X23.heap.size X23 X25 := by rw [← hX]; exact (Below.refl _ _).alloc (Nat.le_refl _) _
                  have h' := stepB h24 hb (Nat.le_refl _)
                  have BX := Lib.hid (blkB BX.out hb)
                  have R1 := Lib.hid (row_below R1.out hb)
                  have N1 := Lib.hid hr
                  refine hK.out _ _ (by rw [hX]; exact h') (fun h26 => ?_)
                  change wpAnyH Try.prog _ _ _ _ _ _ _ (X23.alloc (.cells #[.int .i64 xa, .string xp, .string xq, .int .i64 xn, .slice xo xe xk] 34))
                  rw [hX] at h26 ⊢
                  clear hX hb h' hr
                  refine wpAnyH_ready (rs := [7]) (by kernel_rfl) (by simp) (AllReadyH.cons rfl (fun KK hK => ?_) AllReadyH.nil)
                  refine step_append_ex rfl (.tmp 76) (.tmp 78) 23 rfl (.slice oq nA cq) (.slice (some ⟨X23.heap.size, 0, none⟩) 1 1) (by kernel_rfl) (by kernel_rfl) (HMO.out X25 _ _ h26 R1.out N1.out) fun vq X27 hR => ?_
                  obtain ⟨⟨o9, c9, rfl, hrw⟩, hkp, hbl⟩ := hR
                  have h' := h26.trans hbl
                  have BX := Lib.hid (hkp _ _ BX.out HNE.out)
                  obtain ⟨hy1, hy2, hy3⟩ := HYS.out _ _ _ h' hrw
                  have HY1 := Lib.hid hy1
                  have HY2 := Lib.hid hy2
                  have YS := Lib.hid hy3
                  refine hK.out _ _ h' (fun h28 => ?_)
                  clear hrw hkp hbl h' hy1 hy2 hy3 R1 N1
                  refine wpAnyH_ready (rs := [8]) (by kernel_rfl) (by simp) (AllReadyH.cons rfl (fun KK hK => ?_) AllReadyH.nil)
                  go_simp
                  refine (HC3.out X27 o9 c9 (stepB HW8.out h28 (Nat.le_refl _)) HY1.out HY2.out YS.out).mono ?_
                  rintro e X29 ⟨za, zn, zp, zq, zo, ze, zk, ov, kv, rfl, hu, hv, hb⟩
                  have h' := stepB h28 hb (Nat.le_refl _)
                  have HGL := Lib.hid BX.out.lt
                  have BX := Lib.hid (blkB BX.out hb)
                  have HUF := Lib.hid hu
                  have HVZ := Lib.hid hv
                  refine hK.out _ _ h' (fun h30 => ?_)
                  clear hu hv hb h' YS HY1 HY2
                  refine wpAnyH_take (i := 9) (v := .tuple #[.agg #[.int .i64 za, .string zp, .string zq, .int .i64 zn, .slice zo ze zk], .slice ov (nE + 1) kv]) rfl (by kernel_rfl) (by kernel_rfl) (by kernel_rfl) (fun _ _ _ h => h) (Or.inl ⟨by kernel_rfl, fun w' hw' => ?_⟩) h30 ?_
                  · go_simp
                  refine wpAnyH_take (i := 11) (v := .slice ov (nE + 1) kv) rfl (by kernel_rfl) (by kernel_rfl) (by kernel_rfl) (fun _ _ _ h => h) (Or.inl ⟨by kernel_rfl, fun w' hw' => ?_⟩) h30 ?_
                  · go_simp
                  refine wpAnyH_ready (rs := [10]) (by kernel_rfl) (by simp) (AllReadyH.cons rfl (fun KK hK => ?_) AllReadyH.nil)
                  go_simp
                  refine hK.out _ _ h30 (fun h30 => ?_)
                  refine wpAnyH_ready (rs := [13]) (by kernel_rfl) (by simp) (AllReadyH.cons rfl (fun KK hK => ?_) AllReadyH.nil)
                  refine wp_store_row (P := Try.prog) 34 _ _ rfl (X3.heap.size) #[.int .i64 za, .string zp, .string zq, .int .i64 zn, .slice zo ze zk] (by kernel_rfl) (by kernel_rfl) 34 #[.int .i64 0, .string ⟨#[]⟩, .string ⟨#[]⟩, .int .i64 0, .slice none 0 0] BX.out (by rw [size5]; rfl) rfl (by simp [Value.oneCell']) ?_
                  refine hK.out _ _ (below_setRow h30 h4.size _) (fun hz => ?_)
                  refine wpAnyH_take (i := 14) (v := .slice ov (nE + 1) kv) rfl (by kernel_rfl) (by kernel_rfl) (by kernel_rfl) (fun _ _ _ h => h) (Or.inl ⟨by kernel_rfl, fun w' hw' => ?_⟩) hz ?_
                  · go_simp
                  refine wpAnyH_done (by kernel_rfl) ?_ _
                  go_wp2_with fail
                  go_meet
                  exact ⟨_, _, _, _, _, _, _, _, _, _, rfl, rfl, BX.out.row _, isY_row HUF.out HGL.out _, es_row2 HVZ.out HCD.out BX.out _, hz⟩
              · go_simp
                obtain ⟨X31, hX⟩ : ∃ X, X1.alloc (.cells #[.int .i64 xa, .string xp, .string xq, .int .i64 xn, .slice xo xe xk] 34) = X := ⟨_, rfl⟩
                have hr : Blk X31 X1.heap.size 34 #[.int .i64 xa, .string xp, .string xq, .int .i64 xn, .slice xo xe xk] := by rw [← hX]; exact bkN rfl _ _
                have hb : Below X1.heap.size X1 X31 := by rw [← hX]; exact (Below.refl _ _).alloc (Nat.le_refl _) _
                have h' := stepB h2 hb (Nat.le_refl _)
                have E0 := Lib.hid (blkB E0.out hb)
                have N1 := Lib.hid hr
                refine hK.out _ _ (by rw [hX]; exact h') (fun h32 => ?_)
                change wpAnyH Try.prog _ _ _ _ _ _ _ (X1.alloc (.cells #[.int .i64 xa, .string xp, .string xq, .int .i64 xn, .slice xo xe xk] 34))
                rw [hX] at h32 ⊢
                clear hX hb h' hr
                refine wpAnyH_ready (rs := [4, 12]) (by kernel_rfl) (by simp) (AllReadyH.cons rfl (fun KK hK => ?_) (AllReadyH.cons rfl (fun KK hK => ?_) AllReadyH.nil))
                · refine step_append_ex rfl (.tmp 74) (.tmp 75) 23 rfl (.slice (some ⟨V0.heap.size, 0, none⟩) 0 0) (.slice oA nA cA) (by kernel_rfl) (by kernel_rfl) (HCP.out X31 _ h32 E0.out hS0.size) fun vq X33 hR => ?_
                  obtain ⟨⟨oq, cq, rfl, hrw, hkp⟩, hbl⟩ := hR
                  have h' := h32.trans hbl
                  have N1 := Lib.hid (hkp _ _ rfl N1.out).1
                  have R1 := Lib.hid hrw
                  refine hK.out _ _ h' (fun h34 => ?_)
                  clear hrw hkp hbl h' E0
                  refine wpAnyH_ready (rs := [7, 12]) (by kernel_rfl) (by simp) (AllReadyH.cons rfl (fun KK hK => ?_) (AllReadyH.cons rfl (fun KK hK => ?_) AllReadyH.nil))
                  · refine step_append_ex rfl (.tmp 76) (.tmp 78) 23 rfl (.slice oq nA cq) (.slice (some ⟨X1.heap.size, 0, none⟩) 1 1) (by kernel_rfl) (by kernel_rfl) (HMO.out X33 _ _ h34 R1.out N1.out) fun vq X35 hR => ?_
                    obtain ⟨⟨o9, c9, rfl, hrw⟩, hkp, hbl⟩ := hR
                    have h' := h34.trans hbl
                    obtain ⟨hy1, hy2, hy3⟩ := HYS.out _ _ _ h' hrw
                    have HY1 := Lib.hid hy1
                    have HY2 := Lib.hid hy2
                    have YS := Lib.hid hy3
                    refine hK.out _ _ h' (fun h36 => ?_)
                    clear hrw hkp hbl h' hy1 hy2 hy3 R1 N1
                    refine wpAnyH_ready (rs := [8, 12]) (by kernel_rfl) (by simp) (AllReadyH.cons rfl (fun KK hK => ?_) (AllReadyH.cons rfl (fun KK hK => ?_) AllReadyH.nil))
                    · go_simp
                      refine (HC3.out X35 o9 c9 (stepB HW8.out h36 (Nat.le_refl _)) HY1.out HY2.out YS.out).mono ?_
                      rintro e X37 ⟨za, zn, zp, zq, zo, ze, zk, ov, kv, rfl, hu, hv, hb⟩
                      have h' := stepB h36 hb (Nat.le_refl _)
                      have HUF := Lib.hid hu
                      have HVZ := Lib.hid hv
                      refine hK.out _ _ h' (fun h38 => ?_)
                      clear hu hv hb h' YS HY1 HY2
                      refine wpAnyH_take (i := 9) (v := .tuple #[.agg #[.int .i64 za, .string zp, .string zq, .int .i64 zn, .slice zo ze zk], .slice ov (nE + 1) kv]) rfl (by kernel_rfl) (by kernel_rfl) (by kernel_rfl) (fun _ _ _ h => h) (Or.inl ⟨by kernel_rfl, fun w' hw' => ?_⟩) h38 ?_
                      · go_simp
                      refine wpAnyH_take (i := 10) (v := .agg #[.int .i64 za, .string zp, .string zq, .int .i64 zn, .slice zo ze zk]) rfl (by kernel_rfl) (by kernel_rfl) (by kernel_rfl) (fun _ _ _ h => h) (Or.inl ⟨by kernel_rfl, fun w' hw' => ?_⟩) h38 ?_
                      · go_simp
                      refine wpAnyH_take (i := 11) (v := .slice ov (nE + 1) kv) rfl (by kernel_rfl) (by kernel_rfl) (by kernel_rfl) (fun _ _ _ h => h) (Or.inl ⟨by kernel_rfl, fun w' hw' => ?_⟩) h38 ?_
                      · go_simp
                      refine wpAnyH_ready (rs := [12]) (by kernel_rfl) (by simp) (AllReadyH.cons rfl (fun KK hK => ?_) AllReadyH.nil)
                      go_simp
                      obtain ⟨X39, hX⟩ : ∃ X, X37.alloc (.cells #[.int .i64 0, .string ⟨#[]⟩, .string ⟨#[]⟩, .int .i64 0, .slice none 0 0] 34) = X := ⟨_, rfl⟩
                      have hr : Blk X39 X37.heap.size 34 #[.int .i64 0, .string ⟨#[]⟩, .string ⟨#[]⟩, .int .i64 0, .slice none 0 0] := by rw [← hX]; exact bkN rfl _ _
                      have hb : Below X37.heap.size X37 X39 := by rw [← hX]; exact (Below.refl _ _).alloc (Nat.le_refl _) _
                      have h' := stepB h38 hb (Nat.le_refl _)
                      have HBC := Lib.hid hb
                      have BX := Lib.hid hr
                      refine hK.out _ _ (by rw [hX]; exact h') (fun h40 => ?_)
                      change wpAnyH Try.prog _ _ _ _ _ _ _ (X37.alloc (.cells #[.int .i64 0, .string ⟨#[]⟩, .string ⟨#[]⟩, .int .i64 0, .slice none 0 0] 34))
                      rw [hX] at h40 ⊢
                      clear hX hb h' hr
                      refine wpAnyH_ready (rs := [13]) (by kernel_rfl) (by simp) (AllReadyH.cons rfl (fun KK hK => ?_) AllReadyH.nil)
                      refine wp_store_row (P := Try.prog) 34 _ _ rfl (X37.heap.size) #[.int .i64 za, .string zp, .string zq, .int .i64 zn, .slice zo ze zk] (by kernel_rfl) (by kernel_rfl) 34 #[.int .i64 0, .string ⟨#[]⟩, .string ⟨#[]⟩, .int .i64 0, .slice none 0 0] BX.out (by rw [size5]; rfl) rfl (by simp [Value.oneCell']) ?_
                      refine hK.out _ _ (below_setRow h40 h38.size _) (fun hz => ?_)
                      refine wpAnyH_take (i := 14) (v := .slice ov (nE + 1) kv) rfl (by kernel_rfl) (by kernel_rfl) (by kernel_rfl) (fun _ _ _ h => h) (Or.inl ⟨by kernel_rfl, fun w' hw' => ?_⟩) hz ?_
                      · go_simp
                      refine wpAnyH_done (by kernel_rfl) ?_ _
                      go_wp2_with fail
                      go_meet
                      exact ⟨_, _, _, _, _, _, _, _, _, _, rfl, rfl, BX.out.row _, HUF.out.toY.below (below_setRow HBC.out (Nat.le_refl _) _), HVZ.out.belowE (below_setRow HBC.out (Nat.le_refl _) _), hz⟩
                    · go_simp
                      obtain ⟨X41, hX⟩ : ∃ X, X35.alloc (.cells #[.int .i64 0, .string ⟨#[]⟩, .string ⟨#[]⟩, .int .i64 0, .slice none 0 0] 34) = X := ⟨_, rfl⟩
                      have hr : Blk X41 X35.heap.size 34 #[.int .i64 0, .string ⟨#[]⟩, .string ⟨#[]⟩, .int .i64 0, .slice none 0 0] := by rw [← hX]; exact bkN rfl _ _
                      have hb : Below X35.heap.size X35 X41 := by rw [← hX]; exact (Below.refl _ _).alloc (Nat.le_refl _) _
                      have h' := stepB h36 hb (Nat.le_refl _)
                      have YS := Lib.hid (YS.out.below hb)
                      have BX := Lib.hid hr
                      refine hK.out _ _ (by rw [hX]; exact h') (fun h42 => ?_)
                      change wpAnyH Try.prog _ _ _ _ _ _ _ (X35.alloc (.cells #[.int .i64 0, .string ⟨#[]⟩, .string ⟨#[]⟩, .int .i64 0, .slice none 0 0] 34))
                      rw [hX] at h42 ⊢
                      clear hX hb h' hr
                      refine wpAnyH_ready (rs := [8]) (by kernel_rfl) (by simp) (AllReadyH.cons rfl (fun KK hK => ?_) AllReadyH.nil)
                      go_simp
                      refine (HC3.out X41 o9 c9 (stepB HW8.out h42 (Nat.le_refl _)) HY1.out HY2.out YS.out).mono ?_
                      rintro e X43 ⟨za, zn, zp, zq, zo, ze, zk, ov, kv, rfl, hu, hv, hb⟩
                      have h' := stepB h42 hb (Nat.le_refl _)
                      have HGL := Lib.hid BX.out.lt
                      have BX := Lib.hid (blkB BX.out hb)
                      have HUF := Lib.hid hu
                      have HVZ := Lib.hid hv
                      refine hK.out _ _ h' (fun h44 => ?_)
                      clear hu hv hb h' YS HY1 HY2
                      refine wpAnyH_take (i := 9) (v := .tuple #[.agg #[.int .i64 za, .string zp, .string zq, .int .i64 zn, .slice zo ze zk], .slice ov (nE + 1) kv]) rfl (by kernel_rfl) (by kernel_rfl) (by kernel_rfl) (fun _ _ _ h => h) (Or.inl ⟨by kernel_rfl, fun w' hw' => ?_⟩) h44 ?_
                      · go_simp
                      refine wpAnyH_take (i := 11) (v := .slice ov (nE + 1) kv) rfl (by kernel_rfl) (by kernel_rfl) (by kernel_rfl) (fun _ _ _ h => h) (Or.inl ⟨by kernel_rfl, fun w' hw' => ?_⟩) h44 ?_
                      · go_simp
                      refine wpAnyH_ready (rs := [10]) (by kernel_rfl) (by simp) (AllReadyH.cons rfl (fun KK hK => ?_) AllReadyH.nil)
                      go_simp
                      refine hK.out _ _ h44 (fun h44 => ?_)
                      refine wpAnyH_ready (rs := [13]) (by kernel_rfl) (by simp) (AllReadyH.cons rfl (fun KK hK => ?_) AllReadyH.nil)
                      refine wp_store_row (P := Try.prog) 34 _ _ rfl (X35.heap.size) #[.int .i64 za, .string zp, .string zq, .int .i64 zn, .slice zo ze zk] (by kernel_rfl) (by kernel_rfl) 34 #[.int .i64 0, .string ⟨#[]⟩, .string ⟨#[]⟩, .int .i64 0, .slice none 0 0] BX.out (by rw [size5]; rfl) rfl (by simp [Value.oneCell']) ?_
                      refine hK.out _ _ (below_setRow h44 h36.size _) (fun hz => ?_)
                      refine wpAnyH_take (i := 14) (v := .slice ov (nE + 1) kv) rfl (by kernel_rfl) (by kernel_rfl) (by kernel_rfl) (fun _ _ _ h => h) (Or.inl ⟨by kernel_rfl, fun w' hw' => ?_⟩) hz ?_
                      · go_simp
                      refine wpAnyH_done (by kernel_rfl) ?_ _
                      go_wp2_with fail
                      go_meet
                      exact ⟨_, _, _, _, _, _, _, _, _, _, rfl, rfl, BX.out.row _, isY_row HUF.out HGL.out _, es_row2 HVZ.out HCD.out BX.out _, hz⟩
                  · go_simp
                    obtain ⟨X45, hX⟩ : ∃ X, X33.alloc (.cells #[.int .i64 0, .string ⟨#[]⟩, .string ⟨#[]⟩, .int .i64 0, .slice none 0 0] 34) = X := ⟨_, rfl⟩
                    have hr : Blk X45 X33.heap.size 34 #[.int .i64 0, .string ⟨#[]⟩, .string ⟨#[]⟩, .int .i64 0, .slice none 0 0] := by rw [← hX]; exact bkN rfl _ _
                    have hb : Below X33.heap.size X33 X45 := by rw [← hX]; exact (Below.refl _ _).alloc (Nat.le_refl _) _
                    have h' := stepB h34 hb (Nat.le_refl _)
                    have HNE : Hid ((Value.slice oq nA cq).ownBlock ≠ some X33.heap.size) := fun e => by have := (R1.out.lt _ e).2; omega
                    have N1 := Lib.hid (blkB N1.out hb)
                    have R1 := Lib.hid (row_below R1.out hb)
                    have BX := Lib.hid hr
                    refine hK.out _ _ (by rw [hX]; exact h') (fun h46 => ?_)
                    change wpAnyH Try.prog _ _ _ _ _ _ _ (X33.alloc (.cells #[.int .i64 0, .string ⟨#[]⟩, .string ⟨#[]⟩, .int .i64 0, .slice none 0 0] 34))
                    rw [hX] at h46 ⊢
                    clear hX hb h' hr
                    refine wpAnyH_ready (rs := [7]) (by kernel_rfl) (by simp) (AllReadyH.cons rfl (fun KK hK => ?_) AllReadyH.nil)
                    refine step_append_ex rfl (.tmp 76) (.tmp 78) 23 rfl (.slice oq nA cq) (.slice (some ⟨X1.heap.size, 0, none⟩) 1 1) (by kernel_rfl) (by kernel_rfl) (HMO.out X45 _ _ h46 R1.out N1.out) fun vq X47 hR => ?_
                    obtain ⟨⟨o9, c9, rfl, hrw⟩, hkp, hbl⟩ := hR
                    have h' := h46.trans hbl
                    have BX := Lib.hid (hkp _ _ BX.out HNE.out)
                    obtain ⟨hy1, hy2, hy3⟩ := HYS.out _ _ _ h' hrw
                    have HY1 := Lib.hid hy1
                    have HY2 := Lib.hid hy2
                    have YS := Lib.hid hy3
                    refine hK.out _ _ h' (fun h48 => ?_)
                    clear hrw hkp hbl h' hy1 hy2 hy3 R1 N1
                    refine wpAnyH_ready (rs := [8]) (by kernel_rfl) (by simp) (AllReadyH.cons rfl (fun KK hK => ?_) AllReadyH.nil)
                    go_simp
                    refine (HC3.out X47 o9 c9 (stepB HW8.out h48 (Nat.le_refl _)) HY1.out HY2.out YS.out).mono ?_
                    rintro e X49 ⟨za, zn, zp, zq, zo, ze, zk, ov, kv, rfl, hu, hv, hb⟩
                    have h' := stepB h48 hb (Nat.le_refl _)
                    have HGL := Lib.hid BX.out.lt
                    have BX := Lib.hid (blkB BX.out hb)
                    have HUF := Lib.hid hu
                    have HVZ := Lib.hid hv
                    refine hK.out _ _ h' (fun h50 => ?_)
                    clear hu hv hb h' YS HY1 HY2
                    refine wpAnyH_take (i := 9) (v := .tuple #[.agg #[.int .i64 za, .string zp, .string zq, .int .i64 zn, .slice zo ze zk], .slice ov (nE + 1) kv]) rfl (by kernel_rfl) (by kernel_rfl) (by kernel_rfl) (fun _ _ _ h => h) (Or.inl ⟨by kernel_rfl, fun w' hw' => ?_⟩) h50 ?_
                    · go_simp
                    refine wpAnyH_take (i := 11) (v := .slice ov (nE + 1) kv) rfl (by kernel_rfl) (by kernel_rfl) (by kernel_rfl) (fun _ _ _ h => h) (Or.inl ⟨by kernel_rfl, fun w' hw' => ?_⟩) h50 ?_
                    · go_simp
                    refine wpAnyH_ready (rs := [10]) (by kernel_rfl) (by simp) (AllReadyH.cons rfl (fun KK hK => ?_) AllReadyH.nil)
                    go_simp
                    refine hK.out _ _ h50 (fun h50 => ?_)
                    refine wpAnyH_ready (rs := [13]) (by kernel_rfl) (by simp) (AllReadyH.cons rfl (fun KK hK => ?_) AllReadyH.nil)
                    refine wp_store_row (P := Try.prog) 34 _ _ rfl (X33.heap.size) #[.int .i64 za, .string zp, .string zq, .int .i64 zn, .slice zo ze zk] (by kernel_rfl) (by kernel_rfl) 34 #[.int .i64 0, .string ⟨#[]⟩, .string ⟨#[]⟩, .int .i64 0, .slice none 0 0] BX.out (by rw [size5]; rfl) rfl (by simp [Value.oneCell']) ?_
                    refine hK.out _ _ (below_setRow h50 h34.size _) (fun hz => ?_)
                    refine wpAnyH_take (i := 14) (v := .slice ov (nE + 1) kv) rfl (by kernel_rfl) (by kernel_rfl) (by kernel_rfl) (fun _ _ _ h => h) (Or.inl ⟨by kernel_rfl, fun w' hw' => ?_⟩) hz ?_
                    · go_simp
                    refine wpAnyH_done (by kernel_rfl) ?_ _
                    go_wp2_with fail
                    go_meet
                    exact ⟨_, _, _, _, _, _, _, _, _, _, rfl, rfl, BX.out.row _, isY_row HUF.out HGL.out _, es_row2 HVZ.out HCD.out BX.out _, hz⟩
                · go_simp
                  obtain ⟨X51, hX⟩ : ∃ X, X31.alloc (.cells #[.int .i64 0, .string ⟨#[]⟩, .string ⟨#[]⟩, .int .i64 0, .slice none 0 0] 34) = X := ⟨_, rfl⟩
                  have hr : Blk X51 X31.heap.size 34 #[.int .i64 0, .string ⟨#[]⟩, .string ⟨#[]⟩, .int .i64 0, .slice none 0 0] := by rw [← hX]; exact bkN rfl _ _
                  have hb : Below X31.heap.size X31 X51 := by rw [← hX]; exact (Below.refl _ _).alloc (Nat.le_refl _) _
                  have h' := stepB h32 hb (Nat.le_refl _)
                  have E0 := Lib.hid (blkB E0.out hb)
                  have N1 := Lib.hid (blkB N1.out hb)
                  have BX := Lib.hid hr
                  refine hK.out _ _ (by rw [hX]; exact h') (fun h52 => ?_)
                  change wpAnyH Try.prog _ _ _ _ _ _ _ (X31.alloc (.cells #[.int .i64 0, .string ⟨#[]⟩, .string ⟨#[]⟩, .int .i64 0, .slice none 0 0] 34))
                  rw [hX] at h52 ⊢
                  clear hX hb h' hr
                  refine wpAnyH_ready (rs := [4]) (by kernel_rfl) (by simp) (AllReadyH.cons rfl (fun KK hK => ?_) AllReadyH.nil)
                  refine step_append_ex rfl (.tmp 74) (.tmp 75) 23 rfl (.slice (some ⟨V0.heap.size, 0, none⟩) 0 0) (.slice oA nA cA) (by kernel_rfl) (by kernel_rfl) (HCP.out X51 _ h52 E0.out hS0.size) fun vq X53 hR => ?_
                  obtain ⟨⟨oq, cq, rfl, hrw, hkp⟩, hbl⟩ := hR
                  have h' := h52.trans hbl
                  have N1 := Lib.hid (hkp _ _ rfl N1.out).1
                  have HNE := Lib.hid (hkp _ _ rfl BX.out).2
                  have BX := Lib.hid (hkp _ _ rfl BX.out).1
                  have R1 := Lib.hid hrw
                  refine hK.out _ _ h' (fun h54 => ?_)
                  clear hrw hkp hbl h' E0
                  refine wpAnyH_ready (rs := [7]) (by kernel_rfl) (by simp) (AllReadyH.cons rfl (fun KK hK => ?_) AllReadyH.nil)
                  refine step_append_ex rfl (.tmp 76) (.tmp 78) 23 rfl (.slice oq nA cq) (.slice (some ⟨X1.heap.size, 0, none⟩) 1 1) (by kernel_rfl) (by kernel_rfl) (HMO.out X53 _ _ h54 R1.out N1.out) fun vq X55 hR => ?_
                  obtain ⟨⟨o9, c9, rfl, hrw⟩, hkp, hbl⟩ := hR
                  have h' := h54.trans hbl
                  have BX := Lib.hid (hkp _ _ BX.out HNE.out)
                  obtain ⟨hy1, hy2, hy3⟩ := HYS.out _ _ _ h' hrw
                  have HY1 := Lib.hid hy1
                  have HY2 := Lib.hid hy2
                  have YS := Lib.hid hy3
                  refine hK.out _ _ h' (fun h56 => ?_)
                  clear hrw hkp hbl h' hy1 hy2 hy3 R1 N1
                  refine wpAnyH_ready (rs := [8]) (by kernel_rfl) (by simp) (AllReadyH.cons rfl (fun KK hK => ?_) AllReadyH.nil)
                  go_simp
                  refine (HC3.out X55 o9 c9 (stepB HW8.out h56 (Nat.le_refl _)) HY1.out HY2.out YS.out).mono ?_
                  rintro e X57 ⟨za, zn, zp, zq, zo, ze, zk, ov, kv, rfl, hu, hv, hb⟩
                  have h' := stepB h56 hb (Nat.le_refl _)
                  have HGL := Lib.hid BX.out.lt
                  have BX := Lib.hid (blkB BX.out hb)
                  have HUF := Lib.hid hu
                  have HVZ := Lib.hid hv
                  refine hK.out _ _ h' (fun h58 => ?_)
                  clear hu hv hb h' YS HY1 HY2
                  refine wpAnyH_take (i := 9) (v := .tuple #[.agg #[.int .i64 za, .string zp, .string zq, .int .i64 zn, .slice zo ze zk], .slice ov (nE + 1) kv]) rfl (by kernel_rfl) (by kernel_rfl) (by kernel_rfl) (fun _ _ _ h => h) (Or.inl ⟨by kernel_rfl, fun w' hw' => ?_⟩) h58 ?_
                  · go_simp
                  refine wpAnyH_take (i := 11) (v := .slice ov (nE + 1) kv) rfl (by kernel_rfl) (by kernel_rfl) (by kernel_rfl) (fun _ _ _ h => h) (Or.inl ⟨by kernel_rfl, fun w' hw' => ?_⟩) h58 ?_
                  · go_simp
                  refine wpAnyH_ready (rs := [10]) (by kernel_rfl) (by simp) (AllReadyH.cons rfl (fun KK hK => ?_) AllReadyH.nil)
                  go_simp
                  refine hK.out _ _ h58 (fun h58 => ?_)
                  refine wpAnyH_ready (rs := [13]) (by kernel_rfl) (by simp) (AllReadyH.cons rfl (fun KK hK => ?_) AllReadyH.nil)
                  refine wp_store_row (P := Try.prog) 34 _ _ rfl (X31.heap.size) #[.int .i64 za, .string zp, .string zq, .int .i64 zn, .slice zo ze zk] (by kernel_rfl) (by kernel_rfl) 34 #[.int .i64 0, .string ⟨#[]⟩, .string ⟨#[]⟩, .int .i64 0, .slice none 0 0] BX.out (by rw [size5]; rfl) rfl (by simp [Value.oneCell']) ?_
                  refine hK.out _ _ (below_setRow h58 h32.size _) (fun hz => ?_)
                  refine wpAnyH_take (i := 14) (v := .slice ov (nE + 1) kv) rfl (by kernel_rfl) (by kernel_rfl) (by kernel_rfl) (fun _ _ _ h => h) (Or.inl ⟨by kernel_rfl, fun w' hw' => ?_⟩) hz ?_
                  · go_simp
                  refine wpAnyH_done (by kernel_rfl) ?_ _
                  go_wp2_with fail
                  go_meet
                  exact ⟨_, _, _, _, _, _, _, _, _, _, rfl, rfl, BX.out.row _, isY_row HUF.out HGL.out _, es_row2 HVZ.out HCD.out BX.out _, hz⟩
              · go_simp
                obtain ⟨X59, hX⟩ : ∃ X, X1.alloc (.cells #[.int .i64 0, .string ⟨#[]⟩, .string ⟨#[]⟩, .int .i64 0, .slice none 0 0] 34) = X := ⟨_, rfl⟩
                have hr : Blk X59 X1.heap.size 34 #[.int .i64 0, .string ⟨#[]⟩, .string ⟨#[]⟩, .int .i64 0, .slice none 0 0] := by rw [← hX]; exact bkN rfl _ _
                have hb : Below X1.heap.size X1 X59 := by rw [← hX]; exact (Below.refl _ _).alloc (Nat.le_refl _) _
                have h' := stepB h2 hb (Nat.le_refl _)
                have E0 := Lib.hid (blkB E0.out hb)
                have BX := Lib.hid hr
                refine hK.out _ _ (by rw [hX]; exact h') (fun h60 => ?_)
                change wpAnyH Try.prog _ _ _ _ _ _ _ (X1.alloc (.cells #[.int .i64 0, .string ⟨#[]⟩, .string ⟨#[]⟩, .int .i64 0, .slice none 0 0] 34))
                rw [hX] at h60 ⊢
                clear hX hb h' hr
                refine wpAnyH_ready (rs := [4, 6]) (by kernel_rfl) (by simp) (AllReadyH.cons rfl (fun KK hK => ?_) (AllReadyH.cons rfl (fun KK hK => ?_) AllReadyH.nil))
                · refine step_append_ex rfl (.tmp 74) (.tmp 75) 23 rfl (.slice (some ⟨V0.heap.size, 0, none⟩) 0 0) (.slice oA nA cA) (by kernel_rfl) (by kernel_rfl) (HCP.out X59 _ h60 E0.out hS0.size) fun vq X61 hR => ?_
                  obtain ⟨⟨oq, cq, rfl, hrw, hkp⟩, hbl⟩ := hR
                  have h' := h60.trans hbl
                  have HNE := Lib.hid (hkp _ _ rfl BX.out).2
                  have BX := Lib.hid (hkp _ _ rfl BX.out).1
                  have R1 := Lib.hid hrw
                  refine hK.out _ _ h' (fun h62 => ?_)
                  clear hrw hkp hbl h' E0
                  refine wpAnyH_ready (rs := [6]) (by kernel_rfl) (by simp) (AllReadyH.cons rfl (fun KK hK => ?_) AllReadyH.nil)
                  go_simp
                  obtain ⟨X63, hX⟩ : ∃ X, X61.alloc (.cells #[.int .i64 xa, .string xp, .string xq, .int .i64 xn, .slice xo xe xk] 34) = X := ⟨_, rfl⟩
                  have hr : Blk X63 X61.heap.size 34 #[.int .i64 xa, .string xp, .string xq, .int .i64 xn, .slice xo xe xk] := by rw [← hX]; exact bkN rfl _ _
                  have hb : Below X61.heap.size X61 X63 := by rw [← hX]; exact (Below.refl _ _).alloc (Nat.le_refl _) _
                  have h' := stepB h62 hb (Nat.le_refl _)
                  have BX := Lib.hid (blkB BX.out hb)
                  have R1 := Lib.hid (row_below R1.out hb)
                  have N1 := Lib.hid hr
                  refine hK.out _ _ (by rw [hX]; exact h') (fun h64 => ?_)
                  change wpAnyH Try.prog _ _ _ _ _ _ _ (X61.alloc (.cells #[.int .i64 xa, .string xp, .string xq, .int .i64 xn, .slice xo xe xk] 34))
                  rw [hX] at h64 ⊢
                  clear hX hb h' hr
                  refine wpAnyH_ready (rs := [7]) (by kernel_rfl) (by simp) (AllReadyH.cons rfl (fun KK hK => ?_) AllReadyH.nil)
                  refine step_append_ex rfl (.tmp 76) (.tmp 78) 23 rfl (.slice oq nA cq) (.slice (some ⟨X61.heap.size, 0, none⟩) 1 1) (by kernel_rfl) (by kernel_rfl) (HMO.out X63 _ _ h64 R1.out N1.out) fun vq X65 hR => ?_
                  obtain ⟨⟨o9, c9, rfl, hrw⟩, hkp, hbl⟩ := hR
                  have h' := h64.trans hbl
                  have BX := Lib.hid (hkp _ _ BX.out HNE.out)
                  obtain ⟨hy1, hy2, hy3⟩ := HYS.out _ _ _ h' hrw
                  have HY1 := Lib.hid hy1
                  have HY2 := Lib.hid hy2
                  have YS := Lib.hid hy3
                  refine hK.out _ _ h' (fun h66 => ?_)
                  clear hrw hkp hbl h' hy1 hy2 hy3 R1 N1
                  refine wpAnyH_ready (rs := [8]) (by kernel_rfl) (by simp) (AllReadyH.cons rfl (fun KK hK => ?_) AllReadyH.nil)
                  go_simp
                  refine (HC3.out X65 o9 c9 (stepB HW8.out h66 (Nat.le_refl _)) HY1.out HY2.out YS.out).mono ?_
                  rintro e X67 ⟨za, zn, zp, zq, zo, ze, zk, ov, kv, rfl, hu, hv, hb⟩
                  have h' := stepB h66 hb (Nat.le_refl _)
                  have HGL := Lib.hid BX.out.lt
                  have BX := Lib.hid (blkB BX.out hb)
                  have HUF := Lib.hid hu
                  have HVZ := Lib.hid hv
                  refine hK.out _ _ h' (fun h68 => ?_)
                  clear hu hv hb h' YS HY1 HY2
                  refine wpAnyH_take (i := 9) (v := .tuple #[.agg #[.int .i64 za, .string zp, .string zq, .int .i64 zn, .slice zo ze zk], .slice ov (nE + 1) kv]) rfl (by kernel_rfl) (by kernel_rfl) (by kernel_rfl) (fun _ _ _ h => h) (Or.inl ⟨by kernel_rfl, fun w' hw' => ?_⟩) h68 ?_
                  · go_simp
                  refine wpAnyH_take (i := 11) (v := .slice ov (nE + 1) kv) rfl (by kernel_rfl) (by kernel_rfl) (by kernel_rfl) (fun _ _ _ h => h) (Or.inl ⟨by kernel_rfl, fun w' hw' => ?_⟩) h68 ?_
                  · go_simp
                  refine wpAnyH_ready (rs := [10]) (by kernel_rfl) (by simp) (AllReadyH.cons rfl (fun KK hK => ?_) AllReadyH.nil)
                  go_simp
                  refine hK.out _ _ h68 (fun h68 => ?_)
                  refine wpAnyH_ready (rs := [13]) (by kernel_rfl) (by simp) (AllReadyH.cons rfl (fun KK hK => ?_) AllReadyH.nil)
                  refine wp_store_row (P := Try.prog) 34 _ _ rfl (X1.heap.size) #[.int .i64 za, .string zp, .string zq, .int .i64 zn, .slice zo ze zk] (by kernel_rfl) (by kernel_rfl) 34 #[.int .i64 0, .string ⟨#[]⟩, .string ⟨#[]⟩, .int .i64 0, .slice none 0 0] BX.out (by rw [size5]; rfl) rfl (by simp [Value.oneCell']) ?_
                  refine hK.out _ _ (below_setRow h68 h2.size _) (fun hz => ?_)
                  refine wpAnyH_take (i := 14) (v := .slice ov (nE + 1) kv) rfl (by kernel_rfl) (by kernel_rfl) (by kernel_rfl) (fun _ _ _ h => h) (Or.inl ⟨by kernel_rfl, fun w' hw' => ?_⟩) hz ?_
                  · go_simp
                  refine wpAnyH_done (by kernel_rfl) ?_ _
                  go_wp2_with fail
                  go_meet
                  exact ⟨_, _, _, _, _, _, _, _, _, _, rfl, rfl, BX.out.row _, isY_row HUF.out HGL.out _, es_row2 HVZ.out HCD.out BX.out _, hz⟩
                · go_simp
                  obtain ⟨X69, hX⟩ : ∃ X, X59.alloc (.cells #[.int .i64 xa, .string xp, .string xq, .int .i64 xn, .slice xo xe xk] 34) = X := ⟨_, rfl⟩
                  have hr : Blk X69 X59.heap.size 34 #[.int .i64 xa, .string xp, .string xq, .int .i64 xn, .slice xo xe xk] := by rw [← hX]; exact bkN rfl _ _
                  have hb : Below X59.heap.size X59 X69 := by rw [← hX]; exact (Below.refl _ _).alloc (Nat.le_refl _) _
                  have h' := stepB h60 hb (Nat.le_refl _)
                  have E0 := Lib.hid (blkB E0.out hb)
                  have BX := Lib.hid (blkB BX.out hb)
                  have N1 := Lib.hid hr
                  refine hK.out _ _ (by rw [hX]; exact h') (fun h70 => ?_)
                  change wpAnyH Try.prog _ _ _ _ _ _ _ (X59.alloc (.cells #[.int .i64 xa, .string xp, .string xq, .int .i64 xn, .slice xo xe xk] 34))
                  rw [hX] at h70 ⊢
                  clear hX hb h' hr
                  refine wpAnyH_ready (rs := [4]) (by kernel_rfl) (by simp) (AllReadyH.cons rfl (fun KK hK => ?_) AllReadyH.nil)
                  refine step_append_ex rfl (.tmp 74) (.tmp 75) 23 rfl (.slice (some ⟨V0.heap.size, 0, none⟩) 0 0) (.slice oA nA cA) (by kernel_rfl) (by kernel_rfl) (HCP.out X69 _ h70 E0.out hS0.size) fun vq X71 hR => ?_
                  obtain ⟨⟨oq, cq, rfl, hrw, hkp⟩, hbl⟩ := hR
                  have h' := h70.trans hbl
                  have N1 := Lib.hid (hkp _ _ rfl N1.out).1
                  have HNE := Lib.hid (hkp _ _ rfl BX.out).2
                  have BX := Lib.hid (hkp _ _ rfl BX.out).1
                  have R1 := Lib.hid hrw
                  refine hK.out _ _ h' (fun h72 => ?_)
                  clear hrw hkp hbl h' E0
                  refine wpAnyH_ready (rs := [7]) (by kernel_rfl) (by simp) (AllReadyH.cons rfl (fun KK hK => ?_) AllReadyH.nil)
                  refine step_append_ex rfl (.tmp 76) (.tmp 78) 23 rfl (.slice oq nA cq) (.slice (some ⟨X59.heap.size, 0, none⟩) 1 1) (by kernel_rfl) (by kernel_rfl) (HMO.out X71 _ _ h72 R1.out N1.out) fun vq X73 hR => ?_
                  obtain ⟨⟨o9, c9, rfl, hrw⟩, hkp, hbl⟩ := hR
                  have h' := h72.trans hbl
                  have BX := Lib.hid (hkp _ _ BX.out HNE.out)
                  obtain ⟨hy1, hy2, hy3⟩ := HYS.out _ _ _ h' hrw
                  have HY1 := Lib.hid hy1
                  have HY2 := Lib.hid hy2
                  have YS := Lib.hid hy3
                  refine hK.out _ _ h' (fun h74 => ?_)
                  clear hrw hkp hbl h' hy1 hy2 hy3 R1 N1
                  refine wpAnyH_ready (rs := [8]) (by kernel_rfl) (by simp) (AllReadyH.cons rfl (fun KK hK => ?_) AllReadyH.nil)
                  go_simp
                  refine (HC3.out X73 o9 c9 (stepB HW8.out h74 (Nat.le_refl _)) HY1.out HY2.out YS.out).mono ?_
                  rintro e X75 ⟨za, zn, zp, zq, zo, ze, zk, ov, kv, rfl, hu, hv, hb⟩
                  have h' := stepB h74 hb (Nat.le_refl _)
                  have HGL := Lib.hid BX.out.lt
                  have BX := Lib.hid (blkB BX.out hb)
                  have HUF := Lib.hid hu
                  have HVZ := Lib.hid hv
                  refine hK.out _ _ h' (fun h76 => ?_)
                  clear hu hv hb h' YS HY1 HY2
                  refine wpAnyH_take (i := 9) (v := .tuple #[.agg #[.int .i64 za, .string zp, .string zq, .int .i64 zn, .slice zo ze zk], .slice ov (nE + 1) kv]) rfl (by kernel_rfl) (by kernel_rfl) (by kernel_rfl) (fun _ _ _ h => h) (Or.inl ⟨by kernel_rfl, fun w' hw' => ?_⟩) h76 ?_
                  · go_simp
                  refine wpAnyH_take (i := 11) (v := .slice ov (nE + 1) kv) rfl (by kernel_rfl) (by kernel_rfl) (by kernel_rfl) (fun _ _ _ h => h) (Or.inl ⟨by kernel_rfl, fun w' hw' => ?_⟩) h76 ?_
                  · go_simp
                  refine wpAnyH_ready (rs := [10]) (by kernel_rfl) (by simp) (AllReadyH.cons rfl (fun KK hK => ?_) AllReadyH.nil)
                  go_simp
                  refine hK.out _ _ h76 (fun h76 => ?_)
                  refine wpAnyH_ready (rs := [13]) (by kernel_rfl) (by simp) (AllReadyH.cons rfl (fun KK hK => ?_) AllReadyH.nil)
                  refine wp_store_row (P := Try.prog) 34 _ _ rfl (X1.heap.size) #[.int .i64 za, .string zp, .string zq, .int .i64 zn, .slice zo ze zk] (by kernel_rfl) (by kernel_rfl) 34 #[.int .i64 0, .string ⟨#[]⟩, .string ⟨#[]⟩, .int .i64 0, .slice none 0 0] BX.out (by rw [size5]; rfl) rfl (by simp [Value.oneCell']) ?_
                  refine hK.out _ _ (below_setRow h76 h2.size _) (fun hz => ?_)
                  refine wpAnyH_take (i := 14) (v := .slice ov (nE + 1) kv) rfl (by kernel_rfl) (by kernel_rfl) (by kernel_rfl) (fun _ _ _ h => h) (Or.inl ⟨by kernel_rfl, fun w' hw' => ?_⟩) hz ?_
                  · go_simp
                  refine wpAnyH_done (by kernel_rfl) ?_ _
                  go_wp2_with fail
                  go_meet
                  exact ⟨_, _, _, _, _, _, _, _, _, _, rfl, rfl, BX.out.row _, isY_row HUF.out HGL.out _, es_row2 HVZ.out HCD.out BX.out _, hz⟩
            · go_simp
              obtain ⟨X77, hX⟩ : ∃ X, V0.alloc (.cells #[.int .i64 xa, .string xp, .string xq, .int .i64 xn, .slice xo xe xk] 34) = X := ⟨_, rfl⟩
              have hr : Blk X77 V0.heap.size 34 #[.int .i64 xa, .string xp, .string xq, .int .i64 xn, .slice xo xe xk] := by rw [← hX]; exact bkN rfl _ _
              have hb : Below V0.heap.size V0 X77 := by rw [← hX]; exact (Below.refl _ _).alloc (Nat.le_refl _) _
              have h' := stepB hS0 hb (Nat.le_refl _)
              have N1 := Lib.hid hr
              refine hK.out _ _ (by rw [hX]; exact h') (fun h78 => ?_)
              change wpAnyH Try.prog _ _ _ _ _ _ _ (V0.alloc (.cells #[.int .i64 xa, .string xp, .string xq, .int .i64 xn, .slice xo xe xk] 34))
              rw [hX] at h78 ⊢
              clear hX hb h' hr
              refine wpAnyH_ready (rs := [2, 12]) (by kernel_rfl) (by simp) (AllReadyH.cons rfl (fun KK hK => ?_) (AllReadyH.cons rfl (fun KK hK => ?_) AllReadyH.nil))
              · go_simp
                obtain ⟨X79, hX⟩ : ∃ X, X77.alloc (.cells #[] 34) = X := ⟨_, rfl⟩
                have hr : Blk X79 X77.heap.size 34 #[] := by rw [← hX]; exact bkN rfl _ _
                have hb : Below X77.heap.size X77 X79 := by rw [← hX]; exact (Below.refl _ _).alloc (Nat.le_refl _) _
                have h' := stepB h78 hb (Nat.le_refl _)
                have N1 := Lib.hid (blkB N1.out hb)
                have E0 := Lib.hid hr
                refine hK.out _ _ (by rw [hX]; exact h') (fun h80 => ?_)
                change wpAnyH Try.prog _ _ _ _ _ _ _ (X77.alloc (.cells #[] 34))
                rw [hX] at h80 ⊢
                clear hX hb h' hr
                refine wpAnyH_ready (rs := [4, 12]) (by kernel_rfl) (by simp) (AllReadyH.cons rfl (fun KK hK => ?_) (AllReadyH.cons rfl (fun KK hK => ?_) AllReadyH.nil))
                · refine step_append_ex rfl (.tmp 74) (.tmp 75) 23 rfl (.slice (some ⟨X77.heap.size, 0, none⟩) 0 0) (.slice oA nA cA) (by kernel_rfl) (by kernel_rfl) (HCP.out X79 _ h80 E0.out h78.size) fun vq X81 hR => ?_
                  obtain ⟨⟨oq, cq, rfl, hrw, hkp⟩, hbl⟩ := hR
                  have h' := h80.trans hbl
                  have N1 := Lib.hid (hkp _ _ rfl N1.out).1
                  have R1 := Lib.hid hrw
                  refine hK.out _ _ h' (fun h82 => ?_)
                  clear hrw hkp hbl h' E0
                  refine wpAnyH_ready (rs := [7, 12]) (by kernel_rfl) (by simp) (AllReadyH.cons rfl (fun KK hK => ?_) (AllReadyH.cons rfl (fun KK hK => ?_) AllReadyH.nil))
                  · refine step_append_ex rfl (.tmp 76) (.tmp 78) 23 rfl (.slice oq nA cq) (.slice (some ⟨V0.heap.size, 0, none⟩) 1 1) (by kernel_rfl) (by kernel_rfl) (HMO.out X81 _ _ h82 R1.out N1.out) fun vq X83 hR => ?_
                    obtain ⟨⟨o9, c9, rfl, hrw⟩, hkp, hbl⟩ := hR
                    have h' := h82.trans hbl
                    obtain ⟨hy1, hy2, hy3⟩ := HYS.out _ _ _ h' hrw
                    have HY1 := Lib.hid hy1
                    have HY2 := Lib.hid hy2
                    have YS := Lib.hid hy3
                    refine hK.out _ _ h' (fun h84 => ?_)
                    clear hrw hkp hbl h' hy1 hy2 hy3 R1 N1
                    refine wpAnyH_ready (rs := [8, 12]) (by kernel_rfl) (by simp) (AllReadyH.cons rfl (fun KK hK => ?_) (AllReadyH.cons rfl (fun KK hK => ?_) AllReadyH.nil))
                    · go_simp
                      refine (HC3.out X83 o9 c9 (stepB HW8.out h84 (Nat.le_refl _)) HY1.out HY2.out YS.out).mono ?_
                      rintro e X85 ⟨za, zn, zp, zq, zo, ze, zk, ov, kv, rfl, hu, hv, hb⟩
                      have h' := stepB h84 hb (Nat.le_refl _)
                      have HUF := Lib.hid hu
                      have HVZ := Lib.hid hv
                      refine hK.out _ _ h' (fun h86 => ?_)
                      clear hu hv hb h' YS HY1 HY2
                      refine wpAnyH_take (i := 9) (v := .tuple #[.agg #[.int .i64 za, .string zp, .string zq, .int .i64 zn, .slice zo ze zk], .slice ov (nE + 1) kv]) rfl (by kernel_rfl) (by kernel_rfl) (by kernel_rfl) (fun _ _ _ h => h) (Or.inl ⟨by kernel_rfl, fun w' hw' => ?_⟩) h86 ?_
                      · go_simp
                      refine wpAnyH_take (i := 10) (v := .agg #[.int .i64 za, .string zp, .string zq, .int .i64 zn, .slice zo ze zk]) rfl (by kernel_rfl) (by kernel_rfl) (by kernel_rfl) (fun _ _ _ h => h) (Or.inl ⟨by kernel_rfl, fun w' hw' => ?_⟩) h86 ?_
                      · go_simp
                      refine wpAnyH_take (i := 11) (v := .slice ov (nE + 1) kv) rfl (by kernel_rfl) (by kernel_rfl) (by kernel_rfl) (fun _ _ _ h => h) (Or.inl ⟨by kernel_rfl, fun w' hw' => ?_⟩) h86 ?_
                      · go_simp
                      refine wpAnyH_ready (rs := [12]) (by kernel_rfl) (by simp) (AllReadyH.cons rfl (fun KK hK => ?_) AllReadyH.nil)
                      go_simp
                      obtain ⟨X87, hX⟩ : ∃ X, X85.alloc (.cells #[.int .i64 0, .string ⟨#[]⟩, .string ⟨#[]⟩, .int .i64 0, .slice none 0 0] 34) = X := ⟨_, rfl⟩
                      have hr : Blk X87 X85.heap.size 34 #[.int .i64 0, .string ⟨#[]⟩, .string ⟨#[]⟩, .int .i64 0, .slice none 0 0] := by rw [← hX]; exact bkN rfl _ _
                      have hb : Below X85.heap.size X85 X87 := by rw [← hX]; exact (Below.refl _ _).alloc (Nat.le_refl _) _
                      have h' := stepB h86 hb (Nat.le_refl _)
                      have HBC := Lib.hid hb
                      have BX := Lib.hid hr
                      refine hK.out _ _ (by rw [hX]; exact h') (fun h88 => ?_)
                      change wpAnyH Try.prog _ _ _ _ _ _ _ (X85.alloc (.cells #[.int .i64 0, .string ⟨#[]⟩, .string ⟨#[]⟩, .int .i64 0, .slice none 0 0] 34))
                      rw [hX] at h88 ⊢
                      clear hX hb h' hr
                      refine wpAnyH_ready (rs := [13]) (by kernel_rfl) (by simp) (AllReadyH.cons rfl (fun KK hK => ?_) AllReadyH.nil)
                      refine wp_store_row (P := Try.prog) 34 _ _ rfl (X85.heap.size) #[.int .i64 za, .string zp, .string zq, .int .i64 zn, .slice zo ze zk] (by kernel_rfl) (by kernel_rfl) 34 #[.int .i64 0, .string ⟨#[]⟩, .string ⟨#[]⟩, .int .i64 0, .slice none 0 0] BX.out (by rw [size5]; rfl) rfl (by simp [Value.oneCell']) ?_
                      refine hK.out _ _ (below_setRow h88 h86.size _) (fun hz => ?_)
                      refine wpAnyH_take (i := 14) (v := .slice ov (nE + 1) kv) rfl (by kernel_rfl) (by kernel_rfl) (by kernel_rfl) (fun _ _ _ h => h) (Or.inl ⟨by kernel_rfl, fun w' hw' => ?_⟩) hz ?_
                      · go_simp
                      refine wpAnyH_done (by kernel_rfl) ?_ _
                      go_wp2_with fail
                      go_meet
                      exact ⟨_, _, _, _, _, _, _, _, _, _, rfl, rfl, BX.out.row _, HUF.out.toY.below (below_setRow HBC.out (Nat.le_refl _) _), HVZ.out.belowE (below_setRow HBC.out (Nat.le_refl _) _), hz⟩
                    · go_simp
                      obtain ⟨X89, hX⟩ : ∃ X, X83.alloc (.cells #[.int .i64 0, .string ⟨#[]⟩, .string ⟨#[]⟩, .int .i64 0, .slice none 0 0] 34) = X := ⟨_, rfl⟩
                      have hr : Blk X89 X83.heap.size 34 #[.int .i64 0, .string ⟨#[]⟩, .string ⟨#[]⟩, .int .i64 0, .slice none 0 0] := by rw [← hX]; exact bkN rfl _ _
                      have hb : Below X83.heap.size X83 X89 := by rw [← hX]; exact (Below.refl _ _).alloc (Nat.le_refl _) _
                      have h' := stepB h84 hb (Nat.le_refl _)
                      have YS := Lib.hid (YS.out.below hb)
                      have BX := Lib.hid hr
                      refine hK.out _ _ (by rw [hX]; exact h') (fun h90 => ?_)
                      change wpAnyH Try.prog _ _ _ _ _ _ _ (X83.alloc (.cells #[.int .i64 0, .string ⟨#[]⟩, .string ⟨#[]⟩, .int .i64 0, .slice none 0 0] 34))
                      rw [hX] at h90 ⊢
                      clear hX hb h' hr
                      refine wpAnyH_ready (rs := [8]) (by kernel_rfl) (by simp) (AllReadyH.cons rfl (fun KK hK => ?_) AllReadyH.nil)
                      go_simp
                      refine (HC3.out X89 o9 c9 (stepB HW8.out h90 (Nat.le_refl _)) HY1.out HY2.out YS.out).mono ?_
                      rintro e X91 ⟨za, zn, zp, zq, zo, ze, zk, ov, kv, rfl, hu, hv, hb⟩
                      have h' := stepB h90 hb (Nat.le_refl _)
                      have HGL := Lib.hid BX.out.lt
                      have BX := Lib.hid (blkB BX.out hb)
                      have HUF := Lib.hid hu
                      have HVZ := Lib.hid hv
                      refine hK.out _ _ h' (fun h92 => ?_)
                      clear hu hv hb h' YS HY1 HY2
                      refine wpAnyH_take (i := 9) (v := .tuple #[.agg #[.int .i64 za, .string zp, .string zq, .int .i64 zn, .slice zo ze zk], .slice ov (nE + 1) kv]) rfl (by kernel_rfl) (by kernel_rfl) (by kernel_rfl) (fun _ _ _ h => h) (Or.inl ⟨by kernel_rfl, fun w' hw' => ?_⟩) h92 ?_
                      · go_simp
                      refine wpAnyH_take (i := 11) (v := .slice ov (nE + 1) kv) rfl (by kernel_rfl) (by kernel_rfl) (by kernel_rfl) (fun _ _ _ h => h) (Or.inl ⟨by kernel_rfl, fun w' hw' => ?_⟩) h92 ?_
                      · go_simp
                      refine wpAnyH_ready (rs := [10]) (by kernel_rfl) (by simp) (AllReadyH.cons rfl (fun KK hK => ?_) AllReadyH.nil)
                      go_simp
                      refine hK.out _ _ h92 (fun h92 => ?_)
                      refine wpAnyH_ready (rs := [13]) (by kernel_rfl) (by simp) (AllReadyH.cons rfl (fun KK hK => ?_) AllReadyH.nil)
                      refine wp_store_row (P := Try.prog) 34 _ _ rfl (X83.heap.size) #[.int .i64 za, .string zp, .string zq, .int .i64 zn, .slice zo ze zk] (by kernel_rfl) (by kernel_rfl) 34 #[.int .i64 0, .string ⟨#[]⟩, .string ⟨#[]⟩, .int .i64 0, .slice none 0 0] BX.out (by rw [size5]; rfl) rfl (by simp [Value.oneCell']) ?_
                      refine hK.out _ _ (below_setRow h92 h84.size _) (fun hz => ?_)
                      refine wpAnyH_take (i := 14) (v := .slice ov (nE + 1) kv) rfl (by kernel_rfl) (by kernel_rfl) (by kernel_rfl) (fun _ _ _ h => h) (Or.inl ⟨by kernel_rfl, fun w' hw' => ?_⟩) hz ?_
                      · go_simp
                      refine wpAnyH_done (by kernel_rfl) ?_ _
                      go_wp2_with fail
                      go_meet
                      exact ⟨_, _, _, _, _, _, _, _, _, _, rfl, rfl, BX.out.row _, isY_row HUF.out HGL.out _, es_row2 HVZ.out HCD.out BX.out _, hz⟩
                  · go_simp
                    obtain ⟨X93, hX⟩ : ∃ X, X81.alloc (.cells #[.int .i64 0, .string ⟨#[]⟩, .string ⟨#[]⟩, .int .i64 0, .slice none 0 0] 34) = X := ⟨_, rfl⟩
                    have hr : Blk X93 X81.heap.size 34 #[.int .i64 0, .string ⟨#[]⟩, .string ⟨#[]⟩, .int .i64 0, .slice none 0 0] := by rw [← hX]; exact bkN rfl _ _
                    have hb : Below X81.heap.size X81 X93 := by rw [← hX]; exact (Below.refl _ _).alloc (Nat.le_refl _) _
                    have h' := stepB h82 hb (Nat.le_refl _)
                    have HNE : Hid ((Value.slice oq nA cq).ownBlock ≠ some X81.heap.size) := fun e => by have := (R1.out.lt _ e).2; omega
                    have N1 := Lib.hid (blkB N1.out hb)
                    have R1 := Lib.hid (row_below R1.out hb)
                    have BX := Lib.hid hr
                    refine hK.out _ _ (by rw [hX]; exact h') (fun h94 => ?_)
                    change wpAnyH Try.prog _ _ _ _ _ _ _ (X81.alloc (.cells #[.int .i64 0, .string ⟨#[]⟩, .string ⟨#[]⟩, .int .i64 0, .slice none 0 0] 34))
                    rw [hX] at h94 ⊢
                    clear hX hb h' hr
                    refine wpAnyH_ready (rs := [7]) (by kernel_rfl) (by simp) (AllReadyH.cons rfl (fun KK hK => ?_) AllReadyH.nil)
                    refine step_append_ex rfl (.tmp 76) (.tmp 78) 23 rfl (.slice oq nA cq) (.slice (some ⟨V0.heap.size, 0, none⟩) 1 1) (by kernel_rfl) (by kernel_rfl) (HMO.out X93 _ _ h94 R1.out N1.out) fun vq X95 hR => ?_
                    obtain ⟨⟨o9, c9, rfl, hrw⟩, hkp, hbl⟩ := hR
                    have h' := h94.trans hbl
                    have BX := Lib.hid (hkp _ _ BX.out HNE.out)
                    obtain ⟨hy1, hy2, hy3⟩ := HYS.out _ _ _ h' hrw
                    have HY1 := Lib.hid hy1
                    have HY2 := Lib.hid hy2
                    have YS := Lib.hid hy3
                    refine hK.out _ _ h' (fun h96 => ?_)
                    clear hrw hkp hbl h' hy1 hy2 hy3 R1 N1
                    refine wpAnyH_ready (rs := [8]) (by kernel_rfl) (by simp) (AllReadyH.cons rfl (fun KK hK => ?_) AllReadyH.nil)
                    go_simp
                    refine (HC3.out X95 o9 c9 (stepB HW8.out h96 (Nat.le_refl _)) HY1.out HY2.out YS.out).mono ?_
                    rintro e X97 ⟨za, zn, zp, zq, zo, ze, zk, ov, kv, rfl, hu, hv, hb⟩
                    have h' := stepB h96 hb (Nat.le_refl _)
                    have HGL := Lib.hid BX.out.lt
                    have BX := Lib.hid (blkB BX.out hb)
                    have HUF := Lib.hid hu
                    have HVZ := Lib.hid hv
                    refine hK.out _ _ h' (fun h98 => ?_)
                    clear hu hv hb h' YS HY1 HY2
                    refine wpAnyH_take (i := 9) (v := .tuple #[.agg #[.int .i64 za, .string zp, .string zq, .int .i64 zn, .slice zo ze zk], .slice ov (nE + 1) kv]) rfl (by kernel_rfl) (by kernel_rfl) (by kernel_rfl) (fun _ _ _ h => h) (Or.inl ⟨by kernel_rfl, fun w' hw' => ?_⟩) h98 ?_
                    · go_simp
                    refine wpAnyH_take (i := 11) (v := .slice ov (nE + 1) kv) rfl (by kernel_rfl) (by kernel_rfl) (by kernel_rfl) (fun _ _ _ h => h) (Or.inl ⟨by kernel_rfl, fun w' hw' => ?_⟩) h98 ?_
                    · go_simp
                    refine wpAnyH_ready (rs := [10]) (by kernel_rfl) (by simp) (AllReadyH.cons rfl (fun KK hK => ?_) AllReadyH.nil)
                    go_simp
                    refine hK.out _ _ h98 (fun h98 => ?_)
                    refine wpAnyH_ready (rs := [13]) (by kernel_rfl) (by simp) (AllReadyH.cons rfl (fun KK hK => ?_) AllReadyH.nil)
                    refine wp_store_row (P := Try.prog) 34 _ _ rfl (X81.heap.size) #[.int .i64 za, .string zp, .string zq, .int .i64 zn, .slice zo ze zk] (by kernel_rfl) (by kernel_rfl) 34 #[.int .i64 0, .string ⟨#[]⟩, .string ⟨#[]⟩, .int .i64 0, .slice none 0 0] BX.out (by rw [size5]; rfl) rfl (by simp [Value.oneCell']) ?_
                    refine hK.out _ _ (below_setRow h98 h82.size _) (fun hz => ?_)
                    refine wpAnyH_take (i := 14) (v := .slice ov (nE + 1) kv) rfl (by kernel_rfl) (by kernel_rfl) (by kernel_rfl) (fun _ _ _ h => h) (Or.inl ⟨by kernel_rfl, fun w' hw' => ?_⟩) hz ?_
                    · go_simp
                    refine wpAnyH_done (by kernel_rfl) ?_ _
                    go_wp2_with fail
                    go_meet
                    exact ⟨_, _, _, _, _, _, _, _, _, _, rfl, rfl, BX.out.row _, isY_row HUF.out HGL.out _, es_row2 HVZ.out HCD.out BX.out _, hz⟩
                · go_simp
                  obtain ⟨X99, hX⟩ : ∃ X, X79.alloc (.cells #[.int .i64 0, .string ⟨#[]⟩, .string ⟨#[]⟩, .int .i64 0, .slice none 0 0] 34) = X := ⟨_, rfl⟩
                  have hr : Blk X99 X79.heap.size 34 #[.int .i64 0, .string ⟨#[]⟩, .string ⟨#[]⟩, .int .i64 0, .slice none 0 0] := by rw [← hX]; exact bkN rfl _ _
                  have hb : Below X79.heap.size X79 X99 := by rw [← hX]; exact (Below.refl _ _).alloc (Nat.le_refl _) _
                  have h' := stepB h80 hb (Nat.le_refl _)
                  have E0 := Lib.hid (blkB E0.out hb)
                  have N1 := Lib.hid (blkB N1.out hb)
                  have BX := Lib.hid hr
                  refine hK.out _ _ (by rw [hX]; exact h') (fun h100 => ?_)
                  change wpAnyH Try.prog _ _ _ _ _ _ _ (X79.alloc (.cells #[.int .i64 0, .string ⟨#[]⟩, .string ⟨#[]⟩, .int .i64 0, .slice none 0 0] 34))
                  rw [hX] at h100 ⊢
                  clear hX hb h' hr
                  refine wpAnyH_ready (rs := [4]) (by kernel_rfl) (by simp) (AllReadyH.cons rfl (fun KK hK => ?_) AllReadyH.nil)
                  refine step_append_ex rfl (.tmp 74) (.tmp 75) 23 rfl (.slice (some ⟨X77.heap.size, 0, none⟩) 0 0) (.slice oA nA cA) (by kernel_rfl) (by kernel_rfl) (HCP.out X99 _ h100 E0.out h78.size) fun vq X101 hR => ?_
                  obtain ⟨⟨oq, cq, rfl, hrw, hkp⟩, hbl⟩ := hR
                  have h' := h100.trans hbl
                  have N1 := Lib.hid (hkp _ _ rfl N1.out).1
                  have HNE := Lib.hid (hkp _ _ rfl BX.out).2
                  have BX := Lib.hid (hkp _ _ rfl BX.out).1
                  have R1 := Lib.hid hrw
                  refine hK.out _ _ h' (fun h102 => ?_)
                  clear hrw hkp hbl h' E0
                  refine wpAnyH_ready (rs := [7]) (by kernel_rfl) (by simp) (AllReadyH.cons rfl (fun KK hK => ?_) AllReadyH.nil)
                  refine step_append_ex rfl (.tmp 76) (.tmp 78) 23 rfl (.slice oq nA cq) (.slice (some ⟨V0.heap.size, 0, none⟩) 1 1) (by kernel_rfl) (by kernel_rfl) (HMO.out X101 _ _ h102 R1.out N1.out) fun vq X103 hR => ?_
                  obtain ⟨⟨o9, c9, rfl, hrw⟩, hkp, hbl⟩ := hR
                  have h' := h102.trans hbl
                  have BX := Lib.hid (hkp _ _ BX.out HNE.out)
                  obtain ⟨hy1, hy2, hy3⟩ := HYS.out _ _ _ h' hrw
                  have HY1 := Lib.hid hy1
                  have HY2 := Lib.hid hy2
                  have YS := Lib.hid hy3
                  refine hK.out _ _ h' (fun h104 => ?_)
                  clear hrw hkp hbl h' hy1 hy2 hy3 R1 N1
                  refine wpAnyH_ready (rs := [8]) (by kernel_rfl) (by simp) (AllReadyH.cons rfl (fun KK hK => ?_) AllReadyH.nil)
                  go_simp
                  refine (HC3.out X103 o9 c9 (stepB HW8.out h104 (Nat.le_refl _)) HY1.out HY2.out YS.out).mono ?_
                  rintro e X105 ⟨za, zn, zp, zq, zo, ze, zk, ov, kv, rfl, hu, hv, hb⟩
                  have h' := stepB h104 hb (Nat.le_refl _)
                  have HGL := Lib.hid BX.out.lt
                  have BX := Lib.hid (blkB BX.out hb)
                  have HUF := Lib.hid hu
                  have HVZ := Lib.hid hv
                  refine hK.out _ _ h' (fun h106 => ?_)
                  clear hu hv hb h' YS HY1 HY2
                  refine wpAnyH_take (i := 9) (v := .tuple #[.agg #[.int .i64 za, .string zp, .string zq, .int .i64 zn, .slice zo ze zk], .slice ov (nE + 1) kv]) rfl (by kernel_rfl) (by kernel_rfl) (by kernel_rfl) (fun _ _ _ h => h) (Or.inl ⟨by kernel_rfl, fun w' hw' => ?_⟩) h106 ?_
                  · go_simp
                  refine wpAnyH_take (i := 11) (v := .slice ov (nE + 1) kv) rfl (by kernel_rfl) (by kernel_rfl) (by kernel_rfl) (fun _ _ _ h => h) (Or.inl ⟨by kernel_rfl, fun w' hw' => ?_⟩) h106 ?_
                  · go_simp
                  refine wpAnyH_ready (rs := [10]) (by kernel_rfl) (by simp) (AllReadyH.cons rfl (fun KK hK => ?_) AllReadyH.nil)
                  go_simp
                  refine hK.out _ _ h106 (fun h106 => ?_)
                  refine wpAnyH_ready (rs := [13]) (by kernel_rfl) (by simp) (AllReadyH.cons rfl (fun KK hK => ?_) AllReadyH.nil)
                  refine wp_store_row (P := Try.prog) 34 _ _ rfl (X79.heap.size) #[.int .i64 za, .string zp, .string zq, .int .i64 zn, .slice zo ze zk] (by kernel_rfl) (by kernel_rfl) 34 #[.int .i64 0, .string ⟨#[]⟩, .string ⟨#[]⟩, .int .i64 0, .slice none 0 0] BX.out (by rw [size5]; rfl) rfl (by simp [Value.oneCell']) ?_
                  refine hK.out _ _ (below_setRow h106 h80.size _) (fun hz => ?_)
                  refine wpAnyH_take (i := 14) (v := .slice ov (nE + 1) kv) rfl (by kernel_rfl) (by kernel_rfl) (by kernel_rfl) (fun _ _ _ h => h) (Or.inl ⟨by kernel_rfl, fun w' hw' => ?_⟩) hz ?_
                  · go_simp
                  refine wpAnyH_done (by kernel_rfl) ?_ _
                  go_wp2_with fail
                  go_meet
                  exact ⟨_, _, _, _, _, _, _, _, _, _, rfl, rfl, BX.out.row _, isY_row HUF.out HGL.out _, es_row2 HVZ.out HCD.out BX.out _, hz⟩
              · go_simp
                obtain ⟨X107, hX⟩ : ∃ X, X77.alloc (.cells #[.int .i64 0, .string ⟨#[]⟩, .string ⟨#[]⟩, .int .i64 0, .slice none 0 0] 34) = X := ⟨_, rfl⟩
                have hr : Blk X107 X77.heap.size 34 #[.int .i64 0, .string ⟨#[]⟩, .string ⟨#[]⟩, .int .i64 0, .slice none 0 0] := by rw [← hX]; exact bkN rfl _ _
                have hb : Below X77.heap.size X77 X107 := by rw [← hX]; exact (Below.refl _ _).alloc (Nat.le_refl _) _
                have h' := stepB h78 hb (Nat.le_refl _)
                have N1 := Lib.hid (blkB N1.out hb)
                have BX := Lib.hid hr
                refine hK.out _ _ (by rw [hX]; exact h') (fun h108 => ?_)
                change wpAnyH Try.prog _ _ _ _ _ _ _ (X77.alloc (.cells #[.int .i64 0, .string ⟨#[]⟩, .string ⟨#[]⟩, .int .i64 0, .slice none 0 0] 34))
                rw [hX] at h108 ⊢
                clear hX hb h' hr
                refine wpAnyH_ready (rs := [2]) (by kernel_rfl) (by simp) (AllReadyH.cons rfl (fun KK hK => ?_) AllReadyH.nil)
                go_simp
                obtain ⟨X109, hX⟩ : ∃ X, X107.alloc (.cells #[] 34) = X := ⟨_, rfl⟩
                have hr : Blk X109 X107.heap.size 34 #[] := by rw [← hX]; exact bkN rfl _ _
                have hb : Below X107.heap.size X107 X109 := by rw [← hX]; exact (Below.refl _ _).alloc (Nat.le_refl _) _
                have h' := stepB h108 hb (Nat.le_refl _)
                have N1 := Lib.hid (blkB N1.out hb)
                have BX := Lib.hid (blkB BX.out hb)
                have E0 := Lib.hid hr
                refine hK.out _ _ (by rw [hX]; exact h') (fun h110 => ?_)
                change wpAnyH Try.prog _ _ _ _ _ _ _ (X107.alloc (.cells #[] 34))
                rw [hX] at h110 ⊢
                clear hX hb h' hr
                refine wpAnyH_ready (rs := [4]) (by kernel_rfl) (by simp) (AllReadyH.cons rfl (fun KK hK => ?_) AllReadyH.nil)
                refine step_append_ex rfl (.tmp 74) (.tmp 75) 23 rfl (.slice (some ⟨X107.heap.size, 0, none⟩) 0 0) (.slice oA nA cA) (by kernel_rfl) (by kernel_rfl) (HCP.out X109 _ h110 E0.out h108.size) fun vq X111 hR => ?_
                obtain ⟨⟨oq, cq, rfl, hrw, hkp⟩, hbl⟩ := hR
                have h' := h110.trans hbl
                have N1 := Lib.hid (hkp _ _ rfl N1.out).1
                have HNE := Lib.hid (hkp _ _ rfl BX.out).2
                have BX := Lib.hid (hkp _ _ rfl BX.out).1
                have R1 := Lib.hid hrw
                refine hK.out _ _ h' (fun h112 => ?_)
                clear hrw hkp hbl h' E0
                refine wpAnyH_ready (rs := [7]) (by kernel_rfl) (by simp) (AllReadyH.cons rfl (fun KK hK => ?_) AllReadyH.nil)
                refine step_append_ex rfl (.tmp 76) (.tmp 78) 23 rfl (.slice oq nA cq) (.slice (some ⟨V0.heap.size, 0, none⟩) 1 1) (by kernel_rfl) (by kernel_rfl) (HMO.out X111 _ _ h112 R1.out N1.out) fun vq X113 hR => ?_
                obtain ⟨⟨o9, c9, rfl, hrw⟩, hkp, hbl⟩ := hR
                have h' := h112.trans hbl
                have BX := Lib.hid (hkp _ _ BX.out HNE.out)
                obtain ⟨hy1, hy2, hy3⟩ := HYS.out _ _ _ h' hrw
                have HY1 := Lib.hid hy1
                have HY2 := Lib.hid hy2
                have YS := Lib.hid hy3
                refine hK.out _ _ h' (fun h114 => ?_)
                clear hrw hkp hbl h' hy1 hy2 hy3 R1 N1
                refine wpAnyH_ready (rs := [8]) (by kernel_rfl) (by simp) (AllReadyH.cons rfl (fun KK hK => ?_) AllReadyH.nil)
                go_simp
                refine (HC3.out X113 o9 c9 (stepB HW8.out h114 (Nat.le_refl _)) HY1.out HY2.out YS.out).mono ?_
                rintro e X115 ⟨za, zn, zp, zq, zo, ze, zk, ov, kv, rfl, hu, hv, hb⟩
                have h' := stepB h114 hb (Nat.le_refl _)
                have HGL := Lib.hid BX.out.lt
                have BX := Lib.hid (blkB BX.out hb)
                have HUF := Lib.hid hu
                have HVZ := Lib.hid hv
                refine hK.out _ _ h' (fun h116 => ?_)
                clear hu hv hb h' YS HY1 HY2
                refine wpAnyH_take (i := 9) (v := .tuple #[.agg #[.int .i64 za, .string zp, .string zq, .int .i64 zn, .slice zo ze zk], .slice ov (nE + 1) kv]) rfl (by kernel_rfl) (by kernel_rfl) (by kernel_rfl) (fun _ _ _ h => h) (Or.inl ⟨by kernel_rfl, fun w' hw' => ?_⟩) h116 ?_
                · go_simp
                refine wpAnyH_take (i := 11) (v := .slice ov (nE + 1) kv) rfl (by kernel_rfl) (by kernel_rfl) (by kernel_rfl) (fun _ _ _ h => h) (Or.inl ⟨by kernel_rfl, fun w' hw' => ?_⟩) h116 ?_
                · go_simp
                refine wpAnyH_ready (rs := [10]) (by kernel_rfl) (by simp) (AllReadyH.cons rfl (fun KK hK => ?_) AllReadyH.nil)
                go_simp
                refine hK.out _ _ h116 (fun h116 => ?_)
                refine wpAnyH_ready (rs := [13]) (by kernel_rfl) (by simp) (AllReadyH.cons rfl (fun KK hK => ?_) AllReadyH.nil)
                refine wp_store_row (P := Try.prog) 34 _ _ rfl (X77.heap.size) #[.int .i64 za, .string zp, .string zq, .int .i64 zn, .slice zo ze zk] (by kernel_rfl) (by kernel_rfl) 34 #[.int .i64 0, .string ⟨#[]⟩, .string ⟨#[]⟩, .int .i64 0, .slice none 0 0] BX.out (by rw [size5]; rfl) rfl (by simp [Value.oneCell']) ?_
                refine hK.out _ _ (below_setRow h116 h78.size _) (fun hz => ?_)
                refine wpAnyH_take (i := 14) (v := .slice ov (nE + 1) kv) rfl (by kernel_rfl) (by kernel_rfl) (by kernel_rfl) (fun _ _ _ h => h) (Or.inl ⟨by kernel_rfl, fun w' hw' => ?_⟩) hz ?_
                · go_simp
                refine wpAnyH_done (by kernel_rfl) ?_ _
                go_wp2_with fail
                go_meet
                exact ⟨_, _, _, _, _, _, _, _, _, _, rfl, rfl, BX.out.row _, isY_row HUF.out HGL.out _, es_row2 HVZ.out HCD.out BX.out _, hz⟩
            · go_simp
              obtain ⟨X117, hX⟩ : ∃ X, V0.alloc (.cells #[.int .i64 0, .string ⟨#[]⟩, .string ⟨#[]⟩, .int .i64 0, .slice none 0 0] 34) = X := ⟨_, rfl⟩
              have hr : Blk X117 V0.heap.size 34 #[.int .i64 0, .string ⟨#[]⟩, .string ⟨#[]⟩, .int .i64 0, .slice none 0 0] := by rw [← hX]; exact bkN rfl _ _
              have hb : Below V0.heap.size V0 X117 := by rw [← hX]; exact (Below.refl _ _).alloc (Nat.le_refl _) _
              have h' := stepB hS0 hb (Nat.le_refl _)
              have BX := Lib.hid hr
              refine hK.out _ _ (by rw [hX]; exact h') (fun h118 => ?_)
              change wpAnyH Try.prog _ _ _ _ _ _ _ (V0.alloc (.cells #[.int .i64 0, .string ⟨#[]⟩, .string ⟨#[]⟩, .int .i64 0, .slice none 0 0] 34))
              rw [hX] at h118 ⊢
              clear hX hb h' hr
              refine wpAnyH_ready (rs := [2, 6]) (by kernel_rfl) (by simp) (AllReadyH.cons rfl (fun KK hK => ?_) (AllReadyH.cons rfl (fun KK hK => ?_) AllReadyH.nil))
              · go_simp
                obtain ⟨X119, hX⟩ : ∃ X, X117.alloc (.cells #[] 34) = X := ⟨_, rfl⟩
                have hr : Blk X119 X117.heap.size 34 #[] := by rw [← hX]; exact bkN rfl _ _
                have hb : Below X117.heap.size X117 X119 := by rw [← hX]; exact (Below.refl _ _).alloc (Nat.le_refl _) _
                have h' := stepB h118 hb (Nat.le_refl _)
                have BX := Lib.hid (blkB BX.out hb)
                have E0 := Lib.hid hr
                refine hK.out _ _ (by rw [hX]; exact h') (fun h120 => ?_)
                change wpAnyH Try.prog _ _ _ _ _ _ _ (X117.alloc (.cells #[] 34))
                rw [hX] at h120 ⊢
                clear hX hb h' hr
                refine wpAnyH_ready (rs := [4, 6]) (by kernel_rfl) (by simp) (AllReadyH.cons rfl (fun KK hK => ?_) (AllReadyH.cons rfl (fun KK hK => ?_) AllReadyH.nil))
                · refine step_append_ex rfl (.tmp 74) (.tmp 75) 23 rfl (.slice (some ⟨X117.heap.size, 0, none⟩) 0 0) (.slice oA nA cA) (by kernel_rfl) (by kernel_rfl) (HCP.out X119 _ h120 E0.out h118.size) fun vq X121 hR => ?_
                  obtain ⟨⟨oq, cq, rfl, hrw, hkp⟩, hbl⟩ := hR
                  have h' := h120.trans hbl
                  have HNE := Lib.hid (hkp _ _ rfl BX.out).2
                  have BX := Lib.hid (hkp _ _ rfl BX.out).1
                  have R1 := Lib.hid hrw
                  refine hK.out _ _ h' (fun h122 => ?_)
                  clear hrw hkp hbl h' E0
                  refine wpAnyH_ready (rs := [6]) (by kernel_rfl) (by simp) (AllReadyH.cons rfl (fun KK hK => ?_) AllReadyH.nil)
                  go_simp
                  obtain ⟨X123, hX⟩ : ∃ X, X121.alloc (.cells #[.int .i64 xa, .string xp, .string xq, .int .i64 xn, .slice xo xe xk] 34) = X := ⟨_, rfl⟩
                  have hr : Blk X123 X121.heap.size 34 #[.int .i64 xa, .string xp, .string xq, .int .i64 xn, .slice xo xe xk] := by rw [← hX]; exact bkN rfl _ _
                  have hb : Below X121.heap.size X121 X123 := by rw [← hX]; exact (Below.refl _ _).alloc (Nat.le_refl _) _
                  have h' := stepB h122 hb (Nat.le_refl _)
                  have BX := Lib.hid (blkB BX.out hb)
                  have R1 := Lib.hid (row_below R1.out hb)
                  have N1 := Lib.hid hr
                  refine hK.out _ _ (by rw [hX]; exact h') (fun h124 => ?_)
                  change wpAnyH Try.prog _ _ _ _ _ _ _ (X121.alloc (.cells #[.int .i64 xa, .string xp, .string xq, .int .i64 xn, .slice xo xe xk] 34))
                  rw [hX] at h124 ⊢
                  clear hX hb h' hr
                  refine wpAnyH_ready (rs := [7]) (by kernel_rfl) (by simp) (AllReadyH.cons rfl (fun KK hK => ?_) AllReadyH.nil)
                  refine step_append_ex rfl (.tmp 76) (.tmp 78) 23 rfl (.slice oq nA cq) (.slice (some ⟨X121.heap.size, 0, none⟩) 1 1) (by kernel_rfl) (by kernel_rfl) (HMO.out X123 _ _ h124 R1.out N1.out) fun vq X125 hR => ?_
                  obtain ⟨⟨o9, c9, rfl, hrw⟩, hkp, hbl⟩ := hR
                  have h' := h124.trans hbl
                  have BX := Lib.hid (hkp _ _ BX.out HNE.out)
                  obtain ⟨hy1, hy2, hy3⟩ := HYS.out _ _ _ h' hrw
                  have HY1 := Lib.hid hy1
                  have HY2 := Lib.hid hy2
                  have YS := Lib.hid hy3
                  refine hK.out _ _ h' (fun h126 => ?_)
                  clear hrw hkp hbl h' hy1 hy2 hy3 R1 N1
                  refine wpAnyH_ready (rs := [8]) (by kernel_rfl) (by simp) (AllReadyH.cons rfl (fun KK hK => ?_) AllReadyH.nil)
                  go_simp
                  refine (HC3.out X125 o9 c9 (stepB HW8.out h126 (Nat.le_refl _)) HY1.out HY2.out YS.out).mono ?_
                  rintro e X127 ⟨za, zn, zp, zq, zo, ze, zk, ov, kv, rfl, hu, hv, hb⟩
                  have h' := stepB h126 hb (Nat.le_refl _)
                  have HGL := Lib.hid BX.out.lt
                  have BX := Lib.hid (blkB BX.out hb)
                  have HUF := Lib.hid hu
                  have HVZ := Lib.hid hv
                  refine hK.out _ _ h' (fun h128 => ?_)
                  clear hu hv hb h' YS HY1 HY2
                  refine wpAnyH_take (i := 9) (v := .tuple #[.agg #[.int .i64 za, .string zp, .string zq, .int .i64 zn, .slice zo ze zk], .slice ov (nE + 1) kv]) rfl (by kernel_rfl) (by kernel_rfl) (by kernel_rfl) (fun _ _ _ h => h) (Or.inl ⟨by kernel_rfl, fun w' hw' => ?_⟩) h128 ?_
                  · go_simp
                  refine wpAnyH_take (i := 11) (v := .slice ov (nE + 1) kv) rfl (by kernel_rfl) (by kernel_rfl) (by kernel_rfl) (fun _ _ _ h => h) (Or.inl ⟨by kernel_rfl, fun w' hw' => ?_⟩) h128 ?_
                  · go_simp
                  refine wpAnyH_ready (rs := [10]) (by kernel_rfl) (by simp) (AllReadyH.cons rfl (fun KK hK => ?_) AllReadyH.nil)
                  go_simp
                  refine hK.out _ _ h128 (fun h128 => ?_)
                  refine wpAnyH_ready (rs := [13]) (by kernel_rfl) (by simp) (AllReadyH.cons rfl (fun KK hK => ?_) AllReadyH.nil)
                  refine wp_store_row (P := Try.prog) 34 _ _ rfl (V0.heap.size) #[.int .i64 za, .string zp, .string zq, .int .i64 zn, .slice zo ze zk] (by kernel_rfl) (by kernel_rfl) 34 #[.int .i64 0, .string ⟨#[]⟩, .string ⟨#[]⟩, .int .i64 0, .slice none 0 0] BX.out (by rw [size5]; rfl) rfl (by simp [Value.oneCell']) ?_
                  refine hK.out _ _ (below_setRow h128 hS0.size _) (fun hz => ?_)
                  refine wpAnyH_take (i := 14) (v := .slice ov (nE + 1) kv) rfl (by kernel_rfl) (by kernel_rfl) (by kernel_rfl) (fun _ _ _ h => h) (Or.inl ⟨by kernel_rfl, fun w' hw' => ?_⟩) hz ?_
                  · go_simp
                  refine wpAnyH_done (by kernel_rfl) ?_ _
                  go_wp2_with fail
                  go_meet
                  exact ⟨_, _, _, _, _, _, _, _, _, _, rfl, rfl, BX.out.row _, isY_row HUF.out HGL.out _, es_row2 HVZ.out HCD.out BX.out _, hz⟩
                · go_simp
                  obtain ⟨X129, hX⟩ : ∃ X, X119.alloc (.cells #[.int .i64 xa, .string xp, .string xq, .int .i64 xn, .slice xo xe xk] 34) = X := ⟨_, rfl⟩
                  have hr : Blk X129 X119.heap.size 34 #[.int .i64 xa, .string xp, .string xq, .int .i64 xn, .slice xo xe xk] := by rw [← hX]; exact bkN rfl _ _
                  have hb : Below X119.heap.size X119 X129 := by rw [← hX]; exact (Below.refl _ _).alloc (Nat.le_refl _) _
                  have h' := stepB h120 hb (Nat.le_refl _)
                  have E0 := Lib.hid (blkB E0.out hb)
                  have BX := Lib.hid (blkB BX.out hb)
                  have N1 := Lib.hid hr
                  refine hK.out _ _ (by rw [hX]; exact h') (fun h130 => ?_)
                  change wpAnyH Try.prog _ _ _ _ _ _ _ (X119.alloc (.cells #[.int .i64 xa, .string xp, .string xq, .int .i64 xn, .slice xo xe xk] 34))
                  rw [hX] at h130 ⊢
                  clear hX hb h' hr
                  refine wpAnyH_ready (rs := [4]) (by kernel_rfl) (by simp) (AllReadyH.cons rfl (fun KK hK => ?_) AllReadyH.nil)
                  refine step_append_ex rfl (.tmp 74) (.tmp 75) 23 rfl (.slice (some ⟨X117.heap.size, 0, none⟩) 0 0) (.slice oA nA cA) (by kernel_rfl) (by kernel_rfl) (HCP.out X129 _ h130 E0.out h118.size) fun vq X131 hR => ?_
                  obtain ⟨⟨oq, cq, rfl, hrw, hkp⟩, hbl⟩ := hR
                  have h' := h130.trans hbl
                  have N1 := Lib.hid (hkp _ _ rfl N1.out).1
                  have HNE := Lib.hid (hkp _ _ rfl BX.out).2
                  have BX := Lib.hid (hkp _ _ rfl BX.out).1
                  have R1 := Lib.hid hrw
                  refine hK.out _ _ h' (fun h132 => ?_)
                  clear hrw hkp hbl h' E0
                  refine wpAnyH_ready (rs := [7]) (by kernel_rfl) (by simp) (AllReadyH.cons rfl (fun KK hK => ?_) AllReadyH.nil)
                  refine step_append_ex rfl (.tmp 76) (.tmp 78) 23 rfl (.slice oq nA cq) (.slice (some ⟨X119.heap.size, 0, none⟩) 1 1) (by kernel_rfl) (by kernel_rfl) (HMO.out X131 _ _ h132 R1.out N1.out) fun vq X133 hR => ?_
                  obtain ⟨⟨o9, c9, rfl, hrw⟩, hkp, hbl⟩ := hR
                  have h' := h132.trans hbl
                  have BX := Lib.hid (hkp _ _ BX.out HNE.out)
                  obtain ⟨hy1, hy2, hy3⟩ := HYS.out _ _ _ h' hrw
                  have HY1 := Lib.hid hy1
                  have HY2 := Lib.hid hy2
                  have YS := Lib.hid hy3
                  refine hK.out _ _ h' (fun h134 => ?_)
                  clear hrw hkp hbl h' hy1 hy2 hy3 R1 N1
                  refine wpAnyH_ready (rs := [8]) (by kernel_rfl) (by simp) (AllReadyH.cons rfl (fun KK hK => ?_) AllReadyH.nil)
                  go_simp
                  refine (HC3.out X133 o9 c9 (stepB HW8.out h134 (Nat.le_refl _)) HY1.out HY2.out YS.out).mono ?_
                  rintro e X135 ⟨za, zn, zp, zq, zo, ze, zk, ov, kv, rfl, hu, hv, hb⟩
                  have h' := stepB h134 hb (Nat.le_refl _)
                  have HGL := Lib.hid BX.out.lt
                  have BX := Lib.hid (blkB BX.out hb)
                  have HUF := Lib.hid hu
                  have HVZ := Lib.hid hv
                  refine hK.out _ _ h' (fun h136 => ?_)
                  clear hu hv hb h' YS HY1 HY2
                  refine wpAnyH_take (i := 9) (v := .tuple #[.agg #[.int .i64 za, .string zp, .string zq, .int .i64 zn, .slice zo ze zk], .slice ov (nE + 1) kv]) rfl (by kernel_rfl) (by kernel_rfl) (by kernel_rfl) (fun _ _ _ h => h) (Or.inl ⟨by kernel_rfl, fun w' hw' => ?_⟩) h136 ?_
                  · go_simp
                  refine wpAnyH_take (i := 11) (v := .slice ov (nE + 1) kv) rfl (by kernel_rfl) (by kernel_rfl) (by kernel_rfl) (fun _ _ _ h => h) (Or.inl ⟨by kernel_rfl, fun w' hw' => ?_⟩) h136 ?_
                  · go_simp
                  refine wpAnyH_ready (rs := [10]) (by kernel_rfl) (by simp) (AllReadyH.cons rfl (fun KK hK => ?_) AllReadyH.nil)
                  go_simp
                  refine hK.out _ _ h136 (fun h136 => ?_)
                  refine wpAnyH_ready (rs := [13]) (by kernel_rfl) (by simp) (AllReadyH.cons rfl (fun KK hK => ?_) AllReadyH.nil)
                  refine wp_store_row (P := Try.prog) 34 _ _ rfl (V0.heap.size) #[.int .i64 za, .string zp, .string zq, .int .i64 zn, .slice zo ze zk] (by kernel_rfl) (by kernel_rfl) 34 #[.int .i64 0, .string ⟨#[]⟩, .string ⟨#[]⟩, .int .i64 0, .slice none 0 0] BX.out (by rw [size5]; rfl) rfl (by simp [Value.oneCell']) ?_
                  refine hK.out _ _ (below_setRow h136 hS0.size _) (fun hz => ?_)
                  refine wpAnyH_take (i := 14) (v := .slice ov (nE + 1) kv) rfl (by kernel_rfl) (by kernel_rfl) (by kernel_rfl) (fun _ _ _ h => h) (Or.inl ⟨by kernel_rfl, fun w' hw' => ?_⟩) hz ?_
                  · go_simp
                  refine wpAnyH_done (by kernel_rfl) ?_ _
                  go_wp2_with fail
                  go_meet
                  exact ⟨_, _, _, _, _, _, _, _, _, _, rfl, rfl, BX.out.row _, isY_row HUF.out HGL.out _, es_row2 HVZ.out HCD.out BX.out _, hz⟩
              · go_simp
                obtain ⟨X137, hX⟩ : ∃ X, X117.alloc (.cells #[.int .i64 xa, .string xp, .string xq, .int .i64 xn, .slice xo xe xk] 34) = X := ⟨_, rfl⟩
                have hr : Blk X137 X117.heap.size 34 #[.int .i64 xa, .string xp, .string xq, .int .i64 xn, .slice xo xe xk] := by rw [← hX]; exact bkN rfl _ _
                have hb : Below X117.heap.size X117 X137 := by rw [← hX]; exact (Below.refl _ _).alloc (Nat.le_refl _) _
                have h' := stepB h118 hb (Nat.le_refl _)
                have BX := Lib.hid (blkB BX.out hb)
                have N1 := Lib.hid hr
                refine hK.out _ _ (by rw [hX]; exact h') (fun h138 => ?_)
                change wpAnyH Try.prog _ _ _ _ _ _ _ (X117.alloc (.cells #[.int .i64 xa, .string xp, .string xq, .int .i64 xn, .slice xo xe xk] 34))
                rw [hX] at h138 ⊢
                clear hX hb h' hr
                refine wpAnyH_ready (rs := [2]) (by kernel_rfl) (by simp) (AllReadyH.cons rfl (fun KK hK => ?_) AllReadyH.nil)
                go_simp
                obtain ⟨X139, hX⟩ : ∃ X, X137.alloc (.cells #[] 34) = X := ⟨_, rfl⟩
                have hr : Blk X139 X137.heap.size 34 #[] := by rw [← hX]; exact bkN rfl _ _
                have hb : Below X137.heap.size X137 X139 := by rw [← hX]; exact (Below.refl _ _).alloc (Nat.le_refl _) _
                have h' := stepB h138 hb (Nat.le_refl _)
                have N1 := Lib.hid (blkB N1.out hb)
                have BX := Lib.hid (blkB BX.out hb)
                have E0 := Lib.hid hr
                refine hK.out _ _ (by rw [hX]; exact h') (fun h140 => ?_)
                change wpAnyH Try.prog _ _ _ _ _ _ _ (X137.alloc (.cells #[] 34))
                rw [hX] at h140 ⊢
                clear hX hb h' hr
                refine wpAnyH_ready (rs := [4]) (by kernel_rfl) (by simp) (AllReadyH.cons rfl (fun KK hK => ?_) AllReadyH.nil)
                refine step_append_ex rfl (.tmp 74) (.tmp 75) 23 rfl (.slice (some ⟨X137.heap.size, 0, none⟩) 0 0) (.slice oA nA cA) (by kernel_rfl) (by kernel_rfl) (HCP.out X139 _ h140 E0.out h138.size) fun vq X141 hR => ?_
                obtain ⟨⟨oq, cq, rfl, hrw, hkp⟩, hbl⟩ := hR
                have h' := h140.trans hbl
                have N1 := Lib.hid (hkp _ _ rfl N1.out).1
                have HNE := Lib.hid (hkp _ _ rfl BX.out).2
                have BX := Lib.hid (hkp _ _ rfl BX.out).1
                have R1 := Lib.hid hrw
                refine hK.out _ _ h' (fun h142 => ?_)
                clear hrw hkp hbl h' E0
                refine wpAnyH_ready (rs := [7]) (by kernel_rfl) (by simp) (AllReadyH.cons rfl (fun KK hK => ?_) AllReadyH.nil)
                refine step_append_ex rfl (.tmp 76) (.tmp 78) 23 rfl (.slice oq nA cq) (.slice (some ⟨X117.heap.size, 0, none⟩) 1 1) (by kernel_rfl) (by kernel_rfl) (HMO.out X141 _ _ h142 R1.out N1.out) fun vq X143 hR => ?_
                obtain ⟨⟨o9, c9, rfl, hrw⟩, hkp, hbl⟩ := hR
                have h' := h142.trans hbl
                have BX := Lib.hid (hkp _ _ BX.out HNE.out)
                obtain ⟨hy1, hy2, hy3⟩ := HYS.out _ _ _ h' hrw
                have HY1 := Lib.hid hy1
                have HY2 := Lib.hid hy2
                have YS := Lib.hid hy3
                refine hK.out _ _ h' (fun h144 => ?_)
                clear hrw hkp hbl h' hy1 hy2 hy3 R1 N1
                refine wpAnyH_ready (rs := [8]) (by kernel_rfl) (by simp) (AllReadyH.cons rfl (fun KK hK => ?_) AllReadyH.nil)
                go_simp
                refine (HC3.out X143 o9 c9 (stepB HW8.out h144 (Nat.le_refl _)) HY1.out HY2.out YS.out).mono ?_
                rintro e X145 ⟨za, zn, zp, zq, zo, ze, zk, ov, kv, rfl, hu, hv, hb⟩
                have h' := stepB h144 hb (Nat.le_refl _)
                have HGL := Lib.hid BX.out.lt
                have BX := Lib.hid (blkB BX.out hb)
                have HUF := Lib.hid hu
                have HVZ := Lib.hid hv
                refine hK.out _ _ h' (fun h146 => ?_)
                clear hu hv hb h' YS HY1 HY2
                refine wpAnyH_take (i := 9) (v := .tuple #[.agg #[.int .i64 za, .string zp, .string zq, .int .i64 zn, .slice zo ze zk], .slice ov (nE + 1) kv]) rfl (by kernel_rfl) (by kernel_rfl) (by kernel_rfl) (fun _ _ _ h => h) (Or.inl ⟨by kernel_rfl, fun w' hw' => ?_⟩) h146 ?_
                · go_simp
                refine wpAnyH_take (i := 11) (v := .slice ov (nE + 1) kv) rfl (by kernel_rfl) (by kernel_rfl) (by kernel_rfl) (fun _ _ _ h => h) (Or.inl ⟨by kernel_rfl, fun w' hw' => ?_⟩) h146 ?_
                · go_simp
                refine wpAnyH_ready (rs := [10]) (by kernel_rfl) (by simp) (AllReadyH.cons rfl (fun KK hK => ?_) AllReadyH.nil)
                go_simp
                refine hK.out _ _ h146 (fun h146 => ?_)
                refine wpAnyH_ready (rs := [13]) (by kernel_rfl) (by simp) (AllReadyH.cons rfl (fun KK hK => ?_) AllReadyH.nil)
                refine wp_store_row (P := Try.prog) 34 _ _ rfl (V0.heap.size) #[.int .i64 za, .string zp, .string zq, .int .i64 zn, .slice zo ze zk] (by kernel_rfl) (by kernel_rfl) 34 #[.int .i64 0, .string ⟨#[]⟩, .string ⟨#[]⟩, .int .i64 0, .slice none 0 0] BX.out (by rw [size5]; rfl) rfl (by simp [Value.oneCell']) ?_
                refine hK.out _ _ (below_setRow h146 hS0.size _) (fun hz => ?_)
                refine wpAnyH_take (i := 14) (v := .slice ov (nE + 1) kv) rfl (by kernel_rfl) (by kernel_rfl) (by kernel_rfl) (fun _ _ _ h => h) (Or.inl ⟨by kernel_rfl, fun w' hw' => ?_⟩) hz ?_
                · go_simp
                refine wpAnyH_done (by kernel_rfl) ?_ _
                go_wp2_with fail
                go_meet
                exact ⟨_, _, _, _, _, _, _, _, _, _, rfl, rfl, BX.out.row _, isY_row HUF.out HGL.out _, es_row2 HVZ.out HCD.out BX.out _, hz⟩
          case rest =>
            obtain ⟨gz, za, zn, zp, zq, zo, ze, zk, ov, kv, rfl, rfl, BZ, HUZ, HVZ, H9W⟩ := hcut
            obtain ⟨X, rfl⟩ : ∃ X, X = wc := ⟨wc, rfl⟩
            have HWX := Lib.hid (stepB HW8.out H9W.out (Nat.le_refl _))
            have BXy := Lib.hid (blkB BXy.out H9W.out)
            have HUy := Lib.hid (HUy.out.below H9W.out)
            have HVy := Lib.hid (HVy.out.belowE H9W.out)
            have dy := BXy.out.cell
            have dz := BZ.out.cell
            clear HCP HMO HYS HC3 HCD c0 c1 c2
            go_wp2_with fail
            refine (equal_any _ (callT B P Rr A) _ _ _ (Nat.lt_succ_self _) HUy.out HUZ.out).mono ?_
            rintro e V1 ⟨rfl, hb⟩
            have HV1 := Lib.hid (stepB HWX.out hb (Nat.le_refl _))
            have HVy := Lib.hid (HVy.out.belowE hb)
            have hvz := HVZ.out.belowE hb
            clear hb HVZ dy dz BXy BZ HUy HUZ HWX
            obtain ⟨o', c', e', hlz, hcz, hrz⟩ := hvz
            simp only [Value.slice.injEq, List.length_cons] at e'
            obtain ⟨rfl, hnE, rfl⟩ := e'
            obtain ⟨aV, d, rfl, hd2, hdc, rfl⟩ := hrz 0 (-1, 12) rfl
            have d0 : V1.cell? aV = some (.int .i64 (-1)) := by have h := hdc 0 _ rfl; rwa [show (aV.add (0 * 2)).add 0 = aV by unfold Addr.add; split <;> simp_all] at h
            have d1 : V1.cell? (aV.add 1) = some (.int .i64 12) := by have h := hdc 1 _ rfl; rwa [show (aV.add (0 * 2)).add 1 = aV.add 1 by rw [add_more']] at h
            have hkz : nE + 1 ≤ kv := by simp only [List.length_cons] at hlz; omega
            have HVZ : Hid (IsEs V1 (callE s B P A) (.slice (some (if kv = 1 then aV else aV.add 2)) nE (kv - 1))) := by
              show IsEs _ _ _
              rw [← HNE0.out]
              refine ⟨_, _, rfl, by omega, by omega, fun i y hy => ?_⟩
              obtain ⟨a2, d2, e2, g1, g2, g3⟩ := hrz (i + 1) y (by simpa using hy)
              cases e2
              have hi : i < (callE s B P A).length := (List.getElem?_eq_some_iff.1 hy).1
              have hn0 := HNE0.out
              rw [if_neg (by omega)]
              refine ⟨_, d2, rfl, g1, fun j u hu => ?_, g3⟩
              have := g2 j u hu
              rw [add_more'] at this ⊢
              rw [add_more']
              rwa [show 2 + (i * 2 + j) = (i + 1) * 2 + j by omega] at *
            have hkm : kv ≤ 9223372036854775807 := by unfold maxLen at hcz; omega
            have hwn := IntWalk.i64_in ((nE : Int) + 1) ⟨by omega, by omega⟩
            have hb0 : (((nE : Int) + 1) != ((nE : Int) + 1)) = false := bne_self_eq_false' ..
            have hb1 : (0 : Int) < (nE : Int) + 1 := by omega
            have hb2 : ((nE + 1 : Nat) : Int) = (nE : Int) + 1 := by push_cast; rfl
            have HKZ := Lib.hid hkz
            have HKM := Lib.hid hkm
            have HCW : Hid (∀ (i : Nat) (v : Value), [.int .i64 (-1), .int .i64 12][i]? = some v → V1.cell? (aV.add i) = some v) := fun i v h => by
              match i, h with
              | 0, h => obtain rfl := Option.some.inj h; rw [show aV.add 0 = aV by unfold Addr.add; split <;> simp_all]; exact d0
              | 1, h => obtain rfl := Option.some.inj h; exact d1
              | i + 2, h => simp at h
            clear hrz hdc hd2 hlz hcz hnE d0 d1
            go_wp2_with (refine boxLoadGW 51 2 sizeW Try.underlying51 (by rfl) _ rfl aV rfl (cs := [.int .i64 (-1), .int .i64 12]) HCW.out rfl ?_)
            case inl =>
              refine (sameW_any (callE s B P A) _ _ V1 V1 HVy.out (by have hz := HVZ.out; rw [if_pos h, h] at hz; exact hz) (Below.refl _ _)).mono ?_
              rintro e V2 ⟨rfl, hb⟩
              have HV2 := Lib.hid (stepB HV1.out hb (Nat.le_refl _))
              clear hb
              go_wp2
              go_ret
              exact ⟨rfl, HV2.out⟩
            case inr =>
              refine (sameW_any (callE s B P A) _ _ V1 V1 HVy.out (by have hz := HVZ.out; rw [if_neg h] at hz; exact hz) (Below.refl _ _)).mono ?_
              rintro e V2 ⟨rfl, hb⟩
              have HV2 := Lib.hid (stepB HV1.out hb (Nat.le_refl _))
              clear hb
              go_wp2
              go_ret
              exact ⟨rfl, HV2.out⟩
open Go.ChangeShapes Go.WideShapes Go.ChangeAt Go.ChangeMaps
theorem laidOut : laidOutB Try.prog = true := by kernel_rfl
theorem own : ownKnob Try.prog.godebug = none := by kernel_rfl

theorem int_range {n : Int} (h : (Lit.int .i64 n).wf = true) : -9223372036854775808 ≤ n ∧ n ≤ 9223372036854775807 := by
  have h2 : IntKind.i64.min ≤ n ∧ n ≤ IntKind.i64.max := by
    unfold Lit.wf at h
    simpa only [Bool.and_eq_true, decide_eq_true_eq] using h
  rw [show IntKind.i64.min = -9223372036854775808 by decide, show IntKind.i64.max = 9223372036854775807 by decide] at h2
  exact h2

set_option maxRecDepth 100000 in
theorem lifted (os : Os) (started : os.Started) (H : Type) (enc : TypeId × Value → H) :
    ReturnsInHanded {} Try.checked os 9 .any (Rows.inferMoreSpec.pre6 enc Try.prog Try.f9 Rows.inferMoreRow.domain false) (Rows.inferMoreSpec.post enc Try.prog Try.f9 false true false false) := by
  refine returnsInHanded_of_change_sized (C := Try.checked) own started (by kernel_rfl) Try.func9
    (ChangeSpec.witness6 (enc := enc) (C := Try.checked) false ⟨#[], #[.agg #[.slice none 0 0, .slice none 0 0, .slice none 0 0, .slice none 0 0, .slice none 0 0], .agg #[.string .empty, .slice none 0 0, .slice none 0 0, .int .i64 0, .string .empty, .string .empty, .int .i64 0, .slice none 0 0], .slice none 0 0, .agg #[.int .i64 0, .string .empty, .string .empty, .int .i64 0, .slice none 0 0]], []⟩ 8 (by kernel_rfl) (by kernel_rfl) (by kernel_rfl) (by kernel_rfl)) ?_
  intro W base args ds gs before hval0 hW hcnd hsz _
  have hval : ∀ (j : Nat) t v, Try.f9.params[j]? = some t → args[j]? = some v → Value.okWide Try.prog W .any base t v := hval0
  have hW' := hW
  obtain ⟨p, q, hA0, hV, rfl, hfz, hnd⟩ := hW
  have hA : DataW.TrodAll enc Try.prog W 0 (fun _ => true) true Try.f9.params.toList args.toList ds p := hA0
  rw [Try.params9] at hA hval
  obtain ⟨v0, vs0, d0, ds0, p0, q0, hargs, rfl, rfl, h0, r0⟩ := trodAll_cons hA
  obtain ⟨v1, vs1, d1, ds1, p1, q1, rfl, rfl, rfl, h1, r1⟩ := trodAll_cons r0
  obtain ⟨v2, vs2, d2, ds2, p2, q2, rfl, rfl, rfl, h2, r2⟩ := trodAll_cons r1
  obtain ⟨v3, vs3, d3, ds3, p3, q3, rfl, rfl, rfl, h3, r3⟩ := trodAll_cons r2
  obtain ⟨rfl, rfl, rfl⟩ := trodAll_nil r3
  obtain rfl : args = #[v0, v1, v2, v3] := by cases args; simp_all
  obtain ⟨rfl, rfl⟩ := trodVars_none hV
  have t0 := h0
  obtain ⟨fl0, k0⟩ := h0
  have lt0 : ∀ x ∈ p0, x.block < W.heap.size := fun x hx => by simpa using hW'.lt x (by simp [hx])
  obtain ⟨cc0, rfl, _⟩ := okWide_struct Try.underlying32 (hval 0 32 v0 rfl rfl)
  have kk0 : DataW.trod enc Try.prog W 0 (fun _ => true) true fl0 32 cc0.toList = some (d0, p0) := k0
  obtain ⟨cl0, rfl⟩ : ∃ cl : List Value, cc0 = cl.toArray := ⟨cc0.toList, by simp⟩
  obtain ⟨sc0, g0, s0⟩ := open_sc fl0 _ _ kk0
  have m0 := s0 reachBytes (fun k hk => by simpa using List.all_eq_true.1 hsz k (DataW.weights_mem_each (j := 0) rfl rfl k hk))
  rw [show cl0.toArray.toList = cl0 from rfl] at g0
  have t1 := h1
  obtain ⟨fl1, k1⟩ := h1
  have lt1 : ∀ x ∈ p1, x.block < W.heap.size := fun x hx => by simpa using hW'.lt x (by simp [hx])
  obtain ⟨cc1, rfl, _⟩ := okWide_struct Try.underlying36 (hval 1 36 v1 rfl rfl)
  have kk1 : DataW.trod enc Try.prog W 0 (fun _ => true) true fl1 36 cc1.toList = some (d1, p1) := k1
  obtain ⟨cl1, rfl⟩ : ∃ cl : List Value, cc1 = cl.toArray := ⟨cc1.toList, by simp⟩
  obtain ⟨fn1, g1, b1, s1⟩ := open_fn fl1 _ _ kk1
  obtain ⟨m1, n1, rr1⟩ := s1 reachBytes (fun k hk => by simpa using List.all_eq_true.1 hsz k (DataW.weights_mem_each (j := 1) rfl rfl k hk))
  rw [show cl1.toArray.toList = cl1 from rfl] at g1
  have t2 := h2
  obtain ⟨fl2, k2⟩ := h2
  have lt2 : ∀ x ∈ p2, x.block < W.heap.size := fun x hx => by simpa using hW'.lt x (by simp [hx])
  obtain ⟨oo2, ll2, cc2, rfl⟩ := okWide_slice Try.underlying23 (hval 2 23 v2 rfl rfl)
  have kk2 : DataW.trod enc Try.prog W 0 (fun _ => true) true fl2 23 [.slice oo2 ll2 cc2] = some (d2, p2) := k2
  obtain ⟨o2, l2, c2, e2, lc2, cm2, g2, s2⟩ := open_ys kk2
  have m2 := (s2 reachBytes (fun k hk => by simpa using List.all_eq_true.1 hsz k (DataW.weights_mem_each (j := 2) rfl rfl k hk))).1
  simp only [List.cons.injEq, and_true, Value.slice.injEq] at e2
  obtain ⟨rfl, rfl, rfl⟩ := e2
  have b2 : WfYs l2 := wf_ys rfl kk2 g2
  have t3 := h3
  obtain ⟨fl3, k3⟩ := h3
  have lt3 : ∀ x ∈ p3, x.block < W.heap.size := fun x hx => by simpa using hW'.lt x (by simp [hx])
  obtain ⟨cc3, rfl, _⟩ := okWide_struct Try.underlying34 (hval 3 34 v3 rfl rfl)
  have kk3 : DataW.trod enc Try.prog W 0 (fun _ => true) true fl3 34 cc3.toList = some (d3, p3) := k3
  obtain ⟨y3, g3, s3⟩ := open_y fl3 _ _ kk3
  have m3 := s3 reachBytes (fun k hk => by simpa using List.all_eq_true.1 hsz k (DataW.weights_mem_each (j := 3) rfl rfl k hk))
  rw [show cc3.toList.toArray = cc3 by simp] at g3
  clear hA0 hval0
  simp only [List.append_nil] at hW'
  refine (walk awake_any sc0 cl0 fn1 cl1 l2 oo2 cc2 y3 _ W g0 m0 g1 b1 m1 n1 rr1 g2 lc2 cm2 m2 b2 g3 m3).mono fun e W' ⟨he, hg⟩ => ?_
  subst he
  exact ⟨_, rfl, _, _, _, [], _, [], hW', (trodAll_cons_mk (shut_bool Try.underlying4 _) trodAll_mk0), (trodAll_cons_mk (Below.trod laidOut (by kernel_rfl) (of_decide_eq_true (by kernel_rfl)) t0 hg lt0) (trodAll_cons_mk (Below.trod laidOut (by kernel_rfl) (of_decide_eq_true (by kernel_rfl)) t1 hg lt1) (trodAll_cons_mk (Below.trod laidOut (by kernel_rfl) (of_decide_eq_true (by kernel_rfl)) t2 hg lt2) (trodAll_cons_mk (Below.trod laidOut (by kernel_rfl) (of_decide_eq_true (by kernel_rfl)) t3 hg lt3) trodAll_mk0)))), rfl, hg.frame _, fun h => by cases h⟩

theorem over : Rows.inferMoreRow.holds Try.pinned (OpenSpec.ofChange Rows.inferMoreSpec) :=
  OpenClaim.holds_of_wide 9 Try.f9 rfl rfl rfl rfl rfl rfl rfl ⟨rfl, rfl, rfl, rfl, rfl⟩ rfl rfl rfl rfl rfl (by kernel_rfl) Try.func9 (by kernel_rfl)
    (of_decide_eq_true (by kernel_rfl)) (by unfold Func.isWrapper; first | (rw [if_pos (by decide +kernel)]; kernel_rfl) | (rw [if_neg (by decide +kernel)]; exact ⟨rfl, rfl⟩))
    (fun os started H enc _ => lifted os started H enc)

/-- InferMore answers true. -/
theorem proved : Rows.InferMoreSaid :=
  over

end Go.Proofs.Ytlakmniaocpaaaa.inferMore
