/-
  SetsThrough: what meets an interface that meets another one meets that one, where nothing is bad. No condition.
-/
import Derived.Test.YtmnhilgifjaocaaSpz
import Derived.ProofKit
import Derived.OpenShut
import Derived.ChangeMaps5
namespace Go.Proofs.Ytmnhilgifjaocaa.setsThrough
open Go.RowKit
open Go.Lib hiding intOf

set_option maxRecDepth 100000 in
set_option maxHeartbeats 16000000 in
theorem walk (hp : Prg) (s : SCP) (c : List Value) (t : GY) (vt : Value) (i : GY) (vi : Value) (j : GY) (vj : Value) (w : World) (hs : IsSc w s c) (hfs : FitS 140737488351232 s) (ht : IsY w t vt) (hi : IsY w i vi) (hj : IsY w j vj) :
    Calls Try.prog 5 #[.agg c.toArray, vt, vi, vj] w fun e w' => e = .returned (.bool true) ∧ Below w.heap.size w w' := by
  have HP := Lib.hid hp
  have HS := Lib.hid hs
  have HFS := Lib.hid hfs
  clear hfs
  obtain ⟨o, o1, o2, o3, o4, k, n1, k1, n2, k2, k3, n4, k4, rfl, _⟩ := hs
  have HtY := Lib.hid ht
  obtain ⟨ta, tm, tp, tq, tz, te, tk, rfl⟩ := ht.expl
  have HiY := Lib.hid hi
  obtain ⟨ia, im, ip, iq, iz, ie, ik, rfl⟩ := hi.expl
  have HjY := Lib.hid hj
  obtain ⟨ja, jm, jp, jq, jz, je, jk, rfl⟩ := hj.expl
  generalize s.W.length = l0 at *
  generalize s.bounds.length = l3 at *
  obtain ⟨W1, hW1, HBX⟩ := bx4 w #[.slice o l0 k, .slice o1 n1 k1, .slice o2 n2 k2, .slice o3 l3 k3, .slice o4 n4 k4] #[.int .i64 ta, .string tp, .string tq, .int .i64 tm, .slice tz te tk] #[.int .i64 ia, .string ip, .string iq, .int .i64 im, .slice iz ie ik] #[.int .i64 ja, .string jp, .string jq, .int .i64 jm, .slice jz je jk] 27 29 29 29
  have HW := Lib.hid hW1
  clear hW1 hp ht hi hj
  go_enter Try.func5, Try.ntmps5
  go_wp2_with fail
  refine (awake_any HP.out _).mono ?_
  rintro e U0 ⟨rfl, hb⟩
  rw [HW.out] at hb
  have H0 := Lib.hid hb
  clear hb HW
  have c0 := (HBX.out.at_ H0.out 0 rfl).cell
  rw [Nat.add_zero] at c0
  have c1 := (HBX.out.at_ H0.out 1 rfl).cell
  have c2 := (HBX.out.at_ H0.out 2 rfl).cell
  have c3 := (HBX.out.at_ H0.out 3 rfl).cell
  go_wp2_with fail
  refine (small_any s [t, i, j] _ _ _ _ _ (HS.out.below ((HBX.out.below H0.out).alloc (HBX.out.below H0.out).size _)) (rowY3 (newAt rfl _ _) (HtY.out.below ((HBX.out.below H0.out).alloc (HBX.out.below H0.out).size _)) (HiY.out.below ((HBX.out.below H0.out).alloc (HBX.out.below H0.out).size _)) (HjY.out.below ((HBX.out.below H0.out).alloc (HBX.out.below H0.out).size _))) (by simp) (Below.refl _ _)).mono ?_
  rintro e U1 ⟨⟨b, rfl, h20⟩, hb⟩
  have H1 := Lib.hid (stepB (H0.out.alloc H0.out.size _) hb (Nat.le_refl _))
  clear hb c0 c1 c2 c3
  have c0 := (HBX.out.at_ H1.out 0 rfl).cell
  rw [Nat.add_zero] at c0
  have c1 := (HBX.out.at_ H1.out 1 rfl).cell
  have c2 := (HBX.out.at_ H1.out 2 rfl).cell
  have c3 := (HBX.out.at_ H1.out 3 rfl).cell
  cases b with
  | false =>
    go_wp2
    go_ret
    exact ⟨rfl, HBX.out.below H1.out⟩
  | true =>
    go_wp2_with fail
    refine (methR_any s t _ _ w _ HS.out HtY.out (HBX.out.below H1.out)).mono ?_
    rintro e U2 ⟨ut, rfl, hmt, hb⟩
    have H2 := Lib.hid (stepB H1.out hb (Nat.le_refl _))
    have HMt := Lib.hid hmt
    clear hmt
    clear hb c0 c1 c2 c3
    have c0 := (HBX.out.at_ H2.out 0 rfl).cell
    rw [Nat.add_zero] at c0
    have c1 := (HBX.out.at_ H2.out 1 rfl).cell
    have c2 := (HBX.out.at_ H2.out 2 rfl).cell
    have c3 := (HBX.out.at_ H2.out 3 rfl).cell
    go_wp2_with fail
    refine (bads_any (methS s t) ut w _ HMt.out (HBX.out.below H2.out)).mono ?_
    rintro e U3 ⟨rfl, hb⟩
    have H3 := Lib.hid (stepB H2.out hb (Nat.le_refl _))
    clear hb c0 c1 c2 c3
    have c0 := (HBX.out.at_ H3.out 0 rfl).cell
    rw [Nat.add_zero] at c0
    have c1 := (HBX.out.at_ H3.out 1 rfl).cell
    have c2 := (HBX.out.at_ H3.out 2 rfl).cell
    have c3 := (HBX.out.at_ H3.out 3 rfl).cell
    generalize hBt : (methS s t).any badM = Bt
    have HBt := Lib.hid hBt
    clear hBt
    go_wp2_with fail
    refine (methR_any s i _ _ w _ HS.out HiY.out (HBX.out.below H3.out)).mono ?_
    rintro e U4 ⟨ui, rfl, hmi, hb⟩
    have H4 := Lib.hid (stepB H3.out hb (Nat.le_refl _))
    have HMi := Lib.hid hmi
    clear hmi
    clear hb c0 c1 c2 c3
    have c0 := (HBX.out.at_ H4.out 0 rfl).cell
    rw [Nat.add_zero] at c0
    have c1 := (HBX.out.at_ H4.out 1 rfl).cell
    have c2 := (HBX.out.at_ H4.out 2 rfl).cell
    have c3 := (HBX.out.at_ H4.out 3 rfl).cell
    go_wp2_with fail
    refine (bads_any (methS s i) ui w _ HMi.out (HBX.out.below H4.out)).mono ?_
    rintro e U5 ⟨rfl, hb⟩
    have H5 := Lib.hid (stepB H4.out hb (Nat.le_refl _))
    clear hb c0 c1 c2 c3
    have c0 := (HBX.out.at_ H5.out 0 rfl).cell
    rw [Nat.add_zero] at c0
    have c1 := (HBX.out.at_ H5.out 1 rfl).cell
    have c2 := (HBX.out.at_ H5.out 2 rfl).cell
    have c3 := (HBX.out.at_ H5.out 3 rfl).cell
    generalize hBi : (methS s i).any badM = Bi
    have HBi := Lib.hid hBi
    clear hBi
    go_wp2_with fail
    refine (methR_any s j _ _ w _ HS.out HjY.out (HBX.out.below H5.out)).mono ?_
    rintro e U6 ⟨uj, rfl, hmj, hb⟩
    have H6 := Lib.hid (stepB H5.out hb (Nat.le_refl _))
    have HMj := Lib.hid hmj
    clear hmj
    clear hb c0 c1 c2 c3
    have c0 := (HBX.out.at_ H6.out 0 rfl).cell
    rw [Nat.add_zero] at c0
    have c1 := (HBX.out.at_ H6.out 1 rfl).cell
    have c2 := (HBX.out.at_ H6.out 2 rfl).cell
    have c3 := (HBX.out.at_ H6.out 3 rfl).cell
    go_wp2_with fail
    refine (bads_any (methS s j) uj w _ HMj.out (HBX.out.below H6.out)).mono ?_
    rintro e U7 ⟨rfl, hb⟩
    have H7 := Lib.hid (stepB H6.out hb (Nat.le_refl _))
    clear hb c0 c1 c2 c3
    have c0 := (HBX.out.at_ H7.out 0 rfl).cell
    rw [Nat.add_zero] at c0
    have c1 := (HBX.out.at_ H7.out 1 rfl).cell
    have c2 := (HBX.out.at_ H7.out 2 rfl).cell
    have c3 := (HBX.out.at_ H7.out 3 rfl).cell
    generalize hBj : (methS s j).any badM = Bj
    have HBj := Lib.hid hBj
    clear hBj
    skip
    have up : ∀ (x : GY) (B : Bool), (methS s x).any badM = B → B = false → ∀ m ∈ methS s x, badM m = false := fun x B h1 h2 m hm => by
      rw [h2, List.any_eq_false] at h1
      simpa using h1 m hm
    cases Bt with
    | true =>
      clear up
      go_wp2
      go_ret
      exact ⟨rfl, HBX.out.below H7.out⟩
    | false =>
      cases Bi with
      | true =>
        clear up
        go_wp2
        go_ret
        exact ⟨rfl, HBX.out.below H7.out⟩
      | false =>
        cases Bj with
        | true =>
          clear up
          go_wp2
          go_ret
          exact ⟨rfl, HBX.out.below H7.out⟩
        | false =>
          have htr := Lib.hid (meets_trans (s := s) (t := t) (i := i) (j := j) (fun x hx m hm => by
            simp only [List.mem_cons, List.not_mem_nil, or_false] at hx
            rcases hx with rfl | rfl | rfl
            · exact up _ _ HBt.out rfl m hm
            · exact up _ _ HBi.out rfl m hm
            · exact up _ _ HBj.out rfl m hm))
          clear up
          go_wp2_with fail
          refine (HP.out.meets s t i _ _ _ w _ HS.out HtY.out HiY.out (HBX.out.below H7.out) HFS.out).mono ?_
          rintro e U8 ⟨rfl, hb⟩
          have H8 := Lib.hid (stepB H7.out hb (Nat.le_refl _))
          clear hb c0 c1 c2 c3
          have c0 := (HBX.out.at_ H8.out 0 rfl).cell
          rw [Nat.add_zero] at c0
          have c1 := (HBX.out.at_ H8.out 1 rfl).cell
          have c2 := (HBX.out.at_ H8.out 2 rfl).cell
          have c3 := (HBX.out.at_ H8.out 3 rfl).cell
          go_wp2_with fail
          refine (HP.out.meets s i j _ _ _ w _ HS.out HiY.out HjY.out (HBX.out.below H8.out) HFS.out).mono ?_
          rintro e U9 ⟨rfl, hb⟩
          have H9 := Lib.hid (stepB H8.out hb (Nat.le_refl _))
          clear hb c0 c1 c2 c3
          have c0 := (HBX.out.at_ H9.out 0 rfl).cell
          rw [Nat.add_zero] at c0
          have c1 := (HBX.out.at_ H9.out 1 rfl).cell
          have c2 := (HBX.out.at_ H9.out 2 rfl).cell
          have c3 := (HBX.out.at_ H9.out 3 rfl).cell
          go_wp2_with fail
          refine (HP.out.meets s t j _ _ _ w _ HS.out HtY.out HjY.out (HBX.out.below H9.out) HFS.out).mono ?_
          rintro e U10 ⟨rfl, hb⟩
          have H10 := Lib.hid (stepB H9.out hb (Nat.le_refl _))
          clear hb c0 c1 c2 c3
          have c0 := (HBX.out.at_ H10.out 0 rfl).cell
          rw [Nat.add_zero] at c0
          have c1 := (HBX.out.at_ H10.out 1 rfl).cell
          have c2 := (HBX.out.at_ H10.out 2 rfl).cell
          have c3 := (HBX.out.at_ H10.out 3 rfl).cell
          generalize meetsS s t i = X at *
          generalize meetsS s i j = Y at *
          generalize meetsS s t j = Z at *
          cases X with
          | false =>
            clear htr
            go_wp2
            go_ret
            exact ⟨rfl, HBX.out.below H10.out⟩
          | true =>
            cases Y with
            | false =>
              clear htr
              go_wp2
              go_ret
              exact ⟨rfl, HBX.out.below H10.out⟩
            | true =>
              obtain rfl : Z = true := htr.out rfl rfl
              go_wp2
              go_ret
              exact ⟨rfl, HBX.out.below H10.out⟩
open Go.ChangeShapes Go.WideShapes Go.ChangeAt Go.ChangeMaps
theorem laidOut : laidOutB Try.prog = true := by kernel_rfl
theorem own : ownKnob Try.prog.godebug = none := by kernel_rfl

theorem int_range {n : Int} (h : (Lit.int .i64 n).wf = true) : -9223372036854775808 ≤ n ∧ n ≤ 9223372036854775807 := by
  have h2 : IntKind.i64.min ≤ n ∧ n ≤ IntKind.i64.max := by
    unfold Lit.wf at h
    simpa only [Bool.and_eq_true, decide_eq_true_eq] using h
  rw [show IntKind.i64.min = -9223372036854775808 by decide, show IntKind.i64.max = 9223372036854775807 by decide] at h2
  exact h2

set_option maxRecDepth 100000 in
theorem lifted (os : Os) (started : os.Started) (H : Type) (enc : TypeId × Value → H) :
    ReturnsInHanded {} Try.checked os 5 .any (Rows.setsThroughSpec.pre6 enc Try.prog Try.f5 Rows.setsThroughRow.domain false) (Rows.setsThroughSpec.post enc Try.prog Try.f5 false true false false) := by
  refine returnsInHanded_of_change_sized (C := Try.checked) own started (by kernel_rfl) Try.func5
    (ChangeSpec.witness6 (enc := enc) (C := Try.checked) false ⟨#[], #[.agg #[.slice none 0 0, .slice none 0 0, .slice none 0 0, .slice none 0 0, .slice none 0 0], .agg #[.int .i64 0, .string .empty, .string .empty, .int .i64 0, .slice none 0 0], .agg #[.int .i64 0, .string .empty, .string .empty, .int .i64 0, .slice none 0 0], .agg #[.int .i64 0, .string .empty, .string .empty, .int .i64 0, .slice none 0 0]], []⟩ 8 (by kernel_rfl) (by kernel_rfl) (by kernel_rfl) (by kernel_rfl)) ?_
  intro W base args ds gs before hval0 hW hcnd hsz _
  have hval : ∀ (j : Nat) t v, Try.f5.params[j]? = some t → args[j]? = some v → Value.okWide Try.prog W .any base t v := hval0
  have hW' := hW
  obtain ⟨p, q, hA0, hV, rfl, hfz, hnd⟩ := hW
  have hA : DataW.TrodAll enc Try.prog W 0 (fun _ => true) true Try.f5.params.toList args.toList ds p := hA0
  rw [Try.params5] at hA hval
  obtain ⟨v0, vs0, d0, ds0, p0, q0, hargs, rfl, rfl, h0, r0⟩ := trodAll_cons hA
  obtain ⟨v1, vs1, d1, ds1, p1, q1, rfl, rfl, rfl, h1, r1⟩ := trodAll_cons r0
  obtain ⟨v2, vs2, d2, ds2, p2, q2, rfl, rfl, rfl, h2, r2⟩ := trodAll_cons r1
  obtain ⟨v3, vs3, d3, ds3, p3, q3, rfl, rfl, rfl, h3, r3⟩ := trodAll_cons r2
  obtain ⟨rfl, rfl, rfl⟩ := trodAll_nil r3
  obtain rfl : args = #[v0, v1, v2, v3] := by cases args; simp_all
  obtain ⟨rfl, rfl⟩ := trodVars_none hV
  have t0 := h0
  obtain ⟨fl0, k0⟩ := h0
  have lt0 : ∀ x ∈ p0, x.block < W.heap.size := fun x hx => by simpa using hW'.lt x (by simp [hx])
  obtain ⟨cc0, rfl, _⟩ := okWide_struct Try.underlying27 (hval 0 27 v0 rfl rfl)
  have kk0 : DataW.trod enc Try.prog W 0 (fun _ => true) true fl0 27 cc0.toList = some (d0, p0) := k0
  obtain ⟨cl0, rfl⟩ : ∃ cl : List Value, cc0 = cl.toArray := ⟨cc0.toList, by simp⟩
  obtain ⟨sc0, g0, s0⟩ := open_sc fl0 _ _ kk0
  have m0 := s0 reachBytes (fun k hk => by simpa using List.all_eq_true.1 hsz k (DataW.weights_mem_each (j := 0) rfl rfl k hk))
  rw [show cl0.toArray.toList = cl0 from rfl] at g0
  have t1 := h1
  obtain ⟨fl1, k1⟩ := h1
  have lt1 : ∀ x ∈ p1, x.block < W.heap.size := fun x hx => by simpa using hW'.lt x (by simp [hx])
  obtain ⟨cc1, rfl, _⟩ := okWide_struct Try.underlying29 (hval 1 29 v1 rfl rfl)
  have kk1 : DataW.trod enc Try.prog W 0 (fun _ => true) true fl1 29 cc1.toList = some (d1, p1) := k1
  obtain ⟨y1, g1, _⟩ := open_y fl1 _ _ kk1
  rw [show cc1.toList.toArray = cc1 by simp] at g1
  have t2 := h2
  obtain ⟨fl2, k2⟩ := h2
  have lt2 : ∀ x ∈ p2, x.block < W.heap.size := fun x hx => by simpa using hW'.lt x (by simp [hx])
  obtain ⟨cc2, rfl, _⟩ := okWide_struct Try.underlying29 (hval 2 29 v2 rfl rfl)
  have kk2 : DataW.trod enc Try.prog W 0 (fun _ => true) true fl2 29 cc2.toList = some (d2, p2) := k2
  obtain ⟨y2, g2, _⟩ := open_y fl2 _ _ kk2
  rw [show cc2.toList.toArray = cc2 by simp] at g2
  have t3 := h3
  obtain ⟨fl3, k3⟩ := h3
  have lt3 : ∀ x ∈ p3, x.block < W.heap.size := fun x hx => by simpa using hW'.lt x (by simp [hx])
  obtain ⟨cc3, rfl, _⟩ := okWide_struct Try.underlying29 (hval 3 29 v3 rfl rfl)
  have kk3 : DataW.trod enc Try.prog W 0 (fun _ => true) true fl3 29 cc3.toList = some (d3, p3) := k3
  obtain ⟨y3, g3, _⟩ := open_y fl3 _ _ kk3
  rw [show cc3.toList.toArray = cc3 by simp] at g3
  clear hA0 hval0
  simp only [List.append_nil] at hW'
  refine (walk prg sc0 cl0 y1 _ y2 _ y3 _ W g0 m0 g1 g2 g3).mono fun e W' ⟨he, hg⟩ => ?_
  subst he
  exact ⟨_, rfl, _, _, _, [], _, [], hW', (trodAll_cons_mk (shut_bool Try.underlying4 _) trodAll_mk0), (trodAll_cons_mk (Below.trod laidOut (by kernel_rfl) (of_decide_eq_true (by kernel_rfl)) t0 hg lt0) (trodAll_cons_mk (Below.trod laidOut (by kernel_rfl) (of_decide_eq_true (by kernel_rfl)) t1 hg lt1) (trodAll_cons_mk (Below.trod laidOut (by kernel_rfl) (of_decide_eq_true (by kernel_rfl)) t2 hg lt2) (trodAll_cons_mk (Below.trod laidOut (by kernel_rfl) (of_decide_eq_true (by kernel_rfl)) t3 hg lt3) trodAll_mk0)))), rfl, hg.frame _, fun h => by cases h⟩

theorem over : Rows.setsThroughRow.holds Try.pinned (OpenSpec.ofChange Rows.setsThroughSpec) :=
  OpenClaim.holds_of_wide 5 Try.f5 rfl rfl rfl rfl rfl rfl rfl ⟨rfl, rfl, rfl, rfl, rfl⟩ rfl rfl rfl rfl rfl (by kernel_rfl) Try.func5 (by kernel_rfl)
    (of_decide_eq_true (by kernel_rfl)) (by unfold Func.isWrapper; first | (rw [if_pos (by decide +kernel)]; kernel_rfl) | (rw [if_neg (by decide +kernel)]; exact ⟨rfl, rfl⟩))
    (fun os started H enc _ => lifted os started H enc)

/-- SetsThrough answers true. -/
theorem proved : Rows.SetsThroughSaid :=
  over

end Go.Proofs.Ytmnhilgifjaocaa.setsThrough
