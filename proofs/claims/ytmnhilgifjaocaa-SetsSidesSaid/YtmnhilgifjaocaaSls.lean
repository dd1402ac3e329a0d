/-
  SetsSides: which of two types is named first does not matter, each is alike to itself, the same are alike. No condition.
-/
import Derived.Test.YtmnhilgifjaocaaSpz
import Derived.ProofKit
import Derived.OpenShut
import Derived.ChangeMaps5
namespace Go.Proofs.Ytmnhilgifjaocaa.setsSides
open Go.RowKit
open Go.Lib hiding intOf

set_option maxRecDepth 100000 in
set_option maxHeartbeats 16000000 in
theorem walk (hp : Prg) (a : GY) (va : Value) (b : GY) (vb : Value) (w : World) (ha : IsY w a va) (hb : IsY w b vb) :
    Calls Try.prog 7 #[va, vb] w fun e w' => e = .returned (.bool true) ∧ Below w.heap.size w w' := by
  have HP := Lib.hid hp
  have HaY := Lib.hid ha
  obtain ⟨aa, am, ap, aq, az, ae, ak, rfl⟩ := ha.expl
  have HbY := Lib.hid hb
  obtain ⟨ba, bm, bp, bq, bz, be, bk, rfl⟩ := hb.expl
  obtain ⟨W1, hW1, HBX⟩ := bx2 w #[.int .i64 aa, .string ap, .string aq, .int .i64 am, .slice az ae ak] #[.int .i64 ba, .string bp, .string bq, .int .i64 bm, .slice bz be bk] 29 29
  have HW := Lib.hid hW1
  clear hW1 hp ha hb
  go_enter Try.func7, Try.ntmps7
  go_wp2_with fail
  refine (awake_any HP.out _).mono ?_
  rintro e U0 ⟨rfl, hb⟩
  rw [HW.out] at hb
  have H0 := Lib.hid hb
  clear hb HW
  have c0 := (HBX.out.at_ H0.out 0 rfl).cell
  rw [Nat.add_zero] at c0
  have c1 := (HBX.out.at_ H0.out 1 rfl).cell
  go_wp2_with fail
  refine (parts_any _ a _ 0 _ (Nat.lt_succ_self _) (HaY.out.below (HBX.out.below H0.out)) (by decide) (by decide)).mono ?_
  rintro e U1 ⟨⟨q1, rfl, hq1, hq2⟩, hb⟩
  have H1 := Lib.hid (stepB H0.out hb (Nat.le_refl _))
  clear hb c0 c1
  have c0 := (HBX.out.at_ H1.out 0 rfl).cell
  rw [Nat.add_zero] at c0
  have c1 := (HBX.out.at_ H1.out 1 rfl).cell
  by_cases h1 : q1 > 60
  · go_wp2
    go_ret
    exact ⟨rfl, HBX.out.below H1.out⟩
  go_wp2_with fail
  refine (parts_any _ b _ 0 _ (Nat.lt_succ_self _) (HbY.out.below (HBX.out.below H1.out)) (by decide) (by decide)).mono ?_
  rintro e U2 ⟨⟨q2, rfl, hq3, hq4⟩, hb⟩
  have H2 := Lib.hid (stepB H1.out hb (Nat.le_refl _))
  clear hb c0 c1
  have c0 := (HBX.out.at_ H2.out 0 rfl).cell
  rw [Nat.add_zero] at c0
  have c1 := (HBX.out.at_ H2.out 1 rfl).cell
  by_cases h2 : q2 > 60
  · go_wp2
    go_ret
    exact ⟨rfl, HBX.out.below H2.out⟩
  go_wp2_with fail
  refine (HP.out.alike a b _ _ _ (HaY.out.below (HBX.out.below H2.out)) (HbY.out.below (HBX.out.below H2.out))).mono ?_
  rintro e U3 ⟨rfl, hb⟩
  have H3 := Lib.hid (stepB H2.out hb (Nat.le_refl _))
  clear hb c0 c1
  have c0 := (HBX.out.at_ H3.out 0 rfl).cell
  rw [Nat.add_zero] at c0
  have c1 := (HBX.out.at_ H3.out 1 rfl).cell
  go_wp2_with fail
  refine (HP.out.alike b a _ _ _ (HbY.out.below (HBX.out.below H3.out)) (HaY.out.below (HBX.out.below H3.out))).mono ?_
  rintro e U4 ⟨rfl, hb⟩
  have H4 := Lib.hid (stepB H3.out hb (Nat.le_refl _))
  clear hb c0 c1
  have c0 := (HBX.out.at_ H4.out 0 rfl).cell
  rw [Nat.add_zero] at c0
  have c1 := (HBX.out.at_ H4.out 1 rfl).cell
  go_wp2_with fail
  refine (HP.out.alike a a _ _ _ (HaY.out.below (HBX.out.below H4.out)) (HaY.out.below (HBX.out.below H4.out))).mono ?_
  rintro e U5 ⟨rfl, hb⟩
  have H5 := Lib.hid (stepB H4.out hb (Nat.le_refl _))
  clear hb c0 c1
  have c0 := (HBX.out.at_ H5.out 0 rfl).cell
  rw [Nat.add_zero] at c0
  have c1 := (HBX.out.at_ H5.out 1 rfl).cell
  go_wp2_with fail
  refine (sameR_any _ a b _ _ _ (Nat.lt_succ_self _) (HaY.out.below (HBX.out.below H5.out)) (HbY.out.below (HBX.out.below H5.out))).mono ?_
  rintro e U6 ⟨rfl, hb⟩
  have H6 := Lib.hid (stepB H5.out hb (Nat.le_refl _))
  clear hb c0 c1
  have c0 := (HBX.out.at_ H6.out 0 rfl).cell
  rw [Nat.add_zero] at c0
  have c1 := (HBX.out.at_ H6.out 1 rfl).cell
  rw [alike_symm b a, alike_refl a]
  have hsm := alike_same a b
  generalize alikeY a b = A at *
  generalize sameY a b = B at *
  cases B with
  | true =>
    obtain rfl : A = true := hsm rfl
    clear hsm
    go_wp2
    go_ret
    exact ⟨rfl, HBX.out.below H6.out⟩
  | false =>
    clear hsm
    cases A with
    | true =>
      go_wp2
      go_ret
      exact ⟨rfl, HBX.out.below H6.out⟩
    | false =>
      go_wp2
      go_ret
      exact ⟨rfl, HBX.out.below H6.out⟩
open Go.ChangeShapes Go.WideShapes Go.ChangeAt Go.ChangeMaps
theorem laidOut : laidOutB Try.prog = true := by kernel_rfl
theorem own : ownKnob Try.prog.godebug = none := by kernel_rfl

theorem int_range {n : Int} (h : (Lit.int .i64 n).wf = true) : -9223372036854775808 ≤ n ∧ n ≤ 9223372036854775807 := by
  have h2 : IntKind.i64.min ≤ n ∧ n ≤ IntKind.i64.max := by
    unfold Lit.wf at h
    simpa only [Bool.and_eq_true, decide_eq_true_eq] using h
  rw [show IntKind.i64.min = -9223372036854775808 by decide, show IntKind.i64.max = 9223372036854775807 by decide] at h2
  exact h2

set_option maxRecDepth 100000 in
theorem lifted (os : Os) (started : os.Started) (H : Type) (enc : TypeId × Value → H) :
    ReturnsInHanded {} Try.checked os 7 .any (Rows.setsSidesSpec.pre6 enc Try.prog Try.f7 Rows.setsSidesRow.domain false) (Rows.setsSidesSpec.post enc Try.prog Try.f7 false true false false) := by
  refine returnsInHanded_of_change_sized (C := Try.checked) own started (by kernel_rfl) Try.func7
    (ChangeSpec.witness6 (enc := enc) (C := Try.checked) false ⟨#[], #[.agg #[.int .i64 0, .string .empty, .string .empty, .int .i64 0, .slice none 0 0], .agg #[.int .i64 0, .string .empty, .string .empty, .int .i64 0, .slice none 0 0]], []⟩ 8 (by kernel_rfl) (by kernel_rfl) (by kernel_rfl) (by kernel_rfl)) ?_
  intro W base args ds gs before hval0 hW hcnd hsz _
  have hval : ∀ (j : Nat) t v, Try.f7.params[j]? = some t → args[j]? = some v → Value.okWide Try.prog W .any base t v := hval0
  have hW' := hW
  obtain ⟨p, q, hA0, hV, rfl, hfz, hnd⟩ := hW
  have hA : DataW.TrodAll enc Try.prog W 0 (fun _ => true) true Try.f7.params.toList args.toList ds p := hA0
  rw [Try.params7] at hA hval
  obtain ⟨v0, vs0, d0, ds0, p0, q0, hargs, rfl, rfl, h0, r0⟩ := trodAll_cons hA
  obtain ⟨v1, vs1, d1, ds1, p1, q1, rfl, rfl, rfl, h1, r1⟩ := trodAll_cons r0
  obtain ⟨rfl, rfl, rfl⟩ := trodAll_nil r1
  obtain rfl : args = #[v0, v1] := by cases args; simp_all
  obtain ⟨rfl, rfl⟩ := trodVars_none hV
  have t0 := h0
  obtain ⟨fl0, k0⟩ := h0
  have lt0 : ∀ x ∈ p0, x.block < W.heap.size := fun x hx => by simpa using hW'.lt x (by simp [hx])
  obtain ⟨cc0, rfl, _⟩ := okWide_struct Try.underlying29 (hval 0 29 v0 rfl rfl)
  have kk0 : DataW.trod enc Try.prog W 0 (fun _ => true) true fl0 29 cc0.toList = some (d0, p0) := k0
  obtain ⟨y0, g0, _⟩ := open_y fl0 _ _ kk0
  rw [show cc0.toList.toArray = cc0 by simp] at g0
  have t1 := h1
  obtain ⟨fl1, k1⟩ := h1
  have lt1 : ∀ x ∈ p1, x.block < W.heap.size := fun x hx => by simpa using hW'.lt x (by simp [hx])
  obtain ⟨cc1, rfl, _⟩ := okWide_struct Try.underlying29 (hval 1 29 v1 rfl rfl)
  have kk1 : DataW.trod enc Try.prog W 0 (fun _ => true) true fl1 29 cc1.toList = some (d1, p1) := k1
  obtain ⟨y1, g1, _⟩ := open_y fl1 _ _ kk1
  rw [show cc1.toList.toArray = cc1 by simp] at g1
  clear hA0 hval0
  simp only [List.append_nil] at hW'
  refine (walk prg y0 _ y1 _ W g0 g1).mono fun e W' ⟨he, hg⟩ => ?_
  subst he
  exact ⟨_, rfl, _, _, _, [], _, [], hW', (trodAll_cons_mk (shut_bool Try.underlying4 _) trodAll_mk0), (trodAll_cons_mk (Below.trod laidOut (by kernel_rfl) (of_decide_eq_true (by kernel_rfl)) t0 hg lt0) (trodAll_cons_mk (Below.trod laidOut (by kernel_rfl) (of_decide_eq_true (by kernel_rfl)) t1 hg lt1) trodAll_mk0)), rfl, hg.frame _, fun h => by cases h⟩

theorem over : Rows.setsSidesRow.holds Try.pinned (OpenSpec.ofChange Rows.setsSidesSpec) :=
  OpenClaim.holds_of_wide 7 Try.f7 rfl rfl rfl rfl rfl rfl rfl ⟨rfl, rfl, rfl, rfl, rfl⟩ rfl rfl rfl rfl rfl (by kernel_rfl) Try.func7 (by kernel_rfl)
    (of_decide_eq_true (by kernel_rfl)) (by unfold Func.isWrapper; first | (rw [if_pos (by decide +kernel)]; kernel_rfl) | (rw [if_neg (by decide +kernel)]; exact ⟨rfl, rfl⟩))
    (fun os started H enc _ => lifted os started H enc)

/-- SetsSides answers true. -/
theorem proved : Rows.SetsSidesSaid :=
  over

end Go.Proofs.Ytmnhilgifjaocaa.setsSides
