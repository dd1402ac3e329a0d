/-
  SetsFits: whether any two types are alike, meet and fit is what the chapter says. No condition.
-/
import Derived.Test.YtmnhilgifjaocaaSpz
import Derived.Deep.RegionHeld3
import Derived.ProofKit
import Derived.OpenShut
import Derived.ChangeMaps5
namespace Go.Proofs.Ytmnhilgifjaocaa.setsFits
open Go.RowKit
open Go.Lib hiding intOf

set_option maxRecDepth 100000 in
set_option maxHeartbeats 16000000 in
theorem walk (hp : Prg) (s : SCP) (c : List Value) (a : GY) (va : Value) (b : GY) (vb : Value) (w : World) (hs : IsSc w s c) (hfs : FitS 140737488351232 s) (ha : IsY w a va) (hb : IsY w b vb) :
    Calls Try.prog 4 #[.agg c.toArray, va, vb] w fun e w' => e = .returned (.bool true) ∧ Below w.heap.size w w' := by
  have HP := Lib.hid hp
  have HS := Lib.hid hs
  have HFS := Lib.hid hfs
  clear hfs
  obtain ⟨o, o1, o2, o3, o4, k, n1, k1, n2, k2, k3, n4, k4, rfl, _⟩ := hs
  have HaY := Lib.hid ha
  obtain ⟨aa, am, ap, aq, az, ae, ak, rfl⟩ := ha.expl
  have HbY := Lib.hid hb
  obtain ⟨ba, bm, bp, bq, bz, be, bk, rfl⟩ := hb.expl
  generalize s.W.length = l0 at *
  generalize s.bounds.length = l3 at *
  obtain ⟨W1, hW1, HBX⟩ := bx3 w #[.slice o l0 k, .slice o1 n1 k1, .slice o2 n2 k2, .slice o3 l3 k3, .slice o4 n4 k4] #[.int .i64 aa, .string ap, .string aq, .int .i64 am, .slice az ae ak] #[.int .i64 ba, .string bp, .string bq, .int .i64 bm, .slice bz be bk] 27 29 29
  have HW := Lib.hid hW1
  clear hW1 hp ha hb
  go_enter Try.func4, Try.ntmps4
  go_wp2_with fail
  refine (awake_any HP.out _).mono ?_
  rintro e U0 ⟨rfl, hb⟩
  rw [HW.out] at hb
  have H0 := Lib.hid hb
  clear hb HW
  have c0 := (HBX.out.at_ H0.out 0 rfl).cell
  rw [Nat.add_zero] at c0
  have c1 := (HBX.out.at_ H0.out 1 rfl).cell
  have c2 := (HBX.out.at_ H0.out 2 rfl).cell
  go_wp2_with fail
  refine (small_any s [a, b] _ _ _ _ _ (HS.out.below ((HBX.out.below H0.out).alloc (HBX.out.below H0.out).size _)) (rowY2 (newAt rfl _ _) (HaY.out.below ((HBX.out.below H0.out).alloc (HBX.out.below H0.out).size _)) (HbY.out.below ((HBX.out.below H0.out).alloc (HBX.out.below H0.out).size _))) (by simp) (Below.refl _ _)).mono ?_
  rintro e U1 ⟨⟨b, rfl, h20⟩, hb⟩
  have H1 := Lib.hid (stepB (H0.out.alloc H0.out.size _) hb (Nat.le_refl _))
  clear hb c0 c1 c2
  have c0 := (HBX.out.at_ H1.out 0 rfl).cell
  rw [Nat.add_zero] at c0
  have c1 := (HBX.out.at_ H1.out 1 rfl).cell
  have c2 := (HBX.out.at_ H1.out 2 rfl).cell
  cases b with
  | false =>
    go_wp2
    go_ret
    exact ⟨rfl, HBX.out.below H1.out⟩
  | true =>
    go_wp2_with fail
    have x0 := c0 0
    have x1 := c0 1
    have x2 := c0 2
    have x3 := c0 3
    have x4 := c0 4
    have x5 := c1 0
    have x6 := c1 1
    have x7 := c1 2
    have x8 := c1 3
    have x9 := c1 4
    have x10 := c2 0
    have x11 := c2 1
    have x12 := c2 2
    have x13 := c2 3
    have x14 := c2 4
    simp only [List.getElem?_toArray, List.getElem?_cons_zero, List.getElem?_cons_succ] at x0 x1 x2 x3 x4 x5 x6 x7 x8 x9 x10 x11 x12 x13 x14
    have q0 := x0
    have q1 := x1
    have q2 := x2
    have q3 := x3
    have q4 := x4
    have q5 := x5
    have q6 := x6
    have q7 := x7
    have q8 := x8
    have q9 := x9
    have q10 := x10
    have q11 := x11
    have q12 := x12
    have q13 := x13
    have q14 := x14
    have KB := Lib.hid (Below.refl U1.heap.size U1)
    clear c0 c1 c2
    go_region_held3 (fun w' => w'.cell? ⟨w.heap.size, 0, none⟩ = some (.slice o l0 k) ∧ w'.cell? ⟨w.heap.size, 1, none⟩ = some (.slice o1 n1 k1) ∧ w'.cell? ⟨w.heap.size, 2, none⟩ = some (.slice o2 n2 k2) ∧ w'.cell? ⟨w.heap.size, 3, none⟩ = some (.slice o3 l3 k3) ∧ w'.cell? ⟨w.heap.size, 4, none⟩ = some (.slice o4 n4 k4) ∧ w'.cell? ⟨w.heap.size + 1, 0, none⟩ = some (.int .i64 aa) ∧ w'.cell? ⟨w.heap.size + 1, 1, none⟩ = some (.string ap) ∧ w'.cell? ⟨w.heap.size + 1, 2, none⟩ = some (.string aq) ∧ w'.cell? ⟨w.heap.size + 1, 3, none⟩ = some (.int .i64 am) ∧ w'.cell? ⟨w.heap.size + 1, 4, none⟩ = some (.slice az ae ak) ∧ w'.cell? ⟨w.heap.size + 1 + 1, 0, none⟩ = some (.int .i64 ba) ∧ w'.cell? ⟨w.heap.size + 1 + 1, 1, none⟩ = some (.string bp) ∧ w'.cell? ⟨w.heap.size + 1 + 1, 2, none⟩ = some (.string bq) ∧ w'.cell? ⟨w.heap.size + 1 + 1, 3, none⟩ = some (.int .i64 bm) ∧ w'.cell? ⟨w.heap.size + 1 + 1, 4, none⟩ = some (.slice bz be bk))
      (refine ⟨?_, ?_, ?_, ?_, ?_, ?_, ?_, ?_, ?_, ?_, ?_, ?_, ?_, ?_, ?_⟩ <;> (repeat (first | with_reducible assumption | with_reducible refine keepD ?_ | with_reducible refine keepA ?_)))
      ((first
        | (go_at_call 22; refine (HP.out.alike a b _ _ _ (HaY.out.below (by first | exact HBX.out.below (stepB H1.out KB.out (Nat.le_refl _)) | exact HBX.out.below (stepB H1.out KB.out.drew (Nat.le_refl _)))) (HbY.out.below (by first | exact HBX.out.below (stepB H1.out KB.out (Nat.le_refl _)) | exact HBX.out.below (stepB H1.out KB.out.drew (Nat.le_refl _))))).mono ?_; rintro e V ⟨rfl, hb⟩; have kb : Below U1.heap.size U1 V := (by first | with_reducible exact stepB KB.out hb (Nat.le_refl _) | with_reducible exact stepB KB.out.drew hb (Nat.le_refl _)); clear KB hb q0 q1 q2 q3 q4 q5 q6 q7 q8 q9 q10 q11 q12 q13 q14; have KB := Lib.hid kb; clear kb; have q0 := (KB.out.cell (World.block_lt_of_cell? _ _ x0)).trans x0; have q1 := (KB.out.cell (World.block_lt_of_cell? _ _ x1)).trans x1; have q2 := (KB.out.cell (World.block_lt_of_cell? _ _ x2)).trans x2; have q3 := (KB.out.cell (World.block_lt_of_cell? _ _ x3)).trans x3; have q4 := (KB.out.cell (World.block_lt_of_cell? _ _ x4)).trans x4; have q5 := (KB.out.cell (World.block_lt_of_cell? _ _ x5)).trans x5; have q6 := (KB.out.cell (World.block_lt_of_cell? _ _ x6)).trans x6; have q7 := (KB.out.cell (World.block_lt_of_cell? _ _ x7)).trans x7; have q8 := (KB.out.cell (World.block_lt_of_cell? _ _ x8)).trans x8; have q9 := (KB.out.cell (World.block_lt_of_cell? _ _ x9)).trans x9; have q10 := (KB.out.cell (World.block_lt_of_cell? _ _ x10)).trans x10; have q11 := (KB.out.cell (World.block_lt_of_cell? _ _ x11)).trans x11; have q12 := (KB.out.cell (World.block_lt_of_cell? _ _ x12)).trans x12; have q13 := (KB.out.cell (World.block_lt_of_cell? _ _ x13)).trans x13; have q14 := (KB.out.cell (World.block_lt_of_cell? _ _ x14)).trans x14)
        | (go_at_call 23; refine (alikeR_any _ a b _ _ _ (Nat.lt_succ_self _) (HaY.out.below (by first | exact HBX.out.below (stepB H1.out KB.out (Nat.le_refl _)) | exact HBX.out.below (stepB H1.out KB.out.drew (Nat.le_refl _)))) (HbY.out.below (by first | exact HBX.out.below (stepB H1.out KB.out (Nat.le_refl _)) | exact HBX.out.below (stepB H1.out KB.out.drew (Nat.le_refl _))))).mono ?_; rintro e V ⟨rfl, hb⟩; have kb : Below U1.heap.size U1 V := (by first | with_reducible exact stepB KB.out hb (Nat.le_refl _) | with_reducible exact stepB KB.out.drew hb (Nat.le_refl _)); clear KB hb q0 q1 q2 q3 q4 q5 q6 q7 q8 q9 q10 q11 q12 q13 q14; have KB := Lib.hid kb; clear kb; have q0 := (KB.out.cell (World.block_lt_of_cell? _ _ x0)).trans x0; have q1 := (KB.out.cell (World.block_lt_of_cell? _ _ x1)).trans x1; have q2 := (KB.out.cell (World.block_lt_of_cell? _ _ x2)).trans x2; have q3 := (KB.out.cell (World.block_lt_of_cell? _ _ x3)).trans x3; have q4 := (KB.out.cell (World.block_lt_of_cell? _ _ x4)).trans x4; have q5 := (KB.out.cell (World.block_lt_of_cell? _ _ x5)).trans x5; have q6 := (KB.out.cell (World.block_lt_of_cell? _ _ x6)).trans x6; have q7 := (KB.out.cell (World.block_lt_of_cell? _ _ x7)).trans x7; have q8 := (KB.out.cell (World.block_lt_of_cell? _ _ x8)).trans x8; have q9 := (KB.out.cell (World.block_lt_of_cell? _ _ x9)).trans x9; have q10 := (KB.out.cell (World.block_lt_of_cell? _ _ x10)).trans x10; have q11 := (KB.out.cell (World.block_lt_of_cell? _ _ x11)).trans x11; have q12 := (KB.out.cell (World.block_lt_of_cell? _ _ x12)).trans x12; have q13 := (KB.out.cell (World.block_lt_of_cell? _ _ x13)).trans x13; have q14 := (KB.out.cell (World.block_lt_of_cell? _ _ x14)).trans x14)
        | (go_at_call 24; refine (HP.out.meets s a b _ _ _ w _ HS.out HaY.out HbY.out (by first | exact HBX.out.below (stepB H1.out KB.out (Nat.le_refl _)) | exact HBX.out.below (stepB H1.out KB.out.drew (Nat.le_refl _))) HFS.out).mono ?_; rintro e V ⟨rfl, hb⟩; have kb : Below U1.heap.size U1 V := (by first | with_reducible exact stepB KB.out hb (Nat.le_refl _) | with_reducible exact stepB KB.out.drew hb (Nat.le_refl _)); clear KB hb q0 q1 q2 q3 q4 q5 q6 q7 q8 q9 q10 q11 q12 q13 q14; have KB := Lib.hid kb; clear kb; have q0 := (KB.out.cell (World.block_lt_of_cell? _ _ x0)).trans x0; have q1 := (KB.out.cell (World.block_lt_of_cell? _ _ x1)).trans x1; have q2 := (KB.out.cell (World.block_lt_of_cell? _ _ x2)).trans x2; have q3 := (KB.out.cell (World.block_lt_of_cell? _ _ x3)).trans x3; have q4 := (KB.out.cell (World.block_lt_of_cell? _ _ x4)).trans x4; have q5 := (KB.out.cell (World.block_lt_of_cell? _ _ x5)).trans x5; have q6 := (KB.out.cell (World.block_lt_of_cell? _ _ x6)).trans x6; have q7 := (KB.out.cell (World.block_lt_of_cell? _ _ x7)).trans x7; have q8 := (KB.out.cell (World.block_lt_of_cell? _ _ x8)).trans x8; have q9 := (KB.out.cell (World.block_lt_of_cell? _ _ x9)).trans x9; have q10 := (KB.out.cell (World.block_lt_of_cell? _ _ x10)).trans x10; have q11 := (KB.out.cell (World.block_lt_of_cell? _ _ x11)).trans x11; have q12 := (KB.out.cell (World.block_lt_of_cell? _ _ x12)).trans x12; have q13 := (KB.out.cell (World.block_lt_of_cell? _ _ x13)).trans x13; have q14 := (KB.out.cell (World.block_lt_of_cell? _ _ x14)).trans x14)
        | (go_at_call 25; refine (meetsR_any s a b _ _ _ w _ HS.out HaY.out HbY.out (by first | exact HBX.out.below (stepB H1.out KB.out (Nat.le_refl _)) | exact HBX.out.below (stepB H1.out KB.out.drew (Nat.le_refl _)))).mono ?_; rintro e V ⟨rfl, hb⟩; have kb : Below U1.heap.size U1 V := (by first | with_reducible exact stepB KB.out hb (Nat.le_refl _) | with_reducible exact stepB KB.out.drew hb (Nat.le_refl _)); clear KB hb q0 q1 q2 q3 q4 q5 q6 q7 q8 q9 q10 q11 q12 q13 q14; have KB := Lib.hid kb; clear kb; have q0 := (KB.out.cell (World.block_lt_of_cell? _ _ x0)).trans x0; have q1 := (KB.out.cell (World.block_lt_of_cell? _ _ x1)).trans x1; have q2 := (KB.out.cell (World.block_lt_of_cell? _ _ x2)).trans x2; have q3 := (KB.out.cell (World.block_lt_of_cell? _ _ x3)).trans x3; have q4 := (KB.out.cell (World.block_lt_of_cell? _ _ x4)).trans x4; have q5 := (KB.out.cell (World.block_lt_of_cell? _ _ x5)).trans x5; have q6 := (KB.out.cell (World.block_lt_of_cell? _ _ x6)).trans x6; have q7 := (KB.out.cell (World.block_lt_of_cell? _ _ x7)).trans x7; have q8 := (KB.out.cell (World.block_lt_of_cell? _ _ x8)).trans x8; have q9 := (KB.out.cell (World.block_lt_of_cell? _ _ x9)).trans x9; have q10 := (KB.out.cell (World.block_lt_of_cell? _ _ x10)).trans x10; have q11 := (KB.out.cell (World.block_lt_of_cell? _ _ x11)).trans x11; have q12 := (KB.out.cell (World.block_lt_of_cell? _ _ x12)).trans x12; have q13 := (KB.out.cell (World.block_lt_of_cell? _ _ x13)).trans x13; have q14 := (KB.out.cell (World.block_lt_of_cell? _ _ x14)).trans x14)
        | (go_at_call 26; refine (HP.out.assign s a b _ _ _ w _ HS.out HaY.out HbY.out (by first | exact HBX.out.below (stepB H1.out KB.out (Nat.le_refl _)) | exact HBX.out.below (stepB H1.out KB.out.drew (Nat.le_refl _))) HFS.out).mono ?_; rintro e V ⟨rfl, hb⟩; have kb : Below U1.heap.size U1 V := (by first | with_reducible exact stepB KB.out hb (Nat.le_refl _) | with_reducible exact stepB KB.out.drew hb (Nat.le_refl _)); clear KB hb q0 q1 q2 q3 q4 q5 q6 q7 q8 q9 q10 q11 q12 q13 q14; have KB := Lib.hid kb; clear kb; have q0 := (KB.out.cell (World.block_lt_of_cell? _ _ x0)).trans x0; have q1 := (KB.out.cell (World.block_lt_of_cell? _ _ x1)).trans x1; have q2 := (KB.out.cell (World.block_lt_of_cell? _ _ x2)).trans x2; have q3 := (KB.out.cell (World.block_lt_of_cell? _ _ x3)).trans x3; have q4 := (KB.out.cell (World.block_lt_of_cell? _ _ x4)).trans x4; have q5 := (KB.out.cell (World.block_lt_of_cell? _ _ x5)).trans x5; have q6 := (KB.out.cell (World.block_lt_of_cell? _ _ x6)).trans x6; have q7 := (KB.out.cell (World.block_lt_of_cell? _ _ x7)).trans x7; have q8 := (KB.out.cell (World.block_lt_of_cell? _ _ x8)).trans x8; have q9 := (KB.out.cell (World.block_lt_of_cell? _ _ x9)).trans x9; have q10 := (KB.out.cell (World.block_lt_of_cell? _ _ x10)).trans x10; have q11 := (KB.out.cell (World.block_lt_of_cell? _ _ x11)).trans x11; have q12 := (KB.out.cell (World.block_lt_of_cell? _ _ x12)).trans x12; have q13 := (KB.out.cell (World.block_lt_of_cell? _ _ x13)).trans x13; have q14 := (KB.out.cell (World.block_lt_of_cell? _ _ x14)).trans x14)
        | (go_at_call 27; refine (assignR_any s a b _ _ _ w _ HS.out HaY.out HbY.out (by first | exact HBX.out.below (stepB H1.out KB.out (Nat.le_refl _)) | exact HBX.out.below (stepB H1.out KB.out.drew (Nat.le_refl _)))).mono ?_; rintro e V ⟨rfl, hb⟩; have kb : Below U1.heap.size U1 V := (by first | with_reducible exact stepB KB.out hb (Nat.le_refl _) | with_reducible exact stepB KB.out.drew hb (Nat.le_refl _)); clear KB hb q0 q1 q2 q3 q4 q5 q6 q7 q8 q9 q10 q11 q12 q13 q14; have KB := Lib.hid kb; clear kb; have q0 := (KB.out.cell (World.block_lt_of_cell? _ _ x0)).trans x0; have q1 := (KB.out.cell (World.block_lt_of_cell? _ _ x1)).trans x1; have q2 := (KB.out.cell (World.block_lt_of_cell? _ _ x2)).trans x2; have q3 := (KB.out.cell (World.block_lt_of_cell? _ _ x3)).trans x3; have q4 := (KB.out.cell (World.block_lt_of_cell? _ _ x4)).trans x4; have q5 := (KB.out.cell (World.block_lt_of_cell? _ _ x5)).trans x5; have q6 := (KB.out.cell (World.block_lt_of_cell? _ _ x6)).trans x6; have q7 := (KB.out.cell (World.block_lt_of_cell? _ _ x7)).trans x7; have q8 := (KB.out.cell (World.block_lt_of_cell? _ _ x8)).trans x8; have q9 := (KB.out.cell (World.block_lt_of_cell? _ _ x9)).trans x9; have q10 := (KB.out.cell (World.block_lt_of_cell? _ _ x10)).trans x10; have q11 := (KB.out.cell (World.block_lt_of_cell? _ _ x11)).trans x11; have q12 := (KB.out.cell (World.block_lt_of_cell? _ _ x12)).trans x12; have q13 := (KB.out.cell (World.block_lt_of_cell? _ _ x13)).trans x13; have q14 := (KB.out.cell (World.block_lt_of_cell? _ _ x14)).trans x14)))
    go_wp2
    go_ret
    exact ⟨rfl, HBX.out.below (stepB H1.out KB.out (Nat.le_refl _))⟩
open Go.ChangeShapes Go.WideShapes Go.ChangeAt Go.ChangeMaps
theorem laidOut : laidOutB Try.prog = true := by kernel_rfl
theorem own : ownKnob Try.prog.godebug = none := by kernel_rfl

theorem int_range {n : Int} (h : (Lit.int .i64 n).wf = true) : -9223372036854775808 ≤ n ∧ n ≤ 9223372036854775807 := by
  have h2 : IntKind.i64.min ≤ n ∧ n ≤ IntKind.i64.max := by
    unfold Lit.wf at h
    simpa only [Bool.and_eq_true, decide_eq_true_eq] using h
  rw [show IntKind.i64.min = -9223372036854775808 by decide, show IntKind.i64.max = 9223372036854775807 by decide] at h2
  exact h2

set_option maxRecDepth 100000 in
theorem lifted (os : Os) (started : os.Started) (H : Type) (enc : TypeId × Value → H) :
    ReturnsInHanded {} Try.checked os 4 .any (Rows.setsFitsSpec.pre6 enc Try.prog Try.f4 Rows.setsFitsRow.domain false) (Rows.setsFitsSpec.post enc Try.prog Try.f4 false true false false) := by
  refine returnsInHanded_of_change_sized (C := Try.checked) own started (by kernel_rfl) Try.func4
    (ChangeSpec.witness6 (enc := enc) (C := Try.checked) false ⟨#[], #[.agg #[.slice none 0 0, .slice none 0 0, .slice none 0 0, .slice none 0 0, .slice none 0 0], .agg #[.int .i64 0, .string .empty, .string .empty, .int .i64 0, .slice none 0 0], .agg #[.int .i64 0, .string .empty, .string .empty, .int .i64 0, .slice none 0 0]], []⟩ 8 (by kernel_rfl) (by kernel_rfl) (by kernel_rfl) (by kernel_rfl)) ?_
  intro W base args ds gs before hval0 hW hcnd hsz _
  have hval : ∀ (j : Nat) t v, Try.f4.params[j]? = some t → args[j]? = some v → Value.okWide Try.prog W .any base t v := hval0
  have hW' := hW
  obtain ⟨p, q, hA0, hV, rfl, hfz, hnd⟩ := hW
  have hA : DataW.TrodAll enc Try.prog W 0 (fun _ => true) true Try.f4.params.toList args.toList ds p := hA0
  rw [Try.params4] at hA hval
  obtain ⟨v0, vs0, d0, ds0, p0, q0, hargs, rfl, rfl, h0, r0⟩ := trodAll_cons hA
  obtain ⟨v1, vs1, d1, ds1, p1, q1, rfl, rfl, rfl, h1, r1⟩ := trodAll_cons r0
  obtain ⟨v2, vs2, d2, ds2, p2, q2, rfl, rfl, rfl, h2, r2⟩ := trodAll_cons r1
  obtain ⟨rfl, rfl, rfl⟩ := trodAll_nil r2
  obtain rfl : args = #[v0, v1, v2] := by cases args; simp_all
  obtain ⟨rfl, rfl⟩ := trodVars_none hV
  have t0 := h0
  obtain ⟨fl0, k0⟩ := h0
  have lt0 : ∀ x ∈ p0, x.block < W.heap.size := fun x hx => by simpa using hW'.lt x (by simp [hx])
  obtain ⟨cc0, rfl, _⟩ := okWide_struct Try.underlying27 (hval 0 27 v0 rfl rfl)
  have kk0 : DataW.trod enc Try.prog W 0 (fun _ => true) true fl0 27 cc0.toList = some (d0, p0) := k0
  obtain ⟨cl0, rfl⟩ : ∃ cl : List Value, cc0 = cl.toArray := ⟨cc0.toList, by simp⟩
  obtain ⟨sc0, g0, s0⟩ := open_sc fl0 _ _ kk0
  have m0 := s0 reachBytes (fun k hk => by simpa using List.all_eq_true.1 hsz k (DataW.weights_mem_each (j := 0) rfl rfl k hk))
  rw [show cl0.toArray.toList = cl0 from rfl] at g0
  have t1 := h1
  obtain ⟨fl1, k1⟩ := h1
  have lt1 : ∀ x ∈ p1, x.block < W.heap.size := fun x hx => by simpa using hW'.lt x (by simp [hx])
  obtain ⟨cc1, rfl, _⟩ := okWide_struct Try.underlying29 (hval 1 29 v1 rfl rfl)
  have kk1 : DataW.trod enc Try.prog W 0 (fun _ => true) true fl1 29 cc1.toList = some (d1, p1) := k1
  obtain ⟨y1, g1, _⟩ := open_y fl1 _ _ kk1
  rw [show cc1.toList.toArray = cc1 by simp] at g1
  have t2 := h2
  obtain ⟨fl2, k2⟩ := h2
  have lt2 : ∀ x ∈ p2, x.block < W.heap.size := fun x hx => by simpa using hW'.lt x (by simp [hx])
  obtain ⟨cc2, rfl, _⟩ := okWide_struct Try.underlying29 (hval 2 29 v2 rfl rfl)
  have kk2 : DataW.trod enc Try.prog W 0 (fun _ => true) true fl2 29 cc2.toList = some (d2, p2) := k2
  obtain ⟨y2, g2, _⟩ := open_y fl2 _ _ kk2
  rw [show cc2.toList.toArray = cc2 by simp] at g2
  clear hA0 hval0
  simp only [List.append_nil] at hW'
  refine (walk prg sc0 cl0 y1 _ y2 _ W g0 m0 g1 g2).mono fun e W' ⟨he, hg⟩ => ?_
  subst he
  exact ⟨_, rfl, _, _, _, [], _, [], hW', (trodAll_cons_mk (shut_bool Try.underlying4 _) trodAll_mk0), (trodAll_cons_mk (Below.trod laidOut (by kernel_rfl) (of_decide_eq_true (by kernel_rfl)) t0 hg lt0) (trodAll_cons_mk (Below.trod laidOut (by kernel_rfl) (of_decide_eq_true (by kernel_rfl)) t1 hg lt1) (trodAll_cons_mk (Below.trod laidOut (by kernel_rfl) (of_decide_eq_true (by kernel_rfl)) t2 hg lt2) trodAll_mk0))), rfl, hg.frame _, fun h => by cases h⟩

theorem over : Rows.setsFitsRow.holds Try.pinned (OpenSpec.ofChange Rows.setsFitsSpec) :=
  OpenClaim.holds_of_wide 4 Try.f4 rfl rfl rfl rfl rfl rfl rfl ⟨rfl, rfl, rfl, rfl, rfl⟩ rfl rfl rfl rfl rfl (by kernel_rfl) Try.func4 (by kernel_rfl)
    (of_decide_eq_true (by kernel_rfl)) (by unfold Func.isWrapper; first | (rw [if_pos (by decide +kernel)]; kernel_rfl) | (rw [if_neg (by decide +kernel)]; exact ⟨rfl, rfl⟩))
    (fun os started H enc _ => lifted os started H enc)

/-- SetsFits answers true. -/
theorem proved : Rows.SetsFitsSaid :=
  over

end Go.Proofs.Ytmnhilgifjaocaa.setsFits
