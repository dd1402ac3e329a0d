/-
  What the program's calls answer, as a whole; the statements' head, if they do. No condition.
-/
import Derived.Test.YtmnhilgifjaocaaSwb
import Derived.Deep.RegionHeld3
import Derived.Deep.DeepCutAuto
namespace Go.Proofs.Ytmnhilgifjaocaa
open Go.RowKit
open Go.Lib hiding intOf

/-- The program answers what the chapter says. -/
structure Prg : Prop where
  find : ∀ (s : SCP) (t : GY) (c : List Value) (v : Value) (w0 w : World), IsSc w0 s c → IsY w0 t v → Below w0.heap.size w0 w → FitS 140737488351232 s →
    Calls Try.prog 11 #[.agg c.toArray, v] w fun e w' => ∃ d, e = .returned (.tuple #[.agg d.toArray, .bool (findS s.W t).isSome]) ∧ IsTd w' ((findS s.W t).getD zeroD) d ∧ Below w.heap.size w w'
  iface : ∀ (s : SCP) (t : GY) (c : List Value) (v : Value) (w0 w : World), IsSc w0 s c → IsY w0 t v → Below w0.heap.size w0 w →
    Calls Try.prog 20 #[.agg c.toArray, v] w fun e w' => e = .returned (.bool (ifaceS s.W t)) ∧ Below w.heap.size w w'
  meth : ∀ (s : SCP) (t : GY) (c : List Value) (v : Value) (w0 w : World), IsSc w0 s c → IsY w0 t v → Below w0.heap.size w0 w → FitS 140737488351232 s →
    Calls Try.prog 18 #[.agg c.toArray, v] w fun e w' => ∃ u, e = .returned u ∧ IsMs w' (methS s t) u ∧ Below w.heap.size w w'
  field : ∀ (s : SCP) (t : GY) (m : ByteArray) (c : List Value) (v : Value) (w0 w : World), IsSc w0 s c → IsY w0 t v → Below w0.heap.size w0 w → FitS 140737488351232 s →
    Calls Try.prog 13 #[.agg c.toArray, v, .string m] w fun e w' => ∃ u, e = .returned (.tuple #[u, .bool (fieldS s.W t m).isSome]) ∧ IsY w' ((fieldS s.W t m).getD zeroY) u ∧ Below w.heap.size w w'
  alike : ∀ (x y : GY) (v u : Value) (w : World), IsY w x v → IsY w y u →
    Calls Try.prog 22 #[v, u] w fun e w' => e = .returned (.bool (alikeY x y)) ∧ Below w.heap.size w w'
  meets : ∀ (s : SCP) (t i : GY) (c : List Value) (v u : Value) (w0 w : World), IsSc w0 s c → IsY w0 t v → IsY w0 i u → Below w0.heap.size w0 w → FitS 140737488351232 s →
    Calls Try.prog 24 #[.agg c.toArray, v, u] w fun e w' => e = .returned (.bool (meetsS s t i)) ∧ Below w.heap.size w w'
  assign : ∀ (s : SCP) (t i : GY) (c : List Value) (v u : Value) (w0 w : World), IsSc w0 s c → IsY w0 t v → IsY w0 i u → Below w0.heap.size w0 w → FitS 140737488351232 s →
    Calls Try.prog 26 #[.agg c.toArray, v, u] w fun e w' => e = .returned (.bool (assignS s t i)) ∧ Below w.heap.size w w'

theorem fitM : FitM 140737488351232 mthM := by
  refine ⟨by decide, ?_, by decide, ?_⟩
  · show FitYs _ [leafY 1 noB noB]
    unfold leafY FitYs FitY FitYs
    exact ⟨⟨by decide, by decide, by decide, trivial⟩, trivial⟩
  · show FitY _ (leafY 2 noB noB)
    unfold leafY FitY FitYs
    exact ⟨by decide, by decide, by decide, trivial⟩
theorem fitA : FitS 140737488351232 scpA := by
  unfold scpA FitS FitI
  refine ⟨fun p hp d hd => ?_, ?_⟩
  · obtain rfl := List.mem_singleton.1 hp
    simp only [List.mem_cons, List.not_mem_nil, or_false] at hd
    rcases hd with rfl | rfl | rfl
    · refine ⟨by decide, fun f hf => ?_, by decide, fun m hm => ?_, by decide⟩
      · obtain rfl := List.mem_singleton.1 hf
        refine ⟨by decide, ?_⟩
        unfold leafY FitY FitYs
        exact ⟨by decide, by decide, by decide, trivial⟩
      · obtain rfl := List.mem_singleton.1 hm
        exact fitM
    · refine ⟨by decide, fun f hf => (nomatch hf), by decide, fun m hm => ?_, by decide⟩
      obtain rfl := List.mem_singleton.1 hm
      exact fitM
    · refine ⟨by decide, fun f hf => (nomatch hf), by decide, fun m hm => ?_, by decide⟩
      obtain rfl := List.mem_singleton.1 hm
      refine ⟨by decide, ?_, by decide, ?_⟩
      · show FitYs _ []
        unfold FitYs; trivial
      · show FitY _ (leafY 7 noB noB)
        unfold leafY FitY FitYs
        exact ⟨by decide, by decide, by decide, trivial⟩
  · show FitYs _ [leafY 4 (b1 97) (b1 73)]
    unfold leafY FitYs FitY FitYs
    exact ⟨⟨by decide, by decide, by decide, trivial⟩, trivial⟩
theorem reg7_of {U wx : World} {g6 c6 : Nat} {o6 : Option Addr} (b : Blk wx g6 29 #[.int .i64 1, .string noB, .string noB, .int .i64 0, .slice o6 0 c6]) (h : Below U.heap.size U wx) :
    ∃ (g : Nat) (o : Option Addr) (c : Nat), Value.pointer (some ⟨g6, 0, none⟩) = .pointer (some ⟨g, 0, none⟩) ∧ Value.bool true = .bool true ∧ Hid (Blk wx g 29 #[.int .i64 1, .string noB, .string noB, .int .i64 0, .slice o 0 c]) ∧ Hid (Below U.heap.size U wx) := ⟨g6, o6, c6, rfl, rfl, b, h⟩
set_option maxRecDepth 100000 in
set_option maxHeartbeats 16000000 in
theorem awake_any (HP0 : Prg) (w : World) : Calls Try.prog 9 #[] w fun e w' => e = .returned (.bool true) ∧ Below w.heap.size w w' := by
  have HP := Lib.hid HP0
  clear HP0
  go_enter Try.func9, Try.ntmps9
  go_wp2_with fail
  refine (world_any _).mono ?_
  rintro e V ⟨c, rfl, hs, hb⟩
  have hs2 := hs
  obtain ⟨o0, o1, o2, o3, o4, k0, n1, k1, n2, k2, k3, n4, k4, rfl, _⟩ := hs2
  obtain ⟨W1, hW1⟩ : ∃ W1, V.alloc (.cells #[.slice o0 scpA.W.length k0, .slice o1 n1 k1, .slice o2 n2 k2, .slice o3 scpA.bounds.length k3, .slice o4 n4 k4] 27) = W1 := ⟨_, rfl⟩
  have hv1 : Below V.heap.size V W1 := by rw [← hW1]; exact belowA (Below.refl _ _)
  have hg : Blk W1 V.heap.size 27 #[.slice o0 scpA.W.length k0, .slice o1 n1 k1, .slice o2 n2 k2, .slice o3 scpA.bounds.length k3, .slice o4 n4 k4] := by rw [← hW1]; exact newAt rfl _ _
  have HS := Lib.hid (hs.below hv1)
  have HG := Lib.hid hg
  have H0 := Lib.hid (stepB hb hv1 (Nat.le_refl _))
  have HE := Lib.hid hW1
  have HW1 := Lib.hid (Below.refl W1.heap.size W1)
  clear hs hb hv1 hW1
  have c1 := hg.cell
  generalize scpA.W.length = l0 at *
  generalize scpA.bounds.length = l3 at *
  clear hg
  go_wp2_with fail
  rw [HE.out]
  have x0 := HG.out.cell 0
  have x1 := HG.out.cell 1
  have x2 := HG.out.cell 2
  have x3 := HG.out.cell 3
  have x4 := HG.out.cell 4
  simp only [List.getElem?_toArray, List.getElem?_cons_zero, List.getElem?_cons_succ] at x0 x1 x2 x3 x4
  have q0 := x0
  have q1 := x1
  have q2 := x2
  have q3 := x3
  have q4 := x4
  have KB := HW1
  clear HW1 c1
  go_region_held3 (fun w' => w'.cell? ⟨V.heap.size, 0, none⟩ = some (.slice o0 l0 k0) ∧ w'.cell? ⟨V.heap.size, 1, none⟩ = some (.slice o1 n1 k1) ∧ w'.cell? ⟨V.heap.size, 2, none⟩ = some (.slice o2 n2 k2) ∧ w'.cell? ⟨V.heap.size, 3, none⟩ = some (.slice o3 l3 k3) ∧ w'.cell? ⟨V.heap.size, 4, none⟩ = some (.slice o4 n4 k4))
    (refine ⟨?_, ?_, ?_, ?_, ?_⟩ <;> (repeat (first | with_reducible assumption | with_reducible refine keepD ?_ | with_reducible refine keepA ?_ | (with_reducible refine far1 ?_ ?_; (rotate_left; (simp only; omega))))))
    ((first
      | (go_at_call 32; with_reducible refine (named_call _ _ _).mono ?_; rintro e U ⟨rfl, hb⟩; have kb : Below W1.heap.size W1 U := (by first | with_reducible exact stepB KB.out hb (Nat.le_refl _) | with_reducible exact stepB KB.out.drew hb (Nat.le_refl _)); clear KB hb; (try clear q0 q1 q2 q3 q4); have KB := Lib.hid kb; clear kb; have q0 := (KB.out.cell (World.block_lt_of_cell? _ _ x0)).trans x0; have q1 := (KB.out.cell (World.block_lt_of_cell? _ _ x1)).trans x1; have q2 := (KB.out.cell (World.block_lt_of_cell? _ _ x2)).trans x2; have q3 := (KB.out.cell (World.block_lt_of_cell? _ _ x3)).trans x3; have q4 := (KB.out.cell (World.block_lt_of_cell? _ _ x4)).trans x4)
      | (go_at_call 24; refine (HP.out.meets scpA (typ 84) (typ 73) _ _ _ W1 _ HS.out (leaf_is W1 4 _ _) (leaf_is W1 4 _ _) (by first | exact KB.out | exact KB.out.drew) fitA).mono ?_; rintro e U ⟨rfl, hb⟩; rw [say1]; have kb : Below W1.heap.size W1 U := (by first | with_reducible exact stepB KB.out hb (Nat.le_refl _) | with_reducible exact stepB KB.out.drew hb (Nat.le_refl _)); clear KB hb; (try clear q0 q1 q2 q3 q4); have KB := Lib.hid kb; clear kb; have q0 := (KB.out.cell (World.block_lt_of_cell? _ _ x0)).trans x0; have q1 := (KB.out.cell (World.block_lt_of_cell? _ _ x1)).trans x1; have q2 := (KB.out.cell (World.block_lt_of_cell? _ _ x2)).trans x2; have q3 := (KB.out.cell (World.block_lt_of_cell? _ _ x3)).trans x3; have q4 := (KB.out.cell (World.block_lt_of_cell? _ _ x4)).trans x4)))
  go_wp2_with fail
  go_region_held3 (fun w' => w'.cell? ⟨V.heap.size, 0, none⟩ = some (.slice o0 l0 k0) ∧ w'.cell? ⟨V.heap.size, 1, none⟩ = some (.slice o1 n1 k1) ∧ w'.cell? ⟨V.heap.size, 2, none⟩ = some (.slice o2 n2 k2) ∧ w'.cell? ⟨V.heap.size, 3, none⟩ = some (.slice o3 l3 k3) ∧ w'.cell? ⟨V.heap.size, 4, none⟩ = some (.slice o4 n4 k4))
    (refine ⟨?_, ?_, ?_, ?_, ?_⟩ <;> (repeat (first | with_reducible assumption | with_reducible refine keepD ?_ | with_reducible refine keepA ?_ | (with_reducible refine far1 ?_ ?_; (rotate_left; (simp only; omega))))))
    ((first
      | (go_at_call 32; with_reducible refine (named_call _ _ _).mono ?_; rintro e U ⟨rfl, hb⟩; have kb : Below W1.heap.size W1 U := (by first | with_reducible exact stepB KB.out hb (Nat.le_refl _) | with_reducible exact stepB KB.out.drew hb (Nat.le_refl _)); clear KB hb; (try clear q0 q1 q2 q3 q4); have KB := Lib.hid kb; clear kb; have q0 := (KB.out.cell (World.block_lt_of_cell? _ _ x0)).trans x0; have q1 := (KB.out.cell (World.block_lt_of_cell? _ _ x1)).trans x1; have q2 := (KB.out.cell (World.block_lt_of_cell? _ _ x2)).trans x2; have q3 := (KB.out.cell (World.block_lt_of_cell? _ _ x3)).trans x3; have q4 := (KB.out.cell (World.block_lt_of_cell? _ _ x4)).trans x4)
      | (go_at_call 24; refine (HP.out.meets scpA (typ 84) (typ 74) _ _ _ W1 _ HS.out (leaf_is W1 4 _ _) (leaf_is W1 4 _ _) (by first | exact KB.out | exact KB.out.drew) fitA).mono ?_; rintro e U ⟨rfl, hb⟩; rw [say2]; have kb : Below W1.heap.size W1 U := (by first | with_reducible exact stepB KB.out hb (Nat.le_refl _) | with_reducible exact stepB KB.out.drew hb (Nat.le_refl _)); clear KB hb; (try clear q0 q1 q2 q3 q4); have KB := Lib.hid kb; clear kb; have q0 := (KB.out.cell (World.block_lt_of_cell? _ _ x0)).trans x0; have q1 := (KB.out.cell (World.block_lt_of_cell? _ _ x1)).trans x1; have q2 := (KB.out.cell (World.block_lt_of_cell? _ _ x2)).trans x2; have q3 := (KB.out.cell (World.block_lt_of_cell? _ _ x3)).trans x3; have q4 := (KB.out.cell (World.block_lt_of_cell? _ _ x4)).trans x4)))
  go_wp2_with fail
  go_region_held3 (fun w' => w'.cell? ⟨V.heap.size, 0, none⟩ = some (.slice o0 l0 k0) ∧ w'.cell? ⟨V.heap.size, 1, none⟩ = some (.slice o1 n1 k1) ∧ w'.cell? ⟨V.heap.size, 2, none⟩ = some (.slice o2 n2 k2) ∧ w'.cell? ⟨V.heap.size, 3, none⟩ = some (.slice o3 l3 k3) ∧ w'.cell? ⟨V.heap.size, 4, none⟩ = some (.slice o4 n4 k4))
    (refine ⟨?_, ?_, ?_, ?_, ?_⟩ <;> (repeat (first | with_reducible assumption | with_reducible refine keepD ?_ | with_reducible refine keepA ?_ | (with_reducible refine far1 ?_ ?_; (rotate_left; (simp only; omega))))))
    ((first
      | (go_at_call 32; with_reducible refine (named_call _ _ _).mono ?_; rintro e U ⟨rfl, hb⟩; have kb : Below W1.heap.size W1 U := (by first | with_reducible exact stepB KB.out hb (Nat.le_refl _) | with_reducible exact stepB KB.out.drew hb (Nat.le_refl _)); clear KB hb; (try clear q0 q1 q2 q3 q4); have KB := Lib.hid kb; clear kb; have q0 := (KB.out.cell (World.block_lt_of_cell? _ _ x0)).trans x0; have q1 := (KB.out.cell (World.block_lt_of_cell? _ _ x1)).trans x1; have q2 := (KB.out.cell (World.block_lt_of_cell? _ _ x2)).trans x2; have q3 := (KB.out.cell (World.block_lt_of_cell? _ _ x3)).trans x3; have q4 := (KB.out.cell (World.block_lt_of_cell? _ _ x4)).trans x4)
      | (go_at_call 26; refine (HP.out.assign scpA (typ 84) (typ 73) _ _ _ W1 _ HS.out (leaf_is W1 4 _ _) (leaf_is W1 4 _ _) (by first | exact KB.out | exact KB.out.drew) fitA).mono ?_; rintro e U ⟨rfl, hb⟩; rw [say3]; have kb : Below W1.heap.size W1 U := (by first | with_reducible exact stepB KB.out hb (Nat.le_refl _) | with_reducible exact stepB KB.out.drew hb (Nat.le_refl _)); clear KB hb; (try clear q0 q1 q2 q3 q4); have KB := Lib.hid kb; clear kb; have q0 := (KB.out.cell (World.block_lt_of_cell? _ _ x0)).trans x0; have q1 := (KB.out.cell (World.block_lt_of_cell? _ _ x1)).trans x1; have q2 := (KB.out.cell (World.block_lt_of_cell? _ _ x2)).trans x2; have q3 := (KB.out.cell (World.block_lt_of_cell? _ _ x3)).trans x3; have q4 := (KB.out.cell (World.block_lt_of_cell? _ _ x4)).trans x4)))
  go_wp2_with fail
  go_region_held3 (fun w' => w'.cell? ⟨V.heap.size, 0, none⟩ = some (.slice o0 l0 k0) ∧ w'.cell? ⟨V.heap.size, 1, none⟩ = some (.slice o1 n1 k1) ∧ w'.cell? ⟨V.heap.size, 2, none⟩ = some (.slice o2 n2 k2) ∧ w'.cell? ⟨V.heap.size, 3, none⟩ = some (.slice o3 l3 k3) ∧ w'.cell? ⟨V.heap.size, 4, none⟩ = some (.slice o4 n4 k4))
    (refine ⟨?_, ?_, ?_, ?_, ?_⟩ <;> (repeat (first | with_reducible assumption | with_reducible refine keepD ?_ | with_reducible refine keepA ?_ | (with_reducible refine far1 ?_ ?_; (rotate_left; (simp only; omega))))))
    ((first
      | (go_at_call 32; with_reducible refine (named_call _ _ _).mono ?_; rintro e U ⟨rfl, hb⟩; have kb : Below W1.heap.size W1 U := (by first | with_reducible exact stepB KB.out hb (Nat.le_refl _) | with_reducible exact stepB KB.out.drew hb (Nat.le_refl _)); clear KB hb; (try clear q0 q1 q2 q3 q4); have KB := Lib.hid kb; clear kb; have q0 := (KB.out.cell (World.block_lt_of_cell? _ _ x0)).trans x0; have q1 := (KB.out.cell (World.block_lt_of_cell? _ _ x1)).trans x1; have q2 := (KB.out.cell (World.block_lt_of_cell? _ _ x2)).trans x2; have q3 := (KB.out.cell (World.block_lt_of_cell? _ _ x3)).trans x3; have q4 := (KB.out.cell (World.block_lt_of_cell? _ _ x4)).trans x4)
      | (go_at_call 26; refine (HP.out.assign scpA (typ 73) (typ 84) _ _ _ W1 _ HS.out (leaf_is W1 4 _ _) (leaf_is W1 4 _ _) (by first | exact KB.out | exact KB.out.drew) fitA).mono ?_; rintro e U ⟨rfl, hb⟩; rw [say4]; have kb : Below W1.heap.size W1 U := (by first | with_reducible exact stepB KB.out hb (Nat.le_refl _) | with_reducible exact stepB KB.out.drew hb (Nat.le_refl _)); clear KB hb; (try clear q0 q1 q2 q3 q4); have KB := Lib.hid kb; clear kb; have q0 := (KB.out.cell (World.block_lt_of_cell? _ _ x0)).trans x0; have q1 := (KB.out.cell (World.block_lt_of_cell? _ _ x1)).trans x1; have q2 := (KB.out.cell (World.block_lt_of_cell? _ _ x2)).trans x2; have q3 := (KB.out.cell (World.block_lt_of_cell? _ _ x3)).trans x3; have q4 := (KB.out.cell (World.block_lt_of_cell? _ _ x4)).trans x4)))
  go_wp2_with fail
  have lU := World.block_lt_of_cell? _ _ q0
  simp only at lU
  go_cut [6, 7] from 26 to 31 (fun v6 v7 wx => ∃ (g6 : Nat) (o6 : Option Addr) (c6 : Nat), v6 = .pointer (some ⟨g6, 0, none⟩) ∧ v7 = .bool true ∧ Hid (Blk wx g6 29 #[.int .i64 1, .string noB, .string noB, .int .i64 0, .slice o6 0 c6]) ∧ Hid (Below U.heap.size U wx))
  case first =>
    go_region_held3 (fun w' => w'.cell? ⟨V.heap.size, 0, none⟩ = some (.slice o0 l0 k0) ∧ w'.cell? ⟨V.heap.size, 1, none⟩ = some (.slice o1 n1 k1) ∧ w'.cell? ⟨V.heap.size, 2, none⟩ = some (.slice o2 n2 k2) ∧ w'.cell? ⟨V.heap.size, 3, none⟩ = some (.slice o3 l3 k3) ∧ w'.cell? ⟨V.heap.size, 4, none⟩ = some (.slice o4 n4 k4))
      (refine ⟨?_, ?_, ?_, ?_, ?_⟩ <;> (repeat (first | with_reducible assumption | with_reducible refine keepD ?_ | with_reducible refine keepA ?_ | (with_reducible refine far1 ?_ ?_; (rotate_left; (simp only; omega))))))
      ((first
        | (go_at_call 32; with_reducible refine (named_call _ _ _).mono ?_; rintro e V6 ⟨rfl, hb⟩;
           have kb : Below U.heap.size U V6 := (by refine stepB (w := U) ?_ hb (Nat.le_refl _); (repeat (first | with_reducible exact Below.refl _ _ | with_reducible refine belowD ?_ | with_reducible refine belowA ?_))); have KU := Lib.hid kb; have vs := kb.size; clear kb; have r0 := (KU.out.cell (World.block_lt_of_cell? _ _ q0)).trans q0; have r1 := (KU.out.cell (World.block_lt_of_cell? _ _ q1)).trans q1; have r2 := (KU.out.cell (World.block_lt_of_cell? _ _ q2)).trans q2; have r3 := (KU.out.cell (World.block_lt_of_cell? _ _ q3)).trans q3; have r4 := (KU.out.cell (World.block_lt_of_cell? _ _ q4)).trans q4;
           (first | (have bx : Blk V6 U.heap.size 29 #[.int .i64 0, .string noB, .string noB, .int .i64 0, .slice none 0 0] := (by refine blkB ?_ hb; refine blkD ?_; with_reducible exact newAt rfl _ _); have BX := Lib.hid bx; have bc := bx.cell; have bf := bx.frozen; have bl := bx.lt; have bz := Nat.ne_of_lt bl; have by2 := Nat.ne_of_gt bl; clear bx) | skip); clear hb)
        | (go_at_call 13; refine (HP.out.field scpA (typ 84) (b1 102) _ _ W1 _ HS.out (leaf_is W1 4 _ _) (by refine stepB KB.out ?_ (Nat.le_refl _); (repeat (first | with_reducible exact KU.out | with_reducible refine belowD ?_ | with_reducible refine belowA ?_))) fitA).mono ?_; rintro e V7 ⟨u, rfl, hy, hb⟩; rw [say5] at hy; rw [say5];
           have HYF : ∃ (o6 : Option Addr) (c6 : Nat), u = .agg #[.int .i64 1, .string noB, .string noB, .int .i64 0, .slice o6 0 c6] := (by obtain ⟨o, c, e, _⟩ := IsY.parts hy; exact ⟨o, c, e⟩);
           obtain ⟨o6, c6, rfl⟩ := HYF; clear hy;
           have kb : Below U.heap.size U V7 := (by refine stepB (w := U) ?_ hb (Nat.le_refl _); (repeat (first | with_reducible exact KU.out | with_reducible refine belowD ?_ | with_reducible refine belowA ?_))); (first | (have bx := blkB BX.out hb; clear BX bc bf bl bz by2; have BX := Lib.hid bx; have bc := bx.cell; have bf := bx.frozen; have bl := bx.lt; have bz := Nat.ne_of_lt bl; have by2 := Nat.ne_of_gt bl; clear bx) | (have bx : Blk V7 V6.heap.size 29 #[.int .i64 0, .string noB, .string noB, .int .i64 0, .slice none 0 0] := (by refine blkB ?_ hb; with_reducible exact newAt rfl _ _); have BX := Lib.hid bx; have bc := bx.cell; have bf := bx.frozen; have bl := bx.lt; have bz := Nat.ne_of_lt bl; have by2 := Nat.ne_of_gt bl; clear bx) | skip); clear hb KU r0 r1 r2 r3 r4; have KU := Lib.hid kb; clear kb; have vt := KU.out.size; have r0 := (KU.out.cell (World.block_lt_of_cell? _ _ q0)).trans q0; have r1 := (KU.out.cell (World.block_lt_of_cell? _ _ q1)).trans q1; have r2 := (KU.out.cell (World.block_lt_of_cell? _ _ q2)).trans q2; have r3 := (KU.out.cell (World.block_lt_of_cell? _ _ q3)).trans q3; have r4 := (KU.out.cell (World.block_lt_of_cell? _ _ q4)).trans q4)))
    all_goals go_wp2_with fail
    all_goals go_meet
    all_goals apply reg7_of
    all_goals (first
      | with_reducible exact newAt rfl _ _
      | with_reducible exact blkS5 BX.out _ _ _ _ _
      | with_reducible exact belowA KU.out
      | with_reducible exact below5 KU.out (by omega) _ _ _ _ _)
  case rest =>
    obtain ⟨g6, o6, c6, rfl, rfl, H6, HU6⟩ := hcut
    have HWC := Lib.hid (stepB KB.out HU6.out (Nat.le_refl _))
    have r0 := (HU6.out.cell (World.block_lt_of_cell? _ _ q0)).trans q0
    have r1 := (HU6.out.cell (World.block_lt_of_cell? _ _ q1)).trans q1
    have r2 := (HU6.out.cell (World.block_lt_of_cell? _ _ q2)).trans q2
    have r3 := (HU6.out.cell (World.block_lt_of_cell? _ _ q3)).trans q3
    have r4 := (HU6.out.cell (World.block_lt_of_cell? _ _ q4)).trans q4
    clear q0 q1 q2 q3 q4 x0 x1 x2 x3 x4 KB HU6 lU
    go_wp2_with fail
    refine (HP.out.meth scpA (leafY 6 noB noB) _ _ W1 _ HS.out (leaf_is W1 6 _ _) HWC.out fitA).mono ?_
    rintro e V8 ⟨u, rfl, hm, hb⟩
    rw [say6] at hm
    obtain ⟨om, km, rfl, _, _, hr⟩ := hm
    obtain ⟨a, cm, rfl, _, hc, hmd⟩ := hr 0 mthM rfl
    obtain ⟨o7, k7, xa, xp, xq, xn, o8, e8, k8, rfl⟩ := hmd.expl
    have H8 := Lib.hid (stepB HWC.out hb (Nat.le_refl _))
    have e0 : V8.cell? a = some (.string (b1 109)) := by
      have := hc 0 _ rfl
      rw [Nat.zero_mul] at this
      exact at0 (at0 this)
    have b6 := blkB H6.out hb
    have HB6 := Lib.hid b6
    have c6' := b6.cell
    rw [show [mthM].length = 1 from rfl]
    clear hr hc hmd hb b6 r0 r1 r2 r3 r4
    go_wp2_with fail
    refine (num_call _).mono ?_
    rintro e V9 ⟨rfl, hb⟩
    have H9 := Lib.hid (stepB H8.out hb (Nat.le_refl _))
    clear hb
    go_wp2_with fail
    refine (HP.out.alike zeroY (leafY 1 noB noB) _ _ V9 IsY.zero (leaf_is V9 1 _ _)).mono ?_
    rintro e VA ⟨rfl, hb⟩
    rw [say7]
    have HA := Lib.hid (stepB H0.out (stepB H9.out hb (Nat.le_refl _)) (Nat.le_refl _))
    clear hb
    go_wp2
    go_ret
    exact ⟨rfl, HA.out⟩
end Go.Proofs.Ytmnhilgifjaocaa
