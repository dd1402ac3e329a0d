/-
  TermSames answers true, whatever it is given. No condition.
-/
import Derived.Test.YtofdejoeheokjaaTvb
import Derived.Test.YtofdejoeheokjaaTvc
import Derived.Test.YtofdejoeheokjaaTmc
import Derived.ProofKit
import Derived.OpenShut
namespace Go.Proofs.Ytofdejoeheokjaa.termSames
open Go.ChangeShapes Go.WideShapes Go.ChangeAt Go.RowKit
open Go.Lib hiding intOf

/-- Three boxes. -/
structure Bx3 (w W : World) (A B C : Array Value) : Prop where
  b0 : Blk W w.heap.size 25 A
  b1 : Blk W (w.heap.size + 1) 25 B
  b2 : Blk W (w.heap.size + 1 + 1) 25 C
  below : Below w.heap.size w W
theorem Bx3.step {w W W' : World} {A B C : Array Value} (h : Bx3 w W A B C) (hb : Below W.heap.size W W') : Bx3 w W' A B C :=
  ⟨(hb.block _ h.b0.lt).trans h.b0, (hb.block _ h.b1.lt).trans h.b1, (hb.block _ h.b2.lt).trans h.b2, h.below.trans (hb.mono h.below.size)⟩
theorem bx3 (w : World) (A B C : Array Value) : Bx3 w (((w.alloc (.cells A 25)).alloc (.cells B 25)).alloc (.cells C 25)) A B C := by
  have h2 := box2 w A B
  have hb : Below (w.heap.size + 1 + 1) ((w.alloc (.cells A 25)).alloc (.cells B 25)) (((w.alloc (.cells A 25)).alloc (.cells B 25)).alloc (.cells C 25)) := (Below.refl _ _).alloc (Nat.le_of_eq h2.size.symm) _
  refine ⟨(hb.block _ (by omega)).trans h2.one, (hb.block _ (by omega)).trans h2.two, ?_, h2.below.trans (hb.mono (by omega))⟩
  have := Blk.new ((w.alloc (.cells A 25)).alloc (.cells B 25)) 25 C
  rwa [h2.size] at this
theorem five {w : World} {x : GY} {v : Value} (h : IsY w x v) : ∃ c0 c1 c2 c3 c4 : Value, v = .agg #[c0, c1, c2, c3, c4] := by
  obtain ⟨k, p, m, n, l⟩ := x
  obtain ⟨o, c, rfl, _⟩ := h.parts
  exact ⟨_, _, _, _, _, rfl⟩

set_option maxRecDepth 100000 in
set_option maxHeartbeats 8000000 in
theorem walk (x : GY) (va : Value) (y : GY) (vb : Value) (z : GY) (vc : Value) (w : World) (ha : IsY w x va) (_ : FitY reachBytes x) (hb : IsY w y vb) (_ : FitY reachBytes y) (hc : IsY w z vc) (_ : FitY reachBytes z) :
    Calls Try.prog 5 #[va, vb, vc] w fun e w' => e = .returned (.bool true) ∧ Below w.heap.size w w' := by
  obtain ⟨a0, a1, a2, a3, a4, rfl⟩ := five ha
  obtain ⟨b0, b1, b2, b3, b4, rfl⟩ := five hb
  obtain ⟨c0, c1, c2, c3, c4, rfl⟩ := five hc
  have HNa := Lib.hid (fun W (h : Below w.heap.size w W) => nodes_any _ x _ 0 W (Nat.lt_succ_self _) (ha.below h) (by decide) (by decide))
  have HNb := Lib.hid (fun W (h : Below w.heap.size w W) => nodes_any _ y _ 0 W (Nat.lt_succ_self _) (hb.below h) (by decide) (by decide))
  have HNc := Lib.hid (fun W (h : Below w.heap.size w W) => nodes_any _ z _ 0 W (Nat.lt_succ_self _) (hc.below h) (by decide) (by decide))
  have HSab := Lib.hid (fun W (h : Below w.heap.size w W) => sameP_any _ x y _ _ W (Nat.lt_succ_self _) (ha.below h) (hb.below h))
  have HSbc := Lib.hid (fun W (h : Below w.heap.size w W) => sameP_any _ y z _ _ W (Nat.lt_succ_self _) (hb.below h) (hc.below h))
  have HSac := Lib.hid (fun W (h : Below w.heap.size w W) => sameP_any _ x z _ _ W (Nat.lt_succ_self _) (ha.below h) (hc.below h))
  have HSba := Lib.hid (fun W (h : Below w.heap.size w W) => sameP_any _ y x _ _ W (Nat.lt_succ_self _) (hb.below h) (ha.below h))
  have HSaa := Lib.hid (fun W (h : Below w.heap.size w W) => sameP_any _ x x _ _ W (Nat.lt_succ_self _) (ha.below h) (ha.below h))
  have HRab := Lib.hid (fun W (h : Below w.heap.size w W) => sameR_any _ x y _ _ W (Nat.lt_succ_self _) (ha.below h) (hb.below h))
  rw [same_symm y x] at HSba
  rw [same_refl x] at HSaa
  have hyz : sameY x y = true → sameY y z = sameY x z := fun h => by
    rw [Bool.eq_iff_iff]
    exact ⟨fun h2 => same_trans x y z h h2, fun h2 => same_trans y x z (by rw [same_symm]; exact h) h2⟩
  have HYZ := Lib.hid hyz
  clear ha hb hc hyz
  generalize sameY x y = X at *
  generalize sameY y z = Y at *
  generalize sameY x z = Z at *
  generalize nodY x 0 = na at *
  generalize nodY y 0 = nb at *
  generalize nodY z 0 = nc at *
  have hbx := bx3 w #[a0, a1, a2, a3, a4] #[b0, b1, b2, b3, b4] #[c0, c1, c2, c3, c4]
  obtain ⟨W3, hW3⟩ : ∃ W3, (((w.alloc (.cells #[a0, a1, a2, a3, a4] 25)).alloc (.cells #[b0, b1, b2, b3, b4] 25)).alloc (.cells #[c0, c1, c2, c3, c4] 25)) = W3 := ⟨_, rfl⟩
  rw [hW3] at hbx
  have HB := Lib.hid hbx
  have HW3 := Lib.hid hW3
  clear hbx hW3
  go_enter Try.func5, Try.ntmps5
  go_upto_region 1 with fail
  change Code.wp Try.prog _ _ _ (((w.alloc (.cells #[a0, a1, a2, a3, a4] 25)).alloc (.cells #[b0, b1, b2, b3, b4] 25)).alloc (.cells #[c0, c1, c2, c3, c4] 25))
  rw [HW3.out]
  clear HW3
  by_cases hna : 200 ≤ na
  · have e0 := decide_eq_true hna
    go_wp2_with (first
      | (refine boxLoad 25 5 size5 Try.underlying25 rfl _ rfl w.heap.size rfl (cs := [a0, a1, a2, a3, a4]) HB.out.b0 rfl ?_)
      | (refine boxLoad 25 5 size5 Try.underlying25 rfl _ rfl (w.heap.size + 1) rfl (cs := [b0, b1, b2, b3, b4]) HB.out.b1 rfl ?_)
      | (refine boxLoad 25 5 size5 Try.underlying25 rfl _ rfl (w.heap.size + 1 + 1) rfl (cs := [c0, c1, c2, c3, c4]) HB.out.b2 rfl ?_)
      | (go_at_call 10; with_reducible refine (awake_any _).mono ?_; rintro e w1 ⟨rfl, hb⟩; have HBn := Lib.hid (HB.out.step hb); clear HB hb; have HB := HBn; clear HBn; (try clear qa0 qa1 qa2 qa3 qa4 qb0 qb1 qb2 qb3 qb4 qc0 qc1 qc2 qc3 qc4); have qa0 := HB.out.b0.cell 0; have qa1 := HB.out.b0.cell 1; have qa2 := HB.out.b0.cell 2; have qa3 := HB.out.b0.cell 3; have qa4 := HB.out.b0.cell 4; have qb0 := HB.out.b1.cell 0; have qb1 := HB.out.b1.cell 1; have qb2 := HB.out.b1.cell 2; have qb3 := HB.out.b1.cell 3; have qb4 := HB.out.b1.cell 4; have qc0 := HB.out.b2.cell 0; have qc1 := HB.out.b2.cell 1; have qc2 := HB.out.b2.cell 2; have qc3 := HB.out.b2.cell 3; have qc4 := HB.out.b2.cell 4; simp only [List.getElem?_toArray, List.getElem?_cons_succ, List.getElem?_cons_zero] at qa0 qa1 qa2 qa3 qa4 qb0 qb1 qb2 qb3 qb4 qc0 qc1 qc2 qc3 qc4)
      | (go_at_call 11; with_reducible refine (HNa.out _ HB.out.below).mono ?_; rintro e w1 ⟨rfl, hb⟩; have HBn := Lib.hid (HB.out.step hb); clear HB hb; have HB := HBn; clear HBn; (try clear qa0 qa1 qa2 qa3 qa4 qb0 qb1 qb2 qb3 qb4 qc0 qc1 qc2 qc3 qc4); have qa0 := HB.out.b0.cell 0; have qa1 := HB.out.b0.cell 1; have qa2 := HB.out.b0.cell 2; have qa3 := HB.out.b0.cell 3; have qa4 := HB.out.b0.cell 4; have qb0 := HB.out.b1.cell 0; have qb1 := HB.out.b1.cell 1; have qb2 := HB.out.b1.cell 2; have qb3 := HB.out.b1.cell 3; have qb4 := HB.out.b1.cell 4; have qc0 := HB.out.b2.cell 0; have qc1 := HB.out.b2.cell 1; have qc2 := HB.out.b2.cell 2; have qc3 := HB.out.b2.cell 3; have qc4 := HB.out.b2.cell 4; simp only [List.getElem?_toArray, List.getElem?_cons_succ, List.getElem?_cons_zero] at qa0 qa1 qa2 qa3 qa4 qb0 qb1 qb2 qb3 qb4 qc0 qc1 qc2 qc3 qc4)
      | (go_at_call 11; with_reducible refine (HNb.out _ HB.out.below).mono ?_; rintro e w1 ⟨rfl, hb⟩; have HBn := Lib.hid (HB.out.step hb); clear HB hb; have HB := HBn; clear HBn; (try clear qa0 qa1 qa2 qa3 qa4 qb0 qb1 qb2 qb3 qb4 qc0 qc1 qc2 qc3 qc4); have qa0 := HB.out.b0.cell 0; have qa1 := HB.out.b0.cell 1; have qa2 := HB.out.b0.cell 2; have qa3 := HB.out.b0.cell 3; have qa4 := HB.out.b0.cell 4; have qb0 := HB.out.b1.cell 0; have qb1 := HB.out.b1.cell 1; have qb2 := HB.out.b1.cell 2; have qb3 := HB.out.b1.cell 3; have qb4 := HB.out.b1.cell 4; have qc0 := HB.out.b2.cell 0; have qc1 := HB.out.b2.cell 1; have qc2 := HB.out.b2.cell 2; have qc3 := HB.out.b2.cell 3; have qc4 := HB.out.b2.cell 4; simp only [List.getElem?_toArray, List.getElem?_cons_succ, List.getElem?_cons_zero] at qa0 qa1 qa2 qa3 qa4 qb0 qb1 qb2 qb3 qb4 qc0 qc1 qc2 qc3 qc4)
      | (go_at_call 11; with_reducible refine (HNc.out _ HB.out.below).mono ?_; rintro e w1 ⟨rfl, hb⟩; have HBn := Lib.hid (HB.out.step hb); clear HB hb; have HB := HBn; clear HBn; (try clear qa0 qa1 qa2 qa3 qa4 qb0 qb1 qb2 qb3 qb4 qc0 qc1 qc2 qc3 qc4); have qa0 := HB.out.b0.cell 0; have qa1 := HB.out.b0.cell 1; have qa2 := HB.out.b0.cell 2; have qa3 := HB.out.b0.cell 3; have qa4 := HB.out.b0.cell 4; have qb0 := HB.out.b1.cell 0; have qb1 := HB.out.b1.cell 1; have qb2 := HB.out.b1.cell 2; have qb3 := HB.out.b1.cell 3; have qb4 := HB.out.b1.cell 4; have qc0 := HB.out.b2.cell 0; have qc1 := HB.out.b2.cell 1; have qc2 := HB.out.b2.cell 2; have qc3 := HB.out.b2.cell 3; have qc4 := HB.out.b2.cell 4; simp only [List.getElem?_toArray, List.getElem?_cons_succ, List.getElem?_cons_zero] at qa0 qa1 qa2 qa3 qa4 qb0 qb1 qb2 qb3 qb4 qc0 qc1 qc2 qc3 qc4))
    go_ret
    exact ⟨rfl, HB.out.below⟩
  have e0 := decide_eq_false hna
  by_cases hnb : 200 ≤ nb
  · have e1 := decide_eq_true hnb
    go_wp2_with (first
      | (refine boxLoad 25 5 size5 Try.underlying25 rfl _ rfl w.heap.size rfl (cs := [a0, a1, a2, a3, a4]) HB.out.b0 rfl ?_)
      | (refine boxLoad 25 5 size5 Try.underlying25 rfl _ rfl (w.heap.size + 1) rfl (cs := [b0, b1, b2, b3, b4]) HB.out.b1 rfl ?_)
      | (refine boxLoad 25 5 size5 Try.underlying25 rfl _ rfl (w.heap.size + 1 + 1) rfl (cs := [c0, c1, c2, c3, c4]) HB.out.b2 rfl ?_)
      | (go_at_call 10; with_reducible refine (awake_any _).mono ?_; rintro e w1 ⟨rfl, hb⟩; have HBn := Lib.hid (HB.out.step hb); clear HB hb; have HB := HBn; clear HBn; (try clear qa0 qa1 qa2 qa3 qa4 qb0 qb1 qb2 qb3 qb4 qc0 qc1 qc2 qc3 qc4); have qa0 := HB.out.b0.cell 0; have qa1 := HB.out.b0.cell 1; have qa2 := HB.out.b0.cell 2; have qa3 := HB.out.b0.cell 3; have qa4 := HB.out.b0.cell 4; have qb0 := HB.out.b1.cell 0; have qb1 := HB.out.b1.cell 1; have qb2 := HB.out.b1.cell 2; have qb3 := HB.out.b1.cell 3; have qb4 := HB.out.b1.cell 4; have qc0 := HB.out.b2.cell 0; have qc1 := HB.out.b2.cell 1; have qc2 := HB.out.b2.cell 2; have qc3 := HB.out.b2.cell 3; have qc4 := HB.out.b2.cell 4; simp only [List.getElem?_toArray, List.getElem?_cons_succ, List.getElem?_cons_zero] at qa0 qa1 qa2 qa3 qa4 qb0 qb1 qb2 qb3 qb4 qc0 qc1 qc2 qc3 qc4)
      | (go_at_call 11; with_reducible refine (HNa.out _ HB.out.below).mono ?_; rintro e w1 ⟨rfl, hb⟩; have HBn := Lib.hid (HB.out.step hb); clear HB hb; have HB := HBn; clear HBn; (try clear qa0 qa1 qa2 qa3 qa4 qb0 qb1 qb2 qb3 qb4 qc0 qc1 qc2 qc3 qc4); have qa0 := HB.out.b0.cell 0; have qa1 := HB.out.b0.cell 1; have qa2 := HB.out.b0.cell 2; have qa3 := HB.out.b0.cell 3; have qa4 := HB.out.b0.cell 4; have qb0 := HB.out.b1.cell 0; have qb1 := HB.out.b1.cell 1; have qb2 := HB.out.b1.cell 2; have qb3 := HB.out.b1.cell 3; have qb4 := HB.out.b1.cell 4; have qc0 := HB.out.b2.cell 0; have qc1 := HB.out.b2.cell 1; have qc2 := HB.out.b2.cell 2; have qc3 := HB.out.b2.cell 3; have qc4 := HB.out.b2.cell 4; simp only [List.getElem?_toArray, List.getElem?_cons_succ, List.getElem?_cons_zero] at qa0 qa1 qa2 qa3 qa4 qb0 qb1 qb2 qb3 qb4 qc0 qc1 qc2 qc3 qc4)
      | (go_at_call 11; with_reducible refine (HNb.out _ HB.out.below).mono ?_; rintro e w1 ⟨rfl, hb⟩; have HBn := Lib.hid (HB.out.step hb); clear HB hb; have HB := HBn; clear HBn; (try clear qa0 qa1 qa2 qa3 qa4 qb0 qb1 qb2 qb3 qb4 qc0 qc1 qc2 qc3 qc4); have qa0 := HB.out.b0.cell 0; have qa1 := HB.out.b0.cell 1; have qa2 := HB.out.b0.cell 2; have qa3 := HB.out.b0.cell 3; have qa4 := HB.out.b0.cell 4; have qb0 := HB.out.b1.cell 0; have qb1 := HB.out.b1.cell 1; have qb2 := HB.out.b1.cell 2; have qb3 := HB.out.b1.cell 3; have qb4 := HB.out.b1.cell 4; have qc0 := HB.out.b2.cell 0; have qc1 := HB.out.b2.cell 1; have qc2 := HB.out.b2.cell 2; have qc3 := HB.out.b2.cell 3; have qc4 := HB.out.b2.cell 4; simp only [List.getElem?_toArray, List.getElem?_cons_succ, List.getElem?_cons_zero] at qa0 qa1 qa2 qa3 qa4 qb0 qb1 qb2 qb3 qb4 qc0 qc1 qc2 qc3 qc4)
      | (go_at_call 11; with_reducible refine (HNc.out _ HB.out.below).mono ?_; rintro e w1 ⟨rfl, hb⟩; have HBn := Lib.hid (HB.out.step hb); clear HB hb; have HB := HBn; clear HBn; (try clear qa0 qa1 qa2 qa3 qa4 qb0 qb1 qb2 qb3 qb4 qc0 qc1 qc2 qc3 qc4); have qa0 := HB.out.b0.cell 0; have qa1 := HB.out.b0.cell 1; have qa2 := HB.out.b0.cell 2; have qa3 := HB.out.b0.cell 3; have qa4 := HB.out.b0.cell 4; have qb0 := HB.out.b1.cell 0; have qb1 := HB.out.b1.cell 1; have qb2 := HB.out.b1.cell 2; have qb3 := HB.out.b1.cell 3; have qb4 := HB.out.b1.cell 4; have qc0 := HB.out.b2.cell 0; have qc1 := HB.out.b2.cell 1; have qc2 := HB.out.b2.cell 2; have qc3 := HB.out.b2.cell 3; have qc4 := HB.out.b2.cell 4; simp only [List.getElem?_toArray, List.getElem?_cons_succ, List.getElem?_cons_zero] at qa0 qa1 qa2 qa3 qa4 qb0 qb1 qb2 qb3 qb4 qc0 qc1 qc2 qc3 qc4))
    go_ret
    exact ⟨rfl, HB.out.below⟩
  have e1 := decide_eq_false hnb
  by_cases hnc : 200 ≤ nc
  · have e2 := decide_eq_true hnc
    go_wp2_with (first
      | (refine boxLoad 25 5 size5 Try.underlying25 rfl _ rfl w.heap.size rfl (cs := [a0, a1, a2, a3, a4]) HB.out.b0 rfl ?_)
      | (refine boxLoad 25 5 size5 Try.underlying25 rfl _ rfl (w.heap.size + 1) rfl (cs := [b0, b1, b2, b3, b4]) HB.out.b1 rfl ?_)
      | (refine boxLoad 25 5 size5 Try.underlying25 rfl _ rfl (w.heap.size + 1 + 1) rfl (cs := [c0, c1, c2, c3, c4]) HB.out.b2 rfl ?_)
      | (go_at_call 10; with_reducible refine (awake_any _).mono ?_; rintro e w1 ⟨rfl, hb⟩; have HBn := Lib.hid (HB.out.step hb); clear HB hb; have HB := HBn; clear HBn; (try clear qa0 qa1 qa2 qa3 qa4 qb0 qb1 qb2 qb3 qb4 qc0 qc1 qc2 qc3 qc4); have qa0 := HB.out.b0.cell 0; have qa1 := HB.out.b0.cell 1; have qa2 := HB.out.b0.cell 2; have qa3 := HB.out.b0.cell 3; have qa4 := HB.out.b0.cell 4; have qb0 := HB.out.b1.cell 0; have qb1 := HB.out.b1.cell 1; have qb2 := HB.out.b1.cell 2; have qb3 := HB.out.b1.cell 3; have qb4 := HB.out.b1.cell 4; have qc0 := HB.out.b2.cell 0; have qc1 := HB.out.b2.cell 1; have qc2 := HB.out.b2.cell 2; have qc3 := HB.out.b2.cell 3; have qc4 := HB.out.b2.cell 4; simp only [List.getElem?_toArray, List.getElem?_cons_succ, List.getElem?_cons_zero] at qa0 qa1 qa2 qa3 qa4 qb0 qb1 qb2 qb3 qb4 qc0 qc1 qc2 qc3 qc4)
      | (go_at_call 11; with_reducible refine (HNa.out _ HB.out.below).mono ?_; rintro e w1 ⟨rfl, hb⟩; have HBn := Lib.hid (HB.out.step hb); clear HB hb; have HB := HBn; clear HBn; (try clear qa0 qa1 qa2 qa3 qa4 qb0 qb1 qb2 qb3 qb4 qc0 qc1 qc2 qc3 qc4); have qa0 := HB.out.b0.cell 0; have qa1 := HB.out.b0.cell 1; have qa2 := HB.out.b0.cell 2; have qa3 := HB.out.b0.cell 3; have qa4 := HB.out.b0.cell 4; have qb0 := HB.out.b1.cell 0; have qb1 := HB.out.b1.cell 1; have qb2 := HB.out.b1.cell 2; have qb3 := HB.out.b1.cell 3; have qb4 := HB.out.b1.cell 4; have qc0 := HB.out.b2.cell 0; have qc1 := HB.out.b2.cell 1; have qc2 := HB.out.b2.cell 2; have qc3 := HB.out.b2.cell 3; have qc4 := HB.out.b2.cell 4; simp only [List.getElem?_toArray, List.getElem?_cons_succ, List.getElem?_cons_zero] at qa0 qa1 qa2 qa3 qa4 qb0 qb1 qb2 qb3 qb4 qc0 qc1 qc2 qc3 qc4)
      | (go_at_call 11; with_reducible refine (HNb.out _ HB.out.below).mono ?_; rintro e w1 ⟨rfl, hb⟩; have HBn := Lib.hid (HB.out.step hb); clear HB hb; have HB := HBn; clear HBn; (try clear qa0 qa1 qa2 qa3 qa4 qb0 qb1 qb2 qb3 qb4 qc0 qc1 qc2 qc3 qc4); have qa0 := HB.out.b0.cell 0; have qa1 := HB.out.b0.cell 1; have qa2 := HB.out.b0.cell 2; have qa3 := HB.out.b0.cell 3; have qa4 := HB.out.b0.cell 4; have qb0 := HB.out.b1.cell 0; have qb1 := HB.out.b1.cell 1; have qb2 := HB.out.b1.cell 2; have qb3 := HB.out.b1.cell 3; have qb4 := HB.out.b1.cell 4; have qc0 := HB.out.b2.cell 0; have qc1 := HB.out.b2.cell 1; have qc2 := HB.out.b2.cell 2; have qc3 := HB.out.b2.cell 3; have qc4 := HB.out.b2.cell 4; simp only [List.getElem?_toArray, List.getElem?_cons_succ, List.getElem?_cons_zero] at qa0 qa1 qa2 qa3 qa4 qb0 qb1 qb2 qb3 qb4 qc0 qc1 qc2 qc3 qc4)
      | (go_at_call 11; with_reducible refine (HNc.out _ HB.out.below).mono ?_; rintro e w1 ⟨rfl, hb⟩; have HBn := Lib.hid (HB.out.step hb); clear HB hb; have HB := HBn; clear HBn; (try clear qa0 qa1 qa2 qa3 qa4 qb0 qb1 qb2 qb3 qb4 qc0 qc1 qc2 qc3 qc4); have qa0 := HB.out.b0.cell 0; have qa1 := HB.out.b0.cell 1; have qa2 := HB.out.b0.cell 2; have qa3 := HB.out.b0.cell 3; have qa4 := HB.out.b0.cell 4; have qb0 := HB.out.b1.cell 0; have qb1 := HB.out.b1.cell 1; have qb2 := HB.out.b1.cell 2; have qb3 := HB.out.b1.cell 3; have qb4 := HB.out.b1.cell 4; have qc0 := HB.out.b2.cell 0; have qc1 := HB.out.b2.cell 1; have qc2 := HB.out.b2.cell 2; have qc3 := HB.out.b2.cell 3; have qc4 := HB.out.b2.cell 4; simp only [List.getElem?_toArray, List.getElem?_cons_succ, List.getElem?_cons_zero] at qa0 qa1 qa2 qa3 qa4 qb0 qb1 qb2 qb3 qb4 qc0 qc1 qc2 qc3 qc4))
    go_ret
    exact ⟨rfl, HB.out.below⟩
  have e2 := decide_eq_false hnc
  cases X
  · go_wp2_with (first
      | (refine boxLoad 25 5 size5 Try.underlying25 rfl _ rfl w.heap.size rfl (cs := [a0, a1, a2, a3, a4]) HB.out.b0 rfl ?_)
      | (refine boxLoad 25 5 size5 Try.underlying25 rfl _ rfl (w.heap.size + 1) rfl (cs := [b0, b1, b2, b3, b4]) HB.out.b1 rfl ?_)
      | (refine boxLoad 25 5 size5 Try.underlying25 rfl _ rfl (w.heap.size + 1 + 1) rfl (cs := [c0, c1, c2, c3, c4]) HB.out.b2 rfl ?_)
      | (go_at_call 10; with_reducible refine (awake_any _).mono ?_; rintro e w1 ⟨rfl, hb⟩; have HBn := Lib.hid (HB.out.step hb); clear HB hb; have HB := HBn; clear HBn; (try clear qa0 qa1 qa2 qa3 qa4 qb0 qb1 qb2 qb3 qb4 qc0 qc1 qc2 qc3 qc4); have qa0 := HB.out.b0.cell 0; have qa1 := HB.out.b0.cell 1; have qa2 := HB.out.b0.cell 2; have qa3 := HB.out.b0.cell 3; have qa4 := HB.out.b0.cell 4; have qb0 := HB.out.b1.cell 0; have qb1 := HB.out.b1.cell 1; have qb2 := HB.out.b1.cell 2; have qb3 := HB.out.b1.cell 3; have qb4 := HB.out.b1.cell 4; have qc0 := HB.out.b2.cell 0; have qc1 := HB.out.b2.cell 1; have qc2 := HB.out.b2.cell 2; have qc3 := HB.out.b2.cell 3; have qc4 := HB.out.b2.cell 4; simp only [List.getElem?_toArray, List.getElem?_cons_succ, List.getElem?_cons_zero] at qa0 qa1 qa2 qa3 qa4 qb0 qb1 qb2 qb3 qb4 qc0 qc1 qc2 qc3 qc4)
      | (go_at_call 11; with_reducible refine (HNa.out _ HB.out.below).mono ?_; rintro e w1 ⟨rfl, hb⟩; have HBn := Lib.hid (HB.out.step hb); clear HB hb; have HB := HBn; clear HBn; (try clear qa0 qa1 qa2 qa3 qa4 qb0 qb1 qb2 qb3 qb4 qc0 qc1 qc2 qc3 qc4); have qa0 := HB.out.b0.cell 0; have qa1 := HB.out.b0.cell 1; have qa2 := HB.out.b0.cell 2; have qa3 := HB.out.b0.cell 3; have qa4 := HB.out.b0.cell 4; have qb0 := HB.out.b1.cell 0; have qb1 := HB.out.b1.cell 1; have qb2 := HB.out.b1.cell 2; have qb3 := HB.out.b1.cell 3; have qb4 := HB.out.b1.cell 4; have qc0 := HB.out.b2.cell 0; have qc1 := HB.out.b2.cell 1; have qc2 := HB.out.b2.cell 2; have qc3 := HB.out.b2.cell 3; have qc4 := HB.out.b2.cell 4; simp only [List.getElem?_toArray, List.getElem?_cons_succ, List.getElem?_cons_zero] at qa0 qa1 qa2 qa3 qa4 qb0 qb1 qb2 qb3 qb4 qc0 qc1 qc2 qc3 qc4)
      | (go_at_call 11; with_reducible refine (HNb.out _ HB.out.below).mono ?_; rintro e w1 ⟨rfl, hb⟩; have HBn := Lib.hid (HB.out.step hb); clear HB hb; have HB := HBn; clear HBn; (try clear qa0 qa1 qa2 qa3 qa4 qb0 qb1 qb2 qb3 qb4 qc0 qc1 qc2 qc3 qc4); have qa0 := HB.out.b0.cell 0; have qa1 := HB.out.b0.cell 1; have qa2 := HB.out.b0.cell 2; have qa3 := HB.out.b0.cell 3; have qa4 := HB.out.b0.cell 4; have qb0 := HB.out.b1.cell 0; have qb1 := HB.out.b1.cell 1; have qb2 := HB.out.b1.cell 2; have qb3 := HB.out.b1.cell 3; have qb4 := HB.out.b1.cell 4; have qc0 := HB.out.b2.cell 0; have qc1 := HB.out.b2.cell 1; have qc2 := HB.out.b2.cell 2; have qc3 := HB.out.b2.cell 3; have qc4 := HB.out.b2.cell 4; simp only [List.getElem?_toArray, List.getElem?_cons_succ, List.getElem?_cons_zero] at qa0 qa1 qa2 qa3 qa4 qb0 qb1 qb2 qb3 qb4 qc0 qc1 qc2 qc3 qc4)
      | (go_at_call 11; with_reducible refine (HNc.out _ HB.out.below).mono ?_; rintro e w1 ⟨rfl, hb⟩; have HBn := Lib.hid (HB.out.step hb); clear HB hb; have HB := HBn; clear HBn; (try clear qa0 qa1 qa2 qa3 qa4 qb0 qb1 qb2 qb3 qb4 qc0 qc1 qc2 qc3 qc4); have qa0 := HB.out.b0.cell 0; have qa1 := HB.out.b0.cell 1; have qa2 := HB.out.b0.cell 2; have qa3 := HB.out.b0.cell 3; have qa4 := HB.out.b0.cell 4; have qb0 := HB.out.b1.cell 0; have qb1 := HB.out.b1.cell 1; have qb2 := HB.out.b1.cell 2; have qb3 := HB.out.b1.cell 3; have qb4 := HB.out.b1.cell 4; have qc0 := HB.out.b2.cell 0; have qc1 := HB.out.b2.cell 1; have qc2 := HB.out.b2.cell 2; have qc3 := HB.out.b2.cell 3; have qc4 := HB.out.b2.cell 4; simp only [List.getElem?_toArray, List.getElem?_cons_succ, List.getElem?_cons_zero] at qa0 qa1 qa2 qa3 qa4 qb0 qb1 qb2 qb3 qb4 qc0 qc1 qc2 qc3 qc4)
      | (go_at_call 21; with_reducible refine (HSab.out _ HB.out.below).mono ?_; rintro e w1 ⟨rfl, hb⟩; have HBn := Lib.hid (HB.out.step hb); clear HB hb; have HB := HBn; clear HBn; (try clear qa0 qa1 qa2 qa3 qa4 qb0 qb1 qb2 qb3 qb4 qc0 qc1 qc2 qc3 qc4); have qa0 := HB.out.b0.cell 0; have qa1 := HB.out.b0.cell 1; have qa2 := HB.out.b0.cell 2; have qa3 := HB.out.b0.cell 3; have qa4 := HB.out.b0.cell 4; have qb0 := HB.out.b1.cell 0; have qb1 := HB.out.b1.cell 1; have qb2 := HB.out.b1.cell 2; have qb3 := HB.out.b1.cell 3; have qb4 := HB.out.b1.cell 4; have qc0 := HB.out.b2.cell 0; have qc1 := HB.out.b2.cell 1; have qc2 := HB.out.b2.cell 2; have qc3 := HB.out.b2.cell 3; have qc4 := HB.out.b2.cell 4; simp only [List.getElem?_toArray, List.getElem?_cons_succ, List.getElem?_cons_zero] at qa0 qa1 qa2 qa3 qa4 qb0 qb1 qb2 qb3 qb4 qc0 qc1 qc2 qc3 qc4)
      | (go_at_call 21; with_reducible refine (HSbc.out _ HB.out.below).mono ?_; rintro e w1 ⟨rfl, hb⟩; have HBn := Lib.hid (HB.out.step hb); clear HB hb; have HB := HBn; clear HBn; (try clear qa0 qa1 qa2 qa3 qa4 qb0 qb1 qb2 qb3 qb4 qc0 qc1 qc2 qc3 qc4); have qa0 := HB.out.b0.cell 0; have qa1 := HB.out.b0.cell 1; have qa2 := HB.out.b0.cell 2; have qa3 := HB.out.b0.cell 3; have qa4 := HB.out.b0.cell 4; have qb0 := HB.out.b1.cell 0; have qb1 := HB.out.b1.cell 1; have qb2 := HB.out.b1.cell 2; have qb3 := HB.out.b1.cell 3; have qb4 := HB.out.b1.cell 4; have qc0 := HB.out.b2.cell 0; have qc1 := HB.out.b2.cell 1; have qc2 := HB.out.b2.cell 2; have qc3 := HB.out.b2.cell 3; have qc4 := HB.out.b2.cell 4; simp only [List.getElem?_toArray, List.getElem?_cons_succ, List.getElem?_cons_zero] at qa0 qa1 qa2 qa3 qa4 qb0 qb1 qb2 qb3 qb4 qc0 qc1 qc2 qc3 qc4)
      | (go_at_call 21; with_reducible refine (HSac.out _ HB.out.below).mono ?_; rintro e w1 ⟨rfl, hb⟩; have HBn := Lib.hid (HB.out.step hb); clear HB hb; have HB := HBn; clear HBn; (try clear qa0 qa1 qa2 qa3 qa4 qb0 qb1 qb2 qb3 qb4 qc0 qc1 qc2 qc3 qc4); have qa0 := HB.out.b0.cell 0; have qa1 := HB.out.b0.cell 1; have qa2 := HB.out.b0.cell 2; have qa3 := HB.out.b0.cell 3; have qa4 := HB.out.b0.cell 4; have qb0 := HB.out.b1.cell 0; have qb1 := HB.out.b1.cell 1; have qb2 := HB.out.b1.cell 2; have qb3 := HB.out.b1.cell 3; have qb4 := HB.out.b1.cell 4; have qc0 := HB.out.b2.cell 0; have qc1 := HB.out.b2.cell 1; have qc2 := HB.out.b2.cell 2; have qc3 := HB.out.b2.cell 3; have qc4 := HB.out.b2.cell 4; simp only [List.getElem?_toArray, List.getElem?_cons_succ, List.getElem?_cons_zero] at qa0 qa1 qa2 qa3 qa4 qb0 qb1 qb2 qb3 qb4 qc0 qc1 qc2 qc3 qc4)
      | (go_at_call 21; with_reducible refine (HSba.out _ HB.out.below).mono ?_; rintro e w1 ⟨rfl, hb⟩; have HBn := Lib.hid (HB.out.step hb); clear HB hb; have HB := HBn; clear HBn; (try clear qa0 qa1 qa2 qa3 qa4 qb0 qb1 qb2 qb3 qb4 qc0 qc1 qc2 qc3 qc4); have qa0 := HB.out.b0.cell 0; have qa1 := HB.out.b0.cell 1; have qa2 := HB.out.b0.cell 2; have qa3 := HB.out.b0.cell 3; have qa4 := HB.out.b0.cell 4; have qb0 := HB.out.b1.cell 0; have qb1 := HB.out.b1.cell 1; have qb2 := HB.out.b1.cell 2; have qb3 := HB.out.b1.cell 3; have qb4 := HB.out.b1.cell 4; have qc0 := HB.out.b2.cell 0; have qc1 := HB.out.b2.cell 1; have qc2 := HB.out.b2.cell 2; have qc3 := HB.out.b2.cell 3; have qc4 := HB.out.b2.cell 4; simp only [List.getElem?_toArray, List.getElem?_cons_succ, List.getElem?_cons_zero] at qa0 qa1 qa2 qa3 qa4 qb0 qb1 qb2 qb3 qb4 qc0 qc1 qc2 qc3 qc4)
      | (go_at_call 21; with_reducible refine (HSaa.out _ HB.out.below).mono ?_; rintro e w1 ⟨rfl, hb⟩; have HBn := Lib.hid (HB.out.step hb); clear HB hb; have HB := HBn; clear HBn; (try clear qa0 qa1 qa2 qa3 qa4 qb0 qb1 qb2 qb3 qb4 qc0 qc1 qc2 qc3 qc4); have qa0 := HB.out.b0.cell 0; have qa1 := HB.out.b0.cell 1; have qa2 := HB.out.b0.cell 2; have qa3 := HB.out.b0.cell 3; have qa4 := HB.out.b0.cell 4; have qb0 := HB.out.b1.cell 0; have qb1 := HB.out.b1.cell 1; have qb2 := HB.out.b1.cell 2; have qb3 := HB.out.b1.cell 3; have qb4 := HB.out.b1.cell 4; have qc0 := HB.out.b2.cell 0; have qc1 := HB.out.b2.cell 1; have qc2 := HB.out.b2.cell 2; have qc3 := HB.out.b2.cell 3; have qc4 := HB.out.b2.cell 4; simp only [List.getElem?_toArray, List.getElem?_cons_succ, List.getElem?_cons_zero] at qa0 qa1 qa2 qa3 qa4 qb0 qb1 qb2 qb3 qb4 qc0 qc1 qc2 qc3 qc4)
      | (go_at_call 22; with_reducible refine (HRab.out _ HB.out.below).mono ?_; rintro e w1 ⟨rfl, hb⟩; have HBn := Lib.hid (HB.out.step hb); clear HB hb; have HB := HBn; clear HBn; (try clear qa0 qa1 qa2 qa3 qa4 qb0 qb1 qb2 qb3 qb4 qc0 qc1 qc2 qc3 qc4); have qa0 := HB.out.b0.cell 0; have qa1 := HB.out.b0.cell 1; have qa2 := HB.out.b0.cell 2; have qa3 := HB.out.b0.cell 3; have qa4 := HB.out.b0.cell 4; have qb0 := HB.out.b1.cell 0; have qb1 := HB.out.b1.cell 1; have qb2 := HB.out.b1.cell 2; have qb3 := HB.out.b1.cell 3; have qb4 := HB.out.b1.cell 4; have qc0 := HB.out.b2.cell 0; have qc1 := HB.out.b2.cell 1; have qc2 := HB.out.b2.cell 2; have qc3 := HB.out.b2.cell 3; have qc4 := HB.out.b2.cell 4; simp only [List.getElem?_toArray, List.getElem?_cons_succ, List.getElem?_cons_zero] at qa0 qa1 qa2 qa3 qa4 qb0 qb1 qb2 qb3 qb4 qc0 qc1 qc2 qc3 qc4))
    go_ret
    exact ⟨rfl, HB.out.below⟩
  · obtain rfl := HYZ.out rfl
    go_wp2_with (first
      | (refine boxLoad 25 5 size5 Try.underlying25 rfl _ rfl w.heap.size rfl (cs := [a0, a1, a2, a3, a4]) HB.out.b0 rfl ?_)
      | (refine boxLoad 25 5 size5 Try.underlying25 rfl _ rfl (w.heap.size + 1) rfl (cs := [b0, b1, b2, b3, b4]) HB.out.b1 rfl ?_)
      | (refine boxLoad 25 5 size5 Try.underlying25 rfl _ rfl (w.heap.size + 1 + 1) rfl (cs := [c0, c1, c2, c3, c4]) HB.out.b2 rfl ?_)
      | (go_at_call 10; with_reducible refine (awake_any _).mono ?_; rintro e w1 ⟨rfl, hb⟩; have HBn := Lib.hid (HB.out.step hb); clear HB hb; have HB := HBn; clear HBn; (try clear qa0 qa1 qa2 qa3 qa4 qb0 qb1 qb2 qb3 qb4 qc0 qc1 qc2 qc3 qc4); have qa0 := HB.out.b0.cell 0; have qa1 := HB.out.b0.cell 1; have qa2 := HB.out.b0.cell 2; have qa3 := HB.out.b0.cell 3; have qa4 := HB.out.b0.cell 4; have qb0 := HB.out.b1.cell 0; have qb1 := HB.out.b1.cell 1; have qb2 := HB.out.b1.cell 2; have qb3 := HB.out.b1.cell 3; have qb4 := HB.out.b1.cell 4; have qc0 := HB.out.b2.cell 0; have qc1 := HB.out.b2.cell 1; have qc2 := HB.out.b2.cell 2; have qc3 := HB.out.b2.cell 3; have qc4 := HB.out.b2.cell 4; simp only [List.getElem?_toArray, List.getElem?_cons_succ, List.getElem?_cons_zero] at qa0 qa1 qa2 qa3 qa4 qb0 qb1 qb2 qb3 qb4 qc0 qc1 qc2 qc3 qc4)
      | (go_at_call 11; with_reducible refine (HNa.out _ HB.out.below).mono ?_; rintro e w1 ⟨rfl, hb⟩; have HBn := Lib.hid (HB.out.step hb); clear HB hb; have HB := HBn; clear HBn; (try clear qa0 qa1 qa2 qa3 qa4 qb0 qb1 qb2 qb3 qb4 qc0 qc1 qc2 qc3 qc4); have qa0 := HB.out.b0.cell 0; have qa1 := HB.out.b0.cell 1; have qa2 := HB.out.b0.cell 2; have qa3 := HB.out.b0.cell 3; have qa4 := HB.out.b0.cell 4; have qb0 := HB.out.b1.cell 0; have qb1 := HB.out.b1.cell 1; have qb2 := HB.out.b1.cell 2; have qb3 := HB.out.b1.cell 3; have qb4 := HB.out.b1.cell 4; have qc0 := HB.out.b2.cell 0; have qc1 := HB.out.b2.cell 1; have qc2 := HB.out.b2.cell 2; have qc3 := HB.out.b2.cell 3; have qc4 := HB.out.b2.cell 4; simp only [List.getElem?_toArray, List.getElem?_cons_succ, List.getElem?_cons_zero] at qa0 qa1 qa2 qa3 qa4 qb0 qb1 qb2 qb3 qb4 qc0 qc1 qc2 qc3 qc4)
      | (go_at_call 11; with_reducible refine (HNb.out _ HB.out.below).mono ?_; rintro e w1 ⟨rfl, hb⟩; have HBn := Lib.hid (HB.out.step hb); clear HB hb; have HB := HBn; clear HBn; (try clear qa0 qa1 qa2 qa3 qa4 qb0 qb1 qb2 qb3 qb4 qc0 qc1 qc2 qc3 qc4); have qa0 := HB.out.b0.cell 0; have qa1 := HB.out.b0.cell 1; have qa2 := HB.out.b0.cell 2; have qa3 := HB.out.b0.cell 3; have qa4 := HB.out.b0.cell 4; have qb0 := HB.out.b1.cell 0; have qb1 := HB.out.b1.cell 1; have qb2 := HB.out.b1.cell 2; have qb3 := HB.out.b1.cell 3; have qb4 := HB.out.b1.cell 4; have qc0 := HB.out.b2.cell 0; have qc1 := HB.out.b2.cell 1; have qc2 := HB.out.b2.cell 2; have qc3 := HB.out.b2.cell 3; have qc4 := HB.out.b2.cell 4; simp only [List.getElem?_toArray, List.getElem?_cons_succ, List.getElem?_cons_zero] at qa0 qa1 qa2 qa3 qa4 qb0 qb1 qb2 qb3 qb4 qc0 qc1 qc2 qc3 qc4)
      | (go_at_call 11; with_reducible refine (HNc.out _ HB.out.below).mono ?_; rintro e w1 ⟨rfl, hb⟩; have HBn := Lib.hid (HB.out.step hb); clear HB hb; have HB := HBn; clear HBn; (try clear qa0 qa1 qa2 qa3 qa4 qb0 qb1 qb2 qb3 qb4 qc0 qc1 qc2 qc3 qc4); have qa0 := HB.out.b0.cell 0; have qa1 := HB.out.b0.cell 1; have qa2 := HB.out.b0.cell 2; have qa3 := HB.out.b0.cell 3; have qa4 := HB.out.b0.cell 4; have qb0 := HB.out.b1.cell 0; have qb1 := HB.out.b1.cell 1; have qb2 := HB.out.b1.cell 2; have qb3 := HB.out.b1.cell 3; have qb4 := HB.out.b1.cell 4; have qc0 := HB.out.b2.cell 0; have qc1 := HB.out.b2.cell 1; have qc2 := HB.out.b2.cell 2; have qc3 := HB.out.b2.cell 3; have qc4 := HB.out.b2.cell 4; simp only [List.getElem?_toArray, List.getElem?_cons_succ, List.getElem?_cons_zero] at qa0 qa1 qa2 qa3 qa4 qb0 qb1 qb2 qb3 qb4 qc0 qc1 qc2 qc3 qc4)
      | (go_at_call 21; with_reducible refine (HSab.out _ HB.out.below).mono ?_; rintro e w1 ⟨rfl, hb⟩; have HBn := Lib.hid (HB.out.step hb); clear HB hb; have HB := HBn; clear HBn; (try clear qa0 qa1 qa2 qa3 qa4 qb0 qb1 qb2 qb3 qb4 qc0 qc1 qc2 qc3 qc4); have qa0 := HB.out.b0.cell 0; have qa1 := HB.out.b0.cell 1; have qa2 := HB.out.b0.cell 2; have qa3 := HB.out.b0.cell 3; have qa4 := HB.out.b0.cell 4; have qb0 := HB.out.b1.cell 0; have qb1 := HB.out.b1.cell 1; have qb2 := HB.out.b1.cell 2; have qb3 := HB.out.b1.cell 3; have qb4 := HB.out.b1.cell 4; have qc0 := HB.out.b2.cell 0; have qc1 := HB.out.b2.cell 1; have qc2 := HB.out.b2.cell 2; have qc3 := HB.out.b2.cell 3; have qc4 := HB.out.b2.cell 4; simp only [List.getElem?_toArray, List.getElem?_cons_succ, List.getElem?_cons_zero] at qa0 qa1 qa2 qa3 qa4 qb0 qb1 qb2 qb3 qb4 qc0 qc1 qc2 qc3 qc4)
      | (go_at_call 21; with_reducible refine (HSbc.out _ HB.out.below).mono ?_; rintro e w1 ⟨rfl, hb⟩; have HBn := Lib.hid (HB.out.step hb); clear HB hb; have HB := HBn; clear HBn; (try clear qa0 qa1 qa2 qa3 qa4 qb0 qb1 qb2 qb3 qb4 qc0 qc1 qc2 qc3 qc4); have qa0 := HB.out.b0.cell 0; have qa1 := HB.out.b0.cell 1; have qa2 := HB.out.b0.cell 2; have qa3 := HB.out.b0.cell 3; have qa4 := HB.out.b0.cell 4; have qb0 := HB.out.b1.cell 0; have qb1 := HB.out.b1.cell 1; have qb2 := HB.out.b1.cell 2; have qb3 := HB.out.b1.cell 3; have qb4 := HB.out.b1.cell 4; have qc0 := HB.out.b2.cell 0; have qc1 := HB.out.b2.cell 1; have qc2 := HB.out.b2.cell 2; have qc3 := HB.out.b2.cell 3; have qc4 := HB.out.b2.cell 4; simp only [List.getElem?_toArray, List.getElem?_cons_succ, List.getElem?_cons_zero] at qa0 qa1 qa2 qa3 qa4 qb0 qb1 qb2 qb3 qb4 qc0 qc1 qc2 qc3 qc4)
      | (go_at_call 21; with_reducible refine (HSac.out _ HB.out.below).mono ?_; rintro e w1 ⟨rfl, hb⟩; have HBn := Lib.hid (HB.out.step hb); clear HB hb; have HB := HBn; clear HBn; (try clear qa0 qa1 qa2 qa3 qa4 qb0 qb1 qb2 qb3 qb4 qc0 qc1 qc2 qc3 qc4); have qa0 := HB.out.b0.cell 0; have qa1 := HB.out.b0.cell 1; have qa2 := HB.out.b0.cell 2; have qa3 := HB.out.b0.cell 3; have qa4 := HB.out.b0.cell 4; have qb0 := HB.out.b1.cell 0; have qb1 := HB.out.b1.cell 1; have qb2 := HB.out.b1.cell 2; have qb3 := HB.out.b1.cell 3; have qb4 := HB.out.b1.cell 4; have qc0 := HB.out.b2.cell 0; have qc1 := HB.out.b2.cell 1; have qc2 := HB.out.b2.cell 2; have qc3 := HB.out.b2.cell 3; have qc4 := HB.out.b2.cell 4; simp only [List.getElem?_toArray, List.getElem?_cons_succ, List.getElem?_cons_zero] at qa0 qa1 qa2 qa3 qa4 qb0 qb1 qb2 qb3 qb4 qc0 qc1 qc2 qc3 qc4)
      | (go_at_call 21; with_reducible refine (HSba.out _ HB.out.below).mono ?_; rintro e w1 ⟨rfl, hb⟩; have HBn := Lib.hid (HB.out.step hb); clear HB hb; have HB := HBn; clear HBn; (try clear qa0 qa1 qa2 qa3 qa4 qb0 qb1 qb2 qb3 qb4 qc0 qc1 qc2 qc3 qc4); have qa0 := HB.out.b0.cell 0; have qa1 := HB.out.b0.cell 1; have qa2 := HB.out.b0.cell 2; have qa3 := HB.out.b0.cell 3; have qa4 := HB.out.b0.cell 4; have qb0 := HB.out.b1.cell 0; have qb1 := HB.out.b1.cell 1; have qb2 := HB.out.b1.cell 2; have qb3 := HB.out.b1.cell 3; have qb4 := HB.out.b1.cell 4; have qc0 := HB.out.b2.cell 0; have qc1 := HB.out.b2.cell 1; have qc2 := HB.out.b2.cell 2; have qc3 := HB.out.b2.cell 3; have qc4 := HB.out.b2.cell 4; simp only [List.getElem?_toArray, List.getElem?_cons_succ, List.getElem?_cons_zero] at qa0 qa1 qa2 qa3 qa4 qb0 qb1 qb2 qb3 qb4 qc0 qc1 qc2 qc3 qc4)
      | (go_at_call 21; with_reducible refine (HSaa.out _ HB.out.below).mono ?_; rintro e w1 ⟨rfl, hb⟩; have HBn := Lib.hid (HB.out.step hb); clear HB hb; have HB := HBn; clear HBn; (try clear qa0 qa1 qa2 qa3 qa4 qb0 qb1 qb2 qb3 qb4 qc0 qc1 qc2 qc3 qc4); have qa0 := HB.out.b0.cell 0; have qa1 := HB.out.b0.cell 1; have qa2 := HB.out.b0.cell 2; have qa3 := HB.out.b0.cell 3; have qa4 := HB.out.b0.cell 4; have qb0 := HB.out.b1.cell 0; have qb1 := HB.out.b1.cell 1; have qb2 := HB.out.b1.cell 2; have qb3 := HB.out.b1.cell 3; have qb4 := HB.out.b1.cell 4; have qc0 := HB.out.b2.cell 0; have qc1 := HB.out.b2.cell 1; have qc2 := HB.out.b2.cell 2; have qc3 := HB.out.b2.cell 3; have qc4 := HB.out.b2.cell 4; simp only [List.getElem?_toArray, List.getElem?_cons_succ, List.getElem?_cons_zero] at qa0 qa1 qa2 qa3 qa4 qb0 qb1 qb2 qb3 qb4 qc0 qc1 qc2 qc3 qc4)
      | (go_at_call 22; with_reducible refine (HRab.out _ HB.out.below).mono ?_; rintro e w1 ⟨rfl, hb⟩; have HBn := Lib.hid (HB.out.step hb); clear HB hb; have HB := HBn; clear HBn; (try clear qa0 qa1 qa2 qa3 qa4 qb0 qb1 qb2 qb3 qb4 qc0 qc1 qc2 qc3 qc4); have qa0 := HB.out.b0.cell 0; have qa1 := HB.out.b0.cell 1; have qa2 := HB.out.b0.cell 2; have qa3 := HB.out.b0.cell 3; have qa4 := HB.out.b0.cell 4; have qb0 := HB.out.b1.cell 0; have qb1 := HB.out.b1.cell 1; have qb2 := HB.out.b1.cell 2; have qb3 := HB.out.b1.cell 3; have qb4 := HB.out.b1.cell 4; have qc0 := HB.out.b2.cell 0; have qc1 := HB.out.b2.cell 1; have qc2 := HB.out.b2.cell 2; have qc3 := HB.out.b2.cell 3; have qc4 := HB.out.b2.cell 4; simp only [List.getElem?_toArray, List.getElem?_cons_succ, List.getElem?_cons_zero] at qa0 qa1 qa2 qa3 qa4 qb0 qb1 qb2 qb3 qb4 qc0 qc1 qc2 qc3 qc4))
    go_ret
    exact ⟨rfl, HB.out.below⟩

theorem laidOut : laidOutB Try.prog = true := by kernel_rfl
theorem own : ownKnob Try.prog.godebug = none := by kernel_rfl

theorem int_range {n : Int} (h : (Lit.int .i64 n).wf = true) : -9223372036854775808 ≤ n ∧ n ≤ 9223372036854775807 := by
  have h2 : IntKind.i64.min ≤ n ∧ n ≤ IntKind.i64.max := by
    unfold Lit.wf at h
    simpa only [Bool.and_eq_true, decide_eq_true_eq] using h
  rw [show IntKind.i64.min = -9223372036854775808 by decide, show IntKind.i64.max = 9223372036854775807 by decide] at h2
  exact h2

set_option maxRecDepth 100000 in
theorem lifted (os : Os) (started : os.Started) (H : Type) (enc : TypeId × Value → H) :
    ReturnsInHanded {} Try.checked os 5 .any (Rows.termSamesSpec.pre6 enc Try.prog Try.f5 Rows.termSamesRow.domain false) (Rows.termSamesSpec.post enc Try.prog Try.f5 false true false false) := by
  refine returnsInHanded_of_change_sized (C := Try.checked) own started (by kernel_rfl) Try.func5
    (ChangeSpec.witness6 (enc := enc) (C := Try.checked) false ⟨#[], #[.agg #[.int .i64 0, .string .empty, .string .empty, .int .i64 0, .slice none 0 0], .agg #[.int .i64 0, .string .empty, .string .empty, .int .i64 0, .slice none 0 0], .agg #[.int .i64 0, .string .empty, .string .empty, .int .i64 0, .slice none 0 0]], []⟩ 8 (by kernel_rfl) (by kernel_rfl) (by kernel_rfl) (by kernel_rfl)) ?_
  intro W base args ds gs before hval0 hW hcnd hsz _
  have hval : ∀ (j : Nat) t v, Try.f5.params[j]? = some t → args[j]? = some v → Value.okWide Try.prog W .any base t v := hval0
  have hW' := hW
  obtain ⟨p, q, hA0, hV, rfl, hfz, hnd⟩ := hW
  have hA : DataW.TrodAll enc Try.prog W 0 (fun _ => true) true Try.f5.params.toList args.toList ds p := hA0
  rw [Try.params5] at hA hval
  obtain ⟨v0, vs0, d0, ds0, p0, q0, hargs, rfl, rfl, h0, r0⟩ := trodAll_cons hA
  obtain ⟨v1, vs1, d1, ds1, p1, q1, rfl, rfl, rfl, h1, r1⟩ := trodAll_cons r0
  obtain ⟨v2, vs2, d2, ds2, p2, q2, rfl, rfl, rfl, h2, r2⟩ := trodAll_cons r1
  obtain ⟨rfl, rfl, rfl⟩ := trodAll_nil r2
  obtain rfl : args = #[v0, v1, v2] := by cases args; simp_all
  obtain ⟨rfl, rfl⟩ := trodVars_none hV
  have t0 := h0
  obtain ⟨fl0, k0⟩ := h0
  have lt0 : ∀ x ∈ p0, x.block < W.heap.size := fun x hx => by simpa using hW'.lt x (by simp [hx])
  obtain ⟨cc0, rfl, _⟩ := okWide_struct Try.underlying25 (hval 0 25 v0 rfl rfl)
  have kk0 : DataW.trod enc Try.prog W 0 (fun _ => true) true fl0 25 cc0.toList = some (d0, p0) := k0
  obtain ⟨y0, g0, s0⟩ := open_y fl0 _ _ kk0
  have m0 := s0 reachBytes (fun k hk => by simpa using List.all_eq_true.1 hsz k (DataW.weights_mem_each (j := 0) rfl rfl k hk))
  rw [show cc0.toList.toArray = cc0 by simp] at g0
  have t1 := h1
  obtain ⟨fl1, k1⟩ := h1
  have lt1 : ∀ x ∈ p1, x.block < W.heap.size := fun x hx => by simpa using hW'.lt x (by simp [hx])
  obtain ⟨cc1, rfl, _⟩ := okWide_struct Try.underlying25 (hval 1 25 v1 rfl rfl)
  have kk1 : DataW.trod enc Try.prog W 0 (fun _ => true) true fl1 25 cc1.toList = some (d1, p1) := k1
  obtain ⟨y1, g1, s1⟩ := open_y fl1 _ _ kk1
  have m1 := s1 reachBytes (fun k hk => by simpa using List.all_eq_true.1 hsz k (DataW.weights_mem_each (j := 1) rfl rfl k hk))
  rw [show cc1.toList.toArray = cc1 by simp] at g1
  have t2 := h2
  obtain ⟨fl2, k2⟩ := h2
  have lt2 : ∀ x ∈ p2, x.block < W.heap.size := fun x hx => by simpa using hW'.lt x (by simp [hx])
  obtain ⟨cc2, rfl, _⟩ := okWide_struct Try.underlying25 (hval 2 25 v2 rfl rfl)
  have kk2 : DataW.trod enc Try.prog W 0 (fun _ => true) true fl2 25 cc2.toList = some (d2, p2) := k2
  obtain ⟨y2, g2, s2⟩ := open_y fl2 _ _ kk2
  have m2 := s2 reachBytes (fun k hk => by simpa using List.all_eq_true.1 hsz k (DataW.weights_mem_each (j := 2) rfl rfl k hk))
  rw [show cc2.toList.toArray = cc2 by simp] at g2
  clear hA0 hval0
  simp only [List.append_nil] at hW'
  refine (walk y0 _ y1 _ y2 _ W g0 m0 g1 m1 g2 m2).mono fun e W' ⟨he, hg⟩ => ?_
  subst he
  exact ⟨_, rfl, _, _, _, [], _, [], hW', (trodAll_cons_mk (shut_bool Try.underlying4 _) trodAll_mk0), (trodAll_cons_mk (Below.trod laidOut (by kernel_rfl) (of_decide_eq_true (by kernel_rfl)) t0 hg lt0) (trodAll_cons_mk (Below.trod laidOut (by kernel_rfl) (of_decide_eq_true (by kernel_rfl)) t1 hg lt1) (trodAll_cons_mk (Below.trod laidOut (by kernel_rfl) (of_decide_eq_true (by kernel_rfl)) t2 hg lt2) trodAll_mk0))), rfl, hg.frame _, fun h => by cases h⟩

theorem over : Rows.termSamesRow.holds Try.pinned (OpenSpec.ofChange Rows.termSamesSpec) :=
  OpenClaim.holds_of_wide 5 Try.f5 rfl rfl rfl rfl rfl rfl rfl ⟨rfl, rfl, rfl, rfl, rfl⟩ rfl rfl rfl rfl rfl (by kernel_rfl) Try.func5 (by kernel_rfl)
    (of_decide_eq_true (by kernel_rfl)) (by unfold Func.isWrapper; first | (rw [if_pos (by decide +kernel)]; kernel_rfl) | (rw [if_neg (by decide +kernel)]; exact ⟨rfl, rfl⟩))
    (fun os started H enc _ => lifted os started H enc)

/-- TermSames answers true. -/
theorem proved : Rows.TermSamesSaid :=
  over

end Go.Proofs.Ytofdejoeheokjaa.termSames
