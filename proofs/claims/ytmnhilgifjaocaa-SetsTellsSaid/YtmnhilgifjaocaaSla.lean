/-
  Rows of types that a statement lays; four boxes. No condition.
-/
import Derived.Test.YtmnhilgifjaocaaSwc
namespace Go.Proofs.Ytmnhilgifjaocaa
open Go.RowKit
open Go.Lib hiding intOf

theorem bx4 (w : World) (c0 c1 c2 c3 : Array Value) (t0 t1 t2 t3 : TypeId) : ∃ W, (((w.alloc (.cells c0 t0)).alloc (.cells c1 t1)).alloc (.cells c2 t2)).alloc (.cells c3 t3) = W ∧ Hid (BX w W [(t0, c0), (t1, c1), (t2, c2), (t3, c3)]) := ⟨_, rfl, ((((BX.nil w).snoc _ _).snoc _ _).snoc _ _).snoc _ _⟩
theorem addk (k j : Nat) : (⟨k, 0, none⟩ : Addr).add j = ⟨k, j, none⟩ := by unfold Addr.add; split <;> simp_all
theorem rowY1 {W : World} {k : Nat} {a0 a1 a2 a3 a4 : Value} {x : GY} (b : Blk W k 29 #[a0, a1, a2, a3, a4]) (hx : IsY W x (.agg #[a0, a1, a2, a3, a4])) : IsYs W (some ⟨k, 0, none⟩) 0 [x] := IsYs.mk' fun i y hy => by
  have hi : i = 0 := by have := (List.getElem?_eq_some_iff.1 hy).1; simpa using this
  subst hi
  obtain rfl : x = y := by simpa using hy
  refine ⟨_, _, _, _, _, fun j v h' => ?_, hx⟩
  rw [addk, b.cell]
  match j, h' with
  | 0, h => exact h
  | 1, h => exact h
  | 2, h => exact h
  | 3, h => exact h
  | 4, h => exact h
  | j + 5, h => simp at h
theorem rowY2 {W : World} {k : Nat} {a0 a1 a2 a3 a4 b0 b1 b2 b3 b4 : Value} {x y : GY} (b : Blk W k 29 #[a0, a1, a2, a3, a4, b0, b1, b2, b3, b4]) (hx : IsY W x (.agg #[a0, a1, a2, a3, a4])) (hy : IsY W y (.agg #[b0, b1, b2, b3, b4])) : IsYs W (some ⟨k, 0, none⟩) 0 [x, y] := IsYs.mk' fun i z hz => by
  match i, hz with
  | 0, hz =>
    obtain rfl : x = z := by simpa using hz
    refine ⟨_, _, _, _, _, fun j v h' => ?_, hx⟩
    rw [addk, b.cell]
    match j, h' with
    | 0, h => exact h
    | 1, h => exact h
    | 2, h => exact h
    | 3, h => exact h
    | 4, h => exact h
    | j + 5, h => simp at h
  | 1, hz =>
    obtain rfl : y = z := by simpa using hz
    refine ⟨_, _, _, _, _, fun j v h' => ?_, hy⟩
    rw [addk, b.cell]
    match j, h' with
    | 0, h => exact h
    | 1, h => exact h
    | 2, h => exact h
    | 3, h => exact h
    | 4, h => exact h
    | j + 5, h => simp at h
  | i + 2, hz => simp at hz
theorem rowY3 {W : World} {k : Nat} {a0 a1 a2 a3 a4 b0 b1 b2 b3 b4 c0 c1 c2 c3 c4 : Value} {x y z : GY} (b : Blk W k 29 #[a0, a1, a2, a3, a4, b0, b1, b2, b3, b4, c0, c1, c2, c3, c4]) (hx : IsY W x (.agg #[a0, a1, a2, a3, a4])) (hy : IsY W y (.agg #[b0, b1, b2, b3, b4])) (hz : IsY W z (.agg #[c0, c1, c2, c3, c4])) : IsYs W (some ⟨k, 0, none⟩) 0 [x, y, z] := IsYs.mk' fun i u hu => by
  match i, hu with
  | 0, hu =>
    obtain rfl : x = u := by simpa using hu
    refine ⟨_, _, _, _, _, fun j v h' => ?_, hx⟩
    rw [addk, b.cell]
    match j, h' with
    | 0, h => exact h
    | 1, h => exact h
    | 2, h => exact h
    | 3, h => exact h
    | 4, h => exact h
    | j + 5, h => simp at h
  | 1, hu =>
    obtain rfl : y = u := by simpa using hu
    refine ⟨_, _, _, _, _, fun j v h' => ?_, hy⟩
    rw [addk, b.cell]
    match j, h' with
    | 0, h => exact h
    | 1, h => exact h
    | 2, h => exact h
    | 3, h => exact h
    | 4, h => exact h
    | j + 5, h => simp at h
  | 2, hu =>
    obtain rfl : z = u := by simpa using hu
    refine ⟨_, _, _, _, _, fun j v h' => ?_, hz⟩
    rw [addk, b.cell]
    match j, h' with
    | 0, h => exact h
    | 1, h => exact h
    | 2, h => exact h
    | 3, h => exact h
    | 4, h => exact h
    | j + 5, h => simp at h
  | i + 3, hu => simp at hu
end Go.Proofs.Ytmnhilgifjaocaa
