/-
  The boxes that a call begins with. No condition.
-/
import Derived.Test.YtmnhilgifjaocaaSma
import Derived.Test.YtmnhilgifjaocaaTsd
namespace Go.Proofs.Ytmnhilgifjaocaa
open Go.RowKit
open Go.Lib hiding intOf

theorem blkB {W W' : World} {k : Nat} {t : TypeId} {cs : Array Value} (h : Blk W k t cs) (hb : Below W.heap.size W W') : Blk W' k t cs := (hb.block k h.lt).trans h
/-- The boxes that were made first. -/
def BX (w W : World) (L : List (TypeId × Array Value)) : Prop := W.heap.size = w.heap.size + L.length ∧ Below w.heap.size w W ∧ ∀ (i : Nat) (x : TypeId × Array Value), L[i]? = some x → Blk W (w.heap.size + i) x.1 x.2
theorem BX.nil (w : World) : BX w w [] := ⟨rfl, Below.refl _ _, fun i x h => by simp at h⟩
theorem BX.snoc {w W : World} {L : List (TypeId × Array Value)} (h : BX w W L) (cs : Array Value) (t : TypeId) : BX w (W.alloc (.cells cs t)) (L ++ [(t, cs)]) := by
  refine ⟨by rw [World.size_alloc, h.1, List.length_append]; simp; omega, h.2.1.alloc (by rw [h.1]; omega) _, fun i x hx => ?_⟩
  by_cases hi : i < L.length
  · rw [List.getElem?_append_left hi] at hx
    exact (h.2.2 i x hx).kept (World.grownBy_alloc _ _ none) (by simp)
  · rw [List.getElem?_append_right (by omega)] at hx
    have : i - L.length = 0 := by
      have := (List.getElem?_eq_some_iff.1 hx).1
      simp at this
      omega
    rw [this] at hx
    simp only [List.getElem?_cons_zero, Option.some.injEq] at hx
    subst hx
    have := Blk.new W t cs
    rw [h.1] at this
    rwa [show i = L.length by omega]
theorem BX.at_ {w W wr : World} {L : List (TypeId × Array Value)} (h : BX w W L) (hB : Below W.heap.size W wr) (i : Nat) {t : TypeId} {cs : Array Value} (hx : L[i]? = some (t, cs)) : Blk wr (w.heap.size + i) t cs := blkB (h.2.2 i _ hx) hB
theorem BX.below {w W wr : World} {L : List (TypeId × Array Value)} (h : BX w W L) (hB : Below W.heap.size W wr) : Below w.heap.size w wr := h.2.1.trans (hB.mono (by rw [h.1]; omega))
theorem bx1 (w : World) (c0 : Array Value) (t0 : TypeId) : ∃ W, w.alloc (.cells c0 t0) = W ∧ Hid (BX w W [(t0, c0)]) := ⟨_, rfl, (BX.nil w).snoc _ _⟩
theorem bx2 (w : World) (c0 c1 : Array Value) (t0 t1 : TypeId) : ∃ W, (w.alloc (.cells c0 t0)).alloc (.cells c1 t1) = W ∧ Hid (BX w W [(t0, c0), (t1, c1)]) := ⟨_, rfl, ((BX.nil w).snoc _ _).snoc _ _⟩
theorem bx3 (w : World) (c0 c1 c2 : Array Value) (t0 t1 t2 : TypeId) : ∃ W, ((w.alloc (.cells c0 t0)).alloc (.cells c1 t1)).alloc (.cells c2 t2) = W ∧ Hid (BX w W [(t0, c0), (t1, c1), (t2, c2)]) := ⟨_, rfl, (((BX.nil w).snoc _ _).snoc _ _).snoc _ _⟩
theorem at0 {w : World} {a : Addr} {u : Value} (h : w.cell? (a.add 0) = some u) : w.cell? a = some u := by
  rwa [show a.add 0 = a by unfold Addr.add; split <;> simp_all] at h
theorem atS {w : World} {a : Addr} {n : Nat} {u : Value} (h : w.cell? (a.add (n + 1)) = some u) : w.cell? ⟨a.block, a.off + (n + 1), none⟩ = some u := by
  rwa [show a.add (n + 1) = ⟨a.block, a.off + (n + 1), none⟩ by unfold Addr.add; simp] at h
theorem far1 {w : World} {p q : Addr} {u v : Value} (h : w.cell? p = some u) (hp : ¬ p.block = q.block) : (w.setCell q v).cell? p = some u := (World.cell?_of_block (Below.heap_setCell w q v p.block hp)).trans h
theorem far4 {w : World} {B : Nat} {p : Addr} {u v0 v1 v2 v3 : Value} (h : w.cell? p = some u) (hp : ¬ p.block = B) : ((((w.setCell ⟨B, 0, none⟩ v0).setCell ⟨B, 1, none⟩ v1).setCell ⟨B, 2, none⟩ v2).setCell ⟨B, 3, none⟩ v3).cell? p = some u := far1 (far1 (far1 (far1 h hp) hp) hp) hp
theorem below4 {B g : Nat} {w V : World} (h : Below B w V) (hg : B ≤ g) (v0 v1 v2 v3 : Value) : Below B w ((((V.setCell ⟨g, 0, none⟩ v0).setCell ⟨g, 1, none⟩ v1).setCell ⟨g, 2, none⟩ v2).setCell ⟨g, 3, none⟩ v3) := (((h.setCell hg v0).setCell hg v1).setCell hg v2).setCell hg v3
theorem below5 {B g : Nat} {w V : World} (h : Below B w V) (hg : B ≤ g) (v0 v1 v2 v3 v4 : Value) : Below B w (((((V.setCell ⟨g, 0, none⟩ v0).setCell ⟨g, 1, none⟩ v1).setCell ⟨g, 2, none⟩ v2).setCell ⟨g, 3, none⟩ v3).setCell ⟨g, 4, none⟩ v4) := (below4 h hg v0 v1 v2 v3).setCell hg v4
theorem IsTd.set4 {w V : World} {g : Nat} {d : TD} {c : List Value} (h : IsTd w d c) (hb : Below w.heap.size w V) (hg : w.heap.size ≤ g) (v0 v1 v2 v3 : Value) : IsTd ((((V.setCell ⟨g, 0, none⟩ v0).setCell ⟨g, 1, none⟩ v1).setCell ⟨g, 2, none⟩ v2).setCell ⟨g, 3, none⟩ v3) d c := h.below (below4 hb hg v0 v1 v2 v3)
theorem mvc {w W : World} {A : Addr} {c : List Value} (hb : Below w.heap.size w W) (hc : ∀ (j : Nat) (u : Value), c[j]? = some u → w.cell? (A.add j) = some u) (j : Nat) (u : Value) (h : c[j]? = some u) : W.cell? (A.add j) = some u := cells_below hb _ _ (hc j u h)
theorem stepB {B : Nat} {w W w' : World} (h : Below B w W) (hb : Below W.heap.size W w') (hB : B ≤ w.heap.size) : Below B w w' := h.trans (hb.mono (Nat.le_trans hB h.size))
theorem find_none {α : Type} {p : α → Bool} {l : List α} (h : ∀ (i : Nat) (x : α), l[i]? = some x → p x = false) : l.find? p = none := by
  rw [List.find?_eq_none]
  intro x hx
  obtain ⟨i, hi⟩ := List.getElem?_of_mem hx
  rw [h i x hi]
  simp
theorem find_at {α : Type} {p : α → Bool} : ∀ {l : List α} {j : Nat} {y : α}, l[j]? = some y → p y = true → (∀ (i : Nat) (x : α), i < j → l[i]? = some x → p x = false) → l.find? p = some y
  | [], j, y, h, _, _ => by simp at h
  | x :: r, 0, y, h, hp, _ => by
    simp only [List.getElem?_cons_zero, Option.some.injEq] at h
    subst h
    rw [List.find?_cons_of_pos hp]
  | x :: r, j + 1, y, h, hp, hb => by
    rw [List.find?_cons_of_neg (by rw [hb 0 x (by omega) rfl]; simp)]
    exact find_at (l := r) (j := j) (by simpa using h) hp fun i z hi hz => hb (i + 1) z (by omega) (by simpa using hz)
end Go.Proofs.Ytmnhilgifjaocaa
