/-
  The parser's state in memory, and what a call leaves of the blocks that were there. No condition.
-/
import Derived.Test.YtlgaphopjdeklaaGreatU11
import Derived.Test.YtlgaphopjdeklaaGreatU09
import Derived.WalkMore
namespace Go.Proofs.YtlgaphopjdeklaaGreat
open Go.RowKit
open Go.Lib hiding intOf
/-- Of what was there nothing has turned but one block. -/
structure Kp (b : Nat) (w w' : World) : Prop where
  os : w'.os = w.os
  tape : w'.tape = w.tape
  output : w'.output = w.output
  size : w.heap.size ≤ w'.heap.size
  block : ∀ k, k < w.heap.size → k ≠ b → w'.heap[k]? = w.heap[k]?
theorem Kp.refl (b : Nat) (w : World) : Kp b w w := ⟨rfl, rfl, rfl, Nat.le_refl _, fun _ _ _ => rfl⟩
theorem Kp.trans {b : Nat} {x y z : World} (h : Kp b x y) (k : Kp b y z) : Kp b x z :=
  ⟨k.os.trans h.os, k.tape.trans h.tape, k.output.trans h.output, Nat.le_trans h.size k.size, fun i hi hb => (k.block i (Nat.lt_of_lt_of_le hi h.size) hb).trans (h.block i hi hb)⟩
theorem Kp.of_below {b : Nat} {w w' : World} (h : Below w.heap.size w w') : Kp b w w' := ⟨h.os, h.tape, h.output, h.size, fun k hk _ => h.block k hk⟩
theorem Kp.below {b : Nat} {w w' : World} (h : Kp b w w') (hb : b ≤ w.heap.size) : Below b w w' := ⟨h.os, h.tape, h.output, h.size, fun k hk => h.block k (by omega) (by omega)⟩
theorem Kp.alloc {b : Nat} {w W : World} (h : Kp b w W) (o : Obj) : Kp b w (W.alloc o) := h.trans (.of_below ((Below.refl _ _).alloc (Nat.le_refl _) o))
theorem Kp.drew {b : Nat} {w W : World} (h : Kp b w W) : Kp b w W.drew := ⟨h.os, h.tape, h.output, h.size, h.block⟩
theorem Kp.undrew {b : Nat} {w W : World} (h : Kp b w.drew W) : Kp b w W := ⟨h.os, h.tape, h.output, h.size, h.block⟩
theorem Kp.drewN {b : Nat} {w W : World} (h : Kp b w W) (n : Nat) : Kp b w (W.drewN n) := ⟨h.os, h.tape, h.output, h.size, h.block⟩
theorem Kp.then_below {b : Nat} {w W W' : World} (h : Kp b w W) (k : Below W.heap.size W W') : Kp b w W' := h.trans (.of_below k)
theorem Kp.then_base {b : Nat} {w W W' : World} (h : Kp b w W) (k : Below w.heap.size W W') : Kp b w W' :=
  ⟨k.os.trans h.os, k.tape.trans h.tape, k.output.trans h.output, Nat.le_trans h.size k.size, fun i hi hb => (k.block i hi).trans (h.block i hi hb)⟩
/-- A store into the one block, or into a block that is new. -/
theorem Kp.setCell {b : Nat} {w W : World} (h : Kp b w W) {p : Addr} (hp : w.heap.size ≤ p.block ∨ p.block = b) (u : Value) : Kp b w (W.setCell p u) :=
  ⟨h.os, h.tape, h.output, by have := h.size; simpa [World.setCell] using this, fun k hk hb => (Below.heap_setCell W p u k (by omega)).trans (h.block k hk hb)⟩
theorem Kp.grown {b : Nat} {w W W' : World} {row : Option Nat} (h : Kp b w W) (hg : W.grownBy W' row) (hr : ∀ k, row = some k → w.heap.size ≤ k) : Kp b w W' :=
  ⟨hg.os.trans h.os, hg.tape.trans h.tape, hg.output.trans h.output, Nat.le_trans h.size hg.size, fun k hk hb => (hg.block k (Nat.lt_of_lt_of_le hk h.size) (fun e => by have := hr k e.symm; omega)).trans (h.block k hk hb)⟩
/-- What a store of a token leaves; what a store of an expression leaves. -/
def set4 (W : World) (r : Nat) (v0 v1 v2 v3 : Value) : World := (((W.setCell ⟨r, 0, none⟩ v0).setCell ⟨r, 1, none⟩ v1).setCell ⟨r, 2, none⟩ v2).setCell ⟨r, 3, none⟩ v3
theorem set4_below {B : Nat} {a W : World} (h : Below B a W) {r : Nat} (hr : B ≤ r) (v0 v1 v2 v3 : Value) : Below B a (set4 W r v0 v1 v2 v3) :=
  (((h.setCell hr _).setCell hr _).setCell hr _).setCell hr _
theorem set4_kp {b : Nat} {a W : World} (h : Kp b a W) {r : Nat} (hr : a.heap.size ≤ r ∨ r = b) (v0 v1 v2 v3 : Value) : Kp b a (set4 W r v0 v1 v2 v3) :=
  (((h.setCell hr _).setCell hr _).setCell hr _).setCell hr _
def set11 (W : World) (r : Nat) (v0 v1 v2 v3 v4 v5 v6 v7 v8 v9 v10 : Value) : World :=
  ((((((((((W.setCell ⟨r, 0, none⟩ v0).setCell ⟨r, 1, none⟩ v1).setCell ⟨r, 2, none⟩ v2).setCell ⟨r, 3, none⟩ v3).setCell ⟨r, 4, none⟩ v4).setCell ⟨r, 5, none⟩ v5).setCell ⟨r, 6, none⟩ v6).setCell ⟨r, 7, none⟩ v7).setCell ⟨r, 8, none⟩ v8).setCell ⟨r, 9, none⟩ v9).setCell ⟨r, 10, none⟩ v10
theorem set11_kp {b : Nat} {a W : World} (h : Kp b a W) {r : Nat} (hr : a.heap.size ≤ r ∨ r = b) (v0 v1 v2 v3 v4 v5 v6 v7 v8 v9 v10 : Value) : Kp b a (set11 W r v0 v1 v2 v3 v4 v5 v6 v7 v8 v9 v10) :=
  ((((((((((h.setCell hr _).setCell hr _).setCell hr _).setCell hr _).setCell hr _).setCell hr _).setCell hr _).setCell hr _).setCell hr _).setCell hr _).setCell hr _
theorem Blk.kp {b : Nat} {W W' : World} {k : Nat} {t : TypeId} {cs : Array Value} (h : Blk W k t cs) (hk : Kp b W W') (hb : k ≠ b) : Blk W' k t cs := (hk.block k h.lt hb).trans h
theorem add_block (a : Addr) (n : Nat) : (a.add n).block = a.block := by
  unfold Addr.add
  split <;> rfl
/-- In blocks from B on. -/
abbrev IsEX (B : Nat) (w : World) (x : EX) (v : Value) : Prop := IsEP (fun k => B ≤ k) w x v
theorem IsEX.mono {B B' : Nat} (hB : B' ≤ B) {w : World} {x : EX} {v : Value} (h : IsEX B w x v) : IsEX B' w x v := h.keep (fun _ _ _ h _ => Nat.le_trans hB h) fun _ _ _ _ hc => hc
theorem IsEX.kp {b B : Nat} {w w' : World} {x : EX} {v : Value} (h : IsEX B w x v) (hk : Kp b w w') (hb : b < B) : IsEX B w' x v :=
  h.keep (fun _ _ _ h _ => h) fun k i u hP hc => by
    have e : w'.heap[k]? = w.heap[k]? := hk.block k (World.block_lt_of_cell? w ⟨k, i, none⟩ hc) (by omega)
    exact (World.cell?_of_block (w := w) (a := ⟨k, i, none⟩) e).trans hc
theorem IsEP.set_ {P : Nat → Prop} {w : World} {x : EX} {v : Value} (h : IsEP P w x v) {p : Addr} (hp : ¬ P p.block) (u : Value) : IsEP P (w.setCell p u) x v :=
  h.keep (fun _ _ _ h _ => h) fun b i u' hb hc => by
    have e : (w.setCell p u).heap[b]? = w.heap[b]? := Below.heap_setCell w p u b (fun e => hp (e ▸ hb))
    exact (World.cell?_of_block (w := w) (a := ⟨b, i, none⟩) e).trans hc
theorem IsEX.set11 {B : Nat} {w : World} {x : EX} {v : Value} (h : IsEX B w x v) {r : Nat} (hr : r < B) (v0 v1 v2 v3 v4 v5 v6 v7 v8 v9 v10 : Value) : IsEX B (set11 w r v0 v1 v2 v3 v4 v5 v6 v7 v8 v9 v10) x v :=
  ((((((((((IsEP.set_ h (p := ⟨r, 0, none⟩) (by simp only; omega) _).set_ (p := ⟨r, 1, none⟩) (by simp only; omega) _).set_ (p := ⟨r, 2, none⟩) (by simp only; omega) _).set_ (p := ⟨r, 3, none⟩) (by simp only; omega) _).set_ (p := ⟨r, 4, none⟩) (by simp only; omega) _).set_ (p := ⟨r, 5, none⟩) (by simp only; omega) _).set_ (p := ⟨r, 6, none⟩) (by simp only; omega) _).set_ (p := ⟨r, 7, none⟩) (by simp only; omega) _).set_ (p := ⟨r, 8, none⟩) (by simp only; omega) _).set_ (p := ⟨r, 9, none⟩) (by simp only; omega) _).set_ (p := ⟨r, 10, none⟩) (by simp only; omega) _
theorem IsEX.drewN {B : Nat} {w : World} {x : EX} {v : Value} (h : IsEX B w x v) (n : Nat) : IsEX B (w.drewN n) x v := IsEP.below h (below_drewN (Below.refl _ _) n)
theorem IsEX.set_ {B : Nat} {w : World} {x : EX} {v : Value} (h : IsEX B w x v) {p : Addr} (hp : p.block < B) (u : Value) : IsEX B (w.setCell p u) x v := IsEP.set_ h (by omega) u
theorem set11_size (W : World) (r : Nat) (v0 v1 v2 v3 v4 v5 v6 v7 v8 v9 v10 : Value) : (set11 W r v0 v1 v2 v3 v4 v5 v6 v7 v8 v9 v10).heap.size = W.heap.size := by simp [set11, World.setCell]
theorem IsEP.mono {P P' : Nat → Prop} {w : World} {x : EX} {v : Value} (hP : ∀ k, k < w.heap.size → P k → P' k) (h : IsEP P w x v) : IsEP P' w x v :=
  h.keep (fun b i _ hb hc => hP b (World.block_lt_of_cell? w ⟨b, i, none⟩ hc) hb) fun _ _ _ _ hc => hc
theorem IsEP.kp {P : Nat → Prop} {b : Nat} {w w' : World} {x : EX} {v : Value} (h : IsEP P w x v) (hk : Kp b w w') (hb : ¬ P b) : IsEP P w' x v :=
  h.keep (fun _ _ _ h _ => h) fun k i u hP hc => by
    have e : w'.heap[k]? = w.heap[k]? := hk.block k (World.block_lt_of_cell? w ⟨k, i, none⟩ hc) (fun e => hb (e ▸ hP))
    exact (World.cell?_of_block (w := w) (a := ⟨k, i, none⟩) e).trans hc
theorem IsEP.set11 {P : Nat → Prop} {w : World} {x : EX} {v : Value} (h : IsEP P w x v) {r : Nat} (hr : ¬ P r) (v0 v1 v2 v3 v4 v5 v6 v7 v8 v9 v10 : Value) : IsEP P (set11 w r v0 v1 v2 v3 v4 v5 v6 v7 v8 v9 v10) x v :=
  ((((((((((h.set_ (p := ⟨r, 0, none⟩) hr _).set_ (p := ⟨r, 1, none⟩) hr _).set_ (p := ⟨r, 2, none⟩) hr _).set_ (p := ⟨r, 3, none⟩) hr _).set_ (p := ⟨r, 4, none⟩) hr _).set_ (p := ⟨r, 5, none⟩) hr _).set_ (p := ⟨r, 6, none⟩) hr _).set_ (p := ⟨r, 7, none⟩) hr _).set_ (p := ⟨r, 8, none⟩) hr _).set_ (p := ⟨r, 9, none⟩) hr _).set_ (p := ⟨r, 10, none⟩) hr _
theorem IsEP.alloc {P : Nat → Prop} {w : World} {x : EX} {v : Value} (h : IsEP P w x v) (o : Obj) : IsEP P (w.alloc o) x v := h.below ((Below.refl _ _).alloc (Nat.le_refl _) o)
theorem IsEPs.kp {P : Nat → Prop} {b : Nat} {w w' : World} {o : Option Addr} {i : Nat} {xs : List EX} (h : IsEPs P w o i xs) (hk : Kp b w w') (hb : ¬ P b) : IsEPs P w' o i xs :=
  h.keep (fun _ _ _ h _ => h) fun k i u hP hc => by
    have e : w'.heap[k]? = w.heap[k]? := hk.block k (World.block_lt_of_cell? w ⟨k, i, none⟩ hc) (fun e => hb (e ▸ hP))
    exact (World.cell?_of_block (w := w) (a := ⟨k, i, none⟩) e).trans hc
theorem IsEPs.set_ {P : Nat → Prop} {w : World} {o : Option Addr} {i : Nat} {xs : List EX} (h : IsEPs P w o i xs) {p : Addr} (hp : ¬ P p.block) (u : Value) : IsEPs P (w.setCell p u) o i xs :=
  h.keep (fun _ _ _ h _ => h) fun b i u' hb hc => by
    have e : (w.setCell p u).heap[b]? = w.heap[b]? := Below.heap_setCell w p u b (fun e => hp (e ▸ hb))
    exact (World.cell?_of_block (w := w) (a := ⟨b, i, none⟩) e).trans hc
theorem blk_set11 {W : World} {r : Nat} {t : TypeId} {e0 e1 e2 e3 e4 e5 e6 e7 e8 e9 e10 : Value} (h : Blk W r t #[e0, e1, e2, e3, e4, e5, e6, e7, e8, e9, e10]) (v0 v1 v2 v3 v4 v5 v6 v7 v8 v9 v10 : Value) : Blk (set11 W r v0 v1 v2 v3 v4 v5 v6 v7 v8 v9 v10) r t #[v0, v1, v2, v3, v4, v5, v6, v7, v8, v9, v10] := by
  have h := ((((((((((h.set_ 0 v0).set_ 1 v1).set_ 2 v2).set_ 3 v3).set_ 4 v4).set_ 5 v5).set_ 6 v6).set_ 7 v7).set_ 8 v8).set_ 9 v9).set_ 10 v10
  unfold set11
  simpa only [List.setIfInBounds_toArray, List.set_cons_zero, List.set_cons_succ] using h
theorem blk_far11 {W : World} {k r : Nat} {t : TypeId} {cs : Array Value} (h : Blk W k t cs) (hr : k ≠ r) (v0 v1 v2 v3 v4 v5 v6 v7 v8 v9 v10 : Value) : Blk (set11 W r v0 v1 v2 v3 v4 v5 v6 v7 v8 v9 v10) k t cs :=
  ((((((((((h.far (p := ⟨r, 0, none⟩) hr _).far (p := ⟨r, 1, none⟩) hr _).far (p := ⟨r, 2, none⟩) hr _).far (p := ⟨r, 3, none⟩) hr _).far (p := ⟨r, 4, none⟩) hr _).far (p := ⟨r, 5, none⟩) hr _).far (p := ⟨r, 6, none⟩) hr _).far (p := ⟨r, 7, none⟩) hr _).far (p := ⟨r, 8, none⟩) hr _).far (p := ⟨r, 9, none⟩) hr _).far (p := ⟨r, 10, none⟩) hr _
theorem epsSet11 {P : Nat → Prop} {w : World} {o : Option Addr} {i : Nat} {xs : List EX} (h : IsEPs P w o i xs) {r : Nat} (hr : ¬ P r) (v0 v1 v2 v3 v4 v5 v6 v7 v8 v9 v10 : Value) : IsEPs P (set11 w r v0 v1 v2 v3 v4 v5 v6 v7 v8 v9 v10) o i xs :=
  ((((((((((h.set_ (p := ⟨r, 0, none⟩) hr _).set_ (p := ⟨r, 1, none⟩) hr _).set_ (p := ⟨r, 2, none⟩) hr _).set_ (p := ⟨r, 3, none⟩) hr _).set_ (p := ⟨r, 4, none⟩) hr _).set_ (p := ⟨r, 5, none⟩) hr _).set_ (p := ⟨r, 6, none⟩) hr _).set_ (p := ⟨r, 7, none⟩) hr _).set_ (p := ⟨r, 8, none⟩) hr _).set_ (p := ⟨r, 9, none⟩) hr _).set_ (p := ⟨r, 10, none⟩) hr _
/-- One, two expressions in a new row. -/
theorem one_arg {P : Nat → Prop} {W : World} {x : EX} {x0 x1 x2 x3 x4 x5 x6 x7 x8 x9 x10 : Value} (hx : IsEP P W x (.agg #[x0, x1, x2, x3, x4, x5, x6, x7, x8, x9, x10])) {g : Nat} (hg : g = W.heap.size) (hP : P g) :
    IsEPs P (W.alloc (.cells #[x0, x1, x2, x3, x4, x5, x6, x7, x8, x9, x10] 64)) (some ⟨g, 0, none⟩) 0 [x] := by
  subst hg
  have c := (Blk.new W 64 #[x0, x1, x2, x3, x4, x5, x6, x7, x8, x9, x10]).cell
  unfold IsEPs
  refine ⟨⟨W.heap.size, x0, x1, x2, x3, x4, x5, x6, x7, x8, x9, x10, rfl, hP, c 0, c 1, c 2, c 3, c 4, c 5, c 6, c 7, c 8, c 9, c 10, hx.alloc _⟩, ?_⟩
  unfold IsEPs
  trivial
theorem two_args {P : Nat → Prop} {W : World} {x y : EX} {x0 x1 x2 x3 x4 x5 x6 x7 x8 x9 x10 y0 y1 y2 y3 y4 y5 y6 y7 y8 y9 y10 : Value} (hx : IsEP P W x (.agg #[x0, x1, x2, x3, x4, x5, x6, x7, x8, x9, x10])) (hy : IsEP P W y (.agg #[y0, y1, y2, y3, y4, y5, y6, y7, y8, y9, y10])) {g : Nat} (hg : g = W.heap.size) (hP : P g) :
    IsEPs P (W.alloc (.cells #[x0, x1, x2, x3, x4, x5, x6, x7, x8, x9, x10, y0, y1, y2, y3, y4, y5, y6, y7, y8, y9, y10] 64)) (some ⟨g, 0, none⟩) 0 [x, y] := by
  subst hg
  have c := (Blk.new W 64 #[x0, x1, x2, x3, x4, x5, x6, x7, x8, x9, x10, y0, y1, y2, y3, y4, y5, y6, y7, y8, y9, y10]).cell
  unfold IsEPs
  refine ⟨⟨W.heap.size, x0, x1, x2, x3, x4, x5, x6, x7, x8, x9, x10, rfl, hP, c 0, c 1, c 2, c 3, c 4, c 5, c 6, c 7, c 8, c 9, c 10, hx.alloc _⟩, ?_⟩
  unfold IsEPs
  refine ⟨⟨W.heap.size, y0, y1, y2, y3, y4, y5, y6, y7, y8, y9, y10, rfl, hP, c 11, c 12, c 13, c 14, c 15, c 16, c 17, c 18, c 19, c 20, c 21, hy.alloc _⟩, ?_⟩
  unfold IsEPs
  trivial
/-- An expression in a block of its own. -/
def BoxE (P : Nat → Prop) (W : World) (B : Nat) (x : EX) : Prop := ∃ cs : Array Value, Blk W B 64 cs ∧ IsEP P W x (.agg cs)
theorem BoxE.kp {P : Nat → Prop} {b B : Nat} {W W' : World} {x : EX} (h : BoxE P W B x) (hk : Kp b W W') (hb : ¬ P b) (hB : B ≠ b) : BoxE P W' B x := by
  obtain ⟨cs, h1, h2⟩ := h
  exact ⟨cs, h1.kp hk hB, h2.kp hk hb⟩
theorem BoxE.below {P : Nat → Prop} {B : Nat} {W W' : World} {x : EX} (h : BoxE P W B x) (hk : Below W.heap.size W W') : BoxE P W' B x := by
  obtain ⟨cs, h1, h2⟩ := h
  exact ⟨cs, h1.below hk, h2.below hk⟩
/-- The map of the operators' levels. -/
def lvlsD : DataW Unit := ((((((DataW.map []).put (.string [38, 38]) (.lit (.int .i64 1))).put (.string [61, 61]) (.lit (.int .i64 2))).put (.string [60]) (.lit (.int .i64 2))).put (.string [43]) (.lit (.int .i64 3))).put (.string [45]) (.lit (.int .i64 3))).put (.string [42]) (.lit (.int .i64 4))
def LvlsAt (w : World) (m : Nat) : Prop := w.ownsMap Tryz.prog 9 (plainElem (H := Unit) Tryz.prog 3) m 6 lvlsD
def lvlT (t : List UInt8) : Nat := if t = [38, 38] then 1 else if t = [61, 61] ∨ t = [60] then 2 else if t = [43] ∨ t = [45] then 3 else if t = [42] then 4 else 0
theorem lvlOf_sym {t : TZ} (h : t.kind = 4) : lvlOf t = lvlT t.text.data.toList := by unfold lvlOf lvlT; rw [if_neg (by rw [h]; decide)]
theorem lvlsD_at (l : List UInt8) : lvlsD.atKey (.string l) (.lit (.int .i64 0)) = .lit (.int .i64 (lvlT l : Nat)) := by
  have m0 : Maps.IsMap (DataW.map (H := Unit) []) := Maps.isMap_empty
  have m1 := m0.put (.string [38, 38]) (.lit (.int .i64 1))
  have m2 := m1.put (.string [61, 61]) (.lit (.int .i64 2))
  have m3 := m2.put (.string [60]) (.lit (.int .i64 2))
  have m4 := m3.put (.string [43]) (.lit (.int .i64 3))
  have m5 := m4.put (.string [45]) (.lit (.int .i64 3))
  unfold lvlsD
  by_cases h6 : l = [42]
  · subst h6; rw [Maps.atKey_put_same m5 (by trivial)]; rfl
  rw [Maps.atKey_put_other (by intro e; injection e with e; exact h6 e)]
  by_cases h5 : l = [45]
  · subst h5; rw [Maps.atKey_put_same m4 (by trivial)]; rfl
  rw [Maps.atKey_put_other (by intro e; injection e with e; exact h5 e)]
  by_cases h4 : l = [43]
  · subst h4; rw [Maps.atKey_put_same m3 (by trivial)]; rfl
  rw [Maps.atKey_put_other (by intro e; injection e with e; exact h4 e)]
  by_cases h3 : l = [60]
  · subst h3; rw [Maps.atKey_put_same m2 (by trivial)]; rfl
  rw [Maps.atKey_put_other (by intro e; injection e with e; exact h3 e)]
  by_cases h2 : l = [61, 61]
  · subst h2; rw [Maps.atKey_put_same m1 (by trivial)]; rfl
  rw [Maps.atKey_put_other (by intro e; injection e with e; exact h2 e)]
  by_cases h1 : l = [38, 38]
  · subst h1; rw [Maps.atKey_put_same m0 (by trivial)]; rfl
  rw [Maps.atKey_put_other (by intro e; injection e with e; exact h1 e)]
  have e : lvlT l = 0 := by simp [lvlT, h1, h2, h3, h4, h5, h6]
  rw [e]
  rfl
set_option maxRecDepth 100000 in
theorem lookup_lvl {w : World} {m : Nat} (h : LvlsAt w m) (t : ByteArray) (ht : t.size ≤ 9223372036854775807) :
    (Instr.lookup 74 (.map (some m)) (.string t) false).run Tryz.prog w = .ok (.int .i64 (lvlT t.data.toList : Nat)) w := by
  obtain ⟨c, hrun, hat, _⟩ := World.ownsMap.lookup_int h (Maps.string_keyed Tryz.underlying9) Tryz.underlying74 Tryz.underlying3 (Tryz.zeroValue3 _) (WideMaps.keyOf_string_mk Tryz.underlying9 (s := t) (by unfold maxLen; omega))
  rw [lvlsD_at] at hat
  injection hat with hat
  injection hat with _ hat
  rw [hrun, ← hat]
set_option maxRecDepth 100000 in
set_option maxHeartbeats 2000000 in
theorem operators_any (w : World) : Calls Tryz.prog 103 #[] w fun e w' => e = .returned (.map (some w.heap.size)) ∧ LvlsAt w' w.heap.size ∧ Below w.heap.size w w' := by
  have hmm := @run_makeMap Tryz.prog
  have S := KS.start w
  go_enter Tryz.func103, Tryz.ntmps103
  go_wp2_with (refine wpList_insert_own _ rfl _ _ _ 74 rfl 9 3 (Maps.string_keyed Tryz.underlying9) Tryz.underlying74 _ _ _ _ rfl S.1 (by decide) _ _ _ rfl rfl (WideMaps.keyOf_string_mk Tryz.underlying9 (by decide)) _ [] (plainElem_int Tryz.underlying3 (by decide)) ?_; intro w1 ho hg; replace S := S.next ho hg; clear ho hg)
  go_ret
  exact ⟨rfl, S.1, S.2⟩
/-- The parser lies in block b: at token i, within so many. -/
structure PS (b : Nat) (o : Option Addr) (c m : Nat) (l : List TZ) (i d : Int) (w : World) : Prop where
  blk : Blk w b 134 #[.slice o l.length c, .int .i64 i, .int .i64 d, .map (some m)]
  toks : ZAt w o l
  lvls : LvlsAt w m
  far : l ≠ [] → ∀ a, o = some a → a.block < b
  mlt : m < b
theorem at_ne {α : Type} {l : List α} {k : Nat} {t : α} (h : l[k]? = some t) : l ≠ [] := fun e => by subst e; simp at h
theorem ZAt.kp {b : Nat} {w w' : World} {o : Option Addr} {l : List TZ} (h : ZAt w o l) (hk : Kp b w w') (hf : l ≠ [] → ∀ a, o = some a → a.block < b) : ZAt w' o l := fun k t ht => by
  obtain ⟨a, ho, hc⟩ := h k t ht
  refine ⟨a, ho, fun j u hu => ?_⟩
  have hlt := World.block_lt_of_cell? _ _ (hc j u hu)
  have e : w'.heap[(a.add (k * 4 + j)).block]? = w.heap[(a.add (k * 4 + j)).block]? := hk.block _ hlt (by rw [add_block]; exact Nat.ne_of_lt (hf (at_ne ht) a ho))
  exact (World.cell?_of_block (w := w) e).trans (hc j u hu)
theorem LvlsAt.kp {b m : Nat} {w w' : World} (h : LvlsAt w m) (hk : Kp b w w') (hm : m < b) : LvlsAt w' m := by
  refine World.ownsMap.kept h (row := some b) ⟨hk.os, hk.tape, hk.output, hk.size, fun k hk' hne => hk.block k hk' (fun e => hne (by rw [e]))⟩ ?_
  intro e; injection e with e; omega
section
variable {b c m : Nat} {o : Option Addr} {l : List TZ} {i d : Int} {w w' : World}
theorem PS.lt (h : PS b o c m l i d w) : b < w.heap.size := h.blk.lt
/-- What another call did that left the parser alone. -/
theorem PS.step (h : PS b o c m l i d w) (hb : Below w.heap.size w w') : PS b o c m l i d w' :=
  ⟨h.blk.below hb, h.toks.kp (b := b) (.of_below hb) h.far, h.lvls.kp (b := b) (.of_below hb) h.mlt, h.far, h.mlt⟩
theorem PS.alloc (h : PS b o c m l i d w) (x : Obj) : PS b o c m l i d (w.alloc x) := h.step ((Below.refl _ _).alloc (Nat.le_refl _) x)
theorem PS.drew (h : PS b o c m l i d w) : PS b o c m l i d w.drew := ⟨h.blk, h.toks, h.lvls, h.far, h.mlt⟩
theorem PS.undrew (h : PS b o c m l i d w.drew) : PS b o c m l i d w := ⟨h.blk, h.toks, h.lvls, h.far, h.mlt⟩
/-- A store elsewhere, behind the parser's block. -/
theorem PS.set_ (h : PS b o c m l i d w) {p : Addr} (hp : b < p.block) (u : Value) : PS b o c m l i d (w.setCell p u) := by
  have hk : ∀ k, k ≤ b → (w.setCell p u).heap[k]? = w.heap[k]? := fun k hk => Below.heap_setCell w p u k (by omega)
  refine ⟨(hk b (Nat.le_refl _)).trans h.blk, fun k t ht => ?_, ?_, h.far, h.mlt⟩
  · obtain ⟨a, ho, hc⟩ := h.toks k t ht
    refine ⟨a, ho, fun j u' hu => ?_⟩
    have e := hk (a.add (k * 4 + j)).block (by rw [add_block]; exact Nat.le_of_lt (h.far (at_ne ht) a ho))
    exact (World.cell?_of_block (w := w) e).trans (hc j u' hu)
  · exact World.ownsMap.setCell h.lvls (by have := h.mlt; omega) u
theorem PS.drewN (h : PS b o c m l i d w) (n : Nat) : PS b o c m l i d (w.drewN n) := ⟨h.blk, h.toks, h.lvls, h.far, h.mlt⟩
theorem PS.set4 (h : PS b o c m l i d w) {r : Nat} (hr : b < r) (v0 v1 v2 v3 : Value) : PS b o c m l i d (set4 w r v0 v1 v2 v3) :=
  (((h.set_ (p := ⟨r, 0, none⟩) hr _).set_ (p := ⟨r, 1, none⟩) hr _).set_ (p := ⟨r, 2, none⟩) hr _).set_ (p := ⟨r, 3, none⟩) hr _
theorem PS.set11 (h : PS b o c m l i d w) {r : Nat} (hr : b < r) (v0 v1 v2 v3 v4 v5 v6 v7 v8 v9 v10 : Value) : PS b o c m l i d (set11 w r v0 v1 v2 v3 v4 v5 v6 v7 v8 v9 v10) :=
  ((((((((((h.set_ (p := ⟨r, 0, none⟩) hr _).set_ (p := ⟨r, 1, none⟩) hr _).set_ (p := ⟨r, 2, none⟩) hr _).set_ (p := ⟨r, 3, none⟩) hr _).set_ (p := ⟨r, 4, none⟩) hr _).set_ (p := ⟨r, 5, none⟩) hr _).set_ (p := ⟨r, 6, none⟩) hr _).set_ (p := ⟨r, 7, none⟩) hr _).set_ (p := ⟨r, 8, none⟩) hr _).set_ (p := ⟨r, 9, none⟩) hr _).set_ (p := ⟨r, 10, none⟩) hr _
theorem PS.under (h : PS b o c m l i d w) (hb : Below (b + 1) w w') : PS b o c m l i d w' := by
  refine ⟨(hb.block b (by omega)).trans h.blk, fun k t ht => ?_, ?_, h.far, h.mlt⟩
  · obtain ⟨a, ho, hc⟩ := h.toks k t ht
    refine ⟨a, ho, fun j u' hu => ?_⟩
    have e := hb.block (a.add (k * 4 + j)).block (by rw [add_block]; have := h.far (at_ne ht) a ho; omega)
    exact (World.cell?_of_block (w := w) e).trans (hc j u' hu)
  · obtain ⟨es, clock, h1, h2⟩ := h.lvls
    exact ⟨es, clock, (hb.block m (by have := h.mlt; omega)).trans h1, h2⟩
/-- The parser goes on. -/
theorem PS.next (h : PS b o c m l i d w) (i' : Int) : PS b o c m l i' d (w.setCell ⟨b, 1, none⟩ (.int .i64 i')) := by
  have hk : ∀ k, k < b → (w.setCell ⟨b, 1, none⟩ (.int .i64 i')).heap[k]? = w.heap[k]? := fun k hk => Below.heap_setCell w _ _ k (by simp only; omega)
  refine ⟨h.blk.set_ 1 (.int .i64 i'), fun k t ht => ?_, World.ownsMap.setCell h.lvls (by have := h.mlt; simp only; omega) _, h.far, h.mlt⟩
  obtain ⟨a, ho, hc⟩ := h.toks k t ht
  refine ⟨a, ho, fun j u' hu => ?_⟩
  have e := hk (a.add (k * 4 + j)).block (by rw [add_block]; exact h.far (at_ne ht) a ho)
  exact (World.cell?_of_block (w := w) e).trans (hc j u' hu)
theorem PS.deep (h : PS b o c m l i d w) (d' : Int) : PS b o c m l i d' (w.setCell ⟨b, 2, none⟩ (.int .i64 d')) := by
  have hk : ∀ k, k < b → (w.setCell ⟨b, 2, none⟩ (.int .i64 d')).heap[k]? = w.heap[k]? := fun k hk => Below.heap_setCell w _ _ k (by simp only; omega)
  refine ⟨h.blk.set_ 2 (.int .i64 d'), fun k t ht => ?_, World.ownsMap.setCell h.lvls (by have := h.mlt; simp only; omega) _, h.far, h.mlt⟩
  obtain ⟨a, ho, hc⟩ := h.toks k t ht
  refine ⟨a, ho, fun j u' hu => ?_⟩
  have e := hk (a.add (k * 4 + j)).block (by rw [add_block]; exact h.far (at_ne ht) a ho)
  exact (World.cell?_of_block (w := w) e).trans (hc j u' hu)
/-- The parser's cells. -/
theorem PS.cells (h : PS b o c m l i d w) : w.cell? ⟨b, 0, none⟩ = some (.slice o l.length c) ∧ w.cell? ⟨b, 1, none⟩ = some (.int .i64 i) ∧ w.cell? ⟨b, 2, none⟩ = some (.int .i64 d) ∧ w.cell? ⟨b, 3, none⟩ = some (.map (some m)) ∧ (∀ k, w.frozen? ⟨b, k, none⟩ = false) :=
  ⟨h.blk.cell 0, h.blk.cell 1, h.blk.cell 2, h.blk.cell 3, h.blk.frozen⟩
end
end Go.Proofs.YtlgaphopjdeklaaGreat
