/-
  The chapter's example in memory. No condition.
-/
import Derived.Test.YtmnhilgifjaocaaSwa
import Derived.Deep.RegionHeld3
import Derived.Deep.DeepCutAuto
namespace Go.Proofs.Ytmnhilgifjaocaa
open Go.RowKit
open Go.Lib hiding intOf

def mC (A : Nat) : Array Value := #[.string (b1 109), .slice (some ⟨A, 0, none⟩) 1 1, .int .i64 2, .string noB, .string noB, .int .i64 0, .slice none 0 0]
def nC : Array Value := #[.string (b1 110), .slice none 0 0, .int .i64 7, .string noB, .string noB, .int .i64 0, .slice none 0 0]
def fC : Array Value := #[.string (b1 102), .int .i64 1, .string noB, .string noB, .int .i64 0, .slice none 0 0]
def iC' : Array Value := #[.int .i64 1, .string noB, .string noB, .int .i64 0, .slice none 0 0]
def dC (n : UInt8) (b : Bool) (f g : Value) : Array Value := #[.string (b1 n), .bool b, f, g]
theorem newAt {W : World} {k : Nat} (h : W.heap.size = k) (t : TypeId) (cs : Array Value) : Blk (W.alloc (.cells cs t)) k t cs := by subst h; exact Blk.new W t cs
theorem blkA {W : World} {k : Nat} {t : TypeId} {cs : Array Value} (h : Blk W k t cs) (o : Obj) : Blk (W.alloc o) k t cs := blkB h ((Below.refl _ _).alloc (Nat.le_refl _) _)
theorem blkS {W : World} {g : Nat} {t : TypeId} {o0 o1 o2 o3 : Value} (h : Blk W g t #[o0, o1, o2, o3]) (v0 v1 v2 v3 : Value) : Blk ((((W.setCell ⟨g, 0, none⟩ v0).setCell ⟨g, 1, none⟩ v1).setCell ⟨g, 2, none⟩ v2).setCell ⟨g, 3, none⟩ v3) g t #[v0, v1, v2, v3] := by
  simpa using (((h.set_ 0 v0).set_ 1 v1).set_ 2 v2).set_ 3 v3
theorem blkF {W : World} {g k : Nat} {t : TypeId} {cs : Array Value} (h : Blk W k t cs) (hk : ¬ k = g) (v0 v1 v2 v3 : Value) : Blk ((((W.setCell ⟨g, 0, none⟩ v0).setCell ⟨g, 1, none⟩ v1).setCell ⟨g, 2, none⟩ v2).setCell ⟨g, 3, none⟩ v3) k t cs :=
  (((h.far (p := ⟨g, 0, none⟩) hk v0).far (p := ⟨g, 1, none⟩) hk v1).far (p := ⟨g, 2, none⟩) hk v2).far (p := ⟨g, 3, none⟩) hk v3
theorem blkD {W : World} {k : Nat} {t : TypeId} {cs : Array Value} (h : Blk W k t cs) : Blk W.drew k t cs := h
theorem keepD {w : World} {p : Addr} {u : Value} (h : w.cell? p = some u) : w.drew.cell? p = some u := h
theorem keepA {w : World} {p : Addr} {u : Value} {o : Obj} (h : w.cell? p = some u) : (w.alloc o).cell? p = some u := cells_below ((Below.refl _ _).alloc (Nat.le_refl _) _) _ _ h
theorem belowD {X W : World} (h : Below X.heap.size X W) : Below X.heap.size X W.drew := h.drew
theorem belowA {X W : World} {o : Obj} (h : Below X.heap.size X W) : Below X.heap.size X (W.alloc o) := h.alloc h.size o
theorem addr0 (k i j : Nat) : ((⟨k, 0, none⟩ : Addr).add i).add j = ⟨k, i + j, none⟩ := by
  unfold Addr.add
  split <;> split <;> simp_all
theorem row1 {α : Type} {n : Nat} {P : World → α → List Value → Prop} {W : World} {k : Nat} {t : TypeId} {c : List Value} {x : α} (b : Blk W k t c.toArray) (hc : c.length = n) (hP : P W x c) : IsRow n P W (some ⟨k, 0, none⟩) [x] := fun i y hy => by
  have hi : i = 0 := by have := (List.getElem?_eq_some_iff.1 hy).1; simpa using this
  subst hi
  obtain rfl : x = y := by simpa using hy
  refine ⟨_, c, rfl, hc, fun j u hu => ?_, hP⟩
  rw [addr0, b.cell]
  simpa using hu
theorem row3 {α : Type} {P : World → α → List Value → Prop} {W : World} {k : Nat} {t : TypeId} {a0 a1 a2 a3 b0 b1 b2 b3 c0 c1 c2 c3 : Value} {x y z : α} (b : Blk W k t #[a0, a1, a2, a3, b0, b1, b2, b3, c0, c1, c2, c3]) (hx : P W x [a0, a1, a2, a3]) (hy : P W y [b0, b1, b2, b3]) (hz : P W z [c0, c1, c2, c3]) : IsRow 4 P W (some ⟨k, 0, none⟩) [x, y, z] := fun i v hv => by
  match i, hv with
  | 0, hv =>
    obtain rfl : x = v := by simpa using hv
    refine ⟨_, _, rfl, rfl, fun j u hu => ?_, hx⟩
    rw [addr0, b.cell]
    match j, hu with
    | 0, hu => exact hu
    | 1, hu => exact hu
    | 2, hu => exact hu
    | 3, hu => exact hu
    | j + 4, hu => simp at hu
  | 1, hv =>
    obtain rfl : y = v := by simpa using hv
    refine ⟨_, _, rfl, rfl, fun j u hu => ?_, hy⟩
    rw [addr0, b.cell]
    match j, hu with
    | 0, hu => exact hu
    | 1, hu => exact hu
    | 2, hu => exact hu
    | 3, hu => exact hu
    | j + 4, hu => simp at hu
  | 2, hv =>
    obtain rfl : z = v := by simpa using hv
    refine ⟨_, _, rfl, rfl, fun j u hu => ?_, hz⟩
    rw [addr0, b.cell]
    match j, hu with
    | 0, hu => exact hu
    | 1, hu => exact hu
    | 2, hu => exact hu
    | 3, hu => exact hu
    | j + 4, hu => simp at hu
  | i + 3, hv => simp at hv
theorem leafs {W : World} {k : Nat} {a : Int} {p m : ByteArray} (b : Blk W k 29 #[.int .i64 a, .string p, .string m, .int .i64 0, .slice none 0 0]) : IsYs W (some ⟨k, 0, none⟩) 0 [leafY a p m] := IsYs.mk' fun i y hy => by
  have hi : i = 0 := by have := (List.getElem?_eq_some_iff.1 hy).1; simpa using this
  subst hi
  obtain rfl : leafY a p m = y := by simpa using hy
  refine ⟨_, _, _, _, _, fun j v h' => ?_, leaf_is W a p m⟩
  have e : (⟨k, 0, none⟩ : Addr).add ((0 + 0) * 5 + j) = ⟨k, j, none⟩ := by unfold Addr.add; split <;> simp_all
  rw [e, b.cell]
  simpa using h'
theorem scp_is {W : World} {A F G H K P Q R : Nat} (a : Blk W A 29 #[.int .i64 1, .string noB, .string noB, .int .i64 0, .slice none 0 0])
    (f : Blk W F 63 #[.string (b1 102), .int .i64 1, .string noB, .string noB, .int .i64 0, .slice none 0 0])
    (g : Blk W G 50 #[.string (b1 109), .slice (some ⟨A, 0, none⟩) 1 1, .int .i64 2, .string noB, .string noB, .int .i64 0, .slice none 0 0])
    (h : Blk W H 50 #[.string (b1 109), .slice (some ⟨A, 0, none⟩) 1 1, .int .i64 2, .string noB, .string noB, .int .i64 0, .slice none 0 0])
    (k : Blk W K 50 #[.string (b1 110), .slice none 0 0, .int .i64 7, .string noB, .string noB, .int .i64 0, .slice none 0 0])
    (p : Blk W P 35 #[.string (b1 84), .bool true, .slice (some ⟨F, 0, none⟩) 1 1, .slice (some ⟨G, 0, none⟩) 1 1, .string (b1 73), .bool false, .slice none 0 0, .slice (some ⟨H, 0, none⟩) 1 1, .string (b1 74), .bool false, .slice none 0 0, .slice (some ⟨K, 0, none⟩) 1 1])
    (q : Blk W Q 59 #[.string (b1 97), .slice (some ⟨P, 0, none⟩) 3 3, .slice none 0 0])
    (r : Blk W R 29 #[.int .i64 4, .string (b1 97), .string (b1 73), .int .i64 0, .slice none 0 0]) :
    IsSc W scpA [.slice (some ⟨Q, 0, none⟩) 1 1, .slice none 0 0, .slice none 0 0, .slice (some ⟨R, 0, none⟩) 1 1, .slice none 0 0] := by
  have hm : IsMd W mthM [.string (b1 109), .slice (some ⟨A, 0, none⟩) 1 1, .int .i64 2, .string noB, .string noB, .int .i64 0, .slice none 0 0] := ⟨_, _, _, _, _, _, _, rfl, Nat.le_refl _, by decide, leafs a, leaf_is W 2 noB noB⟩
  have hn : IsMd W mthN [.string (b1 110), .slice none 0 0, .int .i64 7, .string noB, .string noB, .int .i64 0, .slice none 0 0] := ⟨_, _, _, _, _, _, _, rfl, Nat.le_refl _, by decide, IsYs.nil _ _ _, leaf_is W 7 noB noB⟩
  have hf : IsFd W (b1 102, leafY 1 noB noB) [.string (b1 102), .int .i64 1, .string noB, .string noB, .int .i64 0, .slice none 0 0] := ⟨_, _, _, _, _, rfl, leaf_is W 1 noB noB⟩
  have ht : IsTd W decT [.string (b1 84), .bool true, .slice (some ⟨F, 0, none⟩) 1 1, .slice (some ⟨G, 0, none⟩) 1 1] := ⟨_, _, _, _, rfl, Nat.le_refl _, by decide, Nat.le_refl _, by decide, row1 f rfl hf, row1 g rfl hm⟩
  have hi : IsTd W decI [.string (b1 73), .bool false, .slice none 0 0, .slice (some ⟨H, 0, none⟩) 1 1] := ⟨_, _, _, _, rfl, Nat.le_refl _, by decide, Nat.le_refl _, by decide, IsRow.nil, row1 h rfl hm⟩
  have hj : IsTd W decJ [.string (b1 74), .bool false, .slice none 0 0, .slice (some ⟨K, 0, none⟩) 1 1] := ⟨_, _, _, _, rfl, Nat.le_refl _, by decide, Nat.le_refl _, by decide, IsRow.nil, row1 k rfl hn⟩
  have hq : IsIf W ⟨b1 97, [decT, decI, decJ]⟩ [.string (b1 97), .slice (some ⟨P, 0, none⟩) 3 3, .slice none 0 0] := ⟨_, _, _, _, _, rfl, Nat.le_refl _, by decide, row3 p ht hi hj⟩
  exact ⟨_, _, _, _, _, _, _, _, _, _, _, _, _, rfl, Nat.le_refl _, by decide, Nat.le_refl _, by decide, row1 q rfl hq, leafs r, fun h => by cases h⟩
theorem blkS5 {W : World} {g : Nat} {t : TypeId} {o0 o1 o2 o3 o4 : Value} (h : Blk W g t #[o0, o1, o2, o3, o4]) (v0 v1 v2 v3 v4 : Value) : Blk (((((W.setCell ⟨g, 0, none⟩ v0).setCell ⟨g, 1, none⟩ v1).setCell ⟨g, 2, none⟩ v2).setCell ⟨g, 3, none⟩ v3).setCell ⟨g, 4, none⟩ v4) g t #[v0, v1, v2, v3, v4] := by
  simpa using ((((h.set_ 0 v0).set_ 1 v1).set_ 2 v2).set_ 3 v3).set_ 4 v4
theorem blkF5 {W : World} {g k : Nat} {t : TypeId} {cs : Array Value} (h : Blk W k t cs) (hk : ¬ k = g) (v0 v1 v2 v3 v4 : Value) : Blk (((((W.setCell ⟨g, 0, none⟩ v0).setCell ⟨g, 1, none⟩ v1).setCell ⟨g, 2, none⟩ v2).setCell ⟨g, 3, none⟩ v3).setCell ⟨g, 4, none⟩ v4) k t cs :=
  (blkF h hk v0 v1 v2 v3).far (p := ⟨g, 4, none⟩) hk v4
/-- The first declared type. -/
structure Reg3 (X wx : World) (A B F G : Nat) : Prop where
  b : Blk wx B 35 #[.string (b1 84), .bool true, .slice (some ⟨F, 0, none⟩) 1 1, .slice (some ⟨G, 0, none⟩) 1 1]
  f : Blk wx F 63 #[.string (b1 102), .int .i64 1, .string noB, .string noB, .int .i64 0, .slice none 0 0]
  g : Blk wx G 50 #[.string (b1 109), .slice (some ⟨A, 0, none⟩) 1 1, .int .i64 2, .string noB, .string noB, .int .i64 0, .slice none 0 0]
  below : Below X.heap.size X wx

theorem reg3_of {X wx : World} {A B F G : Nat} (hb : Blk wx B 35 #[.string (b1 84), .bool true, .slice (some ⟨F, 0, none⟩) 1 1, .slice (some ⟨G, 0, none⟩) 1 1])
    (hf : Blk wx F 63 #[.string (b1 102), .int .i64 1, .string noB, .string noB, .int .i64 0, .slice none 0 0])
    (hg : Blk wx G 50 #[.string (b1 109), .slice (some ⟨A, 0, none⟩) 1 1, .int .i64 2, .string noB, .string noB, .int .i64 0, .slice none 0 0]) (h : Below X.heap.size X wx) :
    ∃ B' F' G', Value.pointer (some ⟨B, 0, none⟩) = .pointer (some ⟨B', 0, none⟩) ∧ Hid (Reg3 X wx A B' F' G') := ⟨B, F, G, rfl, ⟨hb, hf, hg, h⟩⟩

/-- The whole scope. -/
structure Reg6 (Y wx : World) (D B F G C P Q R : Nat) : Prop where
  d : Blk wx D 27 #[.slice (some ⟨Q, 0, none⟩) 1 1, .slice none 0 0, .slice none 0 0, .slice (some ⟨R, 0, none⟩) 1 1, .slice none 0 0]
  p : Blk wx P 35 #[.string (b1 84), .bool true, .slice (some ⟨F, 0, none⟩) 1 1, .slice (some ⟨G, 0, none⟩) 1 1, .string (b1 73), .bool false, .slice none 0 0, .slice (some ⟨C, 0, none⟩) 1 1, .string (b1 74), .bool false, .slice none 0 0, .slice (some ⟨C + 1 + 1, 0, none⟩) 1 1]
  q : Blk wx Q 59 #[.string (b1 97), .slice (some ⟨P, 0, none⟩) 3 3, .slice none 0 0]
  r : Blk wx R 29 #[.int .i64 4, .string (b1 97), .string (b1 73), .int .i64 0, .slice none 0 0]
  old : ∀ (k : Nat) (t : TypeId) (cs : Array Value), Blk Y k t cs → ¬ k = D → Blk wx k t cs
  below : Below D Y wx

theorem reg6_of {Y wx : World} {D B F G C P Q R : Nat} (d : Blk wx D 27 #[.slice (some ⟨Q, 0, none⟩) 1 1, .slice none 0 0, .slice none 0 0, .slice (some ⟨R, 0, none⟩) 1 1, .slice none 0 0])
    (q : Blk wx Q 59 #[.string (b1 97), .slice (some ⟨P, 0, none⟩) 3 3, .slice none 0 0]) (p : Blk wx P 35 #[.string (b1 84), .bool true, .slice (some ⟨F, 0, none⟩) 1 1, .slice (some ⟨G, 0, none⟩) 1 1, .string (b1 73), .bool false, .slice none 0 0, .slice (some ⟨C, 0, none⟩) 1 1, .string (b1 74), .bool false, .slice none 0 0, .slice (some ⟨C + 1 + 1, 0, none⟩) 1 1])
    (r : Blk wx R 29 #[.int .i64 4, .string (b1 97), .string (b1 73), .int .i64 0, .slice none 0 0])
    (old : ∀ (k : Nat) (t : TypeId) (cs : Array Value), Blk Y k t cs → ¬ k = D → Blk wx k t cs) (below : Below D Y wx) : ∃ P Q R, Hid (Reg6 Y wx D B F G C P Q R) := ⟨P, Q, R, ⟨d, p, q, r, old, below⟩⟩
theorem belowAd {D : Nat} {Y W : World} {o : Obj} (hd : D ≤ Y.heap.size) (h : Below D Y W) : Below D Y (W.alloc o) := h.alloc (Nat.le_trans hd h.size) o

set_option maxRecDepth 100000 in
set_option maxHeartbeats 16000000 in
theorem world_any (w : World) : Calls Try.prog 31 #[] w fun e w' => ∃ c, e = .returned (.agg c.toArray) ∧ IsSc w' scpA c ∧ Below w.heap.size w w' := by
  go_enter Try.func31, Try.ntmps31
  go_wp2_with fail
  refine (num_call _).mono ?_
  rintro e V ⟨rfl, hb⟩
  have hd : Blk V w.heap.size 27 #[.slice none 0 0, .slice none 0 0, .slice none 0 0, .slice none 0 0, .slice none 0 0] := blkB (Blk.new _ _ _) hb
  have hbw : Below w.heap.size w V := ((Below.refl _ _).alloc (Nat.le_refl _) _).trans (hb.mono (by simp))
  clear hb
  go_wp2_with fail
  obtain ⟨X, hX⟩ : ∃ X, ((V.alloc (.cells iC' 29)).alloc (.cells (mC V.heap.size) 50)).alloc (.cells nC 50) = X := ⟨_, rfl⟩
  have xd : Hid (Blk X w.heap.size 27 #[.slice none 0 0, .slice none 0 0, .slice none 0 0, .slice none 0 0, .slice none 0 0]) := by show Blk _ _ _ _; rw [← hX]; exact blkA (blkA (blkA hd _) _) _
  have xi : Hid (Blk X V.heap.size 29 iC') := by show Blk _ _ _ _; rw [← hX]; exact blkA (blkA (newAt rfl _ _) _) _
  have xm : Hid (Blk X (V.heap.size + 1) 50 (mC V.heap.size)) := by show Blk _ _ _ _; rw [← hX]; exact blkA (newAt (by simp) _ _) _
  have xn : Hid (Blk X (V.heap.size + 1 + 1) 50 nC) := by show Blk _ _ _ _; rw [← hX]; exact newAt (by simp) _ _
  have xb : Hid (Below w.heap.size w X) := by show Below _ _ _; rw [← hX]; exact ((hbw.alloc hbw.size _).alloc (by have := hbw.size; simp; omega) _).alloc (by have := hbw.size; simp; omega) _
  have xs : Hid (V.heap.size + 1 + 1 < X.heap.size) := xn.out.lt
  unfold iC' mC nC at hX
  change Code.wp _ _ _ _ (((V.alloc _).alloc _).alloc _)
  rw [hX]
  generalize V.heap.size = A at *
  clear hX hd hbw
  go_cut [3] from 12 to 17 (fun v wx => ∃ B F G, v = .pointer (some ⟨B, 0, none⟩) ∧ Hid (Reg3 X wx A B F G))
  case first =>
    have xm1 := xm.out
    unfold mC at xm1
    have x0 := xm1.cell 0
    have x1 := xm1.cell 1
    have x2 := xm1.cell 2
    have x3 := xm1.cell 3
    have x4 := xm1.cell 4
    have x5 := xm1.cell 5
    have x6 := xm1.cell 6
    have nx : A + 1 < X.heap.size := by have := xs.out; omega
    simp only [List.getElem?_toArray, List.getElem?_cons_zero, List.getElem?_cons_succ] at x0 x1 x2 x3 x4 x5 x6
    go_region_held3 (fun w' => w'.cell? ⟨A + 1, 0, none⟩ = some (.string (b1 109)) ∧ w'.cell? ⟨A + 1, 1, none⟩ = some (.slice (some ⟨A, 0, none⟩) 1 1) ∧ w'.cell? ⟨A + 1, 2, none⟩ = some (.int .i64 2) ∧ w'.cell? ⟨A + 1, 3, none⟩ = some (.string noB) ∧ w'.cell? ⟨A + 1, 4, none⟩ = some (.string noB) ∧ w'.cell? ⟨A + 1, 5, none⟩ = some (.int .i64 0) ∧ w'.cell? ⟨A + 1, 6, none⟩ = some (.slice none 0 0))
      (refine ⟨?_, ?_, ?_, ?_, ?_, ?_, ?_⟩ <;> (repeat (first | with_reducible assumption | with_reducible refine keepD ?_ | with_reducible refine keepA ?_ | (with_reducible refine far1 ?_ ?_; (rotate_left; (simp only; omega))))))
      ((go_at_call 33; refine (num_call _).mono ?_; rintro e V ⟨rfl, hb⟩; have HB := Lib.hid hb;
        have kb : Below X.heap.size X V := (by refine stepB (w := X) ?_ hb (Nat.le_refl _); (repeat (first | with_reducible exact Below.refl _ _ | with_reducible refine belowD ?_ | with_reducible refine belowA ?_))); have KB := Lib.hid kb; have vs := kb.size; clear kb;
        (first
        | (have bx : Blk V X.heap.size 35 #[.string noB, .bool false, .slice none 0 0, .slice none 0 0] := (by refine blkB ?_ hb; refine blkD ?_; (first | with_reducible exact newAt rfl _ _ | with_reducible exact blkA (newAt rfl _ _) _)); have BX := Lib.hid bx; have bc := bx.cell; have bf := bx.frozen; have bl := bx.lt; have bz := Nat.ne_of_lt bl; have by2 := Nat.ne_of_gt bl; clear bx)
        | (have bx : Blk V (X.heap.size + 1) 35 #[.string noB, .bool false, .slice none 0 0, .slice none 0 0] := (by refine blkB ?_ hb; refine blkD ?_; with_reducible exact newAt (World.size_alloc ..) _ _); have BX := Lib.hid bx; have bc := bx.cell; have bf := bx.frozen; have bl := bx.lt; have bz := Nat.ne_of_lt bl; have by2 := Nat.ne_of_gt bl; clear bx)
        | skip);
        have q0 := (KB.out.cell (World.block_lt_of_cell? _ _ x0)).trans x0; have q1 := (KB.out.cell (World.block_lt_of_cell? _ _ x1)).trans x1; have q2 := (KB.out.cell (World.block_lt_of_cell? _ _ x2)).trans x2; have q3 := (KB.out.cell (World.block_lt_of_cell? _ _ x3)).trans x3; have q4 := (KB.out.cell (World.block_lt_of_cell? _ _ x4)).trans x4; have q5 := (KB.out.cell (World.block_lt_of_cell? _ _ x5)).trans x5; have q6 := (KB.out.cell (World.block_lt_of_cell? _ _ x6)).trans x6; clear hb))
    all_goals go_wp2_with fail
    all_goals go_meet
    all_goals apply reg3_of
    all_goals (first
      | (with_reducible exact BX.out)
      | (repeat (first | with_reducible exact newAt (by simp) _ _ | with_reducible exact BX.out | with_reducible refine blkA ?_ _ | with_reducible apply blkS | (with_reducible refine blkF ?_ ?_ _ _ _ _; (rotate_left; omega)) | with_reducible refine blkD ?_ | with_reducible refine blkB ?_ HB.out | with_reducible exact KB.out | with_reducible refine belowA ?_ | (with_reducible refine below4 ?_ ?_ _ _ _ _; (rotate_left; omega)))))
  case rest =>
    obtain ⟨B, F, G, rfl, HR⟩ := hcut
    have yb := HR.out.b
    have ym := blkB xm.out HR.out.below
    have yn := blkB xn.out HR.out.below
    unfold mC at ym
    unfold nC at yn
    have cb := yb.cell
    have cm := ym.cell
    have cn := yn.cell
    have lb := yb.lt
    have lm := ym.lt
    have ln := yn.lt
    have nb := Nat.ne_of_lt lb
    have nm := Nat.ne_of_lt lm
    have nn := Nat.ne_of_lt ln
    go_wp2_with fail
    have ha := Lib.hid (blkB xi.out HR.out.below)
    have hd := Lib.hid (blkB xd.out HR.out.below)
    have hwc := Lib.hid (stepB xb.out HR.out.below (Nat.le_refl _))
    have hm := Lib.hid ym
    have hn := Lib.hid yn
    have hb := Lib.hid yb
    have hf := Lib.hid HR.out.f
    have hg := Lib.hid HR.out.g
    clear yb ym yn cb cm cn HR xd xi xm xn xb xs nb nm nn ln lm
    obtain ⟨Y, hY⟩ : ∃ Y, ((((wc.alloc (.cells #[.string (b1 109), .slice (some ⟨A, 0, none⟩) 1 1, .int .i64 2, .string noB, .string noB, .int .i64 0, .slice none 0 0] 50)).alloc (.cells #[.string (b1 73), .bool false, .slice none 0 0, .slice (some ⟨wc.heap.size, 0, none⟩) 1 1] 35)).alloc (.cells #[.string (b1 110), .slice none 0 0, .int .i64 7, .string noB, .string noB, .int .i64 0, .slice none 0 0] 50)).alloc (.cells #[.string (b1 74), .bool false, .slice none 0 0, .slice (some ⟨wc.heap.size + 1 + 1, 0, none⟩) 1 1] 35)) = Y := ⟨_, rfl⟩
    have b0 : Hid (Blk Y wc.heap.size 50 #[.string (b1 109), .slice (some ⟨A, 0, none⟩) 1 1, .int .i64 2, .string noB, .string noB, .int .i64 0, .slice none 0 0]) := by show Blk _ _ _ _; rw [← hY]; exact blkA (blkA (blkA (newAt rfl _ _) _) _) _
    have b1' : Hid (Blk Y (wc.heap.size + 1) 35 #[.string (b1 73), .bool false, .slice none 0 0, .slice (some ⟨wc.heap.size, 0, none⟩) 1 1]) := by show Blk _ _ _ _; rw [← hY]; exact blkA (blkA (newAt (World.size_alloc ..) _ _) _) _
    have b2 : Hid (Blk Y (wc.heap.size + 1 + 1) 50 #[.string (b1 110), .slice none 0 0, .int .i64 7, .string noB, .string noB, .int .i64 0, .slice none 0 0]) := by show Blk _ _ _ _; rw [← hY]; exact blkA (newAt (by simp only [World.size_alloc]) _ _) _
    have b3 : Hid (Blk Y (wc.heap.size + 1 + 1 + 1) 35 #[.string (b1 74), .bool false, .slice none 0 0, .slice (some ⟨wc.heap.size + 1 + 1, 0, none⟩) 1 1]) := by show Blk _ _ _ _; rw [← hY]; exact newAt (by simp only [World.size_alloc]) _ _
    have hcy : Below wc.heap.size wc Y := by rw [← hY]; exact belowA (belowA (belowA (belowA (Below.refl _ _))))
    have ya := Lib.hid (blkB ha.out hcy)
    have yd := Lib.hid (blkB hd.out hcy)
    have yb := Lib.hid (blkB hb.out hcy)
    have yf := Lib.hid (blkB hf.out hcy)
    have yg := Lib.hid (blkB hg.out hcy)
    have yw := Lib.hid (stepB hwc.out hcy (Nat.le_refl _))
    change Code.wp _ _ _ _ ((((wc.alloc _).alloc _).alloc _).alloc _)
    rw [hY]
    clear hY hcy ha hd hm hn hb hf hg hwc lb
    generalize wc.heap.size = C at *
    go_cut [] from 24 to 32 (fun wx => ∃ P Q R, Hid (Reg6 Y wx w.heap.size B F G C P Q R))
    case first =>
      have x0 := yb.out.cell 0
      have x1 := yb.out.cell 1
      have x2 := yb.out.cell 2
      have x3 := yb.out.cell 3
      have x4 := b1'.out.cell 0
      have x5 := b1'.out.cell 1
      have x6 := b1'.out.cell 2
      have x7 := b1'.out.cell 3
      have x8 := b3.out.cell 0
      have x9 := b3.out.cell 1
      have x10 := b3.out.cell 2
      have x11 := b3.out.cell 3
      simp only [List.getElem?_toArray, List.getElem?_cons_zero, List.getElem?_cons_succ] at x0 x1 x2 x3 x4 x5 x6 x7 x8 x9 x10 x11
      have nB := yb.out.ne_ yd.out (by decide)
      have nI := b1'.out.ne_ yd.out (by decide)
      have nJ := b3.out.ne_ yd.out (by decide)
      have lY := yd.out.lt
      have lB := yb.out.lt
      have lJ := b3.out.lt
      go_region_held3 (fun w' => w'.cell? ⟨B, 0, none⟩ = some (.string (b1 84)) ∧ w'.cell? ⟨B, 1, none⟩ = some (.bool true) ∧ w'.cell? ⟨B, 2, none⟩ = some (.slice (some ⟨F, 0, none⟩) 1 1) ∧ w'.cell? ⟨B, 3, none⟩ = some (.slice (some ⟨G, 0, none⟩) 1 1) ∧ w'.cell? ⟨C + 1, 0, none⟩ = some (.string (b1 73)) ∧ w'.cell? ⟨C + 1, 1, none⟩ = some (.bool false) ∧ w'.cell? ⟨C + 1, 2, none⟩ = some (.slice none 0 0) ∧ w'.cell? ⟨C + 1, 3, none⟩ = some (.slice (some ⟨C, 0, none⟩) 1 1) ∧ w'.cell? ⟨C + 1 + 1 + 1, 0, none⟩ = some (.string (b1 74)) ∧ w'.cell? ⟨C + 1 + 1 + 1, 1, none⟩ = some (.bool false) ∧ w'.cell? ⟨C + 1 + 1 + 1, 2, none⟩ = some (.slice none 0 0) ∧ w'.cell? ⟨C + 1 + 1 + 1, 3, none⟩ = some (.slice (some ⟨C + 1 + 1, 0, none⟩) 1 1))
        (refine ⟨?_, ?_, ?_, ?_, ?_, ?_, ?_, ?_, ?_, ?_, ?_, ?_⟩ <;> (repeat (first | with_reducible assumption | with_reducible refine keepD ?_ | with_reducible refine keepA ?_ | (with_reducible refine far1 ?_ ?_; (rotate_left; (simp only; omega))))))
        ((go_at_call 32; refine (named_call _ _ _).mono ?_; rintro e V6 ⟨rfl, hb⟩; have HB := Lib.hid hb;
          have kb : Below Y.heap.size Y V6 := (by refine stepB (w := Y) ?_ hb (Nat.le_refl _); (repeat (first | with_reducible exact Below.refl _ _ | with_reducible refine belowD ?_ | with_reducible refine belowA ?_))); have KB := Lib.hid kb; have vs := kb.size; clear kb;
          have bD := blkB yd.out KB.out; have BD := Lib.hid bD; have cD := bD.cell; have fD := bD.frozen; have lD := bD.lt; have nD := Nat.ne_of_lt lD; have ng := Nat.ne_of_gt lD; have n1 : ¬ w.heap.size = V6.heap.size + 1 := (by omega); have n2 : ¬ w.heap.size = V6.heap.size + 1 + 1 := (by omega); have n3 : w.heap.size < V6.heap.size + 1 := (by omega); have n4 : w.heap.size < V6.heap.size + 1 + 1 := (by omega); clear bD;
          have q0 := (KB.out.cell (World.block_lt_of_cell? _ _ x0)).trans x0; have q1 := (KB.out.cell (World.block_lt_of_cell? _ _ x1)).trans x1; have q2 := (KB.out.cell (World.block_lt_of_cell? _ _ x2)).trans x2; have q3 := (KB.out.cell (World.block_lt_of_cell? _ _ x3)).trans x3; have q4 := (KB.out.cell (World.block_lt_of_cell? _ _ x4)).trans x4; have q5 := (KB.out.cell (World.block_lt_of_cell? _ _ x5)).trans x5; have q6 := (KB.out.cell (World.block_lt_of_cell? _ _ x6)).trans x6; have q7 := (KB.out.cell (World.block_lt_of_cell? _ _ x7)).trans x7; have q8 := (KB.out.cell (World.block_lt_of_cell? _ _ x8)).trans x8; have q9 := (KB.out.cell (World.block_lt_of_cell? _ _ x9)).trans x9; have q10 := (KB.out.cell (World.block_lt_of_cell? _ _ x10)).trans x10; have q11 := (KB.out.cell (World.block_lt_of_cell? _ _ x11)).trans x11;  clear hb))
      all_goals go_wp2_with fail
      all_goals go_meet
      all_goals have kd := KB.out.mono (Nat.le_of_lt lY)
      all_goals apply reg6_of
      all_goals (try intro k t cs hk hne)
      all_goals (repeat (first | with_reducible exact newAt (by simp) _ _ | with_reducible exact BD.out | with_reducible exact blkB hk KB.out | with_reducible exact kd | with_reducible refine blkA ?_ _ | with_reducible apply blkS5 | (with_reducible refine blkF5 ?_ ?_ _ _ _ _ _; (rotate_left; (first | with_reducible assumption | omega))) | with_reducible refine blkD ?_ | with_reducible refine blkB ?_ HB.out | with_reducible refine belowAd (Nat.le_of_lt lY) ?_ | with_reducible refine below5 ?_ (Nat.le_refl _) _ _ _ _ _))
    case rest =>
      obtain ⟨P, Q, R, H6⟩ := hcut
      have cD := H6.out.d.cell
      go_wp2
      refine bodyPost_ret (v := .agg #[.slice (some ⟨Q, 0, none⟩) 1 1, .slice none 0 0, .slice none 0 0, .slice (some ⟨R, 0, none⟩) 1 1, .slice none 0 0]) (by simp [results, Try.results31, go_sem, cD]) rfl ?_
      exact ⟨[.slice (some ⟨Q, 0, none⟩) 1 1, .slice none 0 0, .slice none 0 0, .slice (some ⟨R, 0, none⟩) 1 1, .slice none 0 0], rfl, scp_is (H6.out.old _ _ _ ya.out (ya.out.ne_ yd.out (by decide))) (H6.out.old _ _ _ yf.out (yf.out.ne_ yd.out (by decide))) (H6.out.old _ _ _ yg.out (yg.out.ne_ yd.out (by decide))) (H6.out.old _ _ _ b0.out (b0.out.ne_ yd.out (by decide))) (H6.out.old _ _ _ b2.out (b2.out.ne_ yd.out (by decide))) H6.out.p H6.out.q H6.out.r, yw.out.trans H6.out.below⟩
end Go.Proofs.Ytmnhilgifjaocaa
