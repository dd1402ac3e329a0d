/-
  The walk of 'created', out of what it calls. Condition: the parser lies in memory as said.
-/
import Derived.Test.YtlgaphopjdeklaaGreatU17
namespace Go.Proofs.YtlgaphopjdeklaaGreat
open Go.RowKit
open Go.Lib hiding intOf
/-- What begins with 'new'. -/
def crt (l : List TZ) (f d : Nat) (i : Int) : EO EX :=
  match prs l 30 (i + 1) with
  | .ok t j => if isS (tkAt l j) 123 then
      match lst l f 125 d j with
      | .ok ys q => .ok (.mk 8 (tkAt l i).pos (tkAt l (q - 1)).stop 0 ⟨#[]⟩ t ys) q
      | .err p c => .err p c
      | .out => .out
    else .err (tkAt l j).pos 5
  | .err p c => .err p c
theorem Kp.cell {b : Nat} {w w' : World} (h : Kp b w w') {p : Addr} {u : Value} (hc : w.cell? p = some u) (hp : p.block ≠ b) : w'.cell? p = some u :=
  (World.cell?_of_block (w := w) (h.block p.block (World.block_lt_of_cell? _ _ hc) hp)).trans hc
theorem blk_sec {w1 w2 : World} {o : Obj} {cs : Array Value} {t : TypeId} (hB : Below ((w1.alloc o).alloc (.cells cs t)).heap.size ((w1.alloc o).alloc (.cells cs t)) w2) : Blk w2 (w1.heap.size + 1) t cs := by
  have h := (Blk.new (w1.alloc o) t cs).below hB
  simpa using h
/-- Five cells, two cells. -/
def At5 (w : World) (B : Nat) (v0 v1 v2 v3 v4 : Value) : Prop := w.cell? ⟨B, 0, none⟩ = some v0 ∧ w.cell? ⟨B, 1, none⟩ = some v1 ∧ w.cell? ⟨B, 2, none⟩ = some v2 ∧ w.cell? ⟨B, 3, none⟩ = some v3 ∧ w.cell? ⟨B, 4, none⟩ = some v4
def At2 (w : World) (B : Nat) (v0 v1 : Value) : Prop := w.cell? ⟨B, 0, none⟩ = some v0 ∧ w.cell? ⟨B, 1, none⟩ = some v1
theorem At5.kp {b : Nat} {w w' : World} {B : Nat} {v0 v1 v2 v3 v4 : Value} (h : At5 w B v0 v1 v2 v3 v4) (hk : Kp b w w') (hb : B ≠ b) : At5 w' B v0 v1 v2 v3 v4 :=
  ⟨hk.cell h.1 hb, hk.cell h.2.1 hb, hk.cell h.2.2.1 hb, hk.cell h.2.2.2.1 hb, hk.cell h.2.2.2.2 hb⟩
def st5 (W : World) (r : Nat) (v0 v1 v2 v3 v4 : Value) : World := ((((W.setCell ⟨r, 0, none⟩ v0).setCell ⟨r, 1, none⟩ v1).setCell ⟨r, 2, none⟩ v2).setCell ⟨r, 3, none⟩ v3).setCell ⟨r, 4, none⟩ v4
def set2 (W : World) (r : Nat) (v0 v1 : Value) : World := (W.setCell ⟨r, 0, none⟩ v0).setCell ⟨r, 1, none⟩ v1
theorem st5_size (W : World) (r : Nat) (v0 v1 v2 v3 v4 : Value) : (st5 W r v0 v1 v2 v3 v4).heap.size = W.heap.size := by simp [st5, World.setCell]
theorem set2_size (W : World) (r : Nat) (v0 v1 : Value) : (set2 W r v0 v1).heap.size = W.heap.size := by simp [set2, World.setCell]
theorem st5_below {B : Nat} {a W : World} (h : Below B a W) {r : Nat} (hr : B ≤ r) (v0 v1 v2 v3 v4 : Value) : Below B a (st5 W r v0 v1 v2 v3 v4) :=
  ((((h.setCell hr _).setCell hr _).setCell hr _).setCell hr _).setCell hr _
theorem set2_below {B : Nat} {a W : World} (h : Below B a W) {r : Nat} (hr : B ≤ r) (v0 v1 : Value) : Below B a (set2 W r v0 v1) := (h.setCell hr _).setCell hr _
theorem blk_st5 {W : World} {r : Nat} {t : TypeId} {e0 e1 e2 e3 e4 : Value} (h : Blk W r t #[e0, e1, e2, e3, e4]) (v0 v1 v2 v3 v4 : Value) : Blk (st5 W r v0 v1 v2 v3 v4) r t #[v0, v1, v2, v3, v4] := by
  have h := ((((h.set_ 0 v0).set_ 1 v1).set_ 2 v2).set_ 3 v3).set_ 4 v4
  unfold st5
  simpa only [List.setIfInBounds_toArray, List.set_cons_zero, List.set_cons_succ] using h
theorem blk_set2 {W : World} {r : Nat} {t : TypeId} {e0 e1 : Value} (h : Blk W r t #[e0, e1]) (v0 v1 : Value) : Blk (set2 W r v0 v1) r t #[v0, v1] := by
  have h := (h.set_ 0 v0).set_ 1 v1
  unfold set2
  simpa only [List.setIfInBounds_toArray, List.set_cons_zero, List.set_cons_succ] using h
theorem blk_far5 {W : World} {k r : Nat} {t : TypeId} {cs : Array Value} (h : Blk W k t cs) (hr : k ≠ r) (v0 v1 v2 v3 v4 : Value) : Blk (st5 W r v0 v1 v2 v3 v4) k t cs :=
  ((((h.far (p := ⟨r, 0, none⟩) hr _).far (p := ⟨r, 1, none⟩) hr _).far (p := ⟨r, 2, none⟩) hr _).far (p := ⟨r, 3, none⟩) hr _).far (p := ⟨r, 4, none⟩) hr _
theorem blk_far2 {W : World} {k r : Nat} {t : TypeId} {cs : Array Value} (h : Blk W k t cs) (hr : k ≠ r) (v0 v1 : Value) : Blk (set2 W r v0 v1) k t cs := (h.far (p := ⟨r, 0, none⟩) hr _).far (p := ⟨r, 1, none⟩) hr _
theorem itp_st5 {P : Nat → Prop} {W : World} {x : TX} {v : Value} (h : IsTP P W x v) {r : Nat} (hr : ¬ P r) (v0 v1 v2 v3 v4 : Value) : IsTP P (st5 W r v0 v1 v2 v3 v4) x v :=
  ((((h.set_ (p := ⟨r, 0, none⟩) hr _).set_ (p := ⟨r, 1, none⟩) hr _).set_ (p := ⟨r, 2, none⟩) hr _).set_ (p := ⟨r, 3, none⟩) hr _).set_ (p := ⟨r, 4, none⟩) hr _
theorem itp_set2 {P : Nat → Prop} {W : World} {x : TX} {v : Value} (h : IsTP P W x v) {r : Nat} (hr : ¬ P r) (v0 v1 : Value) : IsTP P (set2 W r v0 v1) x v := (h.set_ (p := ⟨r, 0, none⟩) hr _).set_ (p := ⟨r, 1, none⟩) hr _
theorem At5.of {W : World} {B : Nat} {t : TypeId} {v0 v1 v2 v3 v4 : Value} (h : Blk W B t #[v0, v1, v2, v3, v4]) : At5 W B v0 v1 v2 v3 v4 := ⟨h.cell 0, h.cell 1, h.cell 2, h.cell 3, h.cell 4⟩
theorem At2.of {W : World} {B : Nat} {t : TypeId} {v0 v1 : Value} (h : Blk W B t #[v0, v1]) : At2 W B v0 v1 := ⟨h.cell 0, h.cell 1⟩
/-- What the type's parser told, in parts. -/
def TyRes (r : Res) (B : Nat) (W : World) (y : Value) (n e1 e2 : Int) : Prop :=
  match r with
  | .ok t j => n = j ∧ e1 = 0 ∧ e2 = 0 ∧ IsTX B W t y
  | .err p c => e1 = p ∧ e2 = c
theorem TyRes.keep {r : Res} {B B' : Nat} {W W' : World} {y : Value} {n e1 e2 : Int} (h : TyRes r B W y n e1 e2) (hk : ∀ t, IsTX B W t y → IsTX B' W' t y) : TyRes r B' W' y n e1 e2 := by
  cases r with
  | ok t j => exact ⟨h.1, h.2.1, h.2.2.1, hk _ h.2.2.2⟩
  | err p c => exact h
theorem IsRes.ty {r : Res} {B : Nat} {W : World} {v : Value} (h : IsRes B W r v) : ∃ (k p : Int) (g s : ByteArray) (oo : Option Addr) (aa : Nat) (n e1 e2 : Int), v = .tuple #[.agg #[.int .i64 k, .int .i64 p, .string g, .string s, .slice oo aa aa], .int .i64 n, .agg #[.int .i64 e1, .int .i64 e2]] ∧
    TyRes r B W (.agg #[.int .i64 k, .int .i64 p, .string g, .string s, .slice oo aa aa]) n e1 e2 := by
  cases r with
  | ok t j =>
    obtain ⟨y, rfl, hx⟩ := h
    obtain ⟨k, p, g, s, o, a, rfl⟩ := hx.parts
    exact ⟨k, p, g, s, o, a, j, 0, 0, rfl, rfl, rfl, rfl, hx⟩
  | err p c =>
    obtain rfl : v = errV p c := h
    exact ⟨0, 0, ⟨#[]⟩, ⟨#[]⟩, none, 0, 0, p, c, rfl, rfl, rfl⟩
/-- Behind it: both boxes. -/
structure TyRel (r : Res) (w1 : World) (B4 B6 : Nat) (v0 v1 v2 v3 v4 : Value) (n e1 e2 : Int) (wx : World) : Prop where
  b4 : w1.heap.size ≤ B4
  b6 : w1.heap.size ≤ B6
  at5 : At5 wx B4 v0 v1 v2 v3 v4
  at2 : At2 wx B6 (.int .i64 e1) (.int .i64 e2)
  below : Below w1.heap.size w1 wx
  res : TyRes r w1.heap.size wx (.agg #[v0, v1, v2, v3, v4]) n e1 e2
section
variable {r : Res} {w1 w2 : World} {v0 v1 v2 v3 v4 : Value} {n e1 e2 : Int}
theorem tyF1 (hB : Below w1.heap.size w1 w2) (hr : TyRes r (w1.heap.size + 2) w2 (.agg #[v0, v1, v2, v3, v4]) n e1 e2) :
    TyRel r w1 w2.heap.size (w2.heap.size + 1) v0 v1 v2 v3 v4 n e1 e2 ((w2.alloc (.cells #[v0, v1, v2, v3, v4] 36)).alloc (.cells #[.int .i64 e1, .int .i64 e2] 28)) := by
  have hs := hB.size
  refine ⟨hs, by omega, At5.of ((Blk.new _ _ _).alloc _), At2.of (t := 28) ?_, (hB.alloc hs _).alloc (by simp; omega) _, hr.keep fun t h => IsTX.mono (by omega) (IsTP.below (IsTP.below h ((Below.refl _ _).alloc (Nat.le_refl _) _)) ((Below.refl _ _).alloc (Nat.le_refl _) _))⟩
  have := Blk.new (w2.alloc (.cells #[v0, v1, v2, v3, v4] 36)) 28 #[.int .i64 e1, .int .i64 e2]
  simpa using this
theorem tyF2 (hB : Below w1.heap.size w1 w2) (hr : TyRes r (w1.heap.size + 2) w2 (.agg #[v0, v1, v2, v3, v4]) n e1 e2) :
    TyRel r w1 (w2.heap.size + 1) w2.heap.size v0 v1 v2 v3 v4 n e1 e2 ((w2.alloc (.cells #[.int .i64 e1, .int .i64 e2] 28)).alloc (.cells #[v0, v1, v2, v3, v4] 36)) := by
  have hs := hB.size
  refine ⟨by omega, hs, At5.of (t := 36) ?_, At2.of ((Blk.new _ _ _).alloc _), (hB.alloc hs _).alloc (by simp; omega) _, hr.keep fun t h => IsTX.mono (by omega) (IsTP.below (IsTP.below h ((Below.refl _ _).alloc (Nat.le_refl _) _)) ((Below.refl _ _).alloc (Nat.le_refl _) _))⟩
  have := Blk.new (w2.alloc (.cells #[.int .i64 e1, .int .i64 e2] 28)) 36 #[v0, v1, v2, v3, v4]
  simpa using this
theorem tyF3 {f0 f1 f2 f3 f4 : Value} (hB : Below w1.heap.size w1 w2) (hX : Blk w2 w1.heap.size 36 #[f0, f1, f2, f3, f4]) (hr : TyRes r (w1.heap.size + 1 + 2) w2 (.agg #[v0, v1, v2, v3, v4]) n e1 e2) :
    TyRel r w1 w1.heap.size w2.heap.size v0 v1 v2 v3 v4 n e1 e2 ((st5 w2 w1.heap.size v0 v1 v2 v3 v4).alloc (.cells #[.int .i64 e1, .int .i64 e2] 28)) := by
  have hs := hB.size
  refine ⟨Nat.le_refl _, hs, At5.of ((blk_st5 hX _ _ _ _ _).alloc _), At2.of (t := 28) ?_, (st5_below hB (Nat.le_refl _) _ _ _ _ _).alloc (by rw [st5_size]; exact hs) _, hr.keep fun t h => IsTX.mono (by omega) (IsTP.below (itp_st5 h (by omega) _ _ _ _ _) ((Below.refl _ _).alloc (Nat.le_refl _) _))⟩
  have := Blk.new (st5 w2 w1.heap.size v0 v1 v2 v3 v4) 28 #[.int .i64 e1, .int .i64 e2]
  rwa [st5_size] at this
theorem tyF4 {f0 f1 : Value} (hB : Below w1.heap.size w1 w2) (hX : Blk w2 w1.heap.size 28 #[f0, f1]) (hr : TyRes r (w1.heap.size + 1 + 2) w2 (.agg #[v0, v1, v2, v3, v4]) n e1 e2) :
    TyRel r w1 w2.heap.size w1.heap.size v0 v1 v2 v3 v4 n e1 e2 ((set2 w2 w1.heap.size (.int .i64 e1) (.int .i64 e2)).alloc (.cells #[v0, v1, v2, v3, v4] 36)) := by
  have hs := hB.size
  refine ⟨hs, Nat.le_refl _, At5.of (t := 36) ?_, At2.of ((blk_set2 hX _ _).alloc _), (set2_below hB (Nat.le_refl _) _ _).alloc (by rw [set2_size]; exact hs) _, hr.keep fun t h => IsTX.mono (by omega) (IsTP.below (itp_set2 h (by omega) _ _) ((Below.refl _ _).alloc (Nat.le_refl _) _))⟩
  have := Blk.new (set2 w2 w1.heap.size (.int .i64 e1) (.int .i64 e2)) 36 #[v0, v1, v2, v3, v4]
  rwa [set2_size] at this
theorem tyF5 {f0 f1 f2 f3 f4 g0 g1 : Value} (hB : Below w1.heap.size w1 w2) (hX : Blk w2 w1.heap.size 36 #[f0, f1, f2, f3, f4]) (hY : Blk w2 (w1.heap.size + 1) 28 #[g0, g1]) (hr : TyRes r (w1.heap.size + 1 + 1 + 2) w2 (.agg #[v0, v1, v2, v3, v4]) n e1 e2) :
    TyRel r w1 w1.heap.size (w1.heap.size + 1) v0 v1 v2 v3 v4 n e1 e2 (set2 (st5 w2 w1.heap.size v0 v1 v2 v3 v4) (w1.heap.size + 1) (.int .i64 e1) (.int .i64 e2)) :=
  ⟨Nat.le_refl _, by omega, At5.of (blk_far2 (blk_st5 hX _ _ _ _ _) (by omega) _ _), At2.of (blk_set2 (blk_far5 hY (by omega) _ _ _ _ _) _ _), set2_below (st5_below hB (Nat.le_refl _) _ _ _ _ _) (by omega) _ _, hr.keep fun t h => IsTX.mono (by omega) (itp_set2 (itp_st5 h (by omega) _ _ _ _ _) (by omega) _ _)⟩
theorem tyF6 {f0 f1 f2 f3 f4 g0 g1 : Value} (hB : Below w1.heap.size w1 w2) (hX : Blk w2 w1.heap.size 28 #[g0, g1]) (hY : Blk w2 (w1.heap.size + 1) 36 #[f0, f1, f2, f3, f4]) (hr : TyRes r (w1.heap.size + 1 + 1 + 2) w2 (.agg #[v0, v1, v2, v3, v4]) n e1 e2) :
    TyRel r w1 (w1.heap.size + 1) w1.heap.size v0 v1 v2 v3 v4 n e1 e2 (set2 (st5 w2 (w1.heap.size + 1) v0 v1 v2 v3 v4) w1.heap.size (.int .i64 e1) (.int .i64 e2)) :=
  ⟨by omega, Nat.le_refl _, At5.of (blk_far2 (blk_st5 hY _ _ _ _ _) (by omega) _ _), At2.of (blk_set2 (blk_far5 hX (by omega) _ _ _ _ _) _ _), set2_below (st5_below hB (by omega) _ _ _ _ _) (Nat.le_refl _) _ _, hr.keep fun t h => IsTX.mono (by omega) (itp_set2 (itp_st5 h (by omega) _ _ _ _ _) (by omega) _ _)⟩
end
end Go.Proofs.YtlgaphopjdeklaaGreat
