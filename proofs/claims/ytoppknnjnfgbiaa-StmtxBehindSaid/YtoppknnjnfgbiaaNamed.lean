/-
  The walk of 'named'; what a return leaves. Condition: the tokens lie in memory as 'ZAt' says; texts of at most 2^48 bytes.
-/
import Derived.Test.YtoppknnjnfgbiaaKinds
import Derived.Deep.DeepCutAuto
namespace Go.Proofs.Ytoppknnjnfgbiaa
open Go.RowKit
open Go.Lib hiding intOf

theorem tokenAt_v (o : Option Addr) (c : Nat) (l : List TZ) (i : Int) (w : World) (h : ZAt w o l) (hn : l.length ≤ 9223372036854775807) :
    Calls Try.prog 88 #[.slice o l.length c, .int .i64 i] w fun e w' => e = .returned (.agg #[.int .i64 (tkAt l i).kind, .int .i64 (tkAt l i).pos, .int .i64 (tkAt l i).stop, .string (tkAt l i).text]) ∧ Below w.heap.size w w' := tokenAt_any o c l i w h hn
theorem isSymbol_v (k p s : Int) (x : ByteArray) (y : ByteArray) (w : World) : Calls Try.prog 89 #[.agg #[.int .i64 k, .int .i64 p, .int .i64 s, .string x], .string y] w fun e w' => e = .returned (.bool (isKT ⟨k, p, s, x⟩ 4 y)) ∧ Below w.heap.size w w' := isSymbol_any ⟨k, p, s, x⟩ y w

theorem _root_.Go.RowKit.Below.undrew {n : Nat} {a b : World} (h : Below n a.drew b) : Below n a b := ⟨h.os, h.tape, h.output, h.size, h.block⟩
theorem mid_size {w1 w2 : World} {o : Obj} (hB : Below (w1.alloc o).heap.size (w1.alloc o) w2) : w1.heap.size < w2.heap.size := by
  have := hB.size
  simp at this
  omega
theorem mid_size' {w1 w2 : World} {o o' : Obj} (hB : Below ((w1.alloc o).alloc o').heap.size ((w1.alloc o).alloc o') w2) : w1.heap.size + 1 < w2.heap.size := by
  have := hB.size
  simp at this
  omega
theorem blk_mid1 {w1 w2 : World} {o : Obj} (hB : Below ((w1.alloc o).alloc (.cells zeroT 38)).heap.size ((w1.alloc o).alloc (.cells zeroT 38)) w2) : Blk w2 (w1.heap.size + 1) 38 zeroT := by
  have h := (Blk.new (w1.alloc o) 38 zeroT).below hB
  simpa using h
theorem blk_mid2 {w1 w2 : World} {cs : Array Value} {t : TypeId} {o' : Obj} (hB : Below ((w1.alloc (.cells cs t)).alloc o').heap.size ((w1.alloc (.cells cs t)).alloc o') w2) : Blk w2 w1.heap.size t cs :=
  ((Blk.new w1 t cs).alloc o').below hB
theorem blk_mid3 {w1 w2 : World} {cs : Array Value} {t : TypeId} (hB : Below (w1.alloc (.cells cs t)).heap.size (w1.alloc (.cells cs t)) w2) : Blk w2 w1.heap.size t cs :=
  (Blk.new w1 t cs).below hB

/-- What the first name's region leaves: a block with the type. -/
def leafC (k p : Int) (g n : ByteArray) : Array Value := #[.int .i64 k, .int .i64 p, .string g, .string n, .slice none 0 0]
theorem endB {w1 w2 : World} {o : Obj} {cs : Array Value} (hB : Below (w1.alloc o).heap.size (w1.alloc o) w2) :
    ∃ b : Nat, Value.pointer (some ⟨w2.heap.size, 0, none⟩) = .pointer (some ⟨b, 0, none⟩) ∧ Hid (Blk (w2.alloc (.cells cs 38)) b 38 cs) ∧ Hid (Below w1.heap.size w1 (w2.alloc (.cells cs 38))) ∧ w1.heap.size ≤ b := by
  have h1 := mid_size hB
  exact ⟨_, rfl, Lib.hid (Blk.new _ _ _), Lib.hid (((((Below.refl _ _).alloc (Nat.le_refl _) o).trans (hB.mono (by simp)))).alloc (by omega) _), by omega⟩
theorem endA {w1 w2 : World} {o : Obj} {v0 v1 v2 v3 v4 : Value} (hx : Blk w2 (w1.heap.size + 1) 38 zeroT) (hB : Below ((w1.alloc o).alloc (.cells zeroT 38)).heap.size ((w1.alloc o).alloc (.cells zeroT 38)) w2) :
    ∃ b : Nat, Value.pointer (some ⟨w1.heap.size + 1, 0, none⟩) = .pointer (some ⟨b, 0, none⟩) ∧ Hid (Blk (((((w2.setCell ⟨w1.heap.size + 1, 0, none⟩ v0).setCell ⟨w1.heap.size + 1, 1, none⟩ v1).setCell ⟨w1.heap.size + 1, 2, none⟩ v2).setCell ⟨w1.heap.size + 1, 3, none⟩ v3).setCell ⟨w1.heap.size + 1, 4, none⟩ v4) b 38 #[v0, v1, v2, v3, v4]) ∧
      Hid (Below w1.heap.size w1 (((((w2.setCell ⟨w1.heap.size + 1, 0, none⟩ v0).setCell ⟨w1.heap.size + 1, 1, none⟩ v1).setCell ⟨w1.heap.size + 1, 2, none⟩ v2).setCell ⟨w1.heap.size + 1, 3, none⟩ v3).setCell ⟨w1.heap.size + 1, 4, none⟩ v4)) ∧ w1.heap.size ≤ b := by
  have hb : Below w1.heap.size w1 w2 := (((Below.refl _ _).alloc (Nat.le_refl _) o).alloc (by simp) _).trans (hB.mono (by simp; omega))
  exact ⟨_, rfl, Lib.hid (((((hx.set_ 0 v0).set_ 1 v1).set_ 2 v2).set_ 3 v3).set_ 4 v4), Lib.hid (((((hb.setCell (Nat.le_succ _) _).setCell (Nat.le_succ _) _).setCell (Nat.le_succ _) _).setCell (Nat.le_succ _) _).setCell (Nat.le_succ _) _), Nat.le_succ _⟩

/-- What a return leaves: the two results' blocks are written. -/
def ret7 (w W : World) (v0 v1 v2 v3 v4 v5 v6 : Value) : World :=
  ((((((W.setCell ⟨w.heap.size, 0, none⟩ v0).setCell ⟨w.heap.size, 1, none⟩ v1).setCell ⟨w.heap.size, 2, none⟩ v2).setCell ⟨w.heap.size, 3, none⟩ v3).setCell ⟨w.heap.size, 4, none⟩ v4).setCell ⟨w.heap.size + 1, 0, none⟩ v5).setCell ⟨w.heap.size + 1, 1, none⟩ v6
theorem ret7_below {w W : World} (T : Two w W) (v0 v1 v2 v3 v4 v5 v6 : Value) : Below w.heap.size w (ret7 w W v0 v1 v2 v3 v4 v5 v6) :=
  ((((((T.below.setCell (Nat.le_refl _) _).setCell (Nat.le_refl _) _).setCell (Nat.le_refl _) _).setCell (Nat.le_refl _) _).setCell (Nat.le_refl _) _).setCell (Nat.le_succ _) _).setCell (Nat.le_succ _) _
theorem ret7_type {w W : World} {B : Nat} {x : TX} {v : Value} (h : IsTX B W x v) (hB : w.heap.size + 1 < B) (v0 v1 v2 v3 v4 v5 v6 : Value) : IsTX B (ret7 w W v0 v1 v2 v3 v4 v5 v6) x v :=
  ((((((h.set_ (p := ⟨w.heap.size, 0, none⟩) (by simp only; omega) _).set_ (p := ⟨w.heap.size, 1, none⟩) (by simp only; omega) _).set_ (p := ⟨w.heap.size, 2, none⟩) (by simp only; omega) _).set_ (p := ⟨w.heap.size, 3, none⟩) (by simp only; omega) _).set_ (p := ⟨w.heap.size, 4, none⟩) (by simp only; omega) _).set_ (p := ⟨w.heap.size + 1, 0, none⟩) hB _).set_ (p := ⟨w.heap.size + 1, 1, none⟩) hB _

theorem ret7_two {w W : World} (T : Two w W) {b i j : Nat} (hb : w.heap.size ≤ b) (x y v0 v1 v2 v3 v4 v5 v6 : Value) : Below w.heap.size w (ret7 w ((W.setCell ⟨b, i, none⟩ x).setCell ⟨b, j, none⟩ y) v0 v1 v2 v3 v4 v5 v6) :=
  ((((((((T.below.setCell hb _).setCell hb _).setCell (Nat.le_refl _) _).setCell (Nat.le_refl _) _).setCell (Nat.le_refl _) _).setCell (Nat.le_refl _) _).setCell (Nat.le_refl _) _).setCell (Nat.le_succ _) _).setCell (Nat.le_succ _) _

set_option maxRecDepth 20000 in
set_option maxHeartbeats 4000000 in
theorem named_any (o : Option Addr) (c : Nat) (l : List TZ) (i : Int) (w : World) (h : ZAt w o l) (hn : l.length ≤ 9223372036854775807) (hf : Fits l) (hk : (tkAt l i).kind = 1) :
    Calls Try.prog 92 #[.slice o l.length c, .int .i64 i] w fun e w' => ∃ v, e = .returned v ∧ IsRes w.heap.size w' (elm l i) v ∧ Below w.heap.size w w' := by
  obtain ⟨hi0, hi1⟩ := tkAt_real (l := l) (i := i) (by rw [hk]; decide)
  have HT := Lib.hid (fun (W : World) (j : Int) (hb : Below w.heap.size w W) => tokenAt_v o c l j W (h.below hb) hn)
  have HS := Lib.hid (fun (W : World) (t : TZ) (y : ByteArray) => isSymbol_v t.kind t.pos t.stop t.text y W)
  have HQ := Lib.hid (fun W : World => clone_any (tkAt l i).text W (hf.tkAt i))
  have HQ2 := Lib.hid (fun W : World => clone_any (tkAt l (i + 2)).text W (hf.tkAt (i + 2)))
  have HK := Lib.hid hk
  clear h hf hk
  go_enter Try.func92, Try.ntmps92
  go_wp2_with fail
  refine (HT.out _ _ (Two.start w).below).mono ?_
  rintro e w1 ⟨rfl, hB⟩
  have T1 := Lib.hid ((Two.start w).step hB)
  clear hB
  go_wp2_with fail
  go_cut [8] (fun v wx => ∃ b : Nat, v = .pointer (some ⟨b, 0, none⟩) ∧ Hid (Blk wx b 38 #[.int .i64 4, .int .i64 (tkAt l i).pos, .string ⟨#[]⟩, .string (tkAt l i).text, .slice none 0 0]) ∧ Hid (Below w1.heap.size w1 wx) ∧ w1.heap.size ≤ b)
  case first =>
    go_region_with ((go_at_call 17; refine (HQ.out _).mono ?_; rintro e w2 ⟨rfl, hB2⟩; first | (have X8 := blk_mid1 hB2.undrew; have X7 := blk_mid2 hB2.undrew; have xc7 := X7.cell; have xf7 := X7.frozen; have hz2 := mid_size' hB2.undrew; have hz3 := Nat.ne_of_lt hz2; have xc8 := X8.cell; have xf8 := X8.frozen; have HX8 := Lib.hid X8; have HB2 := Lib.hid hB2.undrew; clear X7 X8 hB2; simp only [zeroT] at xc8) | (have X7 := blk_mid3 hB2.undrew; have hz2 := mid_size hB2.undrew; have hz3 := Nat.ne_of_lt hz2; have xc7 := X7.cell; have xf7 := X7.frozen; have HB2 := Lib.hid hB2.undrew; clear X7 hB2)))
    all_goals go_wp2_with fail
    all_goals go_meet
    all_goals first | exact endB HB2.out | exact endA HX8.out HB2.out
  case rest =>
    obtain ⟨b, rfl, HX, HB, hb⟩ := hcut
    have hz1 := T1.out.size
    have T2 := Lib.hid (T1.out.step HB.out)
    clear HB T1
    go_wp2_with fail
    refine (HT.out _ _ T2.out.below).mono ?_
    rintro e w3 ⟨rfl, hB⟩
    have T3 := Lib.hid (T2.out.step hB)
    have HX3 := Lib.hid (HX.out.below hB)
    clear hB HX T2
    go_wp2_with fail
    refine (HS.out _ (tkAt l (i + 1)) _).mono ?_
    rintro e w4 ⟨rfl, hB⟩
    have T4 := Lib.hid (T3.out.step hB)
    have HX4 := Lib.hid (HX3.out.below hB)
    clear hB HX3 T3
    cases he : isKT (tkAt l (i + 1)) 4 ⟨#[46]⟩
    · have E := Lib.hid he
      obtain ⟨c1, c2, c3, c4⟩ := T4.out.cells
      have c5 := HX4.out.cell
      simp only [zeroT, zeroG] at c1 c3
      go_wp2
      have hr : elm l i = .ok (.leaf 4 (tkAt l i).pos ⟨#[]⟩ (tkAt l i).text) (i + 1) := by simp [elm, HK.out, E.out]
      rw [hr]
      refine bodyPost_ret (v := okV (leafV 4 (tkAt l i).pos ⟨#[]⟩ (tkAt l i).text) (i + 1)) (by simp [okV, leafV, results, Try.results92, go_sem, c1, c3]) rfl ?_
      exact ⟨_, rfl, ⟨_, rfl, rfl⟩, ret7_below T4.out _ _ _ _ _ _ _⟩
    · have E := Lib.hid he
      have hi2 := (isKT_real (by decide) he).2
      clear he
      go_wp2_with fail
      refine (HT.out _ _ T4.out.below).mono ?_
      rintro e w5 ⟨rfl, hB⟩
      have T5 := Lib.hid (T4.out.step hB)
      have HX5 := Lib.hid (HX4.out.below hB)
      clear hB HX4 T4
      by_cases hk2 : (tkAt l (i + 2)).kind = 1
      · have E2 := Lib.hid hk2
        rw [hk2]
        clear hk2
        have hbl : b < w5.heap.size := HX5.out.lt
        have hi3 := (tkAt_real (l := l) (i := i + 2) (by rw [E2.out]; decide)).2
        have hb1 : b ≠ w.heap.size := by omega
        have hb2 : b ≠ w.heap.size + 1 := by omega
        have hb3 : w.heap.size ≠ b := by omega
        have hb4 : w.heap.size + 1 ≠ b := by omega
        have hbn : b ≠ w5.heap.size := Nat.ne_of_lt hbl
        have c5 := HX5.out.cell
        have f5 := HX5.out.frozen
        go_wp2_with fail
        go_region_with (go_at_call 17; refine (HQ2.out _).mono ?_; rintro e w6 ⟨rfl, hB⟩; have X9 := blk_mid3 hB.undrew; have d9 := X9.cell; have T6 := Lib.hid ((T5.out.alloc _).step hB.undrew); have HX6 := Lib.hid ((HX5.out.alloc _).below hB.undrew); have dx := HX6.out.cell; have fx := HX6.out.frozen; clear X9 hB)
        all_goals
          obtain ⟨c1, c2, c3, c4⟩ := T6.out.cells
          simp only [zeroT, zeroG] at c1 c3
          go_wp2
          have hr : elm l i = .ok (.leaf 4 (tkAt l i).pos (tkAt l i).text (tkAt l (i + 2)).text) (i + 3) := by simp [elm, HK.out, E.out, E2.out]
          rw [hr]
          refine bodyPost_ret (v := okV (leafV 4 (tkAt l i).pos (tkAt l i).text (tkAt l (i + 2)).text) (i + 3)) (by simp [okV, leafV, results, Try.results92, go_sem, c1, c3]) rfl ?_
          exact ⟨_, rfl, ⟨_, rfl, rfl⟩, ret7_two T6.out (by omega) _ _ _ _ _ _ _ _ _⟩
      · have hk3 : ((tkAt l (i + 2)).kind == 1) = false := by simpa using hk2
        have hk4 : ((tkAt l (i + 2)).kind != 1) = true := by simpa using hk2
        have E2 := Lib.hid hk2
        clear hk2
        obtain ⟨c1, c2, c3, c4⟩ := T5.out.cells
        have hz : w.heap.size + 1 < w5.heap.size := T5.out.size
        have hz0 : w.heap.size < w5.heap.size := by omega
        simp only [zeroT, zeroG] at c1 c3
        go_wp2_with fail
        go_region
        go_wp2
        have hr : elm l i = .err (tkAt l (i + 2)).pos 5 := by simp [elm, HK.out, E.out, E2.out]
        rw [hr]
        refine bodyPost_ret (v := errV (tkAt l (i + 2)).pos 5) (by simp [errV, noType, noText, results, Try.results92, go_sem, c1, c3, hz, hz0]) rfl ?_
        exact ⟨_, rfl, rfl, ((ret7_below T5.out _ _ _ _ _ _ _).alloc (by have := (ret7_below T5.out (.int .i64 0) (.int .i64 0) (.int .i64 0) (.int .i64 0) (.int .i64 0) (.int .i64 0) (.int .i64 0)).size; simpa [ret7] using this) _).drew⟩

end Go.Proofs.Ytoppknnjnfgbiaa
