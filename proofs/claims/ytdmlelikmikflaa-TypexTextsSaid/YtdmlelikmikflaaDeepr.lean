/-
  The walk of the document's own 'deep'. Condition: the tokens lie in memory as 'ZAt' says.
-/
import Derived.Test.YtdmlelikmikflaaParse
namespace Go.Proofs.Ytdmlelikmikflaa
open Go.RowKit
open Go.Lib hiding intOf

theorem token_v (o : Option Addr) (c : Nat) (l : List TZ) (i : Int) (w : World) (h : ZAt w o l) (hn : l.length ≤ 9223372036854775807) :
    Calls Try.prog 18 #[.slice o l.length c, .int .i64 i] w fun e w' => e = .returned (.agg #[.int .i64 (tkAt l i).kind, .int .i64 (tkAt l i).pos, .int .i64 (tkAt l i).stop, .string (tkAt l i).text]) ∧ Below w.heap.size w w' := token_any o c l i w h hn
theorem is_v (k p s : Int) (x : ByteArray) (q : Int) (y : ByteArray) (w : World) : Calls Try.prog 25 #[.agg #[.int .i64 k, .int .i64 p, .int .i64 s, .string x], .int .i64 q, .string y] w fun e w' => e = .returned (.bool (isKT ⟨k, p, s, x⟩ q y)) ∧ Below w.heap.size w w' := is_any ⟨k, p, s, x⟩ q y w
theorem fails_v (k p s : Int) (x : ByteArray) (c : Int) (w : World) : Calls Try.prog 17 #[.agg #[.int .i64 k, .int .i64 p, .int .i64 s, .string x], .int .i64 c] w fun e w' => e = .returned (.tuple #[.agg #[.int .i64 0, .int .i64 0, .string ⟨#[]⟩, .string ⟨#[]⟩, .slice none 0 0], .int .i64 0, .agg #[.int .i64 p, .int .i64 c]]) ∧ Below w.heap.size w w' := fails_any ⟨k, p, s, x⟩ c w

theorem isKT_kind {t : TZ} {k : Int} {s : ByteArray} (h : t.kind ≠ k) : isKT t k s = false := by simp [isKT, h]

theorem prs_word (l : List TZ) (k : Nat) (i : Int) (h : (tkAt l i).kind = 5) : prs l k i = if kindOf (tkAt l i).text.data.toList ≠ 0 then .ok (.leaf (kindOf (tkAt l i).text.data.toList) (tkAt l i).pos ⟨#[]⟩ ⟨#[]⟩) (i + 1) else .err (tkAt l i).pos 5 := by
  rw [prs_elm l k i (isKT_kind (by rw [h]; decide))]
  simp [elm, h]
theorem prs_name (l : List TZ) (k : Nat) (i : Int) (h : (tkAt l i).kind = 1) : prs l k i = if isKT (tkAt l (i + 1)) 4 ⟨#[46]⟩ then (if (tkAt l (i + 2)).kind = 1 then .ok (.leaf 4 (tkAt l i).pos (tkAt l i).text (tkAt l (i + 2)).text) (i + 3) else .err (tkAt l (i + 2)).pos 5) else .ok (.leaf 4 (tkAt l i).pos ⟨#[]⟩ (tkAt l i).text) (i + 1) := by
  rw [prs_elm l k i (isKT_kind (by rw [h]; decide))]
  simp [elm, h]
theorem prs_other (l : List TZ) (k : Nat) (i : Int) (h1 : (tkAt l i).kind ≠ 1) (h5 : (tkAt l i).kind ≠ 5) (h : isKT (tkAt l i) 4 ⟨#[91]⟩ = false) : prs l k i = .err (tkAt l i).pos 5 := by
  rw [prs_elm l k i h]
  simp [elm, h1, h5]

theorem beq_list (a b : List UInt8) : (a == b) = decide (a = b) := by
  by_cases h : a = b
  · simp [h]
  · simp [h]

set_option maxRecDepth 20000 in
set_option maxHeartbeats 4000000 in
theorem deep_word (k : Nat) (lists : Int) (o : Option Addr) (c : Nat) (l : List TZ) (i : Int) (w : World) (h : ZAt w o l) (hn : l.length ≤ 9223372036854775807) (h5 : (tkAt l i).kind = 5) :
    Calls Try.prog 19 #[.slice o l.length c, .int .i64 i, .int .i64 lists] w fun e w' => ∃ v, e = .returned v ∧ IsRes (w.heap.size + 2) w' (prs l k i) v ∧ Below w.heap.size w w' := by
  obtain ⟨hi0, hi1⟩ := tkAt_real (l := l) (i := i) (by rw [h5]; decide)
  have HT := Lib.hid (fun (W : World) (j : Int) (hb : Below w.heap.size w W) => token_v o c l j W (h.below hb) hn)
  have HS := Lib.hid (fun (W : World) (t : TZ) (q : Int) (y : ByteArray) => is_v t.kind t.pos t.stop t.text q y W)
  have HF := Lib.hid (fun (W : World) (t : TZ) (q : Int) => fails_v t.kind t.pos t.stop t.text q W)
  have HR := Lib.hid (prs_word l k i h5)
  have H5 := Lib.hid h5
  clear h
  have e1 : ((tkAt l i).text.toList == [105, 110, 116]) = decide ((tkAt l i).text.data.toList = [105, 110, 116]) := by rw [ByteArray.toList_eq, beq_list]
  have e2 : ((tkAt l i).text.toList == [98, 111, 111, 108]) = decide ((tkAt l i).text.data.toList = [98, 111, 111, 108]) := by rw [ByteArray.toList_eq, beq_list]
  have e3 : ((tkAt l i).text.toList == [116, 101, 120, 116]) = decide ((tkAt l i).text.data.toList = [116, 101, 120, 116]) := by rw [ByteArray.toList_eq, beq_list]
  go_enter Try.func19, Try.ntmps19
  go_wp2_with fail
  refine (HT.out _ i (Two.start w).below).mono ?_
  rintro e w1 ⟨rfl, hB⟩
  have T1 := Lib.hid ((Two.start w).step hB)
  have hz0 := T1.out.size
  have hz1 : w.heap.size < w1.heap.size := by omega
  have hz2 : w.heap.size + 1 < w1.heap.size := by omega
  clear hB
  obtain ⟨c1, c2, c3, c4⟩ := T1.out.cells
  simp only [zeroT, zeroG] at c1 c3
  rw [h5]
  by_cases q1 : (tkAt l i).text.data.toList = [105, 110, 116]
  · have Q := Lib.hid q1
    rw [decide_eq_true q1] at e1
    clear q1 h5 e2 e3
    go_wp2
    refine bodyPost_ret (v := okV (leafV 1 (tkAt l i).pos ⟨#[]⟩ ⟨#[]⟩) (i + 1)) (by simp [okV, leafV, results, Try.results19, go_sem, c1, c3, hz1, hz2]) rfl ?_
    refine ⟨_, rfl, ?_, (ret7_below T1.out _ _ _ _ _ _ _).alloc (by rw [ret7_size]; omega) _⟩
    rw [HR.out, Q.out]
    exact ⟨_, rfl, rfl⟩
  · rw [decide_eq_false q1] at e1
    have N1 := Lib.hid q1
    clear q1
    by_cases q2 : (tkAt l i).text.data.toList = [98, 111, 111, 108]
    · have Q := Lib.hid q2
      rw [decide_eq_true q2] at e2
      clear q2 h5 e3
      go_wp2
      refine bodyPost_ret (v := okV (leafV 2 (tkAt l i).pos ⟨#[]⟩ ⟨#[]⟩) (i + 1)) (by simp [okV, leafV, results, Try.results19, go_sem, c1, c3, hz1, hz2]) rfl ?_
      refine ⟨_, rfl, ?_, (ret7_below T1.out _ _ _ _ _ _ _).alloc (by rw [ret7_size]; omega) _⟩
      rw [HR.out, Q.out]
      exact ⟨_, rfl, rfl⟩
    · rw [decide_eq_false q2] at e2
      have N2 := Lib.hid q2
      clear q2
      by_cases q3 : (tkAt l i).text.data.toList = [116, 101, 120, 116]
      · have Q := Lib.hid q3
        rw [decide_eq_true q3] at e3
        clear q3 h5
        go_wp2
        refine bodyPost_ret (v := okV (leafV 3 (tkAt l i).pos ⟨#[]⟩ ⟨#[]⟩) (i + 1)) (by simp [okV, leafV, results, Try.results19, go_sem, c1, c3, hz1, hz2]) rfl ?_
        refine ⟨_, rfl, ?_, (ret7_below T1.out _ _ _ _ _ _ _).alloc (by rw [ret7_size]; omega) _⟩
        rw [HR.out, Q.out]
        exact ⟨_, rfl, rfl⟩
      · rw [decide_eq_false q3] at e3
        have N3 := Lib.hid q3
        clear q3
        have ht := isKT_kind (t := ⟨5, (tkAt l i).pos, (tkAt l i).stop, (tkAt l i).text⟩) (k := 4) (s := ⟨#[91]⟩) (by show (5 : Int) ≠ 4; decide)
        clear h5
        go_wp2_with fail
        refine (HS.out _ ⟨5, (tkAt l i).pos, (tkAt l i).stop, (tkAt l i).text⟩ _ _).mono ?_
        rintro e w2 ⟨rfl, hB⟩
        have T2 := Lib.hid ((T1.out.alloc _).step hB)
        have X2 := Lib.hid (blk_mid3 hB)
        have d2 := X2.out.cell
        rw [ht]
        clear hB c1 c2 c3 c4
        go_wp2_with fail
        refine (HF.out _ ⟨5, (tkAt l i).pos, (tkAt l i).stop, (tkAt l i).text⟩ _).mono ?_
        rintro e w3 ⟨rfl, hB⟩
        have T3 := Lib.hid (T2.out.step hB)
        obtain ⟨c1, c2, c3, c4⟩ := T3.out.cells
        simp only [zeroT, zeroG] at c1 c3
        clear hB d2
        go_wp2
        refine bodyPost_ret (v := errV (tkAt l i).pos 5) (by simp [errV, noType, noText, results, Try.results19, go_sem, c1, c3]) rfl ?_
        refine ⟨_, rfl, ?_, ret7_below T3.out _ _ _ _ _ _ _⟩
        rw [HR.out]
        simp [kindOf, N1.out, N2.out, N3.out]
        rfl

end Go.Proofs.Ytdmlelikmikflaa
