/-
  The walk of the document's own 'deep', the other cases, and of its 'Parse'. Condition: the tokens lie in memory as 'ZAt' says.
-/
import Derived.Test.YtdmlelikmikflaaDeepr
namespace Go.Proofs.Ytdmlelikmikflaa
open Go.RowKit
open Go.Lib hiding intOf

set_option maxRecDepth 20000 in
set_option maxHeartbeats 4000000 in
theorem deep_name (k : Nat) (lists : Int) (o : Option Addr) (c : Nat) (l : List TZ) (i : Int) (w : World) (h : ZAt w o l) (hn : l.length ≤ 9223372036854775807) (h1 : (tkAt l i).kind = 1) :
    Calls Try.prog 19 #[.slice o l.length c, .int .i64 i, .int .i64 lists] w fun e w' => ∃ v, e = .returned v ∧ IsRes (w.heap.size + 2) w' (prs l k i) v ∧ Below w.heap.size w w' := by
  obtain ⟨hi0, hi1⟩ := tkAt_real (l := l) (i := i) (by rw [h1]; decide)
  have HT := Lib.hid (fun (W : World) (j : Int) (hb : Below w.heap.size w W) => token_v o c l j W (h.below hb) hn)
  have HS := Lib.hid (fun (W : World) (t : TZ) (q : Int) (y : ByteArray) => is_v t.kind t.pos t.stop t.text q y W)
  have HF := Lib.hid (fun (W : World) (t : TZ) (q : Int) => fails_v t.kind t.pos t.stop t.text q W)
  have HR := Lib.hid (prs_name l k i h1)
  have H1 := Lib.hid h1
  clear h
  go_enter Try.func19, Try.ntmps19
  go_wp2_with fail
  refine (HT.out _ i (Two.start w).below).mono ?_
  rintro e w1 ⟨rfl, hB⟩
  have T1 := Lib.hid ((Two.start w).step hB)
  have hz0 := T1.out.size
  clear hB
  rw [h1]
  clear h1
  go_wp2_with fail
  refine (HT.out _ (i + 1) (T1.out.alloc _).below).mono ?_
  rintro e w2 ⟨rfl, hB⟩
  have T2 := Lib.hid ((T1.out.alloc _).step hB)
  have X2 := Lib.hid (blk_mid3 hB)
  have hz1 := mid_size hB
  clear hB
  go_wp2_with fail
  refine (HS.out _ (tkAt l (i + 1)) _ _).mono ?_
  rintro e w3 ⟨rfl, hB⟩
  have T3 := Lib.hid (T2.out.step hB)
  have X3 := Lib.hid (X2.out.below hB)
  have hz3 := hB.size
  clear hB
  cases he : isKT (tkAt l (i + 1)) 4 ⟨#[46]⟩
  · have E := Lib.hid he
    clear he
    obtain ⟨c1, c2, c3, c4⟩ := T3.out.cells
    have d3 := X3.out.cell
    simp only [zeroT, zeroG] at c1 c3
    go_wp2
    refine bodyPost_ret (v := okV (leafV 4 (tkAt l i).pos ⟨#[]⟩ (tkAt l i).text) (i + 1)) (by simp [okV, leafV, results, Try.results19, go_sem, c1, c3]) rfl ?_
    refine ⟨_, rfl, ?_, ret7_below T3.out _ _ _ _ _ _ _⟩
    rw [HR.out, E.out]
    exact ⟨_, rfl, rfl⟩
  · have E := Lib.hid he
    obtain ⟨hi2, hi3⟩ := isKT_real (by decide) he
    clear he
    go_wp2_with fail
    refine (HT.out _ (i + 2) T3.out.below).mono ?_
    rintro e w4 ⟨rfl, hB⟩
    have T4 := Lib.hid (T3.out.step hB)
    have X4 := Lib.hid (X3.out.below hB)
    have hz4 := hB.size
    clear hB
    have hz5 : w.heap.size < w4.heap.size := by omega
    have hz6 : w.heap.size + 1 < w4.heap.size := by omega
    have hz7 : w1.heap.size < w4.heap.size := by omega
    have hz8 : w1.heap.size ≠ w4.heap.size := by omega
    by_cases h2 : (tkAt l (i + 2)).kind = 1
    · have E2 := Lib.hid h2
      obtain ⟨hi4, hi5⟩ := tkAt_real (l := l) (i := i + 2) (by rw [h2]; decide)
      rw [h2]
      clear h2
      obtain ⟨c1, c2, c3, c4⟩ := T4.out.cells
      have d4 := X4.out.cell
      simp only [zeroT, zeroG] at c1 c3
      go_wp2
      refine bodyPost_ret (v := okV (leafV 4 (tkAt l i).pos (tkAt l i).text (tkAt l (i + 2)).text) (i + 3)) (by simp [okV, leafV, results, Try.results19, go_sem, c1, c3, hz5, hz6]) rfl ?_
      refine ⟨_, rfl, ?_, (ret7_below T4.out _ _ _ _ _ _ _).alloc (by rw [ret7_size]; omega) _⟩
      rw [HR.out, E.out, E2.out]
      exact ⟨_, rfl, rfl⟩
    · have hk3 : ((tkAt l (i + 2)).kind == 1) = false := by simpa using h2
      have hk4 : ((tkAt l (i + 2)).kind != 1) = true := by simpa using h2
      have E2 := Lib.hid h2
      clear h2
      go_wp2_with fail
      refine (HF.out _ (tkAt l (i + 2)) _).mono ?_
      rintro e w5 ⟨rfl, hB⟩
      have T5 := Lib.hid ((T4.out.alloc _).step hB)
      obtain ⟨c1, c2, c3, c4⟩ := T5.out.cells
      simp only [zeroT, zeroG] at c1 c3
      clear hB
      go_wp2
      refine bodyPost_ret (v := errV (tkAt l (i + 2)).pos 5) (by simp [errV, noType, noText, results, Try.results19, go_sem, c1, c3]) rfl ?_
      refine ⟨_, rfl, ?_, ret7_below T5.out _ _ _ _ _ _ _⟩
      rw [HR.out, E.out]
      simp [E2.out]
      rfl

set_option maxRecDepth 20000 in
set_option maxHeartbeats 4000000 in
theorem deep_other (k : Nat) (lists : Int) (o : Option Addr) (c : Nat) (l : List TZ) (i : Int) (w : World) (h : ZAt w o l) (hn : l.length ≤ 9223372036854775807) (h1 : (tkAt l i).kind ≠ 1) (h5 : (tkAt l i).kind ≠ 5) (he : isKT (tkAt l i) 4 ⟨#[91]⟩ = false) :
    Calls Try.prog 19 #[.slice o l.length c, .int .i64 i, .int .i64 lists] w fun e w' => ∃ v, e = .returned v ∧ IsRes (w.heap.size + 2) w' (prs l k i) v ∧ Below w.heap.size w w' := by
  have HT := Lib.hid (fun (W : World) (j : Int) (hb : Below w.heap.size w W) => token_v o c l j W (h.below hb) hn)
  have HS := Lib.hid (fun (W : World) (t : TZ) (q : Int) (y : ByteArray) => is_v t.kind t.pos t.stop t.text q y W)
  have HF := Lib.hid (fun (W : World) (t : TZ) (q : Int) => fails_v t.kind t.pos t.stop t.text q W)
  have HR := Lib.hid (prs_other l k i h1 h5 he)
  have E := Lib.hid he
  have e1 : ((tkAt l i).kind == 1) = false := by simpa using h1
  have e5 : ((tkAt l i).kind == 5) = false := by simpa using h5
  clear h he h1 h5
  go_enter Try.func19, Try.ntmps19
  go_wp2_with fail
  refine (HT.out _ i (Two.start w).below).mono ?_
  rintro e w1 ⟨rfl, hB⟩
  have T1 := Lib.hid ((Two.start w).step hB)
  have hz0 := T1.out.size
  clear hB
  go_wp2_with fail
  refine (HS.out _ (tkAt l i) _ _).mono ?_
  rintro e w2 ⟨rfl, hB⟩
  have T2 := Lib.hid ((T1.out.alloc _).step hB)
  have X2 := Lib.hid (blk_mid3 hB)
  have d2 := X2.out.cell
  have he := E.out
  clear hB
  rw [show isKT ⟨(tkAt l i).kind, (tkAt l i).pos, (tkAt l i).stop, (tkAt l i).text⟩ 4 ⟨#[91]⟩ = false from he]
  clear he
  go_wp2_with fail
  refine (HF.out _ (tkAt l i) _).mono ?_
  rintro e w3 ⟨rfl, hB⟩
  have T3 := Lib.hid (T2.out.step hB)
  obtain ⟨c1, c2, c3, c4⟩ := T3.out.cells
  simp only [zeroT, zeroG] at c1 c3
  clear hB d2
  go_wp2
  refine bodyPost_ret (v := errV (tkAt l i).pos 5) (by simp [errV, noType, noText, results, Try.results19, go_sem, c1, c3]) rfl ?_
  refine ⟨_, rfl, ?_, ret7_below T3.out _ _ _ _ _ _ _⟩
  rw [HR.out]
  rfl

theorem prs_code {l : List TZ} : ∀ {k : Nat} {i p c : Int}, prs l k i = .err p c → c ≠ 0
  | 0, i, p, c, h => by
    unfold prs at h
    split at h
    · injection h with _ h; rw [← h]; decide
    · rw [elm_five h]; decide
  | k + 1, i, p, c, h => by
    unfold prs at h
    split at h
    · split at h
      · cases hp : prs l k (i + 2) with
        | ok x n => rw [hp] at h; cases h
        | err q d =>
          rw [hp] at h
          have := prs_code hp
          injection h with _ h; rw [← h]; exact this
      · injection h with _ h; rw [← h]; decide
    · rw [elm_five h]; decide

theorem list_end {B n : Nat} {X : World} {x : TX} {v0 v1 v2 v3 v4 : Value} (hs : X.heap.size = n) (hx : IsTX B X x (.agg #[v0, v1, v2, v3, v4])) (hB : B ≤ n) (o o' : Obj) (p : Int) :
    IsTX B (((X.alloc o).alloc o').alloc (.cells #[v0, v1, v2, v3, v4] 26)) (.list p x) (listV p (n + 1 + 1)) := by
  have hn := Blk.new ((X.alloc o).alloc o') 26 #[v0, v1, v2, v3, v4]
  rw [World.size_alloc, World.size_alloc, hs] at hn
  have hb : Below X.heap.size X (((X.alloc o).alloc o').alloc (.cells #[v0, v1, v2, v3, v4] 26)) := (((Below.refl _ _).alloc (Nat.le_refl _) _).alloc (by simp) _).alloc (by simp; omega) _
  exact ⟨n + 1 + 1, v0, v1, v2, v3, v4, rfl, by omega, hn.cell 0, hn.cell 1, hn.cell 2, hn.cell 3, hn.cell 4, IsTX.below hx hb⟩

set_option maxRecDepth 20000 in
set_option maxHeartbeats 4000000 in
theorem deep_any (o : Option Addr) (c : Nat) (l : List TZ) (hn : l.length ≤ 9223372036854775807) : ∀ (k : Nat) (lists i : Int) (w : World), lists + k = 30 → 0 ≤ lists → ZAt w o l →
    Calls Try.prog 19 #[.slice o l.length c, .int .i64 i, .int .i64 lists] w fun e w' => ∃ v, e = .returned v ∧ IsRes (w.heap.size + 2) w' (prs l k i) v ∧ Below w.heap.size w w' := by
  intro k
  induction k with
  | zero =>
    intro lists i w hk h0 h
    obtain rfl : lists = 30 := by omega
    by_cases h5 : (tkAt l i).kind = 5
    · exact deep_word 0 30 o c l i w h hn h5
    by_cases h1 : (tkAt l i).kind = 1
    · exact deep_name 0 30 o c l i w h hn h1
    cases he : isKT (tkAt l i) 4 ⟨#[91]⟩
    · exact deep_other 0 30 o c l i w h hn h1 h5 he
    have HT := Lib.hid (fun (W : World) (j : Int) (hb : Below w.heap.size w W) => token_v o c l j W (h.below hb) hn)
    have HS := Lib.hid (fun (W : World) (t : TZ) (q : Int) (y : ByteArray) => is_v t.kind t.pos t.stop t.text q y W)
    have HF := Lib.hid (fun (W : World) (t : TZ) (q : Int) => fails_v t.kind t.pos t.stop t.text q W)
    have HR := Lib.hid (prs_deep l i he)
    have E := Lib.hid he
    have e1 : ((tkAt l i).kind == 1) = false := by simpa using h1
    have e5 : ((tkAt l i).kind == 5) = false := by simpa using h5
    clear h he h1 h5 hk
    go_enter Try.func19, Try.ntmps19
    go_wp2_with fail
    refine (HT.out _ i (Two.start w).below).mono ?_
    rintro e w1 ⟨rfl, hB⟩
    have T1 := Lib.hid ((Two.start w).step hB)
    have hz0 := T1.out.size
    clear hB
    go_wp2_with fail
    refine (HS.out _ (tkAt l i) _ _).mono ?_
    rintro e w2 ⟨rfl, hB⟩
    have T2 := Lib.hid ((T1.out.alloc _).step hB)
    have X2 := Lib.hid (blk_mid3 hB)
    have d2 := X2.out.cell
    have he := E.out
    clear hB
    rw [show isKT ⟨(tkAt l i).kind, (tkAt l i).pos, (tkAt l i).stop, (tkAt l i).text⟩ 4 ⟨#[91]⟩ = true from he]
    clear he
    go_wp2_with fail
    refine (HF.out _ (tkAt l i) _).mono ?_
    rintro e w3 ⟨rfl, hB⟩
    have T3 := Lib.hid (T2.out.step hB)
    obtain ⟨c1, c2, c3, c4⟩ := T3.out.cells
    simp only [zeroT, zeroG] at c1 c3
    clear hB d2
    go_wp2
    refine bodyPost_ret (v := errV (tkAt l i).pos 6) (by simp [errV, noType, noText, results, Try.results19, go_sem, c1, c3]) rfl ?_
    refine ⟨_, rfl, ?_, ret7_below T3.out _ _ _ _ _ _ _⟩
    rw [HR.out]
    rfl
  | succ k ih =>
    intro lists i w hk h0 h
    by_cases h5 : (tkAt l i).kind = 5
    · exact deep_word (k + 1) lists o c l i w h hn h5
    by_cases h1 : (tkAt l i).kind = 1
    · exact deep_name (k + 1) lists o c l i w h hn h1
    cases he : isKT (tkAt l i) 4 ⟨#[91]⟩
    · exact deep_other (k + 1) lists o c l i w h hn h1 h5 he
    obtain ⟨hi0, hi1⟩ := isKT_real (by decide) he
    have HT := Lib.hid (fun (W : World) (j : Int) (hb : Below w.heap.size w W) => token_v o c l j W (h.below hb) hn)
    have HS := Lib.hid (fun (W : World) (t : TZ) (q : Int) (y : ByteArray) => is_v t.kind t.pos t.stop t.text q y W)
    have HF := Lib.hid (fun (W : World) (t : TZ) (q : Int) => fails_v t.kind t.pos t.stop t.text q W)
    have HI := Lib.hid (fun (W : World) (hb : Below w.heap.size w W) => ih (lists + 1) (i + 2) W (by omega) (by omega) (h.below hb))
    have E := Lib.hid he
    have e1 : ((tkAt l i).kind == 1) = false := by simpa using h1
    have e5 : ((tkAt l i).kind == 5) = false := by simpa using h5
    have hlt : lists < 30 := by omega
    clear h he h1 h5 ih
    go_enter Try.func19, Try.ntmps19
    go_wp2_with fail
    refine (HT.out _ i (Two.start w).below).mono ?_
    rintro e w1 ⟨rfl, hB⟩
    have T1 := Lib.hid ((Two.start w).step hB)
    have hz0 := T1.out.size
    clear hB
    go_wp2_with fail
    refine (HS.out _ (tkAt l i) _ _).mono ?_
    rintro e w2 ⟨rfl, hB⟩
    have T2 := Lib.hid ((T1.out.alloc _).step hB)
    have X2 := Lib.hid (blk_mid3 hB)
    have hz1 := mid_size hB
    have he := E.out
    clear hB T1
    rw [show isKT ⟨(tkAt l i).kind, (tkAt l i).pos, (tkAt l i).stop, (tkAt l i).text⟩ 4 ⟨#[91]⟩ = true from he]
    clear he
    go_wp2_with fail
    refine (HT.out _ (i + 1) T2.out.below).mono ?_
    rintro e w3 ⟨rfl, hB⟩
    have T3 := Lib.hid (T2.out.step hB)
    have X3 := Lib.hid (X2.out.below hB)
    have hz3 := hB.size
    clear hB T2 X2
    go_wp2_with fail
    refine (HS.out _ (tkAt l (i + 1)) _ _).mono ?_
    rintro e w4 ⟨rfl, hB⟩
    have T4 := Lib.hid (T3.out.step hB)
    have X4 := Lib.hid (X3.out.below hB)
    have hz4 := hB.size
    clear hB T3 X3
    cases he2 : isKT (tkAt l (i + 1)) 4 ⟨#[93]⟩
    · have E2 := Lib.hid he2
      clear he2
      go_wp2_with fail
      refine (HT.out _ (i + 1) T4.out.below).mono ?_
      rintro e w5 ⟨rfl, hB⟩
      have T5 := Lib.hid (T4.out.step hB)
      clear hB T4
      go_wp2_with fail
      refine (HF.out _ (tkAt l (i + 1)) _).mono ?_
      rintro e w6 ⟨rfl, hB⟩
      have T6 := Lib.hid (T5.out.step hB)
      obtain ⟨c1, c2, c3, c4⟩ := T6.out.cells
      simp only [zeroT, zeroG] at c1 c3
      clear hB T5
      go_wp2
      refine bodyPost_ret (v := errV (tkAt l (i + 1)).pos 5) (by simp [errV, noType, noText, results, Try.results19, go_sem, c1, c3]) rfl ?_
      refine ⟨_, rfl, ?_, ret7_below T6.out _ _ _ _ _ _ _⟩
      rw [prs_shut l k i E.out E2.out]
      rfl
    · have HP := Lib.hid (prs_list l k i E.out he2)
      obtain ⟨hi2, hi3⟩ := isKT_real (by decide) he2
      clear he2
      go_wp2_with fail
      refine (HI.out _ T4.out.below).mono ?_
      rintro e w5 ⟨v, rfl, hr, hB⟩
      have T5 := Lib.hid (T4.out.step hB)
      have X5 := Lib.hid (X4.out.below hB)
      have hz5 := hB.size
      have hr2 : IsRes (w.heap.size + 2) w5 (prs l k (i + 2)) v := hr.mono (by omega)
      have hz6 : w.heap.size < w5.heap.size := by omega
      have hz7 : w.heap.size + 1 < w5.heap.size := by omega
      have hz8 : w1.heap.size < w5.heap.size := by omega
      have hz9 : w1.heap.size ≠ w5.heap.size := by omega
      have hz10 : w1.heap.size ≠ w5.heap.size + 1 := by omega
      have hz11 : w.heap.size < w5.heap.size + 1 := by omega
      have hz12 : w.heap.size < w5.heap.size + 1 + 1 := by omega
      have hz13 : w.heap.size + 1 < w5.heap.size + 1 := by omega
      have hz14 : w.heap.size + 1 < w5.heap.size + 1 + 1 := by omega
      have hz15 : w1.heap.size < w5.heap.size + 1 := by omega
      have hz16 : w1.heap.size < w5.heap.size + 1 + 1 := by omega
      have hz17 : w5.heap.size < w5.heap.size + 1 + 1 := by omega
      clear hB T4 X4 hr
      obtain ⟨R, hq⟩ : ∃ R, prs l k (i + 2) = R := ⟨_, rfl⟩
      have HQ := Lib.hid hq
      rw [hq] at hr2
      clear hq
      obtain ⟨c1, c2, c3, c4⟩ := T5.out.cells
      have d5 := X5.out.cell
      simp only [zeroT, zeroG] at c1 c3
      cases R with
      | err p q =>
        obtain rfl : v = errV p q := hr2
        by_cases hq0 : q = 0
        · exfalso
          subst hq0
          exact prs_code HQ.out rfl
        have eq0 : (q == 0) = false := by simpa using hq0
        have eq1 : (q != 0) = true := by simpa using hq0
        clear hq0
        unfold errV noType noText
        go_wp2_with fail
        go_region
        go_wp2
        refine bodyPost_ret (v := errV p q) (by simp [errV, noType, noText, results, Try.results19, go_sem, c1, c3, hz6, hz7]) rfl ?_
        refine ⟨_, rfl, ?_, (((ret7_below T5.out _ _ _ _ _ _ _).alloc (by rw [ret7_size]; omega) _).alloc (by rw [World.size_alloc, ret7_size]; omega) _).drew⟩
        rw [HP.out, HQ.out]
        rfl
      | ok x m =>
        obtain ⟨y, rfl, hx⟩ := hr2
        obtain ⟨k5, p5, g5, s5, o5, a5, rfl⟩ := hx.parts
        have HX := Lib.hid hx
        clear hx
        unfold okV
        go_wp2
        refine bodyPost_ret (v := okV (listV (tkAt l i).pos (w5.heap.size + 1 + 1)) m) (by simp [okV, listV, results, Try.results19, go_sem, c1, c3, hz6, hz7, hz11, hz12]) rfl ?_
        refine ⟨_, rfl, ?_, (((ret7_below T5.out _ _ _ _ _ _ _).alloc (by rw [ret7_size]; omega) _).alloc (by rw [World.size_alloc, ret7_size]; omega) _).alloc (by rw [World.size_alloc, World.size_alloc, ret7_size]; omega) _⟩
        rw [HP.out, HQ.out]
        refine ⟨_, rfl, list_end (X := ret7 w w5 _ _ _ _ _ _ _) (ret7_size _ _ _ _ _ _ _ _ _) (ret7_type HX.out (by omega) _ _ _ _ _ _ _) (by omega) _ _ _⟩

set_option maxRecDepth 20000 in
set_option maxHeartbeats 4000000 in
theorem refParse_any (o : Option Addr) (c : Nat) (l : List TZ) (i : Int) (w : World) (h : ZAt w o l) (hn : l.length ≤ 9223372036854775807) :
    Calls Try.prog 10 #[.slice o l.length c, .int .i64 i] w fun e w' => ∃ v, e = .returned v ∧ IsRes (w.heap.size + 2) w' (prs l 30 i) v ∧ Below w.heap.size w w' := by
  by_cases hi : i < 0 ∨ (l.length : Int) < i
  · have HT := Lib.hid (fun (W : World) (j : Int) (hb : Below w.heap.size w W) => token_v o c l j W (h.below hb) hn)
    have HF := Lib.hid (fun (W : World) (t : TZ) (q : Int) => fails_v t.kind t.pos t.stop t.text q W)
    have hk : (tkAt l i).kind = 0 := by rw [tkAt_out (by omega)]; rfl
    have HR := Lib.hid (prs_other l 30 i (by rw [hk]; decide) (by rw [hk]; decide) (isKT_kind (by rw [hk]; decide)))
    clear h hk
    have hc : i < 0 ∨ (0 ≤ i ∧ (l.length : Int) < i) := by omega
    clear hi
    rcases hc with hc | ⟨hc, hc2⟩
    all_goals
      go_enter Try.func10, Try.ntmps10
      go_wp2_with fail
      refine (HT.out _ i (Two.start w).below).mono ?_
      rintro e w1 ⟨rfl, hB⟩
      have T1 := Lib.hid ((Two.start w).step hB)
      clear hB
      go_wp2_with fail
      refine (HF.out _ (tkAt l i) _).mono ?_
      rintro e w2 ⟨rfl, hB⟩
      have T2 := Lib.hid (T1.out.step hB)
      obtain ⟨c1, c2, c3, c4⟩ := T2.out.cells
      simp only [zeroT, zeroG] at c1 c3
      clear hB
      go_wp2
      refine bodyPost_ret (v := errV (tkAt l i).pos 5) (by simp [errV, noType, noText, results, Try.results10, go_sem, c1, c3]) rfl ?_
      refine ⟨_, rfl, ?_, ret7_below T2.out _ _ _ _ _ _ _⟩
      rw [HR.out]
      rfl
  · have hi0 : 0 ≤ i := by omega
    have hi1 : i ≤ (l.length : Int) := by omega
    have HD := Lib.hid (fun (W : World) (hb : Below w.heap.size w W) => deep_any o c l hn 30 0 i W (by omega) (by omega) (h.below hb))
    clear h hi
    go_enter Try.func10, Try.ntmps10
    go_wp2_with fail
    refine (HD.out _ (Two.start w).below).mono ?_
    rintro e w2 ⟨v, rfl, hr, hB⟩
    have T2 := Lib.hid ((Two.start w).step hB)
    have hr2 : IsRes (w.heap.size + 2) w2 (prs l 30 i) v := hr.mono (by simp)
    clear hB hr
    obtain ⟨R, hq⟩ : ∃ R, prs l 30 i = R := ⟨_, rfl⟩
    have HQ := Lib.hid hq
    rw [hq] at hr2
    clear hq
    obtain ⟨c1, c2, c3, c4⟩ := T2.out.cells
    simp only [zeroT, zeroG] at c1 c3
    cases R with
    | ok x n =>
      obtain ⟨y, rfl, hx⟩ := hr2
      obtain ⟨k, p, g, m, o', a', rfl⟩ := hx.parts
      have HX := Lib.hid hx
      clear hx
      unfold okV
      go_wp2
      refine bodyPost_ret (v := okV (.agg #[.int .i64 k, .int .i64 p, .string g, .string m, .slice o' a' a']) n) (by simp [okV, results, Try.results10, go_sem, c1, c3]) rfl ?_
      refine ⟨_, rfl, ?_, ret7_below T2.out _ _ _ _ _ _ _⟩
      rw [HQ.out]
      exact ⟨_, rfl, ret7_type HX.out (by omega) _ _ _ _ _ _ _⟩
    | err p k =>
      obtain rfl : v = errV p k := hr2
      unfold errV noType noText
      go_wp2
      refine bodyPost_ret (v := errV p k) (by simp [errV, noType, noText, results, Try.results10, go_sem, c1, c3]) rfl ?_
      refine ⟨_, rfl, ?_, ret7_below T2.out _ _ _ _ _ _ _⟩
      rw [HQ.out]
      rfl

end Go.Proofs.Ytdmlelikmikflaa
