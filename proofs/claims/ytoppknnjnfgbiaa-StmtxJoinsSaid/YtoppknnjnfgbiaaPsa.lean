/-
  The walks of the parser's small methods: throw, isSymbol, isWord, peek, sees, operator, take, end. Condition: the parser lies in memory as said.
-/
import Derived.Test.YtoppknnjnfgbiaaPar
import Derived.BigQuiet
namespace Go.Proofs.Ytoppknnjnfgbiaa
open Go.RowKit
open Go.Lib hiding intOf

/-- What is thrown. -/
def thrown (p q : Int) : List PanicEntry := [{ v := .iface 82 (.agg #[.int .i64 p, .int .i64 q]), recovered := false }]

theorem throw_any (k p s : Int) (x : ByteArray) (q : Int) (w : World) : Calls Try.prog 79 #[.agg #[.int .i64 k, .int .i64 p, .int .i64 s, .string x], .int .i64 q] w fun e w' => e = .panicked (thrown p q) ∧ Below w.heap.size w w' := by
  go_enter Try.func79, Try.ntmps79
  go_wp2
  exact ⟨rfl, rfl, (Below.refl _ _).alloc (Nat.le_refl _) _⟩

set_option maxHeartbeats 1000000 in
theorem symbol_v (k p s : Int) (x : ByteArray) (y : ByteArray) (w : World) : Calls Try.prog 73 #[.agg #[.int .i64 k, .int .i64 p, .int .i64 s, .string x], .string y] w fun e w' => e = .returned (.bool (isKT ⟨k, p, s, x⟩ 4 y)) ∧ Below w.heap.size w w' := by
  unfold isKT
  by_cases hk : k = 4
  · have d : decide (k = 4) = true := by simpa using hk
    have e : (k == 4) = true := by simpa using hk
    rw [d]
    go_enter Try.func73, Try.ntmps73
    go_wp2
    go_ret
    exact ⟨rfl, (Below.refl _ _).alloc (Nat.le_refl _) _⟩
  · have d : decide (k = 4) = false := by simpa using hk
    have e : (k == 4) = false := by simpa using hk
    rw [d]
    go_enter Try.func73, Try.ntmps73
    go_wp2
    go_ret
    exact ⟨rfl, (Below.refl _ _).alloc (Nat.le_refl _) _⟩

set_option maxHeartbeats 1000000 in
theorem word_v (k p s : Int) (x : ByteArray) (y : ByteArray) (w : World) : Calls Try.prog 82 #[.agg #[.int .i64 k, .int .i64 p, .int .i64 s, .string x], .string y] w fun e w' => e = .returned (.bool (isKT ⟨k, p, s, x⟩ 5 y)) ∧ Below w.heap.size w w' := by
  unfold isKT
  by_cases hk : k = 5
  · have d : decide (k = 5) = true := by simpa using hk
    have e : (k == 5) = true := by simpa using hk
    rw [d]
    go_enter Try.func82, Try.ntmps82
    go_wp2
    go_ret
    exact ⟨rfl, (Below.refl _ _).alloc (Nat.le_refl _) _⟩
  · have d : decide (k = 5) = false := by simpa using hk
    have e : (k == 5) = false := by simpa using hk
    rw [d]
    go_enter Try.func82, Try.ntmps82
    go_wp2
    go_ret
    exact ⟨rfl, (Below.refl _ _).alloc (Nat.le_refl _) _⟩

section
variable {b c m : Nat} {o : Option Addr} {l : List TZ} {i d : Int} {w : World}

set_option maxRecDepth 20000 in
set_option maxHeartbeats 2000000 in
theorem peek_any (S : PS b o c m l i d w) (hn : l.length ≤ 9223372036854775807) :
    Calls Try.prog 66 #[.pointer (some ⟨b, 0, none⟩)] w fun e w' => e = .returned (.agg #[.int .i64 (tkAt l i).kind, .int .i64 (tkAt l i).pos, .int .i64 (tkAt l i).stop, .string (tkAt l i).text]) ∧ Below w.heap.size w w' := by
  obtain ⟨p0, p1, p2, p3, pf⟩ := S.cells
  have hbl := S.lt
  have H := Lib.hid S.toks
  clear S
  by_cases hi : 0 ≤ i ∧ i < l.length
  · obtain ⟨h0, h1⟩ := hi
    obtain ⟨k, rfl⟩ : ∃ k : Nat, i = k := ⟨i.toNat, by omega⟩
    have hk : k < l.length := by omega
    obtain ⟨a, rfl, c0, c1, c2, c3⟩ := H.out.tokM (List.getElem?_eq_getElem hk)
    have ht := Lib.hid (tkAt_in (List.getElem?_eq_getElem hk))
    have g0 : decide ((0 : Int) ≤ (k : Nat)) = true := by simp
    generalize l[k] = t at *
    rw [ht.out]
    go_enter Try.func66, Try.ntmps66
    go_wp2_with fail
    go_quiet (fail)
    go_wp2_with fail
    go_region
    all_goals
      go_wp2
      refine bodyPost_ret (v := .agg #[.int .i64 t.kind, .int .i64 t.pos, .int .i64 t.stop, .string t.text]) (by simp [results, Try.results66, go_sem]) rfl ⟨rfl, ?_⟩
      exact set4_below (below_drewN ((Below.refl _ _).alloc (Nat.le_refl _) _) _) (Nat.le_refl _) _ _ _ _
  · have ht := tkAt_out (l := l) (i := i) (by omega)
    rw [ht]
    clear ht
    by_cases hl : l.length = 0
    · have he : endOf l = 0 := by rw [List.length_eq_zero_iff.1 hl]; rfl
      rw [he]
      clear he
      have hc : i < 0 ∨ 0 ≤ i := by omega
      rcases hc with hc | hc
      · have g0 : decide ((0 : Int) ≤ i) = false := by simp; omega
        go_enter Try.func66, Try.ntmps66
        go_wp2_with fail
        go_quiet (fail)
        go_wp2
        refine bodyPost_ret (v := .agg #[.int .i64 0, .int .i64 0, .int .i64 0, .string ⟨#[]⟩]) (by simp [results, Try.results66, go_sem]) rfl ⟨rfl, ?_⟩
        exact set4_below (below_drewN ((Below.refl _ _).alloc (Nat.le_refl _) _) _) (Nat.le_refl _) _ _ _ _
      · have g0 : decide ((0 : Int) ≤ i) = true := by simp; omega
        have g1 : ¬ i < ((l.length : Nat) : Int) := by omega
        go_enter Try.func66, Try.ntmps66
        go_wp2_with fail
        go_quiet (fail)
        go_wp2
        refine bodyPost_ret (v := .agg #[.int .i64 0, .int .i64 0, .int .i64 0, .string ⟨#[]⟩]) (by simp [results, Try.results66, go_sem]) rfl ⟨rfl, ?_⟩
        exact set4_below (below_drewN ((Below.refl _ _).alloc (Nat.le_refl _) _) _) (Nat.le_refl _) _ _ _ _
    · obtain ⟨k, hk⟩ : ∃ k, l.length = k + 1 := ⟨l.length - 1, by omega⟩
      have hkl : k < l.length := by omega
      obtain ⟨a, rfl, c0, c1, c2, c3⟩ := H.out.tokM (List.getElem?_eq_getElem hkl)
      have he := Lib.hid (endOf_last (List.getElem?_eq_getElem hkl) hk)
      generalize l[k] = t at *
      rw [he.out]
      have HK := Lib.hid hk
      clear he c0 c1 c3
      rw [hk] at hi hn p0
      clear hk hkl
      have hk1 : ((k : Nat) : Int) + 1 - 1 = k := by omega
      have hk2 : (0 : Int) < ((k : Nat) : Int) + 1 := by omega
      have hc : i < 0 ∨ (0 ≤ i ∧ ((k : Nat) : Int) + 1 ≤ i) := by omega
      rcases hc with hc | ⟨hc, hc2⟩
      · have g0 : decide ((0 : Int) ≤ i) = false := by simp; omega
        go_enter Try.func66, Try.ntmps66
        go_wp2_with fail
        go_quiet (fail)
        go_wp2_with fail
        go_quiet (fail)
        go_wp2
        refine bodyPost_ret (v := .agg #[.int .i64 0, .int .i64 t.stop, .int .i64 t.stop, .string ⟨#[]⟩]) (by simp [results, Try.results66, go_sem]) rfl ⟨rfl, ?_⟩
        exact set4_below (below_drewN ((Below.refl _ _).alloc (Nat.le_refl _) _) _) (Nat.le_refl _) _ _ _ _
      · have g0 : decide ((0 : Int) ≤ i) = true := by simp; omega
        have g1 : ¬ i < ((k : Nat) : Int) + 1 := by omega
        go_enter Try.func66, Try.ntmps66
        go_wp2_with fail
        go_quiet (fail)
        go_wp2_with fail
        go_quiet (fail)
        go_wp2
        refine bodyPost_ret (v := .agg #[.int .i64 0, .int .i64 t.stop, .int .i64 t.stop, .string ⟨#[]⟩]) (by simp [results, Try.results66, go_sem]) rfl ⟨rfl, ?_⟩
        exact set4_below (below_drewN ((Below.refl _ _).alloc (Nat.le_refl _) _) _) (Nat.le_refl _) _ _ _ _

set_option maxHeartbeats 1000000 in
theorem sees_any (S : PS b o c m l i d w) (hn : l.length ≤ 9223372036854775807) (y : ByteArray) :
    Calls Try.prog 70 #[.pointer (some ⟨b, 0, none⟩), .string y] w fun e w' => e = .returned (.bool (isKT (tkAt l i) 4 y)) ∧ Below w.heap.size w w' := by
  have H := Lib.hid S
  clear S
  have HP := Lib.hid (peek_any H.out hn)
  have HS := Lib.hid (fun (W : World) (t : TZ) (y : ByteArray) => symbol_v t.kind t.pos t.stop t.text y W)
  go_enter Try.func70, Try.ntmps70
  go_wp2_with fail
  refine HP.out.mono ?_
  rintro e w1 ⟨rfl, hB⟩
  have B1 := Lib.hid hB
  clear hB
  go_wp2_with fail
  refine (HS.out _ (tkAt l i) _).mono ?_
  rintro e w2 ⟨rfl, hB⟩
  have B2 := Lib.hid (B1.out.trans (hB.mono B1.out.size))
  clear hB
  go_wp2
  go_ret
  exact ⟨rfl, B2.out⟩

set_option maxRecDepth 20000 in
set_option maxHeartbeats 1000000 in
theorem operator_any (S : PS b o c m l i d w) (hn : l.length ≤ 9223372036854775807) (hf : Fits l) :
    Calls Try.prog 67 #[.pointer (some ⟨b, 0, none⟩)] w fun e w' => e = .returned (.int .i64 (lvlOf (tkAt l i) : Nat)) ∧ Below w.heap.size w w' := by
  have H := Lib.hid S
  clear S
  have HP := Lib.hid (peek_any H.out hn)
  have HF := Lib.hid (hf.tkAt i)
  clear hf
  by_cases hk : (tkAt l i).kind = 4
  · have e : ((tkAt l i).kind != 4) = false := by simpa using hk
    rw [lvlOf_sym hk]
    clear hk
    go_enter Try.func67, Try.ntmps67
    go_wp2_with fail
    refine HP.out.mono ?_
    rintro e w1 ⟨rfl, hB⟩
    have S1 := Lib.hid (H.out.step hB)
    obtain ⟨p0, p1, p2, p3, pf⟩ := S1.out.cells
    have hbl := S1.out.lt
    have B1 := Lib.hid hB
    have hL : LvlsAt ((w1.alloc (.cells #[.int .i64 (tkAt l i).kind, .int .i64 (tkAt l i).pos, .int .i64 (tkAt l i).stop, .string (tkAt l i).text] 53)).drew) m := (World.ownsMap.alloc S1.out.lvls _)
    have hlk := lookup_lvl hL (tkAt l i).text (by have := HF.out; omega)
    clear hB hL
    go_wp2_with fail
    go_region
    go_wp2
    go_ret
    exact ⟨rfl, (B1.out.alloc B1.out.size _).drew⟩
  · have e : ((tkAt l i).kind != 4) = true := by simpa using hk
    have e0 : lvlOf (tkAt l i) = 0 := by unfold lvlOf; rw [if_pos hk]
    rw [e0]
    clear hk e0
    go_enter Try.func67, Try.ntmps67
    go_wp2_with fail
    refine HP.out.mono ?_
    rintro e w1 ⟨rfl, hB⟩
    have B1 := Lib.hid hB
    clear hB
    go_wp2
    go_ret
    exact ⟨rfl, B1.out.alloc B1.out.size _⟩

set_option maxRecDepth 20000 in
set_option maxHeartbeats 1000000 in
theorem end_any (S : PS b o c m l i d w) (hn : l.length ≤ 9223372036854775807) (hi : 1 ≤ i ∧ i ≤ l.length) :
    Calls Try.prog 69 #[.pointer (some ⟨b, 0, none⟩)] w fun e w' => e = .returned (.int .i64 (tkAt l (i - 1)).stop) ∧ Below w.heap.size w w' := by
  obtain ⟨p0, p1, p2, p3, pf⟩ := S.cells
  have hbl := S.lt
  have H := Lib.hid S.toks
  clear S
  obtain ⟨h0, h1⟩ := hi
  obtain ⟨k, rfl⟩ : ∃ k : Nat, i = (k : Nat) + 1 := ⟨(i - 1).toNat, by omega⟩
  have hk : k < l.length := by omega
  have hk1 : ((k : Nat) : Int) + 1 - 1 = k := by omega
  have hk2 : ((k : Nat) : Int) < (l.length : Nat) := by omega
  obtain ⟨a, rfl, c0, c1, c2, c3⟩ := H.out.tok (List.getElem?_eq_getElem hk)
  have ht := Lib.hid (tkAt_in (List.getElem?_eq_getElem hk))
  rw [hk1]
  generalize l[k] = t at *
  rw [ht.out]
  clear h0 h1
  go_enter Try.func69, Try.ntmps69
  go_wp2_with fail
  go_region
  go_wp2
  go_ret
  exact ⟨rfl, (Below.refl _ _).drew⟩

set_option maxRecDepth 20000 in
set_option maxHeartbeats 2000000 in
theorem take_any (S : PS b o c m l i d w) (hn : l.length ≤ 4611686018427387904) (hi : 0 ≤ i ∧ i < l.length) :
    Calls Try.prog 68 #[.pointer (some ⟨b, 0, none⟩)] w fun e w' => e = .returned (.agg #[.int .i64 (tkAt l i).kind, .int .i64 (tkAt l i).pos, .int .i64 (tkAt l i).stop, .string (tkAt l i).text]) ∧ PS b o c m l (i + 1) d w' ∧ Kp b w w' := by
  have hbl := S.lt
  obtain ⟨p0, p1, p2, p3, pf⟩ := S.cells
  have H := Lib.hid S
  clear S
  obtain ⟨h0, h1⟩ := hi
  obtain ⟨k, rfl⟩ : ∃ k : Nat, i = k := ⟨i.toNat, by omega⟩
  have hk : k < l.length := by omega
  obtain ⟨a, rfl, c0, c1, c2, c3⟩ := H.out.toks.tokM (List.getElem?_eq_getElem hk)
  obtain ⟨a', ha', d0, d1, d2, d3⟩ := H.out.toks.tok (List.getElem?_eq_getElem hk)
  obtain rfl : a = a' := by injection ha'
  have hab : (a.add (k * 4)).block < w.heap.size := World.block_lt_of_cell? _ _ d0
  have ht := Lib.hid (tkAt_in (List.getElem?_eq_getElem hk))
  clear ha'
  generalize l[k] = t at *
  rw [ht.out]
  have H2 := Lib.hid (H.out.alloc (.cells #[.int .i64 0, .int .i64 0, .int .i64 0, .string ⟨#[]⟩] 53))
  have hbn : b ≠ w.heap.size := by omega
  have hbn2 : b ≠ w.heap.size + 1 := by omega
  go_enter Try.func68, Try.ntmps68
  go_wp2_with fail
  go_region
  all_goals
    go_wp2
    refine bodyPost_ret (v := .agg #[.int .i64 t.kind, .int .i64 t.pos, .int .i64 t.stop, .string t.text]) (by simp [results, Try.results68, go_sem]) rfl ⟨rfl, ?_, ?_⟩
    · exact (((H.out.next _).alloc _).alloc _).drew
    · exact ((((Kp.refl b w).setCell (.inr rfl) _).alloc _).alloc _).drew

end

end Go.Proofs.Ytoppknnjnfgbiaa
