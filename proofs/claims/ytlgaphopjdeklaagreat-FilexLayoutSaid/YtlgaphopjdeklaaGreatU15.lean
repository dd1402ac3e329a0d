/-
  The walks of the parser's small methods: throw, isSymbol, isWord, peek, sees, operator, take, end. Condition: the parser lies in memory as said.
  The walks of the parser's small methods: expect, name, enter, leave; unquoted. Condition: the parser lies in memory as said.
-/
import Derived.Test.YtlgaphopjdeklaaGreatU13
import Derived.BigQuiet
namespace Go.Proofs.YtlgaphopjdeklaaGreat
open Go.RowKit
open Go.Lib hiding intOf
/-- What is thrown. -/
def thrown (p q : Int) : List PanicEntry := [{ v := .iface 131 (.agg #[.int .i64 p, .int .i64 q]), recovered := false }]
theorem throw_any (k p s : Int) (x : ByteArray) (q : Int) (w : World) : Calls Tryz.prog 119 #[.agg #[.int .i64 k, .int .i64 p, .int .i64 s, .string x], .int .i64 q] w fun e w' => e = .panicked (thrown p q) ∧ Below w.heap.size w w' := by
  go_enter Tryz.func119, Tryz.ntmps119
  go_wp2
  exact ⟨rfl, rfl, (Below.refl _ _).alloc (Nat.le_refl _) _⟩
set_option maxHeartbeats 1000000 in
theorem symbol_v (k p s : Int) (x : ByteArray) (y : ByteArray) (w : World) : Calls Tryz.prog 113 #[.agg #[.int .i64 k, .int .i64 p, .int .i64 s, .string x], .string y] w fun e w' => e = .returned (.bool (isKT ⟨k, p, s, x⟩ 4 y)) ∧ Below w.heap.size w w' := by
  unfold isKT
  by_cases hk : k = 4
  · have d : decide (k = 4) = true := by simpa using hk
    have e : (k == 4) = true := by simpa using hk
    rw [d]
    go_enter Tryz.func113, Tryz.ntmps113
    go_wp2
    go_ret
    exact ⟨rfl, (Below.refl _ _).alloc (Nat.le_refl _) _⟩
  · have d : decide (k = 4) = false := by simpa using hk
    have e : (k == 4) = false := by simpa using hk
    rw [d]
    go_enter Tryz.func113, Tryz.ntmps113
    go_wp2
    go_ret
    exact ⟨rfl, (Below.refl _ _).alloc (Nat.le_refl _) _⟩
set_option maxHeartbeats 1000000 in
theorem word_v (k p s : Int) (x : ByteArray) (y : ByteArray) (w : World) : Calls Tryz.prog 122 #[.agg #[.int .i64 k, .int .i64 p, .int .i64 s, .string x], .string y] w fun e w' => e = .returned (.bool (isKT ⟨k, p, s, x⟩ 5 y)) ∧ Below w.heap.size w w' := by
  unfold isKT
  by_cases hk : k = 5
  · have d : decide (k = 5) = true := by simpa using hk
    have e : (k == 5) = true := by simpa using hk
    rw [d]
    go_enter Tryz.func122, Tryz.ntmps122
    go_wp2
    go_ret
    exact ⟨rfl, (Below.refl _ _).alloc (Nat.le_refl _) _⟩
  · have d : decide (k = 5) = false := by simpa using hk
    have e : (k == 5) = false := by simpa using hk
    rw [d]
    go_enter Tryz.func122, Tryz.ntmps122
    go_wp2
    go_ret
    exact ⟨rfl, (Below.refl _ _).alloc (Nat.le_refl _) _⟩
section
variable {b c m : Nat} {o : Option Addr} {l : List TZ} {i d : Int} {w : World}
set_option maxRecDepth 20000 in
set_option maxHeartbeats 2000000 in
theorem peek_any (S : PS b o c m l i d w) (hn : l.length ≤ 9223372036854775807) :
    Calls Tryz.prog 106 #[.pointer (some ⟨b, 0, none⟩)] w fun e w' => e = .returned (.agg #[.int .i64 (tkAt l i).kind, .int .i64 (tkAt l i).pos, .int .i64 (tkAt l i).stop, .string (tkAt l i).text]) ∧ Below w.heap.size w w' := by
  obtain ⟨p0, p1, p2, p3, pf⟩ := S.cells
  have hbl := S.lt
  have H := Lib.hid S.toks
  clear S
  by_cases hi : 0 ≤ i ∧ i < l.length
  · obtain ⟨h0, h1⟩ := hi
    obtain ⟨k, rfl⟩ : ∃ k : Nat, i = k := ⟨i.toNat, by omega⟩
    have hk : k < l.length := by omega
    obtain ⟨a, rfl, c0, c1, c2, c3⟩ := H.out.tokM (List.getElem?_eq_getElem hk)
    have ht := Lib.hid (tkAt_in (List.getElem?_eq_getElem hk))
    have g0 : decide ((0 : Int) ≤ (k : Nat)) = true := by simp
    generalize l[k] = t at *
    rw [ht.out]
    go_enter Tryz.func106, Tryz.ntmps106
    go_wp2_with fail
    go_quiet (fail)
    go_wp2_with fail
    go_region
    all_goals
      go_wp2
      refine bodyPost_ret (v := .agg #[.int .i64 t.kind, .int .i64 t.pos, .int .i64 t.stop, .string t.text]) (by simp [results, Tryz.results106, go_sem]) rfl ⟨rfl, ?_⟩
      exact set4_below (below_drewN ((Below.refl _ _).alloc (Nat.le_refl _) _) _) (Nat.le_refl _) _ _ _ _
  · have ht := tkAt_out (l := l) (i := i) (by omega)
    rw [ht]
    clear ht
    by_cases hl : l.length = 0
    · have he : endOf l = 0 := by rw [List.length_eq_zero_iff.1 hl]; rfl
      rw [he]
      clear he
      have hc : i < 0 ∨ 0 ≤ i := by omega
      rcases hc with hc | hc
      · have g0 : decide ((0 : Int) ≤ i) = false := by simp; omega
        go_enter Tryz.func106, Tryz.ntmps106
        go_wp2_with fail
        go_quiet (fail)
        go_wp2
        refine bodyPost_ret (v := .agg #[.int .i64 0, .int .i64 0, .int .i64 0, .string ⟨#[]⟩]) (by simp [results, Tryz.results106, go_sem]) rfl ⟨rfl, ?_⟩
        exact set4_below (below_drewN ((Below.refl _ _).alloc (Nat.le_refl _) _) _) (Nat.le_refl _) _ _ _ _
      · have g0 : decide ((0 : Int) ≤ i) = true := by simp; omega
        have g1 : ¬ i < ((l.length : Nat) : Int) := by omega
        go_enter Tryz.func106, Tryz.ntmps106
        go_wp2_with fail
        go_quiet (fail)
        go_wp2
        refine bodyPost_ret (v := .agg #[.int .i64 0, .int .i64 0, .int .i64 0, .string ⟨#[]⟩]) (by simp [results, Tryz.results106, go_sem]) rfl ⟨rfl, ?_⟩
        exact set4_below (below_drewN ((Below.refl _ _).alloc (Nat.le_refl _) _) _) (Nat.le_refl _) _ _ _ _
    · obtain ⟨k, hk⟩ : ∃ k, l.length = k + 1 := ⟨l.length - 1, by omega⟩
      have hkl : k < l.length := by omega
      obtain ⟨a, rfl, c0, c1, c2, c3⟩ := H.out.tokM (List.getElem?_eq_getElem hkl)
      have he := Lib.hid (endOf_last (List.getElem?_eq_getElem hkl) hk)
      generalize l[k] = t at *
      rw [he.out]
      have HK := Lib.hid hk
      clear he c0 c1 c3
      rw [hk] at hi hn p0
      clear hk hkl
      have hk1 : ((k : Nat) : Int) + 1 - 1 = k := by omega
      have hk2 : (0 : Int) < ((k : Nat) : Int) + 1 := by omega
      have hc : i < 0 ∨ (0 ≤ i ∧ ((k : Nat) : Int) + 1 ≤ i) := by omega
      rcases hc with hc | ⟨hc, hc2⟩
      · have g0 : decide ((0 : Int) ≤ i) = false := by simp; omega
        go_enter Tryz.func106, Tryz.ntmps106
        go_wp2_with fail
        go_quiet (fail)
        go_wp2_with fail
        go_quiet (fail)
        go_wp2
        refine bodyPost_ret (v := .agg #[.int .i64 0, .int .i64 t.stop, .int .i64 t.stop, .string ⟨#[]⟩]) (by simp [results, Tryz.results106, go_sem]) rfl ⟨rfl, ?_⟩
        exact set4_below (below_drewN ((Below.refl _ _).alloc (Nat.le_refl _) _) _) (Nat.le_refl _) _ _ _ _
      · have g0 : decide ((0 : Int) ≤ i) = true := by simp; omega
        have g1 : ¬ i < ((k : Nat) : Int) + 1 := by omega
        go_enter Tryz.func106, Tryz.ntmps106
        go_wp2_with fail
        go_quiet (fail)
        go_wp2_with fail
        go_quiet (fail)
        go_wp2
        refine bodyPost_ret (v := .agg #[.int .i64 0, .int .i64 t.stop, .int .i64 t.stop, .string ⟨#[]⟩]) (by simp [results, Tryz.results106, go_sem]) rfl ⟨rfl, ?_⟩
        exact set4_below (below_drewN ((Below.refl _ _).alloc (Nat.le_refl _) _) _) (Nat.le_refl _) _ _ _ _
set_option maxHeartbeats 1000000 in
theorem sees_any (S : PS b o c m l i d w) (hn : l.length ≤ 9223372036854775807) (y : ByteArray) :
    Calls Tryz.prog 110 #[.pointer (some ⟨b, 0, none⟩), .string y] w fun e w' => e = .returned (.bool (isKT (tkAt l i) 4 y)) ∧ Below w.heap.size w w' := by
  have H := Lib.hid S
  clear S
  have HP := Lib.hid (peek_any H.out hn)
  have HS := Lib.hid (fun (W : World) (t : TZ) (y : ByteArray) => symbol_v t.kind t.pos t.stop t.text y W)
  go_enter Tryz.func110, Tryz.ntmps110
  go_wp2_with fail
  refine HP.out.mono ?_
  rintro e w1 ⟨rfl, hB⟩
  have B1 := Lib.hid hB
  clear hB
  go_wp2_with fail
  refine (HS.out _ (tkAt l i) _).mono ?_
  rintro e w2 ⟨rfl, hB⟩
  have B2 := Lib.hid (B1.out.trans (hB.mono B1.out.size))
  clear hB
  go_wp2
  go_ret
  exact ⟨rfl, B2.out⟩
set_option maxRecDepth 20000 in
set_option maxHeartbeats 1000000 in
theorem operator_any (S : PS b o c m l i d w) (hn : l.length ≤ 9223372036854775807) (hf : Fits l) :
    Calls Tryz.prog 107 #[.pointer (some ⟨b, 0, none⟩)] w fun e w' => e = .returned (.int .i64 (lvlOf (tkAt l i) : Nat)) ∧ Below w.heap.size w w' := by
  have H := Lib.hid S
  clear S
  have HP := Lib.hid (peek_any H.out hn)
  have HF := Lib.hid (hf.tkAt i)
  clear hf
  by_cases hk : (tkAt l i).kind = 4
  · have e : ((tkAt l i).kind != 4) = false := by simpa using hk
    rw [lvlOf_sym hk]
    clear hk
    go_enter Tryz.func107, Tryz.ntmps107
    go_wp2_with fail
    refine HP.out.mono ?_
    rintro e w1 ⟨rfl, hB⟩
    have S1 := Lib.hid (H.out.step hB)
    obtain ⟨p0, p1, p2, p3, pf⟩ := S1.out.cells
    have hbl := S1.out.lt
    have B1 := Lib.hid hB
    have hL : LvlsAt ((w1.alloc (.cells #[.int .i64 (tkAt l i).kind, .int .i64 (tkAt l i).pos, .int .i64 (tkAt l i).stop, .string (tkAt l i).text] 50)).drew) m := (World.ownsMap.alloc S1.out.lvls _)
    have hlk := lookup_lvl hL (tkAt l i).text (by have := HF.out; omega)
    clear hB hL
    go_wp2_with fail
    go_region
    go_wp2
    go_ret
    exact ⟨rfl, (B1.out.alloc B1.out.size _).drew⟩
  · have e : ((tkAt l i).kind != 4) = true := by simpa using hk
    have e0 : lvlOf (tkAt l i) = 0 := by unfold lvlOf; rw [if_pos hk]
    rw [e0]
    clear hk e0
    go_enter Tryz.func107, Tryz.ntmps107
    go_wp2_with fail
    refine HP.out.mono ?_
    rintro e w1 ⟨rfl, hB⟩
    have B1 := Lib.hid hB
    clear hB
    go_wp2
    go_ret
    exact ⟨rfl, B1.out.alloc B1.out.size _⟩
set_option maxRecDepth 20000 in
set_option maxHeartbeats 1000000 in
theorem end_any (S : PS b o c m l i d w) (hn : l.length ≤ 9223372036854775807) (hi : 1 ≤ i ∧ i ≤ l.length) :
    Calls Tryz.prog 109 #[.pointer (some ⟨b, 0, none⟩)] w fun e w' => e = .returned (.int .i64 (tkAt l (i - 1)).stop) ∧ Below w.heap.size w w' := by
  obtain ⟨p0, p1, p2, p3, pf⟩ := S.cells
  have hbl := S.lt
  have H := Lib.hid S.toks
  clear S
  obtain ⟨h0, h1⟩ := hi
  obtain ⟨k, rfl⟩ : ∃ k : Nat, i = (k : Nat) + 1 := ⟨(i - 1).toNat, by omega⟩
  have hk : k < l.length := by omega
  have hk1 : ((k : Nat) : Int) + 1 - 1 = k := by omega
  have hk2 : ((k : Nat) : Int) < (l.length : Nat) := by omega
  obtain ⟨a, rfl, c0, c1, c2, c3⟩ := H.out.tok (List.getElem?_eq_getElem hk)
  have ht := Lib.hid (tkAt_in (List.getElem?_eq_getElem hk))
  rw [hk1]
  generalize l[k] = t at *
  rw [ht.out]
  clear h0 h1
  go_enter Tryz.func109, Tryz.ntmps109
  go_wp2_with fail
  go_region
  go_wp2
  go_ret
  exact ⟨rfl, (Below.refl _ _).drew⟩
set_option maxRecDepth 20000 in
set_option maxHeartbeats 2000000 in
theorem take_any (S : PS b o c m l i d w) (hn : l.length ≤ 4611686018427387904) (hi : 0 ≤ i ∧ i < l.length) :
    Calls Tryz.prog 108 #[.pointer (some ⟨b, 0, none⟩)] w fun e w' => e = .returned (.agg #[.int .i64 (tkAt l i).kind, .int .i64 (tkAt l i).pos, .int .i64 (tkAt l i).stop, .string (tkAt l i).text]) ∧ PS b o c m l (i + 1) d w' ∧ Kp b w w' := by
  have hbl := S.lt
  obtain ⟨p0, p1, p2, p3, pf⟩ := S.cells
  have H := Lib.hid S
  clear S
  obtain ⟨h0, h1⟩ := hi
  obtain ⟨k, rfl⟩ : ∃ k : Nat, i = k := ⟨i.toNat, by omega⟩
  have hk : k < l.length := by omega
  obtain ⟨a, rfl, c0, c1, c2, c3⟩ := H.out.toks.tokM (List.getElem?_eq_getElem hk)
  obtain ⟨a', ha', d0, d1, d2, d3⟩ := H.out.toks.tok (List.getElem?_eq_getElem hk)
  obtain rfl : a = a' := by injection ha'
  have hab : (a.add (k * 4)).block < w.heap.size := World.block_lt_of_cell? _ _ d0
  have ht := Lib.hid (tkAt_in (List.getElem?_eq_getElem hk))
  clear ha'
  generalize l[k] = t at *
  rw [ht.out]
  have H2 := Lib.hid (H.out.alloc (.cells #[.int .i64 0, .int .i64 0, .int .i64 0, .string ⟨#[]⟩] 50))
  have hbn : b ≠ w.heap.size := by omega
  have hbn2 : b ≠ w.heap.size + 1 := by omega
  go_enter Tryz.func108, Tryz.ntmps108
  go_wp2_with fail
  go_region
  all_goals
    go_wp2
    refine bodyPost_ret (v := .agg #[.int .i64 t.kind, .int .i64 t.pos, .int .i64 t.stop, .string t.text]) (by simp [results, Tryz.results108, go_sem]) rfl ⟨rfl, ?_, ?_⟩
    · exact (((H.out.next _).alloc _).alloc _).drew
    · exact ((((Kp.refl b w).setCell (.inr rfl) _).alloc _).alloc _).drew
end
end Go.Proofs.YtlgaphopjdeklaaGreat
namespace Go.Proofs.YtlgaphopjdeklaaGreat
open Go.RowKit
open Go.Lib hiding intOf
theorem run_field3 (a b c : Int) (t : ByteArray) (w : World) : (Instr.field 50 (.agg #[.int .i64 a, .int .i64 b, .int .i64 c, .string t]) 3).run Tryz.prog w = .ok (.string t) w := by
  simp [Instr.field, go_sem, part, asAgg]
section
variable {b c m : Nat} {o : Option Addr} {l : List TZ} {i d : Int} {w : World}
set_option maxRecDepth 20000 in
set_option maxHeartbeats 1000000 in
theorem expect_ok (S : PS b o c m l i d w) (hn : l.length ≤ 1073741824) {y : ByteArray} (hy : isKT (tkAt l i) 4 y = true) :
    Calls Tryz.prog 118 #[.pointer (some ⟨b, 0, none⟩), .string y] w fun e w' => e = .returned (.agg #[.int .i64 (tkAt l i).kind, .int .i64 (tkAt l i).pos, .int .i64 (tkAt l i).stop, .string (tkAt l i).text]) ∧ PS b o c m l (i + 1) d w' ∧ Kp b w w' := by
  have hr := isKT_real (by decide) hy
  have H := Lib.hid S
  have hbl := S.lt
  clear S
  have HN := Lib.hid hn
  have HR := Lib.hid hr
  have HS := Lib.hid (fun (W : World) (h : PS b o c m l i d W) => sees_any h (by have := HN.out; omega) y)
  have HT := Lib.hid (fun (W : World) (h : PS b o c m l i d W) => take_any h (by have := HN.out; omega) HR.out)
  have HY := Lib.hid hy
  rw [HY.out] at HS
  clear hn hr hy
  go_enter Tryz.func118, Tryz.ntmps118
  go_wp2_with fail
  refine (HS.out _ (H.out.alloc _)).mono ?_
  rintro e w1 ⟨rfl, hB⟩
  have S1 := Lib.hid ((H.out.alloc _).step hB)
  have K1 := Lib.hid (((Kp.refl b w).alloc _).then_below hB)
  have X1 := Lib.hid (blk_mid3 hB)
  have hz1 := mid_size hB
  clear hB
  go_wp2_with fail
  refine (HT.out _ S1.out).mono ?_
  rintro e w2 ⟨rfl, hS, hK⟩
  have S2 := Lib.hid hS
  have K2 := Lib.hid (K1.out.trans hK)
  have hx2 := X1.out.kp hK (by omega)
  have c2 := hx2.cell
  have f2 := hx2.frozen
  clear hS hK hx2
  go_wp2
  refine bodyPost_ret (v := .agg #[.int .i64 (tkAt l i).kind, .int .i64 (tkAt l i).pos, .int .i64 (tkAt l i).stop, .string (tkAt l i).text]) (by simp [results, Tryz.results118, go_sem, c2]) rfl ⟨rfl, ?_, ?_⟩
  · exact S2.out.set4 (by omega) _ _ _ _
  · exact set4_kp K2.out (.inl (Nat.le_refl _)) _ _ _ _
set_option maxRecDepth 20000 in
set_option maxHeartbeats 1000000 in
theorem expect_no (S : PS b o c m l i d w) (hn : l.length ≤ 1073741824) {y : ByteArray} (hy : isKT (tkAt l i) 4 y = false) :
    Calls Tryz.prog 118 #[.pointer (some ⟨b, 0, none⟩), .string y] w fun e w' => e = .panicked (thrown (tkAt l i).pos 5) ∧ Kp b w w' := by
  have H := Lib.hid S
  clear S
  have HN := Lib.hid hn
  have HS := Lib.hid (fun (W : World) (h : PS b o c m l i d W) => sees_any h (by have := HN.out; omega) y)
  have HP := Lib.hid (fun (W : World) (h : PS b o c m l i d W) => peek_any h (by have := HN.out; omega))
  have HY := Lib.hid hy
  rw [HY.out] at HS
  clear hn hy
  go_enter Tryz.func118, Tryz.ntmps118
  go_wp2_with fail
  refine (HS.out _ (H.out.alloc _)).mono ?_
  rintro e w1 ⟨rfl, hB⟩
  have S1 := Lib.hid ((H.out.alloc _).step hB)
  have K1 := Lib.hid (((Kp.refl b w).alloc _).then_below hB)
  clear hB
  go_wp2_with fail
  refine (HP.out _ S1.out).mono ?_
  rintro e w2 ⟨rfl, hB⟩
  have K2 := Lib.hid (K1.out.then_below hB)
  clear hB
  go_wp2_with fail
  refine (throw_any _ _ _ _ 5 w2).mono ?_
  rintro e w3 ⟨rfl, hB⟩
  have K3 := Lib.hid (K2.out.then_below hB)
  clear hB
  go_wp2
  exact ⟨rfl, rfl, K3.out⟩
set_option maxRecDepth 20000 in
set_option maxHeartbeats 1000000 in
theorem enter_ok (S : PS b o c m l i d w) (hn : l.length ≤ 1073741824) {y : ByteArray} (hy : isKT (tkAt l i) 4 y = true) (hd : 0 ≤ d ∧ d < 30) :
    Calls Tryz.prog 112 #[.pointer (some ⟨b, 0, none⟩), .string y] w fun e w' => e = .returned (.tuple #[]) ∧ PS b o c m l (i + 1) (d + 1) w' ∧ Kp b w w' := by
  have HE := Lib.hid (expect_ok S hn hy)
  have hbl := S.lt
  obtain ⟨hd0, hd1⟩ := hd
  have e30 : (d == 30) = false := by simp; omega
  clear S hy hn
  go_enter Tryz.func112, Tryz.ntmps112
  go_wp2_with fail
  refine HE.out.mono ?_
  rintro e w1 ⟨rfl, hS, hK⟩
  have S1 := Lib.hid hS
  have K1 := Lib.hid hK
  have hb1 : b < w1.heap.size := hS.lt
  have hbn : b ≠ w1.heap.size := by omega
  obtain ⟨p0, p1, p2, p3, pf⟩ := hS.cells
  clear hS hK
  go_wp2
  refine bodyPost_end (results_none rfl _ _ _) rfl ⟨rfl, ?_, ?_⟩
  · exact (S1.out.deep _).alloc _
  · exact (K1.out.setCell (.inr rfl) _).alloc _
set_option maxRecDepth 20000 in
set_option maxHeartbeats 1000000 in
theorem enter_deep (S : PS b o c m l i 30 w) (hn : l.length ≤ 1073741824) {y : ByteArray} (hy : isKT (tkAt l i) 4 y = true) :
    Calls Tryz.prog 112 #[.pointer (some ⟨b, 0, none⟩), .string y] w fun e w' => e = .panicked (thrown (tkAt l i).pos 6) ∧ Kp b w w' := by
  have HE := Lib.hid (expect_ok S hn hy)
  have hbl := S.lt
  clear S hy hn
  go_enter Tryz.func112, Tryz.ntmps112
  go_wp2_with fail
  refine HE.out.mono ?_
  rintro e w1 ⟨rfl, hS, hK⟩
  have K1 := Lib.hid hK
  have hb1 : b < w1.heap.size := hS.lt
  have hbn : b ≠ w1.heap.size := by omega
  obtain ⟨p0, p1, p2, p3, pf⟩ := hS.cells
  clear hS hK
  go_wp2_with fail
  refine (throw_any _ _ _ _ 6 _).mono ?_
  rintro e w3 ⟨rfl, hB⟩
  have K3 := Lib.hid ((K1.out.alloc _).then_below hB)
  clear hB
  go_wp2
  exact ⟨rfl, rfl, K3.out⟩
set_option maxRecDepth 20000 in
set_option maxHeartbeats 1000000 in
theorem enter_no (S : PS b o c m l i d w) (hn : l.length ≤ 1073741824) {y : ByteArray} (hy : isKT (tkAt l i) 4 y = false) :
    Calls Tryz.prog 112 #[.pointer (some ⟨b, 0, none⟩), .string y] w fun e w' => e = .panicked (thrown (tkAt l i).pos 5) ∧ Kp b w w' := by
  have HE := Lib.hid (expect_no S hn hy)
  clear S hy hn
  go_enter Tryz.func112, Tryz.ntmps112
  go_wp2_with fail
  refine HE.out.mono ?_
  rintro e w1 ⟨rfl, hK⟩
  have K1 := Lib.hid hK
  clear hK
  go_wp2
  exact ⟨rfl, rfl, K1.out⟩
set_option maxRecDepth 20000 in
set_option maxHeartbeats 1000000 in
theorem leave_ok (S : PS b o c m l i d w) (hn : l.length ≤ 1073741824) {y : ByteArray} (hy : isKT (tkAt l i) 4 y = true) (hd : 0 ≤ d ∧ d ≤ 30) :
    Calls Tryz.prog 124 #[.pointer (some ⟨b, 0, none⟩), .string y] w fun e w' => e = .returned (.tuple #[]) ∧ PS b o c m l (i + 1) (d - 1) w' ∧ Kp b w w' := by
  have HE := Lib.hid (expect_ok S hn hy)
  have hbl := S.lt
  obtain ⟨hd0, hd1⟩ := hd
  clear S hy hn
  go_enter Tryz.func124, Tryz.ntmps124
  go_wp2_with fail
  refine HE.out.mono ?_
  rintro e w1 ⟨rfl, hS, hK⟩
  have S1 := Lib.hid hS
  have K1 := Lib.hid hK
  have hb1 : b < w1.heap.size := hS.lt
  obtain ⟨p0, p1, p2, p3, pf⟩ := hS.cells
  clear hS hK
  go_wp2
  refine bodyPost_end (results_none rfl _ _ _) rfl ⟨rfl, ?_, ?_⟩
  · exact S1.out.deep _
  · exact K1.out.setCell (.inr rfl) _
set_option maxRecDepth 20000 in
set_option maxHeartbeats 1000000 in
theorem leave_no (S : PS b o c m l i d w) (hn : l.length ≤ 1073741824) {y : ByteArray} (hy : isKT (tkAt l i) 4 y = false) :
    Calls Tryz.prog 124 #[.pointer (some ⟨b, 0, none⟩), .string y] w fun e w' => e = .panicked (thrown (tkAt l i).pos 5) ∧ Kp b w w' := by
  have HE := Lib.hid (expect_no S hn hy)
  clear S hy hn
  go_enter Tryz.func124, Tryz.ntmps124
  go_wp2_with fail
  refine HE.out.mono ?_
  rintro e w1 ⟨rfl, hK⟩
  have K1 := Lib.hid hK
  clear hK
  go_wp2
  exact ⟨rfl, rfl, K1.out⟩
set_option maxRecDepth 20000 in
set_option maxHeartbeats 1000000 in
theorem name_ok (S : PS b o c m l i d w) (hn : l.length ≤ 1073741824) (hf : Fits l) (hk : (tkAt l i).kind = 1) :
    Calls Tryz.prog 115 #[.pointer (some ⟨b, 0, none⟩)] w fun e w' => e = .returned (.string (tkAt l i).text) ∧ PS b o c m l (i + 1) d w' ∧ Kp b w w' := by
  have HP := Lib.hid (peek_any S (by omega))
  have hr := tkAt_real (l := l) (i := i) (by rw [hk]; decide)
  have HT := Lib.hid (fun (W : World) (h : PS b o c m l i d W) => take_any h (by omega) hr)
  have HC := Lib.hid (fun W : World => clone_any (tkAt l i).text W (hf.tkAt i))
  have H := Lib.hid S
  have e1 : ((tkAt l i).kind != 1) = false := by simpa using hk
  have hfield := run_field3
  clear S hk hn hr hf
  go_enter Tryz.func115, Tryz.ntmps115
  go_wp2_with fail
  refine HP.out.mono ?_
  rintro e w1 ⟨rfl, hB⟩
  have S1 := Lib.hid ((H.out.step hB).alloc (.cells #[.int .i64 (tkAt l i).kind, .int .i64 (tkAt l i).pos, .int .i64 (tkAt l i).stop, .string (tkAt l i).text] 50))
  have K1 := Lib.hid (((Kp.refl b w).then_below hB).alloc (.cells #[.int .i64 (tkAt l i).kind, .int .i64 (tkAt l i).pos, .int .i64 (tkAt l i).stop, .string (tkAt l i).text] 50))
  clear hB
  go_wp2_with fail
  refine (HT.out _ S1.out).mono ?_
  rintro e w2 ⟨rfl, hS, hK⟩
  have S2 := Lib.hid hS
  have K2 := Lib.hid (K1.out.trans hK)
  clear hS hK
  go_wp2_with fail
  refine (HC.out _).mono ?_
  rintro e w3 ⟨rfl, hB⟩
  have S3 := Lib.hid (S2.out.step hB)
  have K3 := Lib.hid (K2.out.then_below hB)
  clear hB
  go_wp2
  go_ret
  exact ⟨rfl, S3.out, K3.out⟩
set_option maxRecDepth 20000 in
set_option maxHeartbeats 1000000 in
theorem name_no (S : PS b o c m l i d w) (hn : l.length ≤ 1073741824) (hk : (tkAt l i).kind ≠ 1) :
    Calls Tryz.prog 115 #[.pointer (some ⟨b, 0, none⟩)] w fun e w' => e = .panicked (thrown (tkAt l i).pos 5) ∧ Kp b w w' := by
  have HP := Lib.hid (peek_any S (by omega))
  have e1 : ((tkAt l i).kind != 1) = true := by simpa using hk
  clear S hk hn
  go_enter Tryz.func115, Tryz.ntmps115
  go_wp2_with fail
  refine HP.out.mono ?_
  rintro e w1 ⟨rfl, hB⟩
  have K1 := Lib.hid (((Kp.refl b w).then_below hB).alloc (.cells #[.int .i64 (tkAt l i).kind, .int .i64 (tkAt l i).pos, .int .i64 (tkAt l i).stop, .string (tkAt l i).text] 50))
  clear hB
  go_wp2_with fail
  refine (throw_any _ _ _ _ 5 _).mono ?_
  rintro e w3 ⟨rfl, hB⟩
  have K3 := Lib.hid (K1.out.then_below hB)
  clear hB
  go_wp2
  exact ⟨rfl, rfl, K3.out⟩
end
end Go.Proofs.YtlgaphopjdeklaaGreat
