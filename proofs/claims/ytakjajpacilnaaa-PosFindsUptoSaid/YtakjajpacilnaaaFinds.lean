/-
  PosFinds answers true for every text, line and column, where the arguments are together of bulk at most 1,048,576.
-/
import Derived.Test.YtakjajpacilnaaaAwake
import Derived.Test.YtakjajpacilnaaaRef
import Derived.Test.YtakjajpacilnaaaBulk
import Derived.ProofKit
import Derived.OpenShut
import Derived.JoinedCond
namespace Go.Proofs.Ytakjajpacilnaaa.posFinds
open Go.ChangeShapes Go.WideShapes Go.ChangeAt Go.RowKit
open Go.ChangeMaps (open_string shut_string)

theorem own : ownKnob Try.prog.godebug = none := by kernel_rfl

/-- A line's bytes are as many as its ends say. -/
theorem lnv_at (s : ByteArray) (m : Nat) (hm : m ≤ (brk s.data.toList).length) : ∃ x : ByteArray, lnv s m = .string x ∧ x = s.extract (beg s.data.toList m) (stop s.data.toList m) ∧ (x.size : Int) = (stop s.data.toList m : Int) - beg s.data.toList m := by
  have h := beg_le_stop s.data.toList m hm
  rw [size_toList] at h
  refine ⟨_, rfl, rfl, ?_⟩
  rw [ByteArray.size_extract]
  omega

theorem refline_no (s : ByteArray) (line : Int) (w : World) (hs : s.size ≤ 1048576) (h : line < 1 ∨ (1 ≤ line ∧ ((brk s.data.toList).length : Int) + 1 < line)) :
    Calls Try.prog 19 #[.string s, .int .i64 line] w fun e w' => e = .returned (.tuple #[.string ⟨#[]⟩, .int .i64 10]) ∧ Below w.heap.size w w' := by
  have hlen := brk_len_le s.data.toList
  rw [size_toList] at hlen
  have HL := Lib.hid (reflines_any s w (by omega))
  rcases h with h1 | ⟨h1, h2⟩
  all_goals
    go_enter Try.func19, Try.ntmps19
    go_wp2_with fail
    refine HL.out.mono ?_
    rintro e w1 ⟨g, cap, rfl, hB, hx⟩
    have HB := Lib.hid hB
    clear hx hB
    go_wp2
    go_ret2
    exact ⟨rfl, HB.out⟩

theorem refline_in (s : ByteArray) (line : Int) (m : Nat) (w : World) (hs : s.size ≤ 1048576) (hl : line = m + 1) (hm : m ≤ (brk s.data.toList).length) :
    Calls Try.prog 19 #[.string s, .int .i64 line] w fun e w' => e = .returned (.tuple #[.string (s.extract (beg s.data.toList m) (stop s.data.toList m)), .int .i64 0]) ∧ Below w.heap.size w w' := by
  have hlen := brk_len_le s.data.toList
  rw [size_toList] at hlen
  have HL := Lib.hid (reflines_any s w (by omega))
  obtain ⟨x, e1, e2, _⟩ := lnv_at s m hm
  rw [← e2]
  have h1 : 1 ≤ line := by omega
  have h2 : line ≤ ((brk s.data.toList).length : Int) + 1 := by omega
  have E := Lib.hid (show line.toNat - 1 = m by omega)
  have E1 := Lib.hid e1
  clear e1 e2 hl
  go_enter Try.func19, Try.ntmps19
  go_wp2_with fail
  refine HL.out.mono ?_
  rintro e w1 ⟨g, cap, rfl, hB, hx⟩
  have HB := Lib.hid hB
  have c : w1.cell? ⟨g, line.toNat - 1, none⟩ = some (.string x) := by rw [E.out, hx m hm, E1.out]
  clear hx hB
  go_wp2
  go_ret2
  exact ⟨rfl, HB.out⟩

/-- The loop's relation: k lines have been passed. -/
def AtRel (s : ByteArray) (m : Nat) (at' i : Value) : Prop := ∃ k : Nat, k ≤ m ∧ i = .int .i64 (k : Nat) ∧ at' = .int .i64 (beg s.data.toList k : Nat)

theorem refat_no (s : ByteArray) (line col : Int) (w : World) (hs : s.size ≤ 1048576) (h : line < 1 ∨ (1 ≤ line ∧ ((brk s.data.toList).length : Int) + 1 < line)) :
    Calls Try.prog 17 #[.string s, .int .i64 line, .int .i64 col] w fun e w' => e = .returned (.tuple #[.int .i64 0, .int .i64 10]) ∧ Below w.heap.size w w' := by
  have hlen := brk_len_le s.data.toList
  rw [size_toList] at hlen
  have HL := Lib.hid (reflines_any s w (by omega))
  rcases h with h1 | ⟨h1, h2⟩
  all_goals
    go_enter Try.func17, Try.ntmps17
    go_wp2_with fail
    refine HL.out.mono ?_
    rintro e w1 ⟨g, cap, rfl, hB, hx⟩
    have HB := Lib.hid hB
    clear hx hB
    go_wp2
    go_ret2
    exact ⟨rfl, HB.out⟩

theorem refat_nocol (s : ByteArray) (line col : Int) (m : Nat) (w : World) (hs : s.size ≤ 1048576) (hl : line = m + 1) (hm : m ≤ (brk s.data.toList).length)
    (h : col < 1 ∨ (1 ≤ col ∧ (stop s.data.toList m : Int) - beg s.data.toList m + 1 < col)) (hcol : (Lit.int .i64 col).wf = true) :
    Calls Try.prog 17 #[.string s, .int .i64 line, .int .i64 col] w fun e w' => e = .returned (.tuple #[.int .i64 0, .int .i64 10]) ∧ Below w.heap.size w w' := by
  have hlen := brk_len_le s.data.toList
  rw [size_toList] at hlen
  have hcb : -9223372036854775808 ≤ col ∧ col ≤ 9223372036854775807 := by simpa [Lit.wf, IntKind.min, IntKind.max, IntKind.signed, IntKind.bits] using hcol
  have HL := Lib.hid (reflines_any s w (by omega))
  obtain ⟨x, e1, e2, e3⟩ := lnv_at s m hm
  have h1 : 1 ≤ line := by omega
  have h2 : line ≤ ((brk s.data.toList).length : Int) + 1 := by omega
  have E := Lib.hid (show line.toNat - 1 = m by omega)
  have E1 := Lib.hid e1
  have hc : col < 1 ∨ (1 ≤ col ∧ (x.size : Int) < col - 1) := by omega
  clear e1 e2 e3 hl h hcol
  rcases hc with h3 | ⟨h3, h4⟩
  all_goals
    go_enter Try.func17, Try.ntmps17
    go_wp2_with fail
    refine HL.out.mono ?_
    rintro e w1 ⟨g, cap, rfl, hB, hx⟩
    have HB := Lib.hid hB
    have c : w1.cell? ⟨g, line.toNat - 1, none⟩ = some (.string x) := by rw [E.out, hx m hm, E1.out]
    clear hx hB
    go_wp2
    go_ret2
    exact ⟨rfl, HB.out⟩

set_option maxHeartbeats 1000000 in
theorem refat_in (s : ByteArray) (line col : Int) (m : Nat) (w : World) (hs : s.size ≤ 1048576) (hl : line = m + 1) (hm : m ≤ (brk s.data.toList).length)
    (h3 : 1 ≤ col) (h4 : col ≤ (stop s.data.toList m : Int) - beg s.data.toList m + 1) :
    Calls Try.prog 17 #[.string s, .int .i64 line, .int .i64 col] w fun e w' => e = .returned (.tuple #[.int .i64 ((beg s.data.toList m : Int) + col - 1), .int .i64 0]) ∧ Below w.heap.size w w' := by
  have hlen := brk_len_le s.data.toList
  rw [size_toList] at hlen
  have HL := Lib.hid (reflines_any s w (by omega))
  obtain ⟨x, e1, e2, e3⟩ := lnv_at s m hm
  have hbs := beg_le_stop s.data.toList m hm
  rw [size_toList] at hbs
  have hb1 : beg s.data.toList m ≤ 1048576 := by omega
  have h1 : 1 ≤ line := by omega
  have h2 : line ≤ ((brk s.data.toList).length : Int) + 1 := by omega
  have l1 : line ≤ (m : Int) + 1 := by omega
  have l2 : (m : Int) + 1 ≤ line := by omega
  have E := Lib.hid (show line.toNat - 1 = m by omega)
  have E1 := Lib.hid e1
  have h5 : col - 1 ≤ (x.size : Int) := by omega
  have h6 : col ≤ 1048577 := by omega
  have HM := Lib.hid hm
  clear e1 e2 e3 hl h4 hbs hm
  go_enter Try.func17, Try.ntmps17
  go_wp2_with fail
  refine HL.out.mono ?_
  rintro e w1 ⟨g, cap, rfl, hB, hx⟩
  have HB := Lib.hid hB
  have HX := Lib.hid hx
  have c : w1.cell? ⟨g, line.toNat - 1, none⟩ = some (.string x) := by rw [E.out, hx m HM.out, E1.out]
  clear hx hB
  go_wp2
  go_loop [9, 10] (fun a i => AtRel s m a i) (fun _ i => m - (intOf i).toNat)
  case atStart => exact ⟨0, Nat.zero_le _, rfl, rfl⟩
  case round =>
    obtain ⟨k, hk, rfl, rfl⟩ := hrel
    by_cases hlt : k < m
    · have hmm := HM.out
      have hkb := beg_le_stop s.data.toList k (by omega)
      rw [size_toList] at hkb
      obtain ⟨y, f1, f2, f3⟩ := lnv_at s k (by omega)
      have cy : w1.cell? ⟨g, k, none⟩ = some (.string y) := by rw [HX.out k (by omega), f1]
      have hs2 := beg_succ s.data.toList k (by omega)
      have R : AtRel s m (.int .i64 ((beg s.data.toList k : Int) + (y.size : Int) + 1)) (.int .i64 ((k : Int) + 1)) := ⟨k + 1, hlt, by go_num, by congr 1; omega⟩
      have R := Lib.hid R
      have u1 : beg s.data.toList k ≤ 1048576 := by omega
      have u2 : y.size ≤ 1048576 := by omega
      clear hs2 f1 f2 f3 hkb
      generalize beg s.data.toList k = bk at *
      go_wp2
      go_round
      case rel => exact R.out
      case measure => simp [intOf]; omega
    · obtain rfl : m = k := by omega
      clear c
      go_wp2
      go_ret2
      exact ⟨rfl, HB.out⟩

/-- What At and the document's At, Line and the document's Line answer. -/
theorem both_at (s : ByteArray) (l c : Int) (hc : (Lit.int .i64 c).wf = true) (hs : s.size ≤ 1048576) : ∃ A E : Int,
    (∀ (w : World) (b : Nat) (o : Option Addr) (cap : Nat), IsLines w b s o cap → Calls Try.prog 16 #[.pointer (some ⟨b, 0, none⟩), .int .i64 l, .int .i64 c] w fun e w' => e = .returned (.tuple #[.int .i64 A, .int .i64 E]) ∧ w = w') ∧
    (∀ w : World, Calls Try.prog 17 #[.string s, .int .i64 l, .int .i64 c] w fun e w' => e = .returned (.tuple #[.int .i64 A, .int .i64 E]) ∧ Below w.heap.size w w') := by
  by_cases h0 : l < 1 ∨ (1 ≤ l ∧ ((brk s.data.toList).length : Int) + 1 < l)
  · exact ⟨0, 10, fun w b o cap I => at_noline b cap s o l c w I (by omega) (by omega), fun w => refat_no s l c w hs h0⟩
  · obtain ⟨m, rfl⟩ : ∃ m : Nat, l = m + 1 := ⟨(l - 1).toNat, by omega⟩
    have hm : m ≤ (brk s.data.toList).length := by omega
    by_cases h1 : 1 ≤ c ∧ c ≤ (stop s.data.toList m : Int) - beg s.data.toList m + 1
    · refine ⟨_, 0, fun w b o cap I => ?_, fun w => refat_in s _ c m w hs rfl hm h1.1 h1.2⟩
      have h := at_in b cap m s o _ c w I (by omega) rfl hm
      rw [if_pos h1] at h
      exact h
    · refine ⟨0, 10, fun w b o cap I => ?_, fun w => refat_nocol s _ c m w hs rfl hm (by omega) hc⟩
      have h := at_in b cap m s o _ c w I (by omega) rfl hm
      rw [if_neg h1] at h
      exact h

theorem both_line (s : ByteArray) (l : Int) (hs : s.size ≤ 1048576) : ∃ (x : ByteArray) (E : Int),
    (∀ (w : World) (b : Nat) (o : Option Addr) (cap : Nat), IsLines w b s o cap → Calls Try.prog 18 #[.pointer (some ⟨b, 0, none⟩), .int .i64 l] w fun e w' => e = .returned (.tuple #[.string x, .int .i64 E]) ∧ Below w.heap.size w w') ∧
    (∀ w : World, Calls Try.prog 19 #[.string s, .int .i64 l] w fun e w' => e = .returned (.tuple #[.string x, .int .i64 E]) ∧ Below w.heap.size w w') := by
  by_cases h0 : l < 1 ∨ (1 ≤ l ∧ ((brk s.data.toList).length : Int) + 1 < l)
  · exact ⟨_, 10, fun w b o cap I => (line_no b cap s o l w I (by omega) (by omega)).mono fun _ _ ⟨he, hw⟩ => ⟨he, by rw [← hw]; exact Below.refl _ _⟩, fun w => refline_no s l w hs h0⟩
  · obtain ⟨m, rfl⟩ : ∃ m : Nat, l = m + 1 := ⟨(l - 1).toNat, by omega⟩
    have hm : m ≤ (brk s.data.toList).length := by omega
    exact ⟨_, 0, fun w b o cap I => line_in b cap m s o _ w I (by omega) rfl hm, fun w => refline_in s _ m w hs rfl hm⟩

set_option maxHeartbeats 400000 in
theorem walk (s : ByteArray) (l c : Int) (hc : (Lit.int .i64 c).wf = true) (w : World) (hs : s.size ≤ 1048576) :
    Calls Try.prog 5 #[.string s, .int .i64 l, .int .i64 c] w fun e w' => e = .returned (.bool true) ∧ Below w.heap.size w w' := by
  obtain ⟨A, E, h1, h2⟩ := both_at s l c hc hs
  obtain ⟨x, F, h3, h4⟩ := both_line s l hs
  have H1 := Lib.hid h1
  have H2 := Lib.hid h2
  have H3 := Lib.hid h3
  have H4 := Lib.hid h4
  have HA := Lib.hid (awake_any w)
  have HN := Lib.hid (fun w1 => new_any s w1 (by omega))
  clear h1 h2 h3 h4 hs hc
  go_enter Try.func5, Try.ntmps5
  go_wp2_with fail
  refine HA.out.mono ?_
  rintro e w1 ⟨rfl, hB1⟩
  go_wp2_with fail
  refine (HN.out _).mono ?_
  rintro e w2 ⟨b, o, cap, rfl, I, hB⟩
  have S2 : St w w2 b s o cap := ⟨I, hB1.trans (hB.mono hB1.size)⟩
  clear I hB hB1
  go_wp2_with fail
  refine (H1.out _ _ _ _ S2.1).mono ?_
  rintro e w3 ⟨rfl, rfl⟩
  go_wp2_with fail
  refine (H2.out _).mono ?_
  rintro e w3 ⟨rfl, hB⟩
  have S3 := S2.next hB
  clear hB S2
  go_wp2_with fail
  refine (H3.out _ _ _ _ S3.1).mono ?_
  rintro e w4 ⟨rfl, hB⟩
  have S4 := S3.next hB
  clear hB S3
  go_wp2_with fail
  refine (H4.out _).mono ?_
  rintro e w5 ⟨rfl, hB⟩
  have S5 := S4.next hB
  clear hB S4
  go_wp2
  go_ret
  exact ⟨by simp, S5.2⟩

theorem contract (H : Type) (enc : TypeId × Value → H) (W : World) (base : Nat) (args : Array Value) (ds gs : List (DataW H)) (before : List MemPlace)
    (hval : ∀ (j : Nat) t v, Try.f5.params[j]? = some t → args[j]? = some v → Value.okWide Try.prog W .any base t v)
    (hW : DataW.Whole enc Try.prog Try.f5.params.toList Rows.posFindsSpec.vars false W args.toList ds gs before) (hk : Rows.uptoSmall H (ds ++ gs) = true) :
    Calls Try.prog 5 args W fun e W' => ∃ v, e = .returned v ∧ Rows.posFindsSpec.post enc Try.prog Try.f5 false true false false W args v W' := by
  have hW' := hW
  obtain ⟨p, q, hA0, hV, rfl, hfz, hnd⟩ := hW
  have hA : DataW.TrodAll enc Try.prog W 0 (fun _ => true) true Try.f5.params.toList args.toList ds p := hA0
  rw [Try.params5] at hA hval
  obtain ⟨v0, vs0, d0, ds0, p0, q0, hargs, rfl, rfl, h0, r0⟩ := trodAll_cons hA
  obtain ⟨v1, vs1, d1, ds1, p1, q1, rfl, rfl, rfl, h1, r1⟩ := trodAll_cons r0
  obtain ⟨v2, vs2, d2, ds2, p2, q2, rfl, rfl, rfl, h2, r2⟩ := trodAll_cons r1
  obtain ⟨rfl, rfl, rfl⟩ := trodAll_nil r2
  obtain rfl : args = #[v0, v1, v2] := by cases args; simp_all
  obtain ⟨rfl, rfl⟩ := trodVars_none hV
  obtain ⟨a0, rfl, rfl, rfl, w0⟩ := open_string Try.underlying9 (hval 0 9 v0 rfl rfl) h0
  obtain ⟨a1, rfl, rfl, rfl, w1⟩ := open_int Try.underlying3 (hval 1 3 v1 rfl rfl) h1
  obtain ⟨a2, rfl, rfl, rfl, w2⟩ := open_int Try.underlying3 (hval 2 3 v2 rfl rfl) h2
  clear hA0
  simp only [List.append_nil] at hW' hk
  refine (walk a0 a1 a2 w2 W (short hk)).mono fun e W' ⟨he, hg⟩ => ?_
  subst he
  exact ⟨_, rfl, _, _, _, [], [], [], hW', (trodAll_cons_mk (shut_bool Try.underlying4 _) trodAll_mk0), (trodAll_cons_mk (shut_string Try.underlying9 w0) (trodAll_cons_mk (shut_int Try.underlying3 w1) (trodAll_cons_mk (shut_int Try.underlying3 w2) trodAll_mk0))), rfl, hg.frame _, fun h => by cases h⟩

set_option maxRecDepth 100000 in
theorem lifted (os : Os) (started : os.Started) (H : Type) (enc : TypeId × Value → H) (F : Stop.Interp) :
    ReturnsInHanded {} Try.checked os 5 .any ((Rows.OpenSpec.upto Rows.posFindsSpec).pre6 enc Try.prog Try.f5 Rows.posFindsUptoRow.domain false) (((Rows.OpenSpec.upto Rows.posFindsSpec).at F).post enc Try.prog Try.f5 false true false false) := by
  refine returnsInHanded_of_cond (C := Try.checked) (s := Rows.OpenSpec.upto Rows.posFindsSpec) (k := Rows.uptoSmall) rfl own started (by kernel_rfl) Try.func5
    (OpenSpec.witness (enc := enc) (C := Try.checked) (s := Rows.OpenSpec.upto Rows.posFindsSpec) (k := Rows.uptoSmall) rfl false ⟨#[], #[.string .empty, .int .i64 0, .int .i64 0], []⟩ 8 (by kernel_rfl) (by kernel_rfl) (by kernel_rfl)
      (x := ([.lit (.string []), .lit (.int .i64 0), .lit (.int .i64 0)], [], [])) (by kernel_rfl) rfl (by kernel_rfl)) ?_
  intro W base args ds gs before hval hW _ hk _
  exact contract H enc W base args ds gs before hval hW hk

/-- PosFinds answers true, where what it reads is of bulk at most 1,048,576. -/
theorem proved : Rows.PosFindsUptoSaid :=
  OpenClaim.holds_of_cond 5 Try.f5 rfl rfl rfl rfl rfl rfl rfl ⟨rfl, rfl, rfl, rfl, rfl⟩ rfl rfl rfl rfl rfl (by kernel_rfl) Try.func5 (by kernel_rfl)
    (of_decide_eq_true (by kernel_rfl)) (by unfold Func.isWrapper; first | (rw [if_pos (by decide +kernel)]; kernel_rfl) | (rw [if_neg (by decide +kernel)]; exact ⟨rfl, rfl⟩))
    (fun os started H enc _ F => lifted os started H enc F)

end Go.Proofs.Ytakjajpacilnaaa.posFinds
