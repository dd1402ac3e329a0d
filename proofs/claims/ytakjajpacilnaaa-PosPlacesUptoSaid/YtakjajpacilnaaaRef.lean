/-
  The walks of the document's own Place and Lines. Condition: the text has fewer than 2^43 bytes.
-/
import Derived.Test.YtakjajpacilnaaaSmall
namespace Go.Proofs.Ytakjajpacilnaaa
open Go.RowKit Go.Lib

theorem refplace_low (s : ByteArray) (n : Int) (w : World) (h : n < 0) :
    Calls Try.prog 13 #[.string s, .int .i64 n] w fun e w' => e = .returned (.tuple #[.int .i64 0, .int .i64 0, .int .i64 10]) ∧ w = w' := by
  have hd : decide (n < 0) = true := by simpa using h
  go_enter Try.func13, Try.ntmps13
  go_wp2
  go_ret3
  exact ⟨rfl, rfl⟩

theorem refplace_high (s : ByteArray) (n : Int) (w : World) (h0 : 0 ≤ n) (h : (s.size : Int) < n) :
    Calls Try.prog 13 #[.string s, .int .i64 n] w fun e w' => e = .returned (.tuple #[.int .i64 0, .int .i64 0, .int .i64 10]) ∧ w = w' := by
  have hd : decide (n < 0) = false := by simp; omega
  have hd2 : decide ((s.size : Int) < n) = true := by simpa using h
  go_enter Try.func13, Try.ntmps13
  go_wp2
  go_ret3
  exact ⟨rfl, rfl⟩

/-- The loop's relation: k bytes have been looked at. -/
def PlRel (s : ByteArray) (n : Nat) (l c i : Value) : Prop :=
  ∃ k : Nat, k ≤ n ∧ i = .int .i64 (k : Nat) ∧ l = .int .i64 (1 + (cnt s.data.toList k : Int)) ∧ c = .int .i64 ((k : Int) - beg s.data.toList (cnt s.data.toList k) + 1)

theorem ten_iff (s : ByteArray) (k : Nat) (h : k < s.size) : (((s[k]).toNat : Int) == 10) = decide (s[k] = 10) := by
  by_cases e : s[k] = 10
  · rw [e]; decide
  · simp only [e, decide_false, beq_eq_false_iff_ne]
    intro h10
    exact e (UInt8.toNat_inj.1 (by simpa using Int.ofNat.inj h10))

theorem list_get (s : ByteArray) (k : Nat) (h : k < s.size) : s.data.toList[k]'(by simpa using h) = s[k] := rfl

set_option maxHeartbeats 400000 in
theorem refplace_in (s : ByteArray) (n : Nat) (w : World) (hs : s.size ≤ 8796093022208) (hn : n ≤ s.size) :
    Calls Try.prog 13 #[.string s, .int .i64 (n : Nat)] w fun e w' =>
      e = .returned (.tuple #[.int .i64 (1 + (cnt s.data.toList n : Int)), .int .i64 ((n : Int) - beg s.data.toList (cnt s.data.toList n) + 1), .int .i64 0]) ∧ w = w' := by
  have hd : decide (((n : Nat) : Int) < 0) = false := by simp
  have hd2 : decide ((s.size : Int) < (n : Nat)) = false := by simp; omega
  go_enter Try.func13, Try.ntmps13
  go_wp2
  go_loop [7, 8, 9] (fun l c i => PlRel s n l c i) (fun _ _ i => n - (intOf i).toNat)
  case atStart => exact ⟨0, Nat.zero_le _, rfl, by rw [cnt_zero]; rfl, by rw [cnt_zero]; rfl⟩
  case round =>
    obtain ⟨k, hk, rfl, rfl, rfl⟩ := hrel
    have hlen := brk_len_le s.data.toList
    rw [size_toList] at hlen
    have hc := cnt_le s.data.toList k
    have hw := within_cnt s.data.toList k (by rw [size_toList]; omega)
    by_cases hlt : k < n
    · have hks : k < s.size := by omega
      by_cases h10 : s[k] = 10
      · have ht := cnt_succ_ten s.data.toList k (by rw [size_toList]; exact hks) (by rw [list_get s k hks]; exact h10)
        have hb : (((s[k]).toNat : Int) == 10) = true := by rw [ten_iff s k hks]; simpa using h10
        have R : PlRel s n (.int .i64 (1 + (cnt s.data.toList k : Int) + 1)) (.int .i64 1) (.int .i64 ((k : Int) + 1)) :=
          ⟨k + 1, hlt, by go_num, by rw [ht.1]; congr 1, by rw [ht.1, ht.2]; congr 1; omega⟩
        have R := Lib.hid R
        clear ht h10
        generalize beg s.data.toList (cnt s.data.toList k) = bg at *
        generalize cnt s.data.toList k = c at *
        go_wp2
        go_round
        case rel => exact R.out
        case measure => simp [intOf]; omega
      · have ht := cnt_succ_other s.data.toList k (by rw [size_toList]; exact hks) (by rw [list_get s k hks]; exact h10)
        have hb : (((s[k]).toNat : Int) == 10) = false := by rw [ten_iff s k hks]; simpa using h10
        have R : PlRel s n (.int .i64 (1 + (cnt s.data.toList k : Int))) (.int .i64 ((k : Int) - beg s.data.toList (cnt s.data.toList k) + 1 + 1)) (.int .i64 ((k : Int) + 1)) :=
          ⟨k + 1, hlt, by go_num, by rw [ht], by rw [ht]; congr 1; omega⟩
        have R := Lib.hid R
        clear ht h10
        generalize beg s.data.toList (cnt s.data.toList k) = bg at *
        generalize cnt s.data.toList k = c at *
        go_wp2
        go_round
        case rel => exact R.out
        case measure => simp [intOf]; omega
    · obtain rfl : n = k := by omega
      go_wp2
      go_ret3
      exact ⟨rfl, rfl⟩

theorem Try.info9 : (Try.prog.info? 9).map (fun i => (i.zero, i.size, i.bytes)) = some (some (.string ⟨#[]⟩), 1, 16) := by kernel_rfl

/-- Line m as a value. -/
def lnv (s : ByteArray) (m : Nat) : Value := .string (s.extract (beg s.data.toList m) (stop s.data.toList m))
/-- The first n lines. -/
def lns (s : ByteArray) (n : Nat) : List Value := (List.range n).map (lnv s)
theorem lns_len (s : ByteArray) (n : Nat) : (lns s n).length = n := by simp [lns]
theorem lns_succ (s : ByteArray) (n : Nat) : lns s (n + 1) = lns s n ++ [lnv s n] := by simp [lns, List.range_succ]

theorem lns_get (s : ByteArray) (n j : Nat) (h : j < n) : (lns s n)[j]? = some (lnv s j) := by
  unfold lns; rw [List.getElem?_map, List.getElem?_range h]; rfl

/-- How many lines the loop has found ahead of place k. -/
def ci (s : ByteArray) (k : Nat) : Nat := if k ≤ s.size then cnt s.data.toList k else (brk s.data.toList).length + 1

def LnRel (s : ByteArray) (w wr : World) (k : Nat) (out fr : Value) : Prop :=
  k ≤ s.size + 1 ∧ wr.ownsRow w.heap.size 9 1 out (ci s k) (lns s (ci s k)) ∧ Below w.heap.size w wr ∧ ∃ f : Nat, fr = .int .i64 (f : Nat) ∧ (k ≤ s.size → f = beg s.data.toList (cnt s.data.toList k))

theorem ln_start (s : ByteArray) (w : World) : LnRel s w w 0 (.slice none 0 0) (.int .i64 0) :=
  ⟨Nat.zero_le _, by simpa [ci, cnt_zero, lns] using World.ownsRow_nil w w.heap.size 9 1, Below.refl _ _, 0, rfl, fun _ => by rw [cnt_zero]; rfl⟩

theorem ln_keep {s : ByteArray} {w wr : World} {k : Nat} {out fr : Value} (h : LnRel s w wr k out fr) (hk : k < s.size) (h10 : s[k] ≠ 10) : LnRel s w wr (k + 1) out fr := by
  obtain ⟨h1, h2, h3, f, h4, h5⟩ := h
  have hc := cnt_succ_other s.data.toList k (by rw [size_toList]; exact hk) h10
  have e : ci s (k + 1) = ci s k := by unfold ci; rw [if_pos (by omega), if_pos (by omega), hc]
  exact ⟨by omega, by rw [e]; exact h2, h3, f, h4, fun _ => by rw [hc]; exact h5 (by omega)⟩

/-- A line is found: at a byte 10, or at the text's end. -/
theorem ln_found {s : ByteArray} {w wr w1 : World} {k : Nat} {out out' fr : Value} {o : Obj} (h : LnRel s w wr k out fr) (hk : k ≤ s.size) (h10 : k = s.size ∨ ∃ hk : k < s.size, s[k] = 10) (f : Nat) (hf : f = beg s.data.toList (cnt s.data.toList k))
    (hown : w1.ownsRow w.heap.size 9 1 out' (ci s k + 1) (lns s (ci s k) ++ [.string (s.extract f k)])) (hg : (wr.alloc o).grownBy w1 out.ownBlock) : LnRel s w w1 (k + 1) out' (.int .i64 ((k : Int) + 1)) := by
  obtain ⟨h1, h2, h3, _⟩ := h
  have hst : stop s.data.toList (cnt s.data.toList k) = k ∧ ci s (k + 1) = ci s k + 1 ∧ (k + 1 ≤ s.size → k + 1 = beg s.data.toList (cnt s.data.toList (k + 1))) := by
    rcases h10 with rfl | ⟨hk2, h10⟩
    · have e : cnt s.data.toList s.size = (brk s.data.toList).length := by rw [← size_toList, cnt_len]
      refine ⟨by rw [e]; unfold stop; rw [if_pos rfl, size_toList], ?_, fun h => by omega⟩
      unfold ci; rw [if_neg (by omega), if_pos (Nat.le_refl _), e]
    · have ht := cnt_succ_ten s.data.toList k (by rw [size_toList]; exact hk2) h10
      have hc := cnt_le s.data.toList (k + 1)
      have hb := beg_succ s.data.toList (cnt s.data.toList k) (by omega)
      refine ⟨by omega, ?_, fun _ => by rw [ht.1, ht.2]⟩
      unfold ci; rw [if_pos (show k + 1 ≤ s.size from hk2), if_pos hk, ht.1]
  have ec : ci s k = cnt s.data.toList k := by unfold ci; rw [if_pos hk]
  have hl : lnv s (ci s k) = .string (s.extract f k) := by unfold lnv; rw [ec, hst.1, hf]
  have hsz := h3.size
  refine ⟨by omega, by rw [hst.2.1, lns_succ, hl]; exact hown, (h3.alloc hsz o).grown hg (by simp; omega) (fun j hj => (h2.lt j hj).1), k + 1, rfl, hst.2.2⟩

/-- What Lines answers. -/
def IsStrs (w w' : World) (s : ByteArray) (e : Ending) : Prop :=
  ∃ g cap, e = .returned (.slice (some ⟨g, 0, none⟩) ((brk s.data.toList).length + 1) cap) ∧ Below w.heap.size w w' ∧ ∀ j, j ≤ (brk s.data.toList).length → w'.cell? ⟨g, j, none⟩ = some (lnv s j)

theorem ln_end {s : ByteArray} {w wr : World} {k : Nat} {out fr : Value} (h : LnRel s w wr k out fr) (hk : ¬ k ≤ s.size) : IsStrs w wr s (.returned out) := by
  obtain ⟨h1, h2, h3, _⟩ := h
  have e : ci s k = (brk s.data.toList).length + 1 := by unfold ci; rw [if_neg hk]
  rw [e] at h2
  have hc := fun g => h2.cells (g := g)
  rcases h2.2 with ⟨_, h0⟩ | ⟨g, cap, cur, rfl, hb, hg, hn, hm, _⟩
  · omega
  · refine ⟨g, cap, rfl, h3, fun j hj => ?_⟩
    have := hc g rfl j (lnv s j) (lns_get s _ j (by omega))
    have ha : (⟨g, 0, none⟩ : Addr).add j = ⟨g, j, none⟩ := by unfold Addr.add; split <;> simp_all
    rwa [ha] at this

set_option maxHeartbeats 1000000 in
theorem reflines_any (s : ByteArray) (w : World) (hs : s.size ≤ 1099511627776) : Calls Try.prog 15 #[.string s] w fun e w' => IsStrs w w' s e := by
  obtain ⟨i0, hi, hz0, hz1, hz2⟩ := info_parts Try.info9
  go_enter Try.func15, Try.ntmps15
  go_wp2
  go_loopw [3, 4, 5] (fun out fr i wr => ∃ k : Nat, i = .int .i64 (k : Nat) ∧ LnRel s w wr k out fr) (fun _ _ i _ => s.size + 1 - (intOf i).toNat)
  case atStart => exact ⟨0, rfl, ln_start s w⟩
  case round =>
    obtain ⟨k, rfl, hr⟩ := hrel
    have hk1 := hr.1
    obtain ⟨f, rfl, hf⟩ := hr.2.2.2
    have hown := hr.2.1
    have hwz := hr.2.2.1.size
    have hlen := brk_len_le s.data.toList
    rw [size_toList] at hlen
    have hcl := cnt_le s.data.toList k
    by_cases hk : k ≤ s.size
    · have hf2 := hf hk
      clear hf
      have hfk : f ≤ k := by rw [hf2]; exact (within_cnt s.data.toList k (by rw [size_toList]; exact hk)).1
      have hci : ci s k ≤ 1099511627776 := by unfold ci; rw [if_pos hk]; omega
      have d1 : decide ((k : Int) ≤ (s.size : Nat)) = true := by simp; omega
      have H := Lib.hid hr
      have HF := Lib.hid hf2
      clear hr hf2 hcl
      by_cases he : k = s.size
      · have d2 : (((k : Nat) : Int) == (s.size : Nat)) = true := by rw [beq_iff_eq]; omega
        have HE := Lib.hid he
        clear he
        go_wp2_with (at_builtin; refine wpList_append_own _ rfl _ _ 30 rfl w.heap.size 9 i0 (.string ⟨#[]⟩) 1 16 Try.underlying30 hi hz0 hz1 hz2 rfl (by decide) _ _ _ rfl (hown.alloc _) ⟨wr.heap.size, 0, none⟩ 1 1 [Value.string (s.extract f k)] rfl rfl ?c1 ?c2 ?c3 ?c4 ?c5 ?_)
        case c1 => exact cell_one_new _ _ _
        case c2 => intro u hu; simp at hu; subst hu; rfl
        case c3 => unfold maxLen; omega
        case c4 => omega
        case c5 => simp; omega
        intro out' w1 hown' hgrow _
        have R := ln_found H.out hk (.inl HE.out) f HF.out hown' hgrow
        have R := Lib.hid R
        clear hown' hgrow hown
        go_wp2
        go_roundw
        case rel => exact ⟨k + 1, by go_num, R.out⟩
        case measure => simp [intOf]; omega
      · have hks : k < s.size := by omega
        have d2 : (((k : Nat) : Int) == (s.size : Nat)) = false := by rw [beq_eq_false_iff_ne]; omega
        clear he
        by_cases h10 : s[k] = 10
        · have d3 : (((s[k]).toNat : Int) == 10) = true := by rw [ten_iff s k hks]; simpa using h10
          have HE := Lib.hid h10
          clear h10
          go_wp2_with (at_builtin; refine wpList_append_own _ rfl _ _ 30 rfl w.heap.size 9 i0 (.string ⟨#[]⟩) 1 16 Try.underlying30 hi hz0 hz1 hz2 rfl (by decide) _ _ _ rfl (hown.alloc _) ⟨wr.heap.size, 0, none⟩ 1 1 [Value.string (s.extract f k)] rfl rfl ?c1 ?c2 ?c3 ?c4 ?c5 ?_)
          case c1 => exact cell_one_new _ _ _
          case c2 => intro u hu; simp at hu; subst hu; rfl
          case c3 => unfold maxLen; omega
          case c4 => omega
          case c5 => simp; omega
          intro out' w1 hown' hgrow _
          have R := ln_found H.out hk (.inr ⟨hks, HE.out⟩) f HF.out hown' hgrow
          have R := Lib.hid R
          clear hown' hgrow hown
          go_wp2
          go_roundw
          case rel => exact ⟨k + 1, by go_num, R.out⟩
          case measure => simp [intOf]; omega
        · have d3 : (((s[k]).toNat : Int) == 10) = false := by rw [ten_iff s k hks]; simpa using h10
          have R := Lib.hid (ln_keep H.out hks h10)
          clear h10 hown
          go_wp2
          go_roundw
          case rel => exact ⟨k + 1, by go_num, R.out⟩
          case measure => simp [intOf]; omega
    · have d1 : decide ((k : Int) ≤ (s.size : Nat)) = false := by simp; omega
      have R := Lib.hid (ln_end hr hk)
      clear hr hf hown hcl
      go_wp2
      go_ret
      exact R.out

end Go.Proofs.Ytakjajpacilnaaa
