/-
  Which text may be a name: the program's answer and the document's. Condition: at most 2^63 - 1 bytes.
-/
import Derived.Test.YtofdejoeheokjaaTnb
namespace Go.Proofs.Ytofdejoeheokjaa
open Go.RowKit
open Go.Lib hiding intOf

theorem isLetter_any (c : UInt8) (w : World) : Calls Try.prog 37 #[.int .u8 (c.toNat : Nat)] w fun e w' => e = .returned (.bool (ltr c)) ∧ w = w' := by
  by_cases h95 : c = 95
  · subst h95
    go_enter Try.func37, Try.ntmps37
    go_wp2
    go_ret
    exact ⟨rfl, rfl⟩
  have e95 := u8_ne h95
  have b95 : (((c.toNat : Nat) : Int) == 95) = false := beq_eq_false_iff_ne.2 fun e => e95 (by show c.toNat = 95; omega)
  have hl : ltr c = ((decide (65 ≤ c.toNat) && decide (c.toNat ≤ 90)) || (decide (97 ≤ c.toNat) && decide (c.toNat ≤ 122))) := by simp [ltr, h95]
  rw [hl]
  clear hl h95 e95
  generalize c.toNat = n at *
  have hcase : n < 65 ∨ (65 ≤ n ∧ n ≤ 90) ∨ (91 ≤ n ∧ n < 97) ∨ (97 ≤ n ∧ n ≤ 122) ∨ 122 < n := by omega
  rcases hcase with h | ⟨h, h'⟩ | ⟨h, h'⟩ | ⟨h, h'⟩ | h
  · rw [show (decide (65 ≤ n) && decide (n ≤ 90) || decide (97 ≤ n) && decide (n ≤ 122)) = false by simp; try omega]
    have d1 : decide ((65 : Int) ≤ n) = false := by simp; omega
    have d2 : decide ((n : Int) ≤ 90) = true := by simp; omega
    have d3 : decide ((97 : Int) ≤ n) = false := by simp; omega
    have d4 : decide ((n : Int) ≤ 122) = true := by simp; omega
    go_enter Try.func37, Try.ntmps37
    go_wp2
    go_ret
    exact ⟨rfl, rfl⟩
  · rw [show (decide (65 ≤ n) && decide (n ≤ 90) || decide (97 ≤ n) && decide (n ≤ 122)) = true by simp; try omega]
    have d1 : decide ((65 : Int) ≤ n) = true := by simp; omega
    have d2 : decide ((n : Int) ≤ 90) = true := by simp; omega
    have d3 : decide ((97 : Int) ≤ n) = false := by simp; omega
    have d4 : decide ((n : Int) ≤ 122) = true := by simp; omega
    go_enter Try.func37, Try.ntmps37
    go_wp2
    go_ret
    exact ⟨rfl, rfl⟩
  · rw [show (decide (65 ≤ n) && decide (n ≤ 90) || decide (97 ≤ n) && decide (n ≤ 122)) = false by simp; try omega]
    have d1 : decide ((65 : Int) ≤ n) = true := by simp; omega
    have d2 : decide ((n : Int) ≤ 90) = false := by simp; omega
    have d3 : decide ((97 : Int) ≤ n) = false := by simp; omega
    have d4 : decide ((n : Int) ≤ 122) = true := by simp; omega
    go_enter Try.func37, Try.ntmps37
    go_wp2
    go_ret
    exact ⟨rfl, rfl⟩
  · rw [show (decide (65 ≤ n) && decide (n ≤ 90) || decide (97 ≤ n) && decide (n ≤ 122)) = true by simp; try omega]
    have d1 : decide ((65 : Int) ≤ n) = true := by simp; omega
    have d2 : decide ((n : Int) ≤ 90) = false := by simp; omega
    have d3 : decide ((97 : Int) ≤ n) = true := by simp; omega
    have d4 : decide ((n : Int) ≤ 122) = true := by simp; omega
    go_enter Try.func37, Try.ntmps37
    go_wp2
    go_ret
    exact ⟨rfl, rfl⟩
  · rw [show (decide (65 ≤ n) && decide (n ≤ 90) || decide (97 ≤ n) && decide (n ≤ 122)) = false by simp; try omega]
    have d1 : decide ((65 : Int) ≤ n) = true := by simp; omega
    have d2 : decide ((n : Int) ≤ 90) = false := by simp; omega
    have d3 : decide ((97 : Int) ≤ n) = true := by simp; omega
    have d4 : decide ((n : Int) ≤ 122) = false := by simp; omega
    go_enter Try.func37, Try.ntmps37
    go_wp2
    go_ret
    exact ⟨rfl, rfl⟩
theorem isDigit_any (c : UInt8) (w : World) : Calls Try.prog 38 #[.int .u8 (c.toNat : Nat)] w fun e w' => e = .returned (.bool (dgt c)) ∧ w = w' := by
  unfold dgt
  generalize c.toNat = n at *
  have hcase : n < 48 ∨ (48 ≤ n ∧ n ≤ 57) ∨ 57 < n := by omega
  rcases hcase with h | ⟨h, h'⟩ | h
  · rw [show (decide (48 ≤ n) && decide (n ≤ 57)) = false by simp; try omega]
    have d1 : decide ((48 : Int) ≤ n) = false := by simp; omega
    have d2 : decide ((n : Int) ≤ 57) = true := by simp; omega
    go_enter Try.func38, Try.ntmps38
    go_wp2
    go_ret
    exact ⟨rfl, rfl⟩
  · rw [show (decide (48 ≤ n) && decide (n ≤ 57)) = true by simp; try omega]
    have d1 : decide ((48 : Int) ≤ n) = true := by simp; omega
    have d2 : decide ((n : Int) ≤ 57) = true := by simp; omega
    go_enter Try.func38, Try.ntmps38
    go_wp2
    go_ret
    exact ⟨rfl, rfl⟩
  · rw [show (decide (48 ≤ n) && decide (n ≤ 57)) = false by simp; try omega]
    have d1 : decide ((48 : Int) ≤ n) = true := by simp; omega
    have d2 : decide ((n : Int) ≤ 57) = false := by simp; omega
    go_enter Try.func38, Try.ntmps38
    go_wp2
    go_ret
    exact ⟨rfl, rfl⟩

/-- A text may be a name. -/
def okN (s : ByteArray) : Bool := decide (1 ≤ s.size) && decide (s.size ≤ 40) && (match s.data.toList with | [] => false | c :: _ => ltr c) && s.data.toList.all nam && !kw s.data.toList
theorem okN_head {s : ByteArray} (h : 0 < s.size) : (match s.data.toList with | [] => false | c :: _ => ltr c) = ltr s[0] := by
  have := drop_cons s 0 h
  rw [List.drop_zero] at this
  rw [this]
theorem all_drop {s : ByteArray} {j : Nat} (h : j < s.size) : (s.data.toList.drop j).all nam = (nam s[j] && (s.data.toList.drop (j + 1)).all nam) := by
  rw [drop_cons s j h, List.all_cons]

set_option maxRecDepth 100000 in
set_option maxHeartbeats 4000000 in
theorem nameP_any (s : ByteArray) (w : World) (hs : s.size ≤ 9223372036854775807) :
    Calls Try.prog 19 #[.string s] w fun e w' => e = .returned (.bool (okN s)) ∧ Below w.heap.size w w' := by
  have HK := Lib.hid (fun w => word_any s w hs)
  by_cases h0 : s.size = 0
  · have hr : okN s = false := by unfold okN; simp [h0]
    rw [hr]
    clear hr
    have h0' : ((s.size : Int) = 0) := by omega
    go_enter Try.func19, Try.ntmps19
    go_wp2
    go_ret
    exact ⟨rfl, Below.refl _ _⟩
  by_cases h40 : 40 < s.size
  · have hr : okN s = false := by unfold okN; simp; omega
    rw [hr]
    clear hr
    have h0' : ¬ ((s.size : Int) = 0) := by omega
    have h1' : ((40 : Int) < (s.size : Int)) := by omega
    go_enter Try.func19, Try.ntmps19
    go_wp2
    go_ret
    exact ⟨rfl, Below.refl _ _⟩
  have hp : 0 < s.size := by omega
  have h0' : ¬ ((s.size : Int) = 0) := by omega
  have h1' : ¬ ((40 : Int) < (s.size : Int)) := by omega
  have hq : ((s.size : Int) == 0) = false := beq_eq_false_iff_ne.2 h0'
  by_cases hl : ltr s[0] = true
  · obtain ⟨B, hB⟩ : ∃ B, okN s = B := ⟨_, rfl⟩
    rw [hB]
    have HB : Hid (((s.data.toList.drop 0).all nam && !kw s.data.toList) = B) := by
      show _ = _
      rw [← hB, List.drop_zero]
      unfold okN
      rw [okN_head hp, hl, decide_eq_true (by omega : 1 ≤ s.size), decide_eq_true (by omega : s.size ≤ 40)]
      simp
    clear hB
    have HL0 := Lib.hid (isLetter_any s[0])
    rw [hl] at HL0
    clear hl
    go_enter Try.func19, Try.ntmps19
    go_wp2_with (go_at_call 37; refine (HL0.out _).mono ?_; rintro e w1 ⟨rfl, rfl⟩)
    clear HL0
    go_loopw [20] (fun i wr => ∃ j : Nat, i = .int .i64 (j : Nat) ∧ Hid (j ≤ s.size) ∧ Hid (((s.data.toList.drop j).all nam && !kw s.data.toList) = B) ∧ wr = w) (fun i _ => s.size - (RowKit.intOf i).toNat)
    case atStart => exact ⟨0, rfl, Nat.zero_le _, HB, rfl⟩
    case round =>
      obtain ⟨j, rfl, HJ, HA, rfl⟩ := hrel
      clear HB
      by_cases hj : j < s.size
      · have hj' : ((j : Int) < (s.size : Int)) := by omega
        have hj0 : (0 : Int) ≤ (j : Int) := by omega
        have hwj := IntWalk.i64_in ((j : Int) + 1) ⟨by omega, by omega⟩
        have HA2 := Lib.hid (all_drop hj)
        have L := Lib.hid (isLetter_any s[j])
        have D := Lib.hid (isDigit_any s[j])
        by_cases hn : nam s[j] = true
        · have HN : Hid (((s.data.toList.drop (j + 1)).all nam && !kw s.data.toList) = B) := by
            have h1 := HA.out
            rw [HA2.out, hn, Bool.true_and] at h1
            exact h1
          unfold nam at hn
          clear HA HA2
          generalize ltr s[j] = x at *
          generalize dgt s[j] = y at *
          cases x
          · have hy : y = true := by simpa using hn
            subst hy
            clear hn
            go_wp2_with (first | (go_at_call 37; refine (L.out _).mono ?_; rintro e w1 ⟨rfl, rfl⟩) | (go_at_call 38; refine (D.out _).mono ?_; rintro e w1 ⟨rfl, rfl⟩))
            case roundEnd => exact ⟨⟨j + 1, by push_cast; rfl, hj, HN, by first | rfl | trivial⟩, by simp [RowKit.intOf]; omega⟩
          · clear hn
            go_wp2_with (first | (go_at_call 37; refine (L.out _).mono ?_; rintro e w1 ⟨rfl, rfl⟩) | (go_at_call 38; refine (D.out _).mono ?_; rintro e w1 ⟨rfl, rfl⟩))
            case roundEnd => exact ⟨⟨j + 1, by push_cast; rfl, hj, HN, by first | rfl | trivial⟩, by simp [RowKit.intOf]; omega⟩
        · have hn : nam s[j] = false := by simpa using hn
          have HN : Hid (false = B) := by
            have h1 := HA.out
            rw [HA2.out, hn] at h1
            show _ = _
            simpa using h1
          obtain ⟨hx, hy⟩ : ltr s[j] = false ∧ dgt s[j] = false := by unfold nam at hn; simpa using hn
          rw [hx] at L
          rw [hy] at D
          clear hn hx hy HA HA2
          go_wp2_with (first | (go_at_call 37; refine (L.out _).mono ?_; rintro e w1 ⟨rfl, rfl⟩) | (go_at_call 38; refine (D.out _).mono ?_; rintro e w1 ⟨rfl, rfl⟩))
          go_ret
          exact ⟨by rw [← HN.out]; rfl, Below.refl _ _⟩
      · have hj' : ¬ ((j : Int) < (s.size : Int)) := by omega
        have hA := HA.out
        rw [drop_nil s j (by omega)] at hA
        simp only [List.all_nil, Bool.true_and] at hA
        have HA3 := Lib.hid hA
        clear hA HA
        go_wp2_with (go_at_call 39; refine (HK.out _).mono ?_; rintro e w1 ⟨rfl, hb⟩; have HB1 := Lib.hid hb; clear hb)
        go_ret
        exact ⟨by rw [← HA3.out]; rfl, HB1.out⟩
  · have hl : ltr s[0] = false := by simpa using hl
    have hr : okN s = false := by unfold okN; rw [okN_head hp, hl]; simp
    rw [hr]
    have HL0 := Lib.hid (isLetter_any s[0])
    rw [hl] at HL0
    clear hr hl
    go_enter Try.func19, Try.ntmps19
    go_wp2_with (go_at_call 37; refine (HL0.out _).mono ?_; rintro e w1 ⟨rfl, rfl⟩)
    go_ret
    exact ⟨rfl, Below.refl _ _⟩

set_option maxRecDepth 100000 in
set_option maxHeartbeats 4000000 in
theorem nameR_any (s : ByteArray) (w : World) (hs : s.size ≤ 9223372036854775807) :
    Calls Try.prog 20 #[.string s] w fun e w' => e = .returned (.bool (okN s)) ∧ Below w.heap.size w w' := by
  by_cases h0 : s.size = 0
  · have hr : okN s = false := by unfold okN; simp [h0]
    rw [hr]
    clear hr
    have h0' : ((s.size : Int) < 1) := by omega
    go_enter Try.func20, Try.ntmps20
    go_wp2
    go_ret
    exact ⟨rfl, Below.refl _ _⟩
  by_cases h40 : 40 < s.size
  · have hr : okN s = false := by unfold okN; simp; omega
    rw [hr]
    clear hr
    have h0' : ¬ ((s.size : Int) < 1) := by omega
    have h1' : ((40 : Int) < (s.size : Int)) := by omega
    go_enter Try.func20, Try.ntmps20
    go_wp2
    go_ret
    exact ⟨rfl, Below.refl _ _⟩
  have hp : 0 < s.size := by omega
  have h0' : ¬ ((s.size : Int) < 1) := by omega
  have h1' : ¬ ((40 : Int) < (s.size : Int)) := by omega
  have HL0 := Lib.hid (refLetter_any s[0])
  have HK := Lib.hid (fun w => refWord_any s w)
  obtain ⟨B, hB⟩ : ∃ B, okN s = B := ⟨_, rfl⟩
  rw [hB]
  have HB : Hid ((ltr s[0] && !kw s.data.toList && (s.data.toList.drop 1).all nam) = B) := by
    show _ = _
    rw [← hB]
    unfold okN
    have h3 := all_drop hp
    rw [List.drop_zero] at h3
    rw [okN_head hp, h3, decide_eq_true (by omega : 1 ≤ s.size), decide_eq_true (by omega : s.size ≤ 40)]
    have : ltr s[0] = true → nam s[0] = true := nam_of_ltr
    cases h1 : ltr s[0]
    · simp
    · rw [this h1]
      cases kw s.data.toList <;> simp
  clear hB
  generalize ltr s[0] = x at *
  generalize kw s.data.toList = y at *
  cases x
  · obtain rfl : false = B := by simpa using HB.out
    go_enter Try.func20, Try.ntmps20
    go_wp2_with (first | (go_at_call 40; refine (HL0.out _).mono ?_; rintro e w1 ⟨rfl, rfl⟩) | (go_at_call 41; refine (HK.out _).mono ?_; rintro e w1 ⟨rfl, hb⟩; have HB1 := Lib.hid hb; clear hb))
    go_ret
    exact ⟨rfl, HB1.out⟩
  cases y
  · have HA : Hid (((s.data.toList.drop 1).all nam) = B) := by have h := HB.out; simp only [Bool.true_and, Bool.not_false] at h; exact h
    clear HB
    go_enter Try.func20, Try.ntmps20
    go_wp2_with (first | (go_at_call 40; refine (HL0.out _).mono ?_; rintro e w1 ⟨rfl, rfl⟩) | (go_at_call 41; refine (HK.out _).mono ?_; rintro e w1 ⟨rfl, hb⟩; have HB1 := Lib.hid hb; clear hb))
    clear HL0 HK
    go_loopw [5] (fun i wr => ∃ j : Nat, i = .int .i64 (j : Nat) ∧ Hid (j ≤ s.size) ∧ Hid ((s.data.toList.drop j).all nam = B) ∧ wr = w1) (fun i _ => s.size - (RowKit.intOf i).toNat)
    case atStart => exact ⟨1, rfl, hp, HA, rfl⟩
    case round =>
      obtain ⟨j, rfl, HJ, HA, rfl⟩ := hrel
      by_cases hj : j < s.size
      · have hj' : ((j : Int) < (s.size : Int)) := by omega
        have hj0 : (0 : Int) ≤ (j : Int) := by omega
        have hwj := IntWalk.i64_in ((j : Int) + 1) ⟨by omega, by omega⟩
        have HA2 := Lib.hid (all_drop hj)
        have L := Lib.hid (refLetter_any s[j])
        have D := Lib.hid (refDigit_any s[j])
        by_cases hn : nam s[j] = true
        · have HN : Hid ((s.data.toList.drop (j + 1)).all nam = B) := by
            have h1 := HA.out
            rw [HA2.out, hn, Bool.true_and] at h1
            exact h1
          unfold nam at hn
          clear HA HA2
          generalize ltr s[j] = x at *
          generalize dgt s[j] = y at *
          cases x
          · have hy : y = true := by simpa using hn
            subst hy
            clear hn
            go_wp2_with (first | (go_at_call 40; refine (L.out _).mono ?_; rintro e w1 ⟨rfl, rfl⟩) | (go_at_call 42; refine (D.out _).mono ?_; rintro e w1 ⟨rfl, rfl⟩))
            case roundEnd => exact ⟨⟨j + 1, by push_cast; rfl, hj, HN, by first | rfl | trivial⟩, by simp [RowKit.intOf]; omega⟩
          · clear hn
            go_wp2_with (first | (go_at_call 40; refine (L.out _).mono ?_; rintro e w1 ⟨rfl, rfl⟩) | (go_at_call 42; refine (D.out _).mono ?_; rintro e w1 ⟨rfl, rfl⟩))
            case roundEnd => exact ⟨⟨j + 1, by push_cast; rfl, hj, HN, by first | rfl | trivial⟩, by simp [RowKit.intOf]; omega⟩
        · have hn : nam s[j] = false := by simpa using hn
          have HN : Hid (false = B) := by
            have h1 := HA.out
            rw [HA2.out, hn] at h1
            show _ = _
            simpa using h1
          obtain ⟨hx, hy⟩ : ltr s[j] = false ∧ dgt s[j] = false := by unfold nam at hn; simpa using hn
          rw [hx] at L
          rw [hy] at D
          clear hn hx hy HA HA2
          go_wp2_with (first | (go_at_call 40; refine (L.out _).mono ?_; rintro e w1 ⟨rfl, rfl⟩) | (go_at_call 42; refine (D.out _).mono ?_; rintro e w1 ⟨rfl, rfl⟩))
          go_ret
          exact ⟨by rw [← HN.out]; rfl, HB1.out⟩
      · have hj' : ¬ ((j : Int) < (s.size : Int)) := by omega
        have hA := HA.out
        rw [drop_nil s j (by omega)] at hA
        have HA3 := Lib.hid hA
        clear hA HA
        go_wp2
        go_ret
        exact ⟨by rw [← HA3.out]; rfl, HB1.out⟩
  · obtain rfl : false = B := by simpa using HB.out
    go_enter Try.func20, Try.ntmps20
    go_wp2_with (first | (go_at_call 40; refine (HL0.out _).mono ?_; rintro e w1 ⟨rfl, rfl⟩) | (go_at_call 41; refine (HK.out _).mono ?_; rintro e w1 ⟨rfl, hb⟩; have HB1 := Lib.hid hb; clear hb))
    go_ret
    exact ⟨rfl, HB1.out⟩

end Go.Proofs.Ytofdejoeheokjaa
