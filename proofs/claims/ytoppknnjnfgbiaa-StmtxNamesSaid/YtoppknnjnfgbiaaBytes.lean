/-
  The walks of the small tests of bytes, and of 'runEnd' at each of the tests that it is handed. Condition: the text has at most 2^48 bytes.
-/
import Derived.Test.YtoppknnjnfgbiaaMath
import Derived.Test.YtoppknnjnfgbiaaLays
import Derived.Test.YtoppknnjnfgbiaaRows
import Derived.WalkKit
import Derived.WalkSpells
import Derived.WalkLawsBesides
import Derived.Lib.OthersKept
import Derived.Lib.Hide
namespace Go.Proofs.Ytoppknnjnfgbiaa
open Go.RowKit
open Go.Lib hiding intOf

theorem size_toList (s : ByteArray) : s.data.toList.length = s.size := by simp
theorem list_get (s : ByteArray) (k : Nat) (h : k < s.size) : s.data.toList[k]'(by simpa using h) = s[k] := rfl
theorem drop_cons (s : ByteArray) (k : Nat) (h : k < s.size) : s.data.toList.drop k = s[k] :: s.data.toList.drop (k + 1) := by
  rw [List.drop_eq_getElem_cons (by simpa using h)]; rfl
theorem drop_nil (s : ByteArray) (k : Nat) (h : s.size ≤ k) : s.data.toList.drop k = [] := by
  rw [List.drop_eq_nil_iff]; simpa using h

theorem u8_beq (c d : UInt8) : (((c.toNat : Nat) : Int) == ((d.toNat : Nat) : Int)) = (c == d) := by
  by_cases h : c = d
  · subst h; simp
  · have h2 : (c == d) = false := beq_eq_false_iff_ne.2 h
    rw [h2]
    refine beq_eq_false_iff_ne.2 fun e => h (UInt8.toNat_inj.1 (by omega))
theorem u8_ne {c d : UInt8} (h : c ≠ d) : c.toNat ≠ d.toNat := fun e => h (UInt8.toNat_inj.1 e)

theorem isLayout_any (c : UInt8) (w : World) : Calls Try.prog 43 #[.int .u8 (c.toNat : Nat)] w fun e w' => e = .returned (.bool (lay c)) ∧ w = w' := by
  by_cases h1 : c = 9
  · subst h1
    go_enter Try.func43, Try.ntmps43
    go_wp2
    go_ret
    exact ⟨rfl, rfl⟩
  by_cases h2 : c = 10
  · subst h2
    go_enter Try.func43, Try.ntmps43
    go_wp2
    go_ret
    exact ⟨rfl, rfl⟩
  by_cases h3 : c = 13
  · subst h3
    go_enter Try.func43, Try.ntmps43
    go_wp2
    go_ret
    exact ⟨rfl, rfl⟩
  by_cases h4 : c = 32
  · subst h4
    go_enter Try.func43, Try.ntmps43
    go_wp2
    go_ret
    exact ⟨rfl, rfl⟩
  have e1 := u8_ne h1
  have e2 := u8_ne h2
  have e3 := u8_ne h3
  have e4 := u8_ne h4
  have hl : lay c = false := by simp [lay, h1, h2, h3, h4]
  rw [hl]
  have b1 : (((c.toNat : Nat) : Int) == 9) = false := beq_eq_false_iff_ne.2 fun e => e1 (by show c.toNat = 9; omega)
  have b2 : (((c.toNat : Nat) : Int) == 10) = false := beq_eq_false_iff_ne.2 fun e => e2 (by show c.toNat = 10; omega)
  have b3 : (((c.toNat : Nat) : Int) == 13) = false := beq_eq_false_iff_ne.2 fun e => e3 (by show c.toNat = 13; omega)
  have b4 : (((c.toNat : Nat) : Int) == 32) = false := beq_eq_false_iff_ne.2 fun e => e4 (by show c.toNat = 32; omega)
  clear h1 h2 h3 h4 e1 e2 e3 e4 hl
  go_enter Try.func43, Try.ntmps43
  go_wp2
  go_ret
  exact ⟨rfl, rfl⟩

theorem isLetter_any (c : UInt8) (w : World) : Calls Try.prog 47 #[.int .u8 (c.toNat : Nat)] w fun e w' => e = .returned (.bool (ltr c)) ∧ w = w' := by
  by_cases h95 : c = 95
  · subst h95
    go_enter Try.func47, Try.ntmps47
    go_wp2
    go_ret
    exact ⟨rfl, rfl⟩
  have e95 := u8_ne h95
  have b95 : (((c.toNat : Nat) : Int) == 95) = false := beq_eq_false_iff_ne.2 fun e => e95 (by show c.toNat = 95; omega)
  have hl : ltr c = ((decide (65 ≤ c.toNat) && decide (c.toNat ≤ 90)) || (decide (97 ≤ c.toNat) && decide (c.toNat ≤ 122))) := by simp [ltr, h95]
  rw [hl]
  clear hl h95 e95
  generalize c.toNat = n at *
  have hcase : n < 65 ∨ (65 ≤ n ∧ n ≤ 90) ∨ (91 ≤ n ∧ n < 97) ∨ (97 ≤ n ∧ n ≤ 122) ∨ 122 < n := by omega
  rcases hcase with h | ⟨h, h'⟩ | ⟨h, h'⟩ | ⟨h, h'⟩ | h
  · rw [show (decide (65 ≤ n) && decide (n ≤ 90) || decide (97 ≤ n) && decide (n ≤ 122)) = false by simp; try omega]
    have d1 : decide ((65 : Int) ≤ n) = false := by simp; omega
    have d2 : decide ((n : Int) ≤ 90) = true := by simp; omega
    have d3 : decide ((97 : Int) ≤ n) = false := by simp; omega
    have d4 : decide ((n : Int) ≤ 122) = true := by simp; omega
    go_enter Try.func47, Try.ntmps47
    go_wp2
    go_ret
    exact ⟨rfl, rfl⟩
  · rw [show (decide (65 ≤ n) && decide (n ≤ 90) || decide (97 ≤ n) && decide (n ≤ 122)) = true by simp; try omega]
    have d1 : decide ((65 : Int) ≤ n) = true := by simp; omega
    have d2 : decide ((n : Int) ≤ 90) = true := by simp; omega
    have d3 : decide ((97 : Int) ≤ n) = false := by simp; omega
    have d4 : decide ((n : Int) ≤ 122) = true := by simp; omega
    go_enter Try.func47, Try.ntmps47
    go_wp2
    go_ret
    exact ⟨rfl, rfl⟩
  · rw [show (decide (65 ≤ n) && decide (n ≤ 90) || decide (97 ≤ n) && decide (n ≤ 122)) = false by simp; try omega]
    have d1 : decide ((65 : Int) ≤ n) = true := by simp; omega
    have d2 : decide ((n : Int) ≤ 90) = false := by simp; omega
    have d3 : decide ((97 : Int) ≤ n) = false := by simp; omega
    have d4 : decide ((n : Int) ≤ 122) = true := by simp; omega
    go_enter Try.func47, Try.ntmps47
    go_wp2
    go_ret
    exact ⟨rfl, rfl⟩
  · rw [show (decide (65 ≤ n) && decide (n ≤ 90) || decide (97 ≤ n) && decide (n ≤ 122)) = true by simp; try omega]
    have d1 : decide ((65 : Int) ≤ n) = true := by simp; omega
    have d2 : decide ((n : Int) ≤ 90) = false := by simp; omega
    have d3 : decide ((97 : Int) ≤ n) = true := by simp; omega
    have d4 : decide ((n : Int) ≤ 122) = true := by simp; omega
    go_enter Try.func47, Try.ntmps47
    go_wp2
    go_ret
    exact ⟨rfl, rfl⟩
  · rw [show (decide (65 ≤ n) && decide (n ≤ 90) || decide (97 ≤ n) && decide (n ≤ 122)) = false by simp; try omega]
    have d1 : decide ((65 : Int) ≤ n) = true := by simp; omega
    have d2 : decide ((n : Int) ≤ 90) = false := by simp; omega
    have d3 : decide ((97 : Int) ≤ n) = true := by simp; omega
    have d4 : decide ((n : Int) ≤ 122) = false := by simp; omega
    go_enter Try.func47, Try.ntmps47
    go_wp2
    go_ret
    exact ⟨rfl, rfl⟩

theorem isDigit_any (c : UInt8) (w : World) : Calls Try.prog 49 #[.int .u8 (c.toNat : Nat)] w fun e w' => e = .returned (.bool (dgt c)) ∧ w = w' := by
  unfold dgt
  generalize c.toNat = n at *
  have hcase : n < 48 ∨ (48 ≤ n ∧ n ≤ 57) ∨ 57 < n := by omega
  rcases hcase with h | ⟨h, h'⟩ | h
  · rw [show (decide (48 ≤ n) && decide (n ≤ 57)) = false by simp; try omega]
    have d1 : decide ((48 : Int) ≤ n) = false := by simp; omega
    have d2 : decide ((n : Int) ≤ 57) = true := by simp; omega
    go_enter Try.func49, Try.ntmps49
    go_wp2
    go_ret
    exact ⟨rfl, rfl⟩
  · rw [show (decide (48 ≤ n) && decide (n ≤ 57)) = true by simp; try omega]
    have d1 : decide ((48 : Int) ≤ n) = true := by simp; omega
    have d2 : decide ((n : Int) ≤ 57) = true := by simp; omega
    go_enter Try.func49, Try.ntmps49
    go_wp2
    go_ret
    exact ⟨rfl, rfl⟩
  · rw [show (decide (48 ≤ n) && decide (n ≤ 57)) = false by simp; try omega]
    have d1 : decide ((48 : Int) ≤ n) = true := by simp; omega
    have d2 : decide ((n : Int) ≤ 57) = false := by simp; omega
    go_enter Try.func49, Try.ntmps49
    go_wp2
    go_ret
    exact ⟨rfl, rfl⟩

theorem isPlain_any (c : UInt8) (w : World) : Calls Try.prog 53 #[.int .u8 (c.toNat : Nat)] w fun e w' => e = .returned (.bool (pla c)) ∧ w = w' := by
  unfold pla
  generalize c.toNat = n at *
  have hcase : n < 32 ∨ (32 ≤ n ∧ n ≤ 126) ∨ 126 < n := by omega
  rcases hcase with h | ⟨h, h'⟩ | h
  · rw [show (decide (32 ≤ n) && decide (n ≤ 126)) = false by simp; try omega]
    have d1 : decide ((32 : Int) ≤ n) = false := by simp; omega
    have d2 : decide ((n : Int) ≤ 126) = true := by simp; omega
    go_enter Try.func53, Try.ntmps53
    go_wp2
    go_ret
    exact ⟨rfl, rfl⟩
  · rw [show (decide (32 ≤ n) && decide (n ≤ 126)) = true by simp; try omega]
    have d1 : decide ((32 : Int) ≤ n) = true := by simp; omega
    have d2 : decide ((n : Int) ≤ 126) = true := by simp; omega
    go_enter Try.func53, Try.ntmps53
    go_wp2
    go_ret
    exact ⟨rfl, rfl⟩
  · rw [show (decide (32 ≤ n) && decide (n ≤ 126)) = false by simp; try omega]
    have d1 : decide ((32 : Int) ≤ n) = true := by simp; omega
    have d2 : decide ((n : Int) ≤ 126) = false := by simp; omega
    go_enter Try.func53, Try.ntmps53
    go_wp2
    go_ret
    exact ⟨rfl, rfl⟩

theorem skip1_any (c : UInt8) (w : World) : Calls Try.prog 46 #[.int .u8 (c.toNat : Nat)] w fun e w' => e = .returned (.bool (ne10 c)) ∧ w = w' := by
  by_cases h1 : c = 10
  · subst h1
    go_enter Try.func46, Try.ntmps46
    go_wp2
    go_ret
    exact ⟨rfl, rfl⟩
  · rw [show ne10 c = true by simpa [ne10] using h1]
    have e1 := u8_ne h1
    have b1 : (((c.toNat : Nat) : Int) == 10) = false := beq_eq_false_iff_ne.2 fun e => e1 (by show c.toNat = 10; omega)
    have b2 : (((c.toNat : Nat) : Int) != 10) = true := by rw [bne, b1]; rfl
    clear h1 e1
    go_enter Try.func46, Try.ntmps46
    go_wp2
    go_ret
    exact ⟨rfl, rfl⟩

theorem pieceAt1_any (c : UInt8) (w : World) : Calls Try.prog 48 #[.int .u8 (c.toNat : Nat)] w fun e w' => e = .returned (.bool (nam c)) ∧ w = w' := by
  have H1 := Lib.hid (isLetter_any c w)
  have H2 := Lib.hid (isDigit_any c w)
  unfold nam
  generalize ltr c = x at *
  generalize dgt c = y at *
  cases x
  · rw [Bool.false_or]
    go_enter Try.func48, Try.ntmps48
    go_wp2_with (first | (go_at_call 47; refine H1.out.mono ?_; rintro e w1 ⟨rfl, rfl⟩) | (go_at_call 49; refine H2.out.mono ?_; rintro e w1 ⟨rfl, rfl⟩))
    go_ret
    exact ⟨rfl, rfl⟩
  · rw [Bool.true_or]
    go_enter Try.func48, Try.ntmps48
    go_wp2_with (first | (go_at_call 47; refine H1.out.mono ?_; rintro e w1 ⟨rfl, rfl⟩) | (go_at_call 49; refine H2.out.mono ?_; rintro e w1 ⟨rfl, rfl⟩))
    go_ret
    exact ⟨rfl, rfl⟩

theorem runEnd38_any (s : ByteArray) (k : Nat) (w : World) (hs : s.size ≤ 9223372036854775807) (hk : k ≤ s.size) :
    Calls Try.prog 45 #[.string s, .int .i64 (k : Nat), .func (.func 46) #[] #[]] w fun e w' => e = .returned (.int .i64 ((k + run ne10 (s.data.toList.drop k) : Nat) : Int)) ∧ w = w' := by
  have hle := run_le ne10 (s.data.toList.drop k)
  rw [List.length_drop, size_toList] at hle
  generalize hT : k + run ne10 (s.data.toList.drop k) = T
  have HT := Lib.hid hT
  have hTs : T ≤ s.size := by omega
  clear hT hle
  go_enter Try.func45, Try.ntmps45
  go_wp2
  go_loop [1] (fun i => ∃ j : Nat, j ≤ s.size ∧ i = .int .i64 (j : Nat) ∧ Hid (j + run ne10 (s.data.toList.drop j) = T)) (fun i => s.size - (intOf i).toNat)
  case atStart => exact ⟨k, hk, rfl, HT⟩
  case round =>
    obtain ⟨j, hj, rfl, HJ⟩ := hrel
    by_cases hlt : j < s.size
    · have HC := Lib.hid (skip1_any s[j] w)
      by_cases hp : ne10 s[j] = true
      · have HN : Hid (j + 1 + run ne10 (s.data.toList.drop (j + 1)) = T) := by
          have h := HJ.out
          rw [drop_cons s j hlt, run_hit _ hp] at h
          exact Lib.hid (by omega)
        rw [hp] at HC
        clear hp
        go_wp2_with (go_at_call 46; refine HC.out.mono ?_; rintro e w1 ⟨rfl, rfl⟩)
        go_round
        case rel => exact ⟨j + 1, hlt, by go_num, HN⟩
        case measure => simp [intOf]; omega
      · have hp : ne10 s[j] = false := by simpa using hp
        have HN : Hid (j = T) := by
          have h := HJ.out
          rw [drop_cons s j hlt, run_miss _ hp] at h
          exact Lib.hid (by omega)
        rw [hp] at HC
        clear hp
        obtain rfl : j = T := HN.out
        go_wp2_with (go_at_call 46; refine HC.out.mono ?_; rintro e w1 ⟨rfl, rfl⟩)
        go_ret
        exact ⟨rfl, rfl⟩
    · have HN : Hid (j = T) := by
        have h := HJ.out
        rw [drop_nil s j (by omega)] at h
        exact Lib.hid (by simpa [run] using h)
      obtain rfl : j = T := HN.out
      go_wp2
      go_ret
      exact ⟨rfl, rfl⟩

theorem runEnd40_any (s : ByteArray) (k : Nat) (w : World) (hs : s.size ≤ 9223372036854775807) (hk : k ≤ s.size) :
    Calls Try.prog 45 #[.string s, .int .i64 (k : Nat), .func (.func 48) #[] #[]] w fun e w' => e = .returned (.int .i64 ((k + run nam (s.data.toList.drop k) : Nat) : Int)) ∧ w = w' := by
  have hle := run_le nam (s.data.toList.drop k)
  rw [List.length_drop, size_toList] at hle
  generalize hT : k + run nam (s.data.toList.drop k) = T
  have HT := Lib.hid hT
  have hTs : T ≤ s.size := by omega
  clear hT hle
  go_enter Try.func45, Try.ntmps45
  go_wp2
  go_loop [1] (fun i => ∃ j : Nat, j ≤ s.size ∧ i = .int .i64 (j : Nat) ∧ Hid (j + run nam (s.data.toList.drop j) = T)) (fun i => s.size - (intOf i).toNat)
  case atStart => exact ⟨k, hk, rfl, HT⟩
  case round =>
    obtain ⟨j, hj, rfl, HJ⟩ := hrel
    by_cases hlt : j < s.size
    · have HC := Lib.hid (pieceAt1_any s[j] w)
      by_cases hp : nam s[j] = true
      · have HN : Hid (j + 1 + run nam (s.data.toList.drop (j + 1)) = T) := by
          have h := HJ.out
          rw [drop_cons s j hlt, run_hit _ hp] at h
          exact Lib.hid (by omega)
        rw [hp] at HC
        clear hp
        go_wp2_with (go_at_call 48; refine HC.out.mono ?_; rintro e w1 ⟨rfl, rfl⟩)
        go_round
        case rel => exact ⟨j + 1, hlt, by go_num, HN⟩
        case measure => simp [intOf]; omega
      · have hp : nam s[j] = false := by simpa using hp
        have HN : Hid (j = T) := by
          have h := HJ.out
          rw [drop_cons s j hlt, run_miss _ hp] at h
          exact Lib.hid (by omega)
        rw [hp] at HC
        clear hp
        obtain rfl : j = T := HN.out
        go_wp2_with (go_at_call 48; refine HC.out.mono ?_; rintro e w1 ⟨rfl, rfl⟩)
        go_ret
        exact ⟨rfl, rfl⟩
    · have HN : Hid (j = T) := by
        have h := HJ.out
        rw [drop_nil s j (by omega)] at h
        exact Lib.hid (by simpa [run] using h)
      obtain rfl : j = T := HN.out
      go_wp2
      go_ret
      exact ⟨rfl, rfl⟩

theorem runEnd41_any (s : ByteArray) (k : Nat) (w : World) (hs : s.size ≤ 9223372036854775807) (hk : k ≤ s.size) :
    Calls Try.prog 45 #[.string s, .int .i64 (k : Nat), .func (.func 49) #[] #[]] w fun e w' => e = .returned (.int .i64 ((k + run dgt (s.data.toList.drop k) : Nat) : Int)) ∧ w = w' := by
  have hle := run_le dgt (s.data.toList.drop k)
  rw [List.length_drop, size_toList] at hle
  generalize hT : k + run dgt (s.data.toList.drop k) = T
  have HT := Lib.hid hT
  have hTs : T ≤ s.size := by omega
  clear hT hle
  go_enter Try.func45, Try.ntmps45
  go_wp2
  go_loop [1] (fun i => ∃ j : Nat, j ≤ s.size ∧ i = .int .i64 (j : Nat) ∧ Hid (j + run dgt (s.data.toList.drop j) = T)) (fun i => s.size - (intOf i).toNat)
  case atStart => exact ⟨k, hk, rfl, HT⟩
  case round =>
    obtain ⟨j, hj, rfl, HJ⟩ := hrel
    by_cases hlt : j < s.size
    · have HC := Lib.hid (isDigit_any s[j] w)
      by_cases hp : dgt s[j] = true
      · have HN : Hid (j + 1 + run dgt (s.data.toList.drop (j + 1)) = T) := by
          have h := HJ.out
          rw [drop_cons s j hlt, run_hit _ hp] at h
          exact Lib.hid (by omega)
        rw [hp] at HC
        clear hp
        go_wp2_with (go_at_call 49; refine HC.out.mono ?_; rintro e w1 ⟨rfl, rfl⟩)
        go_round
        case rel => exact ⟨j + 1, hlt, by go_num, HN⟩
        case measure => simp [intOf]; omega
      · have hp : dgt s[j] = false := by simpa using hp
        have HN : Hid (j = T) := by
          have h := HJ.out
          rw [drop_cons s j hlt, run_miss _ hp] at h
          exact Lib.hid (by omega)
        rw [hp] at HC
        clear hp
        obtain rfl : j = T := HN.out
        go_wp2_with (go_at_call 49; refine HC.out.mono ?_; rintro e w1 ⟨rfl, rfl⟩)
        go_ret
        exact ⟨rfl, rfl⟩
    · have HN : Hid (j = T) := by
        have h := HJ.out
        rw [drop_nil s j (by omega)] at h
        exact Lib.hid (by simpa [run] using h)
      obtain rfl : j = T := HN.out
      go_wp2
      go_ret
      exact ⟨rfl, rfl⟩

theorem runEnd45_any (s : ByteArray) (k : Nat) (w : World) (hs : s.size ≤ 9223372036854775807) (hk : k ≤ s.size) :
    Calls Try.prog 45 #[.string s, .int .i64 (k : Nat), .func (.func 53) #[] #[]] w fun e w' => e = .returned (.int .i64 ((k + run pla (s.data.toList.drop k) : Nat) : Int)) ∧ w = w' := by
  have hle := run_le pla (s.data.toList.drop k)
  rw [List.length_drop, size_toList] at hle
  generalize hT : k + run pla (s.data.toList.drop k) = T
  have HT := Lib.hid hT
  have hTs : T ≤ s.size := by omega
  clear hT hle
  go_enter Try.func45, Try.ntmps45
  go_wp2
  go_loop [1] (fun i => ∃ j : Nat, j ≤ s.size ∧ i = .int .i64 (j : Nat) ∧ Hid (j + run pla (s.data.toList.drop j) = T)) (fun i => s.size - (intOf i).toNat)
  case atStart => exact ⟨k, hk, rfl, HT⟩
  case round =>
    obtain ⟨j, hj, rfl, HJ⟩ := hrel
    by_cases hlt : j < s.size
    · have HC := Lib.hid (isPlain_any s[j] w)
      by_cases hp : pla s[j] = true
      · have HN : Hid (j + 1 + run pla (s.data.toList.drop (j + 1)) = T) := by
          have h := HJ.out
          rw [drop_cons s j hlt, run_hit _ hp] at h
          exact Lib.hid (by omega)
        rw [hp] at HC
        clear hp
        go_wp2_with (go_at_call 53; refine HC.out.mono ?_; rintro e w1 ⟨rfl, rfl⟩)
        go_round
        case rel => exact ⟨j + 1, hlt, by go_num, HN⟩
        case measure => simp [intOf]; omega
      · have hp : pla s[j] = false := by simpa using hp
        have HN : Hid (j = T) := by
          have h := HJ.out
          rw [drop_cons s j hlt, run_miss _ hp] at h
          exact Lib.hid (by omega)
        rw [hp] at HC
        clear hp
        obtain rfl : j = T := HN.out
        go_wp2_with (go_at_call 53; refine HC.out.mono ?_; rintro e w1 ⟨rfl, rfl⟩)
        go_ret
        exact ⟨rfl, rfl⟩
    · have HN : Hid (j = T) := by
        have h := HJ.out
        rw [drop_nil s j (by omega)] at h
        exact Lib.hid (by simpa [run] using h)
      obtain rfl : j = T := HN.out
      go_wp2
      go_ret
      exact ⟨rfl, rfl⟩

end Go.Proofs.Ytoppknnjnfgbiaa
