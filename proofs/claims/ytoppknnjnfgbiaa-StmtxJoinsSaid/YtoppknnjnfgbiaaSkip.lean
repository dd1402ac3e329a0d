/-
  The walks of 'skip' and 'quoteEnd'. Condition: the text has at most 2^48 bytes.
-/
import Derived.Test.YtoppknnjnfgbiaaBytes
namespace Go.Proofs.Ytoppknnjnfgbiaa
open Go.RowKit
open Go.Lib hiding intOf

theorem ret_int {k : IntKind} {a b : Int} (h : a = b) : Ending.returned (.int k a) = .returned (.int k b) := by rw [h]

theorem ext_end (s : ByteArray) (j : Nat) (_ : j ≤ s.size) : (s.extract j s.size).data.toList = s.data.toList.drop j := by
  rw [Lib.extract_data, List.take_of_length_le]
  rw [List.length_drop, size_toList]; exact Nat.le_refl _

theorem prefix2 (l : List UInt8) (c d : UInt8) : Lib.hasPrefix l [c, d] = decide (l.take 2 = [c, d]) := by
  unfold Lib.hasPrefix
  rw [Bool.eq_iff_iff, decide_eq_true_eq]
  match l with
  | [] => simp
  | [x] => simp [List.isPrefixOf]
  | x :: y :: r =>
    simp only [List.isPrefixOf, List.take_succ_cons, List.take_zero, Bool.and_true, Bool.and_eq_true, beq_iff_eq]
    constructor
    · rintro ⟨rfl, rfl⟩; rfl
    · intro h; injection h with h1 h2; injection h2 with h2 _; exact ⟨h1.symm, h2.symm⟩

theorem hasPrefix2 (s : ByteArray) (j : Nat) (c d : UInt8) (w : World) (hj : j ≤ s.size) :
    Calls Try.prog 44 #[.string (s.extract j s.size), .string ⟨#[c, d]⟩] w fun e w' => e = .returned (.bool (decide ((s.data.toList.drop j).take 2 = [c, d]))) ∧ w = w' :=
  (Try.strings_HasPrefix (s.extract j s.size) ⟨#[c, d]⟩ w).mono fun e w' ⟨he, hw⟩ => ⟨by rw [he, ext_end s j hj]; exact congrArg (fun b => Ending.returned (.bool b)) (prefix2 _ c d), hw.symm⟩

theorem take2_iff (c : UInt8) (r : List UInt8) (x y : UInt8) : ((c :: r).take 2 = [x, y]) ↔ (c = x ∧ r.head? = some y) := by
  cases r <;> simp

theorem index_run (l : List UInt8) : Lib.indexByte l 34 = if run ne34 l < l.length then (run ne34 l : Int) else -1 := by
  induction l with
  | nil => rfl
  | cons c r ih =>
    have hr := run_le ne34 r
    unfold Lib.indexByte
    by_cases h : c = 34
    · subst h
      rw [run_miss r (by decide)]; simp
    · rw [run_hit r (by simpa [ne34] using h), ih]
      have hb : (c == 34) = false := by simpa using h
      rw [hb]
      simp only [Bool.false_eq_true, if_false, List.length_cons]
      by_cases h2 : run ne34 r < r.length
      · have h3 : ((run ne34 r : Int) == -1) = false := by rw [beq_eq_false_iff_ne]; omega
        simp only [h2, if_true, h3, Bool.false_eq_true, if_false]
        rw [if_pos (by omega)]; rfl
      · simp only [h2, if_false, beq_self_eq_true, if_true]
        rw [if_neg (by omega)]

set_option maxHeartbeats 1000000 in
theorem skip_any (s : ByteArray) (k : Nat) (w : World) (hs : s.size ≤ 9223372036854775807) (hk : k ≤ s.size) :
    Calls Try.prog 26 #[.string s, .int .i64 (k : Nat)] w fun e w' => e = .returned (.int .i64 ((k + skp false (s.data.toList.drop k) : Nat) : Int)) ∧ w = w' := by
  have hle := skp_le false (s.data.toList.drop k)
  rw [List.length_drop, size_toList] at hle
  generalize hT : k + skp false (s.data.toList.drop k) = T
  have HT := Lib.hid hT
  have hTs : T ≤ s.size := by omega
  clear hT hle
  go_enter Try.func26, Try.ntmps26
  go_wp2
  go_loop [1] (fun i => ∃ j : Nat, j ≤ s.size ∧ i = .int .i64 (j : Nat) ∧ Hid (j + skp false (s.data.toList.drop j) = T)) (fun i => s.size - (RowKit.intOf i).toNat)
  case atStart => exact ⟨k, hk, rfl, HT⟩
  case round =>
    obtain ⟨j, hj, rfl, HJ⟩ := hrel
    by_cases hlt : j < s.size
    · have HL := Lib.hid (isLayout_any s[j] w)
      have HP := Lib.hid (hasPrefix2 s j 47 47 w hj)
      have HR := Lib.hid (runEnd38_any s j w hs hj)
      have hd := drop_cons s j hlt
      by_cases hl : lay s[j] = true
      · have HN : Hid (j + 1 + skp false (s.data.toList.drop (j + 1)) = T) := by
          have h := HJ.out
          rw [hd, skp_layout _ _ hl] at h
          exact Lib.hid (by omega)
        rw [hl] at HL
        clear hl hd
        go_wp2_with (go_at_call 43; refine HL.out.mono ?_; rintro e w1 ⟨rfl, rfl⟩)
        go_round
        case rel => exact ⟨j + 1, hlt, by go_num, HN⟩
        case measure => simp [RowKit.intOf]; omega
      · have hl : lay s[j] = false := by simpa using hl
        by_cases hc : s[j] = 47 ∧ (s.data.toList.drop (j + 1)).head? = some 47
        · have hm := run_le ne10 (s.data.toList.drop j)
          rw [List.length_drop, size_toList] at hm
          have hm1 : 1 ≤ run ne10 (s.data.toList.drop j) := by
            rw [hd, run_hit _ (by rw [hc.1]; decide)]; omega
          have HN : Hid (j + run ne10 (s.data.toList.drop j) + skp false (s.data.toList.drop (j + run ne10 (s.data.toList.drop j))) = T) := by
            have h := HJ.out
            obtain ⟨r, hr⟩ : ∃ r, s.data.toList.drop j = 47 :: 47 :: r := by
              rw [hd, hc.1]
              cases h3 : s.data.toList.drop (j + 1) with
              | nil => rw [h3] at hc; simp at hc
              | cons x r => rw [h3] at hc; obtain ⟨_, h4⟩ := hc; simp at h4; subst h4; exact ⟨r, rfl⟩
            have e : skp false (s.data.toList.drop j) = skp true (s.data.toList.drop j) := by rw [hr]; exact skp_comment r
            rw [e, skp_true, List.drop_drop] at h
            exact Lib.hid (by omega)
          rw [hl] at HL
          rw [show decide ((s.data.toList.drop j).take 2 = [47, 47]) = true by rw [hd]; exact decide_eq_true ((take2_iff _ _ _ _).2 hc)] at HP
          clear hl hd hc
          generalize run ne10 (s.data.toList.drop j) = m at *
          go_wp2_with (first | (go_at_call 43; refine HL.out.mono ?_; rintro e w1 ⟨rfl, rfl⟩) | (go_at_call 44; refine HP.out.mono ?_; rintro e w1 ⟨rfl, rfl⟩) | (go_at_call 45; refine HR.out.mono ?_; rintro e w1 ⟨rfl, rfl⟩))
          go_round
          case rel => exact ⟨j + m, by omega, by go_num, HN⟩
          case measure => simp [RowKit.intOf]; omega
        · have HN : Hid (j = T) := by
            have h := HJ.out
            rw [hd, skp_stop _ _ hl hc] at h
            exact Lib.hid (by omega)
          rw [hl] at HL
          rw [show decide ((s.data.toList.drop j).take 2 = [47, 47]) = false by rw [hd]; exact decide_eq_false (fun h => hc ((take2_iff _ _ _ _).1 h))] at HP
          clear hl hd hc
          obtain rfl : j = T := HN.out
          go_wp2_with (first | (go_at_call 43; refine HL.out.mono ?_; rintro e w1 ⟨rfl, rfl⟩) | (go_at_call 44; refine HP.out.mono ?_; rintro e w1 ⟨rfl, rfl⟩))
          go_ret
          exact ⟨rfl, rfl⟩
    · have HN : Hid (j = T) := by
        have h := HJ.out
        rw [drop_nil s j (by omega)] at h
        exact Lib.hid (by simpa [skp] using h)
      obtain rfl : j = T := HN.out
      go_wp2
      go_ret
      exact ⟨rfl, rfl⟩

theorem indexByte_at (s : ByteArray) (j : Nat) (w : World) (hj : j ≤ s.size) :
    Calls Try.prog 51 #[.string (s.extract j s.size), .int .u8 34] w fun e w' => e = .returned (.int .i64 (if run ne34 (s.data.toList.drop j) < (s.data.toList.drop j).length then (run ne34 (s.data.toList.drop j) : Int) else -1)) ∧ w = w' :=
  (Try.strings_IndexByte (s.extract j s.size) 34 w).mono fun e w' ⟨he, hw⟩ => ⟨by rw [he, ext_end s j hj]; exact congrArg (fun b => Ending.returned (.int .i64 b)) (index_run _), hw.symm⟩

theorem quoteEnd_any (s : ByteArray) (k : Nat) (w : World) (hs : s.size ≤ 9223372036854775807) (hk : k < s.size) :
    Calls Try.prog 50 #[.string s, .int .i64 (k : Nat)] w fun e w' =>
      e = .returned (.int .i64 ((k + (if run ne34 (s.data.toList.drop (k + 1)) < (s.data.toList.drop (k + 1)).length then run ne34 (s.data.toList.drop (k + 1)) + 2 else (s.data.toList.drop (k + 1)).length + 1) : Nat) : Int)) ∧ w = w' := by
  have HI := Lib.hid (indexByte_at s (k + 1) w (by omega))
  have hle := run_le ne34 (s.data.toList.drop (k + 1))
  have hlen : (s.data.toList.drop (k + 1)).length = s.size - (k + 1) := by rw [List.length_drop, size_toList]
  rw [hlen] at HI hle ⊢
  generalize run ne34 (s.data.toList.drop (k + 1)) = m at *
  clear hlen
  by_cases h : m < s.size - (k + 1)
  · rw [if_pos h] at HI ⊢
    go_enter Try.func50, Try.ntmps50
    go_wp2_with (go_at_call 51; refine HI.out.mono ?_; rintro e w1 ⟨rfl, rfl⟩)
    go_ret
    exact ⟨ret_int (by omega), rfl⟩
  · rw [if_neg h] at HI ⊢
    go_enter Try.func50, Try.ntmps50
    go_wp2_with (go_at_call 51; refine HI.out.mono ?_; rintro e w1 ⟨rfl, rfl⟩)
    go_ret
    exact ⟨ret_int (by omega), rfl⟩

end Go.Proofs.Ytoppknnjnfgbiaa
