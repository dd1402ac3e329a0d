/-
  The walks of 'isNumber', 'isQuoted' and 'fault'. Conditions: the piece has a byte at least, where it is not the end; at most 2^48 bytes.
-/
import Derived.Test.YtoppknnjnfgbiaaSkip
namespace Go.Proofs.Ytoppknnjnfgbiaa
open Go.RowKit
open Go.Lib hiding intOf

theorem head_get (d : ByteArray) (h : 0 < d.size) : d.data.toList.head? = some d[0] := by
  have := drop_cons d 0 h
  rw [List.drop_zero] at this
  rw [this]; rfl

theorem isNumber_any (d : ByteArray) (w : World) (hd : 0 < d.size) (hs : d.size ≤ 9223372036854775807) :
    Calls Try.prog 28 #[.string d] w fun e w' => e = .returned (.bool (num d.data.toList)) ∧ w = w' := by
  have hn : num d.data.toList = (decide (d.size ≤ 15) && (d[0] != 48 || decide (d.size = 1))) := by
    unfold num; rw [head_get d hd, size_toList]; rfl
  rw [hn]
  clear hn
  by_cases h1 : d.size ≤ 15
  · by_cases h2 : d[0] = 48
    · have b2 : (((d[0].toNat : Nat) : Int) != 48) = false := by rw [h2]; rfl
      by_cases h3 : d.size = 1
      · have b3 : (((d.size : Nat) : Int) == 1) = true := by rw [beq_iff_eq]; omega
        rw [show (decide (d.size ≤ 15) && (d[0] != 48 || decide (d.size = 1))) = true by simp [h3]]
        clear h2 h3
        go_enter Try.func28, Try.ntmps28
        go_wp2
        go_ret
        exact ⟨rfl, rfl⟩
      · have b3 : (((d.size : Nat) : Int) == 1) = false := by rw [beq_eq_false_iff_ne]; omega
        rw [show (decide (d.size ≤ 15) && (d[0] != 48 || decide (d.size = 1))) = false by simp [h2, h3]]
        clear h2 h3
        go_enter Try.func28, Try.ntmps28
        go_wp2
        go_ret
        exact ⟨rfl, rfl⟩
    · have h4 := u8_ne h2
      have b1 : (((d[0].toNat : Nat) : Int) == 48) = false := beq_eq_false_iff_ne.2 fun e => h4 (by show d[0].toNat = 48; omega)
      have b2 : (((d[0].toNat : Nat) : Int) != 48) = true := by rw [bne, b1]; rfl
      rw [show (decide (d.size ≤ 15) && (d[0] != 48 || decide (d.size = 1))) = true by simp [h1, h2]]
      clear h2 h4 b1
      go_enter Try.func28, Try.ntmps28
      go_wp2
      go_ret
      exact ⟨rfl, rfl⟩
  · rw [show (decide (d.size ≤ 15) && (d[0] != 48 || decide (d.size = 1))) = false by simp [h1]]
    have b1 : decide (((d.size : Nat) : Int) ≤ 15) = false := by simp; omega
    go_enter Try.func28, Try.ntmps28
    go_wp2
    go_ret
    exact ⟨rfl, rfl⟩

theorem suffix1 (l : List UInt8) : Lib.hasSuffix l [34] = decide (l.getLast? = some 34) := by
  unfold Lib.hasSuffix
  rw [Bool.eq_iff_iff, decide_eq_true_eq, List.isSuffixOf_iff_suffix]
  constructor
  · rintro ⟨a, rfl⟩; simp
  · intro h
    obtain ⟨a, ha⟩ := List.getLast?_eq_some_iff.1 h
    exact ⟨a, ha.symm⟩

theorem trim1 (l : List UInt8) (h : l.getLast? = some 34) : Lib.trimSuffix l [34] = l.dropLast := by
  unfold Lib.trimSuffix
  rw [suffix1, h, if_pos (by simp), List.dropLast_eq_take]; rfl

theorem cut_any (q : ByteArray) (w : World) (hq : 0 < q.size) (hs : q.size ≤ 9223372036854775807) :
    Calls Try.prog 52 #[.string (q.extract 1 q.size), .string ⟨#[34]⟩] w fun e w' =>
      e = .returned (.tuple #[.string ⟨(Lib.trimSuffix (q.data.toList.drop 1) [34]).toArray⟩, .bool (decide ((q.data.toList.drop 1).getLast? = some 34))]) ∧ w = w' := by
  have h := Try.strings_CutSuffix (q.extract 1 q.size) ⟨#[34]⟩ w (by rw [ByteArray.size_extract]; omega)
  rw [ext_end q 1 (by omega)] at h
  refine h.mono fun e w' ⟨he, hw⟩ => ⟨?_, hw.symm⟩
  rw [he, ← suffix1]

theorem isQuoted_any (q : ByteArray) (w : World) (hq : 0 < q.size) (hs : q.size ≤ 9223372036854775807) :
    Calls Try.prog 29 #[.string q] w fun e w' => e = .returned (.bool (quo q.data.toList)) ∧ w = w' := by
  have HC := Lib.hid (cut_any q w hq hs)
  have hd := drop_cons q 0 hq
  rw [List.drop_zero] at hd
  have hn : quo q.data.toList = (decide ((q.data.toList.drop 1).getLast? = some 34) && decide ((q.data.toList.drop 1).dropLast.length ≤ 200) && decide (run pla (q.data.toList.drop 1).dropLast = (q.data.toList.drop 1).dropLast.length)) := by
    rw [hd]; rfl
  rw [hn]
  clear hn hd
  have hlen : (q.data.toList.drop 1).length ≤ q.size := by rw [List.length_drop, size_toList]; omega
  generalize q.data.toList.drop 1 = l at *
  by_cases h1 : l.getLast? = some 34
  · rw [trim1 l h1] at HC
    simp only [h1, decide_true, Bool.true_and] at HC ⊢
    have hl2 : l.dropLast.length ≤ q.size := by rw [List.length_dropLast]; omega
    obtain ⟨t, ht⟩ : ∃ t : ByteArray, (⟨l.dropLast.toArray⟩ : ByteArray) = t := ⟨_, rfl⟩
    have hts : t.size = l.dropLast.length := by rw [← ht]; simp [ByteArray.size]
    have htl : t.data.toList = l.dropLast := by rw [← ht]
    rw [ht] at HC
    have hr := run_le pla l.dropLast
    have hts2 : t.size ≤ 9223372036854775807 := by omega
    rw [← htl] at hr hts ⊢
    clear ht htl h1 hlen
    have HR := Lib.hid (runEnd45_any t 0 w (by omega) (Nat.zero_le _))
    rw [List.drop_zero, Nat.zero_add] at HR
    rw [← hts] at hr ⊢
    clear hts hl2
    generalize run pla t.data.toList = m at *
    by_cases h2 : t.size ≤ 200
    · by_cases h3 : m = t.size
      · rw [show (decide (t.size ≤ 200) && decide (m = t.size)) = true by simp [h2, h3]]
        have b3 : (((m : Nat) : Int) == ((t.size : Nat) : Int)) = true := by rw [beq_iff_eq]; omega
        clear h3
        go_enter Try.func29, Try.ntmps29
        go_wp2_with (first | (go_at_call 52; refine HC.out.mono ?_; rintro e w1 ⟨rfl, rfl⟩) | (go_at_call 45; refine HR.out.mono ?_; rintro e w1 ⟨rfl, rfl⟩))
        go_ret
        exact ⟨rfl, rfl⟩
      · rw [show (decide (t.size ≤ 200) && decide (m = t.size)) = false by simp [h3]]
        have b3 : (((m : Nat) : Int) == ((t.size : Nat) : Int)) = false := by rw [beq_eq_false_iff_ne]; omega
        clear h3
        go_enter Try.func29, Try.ntmps29
        go_wp2_with (first | (go_at_call 52; refine HC.out.mono ?_; rintro e w1 ⟨rfl, rfl⟩) | (go_at_call 45; refine HR.out.mono ?_; rintro e w1 ⟨rfl, rfl⟩))
        go_ret
        exact ⟨rfl, rfl⟩
    · rw [show (decide (t.size ≤ 200) && decide (m = t.size)) = false by simp [h2]]
      have b2 : decide (((t.size : Nat) : Int) ≤ 200) = false := by simp; omega
      go_enter Try.func29, Try.ntmps29
      go_wp2_with (first | (go_at_call 52; refine HC.out.mono ?_; rintro e w1 ⟨rfl, rfl⟩) | (go_at_call 45; refine HR.out.mono ?_; rintro e w1 ⟨rfl, rfl⟩))
      go_ret
      exact ⟨rfl, rfl⟩
  · simp only [h1, decide_false, Bool.false_and] at HC ⊢
    generalize (⟨(Lib.trimSuffix l [34]).toArray⟩ : ByteArray) = t at *
    clear h1
    go_enter Try.func29, Try.ntmps29
    go_wp2_with (go_at_call 52; refine HC.out.mono ?_; rintro e w1 ⟨rfl, rfl⟩)
    go_ret
    exact ⟨rfl, rfl⟩

/-- A token as a value. -/
def aggV (k p e : Int) (t : ByteArray) : Value := .agg #[.int .i64 k, .int .i64 p, .int .i64 e, .string t]

theorem flt_deep {k : Int} {l : List UInt8} {n : Nat} (hk : k ≠ 0) (h : 4000 ≤ n) : flt k l n = 6 := by unfold flt; rw [if_neg hk, if_pos h]
theorem flt_in {k : Int} {l : List UInt8} {n : Nat} (hk : k ≠ 0) (h : ¬ 4000 ≤ n) :
    flt k l n = if k = -1 then 1 else if k = 2 ∧ num l = false then 2 else if k = 3 ∧ quo l = false then 3 else if k = 1 ∧ 40 < l.length then 4 else 0 := by unfold flt; rw [if_neg hk, if_neg h]

set_option maxHeartbeats 1000000 in
theorem fault_any (k p e : Int) (t : ByteArray) (n : Nat) (w : World) (hk1 : -1 ≤ k) (hk2 : k ≤ 5) (ht : k ≠ 0 → 0 < t.size) (hs : t.size ≤ 9223372036854775807) :
    Calls Try.prog 16 #[.agg #[.int .i64 k, .int .i64 p, .int .i64 e, .string t], .int .i64 (n : Nat)] w fun e w' => e = .returned (.int .i64 (flt k t.data.toList n)) ∧ Below w.heap.size w w' := by
  by_cases h0 : k = 0
  · subst h0
    rw [flt_zero]
    clear ht
    go_enter Try.func16, Try.ntmps16
    go_wp2
    go_ret
    exact ⟨rfl, (Below.refl _ _).alloc (Nat.le_refl _) _⟩
  replace ht := ht h0
  by_cases h4 : 4000 ≤ n
  · rw [flt_deep h0 h4]
    have b0 : (k == 0) = false := beq_eq_false_iff_ne.2 h0
    have b1 : decide ((4000 : Int) ≤ (n : Nat)) = true := by simp; omega
    clear h0
    go_enter Try.func16, Try.ntmps16
    go_wp2
    go_ret
    exact ⟨rfl, (Below.refl _ _).alloc (Nat.le_refl _) _⟩
  rw [flt_in h0 h4]
  have b1 : decide ((4000 : Int) ≤ (n : Nat)) = false := by simp; omega
  have hcase : k = -1 ∨ k = 1 ∨ k = 2 ∨ k = 3 ∨ k = 4 ∨ k = 5 := by omega
  rcases hcase with rfl | rfl | rfl | rfl | rfl | rfl
  · rw [if_pos rfl]
    clear h0
    go_enter Try.func16, Try.ntmps16
    go_wp2
    go_ret
    exact ⟨rfl, (Below.refl _ _).alloc (Nat.le_refl _) _⟩
  · rw [size_toList]
    clear h0
    by_cases h5 : 40 < t.size
    · rw [if_neg (by decide), if_neg (by simp), if_neg (by simp), if_pos ⟨rfl, h5⟩]
      have b5 : decide ((40 : Int) < (t.size : Nat)) = true := by simp; omega
      go_enter Try.func16, Try.ntmps16
      go_wp2
      go_ret
      exact ⟨rfl, (Below.refl _ _).alloc (Nat.le_refl _) _⟩
    · rw [if_neg (by decide), if_neg (by simp), if_neg (by simp), if_neg (fun h => h5 h.2)]
      have b5 : decide ((40 : Int) < (t.size : Nat)) = false := by simp; omega
      go_enter Try.func16, Try.ntmps16
      go_wp2
      go_ret
      exact ⟨rfl, (Below.refl _ _).alloc (Nat.le_refl _) _⟩
  · have HN := Lib.hid (fun w => isNumber_any t w ht hs)
    clear h0
    cases hnum : num t.data.toList
    · rw [if_neg (by decide), if_pos ⟨rfl, rfl⟩]
      rw [hnum] at HN
      clear hnum
      go_enter Try.func16, Try.ntmps16
      go_wp2_with (go_at_call 28; refine (HN.out _).mono ?_; rintro e w1 ⟨rfl, rfl⟩)
      go_ret
      exact ⟨rfl, (Below.refl _ _).alloc (Nat.le_refl _) _⟩
    · rw [if_neg (by decide), if_neg (by simp), if_neg (by simp), if_neg (by simp)]
      rw [hnum] at HN
      clear hnum
      go_enter Try.func16, Try.ntmps16
      go_wp2_with (go_at_call 28; refine (HN.out _).mono ?_; rintro e w1 ⟨rfl, rfl⟩)
      go_ret
      exact ⟨rfl, (Below.refl _ _).alloc (Nat.le_refl _) _⟩
  · have HN := Lib.hid (fun w => isQuoted_any t w ht hs)
    clear h0
    cases hnum : quo t.data.toList
    · rw [if_neg (by decide), if_neg (by simp), if_pos ⟨rfl, rfl⟩]
      rw [hnum] at HN
      clear hnum
      go_enter Try.func16, Try.ntmps16
      go_wp2_with (go_at_call 29; refine (HN.out _).mono ?_; rintro e w1 ⟨rfl, rfl⟩)
      go_ret
      exact ⟨rfl, (Below.refl _ _).alloc (Nat.le_refl _) _⟩
    · rw [if_neg (by decide), if_neg (by simp), if_neg (by simp), if_neg (by simp)]
      rw [hnum] at HN
      clear hnum
      go_enter Try.func16, Try.ntmps16
      go_wp2_with (go_at_call 29; refine (HN.out _).mono ?_; rintro e w1 ⟨rfl, rfl⟩)
      go_ret
      exact ⟨rfl, (Below.refl _ _).alloc (Nat.le_refl _) _⟩
  · rw [if_neg (by decide), if_neg (by simp), if_neg (by simp), if_neg (by simp)]
    clear h0
    go_enter Try.func16, Try.ntmps16
    go_wp2
    go_ret
    exact ⟨rfl, (Below.refl _ _).alloc (Nat.le_refl _) _⟩
  · rw [if_neg (by decide), if_neg (by simp), if_neg (by simp), if_neg (by simp)]
    clear h0
    go_enter Try.func16, Try.ntmps16
    go_wp2
    go_ret
    exact ⟨rfl, (Below.refl _ _).alloc (Nat.le_refl _) _⟩

end Go.Proofs.Ytoppknnjnfgbiaa
