/-
  ExprxDeep answers true, whatever the numbers. No condition.
-/
import Derived.Test.YtjkdingeicdjoaaExa
import Derived.ProofKit
import Derived.OpenShut
import Derived.SizedLaws
import Derived.Carry
namespace Go.Proofs.Ytjkdingeicdjoaa.exprxDeep
open Go.ChangeShapes Go.WideShapes Go.ChangeAt Go.RowKit
open Go.Lib hiding intOf

theorem own : ownKnob Try.prog.godebug = none := by kernel_rfl

theorem cat3 (a b c : List UInt8) : (⟨a.toArray⟩ : ByteArray) ++ ⟨b.toArray⟩ ++ ⟨c.toArray⟩ = ⟨(a ++ b ++ c).toArray⟩ := by
  apply ByteArray.ext
  simp [ByteArray.data_append]
theorem cat2 (a b : List UInt8) : (⟨a.toArray⟩ : ByteArray) ++ ⟨b.toArray⟩ = ⟨(a ++ b).toArray⟩ := by
  apply ByteArray.ext
  simp [ByteArray.data_append]
theorem txB_succ (k : Nat) : txB (k + 1) = [40] ++ txB k ++ [41] := by
  unfold txB
  rw [show List.replicate (k + 1) (41 : UInt8) = List.replicate k 41 ++ [41] from List.replicate_succ', List.replicate_succ]
  simp
theorem txN_succ (k : Nat) : txN (k + 1) = [33] ++ txN k ++ [] := by unfold txN; rw [List.replicate_succ]; simp
theorem txI_succ (k : Nat) : txI (k + 1) = [97] ++ [91] ++ txI k ++ [93] := rfl
theorem txB_len (k : Nat) : (txB k).length = 2 * k + 1 := by unfold txB; simp; omega
theorem txN_len (k : Nat) : (txN k).length = k + 1 := by unfold txN; simp
theorem txI_len : ∀ k : Nat, (txI k).length = 3 * k + 1
  | 0 => rfl
  | k + 1 => by rw [txI_succ]; simp [txI_len k]; omega

/-- A text so deep. -/
structure DeepOK (s : List UInt8) (m : Nat) : Prop where
  good : bad (toks s) 0 = none
  deep : (m ≤ 30 ∧ ∃ x j, exAll s = .ok x j ∧ j + 1 = ((toks s).length : Nat)) ∨ (30 < m ∧ ∃ p, exAll s = .err p 6)
  len : s.length ≤ 300
theorem deepOK {s : List UInt8} {m : Nat} (hb : bad (toks s) 0 = none) (hd : deepB ((toks s).map zTok) (fuel ((toks s).map zTok)) m = true) (hl : s.length ≤ 300) : DeepOK s m := by
  refine ⟨hb, ?_, hl⟩
  unfold deepB at hd
  unfold exAll
  split at hd
  · next x j h =>
    simp only [Bool.and_eq_true, decide_eq_true_eq] at hd
    exact .inl ⟨hd.1, x, j, h, by rw [hd.2, List.length_map]⟩
  · next p c h =>
    simp only [Bool.and_eq_true, decide_eq_true_eq] at hd
    obtain ⟨h1, rfl⟩ := hd
    exact .inr ⟨h1, p, h⟩
  · cases hd
theorem okB {m : Nat} (hm : m < 70) : DeepOK (txB m) m := deepOK (lexB_all m hm) (deepB_all m hm) (by rw [txB_len]; omega)
theorem okN {m : Nat} (hm : m < 70) : DeepOK (txN m) m := deepOK (lexN_all m hm) (deepN_all m hm) (by rw [txN_len]; omega)
theorem okI {m : Nat} (hm : m < 70) : DeepOK (txI m) m := deepOK (lexI_all m hm) (deepI_all m hm) (by rw [txI_len]; omega)

theorem allD {s : List UInt8} {m : Nat} (h : DeepOK s m) (w : World) : Calls Try.prog 8 #[.string ⟨s.toArray⟩] w fun e w' => ∃ o cap, e = .returned (.tuple #[.slice o (toks s).length cap, .agg #[.int .i64 0, .int .i64 0]]) ∧ AtToks w' o (toks s) ∧ Below w.heap.size w w' := by
  have hl := h.len
  exact (all_at ⟨s.toArray⟩ (toks s) 0 0 (by rw [List.toList_toArray]; exact lexed_good' h.good) w (by show s.toArray.size ≤ _; simp; omega)).mono fun e w' ⟨o, cap, he, ht, hb, _⟩ => ⟨o, cap, he, ht, hb⟩

set_option maxRecDepth 20000 in
set_option maxHeartbeats 8000000 in
theorem walk_negN (n kind : Int) (w : World) (hr1 : -9223372036854775808 ≤ n) (hr2 : n ≤ 9223372036854775807) (hn : n < 0) (h0 : kind.tmod 3 = 0) : Calls Try.prog 6 #[.int .i64 n, .int .i64 kind] w fun e w' => e = .returned (.bool true) ∧ Below w.heap.size w w' := by
  have k0 : (kind.tmod 3 == 0) = true := by rw [h0]; rfl
  have k1 : (kind.tmod 3 == 1) = false := by rw [h0]; rfl
  clear h0
  go_enter Try.func6, Try.ntmps6
  go_wp2_with fail
  refine (awake_any _).mono ?_
  rintro e w1 ⟨rfl, hB⟩
  have B1 := Lib.hid hB
  clear hB
  have e : -((n + 1).tmod 70) = (-(n + 1)) % 70 := by rw [← Int.tmod_eq_emod_of_nonneg (by omega : 0 ≤ -(n + 1)), Int.neg_tmod]
  obtain ⟨m, hm⟩ : ∃ m : Nat, (-(n + 1)) % 70 = (m : Int) := ⟨((-(n + 1)) % 70).toNat, by omega⟩
  have hm70 : m < 70 := by omega
  rw [hm] at e
  have HM := Lib.hid e
  clear hm e
  go_wp2
  rw [HM.out]
  clear hr1 hr2 hn
  go_loopw [8, 9] (fun s i wr => ∃ k : Nat, k ≤ m ∧ s = .string ⟨(txN k).toArray⟩ ∧ i = .int .i64 (k : Nat) ∧ wr = w1) (fun _ i _ => m - (RowKit.intOf i).toNat)
  case atStart => exact ⟨0, Nat.zero_le _, rfl, rfl, rfl⟩
  case round =>
    obtain ⟨k, hk, rfl, rfl, rfl⟩ := hrel
    have OK := Lib.hid (okN (m := k) (by omega))
    have hbl : (txN k).length ≤ 300 := OK.out.len
    by_cases hlt : k < m
    · have hlt2 : ((k : Nat) : Int) < m := by omega
      go_wp2
      go_roundw
      case rel => exact ⟨k + 1, hlt, by rw [txN_succ, cat3], by go_num, trivial⟩
      case measure => simp [RowKit.intOf]; omega
    · have hlt2 : ¬ ((k : Nat) : Int) < m := by omega
      obtain rfl : k = m := by omega
      have HA := Lib.hid (fun W : World => allD OK.out W)
      have HP := Lib.hid (fun (o : Option Addr) (cap : Nat) (W : World) (h : AtToks W o (toks (txN k))) => parse_at (txN k) OK.out.good (by have := OK.out.len; omega) o cap W h)
      have HD := Lib.hid OK.out.deep
      have HFW := Lib.hid (toks_few OK.out.good)
      generalize (txN k) = s at *
      go_wp2_with fail
      refine (HA.out _).mono ?_
      rintro e w2 ⟨o, cap, rfl, hz, hB⟩
      have Z2 := Lib.hid (hz.below ((Below.refl _ _).alloc (Nat.le_refl _) (.cells #[.int .i64 0, .int .i64 0] 25)))
      have B2 := Lib.hid (B1.out.trans (hB.mono B1.out.size))
      clear hB hz B1 hlt2 hlt hk hbl
      go_wp2_with fail
      refine (HP.out o cap _ Z2.out).mono ?_
      rintro e w4 ⟨v, rfl, hr, hB⟩
      have hz4 : w2.heap.size < w4.heap.size := mid_size hB
      have c4 := (blk_mid3 hB).cell
      have B4 := Lib.hid (B2.out.trans ((((Below.refl _ _).alloc (Nat.le_refl _) _).trans (hB.mono (by simp))).mono B2.out.size))
      have hz5 := B4.out.size
      have hfw := HFW.out
      clear hB Z2 B2
      rcases HD.out with ⟨hm, x, j, hx, hj⟩ | ⟨hm, p, hx⟩
      · rw [hx] at hr
        obtain ⟨vx, rfl, hxx⟩ := hr
        obtain ⟨n', nm, tk, tp, tg, tn, tz, ta, o', c', rfl, _⟩ := hxx.parts
        have hk31 : ¬ (30 : Int) < (k : Nat) := by omega
        obtain rfl : j = ((toks s).length : Nat) - 1 := by omega
        clear hxx hx hj
        go_wp2
        go_ret
        exact ⟨by simp, (B4.out.alloc hz5 _).alloc (by simp; omega) _⟩
      · rw [hx] at hr
        obtain rfl : v = .tuple #[.agg zeroE, .int .i64 0, .agg #[.int .i64 p, .int .i64 6]] := hr
        have hk31 : (30 : Int) < (k : Nat) := by omega
        clear hx
        unfold zeroE
        go_wp2
        go_ret
        exact ⟨by simp, (B4.out.alloc hz5 _).alloc (by simp; omega) _⟩

set_option maxRecDepth 20000 in
set_option maxHeartbeats 8000000 in
theorem walk_negI (n kind : Int) (w : World) (hr1 : -9223372036854775808 ≤ n) (hr2 : n ≤ 9223372036854775807) (hn : n < 0) (h0 : kind.tmod 3 = 1) : Calls Try.prog 6 #[.int .i64 n, .int .i64 kind] w fun e w' => e = .returned (.bool true) ∧ Below w.heap.size w w' := by
  have k0 : (kind.tmod 3 == 0) = false := by rw [h0]; rfl
  have k1 : (kind.tmod 3 == 1) = true := by rw [h0]; rfl
  clear h0
  go_enter Try.func6, Try.ntmps6
  go_wp2_with fail
  refine (awake_any _).mono ?_
  rintro e w1 ⟨rfl, hB⟩
  have B1 := Lib.hid hB
  clear hB
  have e : -((n + 1).tmod 70) = (-(n + 1)) % 70 := by rw [← Int.tmod_eq_emod_of_nonneg (by omega : 0 ≤ -(n + 1)), Int.neg_tmod]
  obtain ⟨m, hm⟩ : ∃ m : Nat, (-(n + 1)) % 70 = (m : Int) := ⟨((-(n + 1)) % 70).toNat, by omega⟩
  have hm70 : m < 70 := by omega
  rw [hm] at e
  have HM := Lib.hid e
  clear hm e
  go_wp2
  rw [HM.out]
  clear hr1 hr2 hn
  go_loopw [8, 9] (fun s i wr => ∃ k : Nat, k ≤ m ∧ s = .string ⟨(txI k).toArray⟩ ∧ i = .int .i64 (k : Nat) ∧ wr = w1) (fun _ i _ => m - (RowKit.intOf i).toNat)
  case atStart => exact ⟨0, Nat.zero_le _, rfl, rfl, rfl⟩
  case round =>
    obtain ⟨k, hk, rfl, rfl, rfl⟩ := hrel
    have OK := Lib.hid (okI (m := k) (by omega))
    have hbl : (txI k).length ≤ 300 := OK.out.len
    by_cases hlt : k < m
    · have hlt2 : ((k : Nat) : Int) < m := by omega
      go_wp2
      go_roundw
      case rel => exact ⟨k + 1, hlt, by rw [txI_succ, cat2, cat3], by go_num, trivial⟩
      case measure => simp [RowKit.intOf]; omega
    · have hlt2 : ¬ ((k : Nat) : Int) < m := by omega
      obtain rfl : k = m := by omega
      have HA := Lib.hid (fun W : World => allD OK.out W)
      have HP := Lib.hid (fun (o : Option Addr) (cap : Nat) (W : World) (h : AtToks W o (toks (txI k))) => parse_at (txI k) OK.out.good (by have := OK.out.len; omega) o cap W h)
      have HD := Lib.hid OK.out.deep
      have HFW := Lib.hid (toks_few OK.out.good)
      generalize (txI k) = s at *
      go_wp2_with fail
      refine (HA.out _).mono ?_
      rintro e w2 ⟨o, cap, rfl, hz, hB⟩
      have Z2 := Lib.hid (hz.below ((Below.refl _ _).alloc (Nat.le_refl _) (.cells #[.int .i64 0, .int .i64 0] 25)))
      have B2 := Lib.hid (B1.out.trans (hB.mono B1.out.size))
      clear hB hz B1 hlt2 hlt hk hbl
      go_wp2_with fail
      refine (HP.out o cap _ Z2.out).mono ?_
      rintro e w4 ⟨v, rfl, hr, hB⟩
      have hz4 : w2.heap.size < w4.heap.size := mid_size hB
      have c4 := (blk_mid3 hB).cell
      have B4 := Lib.hid (B2.out.trans ((((Below.refl _ _).alloc (Nat.le_refl _) _).trans (hB.mono (by simp))).mono B2.out.size))
      have hz5 := B4.out.size
      have hfw := HFW.out
      clear hB Z2 B2
      rcases HD.out with ⟨hm, x, j, hx, hj⟩ | ⟨hm, p, hx⟩
      · rw [hx] at hr
        obtain ⟨vx, rfl, hxx⟩ := hr
        obtain ⟨n', nm, tk, tp, tg, tn, tz, ta, o', c', rfl, _⟩ := hxx.parts
        have hk31 : ¬ (30 : Int) < (k : Nat) := by omega
        obtain rfl : j = ((toks s).length : Nat) - 1 := by omega
        clear hxx hx hj
        go_wp2
        go_ret
        exact ⟨by simp, (B4.out.alloc hz5 _).alloc (by simp; omega) _⟩
      · rw [hx] at hr
        obtain rfl : v = .tuple #[.agg zeroE, .int .i64 0, .agg #[.int .i64 p, .int .i64 6]] := hr
        have hk31 : (30 : Int) < (k : Nat) := by omega
        clear hx
        unfold zeroE
        go_wp2
        go_ret
        exact ⟨by simp, (B4.out.alloc hz5 _).alloc (by simp; omega) _⟩

set_option maxRecDepth 20000 in
set_option maxHeartbeats 8000000 in
theorem walk_negB (n kind : Int) (w : World) (hr1 : -9223372036854775808 ≤ n) (hr2 : n ≤ 9223372036854775807) (hn : n < 0) (h0 : kind.tmod 3 ≠ 0) (h1 : kind.tmod 3 ≠ 1) : Calls Try.prog 6 #[.int .i64 n, .int .i64 kind] w fun e w' => e = .returned (.bool true) ∧ Below w.heap.size w w' := by
  have k0 : (kind.tmod 3 == 0) = false := by rw [beq_eq_false_iff_ne]; exact h0
  have k1 : (kind.tmod 3 == 1) = false := by rw [beq_eq_false_iff_ne]; exact h1
  clear h0 h1
  go_enter Try.func6, Try.ntmps6
  go_wp2_with fail
  refine (awake_any _).mono ?_
  rintro e w1 ⟨rfl, hB⟩
  have B1 := Lib.hid hB
  clear hB
  have e : -((n + 1).tmod 70) = (-(n + 1)) % 70 := by rw [← Int.tmod_eq_emod_of_nonneg (by omega : 0 ≤ -(n + 1)), Int.neg_tmod]
  obtain ⟨m, hm⟩ : ∃ m : Nat, (-(n + 1)) % 70 = (m : Int) := ⟨((-(n + 1)) % 70).toNat, by omega⟩
  have hm70 : m < 70 := by omega
  rw [hm] at e
  have HM := Lib.hid e
  clear hm e
  go_wp2
  rw [HM.out]
  clear hr1 hr2 hn
  go_loopw [8, 9] (fun s i wr => ∃ k : Nat, k ≤ m ∧ s = .string ⟨(txB k).toArray⟩ ∧ i = .int .i64 (k : Nat) ∧ wr = w1) (fun _ i _ => m - (RowKit.intOf i).toNat)
  case atStart => exact ⟨0, Nat.zero_le _, rfl, rfl, rfl⟩
  case round =>
    obtain ⟨k, hk, rfl, rfl, rfl⟩ := hrel
    have OK := Lib.hid (okB (m := k) (by omega))
    have hbl : (txB k).length ≤ 300 := OK.out.len
    by_cases hlt : k < m
    · have hlt2 : ((k : Nat) : Int) < m := by omega
      go_wp2
      go_roundw
      case rel => exact ⟨k + 1, hlt, by rw [txB_succ, cat3], by go_num, trivial⟩
      case measure => simp [RowKit.intOf]; omega
    · have hlt2 : ¬ ((k : Nat) : Int) < m := by omega
      obtain rfl : k = m := by omega
      have HA := Lib.hid (fun W : World => allD OK.out W)
      have HP := Lib.hid (fun (o : Option Addr) (cap : Nat) (W : World) (h : AtToks W o (toks (txB k))) => parse_at (txB k) OK.out.good (by have := OK.out.len; omega) o cap W h)
      have HD := Lib.hid OK.out.deep
      have HFW := Lib.hid (toks_few OK.out.good)
      generalize (txB k) = s at *
      go_wp2_with fail
      refine (HA.out _).mono ?_
      rintro e w2 ⟨o, cap, rfl, hz, hB⟩
      have Z2 := Lib.hid (hz.below ((Below.refl _ _).alloc (Nat.le_refl _) (.cells #[.int .i64 0, .int .i64 0] 25)))
      have B2 := Lib.hid (B1.out.trans (hB.mono B1.out.size))
      clear hB hz B1 hlt2 hlt hk hbl
      go_wp2_with fail
      refine (HP.out o cap _ Z2.out).mono ?_
      rintro e w4 ⟨v, rfl, hr, hB⟩
      have hz4 : w2.heap.size < w4.heap.size := mid_size hB
      have c4 := (blk_mid3 hB).cell
      have B4 := Lib.hid (B2.out.trans ((((Below.refl _ _).alloc (Nat.le_refl _) _).trans (hB.mono (by simp))).mono B2.out.size))
      have hz5 := B4.out.size
      have hfw := HFW.out
      clear hB Z2 B2
      rcases HD.out with ⟨hm, x, j, hx, hj⟩ | ⟨hm, p, hx⟩
      · rw [hx] at hr
        obtain ⟨vx, rfl, hxx⟩ := hr
        obtain ⟨n', nm, tk, tp, tg, tn, tz, ta, o', c', rfl, _⟩ := hxx.parts
        have hk31 : ¬ (30 : Int) < (k : Nat) := by omega
        obtain rfl : j = ((toks s).length : Nat) - 1 := by omega
        clear hxx hx hj
        go_wp2
        go_ret
        exact ⟨by simp, (B4.out.alloc hz5 _).alloc (by simp; omega) _⟩
      · rw [hx] at hr
        obtain rfl : v = .tuple #[.agg zeroE, .int .i64 0, .agg #[.int .i64 p, .int .i64 6]] := hr
        have hk31 : (30 : Int) < (k : Nat) := by omega
        clear hx
        unfold zeroE
        go_wp2
        go_ret
        exact ⟨by simp, (B4.out.alloc hz5 _).alloc (by simp; omega) _⟩

set_option maxRecDepth 20000 in
set_option maxHeartbeats 8000000 in
theorem walk_posN (n kind : Int) (w : World) (hr1 : -9223372036854775808 ≤ n) (hr2 : n ≤ 9223372036854775807) (hn : 0 ≤ n) (h0 : kind.tmod 3 = 0) : Calls Try.prog 6 #[.int .i64 n, .int .i64 kind] w fun e w' => e = .returned (.bool true) ∧ Below w.heap.size w w' := by
  have k0 : (kind.tmod 3 == 0) = true := by rw [h0]; rfl
  have k1 : (kind.tmod 3 == 1) = false := by rw [h0]; rfl
  clear h0
  go_enter Try.func6, Try.ntmps6
  go_wp2_with fail
  refine (awake_any _).mono ?_
  rintro e w1 ⟨rfl, hB⟩
  have B1 := Lib.hid hB
  clear hB
  obtain ⟨m, hm⟩ : ∃ m : Nat, n % 70 = (m : Int) := ⟨(n % 70).toNat, by omega⟩
  have hm70 : m < 70 := by omega
  have HM := Lib.hid hm
  clear hm
  go_wp2
  rw [HM.out]
  clear hr1 hr2 hn
  go_loopw [8, 9] (fun s i wr => ∃ k : Nat, k ≤ m ∧ s = .string ⟨(txN k).toArray⟩ ∧ i = .int .i64 (k : Nat) ∧ wr = w1) (fun _ i _ => m - (RowKit.intOf i).toNat)
  case atStart => exact ⟨0, Nat.zero_le _, rfl, rfl, rfl⟩
  case round =>
    obtain ⟨k, hk, rfl, rfl, rfl⟩ := hrel
    have OK := Lib.hid (okN (m := k) (by omega))
    have hbl : (txN k).length ≤ 300 := OK.out.len
    by_cases hlt : k < m
    · have hlt2 : ((k : Nat) : Int) < m := by omega
      go_wp2
      go_roundw
      case rel => exact ⟨k + 1, hlt, by rw [txN_succ, cat3], by go_num, trivial⟩
      case measure => simp [RowKit.intOf]; omega
    · have hlt2 : ¬ ((k : Nat) : Int) < m := by omega
      obtain rfl : k = m := by omega
      have HA := Lib.hid (fun W : World => allD OK.out W)
      have HP := Lib.hid (fun (o : Option Addr) (cap : Nat) (W : World) (h : AtToks W o (toks (txN k))) => parse_at (txN k) OK.out.good (by have := OK.out.len; omega) o cap W h)
      have HD := Lib.hid OK.out.deep
      have HFW := Lib.hid (toks_few OK.out.good)
      generalize (txN k) = s at *
      go_wp2_with fail
      refine (HA.out _).mono ?_
      rintro e w2 ⟨o, cap, rfl, hz, hB⟩
      have Z2 := Lib.hid (hz.below ((Below.refl _ _).alloc (Nat.le_refl _) (.cells #[.int .i64 0, .int .i64 0] 25)))
      have B2 := Lib.hid (B1.out.trans (hB.mono B1.out.size))
      clear hB hz B1 hlt2 hlt hk hbl
      go_wp2_with fail
      refine (HP.out o cap _ Z2.out).mono ?_
      rintro e w4 ⟨v, rfl, hr, hB⟩
      have hz4 : w2.heap.size < w4.heap.size := mid_size hB
      have c4 := (blk_mid3 hB).cell
      have B4 := Lib.hid (B2.out.trans ((((Below.refl _ _).alloc (Nat.le_refl _) _).trans (hB.mono (by simp))).mono B2.out.size))
      have hz5 := B4.out.size
      have hfw := HFW.out
      clear hB Z2 B2
      rcases HD.out with ⟨hm, x, j, hx, hj⟩ | ⟨hm, p, hx⟩
      · rw [hx] at hr
        obtain ⟨vx, rfl, hxx⟩ := hr
        obtain ⟨n', nm, tk, tp, tg, tn, tz, ta, o', c', rfl, _⟩ := hxx.parts
        have hk31 : ¬ (30 : Int) < (k : Nat) := by omega
        obtain rfl : j = ((toks s).length : Nat) - 1 := by omega
        clear hxx hx hj
        go_wp2
        go_ret
        exact ⟨by simp, (B4.out.alloc hz5 _).alloc (by simp; omega) _⟩
      · rw [hx] at hr
        obtain rfl : v = .tuple #[.agg zeroE, .int .i64 0, .agg #[.int .i64 p, .int .i64 6]] := hr
        have hk31 : (30 : Int) < (k : Nat) := by omega
        clear hx
        unfold zeroE
        go_wp2
        go_ret
        exact ⟨by simp, (B4.out.alloc hz5 _).alloc (by simp; omega) _⟩

set_option maxRecDepth 20000 in
set_option maxHeartbeats 8000000 in
theorem walk_posI (n kind : Int) (w : World) (hr1 : -9223372036854775808 ≤ n) (hr2 : n ≤ 9223372036854775807) (hn : 0 ≤ n) (h0 : kind.tmod 3 = 1) : Calls Try.prog 6 #[.int .i64 n, .int .i64 kind] w fun e w' => e = .returned (.bool true) ∧ Below w.heap.size w w' := by
  have k0 : (kind.tmod 3 == 0) = false := by rw [h0]; rfl
  have k1 : (kind.tmod 3 == 1) = true := by rw [h0]; rfl
  clear h0
  go_enter Try.func6, Try.ntmps6
  go_wp2_with fail
  refine (awake_any _).mono ?_
  rintro e w1 ⟨rfl, hB⟩
  have B1 := Lib.hid hB
  clear hB
  obtain ⟨m, hm⟩ : ∃ m : Nat, n % 70 = (m : Int) := ⟨(n % 70).toNat, by omega⟩
  have hm70 : m < 70 := by omega
  have HM := Lib.hid hm
  clear hm
  go_wp2
  rw [HM.out]
  clear hr1 hr2 hn
  go_loopw [8, 9] (fun s i wr => ∃ k : Nat, k ≤ m ∧ s = .string ⟨(txI k).toArray⟩ ∧ i = .int .i64 (k : Nat) ∧ wr = w1) (fun _ i _ => m - (RowKit.intOf i).toNat)
  case atStart => exact ⟨0, Nat.zero_le _, rfl, rfl, rfl⟩
  case round =>
    obtain ⟨k, hk, rfl, rfl, rfl⟩ := hrel
    have OK := Lib.hid (okI (m := k) (by omega))
    have hbl : (txI k).length ≤ 300 := OK.out.len
    by_cases hlt : k < m
    · have hlt2 : ((k : Nat) : Int) < m := by omega
      go_wp2
      go_roundw
      case rel => exact ⟨k + 1, hlt, by rw [txI_succ, cat2, cat3], by go_num, trivial⟩
      case measure => simp [RowKit.intOf]; omega
    · have hlt2 : ¬ ((k : Nat) : Int) < m := by omega
      obtain rfl : k = m := by omega
      have HA := Lib.hid (fun W : World => allD OK.out W)
      have HP := Lib.hid (fun (o : Option Addr) (cap : Nat) (W : World) (h : AtToks W o (toks (txI k))) => parse_at (txI k) OK.out.good (by have := OK.out.len; omega) o cap W h)
      have HD := Lib.hid OK.out.deep
      have HFW := Lib.hid (toks_few OK.out.good)
      generalize (txI k) = s at *
      go_wp2_with fail
      refine (HA.out _).mono ?_
      rintro e w2 ⟨o, cap, rfl, hz, hB⟩
      have Z2 := Lib.hid (hz.below ((Below.refl _ _).alloc (Nat.le_refl _) (.cells #[.int .i64 0, .int .i64 0] 25)))
      have B2 := Lib.hid (B1.out.trans (hB.mono B1.out.size))
      clear hB hz B1 hlt2 hlt hk hbl
      go_wp2_with fail
      refine (HP.out o cap _ Z2.out).mono ?_
      rintro e w4 ⟨v, rfl, hr, hB⟩
      have hz4 : w2.heap.size < w4.heap.size := mid_size hB
      have c4 := (blk_mid3 hB).cell
      have B4 := Lib.hid (B2.out.trans ((((Below.refl _ _).alloc (Nat.le_refl _) _).trans (hB.mono (by simp))).mono B2.out.size))
      have hz5 := B4.out.size
      have hfw := HFW.out
      clear hB Z2 B2
      rcases HD.out with ⟨hm, x, j, hx, hj⟩ | ⟨hm, p, hx⟩
      · rw [hx] at hr
        obtain ⟨vx, rfl, hxx⟩ := hr
        obtain ⟨n', nm, tk, tp, tg, tn, tz, ta, o', c', rfl, _⟩ := hxx.parts
        have hk31 : ¬ (30 : Int) < (k : Nat) := by omega
        obtain rfl : j = ((toks s).length : Nat) - 1 := by omega
        clear hxx hx hj
        go_wp2
        go_ret
        exact ⟨by simp, (B4.out.alloc hz5 _).alloc (by simp; omega) _⟩
      · rw [hx] at hr
        obtain rfl : v = .tuple #[.agg zeroE, .int .i64 0, .agg #[.int .i64 p, .int .i64 6]] := hr
        have hk31 : (30 : Int) < (k : Nat) := by omega
        clear hx
        unfold zeroE
        go_wp2
        go_ret
        exact ⟨by simp, (B4.out.alloc hz5 _).alloc (by simp; omega) _⟩

set_option maxRecDepth 20000 in
set_option maxHeartbeats 8000000 in
theorem walk_posB (n kind : Int) (w : World) (hr1 : -9223372036854775808 ≤ n) (hr2 : n ≤ 9223372036854775807) (hn : 0 ≤ n) (h0 : kind.tmod 3 ≠ 0) (h1 : kind.tmod 3 ≠ 1) : Calls Try.prog 6 #[.int .i64 n, .int .i64 kind] w fun e w' => e = .returned (.bool true) ∧ Below w.heap.size w w' := by
  have k0 : (kind.tmod 3 == 0) = false := by rw [beq_eq_false_iff_ne]; exact h0
  have k1 : (kind.tmod 3 == 1) = false := by rw [beq_eq_false_iff_ne]; exact h1
  clear h0 h1
  go_enter Try.func6, Try.ntmps6
  go_wp2_with fail
  refine (awake_any _).mono ?_
  rintro e w1 ⟨rfl, hB⟩
  have B1 := Lib.hid hB
  clear hB
  obtain ⟨m, hm⟩ : ∃ m : Nat, n % 70 = (m : Int) := ⟨(n % 70).toNat, by omega⟩
  have hm70 : m < 70 := by omega
  have HM := Lib.hid hm
  clear hm
  go_wp2
  rw [HM.out]
  clear hr1 hr2 hn
  go_loopw [8, 9] (fun s i wr => ∃ k : Nat, k ≤ m ∧ s = .string ⟨(txB k).toArray⟩ ∧ i = .int .i64 (k : Nat) ∧ wr = w1) (fun _ i _ => m - (RowKit.intOf i).toNat)
  case atStart => exact ⟨0, Nat.zero_le _, rfl, rfl, rfl⟩
  case round =>
    obtain ⟨k, hk, rfl, rfl, rfl⟩ := hrel
    have OK := Lib.hid (okB (m := k) (by omega))
    have hbl : (txB k).length ≤ 300 := OK.out.len
    by_cases hlt : k < m
    · have hlt2 : ((k : Nat) : Int) < m := by omega
      go_wp2
      go_roundw
      case rel => exact ⟨k + 1, hlt, by rw [txB_succ, cat3], by go_num, trivial⟩
      case measure => simp [RowKit.intOf]; omega
    · have hlt2 : ¬ ((k : Nat) : Int) < m := by omega
      obtain rfl : k = m := by omega
      have HA := Lib.hid (fun W : World => allD OK.out W)
      have HP := Lib.hid (fun (o : Option Addr) (cap : Nat) (W : World) (h : AtToks W o (toks (txB k))) => parse_at (txB k) OK.out.good (by have := OK.out.len; omega) o cap W h)
      have HD := Lib.hid OK.out.deep
      have HFW := Lib.hid (toks_few OK.out.good)
      generalize (txB k) = s at *
      go_wp2_with fail
      refine (HA.out _).mono ?_
      rintro e w2 ⟨o, cap, rfl, hz, hB⟩
      have Z2 := Lib.hid (hz.below ((Below.refl _ _).alloc (Nat.le_refl _) (.cells #[.int .i64 0, .int .i64 0] 25)))
      have B2 := Lib.hid (B1.out.trans (hB.mono B1.out.size))
      clear hB hz B1 hlt2 hlt hk hbl
      go_wp2_with fail
      refine (HP.out o cap _ Z2.out).mono ?_
      rintro e w4 ⟨v, rfl, hr, hB⟩
      have hz4 : w2.heap.size < w4.heap.size := mid_size hB
      have c4 := (blk_mid3 hB).cell
      have B4 := Lib.hid (B2.out.trans ((((Below.refl _ _).alloc (Nat.le_refl _) _).trans (hB.mono (by simp))).mono B2.out.size))
      have hz5 := B4.out.size
      have hfw := HFW.out
      clear hB Z2 B2
      rcases HD.out with ⟨hm, x, j, hx, hj⟩ | ⟨hm, p, hx⟩
      · rw [hx] at hr
        obtain ⟨vx, rfl, hxx⟩ := hr
        obtain ⟨n', nm, tk, tp, tg, tn, tz, ta, o', c', rfl, _⟩ := hxx.parts
        have hk31 : ¬ (30 : Int) < (k : Nat) := by omega
        obtain rfl : j = ((toks s).length : Nat) - 1 := by omega
        clear hxx hx hj
        go_wp2
        go_ret
        exact ⟨by simp, (B4.out.alloc hz5 _).alloc (by simp; omega) _⟩
      · rw [hx] at hr
        obtain rfl : v = .tuple #[.agg zeroE, .int .i64 0, .agg #[.int .i64 p, .int .i64 6]] := hr
        have hk31 : (30 : Int) < (k : Nat) := by omega
        clear hx
        unfold zeroE
        go_wp2
        go_ret
        exact ⟨by simp, (B4.out.alloc hz5 _).alloc (by simp; omega) _⟩

theorem walk (n kind : Int) (w : World) (hr : -9223372036854775808 ≤ n ∧ n ≤ 9223372036854775807) (_ : -9223372036854775808 ≤ kind ∧ kind ≤ 9223372036854775807) : Calls Try.prog 6 #[.int .i64 n, .int .i64 kind] w fun e w' => e = .returned (.bool true) ∧ Below w.heap.size w w' := by
  by_cases hn : n < 0
  · by_cases h0 : kind.tmod 3 = 0
    · exact walk_negN n kind w hr.1 hr.2 hn h0
    · by_cases h1 : kind.tmod 3 = 1
      · exact walk_negI n kind w hr.1 hr.2 hn h1
      · exact walk_negB n kind w hr.1 hr.2 hn h0 h1
  · by_cases h0 : kind.tmod 3 = 0
    · exact walk_posN n kind w hr.1 hr.2 (by omega) h0
    · by_cases h1 : kind.tmod 3 = 1
      · exact walk_posI n kind w hr.1 hr.2 (by omega) h1
      · exact walk_posB n kind w hr.1 hr.2 (by omega) h0 h1

theorem laidOut : laidOutB Try.prog = true := by kernel_rfl

theorem int_range {n : Int} (h : (Lit.int .i64 n).wf = true) : -9223372036854775808 ≤ n ∧ n ≤ 9223372036854775807 := by
  have h2 : IntKind.i64.min ≤ n ∧ n ≤ IntKind.i64.max := by
    unfold Lit.wf at h
    simpa only [Bool.and_eq_true, decide_eq_true_eq] using h
  rw [show IntKind.i64.min = -9223372036854775808 by decide, show IntKind.i64.max = 9223372036854775807 by decide] at h2
  exact h2

set_option maxRecDepth 100000 in
theorem lifted (os : Os) (started : os.Started) (H : Type) (enc : TypeId × Value → H) :
    ReturnsInHanded {} Try.checked os 6 .any (Rows.exprxDeepSpec.pre6 enc Try.prog Try.f6 Rows.exprxDeepRow.domain false) (Rows.exprxDeepSpec.post enc Try.prog Try.f6 false true false false) := by
  refine returnsInHanded_of_change_sized (C := Try.checked) own started (by kernel_rfl) Try.func6
    (ChangeSpec.witness6 (enc := enc) (C := Try.checked) false ⟨#[], #[.int .i64 0, .int .i64 0], []⟩ 8 (by kernel_rfl) (by kernel_rfl) (by kernel_rfl) (by kernel_rfl)) ?_
  intro W base args ds gs before hval0 hW hcnd hsz _
  have hval : ∀ (j : Nat) t v, Try.f6.params[j]? = some t → args[j]? = some v → Value.okWide Try.prog W .any base t v := hval0
  have hW' := hW
  obtain ⟨p, q, hA0, hV, rfl, hfz, hnd⟩ := hW
  have hA : DataW.TrodAll enc Try.prog W 0 (fun _ => true) true Try.f6.params.toList args.toList ds p := hA0
  rw [Try.params6] at hA hval
  obtain ⟨v0, vs0, d0, ds0, p0, q0, hargs, rfl, rfl, h0, r0⟩ := trodAll_cons hA
  obtain ⟨v1, vs1, d1, ds1, p1, q1, rfl, rfl, rfl, h1, r1⟩ := trodAll_cons r0
  obtain ⟨rfl, rfl, rfl⟩ := trodAll_nil r1
  obtain rfl : args = #[v0, v1] := by cases args; simp_all
  obtain ⟨rfl, rfl⟩ := trodVars_none hV
  obtain ⟨a0, rfl, rfl, rfl, w0⟩ := open_int Try.underlying3 (hval 0 3 v0 rfl rfl) h0
  have f0 := int_range w0
  obtain ⟨a1, rfl, rfl, rfl, w1⟩ := open_int Try.underlying3 (hval 1 3 v1 rfl rfl) h1
  have f1 := int_range w1
  clear hA0 hval0
  simp only [List.append_nil] at hW'
  refine (walk a0 a1 W f0 f1).mono fun e W' ⟨he, hg⟩ => ?_
  subst he
  exact ⟨_, rfl, _, _, _, [], _, [], hW', (trodAll_cons_mk (shut_bool Try.underlying4 _) trodAll_mk0), (trodAll_cons_mk (shut_int Try.underlying3 w0) (trodAll_cons_mk (shut_int Try.underlying3 w1) trodAll_mk0)), rfl, hg.frame _, fun h => by cases h⟩

theorem over : Rows.exprxDeepRow.holds Try.pinned (OpenSpec.ofChange Rows.exprxDeepSpec) :=
  OpenClaim.holds_of_wide 6 Try.f6 rfl rfl rfl rfl rfl rfl rfl ⟨rfl, rfl, rfl, rfl, rfl⟩ rfl rfl rfl rfl rfl (by kernel_rfl) Try.func6 (by kernel_rfl)
    (of_decide_eq_true (by kernel_rfl)) (by unfold Func.isWrapper; first | (rw [if_pos (by decide +kernel)]; kernel_rfl) | (rw [if_neg (by decide +kernel)]; exact ⟨rfl, rfl⟩))
    (fun os started H enc _ => lifted os started H enc)

/-- ExprxDeep answers true. -/
theorem proved : Rows.ExprxDeepSaid :=
  over

end Go.Proofs.Ytjkdingeicdjoaa.exprxDeep
