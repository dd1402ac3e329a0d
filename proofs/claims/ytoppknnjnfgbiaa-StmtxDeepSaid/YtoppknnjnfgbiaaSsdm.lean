/-
  StmtxDeep answers true, whatever the number and the bool. No condition.
  Plain: blocks of 'else' may be thirty within one another. No condition.
-/
import Derived.Test.YtoppknnjnfgbiaaStgl
import Derived.Test.YtoppknnjnfgbiaaStgh
import Derived.Test.YtoppknnjnfgbiaaQmc
import Derived.Test.YtoppknnjnfgbiaaStf
import Derived.ProofKit
import Derived.OpenShut
import Derived.SizedLaws
import Derived.Carry
namespace Go.Proofs.Ytoppknnjnfgbiaa

theorem deepE_all (n : Nat) (h : n < 70) : deepS ((toks (txE n)).map zTok) n = true := by
  by_cases h2 : n < 52
  · exact deepE_lo n h2
  · have := deepE_hi (n - 52) (by omega)
    rwa [show n - 52 + 52 = n by omega] at this

end Go.Proofs.Ytoppknnjnfgbiaa

namespace Go.Proofs.Ytoppknnjnfgbiaa.stmtxDeep
open Go.ChangeShapes Go.WideShapes Go.ChangeAt Go.RowKit
open Go.Lib hiding intOf

theorem own : ownKnob Try.prog.godebug = none := by kernel_rfl

theorem cat3 (a b c : List UInt8) : (⟨a.toArray⟩ : ByteArray) ++ ⟨b.toArray⟩ ++ ⟨c.toArray⟩ = ⟨(a ++ b ++ c).toArray⟩ := by
  apply ByteArray.ext
  simp [ByteArray.data_append]
theorem txL_len : ∀ k : Nat, (txL k).length = 7 * k + 2
  | 0 => rfl
  | k + 1 => by rw [txL]; simp [txL_len k]; omega
theorem txE_len : ∀ k : Nat, (txE k).length = 12 * k + 2
  | 0 => rfl
  | k + 1 => by rw [txE]; simp [txE_len k]; omega

/-- A text so deep. -/
structure DeepOK (s : List UInt8) (m : Nat) : Prop where
  good : bad (toks s) 0 = none
  deep : (m < 30 ∧ ∃ x j, stAll s = .ok x j ∧ j + 1 = ((toks s).length : Nat)) ∨ (30 ≤ m ∧ ∃ p, stAll s = .err p 6)
  len : s.length ≤ 900
theorem deepOK {s : List UInt8} {m : Nat} (hb : bad (toks s) 0 = none) (hd : deepS ((toks s).map zTok) m = true) (hl : s.length ≤ 900) : DeepOK s m := by
  refine ⟨hb, ?_, hl⟩
  unfold deepS at hd
  unfold stAll
  split at hd
  · next x j h =>
    simp only [Bool.and_eq_true, decide_eq_true_eq] at hd
    exact .inl ⟨hd.1, x, j, h, by rw [hd.2, List.length_map]⟩
  · next p c h =>
    simp only [Bool.and_eq_true, decide_eq_true_eq] at hd
    obtain ⟨h1, rfl⟩ := hd
    exact .inr ⟨h1, p, h⟩
  · cases hd
theorem okL {m : Nat} (hm : m < 70) : DeepOK (txL m) m := deepOK (lexL_all m hm) (deepL_all m hm) (by rw [txL_len]; omega)
theorem okE {m : Nat} (hm : m < 70) : DeepOK (txE m) m := deepOK (lexE_all m hm) (deepE_all m hm) (by rw [txE_len]; omega)

theorem allD {s : List UInt8} {m : Nat} (h : DeepOK s m) (w : World) : Calls Try.prog 10 #[.string ⟨s.toArray⟩] w fun e w' => ∃ o cap, e = .returned (.tuple #[.slice o (toks s).length cap, .agg #[.int .i64 0, .int .i64 0]]) ∧ AtToks w' o (toks s) ∧ Below w.heap.size w w' := by
  have hl := h.len
  exact (all_at ⟨s.toArray⟩ (toks s) 0 0 (by rw [List.toList_toArray]; exact lexed_good' h.good) w (by show s.toArray.size ≤ _; simp; omega)).mono fun e w' ⟨o, cap, he, ht, hb, _⟩ => ⟨o, cap, he, ht, hb⟩

set_option maxRecDepth 20000 in
set_option maxHeartbeats 8000000 in
theorem walk_negL (n : Int) (w : World) (hr1 : -9223372036854775808 ≤ n) (hr2 : n ≤ 9223372036854775807) (hn : n < 0) : Calls Try.prog 6 #[.int .i64 n, .bool true] w fun e w' => e = .returned (.bool true) ∧ Below w.heap.size w w' := by
  go_enter Try.func6, Try.ntmps6
  go_wp2_with fail
  refine (awakeS_any _).mono ?_
  rintro e w1 ⟨rfl, hB⟩
  have B1 := Lib.hid hB
  clear hB
  have e : -((n + 1).tmod 70) = (-(n + 1)) % 70 := by rw [← Int.tmod_eq_emod_of_nonneg (by omega : 0 ≤ -(n + 1)), Int.neg_tmod]
  obtain ⟨m, hm⟩ : ∃ m : Nat, (-(n + 1)) % 70 = (m : Int) := ⟨((-(n + 1)) % 70).toNat, by omega⟩
  have hm70 : m < 70 := by omega
  rw [hm] at e
  have HM := Lib.hid e
  clear hm e
  go_wp2
  rw [HM.out]
  clear hr1 hr2 hn
  go_loopw [6, 7] (fun s i wr => ∃ k : Nat, k ≤ m ∧ s = .string ⟨(txL k).toArray⟩ ∧ i = .int .i64 (k : Nat) ∧ wr = w1) (fun _ i _ => m - (RowKit.intOf i).toNat)
  case atStart => exact ⟨0, Nat.zero_le _, rfl, rfl, rfl⟩
  case round =>
    obtain ⟨k, hk, rfl, rfl, rfl⟩ := hrel
    have OK := Lib.hid (okL (m := k) (by omega))
    have hbl : (txL k).length ≤ 900 := OK.out.len
    by_cases hlt : k < m
    · have hlt2 : ((k : Nat) : Int) < m := by omega
      go_wp2
      go_roundw
      case rel => exact ⟨k + 1, hlt, by rw [txL, ← cat3], by go_num, trivial⟩
      case measure => simp [RowKit.intOf]; omega
    · have hlt2 : ¬ ((k : Nat) : Int) < m := by omega
      obtain rfl : k = m := by omega
      have HA := Lib.hid (fun W : World => allD OK.out W)
      have HP := Lib.hid (fun (o : Option Addr) (cap : Nat) (W : World) (h : AtToks W o (toks (txL k))) => parseS_all (txL k) OK.out.good (by have := OK.out.len; omega) o cap W h)
      have HD := Lib.hid OK.out.deep
      have HFW := Lib.hid (few5 OK.out.good)
      generalize (txL k) = s at *
      go_wp2_with fail
      refine (HA.out _).mono ?_
      rintro e w2 ⟨o, cap, rfl, hz, hB⟩
      have Z2 := Lib.hid (hz.below ((Below.refl _ _).alloc (Nat.le_refl _) (.cells #[.int .i64 0, .int .i64 0] 26)))
      have B2 := Lib.hid (B1.out.trans (hB.mono B1.out.size))
      clear hB hz B1 hlt2 hlt hk hbl
      go_wp2_with fail
      refine (HP.out o cap _ Z2.out).mono ?_
      rintro e w4 ⟨v, rfl, hr, hB⟩
      have hz4 : w2.heap.size < w4.heap.size := mid_size hB
      have c4 := (blk_mid3 hB).cell
      have B4 := Lib.hid (B2.out.trans ((((Below.refl _ _).alloc (Nat.le_refl _) _).trans (hB.mono (by simp))).mono B2.out.size))
      have hz5 := B4.out.size
      have hfw := HFW.out
      clear hB Z2 B2
      rcases HD.out with ⟨hm, x, j, hx, hj⟩ | ⟨hm, p, hx⟩
      · rw [hx] at hr
        obtain ⟨o', c', rfl, hxx⟩ := hr
        have hk31 : ¬ (30 : Int) ≤ (k : Nat) := by omega
        obtain rfl : j = ((toks s).length : Nat) - 1 := by omega
        clear hxx hx hj
        go_wp2
        go_ret
        exact ⟨by simp, B4.out.alloc hz5 _⟩
      · rw [hx] at hr
        obtain ⟨o', c', rfl⟩ := hr
        have hk31 : (30 : Int) ≤ (k : Nat) := by omega
        clear hx
        go_wp2
        go_ret
        exact ⟨by simp, B4.out.alloc hz5 _⟩

set_option maxRecDepth 20000 in
set_option maxHeartbeats 8000000 in
theorem walk_negE (n : Int) (w : World) (hr1 : -9223372036854775808 ≤ n) (hr2 : n ≤ 9223372036854775807) (hn : n < 0) : Calls Try.prog 6 #[.int .i64 n, .bool false] w fun e w' => e = .returned (.bool true) ∧ Below w.heap.size w w' := by
  go_enter Try.func6, Try.ntmps6
  go_wp2_with fail
  refine (awakeS_any _).mono ?_
  rintro e w1 ⟨rfl, hB⟩
  have B1 := Lib.hid hB
  clear hB
  have e : -((n + 1).tmod 70) = (-(n + 1)) % 70 := by rw [← Int.tmod_eq_emod_of_nonneg (by omega : 0 ≤ -(n + 1)), Int.neg_tmod]
  obtain ⟨m, hm⟩ : ∃ m : Nat, (-(n + 1)) % 70 = (m : Int) := ⟨((-(n + 1)) % 70).toNat, by omega⟩
  have hm70 : m < 70 := by omega
  rw [hm] at e
  have HM := Lib.hid e
  clear hm e
  go_wp2
  rw [HM.out]
  clear hr1 hr2 hn
  go_loopw [6, 7] (fun s i wr => ∃ k : Nat, k ≤ m ∧ s = .string ⟨(txE k).toArray⟩ ∧ i = .int .i64 (k : Nat) ∧ wr = w1) (fun _ i _ => m - (RowKit.intOf i).toNat)
  case atStart => exact ⟨0, Nat.zero_le _, rfl, rfl, rfl⟩
  case round =>
    obtain ⟨k, hk, rfl, rfl, rfl⟩ := hrel
    have OK := Lib.hid (okE (m := k) (by omega))
    have hbl : (txE k).length ≤ 900 := OK.out.len
    by_cases hlt : k < m
    · have hlt2 : ((k : Nat) : Int) < m := by omega
      go_wp2
      go_roundw
      case rel => exact ⟨k + 1, hlt, by rw [txE, ← cat3], by go_num, trivial⟩
      case measure => simp [RowKit.intOf]; omega
    · have hlt2 : ¬ ((k : Nat) : Int) < m := by omega
      obtain rfl : k = m := by omega
      have HA := Lib.hid (fun W : World => allD OK.out W)
      have HP := Lib.hid (fun (o : Option Addr) (cap : Nat) (W : World) (h : AtToks W o (toks (txE k))) => parseS_all (txE k) OK.out.good (by have := OK.out.len; omega) o cap W h)
      have HD := Lib.hid OK.out.deep
      have HFW := Lib.hid (few5 OK.out.good)
      generalize (txE k) = s at *
      go_wp2_with fail
      refine (HA.out _).mono ?_
      rintro e w2 ⟨o, cap, rfl, hz, hB⟩
      have Z2 := Lib.hid (hz.below ((Below.refl _ _).alloc (Nat.le_refl _) (.cells #[.int .i64 0, .int .i64 0] 26)))
      have B2 := Lib.hid (B1.out.trans (hB.mono B1.out.size))
      clear hB hz B1 hlt2 hlt hk hbl
      go_wp2_with fail
      refine (HP.out o cap _ Z2.out).mono ?_
      rintro e w4 ⟨v, rfl, hr, hB⟩
      have hz4 : w2.heap.size < w4.heap.size := mid_size hB
      have c4 := (blk_mid3 hB).cell
      have B4 := Lib.hid (B2.out.trans ((((Below.refl _ _).alloc (Nat.le_refl _) _).trans (hB.mono (by simp))).mono B2.out.size))
      have hz5 := B4.out.size
      have hfw := HFW.out
      clear hB Z2 B2
      rcases HD.out with ⟨hm, x, j, hx, hj⟩ | ⟨hm, p, hx⟩
      · rw [hx] at hr
        obtain ⟨o', c', rfl, hxx⟩ := hr
        have hk31 : ¬ (30 : Int) ≤ (k : Nat) := by omega
        obtain rfl : j = ((toks s).length : Nat) - 1 := by omega
        clear hxx hx hj
        go_wp2
        go_ret
        exact ⟨by simp, B4.out.alloc hz5 _⟩
      · rw [hx] at hr
        obtain ⟨o', c', rfl⟩ := hr
        have hk31 : (30 : Int) ≤ (k : Nat) := by omega
        clear hx
        go_wp2
        go_ret
        exact ⟨by simp, B4.out.alloc hz5 _⟩

set_option maxRecDepth 20000 in
set_option maxHeartbeats 8000000 in
theorem walk_posL (n : Int) (w : World) (hr1 : -9223372036854775808 ≤ n) (hr2 : n ≤ 9223372036854775807) (hn : 0 ≤ n) : Calls Try.prog 6 #[.int .i64 n, .bool true] w fun e w' => e = .returned (.bool true) ∧ Below w.heap.size w w' := by
  go_enter Try.func6, Try.ntmps6
  go_wp2_with fail
  refine (awakeS_any _).mono ?_
  rintro e w1 ⟨rfl, hB⟩
  have B1 := Lib.hid hB
  clear hB
  obtain ⟨m, hm⟩ : ∃ m : Nat, n % 70 = (m : Int) := ⟨(n % 70).toNat, by omega⟩
  have hm70 : m < 70 := by omega
  have HM := Lib.hid hm
  clear hm
  go_wp2
  rw [HM.out]
  clear hr1 hr2 hn
  go_loopw [6, 7] (fun s i wr => ∃ k : Nat, k ≤ m ∧ s = .string ⟨(txL k).toArray⟩ ∧ i = .int .i64 (k : Nat) ∧ wr = w1) (fun _ i _ => m - (RowKit.intOf i).toNat)
  case atStart => exact ⟨0, Nat.zero_le _, rfl, rfl, rfl⟩
  case round =>
    obtain ⟨k, hk, rfl, rfl, rfl⟩ := hrel
    have OK := Lib.hid (okL (m := k) (by omega))
    have hbl : (txL k).length ≤ 900 := OK.out.len
    by_cases hlt : k < m
    · have hlt2 : ((k : Nat) : Int) < m := by omega
      go_wp2
      go_roundw
      case rel => exact ⟨k + 1, hlt, by rw [txL, ← cat3], by go_num, trivial⟩
      case measure => simp [RowKit.intOf]; omega
    · have hlt2 : ¬ ((k : Nat) : Int) < m := by omega
      obtain rfl : k = m := by omega
      have HA := Lib.hid (fun W : World => allD OK.out W)
      have HP := Lib.hid (fun (o : Option Addr) (cap : Nat) (W : World) (h : AtToks W o (toks (txL k))) => parseS_all (txL k) OK.out.good (by have := OK.out.len; omega) o cap W h)
      have HD := Lib.hid OK.out.deep
      have HFW := Lib.hid (few5 OK.out.good)
      generalize (txL k) = s at *
      go_wp2_with fail
      refine (HA.out _).mono ?_
      rintro e w2 ⟨o, cap, rfl, hz, hB⟩
      have Z2 := Lib.hid (hz.below ((Below.refl _ _).alloc (Nat.le_refl _) (.cells #[.int .i64 0, .int .i64 0] 26)))
      have B2 := Lib.hid (B1.out.trans (hB.mono B1.out.size))
      clear hB hz B1 hlt2 hlt hk hbl
      go_wp2_with fail
      refine (HP.out o cap _ Z2.out).mono ?_
      rintro e w4 ⟨v, rfl, hr, hB⟩
      have hz4 : w2.heap.size < w4.heap.size := mid_size hB
      have c4 := (blk_mid3 hB).cell
      have B4 := Lib.hid (B2.out.trans ((((Below.refl _ _).alloc (Nat.le_refl _) _).trans (hB.mono (by simp))).mono B2.out.size))
      have hz5 := B4.out.size
      have hfw := HFW.out
      clear hB Z2 B2
      rcases HD.out with ⟨hm, x, j, hx, hj⟩ | ⟨hm, p, hx⟩
      · rw [hx] at hr
        obtain ⟨o', c', rfl, hxx⟩ := hr
        have hk31 : ¬ (30 : Int) ≤ (k : Nat) := by omega
        obtain rfl : j = ((toks s).length : Nat) - 1 := by omega
        clear hxx hx hj
        go_wp2
        go_ret
        exact ⟨by simp, B4.out.alloc hz5 _⟩
      · rw [hx] at hr
        obtain ⟨o', c', rfl⟩ := hr
        have hk31 : (30 : Int) ≤ (k : Nat) := by omega
        clear hx
        go_wp2
        go_ret
        exact ⟨by simp, B4.out.alloc hz5 _⟩

set_option maxRecDepth 20000 in
set_option maxHeartbeats 8000000 in
theorem walk_posE (n : Int) (w : World) (hr1 : -9223372036854775808 ≤ n) (hr2 : n ≤ 9223372036854775807) (hn : 0 ≤ n) : Calls Try.prog 6 #[.int .i64 n, .bool false] w fun e w' => e = .returned (.bool true) ∧ Below w.heap.size w w' := by
  go_enter Try.func6, Try.ntmps6
  go_wp2_with fail
  refine (awakeS_any _).mono ?_
  rintro e w1 ⟨rfl, hB⟩
  have B1 := Lib.hid hB
  clear hB
  obtain ⟨m, hm⟩ : ∃ m : Nat, n % 70 = (m : Int) := ⟨(n % 70).toNat, by omega⟩
  have hm70 : m < 70 := by omega
  have HM := Lib.hid hm
  clear hm
  go_wp2
  rw [HM.out]
  clear hr1 hr2 hn
  go_loopw [6, 7] (fun s i wr => ∃ k : Nat, k ≤ m ∧ s = .string ⟨(txE k).toArray⟩ ∧ i = .int .i64 (k : Nat) ∧ wr = w1) (fun _ i _ => m - (RowKit.intOf i).toNat)
  case atStart => exact ⟨0, Nat.zero_le _, rfl, rfl, rfl⟩
  case round =>
    obtain ⟨k, hk, rfl, rfl, rfl⟩ := hrel
    have OK := Lib.hid (okE (m := k) (by omega))
    have hbl : (txE k).length ≤ 900 := OK.out.len
    by_cases hlt : k < m
    · have hlt2 : ((k : Nat) : Int) < m := by omega
      go_wp2
      go_roundw
      case rel => exact ⟨k + 1, hlt, by rw [txE, ← cat3], by go_num, trivial⟩
      case measure => simp [RowKit.intOf]; omega
    · have hlt2 : ¬ ((k : Nat) : Int) < m := by omega
      obtain rfl : k = m := by omega
      have HA := Lib.hid (fun W : World => allD OK.out W)
      have HP := Lib.hid (fun (o : Option Addr) (cap : Nat) (W : World) (h : AtToks W o (toks (txE k))) => parseS_all (txE k) OK.out.good (by have := OK.out.len; omega) o cap W h)
      have HD := Lib.hid OK.out.deep
      have HFW := Lib.hid (few5 OK.out.good)
      generalize (txE k) = s at *
      go_wp2_with fail
      refine (HA.out _).mono ?_
      rintro e w2 ⟨o, cap, rfl, hz, hB⟩
      have Z2 := Lib.hid (hz.below ((Below.refl _ _).alloc (Nat.le_refl _) (.cells #[.int .i64 0, .int .i64 0] 26)))
      have B2 := Lib.hid (B1.out.trans (hB.mono B1.out.size))
      clear hB hz B1 hlt2 hlt hk hbl
      go_wp2_with fail
      refine (HP.out o cap _ Z2.out).mono ?_
      rintro e w4 ⟨v, rfl, hr, hB⟩
      have hz4 : w2.heap.size < w4.heap.size := mid_size hB
      have c4 := (blk_mid3 hB).cell
      have B4 := Lib.hid (B2.out.trans ((((Below.refl _ _).alloc (Nat.le_refl _) _).trans (hB.mono (by simp))).mono B2.out.size))
      have hz5 := B4.out.size
      have hfw := HFW.out
      clear hB Z2 B2
      rcases HD.out with ⟨hm, x, j, hx, hj⟩ | ⟨hm, p, hx⟩
      · rw [hx] at hr
        obtain ⟨o', c', rfl, hxx⟩ := hr
        have hk31 : ¬ (30 : Int) ≤ (k : Nat) := by omega
        obtain rfl : j = ((toks s).length : Nat) - 1 := by omega
        clear hxx hx hj
        go_wp2
        go_ret
        exact ⟨by simp, B4.out.alloc hz5 _⟩
      · rw [hx] at hr
        obtain ⟨o', c', rfl⟩ := hr
        have hk31 : (30 : Int) ≤ (k : Nat) := by omega
        clear hx
        go_wp2
        go_ret
        exact ⟨by simp, B4.out.alloc hz5 _⟩

theorem walk (n : Int) (b : Bool) (w : World) (hr : -9223372036854775808 ≤ n ∧ n ≤ 9223372036854775807) : Calls Try.prog 6 #[.int .i64 n, .bool b] w fun e w' => e = .returned (.bool true) ∧ Below w.heap.size w w' := by
  by_cases hn : n < 0
  · cases b
    · exact walk_negE n w hr.1 hr.2 hn
    · exact walk_negL n w hr.1 hr.2 hn
  · cases b
    · exact walk_posE n w hr.1 hr.2 (by omega)
    · exact walk_posL n w hr.1 hr.2 (by omega)

theorem laidOut : laidOutB Try.prog = true := by kernel_rfl

theorem int_range {n : Int} (h : (Lit.int .i64 n).wf = true) : -9223372036854775808 ≤ n ∧ n ≤ 9223372036854775807 := by
  have h2 : IntKind.i64.min ≤ n ∧ n ≤ IntKind.i64.max := by
    unfold Lit.wf at h
    simpa only [Bool.and_eq_true, decide_eq_true_eq] using h
  rw [show IntKind.i64.min = -9223372036854775808 by decide, show IntKind.i64.max = 9223372036854775807 by decide] at h2
  exact h2

set_option maxRecDepth 100000 in
theorem lifted (os : Os) (started : os.Started) (H : Type) (enc : TypeId × Value → H) :
    ReturnsInHanded {} Try.checked os 6 .any (Rows.stmtxDeepSpec.pre6 enc Try.prog Try.f6 Rows.stmtxDeepRow.domain false) (Rows.stmtxDeepSpec.post enc Try.prog Try.f6 false true false false) := by
  refine returnsInHanded_of_change_sized (C := Try.checked) own started (by kernel_rfl) Try.func6
    (ChangeSpec.witness6 (enc := enc) (C := Try.checked) false ⟨#[], #[.int .i64 0, .bool false], []⟩ 8 (by kernel_rfl) (by kernel_rfl) (by kernel_rfl) (by kernel_rfl)) ?_
  intro W base args ds gs before hval0 hW hcnd hsz _
  have hval : ∀ (j : Nat) t v, Try.f6.params[j]? = some t → args[j]? = some v → Value.okWide Try.prog W .any base t v := hval0
  have hW' := hW
  obtain ⟨p, q, hA0, hV, rfl, hfz, hnd⟩ := hW
  have hA : DataW.TrodAll enc Try.prog W 0 (fun _ => true) true Try.f6.params.toList args.toList ds p := hA0
  rw [Try.params6] at hA hval
  obtain ⟨v0, vs0, d0, ds0, p0, q0, hargs, rfl, rfl, h0, r0⟩ := trodAll_cons hA
  obtain ⟨v1, vs1, d1, ds1, p1, q1, rfl, rfl, rfl, h1, r1⟩ := trodAll_cons r0
  obtain ⟨rfl, rfl, rfl⟩ := trodAll_nil r1
  obtain rfl : args = #[v0, v1] := by cases args; simp_all
  obtain ⟨rfl, rfl⟩ := trodVars_none hV
  obtain ⟨a0, rfl, rfl, rfl, w0⟩ := open_int Try.underlying3 (hval 0 3 v0 rfl rfl) h0
  have f0 := int_range w0
  obtain ⟨a1, rfl, rfl, rfl⟩ := open_bool Try.underlying4 (hval 1 4 v1 rfl rfl) h1
  clear hA0 hval0
  simp only [List.append_nil] at hW'
  refine (walk a0 a1 W f0 ).mono fun e W' ⟨he, hg⟩ => ?_
  subst he
  exact ⟨_, rfl, _, _, _, [], _, [], hW', (trodAll_cons_mk (shut_bool Try.underlying4 _) trodAll_mk0), (trodAll_cons_mk (shut_int Try.underlying3 w0) (trodAll_cons_mk (shut_bool Try.underlying4 _) trodAll_mk0)), rfl, hg.frame _, fun h => by cases h⟩

theorem over : Rows.stmtxDeepRow.holds Try.pinned (OpenSpec.ofChange Rows.stmtxDeepSpec) :=
  OpenClaim.holds_of_wide 6 Try.f6 rfl rfl rfl rfl rfl rfl rfl ⟨rfl, rfl, rfl, rfl, rfl⟩ rfl rfl rfl rfl rfl (by kernel_rfl) Try.func6 (by kernel_rfl)
    (of_decide_eq_true (by kernel_rfl)) (by unfold Func.isWrapper; first | (rw [if_pos (by decide +kernel)]; kernel_rfl) | (rw [if_neg (by decide +kernel)]; exact ⟨rfl, rfl⟩))
    (fun os started H enc _ => lifted os started H enc)

/-- StmtxDeep answers true. -/
theorem proved : Rows.StmtxDeepSaid :=
  over

end Go.Proofs.Ytoppknnjnfgbiaa.stmtxDeep
