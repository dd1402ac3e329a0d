/-
  The walk of the statements' own 'kinds'. Condition: the statements lie in memory as said; kinds are the chapter's.
-/
import Derived.Test.YtoppknnjnfgbiaaStm
import Derived.Test.YtoppknnjnfgbiaaSty
import Derived.Test.YtoppknnjnfgbiaaParse
import Derived.Test.YtoppknnjnfgbiaaSame
import Derived.BigQuiet
namespace Go.Proofs.Ytoppknnjnfgbiaa
open Go.RowKit
open Go.Lib hiding intOf

theorem cat_kind (a : List UInt8) (n : ByteArray) (c : UInt8) : (⟨a.toArray⟩ : ByteArray) ++ ⟨#[c]⟩ ++ n ++ ⟨#[32]⟩ = ⟨(a ++ c :: (n.data.toList ++ [32])).toArray⟩ := by
  apply ByteArray.ext
  simp [ByteArray.data_append]

theorem kindsOf_take {xs : List SX} {k : Nat} {y : SX} (h : xs[k]? = some y) : kindsOf (xs.take (k + 1)) = kindsOf (xs.take k) ++ kindB y := by
  obtain ⟨hk, rfl⟩ := List.getElem?_eq_some_iff.1 h
  rw [List.take_succ_eq_append_getElem hk, kindsOf_snoc]

set_option maxRecDepth 20000 in
set_option maxHeartbeats 8000000 in
theorem kindsS_any (xs : List SX) (B : Nat) (hok : ∀ s ∈ xs, okS B s) (hs : xs.length * (B + 2) ≤ 1099511627776) (P : Nat → Prop) (o : Option Addr) (c : Nat) (w : World) (hu : IsSPs P w o 0 xs) :
    Calls Try.prog 11 #[.slice o xs.length c] w fun e w' => e = .returned (.string ⟨(kindsOf xs).toArray⟩) ∧ ∃ n, w' = w.drewN n := by
  have HA := Lib.hid hu
  have HK := Lib.hid hok
  clear hu hok
  have hlen : xs.length ≤ 1099511627776 := Nat.le_trans (Nat.le_mul_of_pos_right _ (by omega)) hs
  go_enter Try.func11, Try.ntmps11
  go_wp2
  go_loopw [3, 4] (fun s i wr => ∃ k : Nat, k ≤ xs.length ∧ s = .string ⟨(kindsOf (xs.take k)).toArray⟩ ∧ i = .int .i64 (k : Nat) ∧ Hid (∃ n, wr = w.drewN n)) (fun _ i _ => xs.length - (RowKit.intOf i).toNat)
  case atStart => exact ⟨0, Nat.zero_le _, rfl, rfl, Lib.hid ⟨0, rfl⟩⟩
  case round =>
    obtain ⟨k, hk, rfl, rfl, hwr⟩ := hrel
    have hbr : Below w.heap.size w wr := by obtain ⟨n, h⟩ := hwr.out; rw [h]; exact below_drewN (Below.refl _ _) n
    have HBR := Lib.hid hbr
    clear hbr
    by_cases hlt : k < xs.length
    · have hxk := List.getElem?_eq_getElem hlt
      have hat := (HA.out.below HBR.out).at_ k hxk
      rw [Nat.zero_add] at hat
      unfold IsSPs at hat
      obtain ⟨⟨b, c0, c1, c2, c3, c4, c5, c6, c7, c8, c9, c10, c11, c12, c13, c14, c15, c16, rfl, _, h0, h1, h2, h3, h4, h5, h6, h7, h8, h9, h10, h11, h12, h13, h14, h15, h16, hye⟩, _⟩ := hat
      obtain ⟨e0, e1, e2, e3, e4, e5, e6, e7, e8, e9, e10, o1, n1, o2, n2, he, hex, hbu, hbv⟩ := hye.parts
      simp only [Value.agg.injEq, Array.mk.injEq, List.cons.injEq, and_true] at he
      obtain ⟨rfl, rfl, rfl, rfl, rfl, rfl, rfl, rfl, rfl, rfl, rfl, rfl, rfl, rfl, rfl, rfl, rfl⟩ := he
      have hlt2 : ((k : Nat) : Int) < (xs.length : Nat) := by omega
      have hk0 : (0 : Int) ≤ (k : Nat) := by omega
      have hT := kindsOf_take hxk
      obtain ⟨o1', o2', o3'⟩ := HK.out _ (List.mem_of_getElem? hxk)
      have hL : (kindsOf (xs.take k)).length ≤ 1099511627776 := by
        have h1 := kindsOf_len (B := B) (X := xs.take k) fun s hs => HK.out s (List.mem_of_mem_take hs)
        have h2 : (xs.take k).length * (B + 2) ≤ xs.length * (B + 2) := Nat.mul_le_mul_right _ (by rw [List.length_take]; omega)
        omega
      have hN : xs[k].name.size ≤ 1099511627776 := by
        have : B + 2 ≤ xs.length * (B + 2) := Nat.le_mul_of_pos_left _ (by omega)
        omega
      clear hye hex hbu hbv h1 h3 h4 h5 h6 h7 h8 h9 h10 h11 h12 h13 h14 h15 h16
      generalize xs[k] = y at *
      clear hxk
      generalize kindsOf (xs.take k) = acc at *
      have HT := Lib.hid hT
      clear hT
      have hkk : y.kind = 1 ∨ y.kind = 2 ∨ y.kind = 3 ∨ y.kind = 4 ∨ y.kind = 5 ∨ y.kind = 6 := by omega
      rcases hkk with hy | hy | hy | hy | hy | hy
      · rw [hy] at h0
        have HY : Hid (kindB y = UInt8.ofNat 49 :: (y.name.data.toList ++ [32])) := Lib.hid (by rw [kindB, hy]; rfl)
        have q1 : IntKind.i64.wrap 49 = 49 := by decide
        have q2 : IntKind.i32.wrap 49 = 49 := by decide
        have q3 : Utf8.encode 49 = ⟨#[49]⟩ := by kernel_rfl
        have q4 : ((⟨acc.toArray⟩ : ByteArray) ++ ⟨#[49]⟩).size ≤ 9223372036854775807 := by rw [ByteArray.size_append]; show acc.toArray.size + 1 ≤ _; simp; omega
        have q5 : ((⟨acc.toArray⟩ : ByteArray) ++ ⟨#[49]⟩ ++ y.name).size ≤ 9223372036854775807 := by rw [ByteArray.size_append, ByteArray.size_append]; show acc.toArray.size + 1 + _ ≤ _; simp; omega
        have q6 : ((⟨acc.toArray⟩ : ByteArray) ++ ⟨#[49]⟩ ++ y.name ++ ⟨#[32]⟩).size ≤ 9223372036854775807 := by rw [ByteArray.size_append, ByteArray.size_append, ByteArray.size_append]; show acc.toArray.size + 1 + _ + 1 ≤ _; simp; omega
        clear o1' o2' hy
        go_wp2_with fail
        go_quiet (fail)
        go_wp2
        go_roundw
        case rel => exact ⟨k + 1, hlt, by rw [HT.out, HY.out, ← cat_kind]; rfl, by go_num, Lib.hid (by obtain ⟨n, h⟩ := hwr.out; exact ⟨n + nq, by rw [h, World.drewN_drewN]⟩)⟩
        case measure => simp [RowKit.intOf]; omega
      · rw [hy] at h0
        have HY : Hid (kindB y = UInt8.ofNat 50 :: (y.name.data.toList ++ [32])) := Lib.hid (by rw [kindB, hy]; rfl)
        have q1 : IntKind.i64.wrap 50 = 50 := by decide
        have q2 : IntKind.i32.wrap 50 = 50 := by decide
        have q3 : Utf8.encode 50 = ⟨#[50]⟩ := by kernel_rfl
        have q4 : ((⟨acc.toArray⟩ : ByteArray) ++ ⟨#[50]⟩).size ≤ 9223372036854775807 := by rw [ByteArray.size_append]; show acc.toArray.size + 1 ≤ _; simp; omega
        have q5 : ((⟨acc.toArray⟩ : ByteArray) ++ ⟨#[50]⟩ ++ y.name).size ≤ 9223372036854775807 := by rw [ByteArray.size_append, ByteArray.size_append]; show acc.toArray.size + 1 + _ ≤ _; simp; omega
        have q6 : ((⟨acc.toArray⟩ : ByteArray) ++ ⟨#[50]⟩ ++ y.name ++ ⟨#[32]⟩).size ≤ 9223372036854775807 := by rw [ByteArray.size_append, ByteArray.size_append, ByteArray.size_append]; show acc.toArray.size + 1 + _ + 1 ≤ _; simp; omega
        clear o1' o2' hy
        go_wp2_with fail
        go_quiet (fail)
        go_wp2
        go_roundw
        case rel => exact ⟨k + 1, hlt, by rw [HT.out, HY.out, ← cat_kind]; rfl, by go_num, Lib.hid (by obtain ⟨n, h⟩ := hwr.out; exact ⟨n + nq, by rw [h, World.drewN_drewN]⟩)⟩
        case measure => simp [RowKit.intOf]; omega
      · rw [hy] at h0
        have HY : Hid (kindB y = UInt8.ofNat 51 :: (y.name.data.toList ++ [32])) := Lib.hid (by rw [kindB, hy]; rfl)
        have q1 : IntKind.i64.wrap 51 = 51 := by decide
        have q2 : IntKind.i32.wrap 51 = 51 := by decide
        have q3 : Utf8.encode 51 = ⟨#[51]⟩ := by kernel_rfl
        have q4 : ((⟨acc.toArray⟩ : ByteArray) ++ ⟨#[51]⟩).size ≤ 9223372036854775807 := by rw [ByteArray.size_append]; show acc.toArray.size + 1 ≤ _; simp; omega
        have q5 : ((⟨acc.toArray⟩ : ByteArray) ++ ⟨#[51]⟩ ++ y.name).size ≤ 9223372036854775807 := by rw [ByteArray.size_append, ByteArray.size_append]; show acc.toArray.size + 1 + _ ≤ _; simp; omega
        have q6 : ((⟨acc.toArray⟩ : ByteArray) ++ ⟨#[51]⟩ ++ y.name ++ ⟨#[32]⟩).size ≤ 9223372036854775807 := by rw [ByteArray.size_append, ByteArray.size_append, ByteArray.size_append]; show acc.toArray.size + 1 + _ + 1 ≤ _; simp; omega
        clear o1' o2' hy
        go_wp2_with fail
        go_quiet (fail)
        go_wp2
        go_roundw
        case rel => exact ⟨k + 1, hlt, by rw [HT.out, HY.out, ← cat_kind]; rfl, by go_num, Lib.hid (by obtain ⟨n, h⟩ := hwr.out; exact ⟨n + nq, by rw [h, World.drewN_drewN]⟩)⟩
        case measure => simp [RowKit.intOf]; omega
      · rw [hy] at h0
        have HY : Hid (kindB y = UInt8.ofNat 52 :: (y.name.data.toList ++ [32])) := Lib.hid (by rw [kindB, hy]; rfl)
        have q1 : IntKind.i64.wrap 52 = 52 := by decide
        have q2 : IntKind.i32.wrap 52 = 52 := by decide
        have q3 : Utf8.encode 52 = ⟨#[52]⟩ := by kernel_rfl
        have q4 : ((⟨acc.toArray⟩ : ByteArray) ++ ⟨#[52]⟩).size ≤ 9223372036854775807 := by rw [ByteArray.size_append]; show acc.toArray.size + 1 ≤ _; simp; omega
        have q5 : ((⟨acc.toArray⟩ : ByteArray) ++ ⟨#[52]⟩ ++ y.name).size ≤ 9223372036854775807 := by rw [ByteArray.size_append, ByteArray.size_append]; show acc.toArray.size + 1 + _ ≤ _; simp; omega
        have q6 : ((⟨acc.toArray⟩ : ByteArray) ++ ⟨#[52]⟩ ++ y.name ++ ⟨#[32]⟩).size ≤ 9223372036854775807 := by rw [ByteArray.size_append, ByteArray.size_append, ByteArray.size_append]; show acc.toArray.size + 1 + _ + 1 ≤ _; simp; omega
        clear o1' o2' hy
        go_wp2_with fail
        go_quiet (fail)
        go_wp2
        go_roundw
        case rel => exact ⟨k + 1, hlt, by rw [HT.out, HY.out, ← cat_kind]; rfl, by go_num, Lib.hid (by obtain ⟨n, h⟩ := hwr.out; exact ⟨n + nq, by rw [h, World.drewN_drewN]⟩)⟩
        case measure => simp [RowKit.intOf]; omega
      · rw [hy] at h0
        have HY : Hid (kindB y = UInt8.ofNat 53 :: (y.name.data.toList ++ [32])) := Lib.hid (by rw [kindB, hy]; rfl)
        have q1 : IntKind.i64.wrap 53 = 53 := by decide
        have q2 : IntKind.i32.wrap 53 = 53 := by decide
        have q3 : Utf8.encode 53 = ⟨#[53]⟩ := by kernel_rfl
        have q4 : ((⟨acc.toArray⟩ : ByteArray) ++ ⟨#[53]⟩).size ≤ 9223372036854775807 := by rw [ByteArray.size_append]; show acc.toArray.size + 1 ≤ _; simp; omega
        have q5 : ((⟨acc.toArray⟩ : ByteArray) ++ ⟨#[53]⟩ ++ y.name).size ≤ 9223372036854775807 := by rw [ByteArray.size_append, ByteArray.size_append]; show acc.toArray.size + 1 + _ ≤ _; simp; omega
        have q6 : ((⟨acc.toArray⟩ : ByteArray) ++ ⟨#[53]⟩ ++ y.name ++ ⟨#[32]⟩).size ≤ 9223372036854775807 := by rw [ByteArray.size_append, ByteArray.size_append, ByteArray.size_append]; show acc.toArray.size + 1 + _ + 1 ≤ _; simp; omega
        clear o1' o2' hy
        go_wp2_with fail
        go_quiet (fail)
        go_wp2
        go_roundw
        case rel => exact ⟨k + 1, hlt, by rw [HT.out, HY.out, ← cat_kind]; rfl, by go_num, Lib.hid (by obtain ⟨n, h⟩ := hwr.out; exact ⟨n + nq, by rw [h, World.drewN_drewN]⟩)⟩
        case measure => simp [RowKit.intOf]; omega
      · rw [hy] at h0
        have HY : Hid (kindB y = UInt8.ofNat 54 :: (y.name.data.toList ++ [32])) := Lib.hid (by rw [kindB, hy]; rfl)
        have q1 : IntKind.i64.wrap 54 = 54 := by decide
        have q2 : IntKind.i32.wrap 54 = 54 := by decide
        have q3 : Utf8.encode 54 = ⟨#[54]⟩ := by kernel_rfl
        have q4 : ((⟨acc.toArray⟩ : ByteArray) ++ ⟨#[54]⟩).size ≤ 9223372036854775807 := by rw [ByteArray.size_append]; show acc.toArray.size + 1 ≤ _; simp; omega
        have q5 : ((⟨acc.toArray⟩ : ByteArray) ++ ⟨#[54]⟩ ++ y.name).size ≤ 9223372036854775807 := by rw [ByteArray.size_append, ByteArray.size_append]; show acc.toArray.size + 1 + _ ≤ _; simp; omega
        have q6 : ((⟨acc.toArray⟩ : ByteArray) ++ ⟨#[54]⟩ ++ y.name ++ ⟨#[32]⟩).size ≤ 9223372036854775807 := by rw [ByteArray.size_append, ByteArray.size_append, ByteArray.size_append]; show acc.toArray.size + 1 + _ + 1 ≤ _; simp; omega
        clear o1' o2' hy
        go_wp2_with fail
        go_quiet (fail)
        go_wp2
        go_roundw
        case rel => exact ⟨k + 1, hlt, by rw [HT.out, HY.out, ← cat_kind]; rfl, by go_num, Lib.hid (by obtain ⟨n, h⟩ := hwr.out; exact ⟨n + nq, by rw [h, World.drewN_drewN]⟩)⟩
        case measure => simp [RowKit.intOf]; omega
    · obtain rfl : k = xs.length := by omega
      have hlt2 : ¬ ((xs.length : Nat) : Int) < (xs.length : Nat) := by omega
      rw [List.take_length]
      go_wp2
      go_ret
      exact ⟨rfl, hwr.out⟩

end Go.Proofs.Ytoppknnjnfgbiaa
