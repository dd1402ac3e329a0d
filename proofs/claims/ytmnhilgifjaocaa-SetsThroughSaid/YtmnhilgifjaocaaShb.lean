/-
  The statements' own: how many parts, what could not be made out. No condition.
-/
import Derived.Test.YtmnhilgifjaocaaSha
namespace Go.Proofs.Ytmnhilgifjaocaa
open Go.RowKit
open Go.Lib hiding intOf

theorem badys_none {l : List GY} (h : ∀ (i : Nat) (x : GY), l[i]? = some x → badY x = false) : badYs l = false := by
  induction l with
  | nil => rw [badYs]
  | cons a r ih => rw [badYs, h 0 a rfl, ih fun i x hx => h (i + 1) x (by simpa using hx)]; rfl
theorem badys_some : ∀ {l : List GY} {i : Nat} {x : GY}, l[i]? = some x → badY x = true → badYs l = true
  | [], _, _, h, _ => by simp at h
  | a :: r, 0, x, h, hx => by
    simp only [List.getElem?_cons_zero, Option.some.injEq] at h
    subst h
    rw [badYs, hx]; rfl
  | a :: r, i + 1, x, h, hx => by
    rw [badYs, badys_some (l := r) (i := i) (by simpa using h) hx, Bool.or_true]

set_option maxRecDepth 100000 in
set_option maxHeartbeats 8000000 in
theorem parts_any : ∀ (s : Nat) (x : GY) (v : Value) (q : Int) (w : World), SizeOf.sizeOf x < s → IsY w x v → 0 ≤ q → q ≤ 60 →
    Calls Try.prog 29 #[v, .int .i64 q] w fun e w' => (∃ m : Int, e = .returned (.int .i64 m) ∧ q < m ∧ m ≤ 61) ∧ Below w.heap.size w w' := by
  intro s
  induction s with
  | zero => intro x v q w h; omega
  | succ s ih =>
  rintro ⟨k, p, m, n, l⟩ v q w hs hv hq0 hq1
  obtain ⟨o, c, rfl, hl, hc, ha⟩ := hv.parts
  have hq : l.length ≤ 9223372036854775807 := by unfold maxLen at hc; omega
  have HI : Hid (∀ z ∈ l, ∀ (v : Value) (q : Int) (W : World), IsY W z v → 0 ≤ q → q ≤ 60 → Calls Try.prog 29 #[v, .int .i64 q] W fun e W' => (∃ m : Int, e = .returned (.int .i64 m) ∧ q < m ∧ m ≤ 61) ∧ Below W.heap.size W W') :=
    fun z hz v q W hv => ih z v q W (by have := List.sizeOf_lt_of_mem hz; simp at hs; omega) hv
  have HX := Lib.hid ha
  clear ih hv ha hl hc hs
  obtain ⟨N, hN⟩ : ∃ N, l.length = N := ⟨_, rfl⟩
  rw [hN] at hq ⊢
  have HN := Lib.hid hN
  clear hN
  obtain ⟨W2, hW2, HBX⟩ := bx1 w #[.int .i64 k, .string p, .string m, .int .i64 n, .slice o N c] 29
  have HW2 := Lib.hid hW2
  have HB0 := Lib.hid (Nat.zero_le N)
  have hwq := IntWalk.i64_in (q + 1) ⟨by omega, by omega⟩
  have HQ : Hid (q < q + 1 ∧ q + 1 ≤ 61) := by show _ ∧ _; omega
  clear hW2
  go_enter Try.func29, Try.ntmps29
  go_wp2
  rw [HW2.out]
  go_loopw [5, 1] (fun i t wr => ∃ (j : Nat) (r : Int), i = .int .i64 (j : Nat) ∧ t = .int .i64 r ∧ Hid (j ≤ N) ∧ Hid (q < r ∧ r ≤ 61) ∧ Hid (Below W2.heap.size W2 wr)) (fun i _ _ => N - (RowKit.intOf i).toNat)
  case atStart => exact ⟨0, _, rfl, rfl, HB0, HQ, Below.refl _ _⟩
  case round =>
    obtain ⟨j, r, rfl, rfl, HJ, HRR, HR⟩ := hrel
    clear HB0 HW2 HQ hwq
    have c4 : wr.cell? ⟨w.heap.size, 4, none⟩ = some (.slice o N c) := (HBX.out.at_ HR.out 0 rfl).cell 4
    have hww := HBX.out.below HR.out
    have HWW := Lib.hid hww
    by_cases hj : j < N
    · have hj' : ((j : Int) < (N : Int)) := by omega
      have hj0 : (0 : Int) ≤ (j : Int) := by omega
      have hwj := IntWalk.i64_in ((j : Int) + 1) ⟨by omega, by omega⟩
      by_cases hr : r ≤ 60
      · obtain ⟨x, hx⟩ : ∃ x, l[j]? = some x := ⟨_, List.getElem?_eq_getElem (by rw [HN.out]; exact hj)⟩
        have hmem := List.mem_of_getElem? hx
        obtain ⟨a, a0, a1, a2, a3, a4, rfl, hc, hyx⟩ := HX.out.at_ j hx
        rw [Nat.zero_add] at hc
        have HC := Lib.hid (mvc hww hc)
        have HF := Lib.hid (HI.out x hmem _ r wr (hyx.below hww) (by have := HRR.out.1; omega) hr)
        have e0 := at0 (HC.out 0 _ rfl)
        have e1 := atS (HC.out 1 _ rfl)
        have e2 := atS (HC.out 2 _ rfl)
        have e3 := atS (HC.out 3 _ rfl)
        have e4 := atS (HC.out 4 _ rfl)
        clear hc hyx hmem hww hx
        go_wp2_with fail
        refine HF.out.mono ?_
        rintro e w5 ⟨⟨r2, rfl, h1, h2⟩, hb⟩
        have HR5 := Lib.hid (stepB HR.out hb (Nat.le_refl _))
        have HR2 : Hid (q < r2 ∧ r2 ≤ 61) := ⟨by have := HRR.out.1; omega, h2⟩
        clear hb HC HF h1 h2 e0 e1 e2 e3 e4 c4
        go_wp2
        case roundEnd => exact ⟨⟨j + 1, r2, by push_cast; rfl, rfl, hj, HR2, HR5⟩, by simp [RowKit.intOf]; omega⟩
      · have hr' : ¬ r ≤ 60 := hr
        clear hww
        go_wp2
        go_ret
        exact ⟨⟨r, rfl, HRR.out⟩, HWW.out⟩
    · have hj' : ¬ ((j : Int) < (N : Int)) := by omega
      clear hj hww
      go_wp2
      go_ret
      exact ⟨⟨r, rfl, HRR.out⟩, HWW.out⟩

set_option maxRecDepth 100000 in
set_option maxHeartbeats 8000000 in
theorem bad_any : ∀ (s : Nat) (x : GY) (v : Value) (w : World), SizeOf.sizeOf x < s → IsY w x v →
    Calls Try.prog 48 #[v] w fun e w' => e = .returned (.bool (badY x)) ∧ Below w.heap.size w w' := by
  intro s
  induction s with
  | zero => intro x v w h; omega
  | succ s ih =>
  rintro ⟨k, p, m, n, l⟩ v w hs hv
  have HA : Hid (badY (.mk k p m n l) = (decide (k = 0) || badYs l)) := by show _ = _; rw [badY]
  obtain ⟨o, c, rfl, hl, hc, ha⟩ := hv.parts
  have hq : l.length ≤ 9223372036854775807 := by unfold maxLen at hc; omega
  have HI : Hid (∀ z ∈ l, ∀ (v : Value) (W : World), IsY W z v → Calls Try.prog 48 #[v] W fun e W' => e = .returned (.bool (badY z)) ∧ Below W.heap.size W W') :=
    fun z hz v W hv => ih z v W (by have := List.sizeOf_lt_of_mem hz; simp at hs; omega) hv
  have HX := Lib.hid ha
  generalize badY (.mk k p m n l) = R at *
  clear ih hv ha hl hc hs
  obtain ⟨N, hN⟩ : ∃ N, l.length = N := ⟨_, rfl⟩
  rw [hN] at hq ⊢
  have HN := Lib.hid hN
  clear hN
  obtain ⟨W2, hW2, HBX⟩ := bx1 w #[.int .i64 k, .string p, .string m, .int .i64 n, .slice o N c] 29
  have hb1 := HBX.out.2.1
  rw [← hW2] at hb1
  have HB1 := Lib.hid hb1
  have HW2 := Lib.hid hW2
  have HB0 := Lib.hid (Nat.zero_le N)
  clear hb1 hW2
  by_cases hk : k = 0
  · subst hk
    have HQ : Hid (R = true) := HA.out
    go_enter Try.func48, Try.ntmps48
    go_wp2
    go_ret
    rw [HQ.out]
    exact ⟨rfl, HB1.out⟩
  · have hkb : (k == 0) = false := by simpa using hk
    have HA1 : Hid (R = badYs l) := by rw [HA.out, decide_eq_false hk]; exact Bool.false_or _
    clear HA hk
    go_enter Try.func48, Try.ntmps48
    go_wp2
    rw [HW2.out]
    go_loopw [3] (fun i wr => ∃ j : Nat, i = .int .i64 (j : Nat) ∧ Hid (j ≤ N) ∧ Hid (∀ (i : Nat) (a : GY), i < j → l[i]? = some a → badY a = false) ∧ Hid (Below W2.heap.size W2 wr)) (fun i _ => N - (RowKit.intOf i).toNat)
    case atStart => exact ⟨0, rfl, HB0, fun i a h => by omega, Below.refl _ _⟩
    case round =>
      obtain ⟨j, rfl, HJ, HU, HR⟩ := hrel
      clear HB0 HW2
      have c4 : wr.cell? ⟨w.heap.size, 4, none⟩ = some (.slice o N c) := (HBX.out.at_ HR.out 0 rfl).cell 4
      have hww := HBX.out.below HR.out
      have HWW := Lib.hid hww
      by_cases hj : j < N
      · have hj' : ((j : Int) < (N : Int)) := by omega
        have hj0 : (0 : Int) ≤ (j : Int) := by omega
        have hwj := IntWalk.i64_in ((j : Int) + 1) ⟨by omega, by omega⟩
        obtain ⟨x, hx⟩ : ∃ x, l[j]? = some x := ⟨_, List.getElem?_eq_getElem (by rw [HN.out]; exact hj)⟩
        have hmem := List.mem_of_getElem? hx
        obtain ⟨a, a0, a1, a2, a3, a4, rfl, hc, hyx⟩ := HX.out.at_ j hx
        rw [Nat.zero_add] at hc
        have HC := Lib.hid (mvc hww hc)
        have HF := Lib.hid (HI.out x hmem _ wr (hyx.below hww))
        have HXX := Lib.hid hx
        have e0 := at0 (HC.out 0 _ rfl)
        have e1 := atS (HC.out 1 _ rfl)
        have e2 := atS (HC.out 2 _ rfl)
        have e3 := atS (HC.out 3 _ rfl)
        have e4 := atS (HC.out 4 _ rfl)
        clear hc hyx hmem hww hx
        go_wp2_with fail
        refine HF.out.mono ?_
        rintro e w5 ⟨rfl, hb⟩
        have HR5 := Lib.hid (stepB HR.out hb (Nat.le_refl _))
        clear hb HC HF e0 e1 e2 e3 e4 c4
        cases hbx : badY x with
        | true =>
          have HQ : Hid (R = true) := HA1.out.trans (badys_some HXX.out hbx)
          clear hbx
          go_wp2
          go_ret
          rw [HQ.out]
          exact ⟨rfl, HBX.out.below HR5.out⟩
        | false =>
          have HU2 : Hid (∀ (i : Nat) (a : GY), i < j + 1 → l[i]? = some a → badY a = false) := fun i a hi hx => by
            by_cases e : i < j
            · exact HU.out i a e hx
            · obtain rfl : i = j := by omega
              rw [HXX.out] at hx
              cases hx
              exact hbx
          clear hbx
          go_wp2
          case roundEnd => exact ⟨⟨j + 1, by push_cast; rfl, hj, HU2, HR5⟩, by simp [RowKit.intOf]; omega⟩
      · have hj' : ¬ ((j : Int) < (N : Int)) := by omega
        have HQ : Hid (R = false) := HA1.out.trans (badys_none fun i x hx => HU.out i x (by have h1 := (List.getElem?_eq_some_iff.1 hx).1; rw [HN.out] at h1; omega) hx)
        clear hj hww
        go_wp2
        go_ret
        rw [HQ.out]
        exact ⟨rfl, HWW.out⟩
end Go.Proofs.Ytmnhilgifjaocaa
