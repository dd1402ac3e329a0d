/-
  A type's own fields. Condition: at most 2^63 - 1 bytes a name.
-/
import Derived.Test.YtlakmniaocpaaaaM12
import Derived.Test.YtlakmniaocpaaaaM03
namespace Go.Proofs.Ytlakmniaocpaaaa
open Go.RowKit
open Go.Lib hiding intOf
theorem bytes_nil (g : ByteArray) (h : g.toList.isEmpty = true) : g = ⟨#[]⟩ := by
  have e : g.toList = [] := List.isEmpty_iff.1 h
  rw [ByteArray.toList_eq] at e
  obtain ⟨d⟩ := g
  congr 1
  exact Array.toList_eq_nil_iff.1 e
theorem bytes_some {g : ByteArray} (h : ¬ g = ⟨#[]⟩) : g.toList.isEmpty = false := by
  cases h' : g.toList.isEmpty with
  | false => rfl
  | true => exact absurd (bytes_nil g h') h
/-- A type's own fields may be. -/
def fitY (k n : Int) (p m : ByteArray) (N : Nat) : Bool :=
  if k = 0 ∨ k = 1 ∨ k = 2 ∨ k = 3 ∨ k = 7 then decide (p = ⟨#[]⟩) && decide (m = ⟨#[]⟩) && decide (n = 0) && decide (N = 0)
  else if k = 4 then okN p && okN m && decide (n = 0) && decide (N = 0)
  else if k = 5 then decide (p = ⟨#[]⟩) && decide (m = ⟨#[]⟩) && decide (n = 0) && decide (N = 1)
  else if k = 6 then decide (p = ⟨#[]⟩) && okN m && decide (0 ≤ n) && decide (n < 16) && decide (N = 0)
  else false
set_option maxRecDepth 100000 in
set_option maxHeartbeats 8000000 in
theorem fits_any (k n : Int) (p m : ByteArray) (o : Option Addr) (N c : Nat) (w : World) (hp : p.size ≤ 9223372036854775807) (hm : m.size ≤ 9223372036854775807) (hN : N ≤ 9223372036854775807) :
    Calls Try.prog 36 #[.agg #[.int .i64 k, .string p, .string m, .int .i64 n, .slice o N c]] w fun e w' => e = .returned (.bool (fitY k n p m N)) ∧ Below w.heap.size w w' := by
  have hB : Hid (Below w.heap.size w (w.alloc (.cells #[.int .i64 k, .string p, .string m, .int .i64 n, .slice o N c] 34))) := (Below.refl _ _).alloc (Nat.le_refl _) _
  have hK : Hid (Blk (w.alloc (.cells #[.int .i64 k, .string p, .string m, .int .i64 n, .slice o N c] 34)) w.heap.size 34 #[.int .i64 k, .string p, .string m, .int .i64 n, .slice o N c]) := Blk.new w _ _
  have HNP := Lib.hid (fun (W : World) (hk : Blk W w.heap.size 34 #[.int .i64 k, .string p, .string m, .int .i64 n, .slice o N c]) (hb : Below w.heap.size w W) => (nameP_any p W hp).mono fun e W' (h : _ ∧ Below W.heap.size W W') => And.intro h.1 (And.intro (Lib.hid (hb.trans (h.2.mono hb.size))) (Lib.hid (show Blk W' w.heap.size 34 #[.int .i64 k, .string p, .string m, .int .i64 n, .slice o N c] from (h.2.block _ hk.lt).trans hk))))
  have HNM := Lib.hid (fun (W : World) (hk : Blk W w.heap.size 34 #[.int .i64 k, .string p, .string m, .int .i64 n, .slice o N c]) (hb : Below w.heap.size w W) => (nameP_any m W hm).mono fun e W' (h : _ ∧ Below W.heap.size W W') => And.intro h.1 (And.intro (Lib.hid (hb.trans (h.2.mono hb.size))) (Lib.hid (show Blk W' w.heap.size 34 #[.int .i64 k, .string p, .string m, .int .i64 n, .slice o N c] from (h.2.block _ hk.lt).trans hk))))
  by_cases k0 : k = 0
  · subst k0
    by_cases e4 : p = ⟨#[]⟩
    · subst e4
      by_cases e3 : m = ⟨#[]⟩
      · subst e3
        by_cases e2 : n = 0
        · subst e2
          by_cases e1 : N = 0
          · subst e1
            have hr : fitY 0 0 ⟨#[]⟩ ⟨#[]⟩ 0 = true := by simp [fitY]
            rw [hr]
            go_enter Try.func36, Try.ntmps36
            go_wp2
            go_ret
            exact ⟨rfl, hB.out⟩
          · have fe1 : ((N : Int) == 0) = false := beq_eq_false_iff_ne.2 (by omega)
            have hr : fitY 0 0 ⟨#[]⟩ ⟨#[]⟩ N = false := by simp [fitY, e1]
            rw [hr]
            go_enter Try.func36, Try.ntmps36
            go_wp2
            go_ret
            exact ⟨rfl, hB.out⟩
        · have fe2 : (n == 0) = false := beq_eq_false_iff_ne.2 e2
          have hr : fitY 0 n ⟨#[]⟩ ⟨#[]⟩ N = false := by simp [fitY, e2]
          rw [hr]
          go_enter Try.func36, Try.ntmps36
          go_wp2
          go_ret
          exact ⟨rfl, hB.out⟩
      · have fe3 := bytes_some e3
        have hr : fitY 0 n ⟨#[]⟩ m N = false := by simp [fitY, e3]
        rw [hr]
        go_enter Try.func36, Try.ntmps36
        go_wp2
        go_ret
        exact ⟨rfl, hB.out⟩
    · have fe4 := bytes_some e4
      have hr : fitY 0 n p m N = false := by simp [fitY, e4]
      rw [hr]
      go_enter Try.func36, Try.ntmps36
      go_wp2
      go_ret
      exact ⟨rfl, hB.out⟩
  by_cases k1 : k = 1
  · subst k1
    by_cases e4 : p = ⟨#[]⟩
    · subst e4
      by_cases e3 : m = ⟨#[]⟩
      · subst e3
        by_cases e2 : n = 0
        · subst e2
          by_cases e1 : N = 0
          · subst e1
            have hr : fitY 1 0 ⟨#[]⟩ ⟨#[]⟩ 0 = true := by simp [fitY]
            rw [hr]
            go_enter Try.func36, Try.ntmps36
            go_wp2
            go_ret
            exact ⟨rfl, hB.out⟩
          · have fe1 : ((N : Int) == 0) = false := beq_eq_false_iff_ne.2 (by omega)
            have hr : fitY 1 0 ⟨#[]⟩ ⟨#[]⟩ N = false := by simp [fitY, e1]
            rw [hr]
            go_enter Try.func36, Try.ntmps36
            go_wp2
            go_ret
            exact ⟨rfl, hB.out⟩
        · have fe2 : (n == 0) = false := beq_eq_false_iff_ne.2 e2
          have hr : fitY 1 n ⟨#[]⟩ ⟨#[]⟩ N = false := by simp [fitY, e2]
          rw [hr]
          go_enter Try.func36, Try.ntmps36
          go_wp2
          go_ret
          exact ⟨rfl, hB.out⟩
      · have fe3 := bytes_some e3
        have hr : fitY 1 n ⟨#[]⟩ m N = false := by simp [fitY, e3]
        rw [hr]
        go_enter Try.func36, Try.ntmps36
        go_wp2
        go_ret
        exact ⟨rfl, hB.out⟩
    · have fe4 := bytes_some e4
      have hr : fitY 1 n p m N = false := by simp [fitY, e4]
      rw [hr]
      go_enter Try.func36, Try.ntmps36
      go_wp2
      go_ret
      exact ⟨rfl, hB.out⟩
  by_cases k2 : k = 2
  · subst k2
    by_cases e4 : p = ⟨#[]⟩
    · subst e4
      by_cases e3 : m = ⟨#[]⟩
      · subst e3
        by_cases e2 : n = 0
        · subst e2
          by_cases e1 : N = 0
          · subst e1
            have hr : fitY 2 0 ⟨#[]⟩ ⟨#[]⟩ 0 = true := by simp [fitY]
            rw [hr]
            go_enter Try.func36, Try.ntmps36
            go_wp2
            go_ret
            exact ⟨rfl, hB.out⟩
          · have fe1 : ((N : Int) == 0) = false := beq_eq_false_iff_ne.2 (by omega)
            have hr : fitY 2 0 ⟨#[]⟩ ⟨#[]⟩ N = false := by simp [fitY, e1]
            rw [hr]
            go_enter Try.func36, Try.ntmps36
            go_wp2
            go_ret
            exact ⟨rfl, hB.out⟩
        · have fe2 : (n == 0) = false := beq_eq_false_iff_ne.2 e2
          have hr : fitY 2 n ⟨#[]⟩ ⟨#[]⟩ N = false := by simp [fitY, e2]
          rw [hr]
          go_enter Try.func36, Try.ntmps36
          go_wp2
          go_ret
          exact ⟨rfl, hB.out⟩
      · have fe3 := bytes_some e3
        have hr : fitY 2 n ⟨#[]⟩ m N = false := by simp [fitY, e3]
        rw [hr]
        go_enter Try.func36, Try.ntmps36
        go_wp2
        go_ret
        exact ⟨rfl, hB.out⟩
    · have fe4 := bytes_some e4
      have hr : fitY 2 n p m N = false := by simp [fitY, e4]
      rw [hr]
      go_enter Try.func36, Try.ntmps36
      go_wp2
      go_ret
      exact ⟨rfl, hB.out⟩
  by_cases k3 : k = 3
  · subst k3
    by_cases e4 : p = ⟨#[]⟩
    · subst e4
      by_cases e3 : m = ⟨#[]⟩
      · subst e3
        by_cases e2 : n = 0
        · subst e2
          by_cases e1 : N = 0
          · subst e1
            have hr : fitY 3 0 ⟨#[]⟩ ⟨#[]⟩ 0 = true := by simp [fitY]
            rw [hr]
            go_enter Try.func36, Try.ntmps36
            go_wp2
            go_ret
            exact ⟨rfl, hB.out⟩
          · have fe1 : ((N : Int) == 0) = false := beq_eq_false_iff_ne.2 (by omega)
            have hr : fitY 3 0 ⟨#[]⟩ ⟨#[]⟩ N = false := by simp [fitY, e1]
            rw [hr]
            go_enter Try.func36, Try.ntmps36
            go_wp2
            go_ret
            exact ⟨rfl, hB.out⟩
        · have fe2 : (n == 0) = false := beq_eq_false_iff_ne.2 e2
          have hr : fitY 3 n ⟨#[]⟩ ⟨#[]⟩ N = false := by simp [fitY, e2]
          rw [hr]
          go_enter Try.func36, Try.ntmps36
          go_wp2
          go_ret
          exact ⟨rfl, hB.out⟩
      · have fe3 := bytes_some e3
        have hr : fitY 3 n ⟨#[]⟩ m N = false := by simp [fitY, e3]
        rw [hr]
        go_enter Try.func36, Try.ntmps36
        go_wp2
        go_ret
        exact ⟨rfl, hB.out⟩
    · have fe4 := bytes_some e4
      have hr : fitY 3 n p m N = false := by simp [fitY, e4]
      rw [hr]
      go_enter Try.func36, Try.ntmps36
      go_wp2
      go_ret
      exact ⟨rfl, hB.out⟩
  by_cases k7 : k = 7
  · subst k7
    by_cases e4 : p = ⟨#[]⟩
    · subst e4
      by_cases e3 : m = ⟨#[]⟩
      · subst e3
        by_cases e2 : n = 0
        · subst e2
          by_cases e1 : N = 0
          · subst e1
            have hr : fitY 7 0 ⟨#[]⟩ ⟨#[]⟩ 0 = true := by simp [fitY]
            rw [hr]
            go_enter Try.func36, Try.ntmps36
            go_wp2
            go_ret
            exact ⟨rfl, hB.out⟩
          · have fe1 : ((N : Int) == 0) = false := beq_eq_false_iff_ne.2 (by omega)
            have hr : fitY 7 0 ⟨#[]⟩ ⟨#[]⟩ N = false := by simp [fitY, e1]
            rw [hr]
            go_enter Try.func36, Try.ntmps36
            go_wp2
            go_ret
            exact ⟨rfl, hB.out⟩
        · have fe2 : (n == 0) = false := beq_eq_false_iff_ne.2 e2
          have hr : fitY 7 n ⟨#[]⟩ ⟨#[]⟩ N = false := by simp [fitY, e2]
          rw [hr]
          go_enter Try.func36, Try.ntmps36
          go_wp2
          go_ret
          exact ⟨rfl, hB.out⟩
      · have fe3 := bytes_some e3
        have hr : fitY 7 n ⟨#[]⟩ m N = false := by simp [fitY, e3]
        rw [hr]
        go_enter Try.func36, Try.ntmps36
        go_wp2
        go_ret
        exact ⟨rfl, hB.out⟩
    · have fe4 := bytes_some e4
      have hr : fitY 7 n p m N = false := by simp [fitY, e4]
      rw [hr]
      go_enter Try.func36, Try.ntmps36
      go_wp2
      go_ret
      exact ⟨rfl, hB.out⟩
  by_cases k4 : k = 4
  · subst k4
    cases okp : okN p
    · rw [okp] at HNP
      have hr : fitY 4 n p m N = false := by simp [fitY, okp]
      rw [hr]
      clear hr okp
      go_enter Try.func36, Try.ntmps36
      go_wp2_with (refine (HNP.out _ hK.out hB.out).mono ?_; rintro e w5 ⟨rfl, HB5, HK5⟩; have q2 := HK5.out.cell 2; have q3 := HK5.out.cell 3; have q4 := HK5.out.cell 4; simp only [List.getElem?_toArray, List.getElem?_cons_succ, List.getElem?_cons_zero] at q2 q3 q4)
      go_ret
      exact ⟨rfl, HB5.out⟩
    · rw [okp] at HNP
      cases okm : okN m
      · rw [okm] at HNM
        have hr : fitY 4 n p m N = false := by simp [fitY, okp, okm]
        rw [hr]
        clear hr okp okm
        go_enter Try.func36, Try.ntmps36
        go_wp2_with (first | (refine (HNM.out _ HK4.out HB4.out).mono ?_; rintro e w5 ⟨rfl, HB5, HK5⟩; clear q2 q3 q4; have q2 := HK5.out.cell 2; have q3 := HK5.out.cell 3; have q4 := HK5.out.cell 4; simp only [List.getElem?_toArray, List.getElem?_cons_succ, List.getElem?_cons_zero] at q2 q3 q4) | (refine (HNP.out _ hK.out hB.out).mono ?_; rintro e w4 ⟨rfl, HB4, HK4⟩; have q2 := HK4.out.cell 2; have q3 := HK4.out.cell 3; have q4 := HK4.out.cell 4; simp only [List.getElem?_toArray, List.getElem?_cons_succ, List.getElem?_cons_zero] at q2 q3 q4))
        go_ret
        exact ⟨rfl, HB5.out⟩
      · rw [okm] at HNM
        by_cases e2 : n = 0
        · subst e2
          by_cases e1 : N = 0
          · subst e1
            have hr : fitY 4 0 p m 0 = true := by simp [fitY, okp, okm]
            rw [hr]
            clear hr okp okm
            go_enter Try.func36, Try.ntmps36
            go_wp2_with (first | (refine (HNM.out _ HK4.out HB4.out).mono ?_; rintro e w5 ⟨rfl, HB5, HK5⟩; clear q2 q3 q4; have q2 := HK5.out.cell 2; have q3 := HK5.out.cell 3; have q4 := HK5.out.cell 4; simp only [List.getElem?_toArray, List.getElem?_cons_succ, List.getElem?_cons_zero] at q2 q3 q4) | (refine (HNP.out _ hK.out hB.out).mono ?_; rintro e w4 ⟨rfl, HB4, HK4⟩; have q2 := HK4.out.cell 2; have q3 := HK4.out.cell 3; have q4 := HK4.out.cell 4; simp only [List.getElem?_toArray, List.getElem?_cons_succ, List.getElem?_cons_zero] at q2 q3 q4))
            go_ret
            exact ⟨rfl, HB5.out⟩
          · have fe1 : ((N : Int) == 0) = false := beq_eq_false_iff_ne.2 (by omega)
            have hr : fitY 4 0 p m N = false := by simp [fitY, okp, okm, e1]
            rw [hr]
            clear hr okp okm
            go_enter Try.func36, Try.ntmps36
            go_wp2_with (first | (refine (HNM.out _ HK4.out HB4.out).mono ?_; rintro e w5 ⟨rfl, HB5, HK5⟩; clear q2 q3 q4; have q2 := HK5.out.cell 2; have q3 := HK5.out.cell 3; have q4 := HK5.out.cell 4; simp only [List.getElem?_toArray, List.getElem?_cons_succ, List.getElem?_cons_zero] at q2 q3 q4) | (refine (HNP.out _ hK.out hB.out).mono ?_; rintro e w4 ⟨rfl, HB4, HK4⟩; have q2 := HK4.out.cell 2; have q3 := HK4.out.cell 3; have q4 := HK4.out.cell 4; simp only [List.getElem?_toArray, List.getElem?_cons_succ, List.getElem?_cons_zero] at q2 q3 q4))
            go_ret
            exact ⟨rfl, HB5.out⟩
        · have fe2 : (n == 0) = false := beq_eq_false_iff_ne.2 e2
          have hr : fitY 4 n p m N = false := by simp [fitY, okp, okm, e2]
          rw [hr]
          clear hr okp okm
          go_enter Try.func36, Try.ntmps36
          go_wp2_with (first | (refine (HNM.out _ HK4.out HB4.out).mono ?_; rintro e w5 ⟨rfl, HB5, HK5⟩; clear q2 q3 q4; have q2 := HK5.out.cell 2; have q3 := HK5.out.cell 3; have q4 := HK5.out.cell 4; simp only [List.getElem?_toArray, List.getElem?_cons_succ, List.getElem?_cons_zero] at q2 q3 q4) | (refine (HNP.out _ hK.out hB.out).mono ?_; rintro e w4 ⟨rfl, HB4, HK4⟩; have q2 := HK4.out.cell 2; have q3 := HK4.out.cell 3; have q4 := HK4.out.cell 4; simp only [List.getElem?_toArray, List.getElem?_cons_succ, List.getElem?_cons_zero] at q2 q3 q4))
          go_ret
          exact ⟨rfl, HB5.out⟩
  by_cases k5 : k = 5
  · subst k5
    by_cases e4 : p = ⟨#[]⟩
    · subst e4
      by_cases e3 : m = ⟨#[]⟩
      · subst e3
        by_cases e2 : n = 0
        · subst e2
          by_cases e1 : N = 1
          · subst e1
            have hr : fitY 5 0 ⟨#[]⟩ ⟨#[]⟩ 1 = true := by simp [fitY]
            rw [hr]
            go_enter Try.func36, Try.ntmps36
            go_wp2
            go_ret
            exact ⟨rfl, hB.out⟩
          · have fe1 : ((N : Int) == 1) = false := beq_eq_false_iff_ne.2 (by omega)
            have hr : fitY 5 0 ⟨#[]⟩ ⟨#[]⟩ N = false := by simp [fitY, e1]
            rw [hr]
            go_enter Try.func36, Try.ntmps36
            go_wp2
            go_ret
            exact ⟨rfl, hB.out⟩
        · have fe2 : (n == 0) = false := beq_eq_false_iff_ne.2 e2
          have hr : fitY 5 n ⟨#[]⟩ ⟨#[]⟩ N = false := by simp [fitY, e2]
          rw [hr]
          go_enter Try.func36, Try.ntmps36
          go_wp2
          go_ret
          exact ⟨rfl, hB.out⟩
      · have fe3 := bytes_some e3
        have hr : fitY 5 n ⟨#[]⟩ m N = false := by simp [fitY, e3]
        rw [hr]
        go_enter Try.func36, Try.ntmps36
        go_wp2
        go_ret
        exact ⟨rfl, hB.out⟩
    · have fe4 := bytes_some e4
      have hr : fitY 5 n p m N = false := by simp [fitY, e4]
      rw [hr]
      go_enter Try.func36, Try.ntmps36
      go_wp2
      go_ret
      exact ⟨rfl, hB.out⟩
  by_cases k6 : k = 6
  · subst k6
    by_cases e5 : p = ⟨#[]⟩
    · subst e5
      cases okm : okN m
      · rw [okm] at HNM
        have hr : fitY 6 n ⟨#[]⟩ m N = false := by simp [fitY, okm]
        rw [hr]
        clear hr okm
        go_enter Try.func36, Try.ntmps36
        go_wp2_with (refine (HNM.out _ hK.out hB.out).mono ?_; rintro e w5 ⟨rfl, HB5, HK5⟩; have q2 := HK5.out.cell 2; have q3 := HK5.out.cell 3; have q4 := HK5.out.cell 4; simp only [List.getElem?_toArray, List.getElem?_cons_succ, List.getElem?_cons_zero] at q2 q3 q4)
        go_ret
        exact ⟨rfl, HB5.out⟩
      · rw [okm] at HNM
        by_cases e3 : (0 : Int) ≤ n
        · have fe3 : decide ((0 : Int) ≤ n) = true := decide_eq_true e3
          by_cases e2 : n < 16
          · have fe2 : decide (n < 16) = true := decide_eq_true e2
            by_cases e1 : N = 0
            · subst e1
              have hr : fitY 6 n ⟨#[]⟩ m 0 = true := by simp [fitY, okm, e3, e2]
              rw [hr]
              clear hr okm
              go_enter Try.func36, Try.ntmps36
              go_wp2_with (refine (HNM.out _ hK.out hB.out).mono ?_; rintro e w5 ⟨rfl, HB5, HK5⟩; have q2 := HK5.out.cell 2; have q3 := HK5.out.cell 3; have q4 := HK5.out.cell 4; simp only [List.getElem?_toArray, List.getElem?_cons_succ, List.getElem?_cons_zero] at q2 q3 q4)
              go_ret
              exact ⟨rfl, HB5.out⟩
            · have fe1 : ((N : Int) == 0) = false := beq_eq_false_iff_ne.2 (by omega)
              have hr : fitY 6 n ⟨#[]⟩ m N = false := by simp [fitY, okm, e3, e2, e1]
              rw [hr]
              clear hr okm
              go_enter Try.func36, Try.ntmps36
              go_wp2_with (refine (HNM.out _ hK.out hB.out).mono ?_; rintro e w5 ⟨rfl, HB5, HK5⟩; have q2 := HK5.out.cell 2; have q3 := HK5.out.cell 3; have q4 := HK5.out.cell 4; simp only [List.getElem?_toArray, List.getElem?_cons_succ, List.getElem?_cons_zero] at q2 q3 q4)
              go_ret
              exact ⟨rfl, HB5.out⟩
          · have fe2 : decide (n < 16) = false := decide_eq_false e2
            have hr : fitY 6 n ⟨#[]⟩ m N = false := by simp [fitY, okm, e3, e2]
            rw [hr]
            clear hr okm
            go_enter Try.func36, Try.ntmps36
            go_wp2_with (refine (HNM.out _ hK.out hB.out).mono ?_; rintro e w5 ⟨rfl, HB5, HK5⟩; have q2 := HK5.out.cell 2; have q3 := HK5.out.cell 3; have q4 := HK5.out.cell 4; simp only [List.getElem?_toArray, List.getElem?_cons_succ, List.getElem?_cons_zero] at q2 q3 q4)
            go_ret
            exact ⟨rfl, HB5.out⟩
        · have fe3 : decide ((0 : Int) ≤ n) = false := decide_eq_false e3
          have hr : fitY 6 n ⟨#[]⟩ m N = false := by simp [fitY, okm, e3]
          rw [hr]
          clear hr okm
          go_enter Try.func36, Try.ntmps36
          go_wp2_with (refine (HNM.out _ hK.out hB.out).mono ?_; rintro e w5 ⟨rfl, HB5, HK5⟩; have q2 := HK5.out.cell 2; have q3 := HK5.out.cell 3; have q4 := HK5.out.cell 4; simp only [List.getElem?_toArray, List.getElem?_cons_succ, List.getElem?_cons_zero] at q2 q3 q4)
          go_ret
          exact ⟨rfl, HB5.out⟩
    · have fe5 := bytes_some e5
      have hr : fitY 6 n p m N = false := by simp [fitY, e5]
      rw [hr]
      go_enter Try.func36, Try.ntmps36
      go_wp2
      go_ret
      exact ⟨rfl, hB.out⟩
  have hr : fitY k n p m N = false := by unfold fitY; rw [if_neg (by omega), if_neg k4, if_neg k5, if_neg k6]
  rw [hr]
  have g0 : (k == 0) = false := beq_eq_false_iff_ne.2 k0
  have g1 : (k == 1) = false := beq_eq_false_iff_ne.2 k1
  have g2 : (k == 2) = false := beq_eq_false_iff_ne.2 k2
  have g3 : (k == 3) = false := beq_eq_false_iff_ne.2 k3
  have g4 : (k == 4) = false := beq_eq_false_iff_ne.2 k4
  have g5 : (k == 5) = false := beq_eq_false_iff_ne.2 k5
  have g6 : (k == 6) = false := beq_eq_false_iff_ne.2 k6
  have g7 : (k == 7) = false := beq_eq_false_iff_ne.2 k7
  go_enter Try.func36, Try.ntmps36
  go_wp2
  go_ret
  exact ⟨rfl, hB.out⟩
end Go.Proofs.Ytlakmniaocpaaaa
