/-
  The document's own small functions on types, against the plain ones: Ints, Check, Text. Condition: names of at most 2^63 - 1 bytes; lists of at most 1000 numbers.
-/
import Derived.Test.YtofdejoeheokjaaTsc
import Derived.Test.YtofdejoeheokjaaTsf
import Derived.Test.YtofdejoeheokjaaTpg
import Derived.BigQuiet
namespace Go.Proofs.Ytofdejoeheokjaa.ref
open Go.RowKit
open Go.Lib hiding intOf

theorem quietB (w : World) (n : Nat) : Below w.heap.size w (w.drewN n) := ⟨rfl, rfl, rfl, Nat.le_refl _, fun _ _ => rfl⟩
structure Bx (w W : World) (A : Array Value) : Prop where
  b0 : Blk W w.heap.size 25 A
  below : Below w.heap.size w W
theorem Bx.step {w W W' : World} {A : Array Value} (h : Bx w W A) (hb : Below W.heap.size W W') : Bx w W' A :=
  ⟨(hb.block _ h.b0.lt).trans h.b0, h.below.trans (hb.mono h.below.size)⟩
theorem made (W : World) (A : Array Value) : ∃ W', W.alloc (.cells A 25) = W' ∧ Bx W W' A := ⟨_, rfl, Blk.new W _ _, (Below.refl _ _).alloc (Nat.le_refl _) _⟩
theorem five {w : World} {x : GY} {v : Value} (h : IsY w x v) : ∃ c0 c1 c2 c3 c4 : Value, v = .agg #[c0, c1, c2, c3, c4] := by
  obtain ⟨k, p, m, n, l⟩ := x
  obtain ⟨o, c, rfl, _⟩ := h.parts
  exact ⟨_, _, _, _, _, rfl⟩

set_option maxRecDepth 100000 in
set_option maxHeartbeats 4000000 in
/-- A row of numbers against itself. -/
theorem ints_same (L : List Int) (o o' : Option Addr) (n c c' : Nat) (w : World) (hn : L.length = n) (hb : n ≤ 1000) (hz : IsZ w o L) (hz' : IsZ w o' L) :
    Calls Try.prog 12 #[.slice o n c, .slice o' n c'] w fun e w' => e = .returned (.bool true) ∧ Below w.heap.size w w' := by
  have HN := Lib.hid hn
  have HZ := Lib.hid hz
  have HZ' := Lib.hid hz'
  clear hn hz hz'
  go_enter Try.func12, Try.ntmps12
  go_wp2
  go_loopw [5] (fun i wr => ∃ j : Nat, i = .int .i64 (j : Nat) ∧ Hid (j ≤ n) ∧ Hid (Below w.heap.size w wr)) (fun i _ => n - (RowKit.intOf i).toNat)
  case atStart => exact ⟨0, rfl, Nat.zero_le _, Below.refl _ _⟩
  case round =>
    obtain ⟨j, rfl, HJ, HB⟩ := hrel
    by_cases hj : j < n
    · have hj' : ((j : Int) < (n : Int)) := by omega
      have hj0 : (0 : Int) ≤ (j : Int) := by omega
      have hwj := IntWalk.i64_in ((j : Int) + 1) ⟨by omega, by omega⟩
      obtain ⟨x, hx⟩ : ∃ x, L[j]? = some x := ⟨_, List.getElem?_eq_getElem (by rw [HN.out]; exact hj)⟩
      obtain ⟨a, rfl, hcx⟩ := (HZ.out.below HB.out) j x hx
      obtain ⟨a', rfl, hcy⟩ := (HZ'.out.below HB.out) j x hx
      have HJN := Lib.hid hj
      clear hx hj
      go_wp2_with fail
      go_quiet (fail)
      go_wp2
      case roundEnd => exact ⟨⟨j + 1, by push_cast; rfl, HJN.out, HB.out.trans ((quietB _ _).mono HB.out.size)⟩, by have := HJN.out; simp [RowKit.intOf]; omega⟩
    · have hj' : ¬ ((j : Int) < (n : Int)) := by omega
      go_wp2
      go_ret
      exact ⟨rfl, HB.out⟩

theorem chk_else {d : Nat} {t : GY} (h : chkY okN d t = true → False) : chkY okN d t = false := by
  cases hc : chkY okN d t with
  | false => rfl
  | true => exact (h hc).elim

set_option maxRecDepth 100000 in
set_option maxHeartbeats 8000000 in
/-- The document's check at a depth. -/
theorem check_any (q : Nat) (hq : q ≤ 9223372036854775807) : ∀ (s : Nat) (t : GY) (v : Value) (d : Nat) (z : Int) (w : World), SizeOf.sizeOf t < s → FitY q t → d ≤ 30 → z = (d : Int) → IsY w t v →
    Calls Try.prog 33 #[v, .int .i64 z] w fun e w' => e = .returned (.bool (chkY okN d t)) ∧ Below w.heap.size w w' := by
  intro s
  induction s with
  | zero => intro t v d z w h; omega
  | succ s ih =>
  rintro ⟨k, p, m, n, l⟩ v d z w hs hf hd hz hv
  obtain ⟨o, c, rfl, hl, hc, ha⟩ := hv.parts
  unfold FitY at hf
  obtain ⟨f1, f2, f3, f4⟩ := hf
  have HM := Lib.hid (fun W => nameR_any m W (Nat.le_trans f2 hq))
  have HP := Lib.hid (fun W => nameR_any p W (Nat.le_trans f1 hq))
  obtain ⟨N, hN⟩ : ∃ N, l.length = N := ⟨_, rfl⟩
  have hNz : N = 0 → l = [] := fun e => List.length_eq_zero_iff.1 (hN.trans e)
  have hNz' : l = [] → N = 0 := fun e => by rw [← hN, e]; rfl
  have hNm : N ≤ 9223372036854775807 := by unfold maxLen at hc; omega
  obtain ⟨W1, hW1, hb1⟩ := made w #[.int .i64 k, .string p, .string m, .int .i64 n, .slice o l.length c]
  rw [hN] at hW1 hb1 ⊢
  have HB := Lib.hid hb1
  have HW1 := Lib.hid hW1
  have q0 := hb1.b0.cell 0
  have q1 := hb1.b0.cell 1
  have q2 := hb1.b0.cell 2
  have q3 := hb1.b0.cell 3
  have q4 := hb1.b0.cell 4
  simp only [List.getElem?_toArray, List.getElem?_cons_succ, List.getElem?_cons_zero] at q0 q1 q2 q3 q4
  have HA := Lib.hid ha
  have HF4 := Lib.hid f4
  have HIH := Lib.hid ih
  have HS := Lib.hid hs
  clear hW1 hb1 hv ha ih hs f1 f2 f3 f4 hl hc hq
  by_cases hk0 : k < 0
  · have dk0 := decide_eq_true hk0
    rw [show chkY okN d (.mk k p m n l) = false from chk_else fun h => by rcases (chk_iff okN).1 h with ⟨h0, h1, h2, h3, h4⟩ | ⟨h0, h1, h2, h3, h4⟩ | ⟨h0, h1, h2, h3, h4, h5⟩ | ⟨h0, h1, h2, h3, h4, y, h5, h6⟩ <;> first | omega | exact absurd h0 (by omega)]
    go_enter Try.func33, Try.ntmps33
    go_upto_region 1 with fail
    change Code.wp Try.prog _ _ _ (w.alloc (.cells _ 25))
    rw [HW1.out]
    clear HW1
    go_wp2
    go_ret
    exact ⟨rfl, HB.out.below⟩
  have dk0 := decide_eq_false hk0
  by_cases hk7 : 7 < k
  · have dk7 := decide_eq_true hk7
    rw [show chkY okN d (.mk k p m n l) = false from chk_else fun h => by rcases (chk_iff okN).1 h with ⟨h0, h1, h2, h3, h4⟩ | ⟨h0, h1, h2, h3, h4⟩ | ⟨h0, h1, h2, h3, h4, h5⟩ | ⟨h0, h1, h2, h3, h4, y, h5, h6⟩ <;> first | omega | exact absurd h0 (by omega)]
    go_enter Try.func33, Try.ntmps33
    go_upto_region 1 with fail
    change Code.wp Try.prog _ _ _ (w.alloc (.cells _ 25))
    rw [HW1.out]
    clear HW1
    go_wp2
    go_ret
    exact ⟨rfl, HB.out.below⟩
  have dk7 := decide_eq_false hk7
  by_cases h4 : k = 4
  · subst h4
    by_cases hn : n = 0
    · subst hn
      by_cases hNN : N = 0
      · obtain rfl := hNz hNN
        subst hNN
        rw [show chkY okN d (.mk 4 p m 0 []) = (okN m && okN p) by rw [chkY]; simp [knownK]]
        clear hN hNz hNz'
        obtain ⟨x0, hx0⟩ : ∃ x, okN m = x := ⟨_, rfl⟩
        simp only [hx0] at HM ⊢
        clear hx0
        cases x0 with
        | false =>
          go_enter Try.func33, Try.ntmps33
          go_upto_region 1 with fail
          change Code.wp Try.prog _ _ _ (w.alloc (.cells _ 25))
          rw [HW1.out]
          clear HW1
          go_wp2_with (first
            | (go_at_call 20; (refine (HM.out _).mono ?_); rintro e w2 ⟨rfl, hb⟩; have HB2 := Lib.hid (HB.out.step hb); clear HB HM hb q0 q1 q2 q3 q4; have q0 := HB2.out.b0.cell 0; have q1 := HB2.out.b0.cell 1; simp only [List.getElem?_toArray, List.getElem?_cons_succ, List.getElem?_cons_zero] at q0 q1)
            | (go_at_call 20; (refine (HP.out _).mono ?_); rintro e w3 ⟨rfl, hb⟩; have HB3 := Lib.hid (HB2.out.step hb); clear HB2 hb q0 q1))
          go_ret
          exact ⟨rfl, HB3.out.below⟩
        | true =>
          go_enter Try.func33, Try.ntmps33
          go_upto_region 1 with fail
          change Code.wp Try.prog _ _ _ (w.alloc (.cells _ 25))
          rw [HW1.out]
          clear HW1
          go_wp2_with (first
            | (go_at_call 20; (refine (HM.out _).mono ?_); rintro e w2 ⟨rfl, hb⟩; have HB2 := Lib.hid (HB.out.step hb); clear HB HM hb q0 q1 q2 q3 q4; have q0 := HB2.out.b0.cell 0; have q1 := HB2.out.b0.cell 1; simp only [List.getElem?_toArray, List.getElem?_cons_succ, List.getElem?_cons_zero] at q0 q1)
            | (go_at_call 20; (refine (HP.out _).mono ?_); rintro e w3 ⟨rfl, hb⟩; have HB3 := Lib.hid (HB2.out.step hb); clear HB2 hb q0 q1))
          go_ret
          exact ⟨rfl, HB3.out.below⟩
      · have e1 : ((N : Int) == 0) = false := beq_eq_false_iff_ne.2 (by omega); have e2 : ((N : Int) != 0) = true := bne_iff_ne.2 (by omega)
        rw [show chkY okN d (.mk 4 p m 0 l) = false from chk_else fun h => by rcases (chk_iff okN).1 h with ⟨h0, h1, h2, h3, h4⟩ | ⟨h0, h1, h2, h3, h4⟩ | ⟨h0, h1, h2, h3, h4, h5⟩ | ⟨h0, h1, h2, h3, h4, y, h5, h6⟩ <;> first | omega | exact hNN (hNz' h4)]
        go_enter Try.func33, Try.ntmps33
        go_upto_region 1 with fail
        change Code.wp Try.prog _ _ _ (w.alloc (.cells _ 25))
        rw [HW1.out]
        clear HW1
        go_wp2
        go_ret
        exact ⟨rfl, HB.out.below⟩
    · have e1 : (n == 0) = false := beq_eq_false_iff_ne.2 hn; have e2 : (n != 0) = true := bne_iff_ne.2 hn
      rw [show chkY okN d (.mk 4 p m n l) = false from chk_else fun h => by rcases (chk_iff okN).1 h with ⟨h0, h1, h2, h3, h4⟩ | ⟨h0, h1, h2, h3, h4⟩ | ⟨h0, h1, h2, h3, h4, h5⟩ | ⟨h0, h1, h2, h3, h4, y, h5, h6⟩ <;> first | omega | exact hn h3]
      go_enter Try.func33, Try.ntmps33
      go_upto_region 1 with fail
      change Code.wp Try.prog _ _ _ (w.alloc (.cells _ 25))
      rw [HW1.out]
      clear HW1
      go_wp2
      go_ret
      exact ⟨rfl, HB.out.below⟩
  have g4 : (k == 4) = false := beq_eq_false_iff_ne.2 h4; have i4 : (k != 4) = true := bne_iff_ne.2 h4
  by_cases hp : p = ⟨#[]⟩
  case neg =>
    have fp := bytes_some hp
    rw [show chkY okN d (.mk k p m n l) = false from chk_else fun h => by rcases (chk_iff okN).1 h with ⟨h0, h1, h2, h3, h4⟩ | ⟨h0, h1, h2, h3, h4⟩ | ⟨h0, h1, h2, h3, h4, h5⟩ | ⟨h0, h1, h2, h3, h4, y, h5, h6⟩ <;> first | omega | exact hp h1]
    go_enter Try.func33, Try.ntmps33
    go_upto_region 1 with fail
    change Code.wp Try.prog _ _ _ (w.alloc (.cells _ 25))
    rw [HW1.out]
    clear HW1
    go_wp2
    go_ret
    exact ⟨rfl, HB.out.below⟩
  subst hp
  by_cases h6 : k = 6
  · subst h6
    by_cases hNN : N = 0
    · obtain rfl := hNz hNN
      subst hNN
      rw [show chkY okN d (.mk 6 ⟨#[]⟩ m n []) = (okN m && decide (0 ≤ n) && decide (n < 16)) by rw [chkY]; simp [knownK, Bool.and_assoc]]
      clear hN hNz hNz'
      obtain ⟨x0, hx0⟩ : ∃ x, okN m = x := ⟨_, rfl⟩
      simp only [hx0] at HM ⊢
      clear hx0
      cases x0 with
      | false =>
        go_enter Try.func33, Try.ntmps33
        go_upto_region 1 with fail
        change Code.wp Try.prog _ _ _ (w.alloc (.cells _ 25))
        rw [HW1.out]
        clear HW1
        go_wp2_with (first
          | (go_at_call 20; (refine (HM.out _).mono ?_); rintro e w2 ⟨rfl, hb⟩; have HB2 := Lib.hid (HB.out.step hb); clear HB HM hb q0 q1 q2 q3 q4; have q0 := HB2.out.b0.cell 0; have q1 := HB2.out.b0.cell 1; have q3 := HB2.out.b0.cell 3; simp only [List.getElem?_toArray, List.getElem?_cons_succ, List.getElem?_cons_zero] at q0 q1 q3))
        go_ret
        exact ⟨by simp, HB2.out.below⟩
      | true =>
        by_cases hn0 : 0 ≤ n
        case neg =>
          have d0 := decide_eq_false hn0
          go_enter Try.func33, Try.ntmps33
          go_upto_region 1 with fail
          change Code.wp Try.prog _ _ _ (w.alloc (.cells _ 25))
          rw [HW1.out]
          clear HW1
          go_wp2_with (first
            | (go_at_call 20; (refine (HM.out _).mono ?_); rintro e w2 ⟨rfl, hb⟩; have HB2 := Lib.hid (HB.out.step hb); clear HB HM hb q0 q1 q2 q3 q4; have q0 := HB2.out.b0.cell 0; have q1 := HB2.out.b0.cell 1; have q3 := HB2.out.b0.cell 3; simp only [List.getElem?_toArray, List.getElem?_cons_succ, List.getElem?_cons_zero] at q0 q1 q3))
          go_ret
          exact ⟨by simp [d0], HB2.out.below⟩
        have d0 := decide_eq_true hn0
        by_cases hn1 : n < 16
        case neg =>
          have d1 := decide_eq_false hn1
          go_enter Try.func33, Try.ntmps33
          go_upto_region 1 with fail
          change Code.wp Try.prog _ _ _ (w.alloc (.cells _ 25))
          rw [HW1.out]
          clear HW1
          go_wp2_with (first
            | (go_at_call 20; (refine (HM.out _).mono ?_); rintro e w2 ⟨rfl, hb⟩; have HB2 := Lib.hid (HB.out.step hb); clear HB HM hb q0 q1 q2 q3 q4; have q0 := HB2.out.b0.cell 0; have q1 := HB2.out.b0.cell 1; have q3 := HB2.out.b0.cell 3; simp only [List.getElem?_toArray, List.getElem?_cons_succ, List.getElem?_cons_zero] at q0 q1 q3))
          go_ret
          exact ⟨by simp [d1], HB2.out.below⟩
        have d1 := decide_eq_true hn1
        go_enter Try.func33, Try.ntmps33
        go_upto_region 1 with fail
        change Code.wp Try.prog _ _ _ (w.alloc (.cells _ 25))
        rw [HW1.out]
        clear HW1
        go_wp2_with (first
          | (go_at_call 20; (refine (HM.out _).mono ?_); rintro e w2 ⟨rfl, hb⟩; have HB2 := Lib.hid (HB.out.step hb); clear HB HM hb q0 q1 q2 q3 q4; have q0 := HB2.out.b0.cell 0; have q1 := HB2.out.b0.cell 1; have q3 := HB2.out.b0.cell 3; simp only [List.getElem?_toArray, List.getElem?_cons_succ, List.getElem?_cons_zero] at q0 q1 q3))
        go_ret
        exact ⟨by simp [d0, d1], HB2.out.below⟩
    · have e1 : ((N : Int) == 0) = false := beq_eq_false_iff_ne.2 (by omega); have e2 : ((N : Int) != 0) = true := bne_iff_ne.2 (by omega)
      rw [show chkY okN d (.mk 6 ⟨#[]⟩ m n l) = false from chk_else fun h => by rcases (chk_iff okN).1 h with ⟨h0, h1, h2, h3, h4⟩ | ⟨h0, h1, h2, h3, h4⟩ | ⟨h0, h1, h2, h3, h4, h5⟩ | ⟨h0, h1, h2, h3, h4, y, h5, h6⟩ <;> first | omega | exact hNN (hNz' h5)]
      go_enter Try.func33, Try.ntmps33
      go_upto_region 1 with fail
      change Code.wp Try.prog _ _ _ (w.alloc (.cells _ 25))
      rw [HW1.out]
      clear HW1
      go_wp2
      go_ret
      exact ⟨rfl, HB.out.below⟩
  have g6 : (k == 6) = false := beq_eq_false_iff_ne.2 h6; have i6 : (k != 6) = true := bne_iff_ne.2 h6
  by_cases hn : n = 0
  case neg =>
    have fn : (n == 0) = false := beq_eq_false_iff_ne.2 hn; have fn2 : (n != 0) = true := bne_iff_ne.2 hn
    rw [show chkY okN d (.mk k ⟨#[]⟩ m n l) = false from chk_else fun h => by rcases (chk_iff okN).1 h with ⟨h0, h1, h2, h3, h4⟩ | ⟨h0, h1, h2, h3, h4⟩ | ⟨h0, h1, h2, h3, h4, h5⟩ | ⟨h0, h1, h2, h3, h4, y, h5, h6⟩ <;> first | omega | exact hn h3]
    go_enter Try.func33, Try.ntmps33
    go_upto_region 1 with fail
    change Code.wp Try.prog _ _ _ (w.alloc (.cells _ 25))
    rw [HW1.out]
    clear HW1
    go_wp2
    go_ret
    exact ⟨rfl, HB.out.below⟩
  subst hn
  by_cases hm : m = ⟨#[]⟩
  case neg =>
    have fm := bytes_some hm
    by_cases h5 : k = 5
    · subst h5
      rw [show chkY okN d (.mk 5 ⟨#[]⟩ m 0 l) = false from chk_else fun h => by rcases (chk_iff okN).1 h with ⟨h0, h1, h2, h3, h4⟩ | ⟨h0, h1, h2, h3, h4⟩ | ⟨h0, h1, h2, h3, h4, h5⟩ | ⟨h0, h1, h2, h3, h4, y, h5, h6⟩ <;> first | omega | exact hm h2]
      go_enter Try.func33, Try.ntmps33
      go_upto_region 1 with fail
      change Code.wp Try.prog _ _ _ (w.alloc (.cells _ 25))
      rw [HW1.out]
      clear HW1
      go_wp2
      go_ret
      exact ⟨rfl, HB.out.below⟩
    have g5 : (k == 5) = false := beq_eq_false_iff_ne.2 h5; have i5 : (k != 5) = true := bne_iff_ne.2 h5
    by_cases hNN : N = 0
    · subst hNN
      rw [show chkY okN d (.mk k ⟨#[]⟩ m 0 l) = false from chk_else fun h => by rcases (chk_iff okN).1 h with ⟨h0, h1, h2, h3, h4⟩ | ⟨h0, h1, h2, h3, h4⟩ | ⟨h0, h1, h2, h3, h4, h5⟩ | ⟨h0, h1, h2, h3, h4, y, h5, h6⟩ <;> first | omega | exact hm h2]
      go_enter Try.func33, Try.ntmps33
      go_upto_region 1 with fail
      change Code.wp Try.prog _ _ _ (w.alloc (.cells _ 25))
      rw [HW1.out]
      clear HW1
      go_wp2
      go_ret
      exact ⟨rfl, HB.out.below⟩
    · have e1 : ((N : Int) == 0) = false := beq_eq_false_iff_ne.2 (by omega); have e2 : ((N : Int) != 0) = true := bne_iff_ne.2 (by omega)
      rw [show chkY okN d (.mk k ⟨#[]⟩ m 0 l) = false from chk_else fun h => by rcases (chk_iff okN).1 h with ⟨h0, h1, h2, h3, h4⟩ | ⟨h0, h1, h2, h3, h4⟩ | ⟨h0, h1, h2, h3, h4, h5⟩ | ⟨h0, h1, h2, h3, h4, y, h5, h6⟩ <;> first | omega | exact hm h2]
      go_enter Try.func33, Try.ntmps33
      go_upto_region 1 with fail
      change Code.wp Try.prog _ _ _ (w.alloc (.cells _ 25))
      rw [HW1.out]
      clear HW1
      go_wp2
      go_ret
      exact ⟨rfl, HB.out.below⟩
  subst hm
  by_cases h5 : k = 5
  case neg =>
    have g5 : (k == 5) = false := beq_eq_false_iff_ne.2 h5; have i5 : (k != 5) = true := bne_iff_ne.2 h5
    by_cases hNN : N = 0
    · obtain rfl := hNz hNN
      subst hNN
      rw [show chkY okN d (.mk k ⟨#[]⟩ ⟨#[]⟩ 0 []) = true from (chk_iff okN).2 (.inl ⟨by omega, rfl, rfl, rfl, rfl⟩)]
      clear hN hNz hNz'
      go_enter Try.func33, Try.ntmps33
      go_upto_region 1 with fail
      change Code.wp Try.prog _ _ _ (w.alloc (.cells _ 25))
      rw [HW1.out]
      clear HW1
      go_wp2
      go_ret
      exact ⟨rfl, HB.out.below⟩
    · have e1 : ((N : Int) == 0) = false := beq_eq_false_iff_ne.2 (by omega); have e2 : ((N : Int) != 0) = true := bne_iff_ne.2 (by omega)
      rw [show chkY okN d (.mk k ⟨#[]⟩ ⟨#[]⟩ 0 l) = false from chk_else fun h => by rcases (chk_iff okN).1 h with ⟨h0, h1, h2, h3, h4⟩ | ⟨h0, h1, h2, h3, h4⟩ | ⟨h0, h1, h2, h3, h4, h5⟩ | ⟨h0, h1, h2, h3, h4, y, h5, h6⟩ <;> first | omega | exact hNN (hNz' h4)]
      go_enter Try.func33, Try.ntmps33
      go_upto_region 1 with fail
      change Code.wp Try.prog _ _ _ (w.alloc (.cells _ 25))
      rw [HW1.out]
      clear HW1
      go_wp2
      go_ret
      exact ⟨rfl, HB.out.below⟩
  subst h5
  by_cases hN1 : N = 1
  case neg =>
    have e1 : ((N : Int) == 1) = false := beq_eq_false_iff_ne.2 (by omega); have e2 : ((N : Int) != 1) = true := bne_iff_ne.2 (by omega)
    rw [show chkY okN d (.mk 5 ⟨#[]⟩ ⟨#[]⟩ 0 l) = false from chk_else fun h => by rcases (chk_iff okN).1 h with ⟨h0, h1, h2, h3, h4⟩ | ⟨h0, h1, h2, h3, h4⟩ | ⟨h0, h1, h2, h3, h4, h5⟩ | ⟨h0, h1, h2, h3, h4, y, h5, h6⟩ <;> first | omega | exact hN1 (by rw [← hN, h5]; rfl)]
    go_enter Try.func33, Try.ntmps33
    go_upto_region 1 with fail
    change Code.wp Try.prog _ _ _ (w.alloc (.cells _ 25))
    rw [HW1.out]
    clear HW1
    go_wp2
    go_ret
    exact ⟨rfl, HB.out.below⟩
  subst hN1
  by_cases hdd : d < 30
  case neg =>
    have e1 : decide ((30 : Int) ≤ z) = true := decide_eq_true (by omega)
    rw [show chkY okN d (.mk 5 ⟨#[]⟩ ⟨#[]⟩ 0 l) = false from chk_else fun h => by rcases (chk_iff okN).1 h with ⟨h0, h1, h2, h3, h4⟩ | ⟨h0, h1, h2, h3, h4⟩ | ⟨h0, h1, h2, h3, h4, h5⟩ | ⟨h0, h1, h2, h3, h4, y, h5, h6⟩ <;> first | omega | exact hdd h4]
    go_enter Try.func33, Try.ntmps33
    go_upto_region 1 with fail
    change Code.wp Try.prog _ _ _ (w.alloc (.cells _ 25))
    rw [HW1.out]
    clear HW1
    go_wp2
    go_ret
    exact ⟨rfl, HB.out.below⟩
  have e1 : decide ((30 : Int) ≤ z) = false := decide_eq_false (by omega)
  obtain ⟨y, rfl⟩ := List.length_eq_one_iff.1 hN
  have hwz := IntWalk.i64_in (z + 1) ⟨by omega, by omega⟩
  rw [show chkY okN d (.mk 5 ⟨#[]⟩ ⟨#[]⟩ 0 [y]) = chkY okN (d + 1) y by rw [chkY]; simp [knownK, chkYs, hdd]]
  obtain ⟨a, d0, d1, d2, d3, d4, rfl, hcx, hyx⟩ := HA.out.at_ 0 (y := y) rfl
  have hf := HF4.out
  unfold FitYs at hf
  have HY := Lib.hid hyx
  have HC : Hid (∀ (i : Nat) (v : Value), [d0, d1, d2, d3, d4][i]? = some v → W1.cell? ((a.add ((0 + 0) * 5)).add i) = some v) := fun i v h => (HB.out.below.cell (World.block_lt_of_cell? _ _ (hcx i v h))).trans (hcx i v h)
  have HI : Hid (∀ W, Below w.heap.size w W → Calls Try.prog 33 #[.agg #[d0, d1, d2, d3, d4], .int .i64 (z + 1)] W fun e w' => e = .returned (.bool (chkY okN (d + 1) y)) ∧ Below W.heap.size W w') :=
    fun W h => HIH.out y _ (d + 1) (z + 1) W (by have := HS.out; simp at this; omega) hf.1 (by omega) (by omega) (HY.out.below h)
  clear HIH HS hcx hyx hf HF4 HA hN hNz hNz' hz
  go_enter Try.func33, Try.ntmps33
  go_upto_region 1 with fail
  change Code.wp Try.prog _ _ _ (w.alloc (.cells _ 25))
  rw [HW1.out]
  clear HW1
  go_wp2_with (first
    | (refine boxLoadG 25 5 size5 Try.underlying25 rfl _ rfl _ rfl (cs := [d0, d1, d2, d3, d4]) HC.out rfl ?_)
    | (go_at_call 33; (refine (HI.out _ HB.out.below).mono ?_); rintro e w2 ⟨rfl, hb⟩; have HB2 := Lib.hid (HB.out.step hb); clear HB hb))
  go_ret
  exact ⟨rfl, HB2.out.below⟩

set_option maxRecDepth 100000 in
set_option maxHeartbeats 4000000 in
/-- The document's Check. -/
theorem checkR_any (q : Nat) (hq : q ≤ 9223372036854775807) (t : GY) (v : Value) (w : World) (hf : FitY q t) (hv : IsY w t v) :
    Calls Try.prog 16 #[v] w fun e w' => e = .returned (.bool (chkY okN 0 t)) ∧ Below w.heap.size w w' := by
  obtain ⟨a0, a1, a2, a3, a4, rfl⟩ := five hv
  obtain ⟨W1, hW1, hb1⟩ := made w #[a0, a1, a2, a3, a4]
  have HC := Lib.hid (check_any q hq _ t _ 0 0 W1 (Nat.lt_succ_self _) hf (by decide) rfl (hv.below hb1.below))
  have HB := Lib.hid hb1
  have HW1 := Lib.hid hW1
  clear hW1 hb1 hv hf hq
  go_enter Try.func16, Try.ntmps16
  go_upto_region 1 with fail
  change Code.wp Try.prog _ _ _ (w.alloc (.cells _ 25))
  rw [HW1.out]
  clear HW1
  go_wp2_with (first
    | (refine boxLoad 25 5 size5 Try.underlying25 rfl _ rfl w.heap.size rfl (cs := [a0, a1, a2, a3, a4]) HB.out.b0 rfl ?_)
    | (go_at_call 33; (refine HC.out.mono ?_); rintro e w2 ⟨rfl, hb⟩; have HB2 := Lib.hid (HB.out.step hb); clear HB hb))
  go_ret
  exact ⟨rfl, HB2.out.below⟩

end Go.Proofs.Ytofdejoeheokjaa.ref
