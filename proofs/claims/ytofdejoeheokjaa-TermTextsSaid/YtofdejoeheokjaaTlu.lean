/-
  TermTexts answers true, whatever it is given. No condition.
-/
import Derived.Test.YtofdejoeheokjaaTvb
import Derived.Test.YtofdejoeheokjaaTvc
import Derived.Test.YtofdejoeheokjaaTmc
import Derived.ProofKit
import Derived.OpenShut
namespace Go.Proofs.Ytofdejoeheokjaa.termTexts
open Go.ChangeShapes Go.WideShapes Go.ChangeAt Go.RowKit
open Go.Lib hiding intOf

structure Bx2 (w W : World) (A B : Array Value) : Prop where
  b0 : Blk W w.heap.size 25 A
  b1 : Blk W (w.heap.size + 1) 25 B
  below : Below w.heap.size w W
theorem Bx2.step {w W W' : World} {A B : Array Value} (h : Bx2 w W A B) (hb : Below W.heap.size W W') : Bx2 w W' A B :=
  ⟨(hb.block _ h.b0.lt).trans h.b0, (hb.block _ h.b1.lt).trans h.b1, h.below.trans (hb.mono h.below.size)⟩
theorem five {w : World} {x : GY} {v : Value} (h : IsY w x v) : ∃ c0 c1 c2 c3 c4 : Value, v = .agg #[c0, c1, c2, c3, c4] := by
  obtain ⟨k, p, m, n, l⟩ := x
  obtain ⟨o, c, rfl, _⟩ := h.parts
  exact ⟨_, _, _, _, _, rfl⟩
theorem nam_no {s : ByteArray} (h : okN s = true) : 46 ∉ s.data.toList ∧ s.data.toList ≠ [] ∧ s.data.toList.head? ≠ some 91 := by
  unfold okN at h
  simp only [Bool.and_eq_true] at h
  obtain ⟨⟨⟨_, h1⟩, h2⟩, _⟩ := h
  have e46 : nam 46 = false := by decide
  refine ⟨fun hm => ?_, fun e => ?_, fun e => ?_⟩
  · have := List.all_eq_true.1 h2 46 hm
    rw [e46] at this
    cases this
  · rw [e] at h1; cases h1
  · cases hs : s.data.toList with
    | nil => rw [hs] at h1; cases h1
    | cons c r =>
      rw [hs] at h1 e
      simp only [List.head?_cons, Option.some.injEq] at e
      subst e
      have e91 : ltr 91 = false := by decide
      change ltr 91 = true at h1
      rw [e91] at h1
      cases h1
theorem okN_short {s : ByteArray} (h : okN s = true) : s.data.toList.length ≤ 40 := by
  have e : s.data.toList.length = s.size := by rw [Array.length_toList]; rfl
  rw [e]
  unfold okN at h
  simp only [Bool.and_eq_true, decide_eq_true_eq] at h
  omega
theorem txt_short0 : ∀ {t : GY} {d : Nat}, chkY okN d t = true → d ≤ 30 → (txtY t).length ≤ 81 + 2 * (30 - d)
  | .mk k p m n l, d, h, hd => by
    rcases (chk_iff okN).1 h with ⟨hk, rfl, rfl, _, rfl⟩ | ⟨rfl, h1, h2, _, rfl⟩ | ⟨rfl, _, h1, _, _, rfl⟩ | ⟨rfl, _, _, _, hdl, y, rfl, hy⟩
    · rw [txtY]
      repeat' split
      all_goals first | omega | (simp; done) | (simp; omega) | (exfalso; omega)
    · have := okN_short h1
      have := okN_short h2
      rw [txtY]
      simp only [if_neg (show ¬ (4 : Int) = 1 by decide), if_neg (show ¬ (4 : Int) = 2 by decide), if_neg (show ¬ (4 : Int) = 3 by decide), if_true]
      split
      · omega
      · simp only [List.length_append, List.length_singleton]
        omega
    · have := okN_short h1
      have e : txtY (.mk 6 p m n []) = m.data.toList := by rw [txtY]; rfl
      rw [e]
      omega
    · have ih := txt_short0 hy (by omega)
      have e : txtY (.mk 5 p m n [y]) = [91, 93] ++ txtY y := by rw [txtY]; rfl
      rw [e, List.length_append]
      simp only [List.length_cons, List.length_nil]
      omega
theorem txt_short {t : GY} (h : chkY okN 0 t = true) : (txtY t).length ≤ 141 := txt_short0 h (by decide)
theorem pars {w : World} {t : GY} {v : Value} (hc : cntY t ≤ 1000) (W : World) (hv : IsY W t v) (N : Nat) (hN : (N = 0 ∧ ∀ k, ¬ hasY k t) ∨ (N = 1 ∧ ∃ k, hasY k t)) (_ : w.heap.size ≤ W.heap.size) :
    Calls Try.prog 13 #[v] W fun e W' => ∃ (o : Option Addr) (n c : Nat), e = .returned (.slice o n c) ∧ (n = 0 ↔ N = 0) ∧ n ≤ 1000 ∧ Below W.heap.size W W' := by
  refine (paramsP_any t hc v W hv).mono ?_
  rintro e W' ⟨L, o, n, c, rfl, hn, hn2, hp, _, hb⟩
  refine ⟨o, n, c, rfl, ?_, hn2, hb⟩
  rcases hN with ⟨rfl, h⟩ | ⟨rfl, k, hk⟩
  · have : L = [] := by
      cases L with
      | nil => rfl
      | cons x r => exact absurd ((hp.is x).1 (by simp)) (h x)
    subst this
    simp at hn
    omega
  · have hm := (hp.is k).2 hk
    have := List.length_pos_of_mem hm
    omega

set_option maxRecDepth 100000 in
set_option maxHeartbeats 8000000 in
theorem walk (x : GY) (va : Value) (y : GY) (vb : Value) (w : World) (ha : IsY w x va) (hfa : FitY reachBytes x) (hb : IsY w y vb) (hfb : FitY reachBytes y) :
    Calls Try.prog 8 #[va, vb] w fun e w' => e = .returned (.bool true) ∧ Below w.heap.size w w' := by
  obtain ⟨a0, a1, a2, a3, a4, rfl⟩ := five ha
  obtain ⟨b0, b1, b2, b3, b4, rfl⟩ := five hb
  have HNa := Lib.hid (fun W (h : Below w.heap.size w W) => nodes_any _ x _ 0 W (Nat.lt_succ_self _) (ha.below h) (by decide) (by decide))
  have HNb := Lib.hid (fun W (h : Below w.heap.size w W) => nodes_any _ y _ 0 W (Nat.lt_succ_self _) (hb.below h) (by decide) (by decide))
  have HA := Lib.hid ha
  have HBY := Lib.hid hb
  have hca := nod_cnt x 0
  have hcb := nod_cnt y 0
  have hbx := box2 w #[a0, a1, a2, a3, a4] #[b0, b1, b2, b3, b4]
  obtain ⟨W3, hW3⟩ : ∃ W3, ((w.alloc (.cells #[a0, a1, a2, a3, a4] 25)).alloc (.cells #[b0, b1, b2, b3, b4] 25)) = W3 := ⟨_, rfl⟩
  rw [hW3] at hbx
  have HB : Hid (Bx2 w W3 #[a0, a1, a2, a3, a4] #[b0, b1, b2, b3, b4]) := ⟨hbx.one, hbx.two, hbx.below⟩
  have HW3 := Lib.hid hW3
  clear hbx hW3 ha hb
  go_enter Try.func8, Try.ntmps8
  go_upto_region 1 with fail
  change Code.wp Try.prog _ _ _ ((w.alloc (.cells #[a0, a1, a2, a3, a4] 25)).alloc (.cells #[b0, b1, b2, b3, b4] 25))
  rw [HW3.out]
  clear HW3
  by_cases hna : 200 ≤ nodY x 0
  · have e0 := decide_eq_true hna
    clear hca hcb
    generalize nodY x 0 = na at *
    generalize nodY y 0 = nb at *
    go_wp2_with (first
      | (refine boxLoad 25 5 size5 Try.underlying25 rfl _ rfl w.heap.size rfl (cs := [a0, a1, a2, a3, a4]) HB.out.b0 rfl ?_)
      | (refine boxLoad 25 5 size5 Try.underlying25 rfl _ rfl (w.heap.size + 1) rfl (cs := [b0, b1, b2, b3, b4]) HB.out.b1 rfl ?_)
      | (go_at_call 10; with_reducible refine (awake_any _).mono ?_; rintro e w1 ⟨rfl, hb⟩; have HBn := Lib.hid (HB.out.step hb); clear HB hb; have HB := HBn; clear HBn; (try clear qa0 qa1 qa2 qa3 qa4 qb0 qb1 qb2 qb3 qb4); have qa0 := HB.out.b0.cell 0; have qa1 := HB.out.b0.cell 1; have qa2 := HB.out.b0.cell 2; have qa3 := HB.out.b0.cell 3; have qa4 := HB.out.b0.cell 4; have qb0 := HB.out.b1.cell 0; have qb1 := HB.out.b1.cell 1; have qb2 := HB.out.b1.cell 2; have qb3 := HB.out.b1.cell 3; have qb4 := HB.out.b1.cell 4; simp only [List.getElem?_toArray, List.getElem?_cons_succ, List.getElem?_cons_zero] at qa0 qa1 qa2 qa3 qa4 qb0 qb1 qb2 qb3 qb4)
      | (go_at_call 11; with_reducible refine (HNa.out _ HB.out.below).mono ?_; rintro e w1 ⟨rfl, hb⟩; have HBn := Lib.hid (HB.out.step hb); clear HB hb; have HB := HBn; clear HBn; (try clear qa0 qa1 qa2 qa3 qa4 qb0 qb1 qb2 qb3 qb4); have qa0 := HB.out.b0.cell 0; have qa1 := HB.out.b0.cell 1; have qa2 := HB.out.b0.cell 2; have qa3 := HB.out.b0.cell 3; have qa4 := HB.out.b0.cell 4; have qb0 := HB.out.b1.cell 0; have qb1 := HB.out.b1.cell 1; have qb2 := HB.out.b1.cell 2; have qb3 := HB.out.b1.cell 3; have qb4 := HB.out.b1.cell 4; simp only [List.getElem?_toArray, List.getElem?_cons_succ, List.getElem?_cons_zero] at qa0 qa1 qa2 qa3 qa4 qb0 qb1 qb2 qb3 qb4)
      | (go_at_call 11; with_reducible refine (HNb.out _ HB.out.below).mono ?_; rintro e w1 ⟨rfl, hb⟩; have HBn := Lib.hid (HB.out.step hb); clear HB hb; have HB := HBn; clear HBn; (try clear qa0 qa1 qa2 qa3 qa4 qb0 qb1 qb2 qb3 qb4); have qa0 := HB.out.b0.cell 0; have qa1 := HB.out.b0.cell 1; have qa2 := HB.out.b0.cell 2; have qa3 := HB.out.b0.cell 3; have qa4 := HB.out.b0.cell 4; have qb0 := HB.out.b1.cell 0; have qb1 := HB.out.b1.cell 1; have qb2 := HB.out.b1.cell 2; have qb3 := HB.out.b1.cell 3; have qb4 := HB.out.b1.cell 4; simp only [List.getElem?_toArray, List.getElem?_cons_succ, List.getElem?_cons_zero] at qa0 qa1 qa2 qa3 qa4 qb0 qb1 qb2 qb3 qb4))
    go_ret
    exact ⟨rfl, HB.out.below⟩
  have hcx := hca (by omega)
  have e0 := decide_eq_false hna
  by_cases hnb : 200 ≤ nodY y 0
  · have e1 := decide_eq_true hnb
    clear hca hcb hcx
    generalize nodY x 0 = na at *
    generalize nodY y 0 = nb at *
    go_wp2_with (first
      | (refine boxLoad 25 5 size5 Try.underlying25 rfl _ rfl w.heap.size rfl (cs := [a0, a1, a2, a3, a4]) HB.out.b0 rfl ?_)
      | (refine boxLoad 25 5 size5 Try.underlying25 rfl _ rfl (w.heap.size + 1) rfl (cs := [b0, b1, b2, b3, b4]) HB.out.b1 rfl ?_)
      | (go_at_call 10; with_reducible refine (awake_any _).mono ?_; rintro e w1 ⟨rfl, hb⟩; have HBn := Lib.hid (HB.out.step hb); clear HB hb; have HB := HBn; clear HBn; (try clear qa0 qa1 qa2 qa3 qa4 qb0 qb1 qb2 qb3 qb4); have qa0 := HB.out.b0.cell 0; have qa1 := HB.out.b0.cell 1; have qa2 := HB.out.b0.cell 2; have qa3 := HB.out.b0.cell 3; have qa4 := HB.out.b0.cell 4; have qb0 := HB.out.b1.cell 0; have qb1 := HB.out.b1.cell 1; have qb2 := HB.out.b1.cell 2; have qb3 := HB.out.b1.cell 3; have qb4 := HB.out.b1.cell 4; simp only [List.getElem?_toArray, List.getElem?_cons_succ, List.getElem?_cons_zero] at qa0 qa1 qa2 qa3 qa4 qb0 qb1 qb2 qb3 qb4)
      | (go_at_call 11; with_reducible refine (HNa.out _ HB.out.below).mono ?_; rintro e w1 ⟨rfl, hb⟩; have HBn := Lib.hid (HB.out.step hb); clear HB hb; have HB := HBn; clear HBn; (try clear qa0 qa1 qa2 qa3 qa4 qb0 qb1 qb2 qb3 qb4); have qa0 := HB.out.b0.cell 0; have qa1 := HB.out.b0.cell 1; have qa2 := HB.out.b0.cell 2; have qa3 := HB.out.b0.cell 3; have qa4 := HB.out.b0.cell 4; have qb0 := HB.out.b1.cell 0; have qb1 := HB.out.b1.cell 1; have qb2 := HB.out.b1.cell 2; have qb3 := HB.out.b1.cell 3; have qb4 := HB.out.b1.cell 4; simp only [List.getElem?_toArray, List.getElem?_cons_succ, List.getElem?_cons_zero] at qa0 qa1 qa2 qa3 qa4 qb0 qb1 qb2 qb3 qb4)
      | (go_at_call 11; with_reducible refine (HNb.out _ HB.out.below).mono ?_; rintro e w1 ⟨rfl, hb⟩; have HBn := Lib.hid (HB.out.step hb); clear HB hb; have HB := HBn; clear HBn; (try clear qa0 qa1 qa2 qa3 qa4 qb0 qb1 qb2 qb3 qb4); have qa0 := HB.out.b0.cell 0; have qa1 := HB.out.b0.cell 1; have qa2 := HB.out.b0.cell 2; have qa3 := HB.out.b0.cell 3; have qa4 := HB.out.b0.cell 4; have qb0 := HB.out.b1.cell 0; have qb1 := HB.out.b1.cell 1; have qb2 := HB.out.b1.cell 2; have qb3 := HB.out.b1.cell 3; have qb4 := HB.out.b1.cell 4; simp only [List.getElem?_toArray, List.getElem?_cons_succ, List.getElem?_cons_zero] at qa0 qa1 qa2 qa3 qa4 qb0 qb1 qb2 qb3 qb4))
    go_ret
    exact ⟨rfl, HB.out.below⟩
  have hcy := hcb (by omega)
  have e1 := decide_eq_false hnb
  have hx1 : cntY x ≤ 1000 := by omega
  have hy1 : cntY y ≤ 1000 := by omega
  have HCa := Lib.hid (fun W (h : Below w.heap.size w W) => checkP_any x hx1 reachBytes (by decide) hfa _ W (HA.out.below h))
  have HCb := Lib.hid (fun W (h : Below w.heap.size w W) => checkP_any y hy1 reachBytes (by decide) hfb _ W (HBY.out.below h))
  have HS := Lib.hid (fun W (h : Below w.heap.size w W) => sameP_any _ x y _ _ W (Nat.lt_succ_self _) (HA.out.below h) (HBY.out.below h))
  have HX1 := Lib.hid hx1
  have HY1 := Lib.hid hy1
  clear hca hcb hcx hcy hfa hfb hx1 hy1
  generalize nodY x 0 = na at *
  generalize nodY y 0 = nb at *
  cases hxc : chkY okN 0 x
  · rw [hxc] at HCa
    clear hxc
    generalize chkY okN 0 y = Y at *
    go_wp2_with (first
      | (refine boxLoad 25 5 size5 Try.underlying25 rfl _ rfl w.heap.size rfl (cs := [a0, a1, a2, a3, a4]) HB.out.b0 rfl ?_)
      | (refine boxLoad 25 5 size5 Try.underlying25 rfl _ rfl (w.heap.size + 1) rfl (cs := [b0, b1, b2, b3, b4]) HB.out.b1 rfl ?_)
      | (go_at_call 10; with_reducible refine (awake_any _).mono ?_; rintro e w1 ⟨rfl, hb⟩; have HBn := Lib.hid (HB.out.step hb); clear HB hb; have HB := HBn; clear HBn; (try clear qa0 qa1 qa2 qa3 qa4 qb0 qb1 qb2 qb3 qb4); have qa0 := HB.out.b0.cell 0; have qa1 := HB.out.b0.cell 1; have qa2 := HB.out.b0.cell 2; have qa3 := HB.out.b0.cell 3; have qa4 := HB.out.b0.cell 4; have qb0 := HB.out.b1.cell 0; have qb1 := HB.out.b1.cell 1; have qb2 := HB.out.b1.cell 2; have qb3 := HB.out.b1.cell 3; have qb4 := HB.out.b1.cell 4; simp only [List.getElem?_toArray, List.getElem?_cons_succ, List.getElem?_cons_zero] at qa0 qa1 qa2 qa3 qa4 qb0 qb1 qb2 qb3 qb4)
      | (go_at_call 11; with_reducible refine (HNa.out _ HB.out.below).mono ?_; rintro e w1 ⟨rfl, hb⟩; have HBn := Lib.hid (HB.out.step hb); clear HB hb; have HB := HBn; clear HBn; (try clear qa0 qa1 qa2 qa3 qa4 qb0 qb1 qb2 qb3 qb4); have qa0 := HB.out.b0.cell 0; have qa1 := HB.out.b0.cell 1; have qa2 := HB.out.b0.cell 2; have qa3 := HB.out.b0.cell 3; have qa4 := HB.out.b0.cell 4; have qb0 := HB.out.b1.cell 0; have qb1 := HB.out.b1.cell 1; have qb2 := HB.out.b1.cell 2; have qb3 := HB.out.b1.cell 3; have qb4 := HB.out.b1.cell 4; simp only [List.getElem?_toArray, List.getElem?_cons_succ, List.getElem?_cons_zero] at qa0 qa1 qa2 qa3 qa4 qb0 qb1 qb2 qb3 qb4)
      | (go_at_call 11; with_reducible refine (HNb.out _ HB.out.below).mono ?_; rintro e w1 ⟨rfl, hb⟩; have HBn := Lib.hid (HB.out.step hb); clear HB hb; have HB := HBn; clear HBn; (try clear qa0 qa1 qa2 qa3 qa4 qb0 qb1 qb2 qb3 qb4); have qa0 := HB.out.b0.cell 0; have qa1 := HB.out.b0.cell 1; have qa2 := HB.out.b0.cell 2; have qa3 := HB.out.b0.cell 3; have qa4 := HB.out.b0.cell 4; have qb0 := HB.out.b1.cell 0; have qb1 := HB.out.b1.cell 1; have qb2 := HB.out.b1.cell 2; have qb3 := HB.out.b1.cell 3; have qb4 := HB.out.b1.cell 4; simp only [List.getElem?_toArray, List.getElem?_cons_succ, List.getElem?_cons_zero] at qa0 qa1 qa2 qa3 qa4 qb0 qb1 qb2 qb3 qb4)
      | (go_at_call 15; with_reducible refine (HCa.out _ HB.out.below).mono ?_; rintro e w1 ⟨rfl, hb⟩; have HBn := Lib.hid (HB.out.step hb); clear HB hb; have HB := HBn; clear HBn; (try clear qa0 qa1 qa2 qa3 qa4 qb0 qb1 qb2 qb3 qb4); have qa0 := HB.out.b0.cell 0; have qa1 := HB.out.b0.cell 1; have qa2 := HB.out.b0.cell 2; have qa3 := HB.out.b0.cell 3; have qa4 := HB.out.b0.cell 4; have qb0 := HB.out.b1.cell 0; have qb1 := HB.out.b1.cell 1; have qb2 := HB.out.b1.cell 2; have qb3 := HB.out.b1.cell 3; have qb4 := HB.out.b1.cell 4; simp only [List.getElem?_toArray, List.getElem?_cons_succ, List.getElem?_cons_zero] at qa0 qa1 qa2 qa3 qa4 qb0 qb1 qb2 qb3 qb4)
      | (go_at_call 15; with_reducible refine (HCb.out _ HB.out.below).mono ?_; rintro e w1 ⟨rfl, hb⟩; have HBn := Lib.hid (HB.out.step hb); clear HB hb; have HB := HBn; clear HBn; (try clear qa0 qa1 qa2 qa3 qa4 qb0 qb1 qb2 qb3 qb4); have qa0 := HB.out.b0.cell 0; have qa1 := HB.out.b0.cell 1; have qa2 := HB.out.b0.cell 2; have qa3 := HB.out.b0.cell 3; have qa4 := HB.out.b0.cell 4; have qb0 := HB.out.b1.cell 0; have qb1 := HB.out.b1.cell 1; have qb2 := HB.out.b1.cell 2; have qb3 := HB.out.b1.cell 3; have qb4 := HB.out.b1.cell 4; simp only [List.getElem?_toArray, List.getElem?_cons_succ, List.getElem?_cons_zero] at qa0 qa1 qa2 qa3 qa4 qb0 qb1 qb2 qb3 qb4))
    go_ret
    exact ⟨rfl, HB.out.below⟩
  cases hyc : chkY okN 0 y
  · rw [hxc] at HCa
    rw [hyc] at HCb
    clear hxc hyc
    go_wp2_with (first
      | (refine boxLoad 25 5 size5 Try.underlying25 rfl _ rfl w.heap.size rfl (cs := [a0, a1, a2, a3, a4]) HB.out.b0 rfl ?_)
      | (refine boxLoad 25 5 size5 Try.underlying25 rfl _ rfl (w.heap.size + 1) rfl (cs := [b0, b1, b2, b3, b4]) HB.out.b1 rfl ?_)
      | (go_at_call 10; with_reducible refine (awake_any _).mono ?_; rintro e w1 ⟨rfl, hb⟩; have HBn := Lib.hid (HB.out.step hb); clear HB hb; have HB := HBn; clear HBn; (try clear qa0 qa1 qa2 qa3 qa4 qb0 qb1 qb2 qb3 qb4); have qa0 := HB.out.b0.cell 0; have qa1 := HB.out.b0.cell 1; have qa2 := HB.out.b0.cell 2; have qa3 := HB.out.b0.cell 3; have qa4 := HB.out.b0.cell 4; have qb0 := HB.out.b1.cell 0; have qb1 := HB.out.b1.cell 1; have qb2 := HB.out.b1.cell 2; have qb3 := HB.out.b1.cell 3; have qb4 := HB.out.b1.cell 4; simp only [List.getElem?_toArray, List.getElem?_cons_succ, List.getElem?_cons_zero] at qa0 qa1 qa2 qa3 qa4 qb0 qb1 qb2 qb3 qb4)
      | (go_at_call 11; with_reducible refine (HNa.out _ HB.out.below).mono ?_; rintro e w1 ⟨rfl, hb⟩; have HBn := Lib.hid (HB.out.step hb); clear HB hb; have HB := HBn; clear HBn; (try clear qa0 qa1 qa2 qa3 qa4 qb0 qb1 qb2 qb3 qb4); have qa0 := HB.out.b0.cell 0; have qa1 := HB.out.b0.cell 1; have qa2 := HB.out.b0.cell 2; have qa3 := HB.out.b0.cell 3; have qa4 := HB.out.b0.cell 4; have qb0 := HB.out.b1.cell 0; have qb1 := HB.out.b1.cell 1; have qb2 := HB.out.b1.cell 2; have qb3 := HB.out.b1.cell 3; have qb4 := HB.out.b1.cell 4; simp only [List.getElem?_toArray, List.getElem?_cons_succ, List.getElem?_cons_zero] at qa0 qa1 qa2 qa3 qa4 qb0 qb1 qb2 qb3 qb4)
      | (go_at_call 11; with_reducible refine (HNb.out _ HB.out.below).mono ?_; rintro e w1 ⟨rfl, hb⟩; have HBn := Lib.hid (HB.out.step hb); clear HB hb; have HB := HBn; clear HBn; (try clear qa0 qa1 qa2 qa3 qa4 qb0 qb1 qb2 qb3 qb4); have qa0 := HB.out.b0.cell 0; have qa1 := HB.out.b0.cell 1; have qa2 := HB.out.b0.cell 2; have qa3 := HB.out.b0.cell 3; have qa4 := HB.out.b0.cell 4; have qb0 := HB.out.b1.cell 0; have qb1 := HB.out.b1.cell 1; have qb2 := HB.out.b1.cell 2; have qb3 := HB.out.b1.cell 3; have qb4 := HB.out.b1.cell 4; simp only [List.getElem?_toArray, List.getElem?_cons_succ, List.getElem?_cons_zero] at qa0 qa1 qa2 qa3 qa4 qb0 qb1 qb2 qb3 qb4)
      | (go_at_call 15; with_reducible refine (HCa.out _ HB.out.below).mono ?_; rintro e w1 ⟨rfl, hb⟩; have HBn := Lib.hid (HB.out.step hb); clear HB hb; have HB := HBn; clear HBn; (try clear qa0 qa1 qa2 qa3 qa4 qb0 qb1 qb2 qb3 qb4); have qa0 := HB.out.b0.cell 0; have qa1 := HB.out.b0.cell 1; have qa2 := HB.out.b0.cell 2; have qa3 := HB.out.b0.cell 3; have qa4 := HB.out.b0.cell 4; have qb0 := HB.out.b1.cell 0; have qb1 := HB.out.b1.cell 1; have qb2 := HB.out.b1.cell 2; have qb3 := HB.out.b1.cell 3; have qb4 := HB.out.b1.cell 4; simp only [List.getElem?_toArray, List.getElem?_cons_succ, List.getElem?_cons_zero] at qa0 qa1 qa2 qa3 qa4 qb0 qb1 qb2 qb3 qb4)
      | (go_at_call 15; with_reducible refine (HCb.out _ HB.out.below).mono ?_; rintro e w1 ⟨rfl, hb⟩; have HBn := Lib.hid (HB.out.step hb); clear HB hb; have HB := HBn; clear HBn; (try clear qa0 qa1 qa2 qa3 qa4 qb0 qb1 qb2 qb3 qb4); have qa0 := HB.out.b0.cell 0; have qa1 := HB.out.b0.cell 1; have qa2 := HB.out.b0.cell 2; have qa3 := HB.out.b0.cell 3; have qa4 := HB.out.b0.cell 4; have qb0 := HB.out.b1.cell 0; have qb1 := HB.out.b1.cell 1; have qb2 := HB.out.b1.cell 2; have qb3 := HB.out.b1.cell 3; have qb4 := HB.out.b1.cell 4; simp only [List.getElem?_toArray, List.getElem?_cons_succ, List.getElem?_cons_zero] at qa0 qa1 qa2 qa3 qa4 qb0 qb1 qb2 qb3 qb4))
    go_ret
    exact ⟨rfl, HB.out.below⟩
  have hst := txt_same okN (fun s h => nam_no h) hxc hyc
  have HTa := Lib.hid (fun W (h : Below w.heap.size w W) => textP_any x HX1.out (Nat.le_trans (txt_short hxc) (by decide)) _ W (HA.out.below h))
  have HTb := Lib.hid (fun W (h : Below w.heap.size w W) => textP_any y HY1.out (Nat.le_trans (txt_short hyc) (by decide)) _ W (HBY.out.below h))
  rw [hxc] at HCa
  rw [hyc] at HCb
  clear hxc hyc
  by_cases hpx : ∃ k, hasY k x
  · have HPa := Lib.hid (fun W (h : Below w.heap.size w W) => (pars (w := w) HX1.out W (HA.out.below h) 1 (.inr ⟨rfl, hpx⟩) h.size).mono fun e W' (h : ∃ (o : Option Addr) (n c : Nat), e = .returned (.slice o n c) ∧ (n = 0 ↔ 1 = 0) ∧ n ≤ 1000 ∧ Below W.heap.size W W') => (show ∃ (o : Option Addr) (n c : Nat), e = .returned (.slice o n c) ∧ ((0 : Int) < (n : Int)) ∧ Below W.heap.size W W' by obtain ⟨o, n, c, h1, h2, h3, h4⟩ := h; exact ⟨o, n, c, h1, by have : n ≠ 0 := (fun e => absurd (h2.1 e) (by decide)); omega, h4⟩))
    clear hst hpx
    go_wp2_with (first
      | (refine boxLoad 25 5 size5 Try.underlying25 rfl _ rfl w.heap.size rfl (cs := [a0, a1, a2, a3, a4]) HB.out.b0 rfl ?_)
      | (refine boxLoad 25 5 size5 Try.underlying25 rfl _ rfl (w.heap.size + 1) rfl (cs := [b0, b1, b2, b3, b4]) HB.out.b1 rfl ?_)
      | (go_at_call 10; with_reducible refine (awake_any _).mono ?_; rintro e w1 ⟨rfl, hb⟩; have HBn := Lib.hid (HB.out.step hb); clear HB hb; have HB := HBn; clear HBn; (try clear qa0 qa1 qa2 qa3 qa4 qb0 qb1 qb2 qb3 qb4); have qa0 := HB.out.b0.cell 0; have qa1 := HB.out.b0.cell 1; have qa2 := HB.out.b0.cell 2; have qa3 := HB.out.b0.cell 3; have qa4 := HB.out.b0.cell 4; have qb0 := HB.out.b1.cell 0; have qb1 := HB.out.b1.cell 1; have qb2 := HB.out.b1.cell 2; have qb3 := HB.out.b1.cell 3; have qb4 := HB.out.b1.cell 4; simp only [List.getElem?_toArray, List.getElem?_cons_succ, List.getElem?_cons_zero] at qa0 qa1 qa2 qa3 qa4 qb0 qb1 qb2 qb3 qb4)
      | (go_at_call 11; with_reducible refine (HNa.out _ HB.out.below).mono ?_; rintro e w1 ⟨rfl, hb⟩; have HBn := Lib.hid (HB.out.step hb); clear HB hb; have HB := HBn; clear HBn; (try clear qa0 qa1 qa2 qa3 qa4 qb0 qb1 qb2 qb3 qb4); have qa0 := HB.out.b0.cell 0; have qa1 := HB.out.b0.cell 1; have qa2 := HB.out.b0.cell 2; have qa3 := HB.out.b0.cell 3; have qa4 := HB.out.b0.cell 4; have qb0 := HB.out.b1.cell 0; have qb1 := HB.out.b1.cell 1; have qb2 := HB.out.b1.cell 2; have qb3 := HB.out.b1.cell 3; have qb4 := HB.out.b1.cell 4; simp only [List.getElem?_toArray, List.getElem?_cons_succ, List.getElem?_cons_zero] at qa0 qa1 qa2 qa3 qa4 qb0 qb1 qb2 qb3 qb4)
      | (go_at_call 11; with_reducible refine (HNb.out _ HB.out.below).mono ?_; rintro e w1 ⟨rfl, hb⟩; have HBn := Lib.hid (HB.out.step hb); clear HB hb; have HB := HBn; clear HBn; (try clear qa0 qa1 qa2 qa3 qa4 qb0 qb1 qb2 qb3 qb4); have qa0 := HB.out.b0.cell 0; have qa1 := HB.out.b0.cell 1; have qa2 := HB.out.b0.cell 2; have qa3 := HB.out.b0.cell 3; have qa4 := HB.out.b0.cell 4; have qb0 := HB.out.b1.cell 0; have qb1 := HB.out.b1.cell 1; have qb2 := HB.out.b1.cell 2; have qb3 := HB.out.b1.cell 3; have qb4 := HB.out.b1.cell 4; simp only [List.getElem?_toArray, List.getElem?_cons_succ, List.getElem?_cons_zero] at qa0 qa1 qa2 qa3 qa4 qb0 qb1 qb2 qb3 qb4)
      | (go_at_call 15; with_reducible refine (HCa.out _ HB.out.below).mono ?_; rintro e w1 ⟨rfl, hb⟩; have HBn := Lib.hid (HB.out.step hb); clear HB hb; have HB := HBn; clear HBn; (try clear qa0 qa1 qa2 qa3 qa4 qb0 qb1 qb2 qb3 qb4); have qa0 := HB.out.b0.cell 0; have qa1 := HB.out.b0.cell 1; have qa2 := HB.out.b0.cell 2; have qa3 := HB.out.b0.cell 3; have qa4 := HB.out.b0.cell 4; have qb0 := HB.out.b1.cell 0; have qb1 := HB.out.b1.cell 1; have qb2 := HB.out.b1.cell 2; have qb3 := HB.out.b1.cell 3; have qb4 := HB.out.b1.cell 4; simp only [List.getElem?_toArray, List.getElem?_cons_succ, List.getElem?_cons_zero] at qa0 qa1 qa2 qa3 qa4 qb0 qb1 qb2 qb3 qb4)
      | (go_at_call 15; with_reducible refine (HCb.out _ HB.out.below).mono ?_; rintro e w1 ⟨rfl, hb⟩; have HBn := Lib.hid (HB.out.step hb); clear HB hb; have HB := HBn; clear HBn; (try clear qa0 qa1 qa2 qa3 qa4 qb0 qb1 qb2 qb3 qb4); have qa0 := HB.out.b0.cell 0; have qa1 := HB.out.b0.cell 1; have qa2 := HB.out.b0.cell 2; have qa3 := HB.out.b0.cell 3; have qa4 := HB.out.b0.cell 4; have qb0 := HB.out.b1.cell 0; have qb1 := HB.out.b1.cell 1; have qb2 := HB.out.b1.cell 2; have qb3 := HB.out.b1.cell 3; have qb4 := HB.out.b1.cell 4; simp only [List.getElem?_toArray, List.getElem?_cons_succ, List.getElem?_cons_zero] at qa0 qa1 qa2 qa3 qa4 qb0 qb1 qb2 qb3 qb4)
      | (go_at_call 13; with_reducible refine (HPa.out _ HB.out.below).mono ?_; rintro e w1 ⟨on, nn, cn, rfl, hpos, hb⟩; have HBn := Lib.hid (HB.out.step hb); clear HB hb; have HB := HBn; clear HBn; (try clear qa0 qa1 qa2 qa3 qa4 qb0 qb1 qb2 qb3 qb4); have qa0 := HB.out.b0.cell 0; have qa1 := HB.out.b0.cell 1; have qa2 := HB.out.b0.cell 2; have qa3 := HB.out.b0.cell 3; have qa4 := HB.out.b0.cell 4; have qb0 := HB.out.b1.cell 0; have qb1 := HB.out.b1.cell 1; have qb2 := HB.out.b1.cell 2; have qb3 := HB.out.b1.cell 3; have qb4 := HB.out.b1.cell 4; simp only [List.getElem?_toArray, List.getElem?_cons_succ, List.getElem?_cons_zero] at qa0 qa1 qa2 qa3 qa4 qb0 qb1 qb2 qb3 qb4))
    go_ret
    exact ⟨rfl, HB.out.below⟩
  have hpx' : ∀ k, ¬ hasY k x := fun k h => hpx ⟨k, h⟩
  have HPa := Lib.hid (fun W (h : Below w.heap.size w W) => (pars (w := w) HX1.out W (HA.out.below h) 0 (.inl ⟨rfl, hpx'⟩) h.size).mono fun e W' (h : ∃ (o : Option Addr) (n c : Nat), e = .returned (.slice o n c) ∧ (n = 0 ↔ 0 = 0) ∧ n ≤ 1000 ∧ Below W.heap.size W W') => (show ∃ (o : Option Addr) (c : Nat), e = .returned (.slice o 0 c) ∧ Below W.heap.size W W' by obtain ⟨o, n, c, h1, h2, h3, h4⟩ := h; obtain rfl := h2.2 rfl; exact ⟨o, c, h1, h4⟩))
  by_cases hpy : ∃ k, hasY k y
  · have HPb := Lib.hid (fun W (h : Below w.heap.size w W) => (pars (w := w) HY1.out W (HBY.out.below h) 1 (.inr ⟨rfl, hpy⟩) h.size).mono fun e W' (h : ∃ (o : Option Addr) (n c : Nat), e = .returned (.slice o n c) ∧ (n = 0 ↔ 1 = 0) ∧ n ≤ 1000 ∧ Below W.heap.size W W') => (show ∃ (o : Option Addr) (n c : Nat), e = .returned (.slice o n c) ∧ ((0 : Int) < (n : Int)) ∧ Below W.heap.size W W' by obtain ⟨o, n, c, h1, h2, h3, h4⟩ := h; exact ⟨o, n, c, h1, by have : n ≠ 0 := (fun e => absurd (h2.1 e) (by decide)); omega, h4⟩))
    clear hst hpx hpx' hpy
    go_wp2_with (first
      | (refine boxLoad 25 5 size5 Try.underlying25 rfl _ rfl w.heap.size rfl (cs := [a0, a1, a2, a3, a4]) HB.out.b0 rfl ?_)
      | (refine boxLoad 25 5 size5 Try.underlying25 rfl _ rfl (w.heap.size + 1) rfl (cs := [b0, b1, b2, b3, b4]) HB.out.b1 rfl ?_)
      | (go_at_call 10; with_reducible refine (awake_any _).mono ?_; rintro e w1 ⟨rfl, hb⟩; have HBn := Lib.hid (HB.out.step hb); clear HB hb; have HB := HBn; clear HBn; (try clear qa0 qa1 qa2 qa3 qa4 qb0 qb1 qb2 qb3 qb4); have qa0 := HB.out.b0.cell 0; have qa1 := HB.out.b0.cell 1; have qa2 := HB.out.b0.cell 2; have qa3 := HB.out.b0.cell 3; have qa4 := HB.out.b0.cell 4; have qb0 := HB.out.b1.cell 0; have qb1 := HB.out.b1.cell 1; have qb2 := HB.out.b1.cell 2; have qb3 := HB.out.b1.cell 3; have qb4 := HB.out.b1.cell 4; simp only [List.getElem?_toArray, List.getElem?_cons_succ, List.getElem?_cons_zero] at qa0 qa1 qa2 qa3 qa4 qb0 qb1 qb2 qb3 qb4)
      | (go_at_call 11; with_reducible refine (HNa.out _ HB.out.below).mono ?_; rintro e w1 ⟨rfl, hb⟩; have HBn := Lib.hid (HB.out.step hb); clear HB hb; have HB := HBn; clear HBn; (try clear qa0 qa1 qa2 qa3 qa4 qb0 qb1 qb2 qb3 qb4); have qa0 := HB.out.b0.cell 0; have qa1 := HB.out.b0.cell 1; have qa2 := HB.out.b0.cell 2; have qa3 := HB.out.b0.cell 3; have qa4 := HB.out.b0.cell 4; have qb0 := HB.out.b1.cell 0; have qb1 := HB.out.b1.cell 1; have qb2 := HB.out.b1.cell 2; have qb3 := HB.out.b1.cell 3; have qb4 := HB.out.b1.cell 4; simp only [List.getElem?_toArray, List.getElem?_cons_succ, List.getElem?_cons_zero] at qa0 qa1 qa2 qa3 qa4 qb0 qb1 qb2 qb3 qb4)
      | (go_at_call 11; with_reducible refine (HNb.out _ HB.out.below).mono ?_; rintro e w1 ⟨rfl, hb⟩; have HBn := Lib.hid (HB.out.step hb); clear HB hb; have HB := HBn; clear HBn; (try clear qa0 qa1 qa2 qa3 qa4 qb0 qb1 qb2 qb3 qb4); have qa0 := HB.out.b0.cell 0; have qa1 := HB.out.b0.cell 1; have qa2 := HB.out.b0.cell 2; have qa3 := HB.out.b0.cell 3; have qa4 := HB.out.b0.cell 4; have qb0 := HB.out.b1.cell 0; have qb1 := HB.out.b1.cell 1; have qb2 := HB.out.b1.cell 2; have qb3 := HB.out.b1.cell 3; have qb4 := HB.out.b1.cell 4; simp only [List.getElem?_toArray, List.getElem?_cons_succ, List.getElem?_cons_zero] at qa0 qa1 qa2 qa3 qa4 qb0 qb1 qb2 qb3 qb4)
      | (go_at_call 15; with_reducible refine (HCa.out _ HB.out.below).mono ?_; rintro e w1 ⟨rfl, hb⟩; have HBn := Lib.hid (HB.out.step hb); clear HB hb; have HB := HBn; clear HBn; (try clear qa0 qa1 qa2 qa3 qa4 qb0 qb1 qb2 qb3 qb4); have qa0 := HB.out.b0.cell 0; have qa1 := HB.out.b0.cell 1; have qa2 := HB.out.b0.cell 2; have qa3 := HB.out.b0.cell 3; have qa4 := HB.out.b0.cell 4; have qb0 := HB.out.b1.cell 0; have qb1 := HB.out.b1.cell 1; have qb2 := HB.out.b1.cell 2; have qb3 := HB.out.b1.cell 3; have qb4 := HB.out.b1.cell 4; simp only [List.getElem?_toArray, List.getElem?_cons_succ, List.getElem?_cons_zero] at qa0 qa1 qa2 qa3 qa4 qb0 qb1 qb2 qb3 qb4)
      | (go_at_call 15; with_reducible refine (HCb.out _ HB.out.below).mono ?_; rintro e w1 ⟨rfl, hb⟩; have HBn := Lib.hid (HB.out.step hb); clear HB hb; have HB := HBn; clear HBn; (try clear qa0 qa1 qa2 qa3 qa4 qb0 qb1 qb2 qb3 qb4); have qa0 := HB.out.b0.cell 0; have qa1 := HB.out.b0.cell 1; have qa2 := HB.out.b0.cell 2; have qa3 := HB.out.b0.cell 3; have qa4 := HB.out.b0.cell 4; have qb0 := HB.out.b1.cell 0; have qb1 := HB.out.b1.cell 1; have qb2 := HB.out.b1.cell 2; have qb3 := HB.out.b1.cell 3; have qb4 := HB.out.b1.cell 4; simp only [List.getElem?_toArray, List.getElem?_cons_succ, List.getElem?_cons_zero] at qa0 qa1 qa2 qa3 qa4 qb0 qb1 qb2 qb3 qb4)
      | (go_at_call 13; with_reducible refine (HPa.out _ HB.out.below).mono ?_; rintro e w1 ⟨oa, ca, rfl, hb⟩; have HBn := Lib.hid (HB.out.step hb); clear HB hb; have HB := HBn; clear HBn; (try clear qa0 qa1 qa2 qa3 qa4 qb0 qb1 qb2 qb3 qb4); have qa0 := HB.out.b0.cell 0; have qa1 := HB.out.b0.cell 1; have qa2 := HB.out.b0.cell 2; have qa3 := HB.out.b0.cell 3; have qa4 := HB.out.b0.cell 4; have qb0 := HB.out.b1.cell 0; have qb1 := HB.out.b1.cell 1; have qb2 := HB.out.b1.cell 2; have qb3 := HB.out.b1.cell 3; have qb4 := HB.out.b1.cell 4; simp only [List.getElem?_toArray, List.getElem?_cons_succ, List.getElem?_cons_zero] at qa0 qa1 qa2 qa3 qa4 qb0 qb1 qb2 qb3 qb4)
      | (go_at_call 13; with_reducible refine (HPb.out _ HB.out.below).mono ?_; rintro e w1 ⟨on, nn, cn, rfl, hpos, hb⟩; have HBn := Lib.hid (HB.out.step hb); clear HB hb; have HB := HBn; clear HBn; (try clear qa0 qa1 qa2 qa3 qa4 qb0 qb1 qb2 qb3 qb4); have qa0 := HB.out.b0.cell 0; have qa1 := HB.out.b0.cell 1; have qa2 := HB.out.b0.cell 2; have qa3 := HB.out.b0.cell 3; have qa4 := HB.out.b0.cell 4; have qb0 := HB.out.b1.cell 0; have qb1 := HB.out.b1.cell 1; have qb2 := HB.out.b1.cell 2; have qb3 := HB.out.b1.cell 3; have qb4 := HB.out.b1.cell 4; simp only [List.getElem?_toArray, List.getElem?_cons_succ, List.getElem?_cons_zero] at qa0 qa1 qa2 qa3 qa4 qb0 qb1 qb2 qb3 qb4))
    go_ret
    exact ⟨rfl, HB.out.below⟩
  have hpy' : ∀ k, ¬ hasY k y := fun k h => hpy ⟨k, h⟩
  have HPb := Lib.hid (fun W (h : Below w.heap.size w W) => (pars (w := w) HY1.out W (HBY.out.below h) 0 (.inl ⟨rfl, hpy'⟩) h.size).mono fun e W' (h : ∃ (o : Option Addr) (n c : Nat), e = .returned (.slice o n c) ∧ (n = 0 ↔ 0 = 0) ∧ n ≤ 1000 ∧ Below W.heap.size W W') => (show ∃ (o : Option Addr) (c : Nat), e = .returned (.slice o 0 c) ∧ Below W.heap.size W W' by obtain ⟨o, n, c, h1, h2, h3, h4⟩ := h; obtain rfl := h2.2 rfl; exact ⟨o, c, h1, h4⟩))
  have hst := hst hpx' hpy'
  clear hpx hpx' hpy hpy'
  by_cases htx : txtY x = txtY y
  · have hsm := hst.2 htx
    rw [hsm] at HS
    rw [← htx] at HTb
    clear hst htx hsm
    generalize txtY x = T at *
    go_wp2_with (first
      | (refine boxLoad 25 5 size5 Try.underlying25 rfl _ rfl w.heap.size rfl (cs := [a0, a1, a2, a3, a4]) HB.out.b0 rfl ?_)
      | (refine boxLoad 25 5 size5 Try.underlying25 rfl _ rfl (w.heap.size + 1) rfl (cs := [b0, b1, b2, b3, b4]) HB.out.b1 rfl ?_)
      | (go_at_call 10; with_reducible refine (awake_any _).mono ?_; rintro e w1 ⟨rfl, hb⟩; have HBn := Lib.hid (HB.out.step hb); clear HB hb; have HB := HBn; clear HBn; (try clear qa0 qa1 qa2 qa3 qa4 qb0 qb1 qb2 qb3 qb4); have qa0 := HB.out.b0.cell 0; have qa1 := HB.out.b0.cell 1; have qa2 := HB.out.b0.cell 2; have qa3 := HB.out.b0.cell 3; have qa4 := HB.out.b0.cell 4; have qb0 := HB.out.b1.cell 0; have qb1 := HB.out.b1.cell 1; have qb2 := HB.out.b1.cell 2; have qb3 := HB.out.b1.cell 3; have qb4 := HB.out.b1.cell 4; simp only [List.getElem?_toArray, List.getElem?_cons_succ, List.getElem?_cons_zero] at qa0 qa1 qa2 qa3 qa4 qb0 qb1 qb2 qb3 qb4)
      | (go_at_call 11; with_reducible refine (HNa.out _ HB.out.below).mono ?_; rintro e w1 ⟨rfl, hb⟩; have HBn := Lib.hid (HB.out.step hb); clear HB hb; have HB := HBn; clear HBn; (try clear qa0 qa1 qa2 qa3 qa4 qb0 qb1 qb2 qb3 qb4); have qa0 := HB.out.b0.cell 0; have qa1 := HB.out.b0.cell 1; have qa2 := HB.out.b0.cell 2; have qa3 := HB.out.b0.cell 3; have qa4 := HB.out.b0.cell 4; have qb0 := HB.out.b1.cell 0; have qb1 := HB.out.b1.cell 1; have qb2 := HB.out.b1.cell 2; have qb3 := HB.out.b1.cell 3; have qb4 := HB.out.b1.cell 4; simp only [List.getElem?_toArray, List.getElem?_cons_succ, List.getElem?_cons_zero] at qa0 qa1 qa2 qa3 qa4 qb0 qb1 qb2 qb3 qb4)
      | (go_at_call 11; with_reducible refine (HNb.out _ HB.out.below).mono ?_; rintro e w1 ⟨rfl, hb⟩; have HBn := Lib.hid (HB.out.step hb); clear HB hb; have HB := HBn; clear HBn; (try clear qa0 qa1 qa2 qa3 qa4 qb0 qb1 qb2 qb3 qb4); have qa0 := HB.out.b0.cell 0; have qa1 := HB.out.b0.cell 1; have qa2 := HB.out.b0.cell 2; have qa3 := HB.out.b0.cell 3; have qa4 := HB.out.b0.cell 4; have qb0 := HB.out.b1.cell 0; have qb1 := HB.out.b1.cell 1; have qb2 := HB.out.b1.cell 2; have qb3 := HB.out.b1.cell 3; have qb4 := HB.out.b1.cell 4; simp only [List.getElem?_toArray, List.getElem?_cons_succ, List.getElem?_cons_zero] at qa0 qa1 qa2 qa3 qa4 qb0 qb1 qb2 qb3 qb4)
      | (go_at_call 15; with_reducible refine (HCa.out _ HB.out.below).mono ?_; rintro e w1 ⟨rfl, hb⟩; have HBn := Lib.hid (HB.out.step hb); clear HB hb; have HB := HBn; clear HBn; (try clear qa0 qa1 qa2 qa3 qa4 qb0 qb1 qb2 qb3 qb4); have qa0 := HB.out.b0.cell 0; have qa1 := HB.out.b0.cell 1; have qa2 := HB.out.b0.cell 2; have qa3 := HB.out.b0.cell 3; have qa4 := HB.out.b0.cell 4; have qb0 := HB.out.b1.cell 0; have qb1 := HB.out.b1.cell 1; have qb2 := HB.out.b1.cell 2; have qb3 := HB.out.b1.cell 3; have qb4 := HB.out.b1.cell 4; simp only [List.getElem?_toArray, List.getElem?_cons_succ, List.getElem?_cons_zero] at qa0 qa1 qa2 qa3 qa4 qb0 qb1 qb2 qb3 qb4)
      | (go_at_call 15; with_reducible refine (HCb.out _ HB.out.below).mono ?_; rintro e w1 ⟨rfl, hb⟩; have HBn := Lib.hid (HB.out.step hb); clear HB hb; have HB := HBn; clear HBn; (try clear qa0 qa1 qa2 qa3 qa4 qb0 qb1 qb2 qb3 qb4); have qa0 := HB.out.b0.cell 0; have qa1 := HB.out.b0.cell 1; have qa2 := HB.out.b0.cell 2; have qa3 := HB.out.b0.cell 3; have qa4 := HB.out.b0.cell 4; have qb0 := HB.out.b1.cell 0; have qb1 := HB.out.b1.cell 1; have qb2 := HB.out.b1.cell 2; have qb3 := HB.out.b1.cell 3; have qb4 := HB.out.b1.cell 4; simp only [List.getElem?_toArray, List.getElem?_cons_succ, List.getElem?_cons_zero] at qa0 qa1 qa2 qa3 qa4 qb0 qb1 qb2 qb3 qb4)
      | (go_at_call 13; with_reducible refine (HPa.out _ HB.out.below).mono ?_; rintro e w1 ⟨oa, ca, rfl, hb⟩; have HBn := Lib.hid (HB.out.step hb); clear HB hb; have HB := HBn; clear HBn; (try clear qa0 qa1 qa2 qa3 qa4 qb0 qb1 qb2 qb3 qb4); have qa0 := HB.out.b0.cell 0; have qa1 := HB.out.b0.cell 1; have qa2 := HB.out.b0.cell 2; have qa3 := HB.out.b0.cell 3; have qa4 := HB.out.b0.cell 4; have qb0 := HB.out.b1.cell 0; have qb1 := HB.out.b1.cell 1; have qb2 := HB.out.b1.cell 2; have qb3 := HB.out.b1.cell 3; have qb4 := HB.out.b1.cell 4; simp only [List.getElem?_toArray, List.getElem?_cons_succ, List.getElem?_cons_zero] at qa0 qa1 qa2 qa3 qa4 qb0 qb1 qb2 qb3 qb4)
      | (go_at_call 13; with_reducible refine (HPb.out _ HB.out.below).mono ?_; rintro e w1 ⟨ob, cb, rfl, hb⟩; have HBn := Lib.hid (HB.out.step hb); clear HB hb; have HB := HBn; clear HBn; (try clear qa0 qa1 qa2 qa3 qa4 qb0 qb1 qb2 qb3 qb4); have qa0 := HB.out.b0.cell 0; have qa1 := HB.out.b0.cell 1; have qa2 := HB.out.b0.cell 2; have qa3 := HB.out.b0.cell 3; have qa4 := HB.out.b0.cell 4; have qb0 := HB.out.b1.cell 0; have qb1 := HB.out.b1.cell 1; have qb2 := HB.out.b1.cell 2; have qb3 := HB.out.b1.cell 3; have qb4 := HB.out.b1.cell 4; simp only [List.getElem?_toArray, List.getElem?_cons_succ, List.getElem?_cons_zero] at qa0 qa1 qa2 qa3 qa4 qb0 qb1 qb2 qb3 qb4)
      | (go_at_call 21; with_reducible refine (HS.out _ HB.out.below).mono ?_; rintro e w1 ⟨rfl, hb⟩; have HBn := Lib.hid (HB.out.step hb); clear HB hb; have HB := HBn; clear HBn; (try clear qa0 qa1 qa2 qa3 qa4 qb0 qb1 qb2 qb3 qb4); have qa0 := HB.out.b0.cell 0; have qa1 := HB.out.b0.cell 1; have qa2 := HB.out.b0.cell 2; have qa3 := HB.out.b0.cell 3; have qa4 := HB.out.b0.cell 4; have qb0 := HB.out.b1.cell 0; have qb1 := HB.out.b1.cell 1; have qb2 := HB.out.b1.cell 2; have qb3 := HB.out.b1.cell 3; have qb4 := HB.out.b1.cell 4; simp only [List.getElem?_toArray, List.getElem?_cons_succ, List.getElem?_cons_zero] at qa0 qa1 qa2 qa3 qa4 qb0 qb1 qb2 qb3 qb4))
    obtain ⟨W5, hW5⟩ : ∃ W, w1 = W := ⟨_, rfl⟩
    subst hW5
    have hS0 : (fun w' : World => Below w1.heap.size w1 w') w1.drew := (Below.refl _ _).drew
    refine wp_region_held_drew (S := (fun w' : World => Below w1.heap.size w1 w')) (by kernel_rfl) hS0 fun hS0 => ?_
    refine wpAnyH_take (i := 0) (v := .bool true) rfl (by kernel_rfl) (by kernel_rfl) (by kernel_rfl) (fun _ _ _ h => h) (Or.inl ⟨by kernel_rfl, fun w' hw' => ?_⟩) hS0 ?_
    · go_simp
    refine wpAnyH_take (i := 1) (v := .bool true) rfl (by kernel_rfl) (by kernel_rfl) (by kernel_rfl) (fun _ _ _ h => h) (Or.inl ⟨by kernel_rfl, fun w' hw' => ?_⟩) hS0 ?_
    · go_simp
    refine wpAnyH_take (i := 2) (v := .bool true) rfl (by kernel_rfl) (by kernel_rfl) (by kernel_rfl) (fun _ _ _ h => h) (Or.inl ⟨by kernel_rfl, fun w' hw' => ?_⟩) hS0 ?_
    · go_simp
    refine wpAnyH_take (i := 3) (v := .agg #[a0, a1, a2, a3, a4]) rfl (by kernel_rfl) (by kernel_rfl) (by kernel_rfl) (fun _ _ _ h => h) (Or.inl ⟨by kernel_rfl, fun w' hw' => ?_⟩) hS0 ?_
    · exact run_loadG 25 5 size5 Try.underlying25 _ rfl ⟨w.heap.size, 0, none⟩ (by kernel_rfl) (blk_add ((Below.block hw' _ HB.out.b0.lt).trans HB.out.b0)) rfl
    refine wpAnyH_take (i := 5) (v := .agg #[b0, b1, b2, b3, b4]) rfl (by kernel_rfl) (by kernel_rfl) (by kernel_rfl) (fun _ _ _ h => h) (Or.inl ⟨by kernel_rfl, fun w' hw' => ?_⟩) hS0 ?_
    · exact run_loadG 25 5 size5 Try.underlying25 _ rfl ⟨(w.heap.size + 1), 0, none⟩ (by kernel_rfl) (blk_add ((Below.block hw' _ HB.out.b1.lt).trans HB.out.b1)) rfl
    refine wpAnyH_ready (rs := [4]) (by kernel_rfl) (by simp) (AllReadyH.cons rfl (fun KK hK => ?_) AllReadyH.nil)
    go_simp
    refine (HTa.out _ (HB.out.below.trans (hS0.mono HB.out.below.size))).mono ?_
    rintro e wa ⟨rfl, hba⟩
    have k1 : Below w1.heap.size w1 wa := hS0.trans (hba.mono hS0.size)
    refine hK.out _ _ k1 (fun hS1 => ?_)
    refine wpAnyH_ready (rs := [6]) (by kernel_rfl) (by simp) (AllReadyH.cons rfl (fun KK hK => ?_) AllReadyH.nil)
    go_simp
    refine (HTb.out _ (HB.out.below.trans (hS1.mono HB.out.below.size))).mono ?_
    rintro e wb ⟨rfl, hbb⟩
    have k2 : Below w1.heap.size w1 wb := hS1.trans (hbb.mono hS1.size)
    refine hK.out _ _ k2 (fun hS2 => ?_)
    refine wpAnyH_take (i := 7) (v := .bool true) rfl (by kernel_rfl) (by kernel_rfl) (by kernel_rfl) (fun _ _ _ h => h) (Or.inl ⟨by kernel_rfl, fun w' hw' => ?_⟩) hS2 ?_
    · go_simp
    refine wpAnyH_take (i := 8) (v := .bool true) rfl (by kernel_rfl) (by kernel_rfl) (by kernel_rfl) (fun _ _ _ h => h) (Or.inl ⟨by kernel_rfl, fun w' hw' => ?_⟩) hS2 ?_
    · go_simp
    refine wpAnyH_take (i := 9) (v := .bool true) rfl (by kernel_rfl) (by kernel_rfl) (by kernel_rfl) (fun _ _ _ h => h) (Or.inl ⟨by kernel_rfl, fun w' hw' => ?_⟩) hS2 ?_
    · go_simp
    refine wpAnyH_take (i := 10) (v := .bool true) rfl (by kernel_rfl) (by kernel_rfl) (by kernel_rfl) (fun _ _ _ h => h) (Or.inl ⟨by kernel_rfl, fun w' hw' => ?_⟩) hS2 ?_
    · go_simp
    refine wpAnyH_done (by kernel_rfl) ?_ _
    have KF := Lib.hid (HB.out.below.trans (k2.mono HB.out.below.size))
    clear k1 k2 hS0 hS1 hS2 hba hbb
    go_wp2_with fail
    go_ret
    exact ⟨rfl, KF.out⟩
  · have hsm : sameY x y = false := by
      cases h : sameY x y with
      | false => rfl
      | true => exact absurd (hst.1 h) htx
    rw [hsm] at HS
    have hne : ¬ ((⟨(txtY x).toArray⟩ : ByteArray) = ⟨(txtY y).toArray⟩) := fun e => htx (by injection e with e; simpa using congrArg Array.toList e)
    have htb := bytes_ne hne
    clear hst htx hsm hne
    generalize (⟨(txtY x).toArray⟩ : ByteArray) = T at *
    generalize (⟨(txtY y).toArray⟩ : ByteArray) = T' at *
    go_wp2_with (first
      | (refine boxLoad 25 5 size5 Try.underlying25 rfl _ rfl w.heap.size rfl (cs := [a0, a1, a2, a3, a4]) HB.out.b0 rfl ?_)
      | (refine boxLoad 25 5 size5 Try.underlying25 rfl _ rfl (w.heap.size + 1) rfl (cs := [b0, b1, b2, b3, b4]) HB.out.b1 rfl ?_)
      | (go_at_call 10; with_reducible refine (awake_any _).mono ?_; rintro e w1 ⟨rfl, hb⟩; have HBn := Lib.hid (HB.out.step hb); clear HB hb; have HB := HBn; clear HBn; (try clear qa0 qa1 qa2 qa3 qa4 qb0 qb1 qb2 qb3 qb4); have qa0 := HB.out.b0.cell 0; have qa1 := HB.out.b0.cell 1; have qa2 := HB.out.b0.cell 2; have qa3 := HB.out.b0.cell 3; have qa4 := HB.out.b0.cell 4; have qb0 := HB.out.b1.cell 0; have qb1 := HB.out.b1.cell 1; have qb2 := HB.out.b1.cell 2; have qb3 := HB.out.b1.cell 3; have qb4 := HB.out.b1.cell 4; simp only [List.getElem?_toArray, List.getElem?_cons_succ, List.getElem?_cons_zero] at qa0 qa1 qa2 qa3 qa4 qb0 qb1 qb2 qb3 qb4)
      | (go_at_call 11; with_reducible refine (HNa.out _ HB.out.below).mono ?_; rintro e w1 ⟨rfl, hb⟩; have HBn := Lib.hid (HB.out.step hb); clear HB hb; have HB := HBn; clear HBn; (try clear qa0 qa1 qa2 qa3 qa4 qb0 qb1 qb2 qb3 qb4); have qa0 := HB.out.b0.cell 0; have qa1 := HB.out.b0.cell 1; have qa2 := HB.out.b0.cell 2; have qa3 := HB.out.b0.cell 3; have qa4 := HB.out.b0.cell 4; have qb0 := HB.out.b1.cell 0; have qb1 := HB.out.b1.cell 1; have qb2 := HB.out.b1.cell 2; have qb3 := HB.out.b1.cell 3; have qb4 := HB.out.b1.cell 4; simp only [List.getElem?_toArray, List.getElem?_cons_succ, List.getElem?_cons_zero] at qa0 qa1 qa2 qa3 qa4 qb0 qb1 qb2 qb3 qb4)
      | (go_at_call 11; with_reducible refine (HNb.out _ HB.out.below).mono ?_; rintro e w1 ⟨rfl, hb⟩; have HBn := Lib.hid (HB.out.step hb); clear HB hb; have HB := HBn; clear HBn; (try clear qa0 qa1 qa2 qa3 qa4 qb0 qb1 qb2 qb3 qb4); have qa0 := HB.out.b0.cell 0; have qa1 := HB.out.b0.cell 1; have qa2 := HB.out.b0.cell 2; have qa3 := HB.out.b0.cell 3; have qa4 := HB.out.b0.cell 4; have qb0 := HB.out.b1.cell 0; have qb1 := HB.out.b1.cell 1; have qb2 := HB.out.b1.cell 2; have qb3 := HB.out.b1.cell 3; have qb4 := HB.out.b1.cell 4; simp only [List.getElem?_toArray, List.getElem?_cons_succ, List.getElem?_cons_zero] at qa0 qa1 qa2 qa3 qa4 qb0 qb1 qb2 qb3 qb4)
      | (go_at_call 15; with_reducible refine (HCa.out _ HB.out.below).mono ?_; rintro e w1 ⟨rfl, hb⟩; have HBn := Lib.hid (HB.out.step hb); clear HB hb; have HB := HBn; clear HBn; (try clear qa0 qa1 qa2 qa3 qa4 qb0 qb1 qb2 qb3 qb4); have qa0 := HB.out.b0.cell 0; have qa1 := HB.out.b0.cell 1; have qa2 := HB.out.b0.cell 2; have qa3 := HB.out.b0.cell 3; have qa4 := HB.out.b0.cell 4; have qb0 := HB.out.b1.cell 0; have qb1 := HB.out.b1.cell 1; have qb2 := HB.out.b1.cell 2; have qb3 := HB.out.b1.cell 3; have qb4 := HB.out.b1.cell 4; simp only [List.getElem?_toArray, List.getElem?_cons_succ, List.getElem?_cons_zero] at qa0 qa1 qa2 qa3 qa4 qb0 qb1 qb2 qb3 qb4)
      | (go_at_call 15; with_reducible refine (HCb.out _ HB.out.below).mono ?_; rintro e w1 ⟨rfl, hb⟩; have HBn := Lib.hid (HB.out.step hb); clear HB hb; have HB := HBn; clear HBn; (try clear qa0 qa1 qa2 qa3 qa4 qb0 qb1 qb2 qb3 qb4); have qa0 := HB.out.b0.cell 0; have qa1 := HB.out.b0.cell 1; have qa2 := HB.out.b0.cell 2; have qa3 := HB.out.b0.cell 3; have qa4 := HB.out.b0.cell 4; have qb0 := HB.out.b1.cell 0; have qb1 := HB.out.b1.cell 1; have qb2 := HB.out.b1.cell 2; have qb3 := HB.out.b1.cell 3; have qb4 := HB.out.b1.cell 4; simp only [List.getElem?_toArray, List.getElem?_cons_succ, List.getElem?_cons_zero] at qa0 qa1 qa2 qa3 qa4 qb0 qb1 qb2 qb3 qb4)
      | (go_at_call 13; with_reducible refine (HPa.out _ HB.out.below).mono ?_; rintro e w1 ⟨oa, ca, rfl, hb⟩; have HBn := Lib.hid (HB.out.step hb); clear HB hb; have HB := HBn; clear HBn; (try clear qa0 qa1 qa2 qa3 qa4 qb0 qb1 qb2 qb3 qb4); have qa0 := HB.out.b0.cell 0; have qa1 := HB.out.b0.cell 1; have qa2 := HB.out.b0.cell 2; have qa3 := HB.out.b0.cell 3; have qa4 := HB.out.b0.cell 4; have qb0 := HB.out.b1.cell 0; have qb1 := HB.out.b1.cell 1; have qb2 := HB.out.b1.cell 2; have qb3 := HB.out.b1.cell 3; have qb4 := HB.out.b1.cell 4; simp only [List.getElem?_toArray, List.getElem?_cons_succ, List.getElem?_cons_zero] at qa0 qa1 qa2 qa3 qa4 qb0 qb1 qb2 qb3 qb4)
      | (go_at_call 13; with_reducible refine (HPb.out _ HB.out.below).mono ?_; rintro e w1 ⟨ob, cb, rfl, hb⟩; have HBn := Lib.hid (HB.out.step hb); clear HB hb; have HB := HBn; clear HBn; (try clear qa0 qa1 qa2 qa3 qa4 qb0 qb1 qb2 qb3 qb4); have qa0 := HB.out.b0.cell 0; have qa1 := HB.out.b0.cell 1; have qa2 := HB.out.b0.cell 2; have qa3 := HB.out.b0.cell 3; have qa4 := HB.out.b0.cell 4; have qb0 := HB.out.b1.cell 0; have qb1 := HB.out.b1.cell 1; have qb2 := HB.out.b1.cell 2; have qb3 := HB.out.b1.cell 3; have qb4 := HB.out.b1.cell 4; simp only [List.getElem?_toArray, List.getElem?_cons_succ, List.getElem?_cons_zero] at qa0 qa1 qa2 qa3 qa4 qb0 qb1 qb2 qb3 qb4)
      | (go_at_call 21; with_reducible refine (HS.out _ HB.out.below).mono ?_; rintro e w1 ⟨rfl, hb⟩; have HBn := Lib.hid (HB.out.step hb); clear HB hb; have HB := HBn; clear HBn; (try clear qa0 qa1 qa2 qa3 qa4 qb0 qb1 qb2 qb3 qb4); have qa0 := HB.out.b0.cell 0; have qa1 := HB.out.b0.cell 1; have qa2 := HB.out.b0.cell 2; have qa3 := HB.out.b0.cell 3; have qa4 := HB.out.b0.cell 4; have qb0 := HB.out.b1.cell 0; have qb1 := HB.out.b1.cell 1; have qb2 := HB.out.b1.cell 2; have qb3 := HB.out.b1.cell 3; have qb4 := HB.out.b1.cell 4; simp only [List.getElem?_toArray, List.getElem?_cons_succ, List.getElem?_cons_zero] at qa0 qa1 qa2 qa3 qa4 qb0 qb1 qb2 qb3 qb4))
    obtain ⟨W5, hW5⟩ : ∃ W, w1 = W := ⟨_, rfl⟩
    subst hW5
    have hS0 : (fun w' : World => Below w1.heap.size w1 w') w1.drew := (Below.refl _ _).drew
    refine wp_region_held_drew (S := (fun w' : World => Below w1.heap.size w1 w')) (by kernel_rfl) hS0 fun hS0 => ?_
    refine wpAnyH_take (i := 0) (v := .bool true) rfl (by kernel_rfl) (by kernel_rfl) (by kernel_rfl) (fun _ _ _ h => h) (Or.inl ⟨by kernel_rfl, fun w' hw' => ?_⟩) hS0 ?_
    · go_simp
    refine wpAnyH_take (i := 1) (v := .bool true) rfl (by kernel_rfl) (by kernel_rfl) (by kernel_rfl) (fun _ _ _ h => h) (Or.inl ⟨by kernel_rfl, fun w' hw' => ?_⟩) hS0 ?_
    · go_simp
    refine wpAnyH_take (i := 2) (v := .bool false) rfl (by kernel_rfl) (by kernel_rfl) (by kernel_rfl) (fun _ _ _ h => h) (Or.inl ⟨by kernel_rfl, fun w' hw' => ?_⟩) hS0 ?_
    · go_simp
    refine wpAnyH_take (i := 3) (v := .agg #[a0, a1, a2, a3, a4]) rfl (by kernel_rfl) (by kernel_rfl) (by kernel_rfl) (fun _ _ _ h => h) (Or.inl ⟨by kernel_rfl, fun w' hw' => ?_⟩) hS0 ?_
    · exact run_loadG 25 5 size5 Try.underlying25 _ rfl ⟨w.heap.size, 0, none⟩ (by kernel_rfl) (blk_add ((Below.block hw' _ HB.out.b0.lt).trans HB.out.b0)) rfl
    refine wpAnyH_take (i := 5) (v := .agg #[b0, b1, b2, b3, b4]) rfl (by kernel_rfl) (by kernel_rfl) (by kernel_rfl) (fun _ _ _ h => h) (Or.inl ⟨by kernel_rfl, fun w' hw' => ?_⟩) hS0 ?_
    · exact run_loadG 25 5 size5 Try.underlying25 _ rfl ⟨(w.heap.size + 1), 0, none⟩ (by kernel_rfl) (blk_add ((Below.block hw' _ HB.out.b1.lt).trans HB.out.b1)) rfl
    refine wpAnyH_ready (rs := [4]) (by kernel_rfl) (by simp) (AllReadyH.cons rfl (fun KK hK => ?_) AllReadyH.nil)
    go_simp
    refine (HTa.out _ (HB.out.below.trans (hS0.mono HB.out.below.size))).mono ?_
    rintro e wa ⟨rfl, hba⟩
    have k1 : Below w1.heap.size w1 wa := hS0.trans (hba.mono hS0.size)
    refine hK.out _ _ k1 (fun hS1 => ?_)
    refine wpAnyH_ready (rs := [6]) (by kernel_rfl) (by simp) (AllReadyH.cons rfl (fun KK hK => ?_) AllReadyH.nil)
    go_simp
    refine (HTb.out _ (HB.out.below.trans (hS1.mono HB.out.below.size))).mono ?_
    rintro e wb ⟨rfl, hbb⟩
    have k2 : Below w1.heap.size w1 wb := hS1.trans (hbb.mono hS1.size)
    refine hK.out _ _ k2 (fun hS2 => ?_)
    refine wpAnyH_take (i := 7) (v := .bool false) rfl (by kernel_rfl) (by kernel_rfl) (by kernel_rfl) (fun _ _ _ h => h) (Or.inl ⟨by kernel_rfl, fun w' hw' => ?_⟩) hS2 ?_
    · go_simp
    refine wpAnyH_take (i := 8) (v := .bool true) rfl (by kernel_rfl) (by kernel_rfl) (by kernel_rfl) (fun _ _ _ h => h) (Or.inl ⟨by kernel_rfl, fun w' hw' => ?_⟩) hS2 ?_
    · go_simp
    refine wpAnyH_take (i := 9) (v := .bool true) rfl (by kernel_rfl) (by kernel_rfl) (by kernel_rfl) (fun _ _ _ h => h) (Or.inl ⟨by kernel_rfl, fun w' hw' => ?_⟩) hS2 ?_
    · go_simp
    refine wpAnyH_take (i := 10) (v := .bool true) rfl (by kernel_rfl) (by kernel_rfl) (by kernel_rfl) (fun _ _ _ h => h) (Or.inl ⟨by kernel_rfl, fun w' hw' => ?_⟩) hS2 ?_
    · go_simp
    refine wpAnyH_done (by kernel_rfl) ?_ _
    have KF := Lib.hid (HB.out.below.trans (k2.mono HB.out.below.size))
    clear k1 k2 hS0 hS1 hS2 hba hbb
    go_wp2_with fail
    go_ret
    exact ⟨rfl, KF.out⟩

theorem laidOut : laidOutB Try.prog = true := by kernel_rfl
theorem own : ownKnob Try.prog.godebug = none := by kernel_rfl

theorem int_range {n : Int} (h : (Lit.int .i64 n).wf = true) : -9223372036854775808 ≤ n ∧ n ≤ 9223372036854775807 := by
  have h2 : IntKind.i64.min ≤ n ∧ n ≤ IntKind.i64.max := by
    unfold Lit.wf at h
    simpa only [Bool.and_eq_true, decide_eq_true_eq] using h
  rw [show IntKind.i64.min = -9223372036854775808 by decide, show IntKind.i64.max = 9223372036854775807 by decide] at h2
  exact h2

set_option maxRecDepth 100000 in
theorem lifted (os : Os) (started : os.Started) (H : Type) (enc : TypeId × Value → H) :
    ReturnsInHanded {} Try.checked os 8 .any (Rows.termTextsSpec.pre6 enc Try.prog Try.f8 Rows.termTextsRow.domain false) (Rows.termTextsSpec.post enc Try.prog Try.f8 false true false false) := by
  refine returnsInHanded_of_change_sized (C := Try.checked) own started (by kernel_rfl) Try.func8
    (ChangeSpec.witness6 (enc := enc) (C := Try.checked) false ⟨#[], #[.agg #[.int .i64 0, .string .empty, .string .empty, .int .i64 0, .slice none 0 0], .agg #[.int .i64 0, .string .empty, .string .empty, .int .i64 0, .slice none 0 0]], []⟩ 8 (by kernel_rfl) (by kernel_rfl) (by kernel_rfl) (by kernel_rfl)) ?_
  intro W base args ds gs before hval0 hW hcnd hsz _
  have hval : ∀ (j : Nat) t v, Try.f8.params[j]? = some t → args[j]? = some v → Value.okWide Try.prog W .any base t v := hval0
  have hW' := hW
  obtain ⟨p, q, hA0, hV, rfl, hfz, hnd⟩ := hW
  have hA : DataW.TrodAll enc Try.prog W 0 (fun _ => true) true Try.f8.params.toList args.toList ds p := hA0
  rw [Try.params8] at hA hval
  obtain ⟨v0, vs0, d0, ds0, p0, q0, hargs, rfl, rfl, h0, r0⟩ := trodAll_cons hA
  obtain ⟨v1, vs1, d1, ds1, p1, q1, rfl, rfl, rfl, h1, r1⟩ := trodAll_cons r0
  obtain ⟨rfl, rfl, rfl⟩ := trodAll_nil r1
  obtain rfl : args = #[v0, v1] := by cases args; simp_all
  obtain ⟨rfl, rfl⟩ := trodVars_none hV
  have t0 := h0
  obtain ⟨fl0, k0⟩ := h0
  have lt0 : ∀ x ∈ p0, x.block < W.heap.size := fun x hx => by simpa using hW'.lt x (by simp [hx])
  obtain ⟨cc0, rfl, _⟩ := okWide_struct Try.underlying25 (hval 0 25 v0 rfl rfl)
  have kk0 : DataW.trod enc Try.prog W 0 (fun _ => true) true fl0 25 cc0.toList = some (d0, p0) := k0
  obtain ⟨y0, g0, s0⟩ := open_y fl0 _ _ kk0
  have m0 := s0 reachBytes (fun k hk => by simpa using List.all_eq_true.1 hsz k (DataW.weights_mem_each (j := 0) rfl rfl k hk))
  rw [show cc0.toList.toArray = cc0 by simp] at g0
  have t1 := h1
  obtain ⟨fl1, k1⟩ := h1
  have lt1 : ∀ x ∈ p1, x.block < W.heap.size := fun x hx => by simpa using hW'.lt x (by simp [hx])
  obtain ⟨cc1, rfl, _⟩ := okWide_struct Try.underlying25 (hval 1 25 v1 rfl rfl)
  have kk1 : DataW.trod enc Try.prog W 0 (fun _ => true) true fl1 25 cc1.toList = some (d1, p1) := k1
  obtain ⟨y1, g1, s1⟩ := open_y fl1 _ _ kk1
  have m1 := s1 reachBytes (fun k hk => by simpa using List.all_eq_true.1 hsz k (DataW.weights_mem_each (j := 1) rfl rfl k hk))
  rw [show cc1.toList.toArray = cc1 by simp] at g1
  clear hA0 hval0
  simp only [List.append_nil] at hW'
  refine (walk y0 _ y1 _ W g0 m0 g1 m1).mono fun e W' ⟨he, hg⟩ => ?_
  subst he
  exact ⟨_, rfl, _, _, _, [], _, [], hW', (trodAll_cons_mk (shut_bool Try.underlying4 _) trodAll_mk0), (trodAll_cons_mk (Below.trod laidOut (by kernel_rfl) (of_decide_eq_true (by kernel_rfl)) t0 hg lt0) (trodAll_cons_mk (Below.trod laidOut (by kernel_rfl) (of_decide_eq_true (by kernel_rfl)) t1 hg lt1) trodAll_mk0)), rfl, hg.frame _, fun h => by cases h⟩

theorem over : Rows.termTextsRow.holds Try.pinned (OpenSpec.ofChange Rows.termTextsSpec) :=
  OpenClaim.holds_of_wide 8 Try.f8 rfl rfl rfl rfl rfl rfl rfl ⟨rfl, rfl, rfl, rfl, rfl⟩ rfl rfl rfl rfl rfl (by kernel_rfl) Try.func8 (by kernel_rfl)
    (of_decide_eq_true (by kernel_rfl)) (by unfold Func.isWrapper; first | (rw [if_pos (by decide +kernel)]; kernel_rfl) | (rw [if_neg (by decide +kernel)]; exact ⟨rfl, rfl⟩))
    (fun os started H enc _ => lifted os started H enc)

/-- TermTexts answers true. -/
theorem proved : Rows.TermTextsSaid :=
  over

end Go.Proofs.Ytofdejoeheokjaa.termTexts
