/-
  TermPuts answers true, whatever it is given. No condition.
-/
import Derived.Test.YtofdejoeheokjaaTvb
import Derived.Test.YtofdejoeheokjaaTvc
import Derived.Test.YtofdejoeheokjaaTmc
import Derived.Test.YtofdejoeheokjaaTsd
import Derived.ProofKit
import Derived.OpenShut
namespace Go.Proofs.Ytofdejoeheokjaa.termPuts
open Go.ChangeShapes Go.WideShapes Go.ChangeAt Go.RowKit
open Go.Lib hiding intOf

structure Bx1 (w W : World) (A : Array Value) : Prop where
  b0 : Blk W w.heap.size 25 A
  below : Below w.heap.size w W
theorem Bx1.step {w W W' : World} {A : Array Value} (h : Bx1 w W A) (hb : Below W.heap.size W W') : Bx1 w W' A :=
  ⟨(hb.block _ h.b0.lt).trans h.b0, h.below.trans (hb.mono h.below.size)⟩
theorem five {w : World} {x : GY} {v : Value} (h : IsY w x v) : ∃ c0 c1 c2 c3 c4 : Value, v = .agg #[c0, c1, c2, c3, c4] := by
  obtain ⟨k, p, m, n, l⟩ := x
  obtain ⟨o, c, rfl, _⟩ := h.parts
  exact ⟨_, _, _, _, _, rfl⟩
/-- A result, in a box of the call's own. -/
structure Got (W : World) (g : Nat) (t : GY) (c0 c1 c2 c3 c4 : Value) : Prop where
  box : Blk W g 25 #[c0, c1, c2, c3, c4]
  is : IsY W t (.agg #[c0, c1, c2, c3, c4])
theorem Got.step {W W' : World} {g : Nat} {t : GY} {c0 c1 c2 c3 c4 : Value} (h : Got W g t c0 c1 c2 c3 c4) (hb : Below W.heap.size W W') : Got W' g t c0 c1 c2 c3 c4 := ⟨(hb.block _ h.box.lt).trans h.box, h.is.below hb⟩
theorem made (W : World) (A : Array Value) : ∃ W', W.alloc (.cells A 25) = W' ∧ Below W.heap.size W W' ∧ Blk W' W.heap.size 25 A := ⟨_, rfl, (Below.refl _ _).alloc (Nat.le_refl _) _, Blk.new W _ _⟩

set_option maxRecDepth 100000 in
set_option maxHeartbeats 8000000 in
theorem walk (t : GY) (va : Value) (us : List GY) (ou : Option Addr) (nu cu : Nat) (w : World) (ha : IsY w t va) (hfa : FitY reachBytes t) (hus : IsYs w ou 0 us) (hnu : us.length = nu) (_ : nu ≤ cu) (_ : cu ≤ maxLen) (hfu : FitYs reachBytes us) (_ : nu * 72 ≤ reachBytes) :
    Calls Try.prog 6 #[va, .slice ou nu cu] w fun e w' => e = .returned (.bool true) ∧ Below w.heap.size w w' := by
  have hq : reachBytes ≤ 281474976710656 := by decide
  obtain ⟨a0, a1, a2, a3, a4, rfl⟩ := five ha
  have HNa := Lib.hid (fun W (h : Below w.heap.size w W) => nodes_any _ t _ 0 W (Nat.lt_succ_self _) (ha.below h) (by decide) (by decide))
  have HP := Lib.hid (fun W (h : Below w.heap.size w W) => substP_any reachBytes hq us ou nu cu hnu hfu t _ W hfa (ha.below h) (hus.below h))
  have HR0 := Lib.hid (fun W (h : Below w.heap.size w W) (hc : cntY t ≤ 1000000) => subR_any [] none 0 0 rfl w.heap.size _ t _ W (Nat.lt_succ_self _) hc h.size ((ha.toP (Nat.le_refl _)).below h) (by unfold IsYPs; trivial))
  have HR1 := Lib.hid (fun W (h : Below w.heap.size w W) (hc : cntY t ≤ 1000000) => subR_any us ou nu cu hnu w.heap.size _ t _ W (Nat.lt_succ_self _) hc h.size ((ha.toP (Nat.le_refl _)).below h) ((hus.toPs (Nat.le_refl _)).below h))
  have HA := Lib.hid ha
  have HUS := Lib.hid hus
  have HNU := Lib.hid hnu
  obtain ⟨W1, hW1, hb1, hk1⟩ := made w #[a0, a1, a2, a3, a4]
  have HB : Hid (Bx1 w W1 #[a0, a1, a2, a3, a4]) := ⟨hk1, hb1⟩
  have HW1 := Lib.hid hW1
  have hcnt := nod_cnt t 0
  clear ha hfa hus hnu hfu hW1 hb1 hk1 hq
  go_enter Try.func6, Try.ntmps6
  go_upto_region 1 with fail
  change Code.wp Try.prog _ _ _ (w.alloc (.cells #[a0, a1, a2, a3, a4] 25))
  rw [HW1.out]
  clear HW1
  by_cases hna : 200 ≤ nodY t 0
  · have e0 := decide_eq_true hna
    clear hcnt
    generalize nodY t 0 = na at *
    go_wp2_with (first
      | (refine boxLoad 25 5 size5 Try.underlying25 rfl _ rfl w.heap.size rfl (cs := [a0, a1, a2, a3, a4]) HB.out.b0 rfl ?_)
      | (go_at_call 10; with_reducible refine (awake_any _).mono ?_; rintro e w2 ⟨rfl, hb⟩; have HB2 := Lib.hid (HB.out.step hb); clear HB hb; have HB := HB2; clear HB2)
      | (go_at_call 11; with_reducible refine (HNa.out _ HB.out.below).mono ?_; rintro e w2 ⟨rfl, hb⟩; have HB2 := Lib.hid (HB.out.step hb); clear HB hb; have HB := HB2; clear HB2))
    go_ret
    exact ⟨rfl, HB.out.below⟩
  have e0 := decide_eq_false hna
  have HCN : Hid (cntY t ≤ 1000000) := by have := hcnt (by omega); show _ ≤ _; omega
  clear hcnt
  generalize nodY t 0 = na at *
  by_cases hn20 : 20 < nu
  · have hn20' : (20 : Int) < (nu : Int) := by omega
    go_wp2_with (first
      | (refine boxLoad 25 5 size5 Try.underlying25 rfl _ rfl w.heap.size rfl (cs := [a0, a1, a2, a3, a4]) HB.out.b0 rfl ?_)
      | (go_at_call 10; with_reducible refine (awake_any _).mono ?_; rintro e w2 ⟨rfl, hb⟩; have HB2 := Lib.hid (HB.out.step hb); clear HB hb; have HB := HB2; clear HB2)
      | (go_at_call 11; with_reducible refine (HNa.out _ HB.out.below).mono ?_; rintro e w2 ⟨rfl, hb⟩; have HB2 := Lib.hid (HB.out.step hb); clear HB hb; have HB := HB2; clear HB2))
    go_ret
    exact ⟨rfl, HB.out.below⟩
  have hn20' : ¬ (20 : Int) < (nu : Int) := by omega
  go_wp2_with (first
    | (refine boxLoad 25 5 size5 Try.underlying25 rfl _ rfl w.heap.size rfl (cs := [a0, a1, a2, a3, a4]) HB.out.b0 rfl ?_)
    | (go_at_call 10; with_reducible refine (awake_any _).mono ?_; rintro e w2 ⟨rfl, hb⟩; have HB2 := Lib.hid (HB.out.step hb); clear HB hb; have HB := HB2; clear HB2)
    | (go_at_call 11; with_reducible refine (HNa.out _ HB.out.below).mono ?_; rintro e w2 ⟨rfl, hb⟩; have HB2 := Lib.hid (HB.out.step hb); clear HB hb; have HB := HB2; clear HB2))
  clear HNa e0 hna
  go_loopw [6] (fun i wr => ∃ j : Nat, i = .int .i64 (j : Nat) ∧ Hid (j ≤ nu) ∧ Hid (Bx1 w wr #[a0, a1, a2, a3, a4])) (fun i _ => nu - (RowKit.intOf i).toNat)
  case atStart => exact ⟨0, rfl, Nat.zero_le _, HB⟩
  case round =>
    obtain ⟨j, rfl, HJ, HBR⟩ := hrel
    clear HB
    by_cases hj : j < nu
    · have hj' : ((j : Int) < (nu : Int)) := by omega
      have hj0 : (0 : Int) ≤ (j : Int) := by omega
      have hwj := IntWalk.i64_in ((j : Int) + 1) ⟨by omega, by omega⟩
      obtain ⟨x, hx⟩ : ∃ x, us[j]? = some x := ⟨_, List.getElem?_eq_getElem (by rw [HNU.out]; exact hj)⟩
      obtain ⟨a, d0, d1, d2, d3, d4, rfl, hcx, hyx⟩ := HUS.out.at_ j hx
      rw [Nat.zero_add] at hcx
      have hwr := HBR.out.below
      have HC : Hid (∀ (i : Nat) (v : Value), [d0, d1, d2, d3, d4][i]? = some v → wr.cell? ((a.add (j * 5)).add i) = some v) := fun i v h => (hwr.cell (World.block_lt_of_cell? _ _ (hcx i v h))).trans (hcx i v h)
      have HF := Lib.hid (nodes_any _ x _ 0 wr (Nat.lt_succ_self _) (hyx.below hwr) (by decide) (by decide))
      clear hcx hyx hwr hx
      generalize nodY x 0 = nx at *
      by_cases hx2 : 200 ≤ nx
      · have e0 := decide_eq_true hx2
        go_wp2_with (first
          | (refine boxLoadG 25 5 size5 Try.underlying25 rfl _ rfl _ rfl (cs := [d0, d1, d2, d3, d4]) HC.out rfl ?_)
          | (go_at_call 11; with_reducible refine HF.out.mono ?_; rintro e w2 ⟨rfl, hb⟩; have HB2 := Lib.hid (HBR.out.step hb); clear hb))
        go_ret
        exact ⟨rfl, HB2.out.below⟩
      · have e0 := decide_eq_false hx2
        go_wp2_with (first
          | (refine boxLoadG 25 5 size5 Try.underlying25 rfl _ rfl _ rfl (cs := [d0, d1, d2, d3, d4]) HC.out rfl ?_)
          | (go_at_call 11; with_reducible refine HF.out.mono ?_; rintro e w2 ⟨rfl, hb⟩; have HB2 := Lib.hid (HBR.out.step hb); clear hb))
        case roundEnd => exact ⟨⟨j + 1, by push_cast; rfl, hj, HB2⟩, by simp [RowKit.intOf]; omega⟩
    · have hj' : ¬ ((j : Int) < (nu : Int)) := by omega
      go_wp2_with (first
        | (refine boxLoad 25 5 size5 Try.underlying25 rfl _ rfl w.heap.size rfl (cs := [a0, a1, a2, a3, a4]) HBR.out.b0 rfl ?_)
        | (refine boxLoad 25 5 size5 Try.underlying25 rfl _ rfl w7.heap.size rfl (cs := [f0, f1, f2, f3, f4]) HG7.out.box rfl ?_)
        | (refine boxLoad 25 5 size5 Try.underlying25 rfl _ rfl w8.heap.size rfl (cs := [h0, h1, h2, h3, h4]) HG8.out.box rfl ?_)
        | (refine boxLoad 25 5 size5 Try.underlying25 rfl _ rfl w9.heap.size rfl (cs := [k0, k1, k2, k3, k4]) HG9.out.box rfl ?_)
        | (go_at_call 25; have hmark := HEQ.out; clear hmark; refine (equal_any _ t _ _ _ (Nat.lt_succ_self _) (HA.out.below HBR.out.below) HG7.out.is).mono ?_; rintro e w11 ⟨rfl, hb⟩; have HBN := Lib.hid (HBR.out.step hb); clear HBR; have HBR := HBN; clear hb HBN)
        | (go_at_call 25; refine (equal_any _ (subY us t) _ _ _ (Nat.lt_succ_self _) HG8.out.is HG9.out.is).mono ?_; rintro e w10 ⟨rfl, hb⟩; have HG7N := Lib.hid (HG7.out.step hb); clear HG7; have HG7 := HG7N; have HBN := Lib.hid (HBR.out.step hb); clear HBR; have HBR := HBN; have HEQ : Hid True := trivial; clear hb HBN HG7N)
        | (refine boxNewAt 25 5 size5 rfl _ _ rfl _ rfl rfl [k0, k1, k2, k3, k4] rfl rfl rfl HO9.out ?_; change wpList _ _ _ _ _ (_root_.Go.World.alloc _ (.cells #[k0, k1, k2, k3, k4] 25)); rw [HX9.out])
        | (go_at_call 23; have hmark := HG8.out; clear hmark; refine (HR1.out _ HBR.out.below HCN.out).mono ?_; rintro e w9 ⟨u, rfl, hu, hb⟩; obtain ⟨k0, k1, k2, k3, k4, rfl, ho⟩ := hu.cells; obtain ⟨X9, hX9, hbX, hkX⟩ := made w9 #[k0, k1, k2, k3, k4]; have HG9 : Hid (Got X9 w9.heap.size (subY us t) k0 k1 k2 k3 k4) := ⟨hkX, hu.toY.below hbX⟩; have HG7N := Lib.hid ((HG7.out.step hb).step hbX); clear HG7; have HG7 := HG7N; have HG8N := Lib.hid ((HG8.out.step hb).step hbX); clear HG8; have HG8 := HG8N; have HBN := Lib.hid ((HBR.out.step hb).step hbX); clear HBR; have HBR := HBN; have HX9 := Lib.hid hX9; have HO9 := Lib.hid ho; clear hu hb hX9 hbX hkX ho HBN HG7N HG8N)
        | (refine boxNewAt 25 5 size5 rfl _ _ rfl _ rfl rfl [h0, h1, h2, h3, h4] rfl rfl rfl HO8.out ?_; change wpList _ _ _ _ _ (_root_.Go.World.alloc _ (.cells #[h0, h1, h2, h3, h4] 25)); rw [HX8.out])
        | (go_at_call 24; refine (HP.out _ HBR.out.below).mono ?_; rintro e w8 ⟨u, rfl, hu, hb⟩; obtain ⟨h0, h1, h2, h3, h4, rfl, ho⟩ := hu.cells; obtain ⟨X8, hX8, hbX, hkX⟩ := made w8 #[h0, h1, h2, h3, h4]; have HG8 : Hid (Got X8 w8.heap.size (subY us t) h0 h1 h2 h3 h4) := ⟨hkX, hu.toY.below hbX⟩; have HG7N := Lib.hid ((HG7.out.step hb).step hbX); clear HG7; have HG7 := HG7N; have HBN := Lib.hid ((HBR.out.step hb).step hbX); clear HBR; have HBR := HBN; have HX8 := Lib.hid hX8; have HO8 := Lib.hid ho; clear hu hb hX8 hbX hkX ho HBN HG7N)
        | (refine boxNewAt 25 5 size5 rfl _ _ rfl _ rfl rfl [f0, f1, f2, f3, f4] rfl rfl rfl HO7.out ?_; change wpList _ _ _ _ _ (_root_.Go.World.alloc _ (.cells #[f0, f1, f2, f3, f4] 25)); rw [HX7.out])
        | (go_at_call 23; refine (HR0.out _ HBR.out.below HCN.out).mono ?_; rintro e w7 ⟨u, rfl, hu, hb⟩; obtain ⟨f0, f1, f2, f3, f4, rfl, ho⟩ := hu.cells; obtain ⟨X7, hX7, hbX, hkX⟩ := made w7 #[f0, f1, f2, f3, f4]; have HG7 : Hid (Got X7 w7.heap.size t f0 f1 f2 f3 f4) := ⟨hkX, by have := hu.toY; rw [sub_none] at this; exact this.below hbX⟩; have HBN := Lib.hid ((HBR.out.step hb).step hbX); clear HBR; have HBR := HBN; have HX7 := Lib.hid hX7; have HO7 := Lib.hid ho; clear hu hb hX7 hbX hkX ho HBN))
      go_ret
      exact ⟨rfl, HBR.out.below⟩

theorem laidOut : laidOutB Try.prog = true := by kernel_rfl
theorem own : ownKnob Try.prog.godebug = none := by kernel_rfl

theorem int_range {n : Int} (h : (Lit.int .i64 n).wf = true) : -9223372036854775808 ≤ n ∧ n ≤ 9223372036854775807 := by
  have h2 : IntKind.i64.min ≤ n ∧ n ≤ IntKind.i64.max := by
    unfold Lit.wf at h
    simpa only [Bool.and_eq_true, decide_eq_true_eq] using h
  rw [show IntKind.i64.min = -9223372036854775808 by decide, show IntKind.i64.max = 9223372036854775807 by decide] at h2
  exact h2

set_option maxRecDepth 100000 in
theorem lifted (os : Os) (started : os.Started) (H : Type) (enc : TypeId × Value → H) :
    ReturnsInHanded {} Try.checked os 6 .any (Rows.termPutsSpec.pre6 enc Try.prog Try.f6 Rows.termPutsRow.domain false) (Rows.termPutsSpec.post enc Try.prog Try.f6 false true false false) := by
  refine returnsInHanded_of_change_sized (C := Try.checked) own started (by kernel_rfl) Try.func6
    (ChangeSpec.witness6 (enc := enc) (C := Try.checked) false ⟨#[], #[.agg #[.int .i64 0, .string .empty, .string .empty, .int .i64 0, .slice none 0 0], .slice none 0 0], []⟩ 8 (by kernel_rfl) (by kernel_rfl) (by kernel_rfl) (by kernel_rfl)) ?_
  intro W base args ds gs before hval0 hW hcnd hsz _
  have hval : ∀ (j : Nat) t v, Try.f6.params[j]? = some t → args[j]? = some v → Value.okWide Try.prog W .any base t v := hval0
  have hW' := hW
  obtain ⟨p, q, hA0, hV, rfl, hfz, hnd⟩ := hW
  have hA : DataW.TrodAll enc Try.prog W 0 (fun _ => true) true Try.f6.params.toList args.toList ds p := hA0
  rw [Try.params6] at hA hval
  obtain ⟨v0, vs0, d0, ds0, p0, q0, hargs, rfl, rfl, h0, r0⟩ := trodAll_cons hA
  obtain ⟨v1, vs1, d1, ds1, p1, q1, rfl, rfl, rfl, h1, r1⟩ := trodAll_cons r0
  obtain ⟨rfl, rfl, rfl⟩ := trodAll_nil r1
  obtain rfl : args = #[v0, v1] := by cases args; simp_all
  obtain ⟨rfl, rfl⟩ := trodVars_none hV
  have t0 := h0
  obtain ⟨fl0, k0⟩ := h0
  have lt0 : ∀ x ∈ p0, x.block < W.heap.size := fun x hx => by simpa using hW'.lt x (by simp [hx])
  obtain ⟨cc0, rfl, _⟩ := okWide_struct Try.underlying25 (hval 0 25 v0 rfl rfl)
  have kk0 : DataW.trod enc Try.prog W 0 (fun _ => true) true fl0 25 cc0.toList = some (d0, p0) := k0
  obtain ⟨y0, g0, s0⟩ := open_y fl0 _ _ kk0
  have m0 := s0 reachBytes (fun k hk => by simpa using List.all_eq_true.1 hsz k (DataW.weights_mem_each (j := 0) rfl rfl k hk))
  rw [show cc0.toList.toArray = cc0 by simp] at g0
  have t1 := h1
  obtain ⟨fl1, k1⟩ := h1
  have lt1 : ∀ x ∈ p1, x.block < W.heap.size := fun x hx => by simpa using hW'.lt x (by simp [hx])
  obtain ⟨oo1, ll1, cc1, rfl⟩ := okWide_slice Try.underlying23 (hval 1 23 v1 rfl rfl)
  have kk1 : DataW.trod enc Try.prog W 0 (fun _ => true) true fl1 23 [.slice oo1 ll1 cc1] = some (d1, p1) := k1
  obtain ⟨o1, l1, c1, e1, lc1, cm1, g1, s1⟩ := open_ys kk1
  simp only [List.cons.injEq, and_true, Value.slice.injEq] at e1
  obtain ⟨rfl, rfl, rfl⟩ := e1
  have m1 := s1 reachBytes (fun k hk => by simpa using List.all_eq_true.1 hsz k (DataW.weights_mem_each (j := 1) rfl rfl k hk))
  clear hA0 hval0
  simp only [List.append_nil] at hW'
  refine (walk y0 _ l1 oo1 l1.length cc1 W g0 m0 g1 rfl lc1 cm1 m1.1 m1.2).mono fun e W' ⟨he, hg⟩ => ?_
  subst he
  exact ⟨_, rfl, _, _, _, [], _, [], hW', (trodAll_cons_mk (shut_bool Try.underlying4 _) trodAll_mk0), (trodAll_cons_mk (Below.trod laidOut (by kernel_rfl) (of_decide_eq_true (by kernel_rfl)) t0 hg lt0) (trodAll_cons_mk (Below.trod laidOut (by kernel_rfl) (of_decide_eq_true (by kernel_rfl)) t1 hg lt1) trodAll_mk0)), rfl, hg.frame _, fun h => by cases h⟩

theorem over : Rows.termPutsRow.holds Try.pinned (OpenSpec.ofChange Rows.termPutsSpec) :=
  OpenClaim.holds_of_wide 6 Try.f6 rfl rfl rfl rfl rfl rfl rfl ⟨rfl, rfl, rfl, rfl, rfl⟩ rfl rfl rfl rfl rfl (by kernel_rfl) Try.func6 (by kernel_rfl)
    (of_decide_eq_true (by kernel_rfl)) (by unfold Func.isWrapper; first | (rw [if_pos (by decide +kernel)]; kernel_rfl) | (rw [if_neg (by decide +kernel)]; exact ⟨rfl, rfl⟩))
    (fun os started H enc _ => lifted os started H enc)

/-- TermPuts answers true. -/
theorem proved : Rows.TermPutsSaid :=
  over

end Go.Proofs.Ytofdejoeheokjaa.termPuts
