/-
  A type's methods: the document's answer. No condition.
-/
import Derived.Test.YtmnhilgifjaocaaSrc
namespace Go.Proofs.Ytmnhilgifjaocaa
open Go.RowKit
open Go.Lib hiding intOf

theorem IsMs.nil {w : World} : IsMs w [] (.slice none 0 0) := ⟨none, 0, rfl, Nat.le_refl _, Nat.zero_le _, IsRow.nil⟩
theorem IsY.expl {w : World} {t : GY} {v : Value} (h : IsY w t v) : ∃ (a n : Int) (p q : ByteArray) (o : Option Addr) (e k : Nat), v = .agg #[.int .i64 a, .string p, .string q, .int .i64 n, .slice o e k] := by
  obtain ⟨a, p, q, n, l⟩ := t
  obtain ⟨o, k, rfl, _⟩ := h.parts
  exact ⟨a, n, p, q, o, _, k, rfl⟩
theorem getD_some {α : Type} {l : List α} {i : Nat} {x d : α} (h : l[i]? = some x) : l.getD i d = x := by
  rw [List.getD_eq_getElem?_getD, h, Option.getD_some]

set_option maxRecDepth 100000 in
set_option maxHeartbeats 8000000 in
theorem methR_any (s : SCP) (t : GY) (c : List Value) (v : Value) (w0 w : World) (h : IsSc w0 s c) (ht : IsY w0 t v) (h0 : Below w0.heap.size w0 w) :
    Calls Try.prog 19 #[.agg c.toArray, v] w fun e w' => ∃ u, e = .returned u ∧ IsMs w0 (methS s t) u ∧ Below w.heap.size w w' := by
  have HF := Lib.hid (fun (x : GY) (u : Value) (hx : IsY w0 x u) W (hb : Below w.heap.size w W) => findR_any s x c u w0 W h hx (old_step h0 hb))
  have HI := Lib.hid (fun (x : GY) (u : Value) (hx : IsY w0 x u) W (hb : Below w.heap.size w W) => ifaceR_any s x c u w0 W h hx (old_step h0 hb))
  have HTY := Lib.hid ht
  have H0 := Lib.hid h0
  obtain ⟨o, o1, o2, o3, o4, k, n1, k1, n2, k2, k3, n4, k4, rfl, _, _, hl3, hk3, _, hbs, _⟩ := h
  have hq : s.bounds.length ≤ 9223372036854775807 := by unfold maxLen at hk3; omega
  have HBS := Lib.hid hbs
  obtain ⟨tk, tp, tm, tn, ta⟩ := t
  have HM : Hid (methS s (.mk tk tp tm tn ta) = if tk = 6 then if tn < 0 ∨ (s.bounds.length : Int) ≤ tn then [] else if ifaceS s.W (s.bounds.getD tn.toNat zeroY) then methD s.W (s.bounds.getD tn.toNat zeroY) else [] else methD s.W (.mk tk tp tm tn ta)) := rfl
  obtain ⟨o5, k5, rfl, _⟩ := ht.parts
  generalize methS s (.mk tk tp tm tn ta) = M at *
  generalize s.W.length = nW at *
  generalize ta.length = na at *
  obtain ⟨N, hN⟩ : ∃ N, N = s.bounds.length := ⟨_, rfl⟩
  rw [← hN] at hq HM HF HI
  rw [← hN]
  have HN := Lib.hid hN
  obtain ⟨W2, hW2, HBX⟩ := bx2 w #[.slice o nW k, .slice o1 n1 k1, .slice o2 n2 k2, .slice o3 N k3, .slice o4 n4 k4] #[.int .i64 tk, .string tp, .string tm, .int .i64 tn, .slice o5 na k5] 27 29
  have hb1 := HBX.out.2.1
  rw [← hW2] at hb1
  have HB1 := Lib.hid hb1
  have HW2 := Lib.hid hW2
  clear ht h0 hb1 hW2 hN hl3 hk3 hbs
  by_cases hk : tk = 6
  · have HM1 := Lib.hid (HM.out.trans (if_pos hk))
    subst hk
    clear HM
    by_cases hn : tn < 0 ∨ (N : Int) ≤ tn
    · have HM2 := Lib.hid (HM1.out.trans (if_pos hn))
      clear HM1 HF HI
      rcases hn with hn | hn
      · go_enter Try.func19, Try.ntmps19
        go_wp2
        go_ret
        rw [HM2.out]
        exact ⟨_, rfl, IsMs.nil, HB1.out⟩
      · have hn0 : ¬ tn < 0 := by omega
        go_enter Try.func19, Try.ntmps19
        go_wp2
        go_ret
        rw [HM2.out]
        exact ⟨_, rfl, IsMs.nil, HB1.out⟩
    · have HM2 := Lib.hid (HM1.out.trans (if_neg hn))
      obtain ⟨j, rfl⟩ : ∃ j : Nat, tn = (j : Int) := ⟨tn.toNat, by omega⟩
      have hjN : j < N := by omega
      obtain ⟨y, hy⟩ : ∃ y, s.bounds[j]? = some y := ⟨_, List.getElem?_eq_getElem (by rw [← HN.out]; exact hjN)⟩
      have HM3 : Hid (M = if ifaceS s.W y then methD s.W y else []) := by
        have e := HM2.out
        rw [Int.toNat_natCast, getD_some hy] at e
        exact e
      obtain ⟨a, d0, d1, d2, d3, d4, rfl, hc, hyy⟩ := HBS.out.at_ j hy
      have HYY := Lib.hid hyy
      obtain ⟨ya, yn, yp, yq, o6, e6, k6, hv⟩ := hyy.expl
      simp only [Value.agg.injEq, Array.mk.injEq, List.cons.injEq, and_true] at hv
      obtain ⟨rfl, rfl, rfl, rfl, rfl⟩ := hv
      rw [Nat.zero_add] at hc
      have HC := Lib.hid (fun (W : World) (hb : Below w.heap.size w W) (i : Nat) (u : Value) h => cells_below (old_step H0.out hb) _ u (hc i u h))
      have hj0 : (0 : Int) ≤ (j : Int) := by omega
      have hj1 : ¬ ((j : Int) < 0) := by omega
      have hj2 : ((j : Int) < (N : Int)) := by omega
      have hj3 : ¬ ((N : Int) ≤ (j : Int)) := by omega
      clear HM1 HM2 hn hy hc hyy
      go_enter Try.func19, Try.ntmps19
      go_wp2_with fail
      rw [HW2.out]
      have HC2 := Lib.hid (HC.out W2 HBX.out.2.1)
      have c0 : ∀ i, W2.cell? ⟨w.heap.size, i, none⟩ = _ := (HBX.out.at_ (Below.refl _ _) 0 rfl).cell
      have c1 : ∀ i, W2.cell? ⟨w.heap.size + 1, i, none⟩ = _ := (HBX.out.at_ (Below.refl _ _) 1 rfl).cell
      refine wp_region_still_tail 7 (by kernel_rfl) (by kernel_rfl) ?_
      simp only [List.take_succ_cons, List.take_zero, List.drop_succ_cons, List.drop_zero]
      iterate 6 still_step
      refine stillLoadG 29 5 size5 Try.underlying29 rfl _ rfl (a.add (j * 5)) rfl HC2.out rfl ?_
      refine wpStill_nil ?_
      change wpList _ _ _ _ _ W2.drew
      have hwd : Below w.heap.size w W2.drew := HBX.out.2.1.drew
      have HWD := Lib.hid hwd
      clear hwd
      go_wp2_with fail
      refine (HI.out _ _ HYY.out _ HWD.out).mono ?_
      rintro e V ⟨rfl, hb⟩
      have HV := Lib.hid (stepB HWD.out hb (Nat.le_refl _))
      have hV2 : Below W2.heap.size W2 V := (Below.refl _ W2).drew.trans hb
      have b1 := HBX.out.at_ hV2 1 rfl
      have b0 := HBX.out.at_ hV2 0 rfl
      have c0 := b0.cell
      have c1 := b1.cell
      have f1 := b1.frozen
      rw [Nat.add_zero] at c0
      have HCV := Lib.hid (HC.out V HV.out)
      clear hb hV2 b0 b1 HC HC2
      cases hI : ifaceS s.W y with
      | false =>
        have HM4 : Hid (M = []) := by rw [hI] at HM3; exact HM3.out
        clear hI HM3
        go_wp2
        go_ret
        rw [HM4.out]
        exact ⟨_, rfl, IsMs.nil, HV.out⟩
      | true =>
        have HM4 : Hid (M = methD s.W y) := by rw [hI] at HM3; exact HM3.out
        clear hI HM3
        have e0 := at0 (HCV.out 0 _ rfl)
        have e1 := atS (HCV.out 1 _ rfl)
        have e2 := atS (HCV.out 2 _ rfl)
        have e3 := atS (HCV.out 3 _ rfl)
        have e4 := atS (HCV.out 4 _ rfl)
        clear HCV
        go_wp2_with fail
        have hvs := below5 (g := w.heap.size + 1) HV.out (Nat.le_succ _) (.int .i64 ya) (.string yp) (.string yq) (.int .i64 yn) (.slice o6 e6 k6)
        have HVS := Lib.hid hvs
        refine (HF.out _ _ HYY.out _ HVS.out).mono ?_
        rintro e X ⟨d, rfl, hd, hb⟩
        obtain ⟨od, oe, kd, ke, rfl, g1, g2, g3, g4, g5, g6⟩ := hd
        have HX := Lib.hid (stepB HVS.out hb (Nat.le_refl _))
        have HG : Hid (IsMs w0 M (.slice oe ((findS s.W y).getD zeroD).meths.length ke)) := by
          rw [HM4.out]
          exact ⟨oe, ke, rfl, g3, g4, g6⟩
        clear hb g1 g2 g3 g4 g5 g6 hvs
        go_wp2
        go_ret
        exact ⟨_, rfl, HG.out, (HX.out.alloc HX.out.size _)⟩
  · have HM1 := Lib.hid (HM.out.trans (if_neg hk))
    have hkb : (tk == 6) = false := by simpa using hk
    clear HM HI
    go_enter Try.func19, Try.ntmps19
    go_wp2_with fail
    refine (HF.out _ _ HTY.out _ HB1.out).mono ?_
    rintro e V ⟨d, rfl, hd, hb⟩
    obtain ⟨od, oe, kd, ke, rfl, g1, g2, g3, g4, g5, g6⟩ := hd
    have HV := Lib.hid (stepB HB1.out hb (Nat.le_refl _))
    have HG : Hid (IsMs w0 M (.slice oe ((findS s.W (.mk tk tp tm tn ta)).getD zeroD).meths.length ke)) := by
      rw [HM1.out]
      exact ⟨oe, ke, rfl, g3, g4, g6⟩
    clear hb g1 g2 g3 g4 g5 g6
    go_wp2
    go_ret
    exact ⟨_, rfl, HG.out, (HV.out.alloc HV.out.size _)⟩
end Go.Proofs.Ytmnhilgifjaocaa
