/-
  Whether a type is an interface, its methods, a method by its name: the document's answers. No condition.
-/
import Derived.Test.YtmnhilgifjaocaaSrb
namespace Go.Proofs.Ytmnhilgifjaocaa
open Go.RowKit
open Go.Lib hiding intOf

theorem old_step {w0 w : World} (h0 : Below w0.heap.size w0 w) {W : World} (hb : Below w.heap.size w W) : Below w0.heap.size w0 W := stepB h0 hb (Nat.le_refl _)

set_option maxRecDepth 100000 in
set_option maxHeartbeats 8000000 in
theorem ifaceR_any (s : SCP) (t : GY) (c : List Value) (v : Value) (w0 w : World) (h : IsSc w0 s c) (ht : IsY w0 t v) (h0 : Below w0.heap.size w0 w) :
    Calls Try.prog 21 #[.agg c.toArray, v] w fun e w' => e = .returned (.bool (ifaceS s.W t)) ∧ Below w.heap.size w w' := by
  have HF := Lib.hid (fun W (hb : Below w.heap.size w W) => findR_any s t c v w0 W h ht (old_step h0 hb))
  have HD : Hid (ifaceS s.W t = match findS s.W t with | some d => !d.strct | none => false) := rfl
  obtain ⟨o, o1, o2, o3, o4, k, n1, k1, n2, k2, k3, n4, k4, rfl, _⟩ := h
  obtain ⟨tk, tp, tm, tn, ta⟩ := t
  obtain ⟨o5, k5, rfl, _⟩ := ht.parts
  generalize findS s.W (.mk tk tp tm tn ta) = R at *
  generalize ifaceS s.W (.mk tk tp tm tn ta) = B at *
  generalize s.W.length = nW at *
  generalize s.bounds.length = nb at *
  generalize ta.length = na at *
  obtain ⟨W2, hW2, HBX⟩ := bx2 w #[.slice o nW k, .slice o1 n1 k1, .slice o2 n2 k2, .slice o3 nb k3, .slice o4 n4 k4] #[.int .i64 tk, .string tp, .string tm, .int .i64 tn, .slice o5 na k5] 27 29
  have hb1 := HBX.out.2.1
  rw [← hW2] at hb1
  have HB1 := Lib.hid hb1
  clear ht h0 hb1 hW2 HBX
  cases hR : R with
  | none =>
    subst hR
    have e : B = false := HD.out
    subst e
    go_enter Try.func21, Try.ntmps21
    go_wp2_with fail
    refine (HF.out _ HB1.out).mono ?_
    rintro e V ⟨d, rfl, hd, hb⟩
    obtain ⟨od, oe, kd, ke, rfl, _⟩ := hd
    have HV := Lib.hid (stepB HB1.out hb (Nat.le_refl _))
    clear hb
    go_wp2
    go_ret
    exact ⟨rfl, (HV.out.alloc HV.out.size _)⟩
  | some D =>
    subst hR
    have e : B = !D.strct := HD.out
    subst e
    go_enter Try.func21, Try.ntmps21
    go_wp2_with fail
    refine (HF.out _ HB1.out).mono ?_
    rintro e V ⟨d, rfl, hd, hb⟩
    obtain ⟨od, oe, kd, ke, rfl, _⟩ := hd
    have HV := Lib.hid (stepB HB1.out hb (Nat.le_refl _))
    clear hb
    go_wp2
    go_ret
    exact ⟨rfl, (HV.out.alloc HV.out.size _)⟩
def zeroM : MD := ⟨noB, [], zeroY⟩
theorem IsMd.zero {w : World} : IsMd w zeroM [.string noB, .slice none 0 0, .int .i64 0, .string noB, .string noB, .int .i64 0, .slice none 0 0] := ⟨none, 0, _, _, _, _, _, rfl, Nat.le_refl _, Nat.zero_le _, IsYs.nil _ _ _, IsY.zero⟩
theorem IsMd.expl {w : World} {m : MD} {c : List Value} (h : IsMd w m c) : ∃ (o : Option Addr) (k : Nat) (a : Int) (p q : ByteArray) (n : Int) (o' : Option Addr) (e k' : Nat), c = [.string m.name, .slice o m.params.length k, .int .i64 a, .string p, .string q, .int .i64 n, .slice o' e k'] := by
  obtain ⟨o, k, r0, r1, r2, r3, r4, rfl, _, _, _, h⟩ := h
  obtain ⟨name, ps, ⟨a, p, q, n, l⟩⟩ := m
  obtain ⟨o', k', hv, _⟩ := h.parts
  simp only [Value.agg.injEq, Array.mk.injEq, List.cons.injEq, and_true] at hv
  obtain ⟨rfl, rfl, rfl, rfl, rfl⟩ := hv
  exact ⟨o, k, a, p, q, n, o', l.length, k', rfl⟩
theorem below7 {B g : Nat} {w V : World} (h : Below B w V) (hg : B ≤ g) (v0 v1 v2 v3 v4 v5 v6 : Value) : Below B w (((((((V.setCell ⟨g, 0, none⟩ v0).setCell ⟨g, 1, none⟩ v1).setCell ⟨g, 2, none⟩ v2).setCell ⟨g, 3, none⟩ v3).setCell ⟨g, 4, none⟩ v4).setCell ⟨g, 5, none⟩ v5).setCell ⟨g, 6, none⟩ v6) := ((below5 h hg v0 v1 v2 v3 v4).setCell hg v5).setCell hg v6

set_option maxRecDepth 100000 in
set_option maxHeartbeats 8000000 in
theorem hasR_any (l : List MD) (m : ByteArray) (v : Value) (w0 w : World) (h : IsMs w0 l v) (h0 : Below w0.heap.size w0 w) :
    Calls Try.prog 47 #[v, .string m] w fun e w' => ∃ d, e = .returned (.tuple #[.agg d.toArray, .bool (hasM l m).isSome]) ∧ IsMd w0 ((hasM l m).getD zeroM) d ∧ Below w.heap.size w w' := by
  obtain ⟨o, k, rfl, hl, hk, hrow⟩ := h
  have hq : l.length ≤ 9223372036854775807 := by unfold maxLen at hk; omega
  obtain ⟨N, hN⟩ : ∃ N, l.length = N := ⟨_, rfl⟩
  rw [hN] at hq ⊢
  obtain ⟨W2, hW2, HBX⟩ := bx1 w #[.string noB, .slice none 0 0, .int .i64 0, .string noB, .string noB, .int .i64 0, .slice none 0 0] 50
  have HW2 := Lib.hid hW2
  have HN := Lib.hid hN
  have HR := Lib.hid hrow
  have H0 := Lib.hid h0
  have HB0 := Lib.hid (Nat.zero_le N)
  have HD : Hid (hasM l m = l.find? fun d => decide (d.name = m)) := rfl
  have HU0 : Hid (∀ i (x : MD), i < 0 → l[i]? = some x → decide (x.name = m) = false) := fun i x hi => by omega
  clear hl hk hrow hW2 hN h0
  generalize hasM l m = R at *
  go_enter Try.func47, Try.ntmps47
  go_wp2
  rw [HW2.out]
  go_loopw [6] (fun i wr => ∃ j : Nat, i = .int .i64 (j : Nat) ∧ Hid (j ≤ N) ∧ Hid (∀ i (x : MD), i < j → l[i]? = some x → decide (x.name = m) = false) ∧ Hid (Below W2.heap.size W2 wr)) (fun i _ => N - (RowKit.intOf i).toNat)
  case atStart => exact ⟨0, rfl, HB0, HU0, Below.refl _ _⟩
  case round =>
    obtain ⟨j, rfl, HJ, HA, HB⟩ := hrel
    clear HB0 HW2 HU0
    have c1 : ∀ i, wr.cell? ⟨w.heap.size, i, none⟩ = _ := (HBX.out.at_ HB.out 0 rfl).cell
    have f1 : ∀ i, wr.frozen? ⟨w.heap.size, i, none⟩ = false := (HBX.out.at_ HB.out 0 rfl).frozen
    by_cases hj : j < N
    · have hj' : ((j : Int) < (N : Int)) := by omega
      have hj0 : (0 : Int) ≤ (j : Int) := by omega
      have hwj := IntWalk.i64_in ((j : Int) + 1) ⟨by omega, by omega⟩
      obtain ⟨x, hx⟩ : ∃ x, l[j]? = some x := ⟨_, List.getElem?_eq_getElem (by rw [HN.out]; exact hj)⟩
      obtain ⟨a, c, rfl, hlc, hc, hyx⟩ := HR.out j x hx
      have HT := Lib.hid hyx
      obtain ⟨o2, k2, xa, xp, xq, xn, o3, e3, k3, rfl⟩ := hyx.expl
      have hc := fun i u h => cells_below (H0.out.trans ((HBX.out.below HB.out).mono H0.out.size)) _ u (hc i u h)
      have e0 := at0 (hc 0 _ rfl)
      have HC := Lib.hid hc
      by_cases hm : x.name = m
      · subst hm
        have HQ : Hid (R = some x) := by
          rw [HD.out]
          exact find_at hx (by simp) fun i y hi hy => HA.out i y hi hy
        clear hc hlc hx hyx
        go_wp2_with (refine boxLoadG 50 7 (by kernel_rfl) Try.underlying50 rfl _ rfl (a.add (j * 7)) rfl HC.out rfl ?_)
        refine bodyPost_ret (v := .tuple #[.agg #[.string x.name, .slice o2 x.params.length k2, .int .i64 xa, .string xp, .string xq, .int .i64 xn, .slice o3 e3 k3], .bool true]) (by simp [results, Try.results47, go_sem, c1]) rfl ?_
        rw [HQ.out]
        exact ⟨_, rfl, HT.out, below7 (HBX.out.below HB.out) (Nat.le_refl _) _ _ _ _ _ _ _⟩
      · have hne := bytes_ne hm
        have HA2 : Hid (∀ i (y : MD), i < j + 1 → l[i]? = some y → decide (y.name = m) = false) := fun i y hi hy => by
          by_cases e : i < j
          · exact HA.out i y e hy
          · obtain rfl : i = j := by omega
            rw [hx] at hy
            cases hy
            exact decide_eq_false hm
        clear hc hlc hx hm HC HT hyx
        go_wp2
        case roundEnd => exact ⟨⟨j + 1, by push_cast; rfl, hj, HA2, HB⟩, by simp [RowKit.intOf]; omega⟩
    · have hj' : ¬ ((j : Int) < (N : Int)) := by omega
      have HQ : Hid (R = none) := by
        rw [HD.out]
        exact find_none fun i x hx => HA.out i x (by have := (List.getElem?_eq_some_iff.1 hx).1; have := HN.out; omega) hx
      clear hj
      go_wp2
      refine bodyPost_ret (v := .tuple #[.agg #[.string noB, .slice none 0 0, .int .i64 0, .string noB, .string noB, .int .i64 0, .slice none 0 0], .bool false]) (by simp [results, Try.results47, go_sem, c1]) rfl ?_
      rw [HQ.out]
      exact ⟨_, rfl, IsMd.zero, below7 (HBX.out.below HB.out) (Nat.le_refl _) _ _ _ _ _ _ _⟩
end Go.Proofs.Ytmnhilgifjaocaa
