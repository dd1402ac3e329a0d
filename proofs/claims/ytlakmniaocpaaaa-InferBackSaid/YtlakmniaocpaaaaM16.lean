/-
  What a type is declared to be: the document's answer. No condition.
  Whether a type is an interface, its methods, a method by its name: the document's answers. No condition.
  A type's methods: the document's answer. No condition.
  A struct's field: the document's answer. No condition.
  Alike: the document's answer. No condition.
  Meets, and what may be assigned: the document's answers. No condition.
  The statements' own: how many parts, whether types are few and small. No condition.
  The statements' own: whether a scope is little ends, and answers. No condition.
-/
import Derived.Test.YtlakmniaocpaaaaM03
import Derived.Deep.RegionHeld3
import Derived.WalkSmall
import Derived.Test.YtlakmniaocpaaaaM01
namespace Go.Proofs.Ytlakmniaocpaaaa
open Go.RowKit
open Go.Lib hiding intOf
set_option maxRecDepth 100000 in
set_option maxHeartbeats 8000000 in
theorem findR_any (s : SCP) (t : GY) (c : List Value) (v : Value) (w0 w : World) (h : IsSc w0 s c) (ht : IsY w0 t v) (h0 : Below w0.heap.size w0 w) :
    Calls Try.prog 57 #[.agg c.toArray, v] w fun e w' => ∃ d, e = .returned (.tuple #[.agg d.toArray, .bool (findS s.W t).isSome]) ∧ IsTd w0 ((findS s.W t).getD zeroD) d ∧ Below w.heap.size w w' := by
  obtain ⟨o, o1, o2, o3, o4, k, n1, k1, n2, k2, k3, n4, k4, rfl, hl, hk, _, _, hrow, _⟩ := h
  obtain ⟨W, bs⟩ := s
  obtain ⟨tk, tp, tm, tn, ta⟩ := t
  obtain ⟨o5, k5, rfl, _⟩ := ht.parts
  dsimp only at hl hrow ⊢
  have hq : W.length ≤ 9223372036854775807 := by unfold maxLen at hk; omega
  obtain ⟨N, hN⟩ : ∃ N, W.length = N := ⟨_, rfl⟩
  generalize bs.length = nb
  generalize ta.length = na
  rw [hN] at hq ⊢
  obtain ⟨W2, hW2, HBX⟩ := bx3 w #[.slice o N k, .slice o1 n1 k1, .slice o2 n2 k2, .slice o3 nb k3, .slice o4 n4 k4] #[.int .i64 tk, .string tp, .string tm, .int .i64 tn, .slice o5 na k5] #[.string noB, .bool false, .slice none 0 0, .slice none 0 0] 32 34 58
  have HW2 := Lib.hid hW2
  have HN := Lib.hid hN
  have HR := Lib.hid hrow
  have H0 := Lib.hid h0
  have HB0 := Lib.hid (Nat.zero_le N)
  have HD : Hid (findS W (.mk tk tp tm tn ta) = if tk = 4 then (W.find? fun p => decide (p.pkg = tp)).bind fun p => declI p tm else none) := rfl
  have HU0 : Hid (∀ i (x : IF), i < 0 → W[i]? = some x → decide (x.pkg = tp) = false) := fun i x hi => by omega
  clear hl hk hrow hW2 hN ht h0
  generalize findS W (.mk tk tp tm tn ta) = R at *
  by_cases hk : tk = 4
  · have HD1 : Hid (R = (W.find? fun p => decide (p.pkg = tp)).bind fun p => declI p tm) := HD.out.trans (if_pos hk)
    clear HD
    subst hk
    go_enter Try.func57, Try.ntmps57
    go_wp2
    rw [HW2.out]
    go_loopw [6] (fun i wr => ∃ j : Nat, i = .int .i64 (j : Nat) ∧ Hid (j ≤ N) ∧ Hid (∀ i (x : IF), i < j → W[i]? = some x → decide (x.pkg = tp) = false) ∧ Hid (Below W2.heap.size W2 wr)) (fun i _ => N - (RowKit.intOf i).toNat)
    case atStart => exact ⟨0, rfl, HB0, HU0, Below.refl _ _⟩
    case round =>
      obtain ⟨j, rfl, HJ, HA, HB⟩ := hrel
      clear HB0 HW2 HU0
      have c0 : ∀ i, wr.cell? ⟨w.heap.size, i, none⟩ = _ := (HBX.out.at_ HB.out 0 rfl).cell
      have c1 : ∀ i, wr.cell? ⟨w.heap.size + 1, i, none⟩ = _ := (HBX.out.at_ HB.out 1 rfl).cell
      have c2 : ∀ i, wr.cell? ⟨w.heap.size + 2, i, none⟩ = _ := (HBX.out.at_ HB.out 2 rfl).cell
      have f2 : ∀ i, wr.frozen? ⟨w.heap.size + 2, i, none⟩ = false := (HBX.out.at_ HB.out 2 rfl).frozen
      by_cases hj : j < N
      · have hj' : ((j : Int) < (N : Int)) := by omega
        have hj0 : (0 : Int) ≤ (j : Int) := by omega
        have hwj := IntWalk.i64_in ((j : Int) + 1) ⟨by omega, by omega⟩
        obtain ⟨x, hx⟩ : ∃ x, W[j]? = some x := ⟨_, List.getElem?_eq_getElem (by rw [HN.out]; exact hj)⟩
        obtain ⟨a, c, rfl, hlc, hc, hyx⟩ := HR.out j x hx
        have hlt : (a.add (j * 3)).block < w.heap.size := Nat.lt_of_lt_of_le (World.block_lt_of_cell? _ _ (at0 (hc 0 _ (by obtain ⟨_, _, _, _, _, rfl, _⟩ := hyx; rfl)))) H0.out.size
        have hc := fun i u h => cells_below (H0.out.trans ((HBX.out.below HB.out).mono H0.out.size)) _ u (hc i u h)
        have HT := Lib.hid hyx
        obtain ⟨oT, oF, kT, nF, kF, rfl, _⟩ := hyx
        have e0 := at0 (hc 0 _ rfl)
        have HC := Lib.hid hc
        by_cases hm : x.pkg = tp
        · subst hm
          have HQ : Hid (R = declI x tm) := by
            exact HD1.out.trans (by rw [find_at hx (by simp) fun i y hi hy => HA.out i y hi hy]; rfl)
          have HCL := Lib.hid (fun V (hb : Below w.heap.size w V) => declR_any x tm _ w0 V HT.out (H0.out.trans (hb.mono H0.out.size)))
          clear hc hx
          go_wp2_with fail
          go_quiet (fail)
          go_wp2_with fail
          have na : ¬ (a.add (j * 3)).block = w.heap.size + 1 + 1 := by omega
          have s0 : wr.cell? ⟨w.heap.size, 0, none⟩ = some (.slice (some a) N k) := c0 0
          have s1 : wr.cell? ⟨w.heap.size + 1, 2, none⟩ = some (.string tm) := c1 2
          have e1 := atS (HC.out 1 _ rfl)
          have e2 := atS (HC.out 2 _ rfl)
          go_region_held3 (fun w' => w'.cell? ⟨w.heap.size, 0, none⟩ = some (.slice (some a) N k) ∧ w'.cell? ⟨w.heap.size + 1, 2, none⟩ = some (.string tm) ∧ w'.cell? (a.add (j * 3)) = some (.string x.pkg) ∧ w'.cell? ⟨(a.add (j * 3)).block, (a.add (j * 3)).off + 1, none⟩ = some (.slice oT x.types.length kT) ∧ w'.cell? ⟨(a.add (j * 3)).block, (a.add (j * 3)).off + 2, none⟩ = some (.slice oF nF kF))
            (refine ⟨?_, ?_, ?_, ?_, ?_⟩ <;> (first | with_reducible assumption | (simp [s0, s1, e0, e1, e2]; done) | (exact far4 (by with_reducible assumption) (by first | exact na | (simp only; omega))) | (trace_state; fail)))
            ((go_at_call 80; (have hw : Below wr.heap.size wr (wr.drewN (nq + 1)) := below_drewN (Below.refl _ _) _); refine (HCL.out _ (HBX.out.below (stepB HB.out hw (Nat.le_refl _)))).mono ?_; rintro e V ⟨d, rfl, hd, hb⟩; have HTD := Lib.hid hd; obtain ⟨od, oe, kd, ke, rfl, _⟩ := hd; have HV := Lib.hid (hw.trans hb); clear hw hb;
              have q0 := (HV.out.cell (World.block_lt_of_cell? _ _ s0)).trans s0; have q1 := (HV.out.cell (World.block_lt_of_cell? _ _ s1)).trans s1; have q2 := (HV.out.cell (World.block_lt_of_cell? _ _ e0)).trans e0; have q3 := (HV.out.cell (World.block_lt_of_cell? _ _ e1)).trans e1; have q4 := (HV.out.cell (World.block_lt_of_cell? _ _ e2)).trans e2; have c3 := (blkB (HBX.out.at_ HB.out 2 rfl) HV.out).cell; have f3 := (blkB (HBX.out.at_ HB.out 2 rfl) HV.out).frozen; clear c2 f2))
          all_goals go_wp2_with fail
          refine bodyPost_ret (v := .tuple #[.agg #[.string ((declI x tm).getD zeroD).name, .bool ((declI x tm).getD zeroD).strct, .slice od ((declI x tm).getD zeroD).fields.length kd, .slice oe ((declI x tm).getD zeroD).meths.length ke], .bool (declI x tm).isSome]) (by simp [results, Try.results57, go_sem, c3]) rfl ?_
          rw [HQ.out]
          have hb0 := (HBX.out.below (stepB HB.out HV.out (Nat.le_refl _)))
          exact ⟨_, rfl, HTD.out, below4 hb0 (by omega) _ _ _ _⟩
        · have hne := bytes_ne hm
          have HA2 : Hid (∀ i (y : IF), i < j + 1 → W[i]? = some y → decide (y.pkg = tp) = false) := fun i y hi hy => by
            by_cases e : i < j
            · exact HA.out i y e hy
            · obtain rfl : i = j := by omega
              rw [hx] at hy
              cases hy
              exact decide_eq_false hm
          clear hc hx hm HC HT
          go_wp2_with fail
          go_quiet (fail)
          go_wp2
          case roundEnd => exact ⟨⟨j + 1, by push_cast; rfl, hj, HA2, below_drewN HB.out _⟩, by simp [RowKit.intOf]; omega⟩
      · have hj' : ¬ ((j : Int) < (N : Int)) := by omega
        have HQ : Hid (R = none) := by
          exact HD1.out.trans (by rw [find_none fun i x hx => HA.out i x (by have := (List.getElem?_eq_some_iff.1 hx).1; have := HN.out; omega) hx]; rfl)
        clear hj
        go_wp2
        refine bodyPost_ret (v := .tuple #[.agg #[.string noB, .bool false, .slice none 0 0, .slice none 0 0], .bool false]) (by simp [results, Try.results57, go_sem, c2]) rfl ?_
        rw [HQ.out]
        have hb := below4 (g := w.heap.size + 2) (HBX.out.below HB.out) (Nat.le_add_right _ _) (.string noB) (.bool false) (.slice none 0 0) (.slice none 0 0)
        exact ⟨_, rfl, IsTd.zero, hb⟩
  · have hkb : (tk != 4) = true := by simpa using hk
    have HQ : Hid (R = none) := HD.out.trans (if_neg hk)
    have hb := HBX.out.2.1
    rw [← HW2.out] at hb
    have HBB := Lib.hid hb
    clear HBX HW2 hb
    go_enter Try.func57, Try.ntmps57
    go_wp2
    refine bodyPost_ret (v := .tuple #[.agg #[.string noB, .bool false, .slice none 0 0, .slice none 0 0], .bool false]) (by simp [results, Try.results57, go_sem]) rfl ?_
    rw [HQ.out]
    exact ⟨_, rfl, IsTd.zero, HBB.out⟩
end Go.Proofs.Ytlakmniaocpaaaa
namespace Go.Proofs.Ytlakmniaocpaaaa
open Go.RowKit
open Go.Lib hiding intOf
theorem old_step {w0 w : World} (h0 : Below w0.heap.size w0 w) {W : World} (hb : Below w.heap.size w W) : Below w0.heap.size w0 W := stepB h0 hb (Nat.le_refl _)
set_option maxRecDepth 100000 in
set_option maxHeartbeats 8000000 in
theorem ifaceR_any (s : SCP) (t : GY) (c : List Value) (v : Value) (w0 w : World) (h : IsSc w0 s c) (ht : IsY w0 t v) (h0 : Below w0.heap.size w0 w) :
    Calls Try.prog 43 #[.agg c.toArray, v] w fun e w' => e = .returned (.bool (ifaceS s.W t)) ∧ Below w.heap.size w w' := by
  have HF := Lib.hid (fun W (hb : Below w.heap.size w W) => findR_any s t c v w0 W h ht (old_step h0 hb))
  have HD : Hid (ifaceS s.W t = match findS s.W t with | some d => !d.strct | none => false) := rfl
  obtain ⟨o, o1, o2, o3, o4, k, n1, k1, n2, k2, k3, n4, k4, rfl, _⟩ := h
  obtain ⟨tk, tp, tm, tn, ta⟩ := t
  obtain ⟨o5, k5, rfl, _⟩ := ht.parts
  generalize findS s.W (.mk tk tp tm tn ta) = R at *
  generalize ifaceS s.W (.mk tk tp tm tn ta) = B at *
  generalize s.W.length = nW at *
  generalize s.bounds.length = nb at *
  generalize ta.length = na at *
  obtain ⟨W2, hW2, HBX⟩ := bx2 w #[.slice o nW k, .slice o1 n1 k1, .slice o2 n2 k2, .slice o3 nb k3, .slice o4 n4 k4] #[.int .i64 tk, .string tp, .string tm, .int .i64 tn, .slice o5 na k5] 32 34
  have hb1 := HBX.out.2.1
  rw [← hW2] at hb1
  have HB1 := Lib.hid hb1
  clear ht h0 hb1 hW2 HBX
  cases hR : R with
  | none =>
    subst hR
    have e : B = false := HD.out
    subst e
    go_enter Try.func43, Try.ntmps43
    go_wp2_with fail
    refine (HF.out _ HB1.out).mono ?_
    rintro e V ⟨d, rfl, hd, hb⟩
    obtain ⟨od, oe, kd, ke, rfl, _⟩ := hd
    have HV := Lib.hid (stepB HB1.out hb (Nat.le_refl _))
    clear hb
    go_wp2
    go_ret
    exact ⟨rfl, (HV.out.alloc HV.out.size _)⟩
  | some D =>
    subst hR
    have e : B = !D.strct := HD.out
    subst e
    go_enter Try.func43, Try.ntmps43
    go_wp2_with fail
    refine (HF.out _ HB1.out).mono ?_
    rintro e V ⟨d, rfl, hd, hb⟩
    obtain ⟨od, oe, kd, ke, rfl, _⟩ := hd
    have HV := Lib.hid (stepB HB1.out hb (Nat.le_refl _))
    clear hb
    go_wp2
    go_ret
    exact ⟨rfl, (HV.out.alloc HV.out.size _)⟩
def zeroM : MD := ⟨noB, [], zeroY⟩
theorem IsMd.zero {w : World} : IsMd w zeroM [.string noB, .slice none 0 0, .int .i64 0, .string noB, .string noB, .int .i64 0, .slice none 0 0] := ⟨none, 0, _, _, _, _, _, rfl, Nat.le_refl _, Nat.zero_le _, IsYs.nil _ _ _, IsY.zero⟩
theorem IsMd.expl {w : World} {m : MD} {c : List Value} (h : IsMd w m c) : ∃ (o : Option Addr) (k : Nat) (a : Int) (p q : ByteArray) (n : Int) (o' : Option Addr) (e k' : Nat), c = [.string m.name, .slice o m.params.length k, .int .i64 a, .string p, .string q, .int .i64 n, .slice o' e k'] := by
  obtain ⟨o, k, r0, r1, r2, r3, r4, rfl, _, _, _, h⟩ := h
  obtain ⟨name, ps, ⟨a, p, q, n, l⟩⟩ := m
  obtain ⟨o', k', hv, _⟩ := h.parts
  simp only [Value.agg.injEq, Array.mk.injEq, List.cons.injEq, and_true] at hv
  obtain ⟨rfl, rfl, rfl, rfl, rfl⟩ := hv
  exact ⟨o, k, a, p, q, n, o', l.length, k', rfl⟩
theorem below7 {B g : Nat} {w V : World} (h : Below B w V) (hg : B ≤ g) (v0 v1 v2 v3 v4 v5 v6 : Value) : Below B w (((((((V.setCell ⟨g, 0, none⟩ v0).setCell ⟨g, 1, none⟩ v1).setCell ⟨g, 2, none⟩ v2).setCell ⟨g, 3, none⟩ v3).setCell ⟨g, 4, none⟩ v4).setCell ⟨g, 5, none⟩ v5).setCell ⟨g, 6, none⟩ v6) := ((below5 h hg v0 v1 v2 v3 v4).setCell hg v5).setCell hg v6
set_option maxRecDepth 100000 in
set_option maxHeartbeats 8000000 in
theorem hasR_any (l : List MD) (m : ByteArray) (v : Value) (w0 w : World) (h : IsMs w0 l v) (h0 : Below w0.heap.size w0 w) :
    Calls Try.prog 45 #[v, .string m] w fun e w' => ∃ d, e = .returned (.tuple #[.agg d.toArray, .bool (hasM l m).isSome]) ∧ IsMd w0 ((hasM l m).getD zeroM) d ∧ Below w.heap.size w w' := by
  obtain ⟨o, k, rfl, hl, hk, hrow⟩ := h
  have hq : l.length ≤ 9223372036854775807 := by unfold maxLen at hk; omega
  obtain ⟨N, hN⟩ : ∃ N, l.length = N := ⟨_, rfl⟩
  rw [hN] at hq ⊢
  obtain ⟨W2, hW2, HBX⟩ := bx1 w #[.string noB, .slice none 0 0, .int .i64 0, .string noB, .string noB, .int .i64 0, .slice none 0 0] 54
  have HW2 := Lib.hid hW2
  have HN := Lib.hid hN
  have HR := Lib.hid hrow
  have H0 := Lib.hid h0
  have HB0 := Lib.hid (Nat.zero_le N)
  have HD : Hid (hasM l m = l.find? fun d => decide (d.name = m)) := rfl
  have HU0 : Hid (∀ i (x : MD), i < 0 → l[i]? = some x → decide (x.name = m) = false) := fun i x hi => by omega
  clear hl hk hrow hW2 hN h0
  generalize hasM l m = R at *
  go_enter Try.func45, Try.ntmps45
  go_wp2
  rw [HW2.out]
  go_loopw [6] (fun i wr => ∃ j : Nat, i = .int .i64 (j : Nat) ∧ Hid (j ≤ N) ∧ Hid (∀ i (x : MD), i < j → l[i]? = some x → decide (x.name = m) = false) ∧ Hid (Below W2.heap.size W2 wr)) (fun i _ => N - (RowKit.intOf i).toNat)
  case atStart => exact ⟨0, rfl, HB0, HU0, Below.refl _ _⟩
  case round =>
    obtain ⟨j, rfl, HJ, HA, HB⟩ := hrel
    clear HB0 HW2 HU0
    have c1 : ∀ i, wr.cell? ⟨w.heap.size, i, none⟩ = _ := (HBX.out.at_ HB.out 0 rfl).cell
    have f1 : ∀ i, wr.frozen? ⟨w.heap.size, i, none⟩ = false := (HBX.out.at_ HB.out 0 rfl).frozen
    by_cases hj : j < N
    · have hj' : ((j : Int) < (N : Int)) := by omega
      have hj0 : (0 : Int) ≤ (j : Int) := by omega
      have hwj := IntWalk.i64_in ((j : Int) + 1) ⟨by omega, by omega⟩
      obtain ⟨x, hx⟩ : ∃ x, l[j]? = some x := ⟨_, List.getElem?_eq_getElem (by rw [HN.out]; exact hj)⟩
      obtain ⟨a, c, rfl, hlc, hc, hyx⟩ := HR.out j x hx
      have HT := Lib.hid hyx
      obtain ⟨o2, k2, xa, xp, xq, xn, o3, e3, k3, rfl⟩ := hyx.expl
      have hc := fun i u h => cells_below (H0.out.trans ((HBX.out.below HB.out).mono H0.out.size)) _ u (hc i u h)
      have e0 := at0 (hc 0 _ rfl)
      have HC := Lib.hid hc
      by_cases hm : x.name = m
      · subst hm
        have HQ : Hid (R = some x) := by
          rw [HD.out]
          exact find_at hx (by simp) fun i y hi hy => HA.out i y hi hy
        clear hc hlc hx hyx
        go_wp2_with (refine boxLoadG 54 7 (by kernel_rfl) Try.underlying54 rfl _ rfl (a.add (j * 7)) rfl HC.out rfl ?_)
        refine bodyPost_ret (v := .tuple #[.agg #[.string x.name, .slice o2 x.params.length k2, .int .i64 xa, .string xp, .string xq, .int .i64 xn, .slice o3 e3 k3], .bool true]) (by simp [results, Try.results45, go_sem, c1]) rfl ?_
        rw [HQ.out]
        exact ⟨_, rfl, HT.out, below7 (HBX.out.below HB.out) (Nat.le_refl _) _ _ _ _ _ _ _⟩
      · have hne := bytes_ne hm
        have HA2 : Hid (∀ i (y : MD), i < j + 1 → l[i]? = some y → decide (y.name = m) = false) := fun i y hi hy => by
          by_cases e : i < j
          · exact HA.out i y e hy
          · obtain rfl : i = j := by omega
            rw [hx] at hy
            cases hy
            exact decide_eq_false hm
        clear hc hlc hx hm HC HT hyx
        go_wp2
        case roundEnd => exact ⟨⟨j + 1, by push_cast; rfl, hj, HA2, HB⟩, by simp [RowKit.intOf]; omega⟩
    · have hj' : ¬ ((j : Int) < (N : Int)) := by omega
      have HQ : Hid (R = none) := by
        rw [HD.out]
        exact find_none fun i x hx => HA.out i x (by have := (List.getElem?_eq_some_iff.1 hx).1; have := HN.out; omega) hx
      clear hj
      go_wp2
      refine bodyPost_ret (v := .tuple #[.agg #[.string noB, .slice none 0 0, .int .i64 0, .string noB, .string noB, .int .i64 0, .slice none 0 0], .bool false]) (by simp [results, Try.results45, go_sem, c1]) rfl ?_
      rw [HQ.out]
      exact ⟨_, rfl, IsMd.zero, below7 (HBX.out.below HB.out) (Nat.le_refl _) _ _ _ _ _ _ _⟩
end Go.Proofs.Ytlakmniaocpaaaa
namespace Go.Proofs.Ytlakmniaocpaaaa
open Go.RowKit
open Go.Lib hiding intOf
theorem IsMs.nil {w : World} : IsMs w [] (.slice none 0 0) := ⟨none, 0, rfl, Nat.le_refl _, Nat.zero_le _, IsRow.nil⟩
theorem IsY.expl {w : World} {t : GY} {v : Value} (h : IsY w t v) : ∃ (a n : Int) (p q : ByteArray) (o : Option Addr) (e k : Nat), v = .agg #[.int .i64 a, .string p, .string q, .int .i64 n, .slice o e k] := by
  obtain ⟨a, p, q, n, l⟩ := t
  obtain ⟨o, k, rfl, _⟩ := h.parts
  exact ⟨a, n, p, q, o, _, k, rfl⟩
theorem getD_some {α : Type} {l : List α} {i : Nat} {x d : α} (h : l[i]? = some x) : l.getD i d = x := by
  rw [List.getD_eq_getElem?_getD, h, Option.getD_some]
set_option maxRecDepth 100000 in
set_option maxHeartbeats 8000000 in
theorem methR_any (s : SCP) (t : GY) (c : List Value) (v : Value) (w0 w : World) (h : IsSc w0 s c) (ht : IsY w0 t v) (h0 : Below w0.heap.size w0 w) :
    Calls Try.prog 44 #[.agg c.toArray, v] w fun e w' => ∃ u, e = .returned u ∧ IsMs w0 (methS s t) u ∧ Below w.heap.size w w' := by
  have HF := Lib.hid (fun (x : GY) (u : Value) (hx : IsY w0 x u) W (hb : Below w.heap.size w W) => findR_any s x c u w0 W h hx (old_step h0 hb))
  have HI := Lib.hid (fun (x : GY) (u : Value) (hx : IsY w0 x u) W (hb : Below w.heap.size w W) => ifaceR_any s x c u w0 W h hx (old_step h0 hb))
  have HTY := Lib.hid ht
  have H0 := Lib.hid h0
  obtain ⟨o, o1, o2, o3, o4, k, n1, k1, n2, k2, k3, n4, k4, rfl, _, _, hl3, hk3, _, hbs, _⟩ := h
  have hq : s.bounds.length ≤ 9223372036854775807 := by unfold maxLen at hk3; omega
  have HBS := Lib.hid hbs
  obtain ⟨tk, tp, tm, tn, ta⟩ := t
  have HM : Hid (methS s (.mk tk tp tm tn ta) = if tk = 6 then if tn < 0 ∨ (s.bounds.length : Int) ≤ tn then [] else if ifaceS s.W (s.bounds.getD tn.toNat zeroY) then methD s.W (s.bounds.getD tn.toNat zeroY) else [] else methD s.W (.mk tk tp tm tn ta)) := rfl
  obtain ⟨o5, k5, rfl, _⟩ := ht.parts
  generalize methS s (.mk tk tp tm tn ta) = M at *
  generalize s.W.length = nW at *
  generalize ta.length = na at *
  obtain ⟨N, hN⟩ : ∃ N, N = s.bounds.length := ⟨_, rfl⟩
  rw [← hN] at hq HM HF HI
  rw [← hN]
  have HN := Lib.hid hN
  obtain ⟨W2, hW2, HBX⟩ := bx2 w #[.slice o nW k, .slice o1 n1 k1, .slice o2 n2 k2, .slice o3 N k3, .slice o4 n4 k4] #[.int .i64 tk, .string tp, .string tm, .int .i64 tn, .slice o5 na k5] 32 34
  have hb1 := HBX.out.2.1
  rw [← hW2] at hb1
  have HB1 := Lib.hid hb1
  have HW2 := Lib.hid hW2
  clear ht h0 hb1 hW2 hN hl3 hk3 hbs
  by_cases hk : tk = 6
  · have HM1 := Lib.hid (HM.out.trans (if_pos hk))
    subst hk
    clear HM
    by_cases hn : tn < 0 ∨ (N : Int) ≤ tn
    · have HM2 := Lib.hid (HM1.out.trans (if_pos hn))
      clear HM1 HF HI
      rcases hn with hn | hn
      · go_enter Try.func44, Try.ntmps44
        go_wp2
        go_ret
        rw [HM2.out]
        exact ⟨_, rfl, IsMs.nil, HB1.out⟩
      · have hn0 : ¬ tn < 0 := by omega
        go_enter Try.func44, Try.ntmps44
        go_wp2
        go_ret
        rw [HM2.out]
        exact ⟨_, rfl, IsMs.nil, HB1.out⟩
    · have HM2 := Lib.hid (HM1.out.trans (if_neg hn))
      obtain ⟨j, rfl⟩ : ∃ j : Nat, tn = (j : Int) := ⟨tn.toNat, by omega⟩
      have hjN : j < N := by omega
      obtain ⟨y, hy⟩ : ∃ y, s.bounds[j]? = some y := ⟨_, List.getElem?_eq_getElem (by rw [← HN.out]; exact hjN)⟩
      have HM3 : Hid (M = if ifaceS s.W y then methD s.W y else []) := by
        have e := HM2.out
        rw [Int.toNat_natCast, getD_some hy] at e
        exact e
      obtain ⟨a, d0, d1, d2, d3, d4, rfl, hc, hyy⟩ := HBS.out.at_ j hy
      have HYY := Lib.hid hyy
      obtain ⟨ya, yn, yp, yq, o6, e6, k6, hv⟩ := hyy.expl
      simp only [Value.agg.injEq, Array.mk.injEq, List.cons.injEq, and_true] at hv
      obtain ⟨rfl, rfl, rfl, rfl, rfl⟩ := hv
      rw [Nat.zero_add] at hc
      have HC := Lib.hid (fun (W : World) (hb : Below w.heap.size w W) (i : Nat) (u : Value) h => cells_below (old_step H0.out hb) _ u (hc i u h))
      have hj0 : (0 : Int) ≤ (j : Int) := by omega
      have hj1 : ¬ ((j : Int) < 0) := by omega
      have hj2 : ((j : Int) < (N : Int)) := by omega
      have hj3 : ¬ ((N : Int) ≤ (j : Int)) := by omega
      clear HM1 HM2 hn hy hc hyy
      go_enter Try.func44, Try.ntmps44
      go_wp2_with fail
      rw [HW2.out]
      have HC2 := Lib.hid (HC.out W2 HBX.out.2.1)
      have c0 : ∀ i, W2.cell? ⟨w.heap.size, i, none⟩ = _ := (HBX.out.at_ (Below.refl _ _) 0 rfl).cell
      have c1 : ∀ i, W2.cell? ⟨w.heap.size + 1, i, none⟩ = _ := (HBX.out.at_ (Below.refl _ _) 1 rfl).cell
      refine wp_region_still_tail 7 (by kernel_rfl) (by kernel_rfl) ?_
      simp only [List.take_succ_cons, List.take_zero, List.drop_succ_cons, List.drop_zero]
      iterate 6 still_step
      refine stillLoadG 34 5 size5 Try.underlying34 rfl _ rfl (a.add (j * 5)) rfl HC2.out rfl ?_
      refine wpStill_nil ?_
      change wpList _ _ _ _ _ W2.drew
      have hwd : Below w.heap.size w W2.drew := HBX.out.2.1.drew
      have HWD := Lib.hid hwd
      clear hwd
      go_wp2_with fail
      refine (HI.out _ _ HYY.out _ HWD.out).mono ?_
      rintro e V ⟨rfl, hb⟩
      have HV := Lib.hid (stepB HWD.out hb (Nat.le_refl _))
      have hV2 : Below W2.heap.size W2 V := (Below.refl _ W2).drew.trans hb
      have b1 := HBX.out.at_ hV2 1 rfl
      have b0 := HBX.out.at_ hV2 0 rfl
      have c0 := b0.cell
      have c1 := b1.cell
      have f1 := b1.frozen
      rw [Nat.add_zero] at c0
      have HCV := Lib.hid (HC.out V HV.out)
      clear hb hV2 b0 b1 HC HC2
      cases hI : ifaceS s.W y with
      | false =>
        have HM4 : Hid (M = []) := by rw [hI] at HM3; exact HM3.out
        clear hI HM3
        go_wp2
        go_ret
        rw [HM4.out]
        exact ⟨_, rfl, IsMs.nil, HV.out⟩
      | true =>
        have HM4 : Hid (M = methD s.W y) := by rw [hI] at HM3; exact HM3.out
        clear hI HM3
        have e0 := at0 (HCV.out 0 _ rfl)
        have e1 := atS (HCV.out 1 _ rfl)
        have e2 := atS (HCV.out 2 _ rfl)
        have e3 := atS (HCV.out 3 _ rfl)
        have e4 := atS (HCV.out 4 _ rfl)
        clear HCV
        go_wp2_with fail
        have hvs := below5 (g := w.heap.size + 1) HV.out (Nat.le_succ _) (.int .i64 ya) (.string yp) (.string yq) (.int .i64 yn) (.slice o6 e6 k6)
        have HVS := Lib.hid hvs
        refine (HF.out _ _ HYY.out _ HVS.out).mono ?_
        rintro e X ⟨d, rfl, hd, hb⟩
        obtain ⟨od, oe, kd, ke, rfl, g1, g2, g3, g4, g5, g6⟩ := hd
        have HX := Lib.hid (stepB HVS.out hb (Nat.le_refl _))
        have HG : Hid (IsMs w0 M (.slice oe ((findS s.W y).getD zeroD).meths.length ke)) := by
          rw [HM4.out]
          exact ⟨oe, ke, rfl, g3, g4, g6⟩
        clear hb g1 g2 g3 g4 g5 g6 hvs
        go_wp2
        go_ret
        exact ⟨_, rfl, HG.out, (HX.out.alloc HX.out.size _)⟩
  · have HM1 := Lib.hid (HM.out.trans (if_neg hk))
    have hkb : (tk == 6) = false := by simpa using hk
    clear HM HI
    go_enter Try.func44, Try.ntmps44
    go_wp2_with fail
    refine (HF.out _ _ HTY.out _ HB1.out).mono ?_
    rintro e V ⟨d, rfl, hd, hb⟩
    obtain ⟨od, oe, kd, ke, rfl, g1, g2, g3, g4, g5, g6⟩ := hd
    have HV := Lib.hid (stepB HB1.out hb (Nat.le_refl _))
    have HG : Hid (IsMs w0 M (.slice oe ((findS s.W (.mk tk tp tm tn ta)).getD zeroD).meths.length ke)) := by
      rw [HM1.out]
      exact ⟨oe, ke, rfl, g3, g4, g6⟩
    clear hb g1 g2 g3 g4 g5 g6
    go_wp2
    go_ret
    exact ⟨_, rfl, HG.out, (HV.out.alloc HV.out.size _)⟩
end Go.Proofs.Ytlakmniaocpaaaa
namespace Go.Proofs.Ytlakmniaocpaaaa
open Go.RowKit
open Go.Lib hiding intOf
theorem IsFd.expl {w : World} {f : ByteArray × GY} {c : List Value} (h : IsFd w f c) : ∃ (a n : Int) (p q : ByteArray) (o : Option Addr) (e k : Nat), c = [.string f.1, .int .i64 a, .string p, .string q, .int .i64 n, .slice o e k] ∧ IsY w f.2 (.agg #[.int .i64 a, .string p, .string q, .int .i64 n, .slice o e k]) := by
  obtain ⟨r0, r1, r2, r3, r4, rfl, h⟩ := h
  have h2 := h
  obtain ⟨a, n, p, q, o, e, k, hv⟩ := h2.expl
  simp only [Value.agg.injEq, Array.mk.injEq, List.cons.injEq, and_true] at hv
  obtain ⟨rfl, rfl, rfl, rfl, rfl⟩ := hv
  exact ⟨_, _, _, _, _, _, _, rfl, h⟩
end Go.Proofs.Ytlakmniaocpaaaa
namespace Go.Proofs.Ytlakmniaocpaaaa
open Go.RowKit
open Go.Lib hiding intOf
theorem alikes_all : ∀ {l q : List GY}, l.length = q.length → (∀ (i : Nat) (a b : GY), l[i]? = some a → q[i]? = some b → alikeY a b = true) → alikeYs l q = true
  | [], [], _, _ => by rw [alikeYs]
  | a :: r, b :: q, hl, h => by
    rw [alikeYs, h 0 a b rfl rfl, alikes_all (by simpa using hl) fun i x y hx hy => h (i + 1) x y (by simpa using hx) (by simpa using hy)]
    rfl
  | [], _ :: _, h, _ => by simp at h
  | _ :: _, [], h, _ => by simp at h
theorem alikes_not : ∀ {l q : List GY} {i : Nat} {a b : GY}, l[i]? = some a → q[i]? = some b → alikeY a b = false → alikeYs l q = false
  | [], _, _, _, _, h, _, _ => by simp at h
  | _ :: _, [], _, _, _, _, h, _ => by simp at h
  | x :: r, y :: q, 0, a, b, h1, h2, h3 => by
    simp only [List.getElem?_cons_zero, Option.some.injEq] at h1 h2
    subst h1; subst h2
    rw [alikeYs, h3]; rfl
  | x :: r, y :: q, i + 1, a, b, h1, h2, h3 => by
    rw [alikeYs, alikes_not (l := r) (q := q) (i := i) (by simpa using h1) (by simpa using h2) h3, Bool.and_false]
set_option maxRecDepth 100000 in
set_option maxHeartbeats 8000000 in
theorem alikeR_any : ∀ (s : Nat) (x y : GY) (v u : Value) (w : World), SizeOf.sizeOf x < s → IsY w x v → IsY w y u →
    Calls Try.prog 46 #[v, u] w fun e w' => e = .returned (.bool (alikeY x y)) ∧ Below w.heap.size w w' := by
  intro s
  induction s with
  | zero => intro x y v u w h; omega
  | succ s ih =>
  rintro ⟨k, p, m, n, l⟩ ⟨k', p', m', n', l'⟩ v u w hs hv hu
  have HSM := Lib.hid (fun W (hb : Below w.heap.size w W) => sameR_any _ _ _ _ _ W (Nat.lt_succ_self _) (hv.below hb) (hu.below hb))
  have HA : Hid (alikeY (.mk k p m n l) (.mk k' p' m' n' l') = if k = 0 ∨ k' = 0 then true else if k = 5 ∧ k' = 5 then alikeYs l l' else sameY (.mk k p m n l) (.mk k' p' m' n' l')) := by show _ = _; rw [alikeY]
  obtain ⟨o, c, rfl, hl, hc, ha⟩ := hv.parts
  obtain ⟨o', c', rfl, hl', hc', ha'⟩ := hu.parts
  have hq : l.length ≤ 9223372036854775807 := by unfold maxLen at hc; omega
  have HI : Hid (∀ z ∈ l, ∀ (y : GY) (v u : Value) (W : World), IsY W z v → IsY W y u → Calls Try.prog 46 #[v, u] W fun e W' => e = .returned (.bool (alikeY z y)) ∧ Below W.heap.size W W') :=
    fun z hz y v u W hv hu => ih z y v u W (by have := List.sizeOf_lt_of_mem hz; simp at hs; omega) hv hu
  have HX := Lib.hid ha
  have HY := Lib.hid ha'
  generalize sameY (.mk k p m n l) (.mk k' p' m' n' l') = SB at *
  generalize alikeY (.mk k p m n l) (.mk k' p' m' n' l') = RB at *
  clear ih hv hu ha ha' hl hl' hc hc' hs
  obtain ⟨N, hN⟩ : ∃ N, l.length = N := ⟨_, rfl⟩
  obtain ⟨N', hN'⟩ : ∃ N', l'.length = N' := ⟨_, rfl⟩
  rw [hN] at hq HSM
  rw [hN'] at HSM
  rw [hN, hN']
  have HN := Lib.hid hN
  have HN' := Lib.hid hN'
  clear hN hN'
  obtain ⟨W2, hW2, HBX⟩ := bx2 w #[.int .i64 k, .string p, .string m, .int .i64 n, .slice o N c] #[.int .i64 k', .string p', .string m', .int .i64 n', .slice o' N' c'] 34 34
  have hb1 := HBX.out.2.1
  rw [← hW2] at hb1
  have HB1 := Lib.hid hb1
  have HW2 := Lib.hid hW2
  have HB0 := Lib.hid (Nat.zero_le N)
  clear hb1 hW2
  by_cases h0 : k = 0 ∨ k' = 0
  · have HQ := Lib.hid (HA.out.trans (if_pos h0))
    clear HA
    by_cases hk : k = 0
    · subst hk
      go_enter Try.func46, Try.ntmps46
      go_wp2
      go_ret
      rw [HQ.out]
      exact ⟨rfl, HB1.out⟩
    · obtain rfl : k' = 0 := h0.resolve_left hk
      have hkb : (k == 0) = false := by simpa using hk
      clear h0 hk
      go_enter Try.func46, Try.ntmps46
      go_wp2
      go_ret
      rw [HQ.out]
      exact ⟨rfl, HB1.out⟩
  · have HA1 := Lib.hid (HA.out.trans (if_neg h0))
    have hkb : (k == 0) = false := by simpa using fun e => h0 (.inl e)
    have hkb' : (k' == 0) = false := by simpa using fun e => h0 (.inr e)
    clear HA h0
    by_cases h5 : k = 5 ∧ k' = 5
    · have HA2 := Lib.hid (HA1.out.trans (if_pos h5))
      obtain ⟨rfl, rfl⟩ := h5
      clear HA1 hkb hkb'
      by_cases hnn : N = N'
      · subst hnn
        clear HSM
        go_enter Try.func46, Try.ntmps46
        go_wp2
        rw [HW2.out]
        go_loopw [5] (fun i wr => ∃ j : Nat, i = .int .i64 (j : Nat) ∧ Hid (j ≤ N) ∧ Hid (∀ (i : Nat) (a b : GY), i < j → l[i]? = some a → l'[i]? = some b → alikeY a b = true) ∧ Hid (Below W2.heap.size W2 wr)) (fun i _ => N - (RowKit.intOf i).toNat)
        case atStart => exact ⟨0, rfl, HB0, fun i a b h => by omega, Below.refl _ _⟩
        case round =>
          obtain ⟨j, rfl, HJ, HU, HR⟩ := hrel
          clear HB0 HW2
          have c4 : wr.cell? ⟨w.heap.size, 4, none⟩ = some (.slice o N c) := (HBX.out.at_ HR.out 0 rfl).cell 4
          have d4 : wr.cell? ⟨w.heap.size + 1, 4, none⟩ = some (.slice o' N c') := (HBX.out.at_ HR.out 1 rfl).cell 4
          have hww := HBX.out.below HR.out
          by_cases hj : j < N
          · have hj' : ((j : Int) < (N : Int)) := by omega
            have hj0 : (0 : Int) ≤ (j : Int) := by omega
            have hwj := IntWalk.i64_in ((j : Int) + 1) ⟨by omega, by omega⟩
            obtain ⟨x, hx⟩ : ∃ x, l[j]? = some x := ⟨_, List.getElem?_eq_getElem (by rw [HN.out]; exact hj)⟩
            obtain ⟨y, hy⟩ : ∃ y, l'[j]? = some y := ⟨_, List.getElem?_eq_getElem (by rw [HN'.out]; exact hj)⟩
            have hmem := List.mem_of_getElem? hx
            obtain ⟨a, a0, a1, a2, a3, a4, rfl, hc, hyx⟩ := HX.out.at_ j hx
            obtain ⟨b, b0, b1, b2, b3, b4, rfl, hd, hyy⟩ := HY.out.at_ j hy
            rw [Nat.zero_add] at hc hd
            have HC := Lib.hid (mvc hww hc)
            have HDD := Lib.hid (mvc hww hd)
            have HF := Lib.hid (fun W (hb : Below wr.heap.size wr W) => HI.out x hmem y _ _ W ((hyx.below hww).below hb) ((hyy.below hww).below hb))
            have HXX := Lib.hid hx
            have HYY := Lib.hid hy
            clear hc hd hmem hyx hyy hww hx hy
            go_wp2_with fail
            refine wp_region_still_tail 10 (by kernel_rfl) (by kernel_rfl) ?_
            simp only [List.take_succ_cons, List.take_zero, List.drop_succ_cons, List.drop_zero]
            iterate 4 still_step
            refine stillLoadG 34 5 size5 Try.underlying34 rfl _ rfl (a.add (j * 5)) rfl HC.out rfl ?_
            iterate 4 still_step
            refine stillLoadG 34 5 size5 Try.underlying34 rfl _ rfl (b.add (j * 5)) rfl HDD.out rfl ?_
            refine wpStill_nil ?_
            change wpList _ _ _ _ _ wr.drew
            go_wp2_with fail
            refine (HF.out _ (Below.refl _ _).drew).mono ?_
            rintro e w5 ⟨rfl, hb⟩
            have HR5 := Lib.hid (stepB HR.out (undrewY hb) (Nat.le_refl _))
            cases hal : alikeY x y with
            | false =>
              have HQ : Hid (RB = false) := by rw [HA2.out]; exact alikes_not HXX.out HYY.out hal
              clear hb HC HDD HF c4 d4 hal
              go_wp2
              go_ret
              rw [HQ.out]
              exact ⟨rfl, HBX.out.below HR5.out⟩
            | true =>
              have HU2 : Hid (∀ (i : Nat) (a b : GY), i < j + 1 → l[i]? = some a → l'[i]? = some b → alikeY a b = true) := fun i a b hi hx hy => by
                by_cases e : i < j
                · exact HU.out i a b e hx hy
                · obtain rfl : i = j := by omega
                  rw [HXX.out] at hx
                  rw [HYY.out] at hy
                  cases hx; cases hy
                  exact hal
              clear hb HC HDD HF c4 d4 hal
              go_wp2
              case roundEnd => exact ⟨⟨j + 1, by push_cast; rfl, hj, HU2, HR5⟩, by simp [RowKit.intOf]; omega⟩
          · have hj' : ¬ ((j : Int) < (N : Int)) := by omega
            have HQ : Hid (RB = true) := by
              rw [HA2.out]
              exact alikes_all (HN.out.trans HN'.out.symm) fun i a b hx hy => HU.out i a b (by have h1 := (List.getElem?_eq_some_iff.1 hx).1; rw [HN.out] at h1; omega) hx hy
            have HWW := Lib.hid hww
            clear hj hww
            go_wp2
            go_ret
            rw [HQ.out]
            exact ⟨rfl, HWW.out⟩
      · have HQ : Hid (RB = false) := by rw [HA2.out]; exact alikes_ne (by rw [HN.out, HN'.out]; exact hnn)
        have hnb : ((N : Int) != (N' : Int)) = true := by simpa using fun e => hnn (by omega)
        clear HA2 HSM hnn
        go_enter Try.func46, Try.ntmps46
        go_wp2
        go_ret
        rw [HQ.out]
        exact ⟨rfl, HB1.out⟩
    · have HA2 := Lib.hid (HA1.out.trans (if_neg h5))
      by_cases hk : k = 5
      · have hk2 : (k' != 5) = true := by simpa using fun e => h5 ⟨hk, e⟩
        subst hk
        clear h5 HA1 hkb
        go_enter Try.func46, Try.ntmps46
        go_wp2_with fail
        refine (HSM.out _ HB1.out).mono ?_
        rintro e V ⟨rfl, hb⟩
        have HV := Lib.hid (stepB HB1.out hb (Nat.le_refl _))
        clear hb
        go_wp2
        go_ret
        rw [HA2.out]
        exact ⟨rfl, HV.out⟩
      · have hk2 : (k != 5) = true := by simpa using hk
        clear h5 HA1 hk
        go_enter Try.func46, Try.ntmps46
        go_wp2_with fail
        refine (HSM.out _ HB1.out).mono ?_
        rintro e V ⟨rfl, hb⟩
        have HV := Lib.hid (stepB HB1.out hb (Nat.le_refl _))
        clear hb
        go_wp2
        go_ret
        rw [HA2.out]
        exact ⟨rfl, HV.out⟩
end Go.Proofs.Ytlakmniaocpaaaa
namespace Go.Proofs.Ytlakmniaocpaaaa
open Go.RowKit
open Go.Lib hiding intOf
theorem IsMd.parts {w : World} {m : MD} {c : List Value} (h : IsMd w m c) : ∃ (o : Option Addr) (k : Nat) (a n : Int) (p q : ByteArray) (o' : Option Addr) (e k' : Nat), c = [.string m.name, .slice o m.params.length k, .int .i64 a, .string p, .string q, .int .i64 n, .slice o' e k'] ∧ k ≤ maxLen ∧ m.params.length ≤ k ∧ IsYs w o 0 m.params ∧ IsY w m.result (.agg #[.int .i64 a, .string p, .string q, .int .i64 n, .slice o' e k']) := by
  obtain ⟨o, k, r0, r1, r2, r3, r4, rfl, h1, h2, h3, h⟩ := h
  have h4 := h
  obtain ⟨a, n, p, q, o', e, k', hv⟩ := h4.expl
  simp only [Value.agg.injEq, Array.mk.injEq, List.cons.injEq, and_true] at hv
  obtain ⟨rfl, rfl, rfl, rfl, rfl⟩ := hv
  exact ⟨_, _, _, _, _, _, _, _, _, rfl, h2, h1, h3, h⟩
theorem meets_all {s : SCP} {t i : GY} (hi : ifaceS s.W i = true) (h : ∀ (j : Nat) (m : MD), (methS s i)[j]? = some m → okM (methS s t) m = true) : meetsS s t i = true := by
  unfold meetsS
  rw [hi, Bool.true_and, List.all_eq_true]
  intro m hm
  obtain ⟨j, hj⟩ := List.getElem?_of_mem hm
  exact h j m hj
theorem meets_not {s : SCP} {t i : GY} {m : MD} (hm : m ∈ methS s i) (h : okM (methS s t) m = false) : meetsS s t i = false := by
  unfold meetsS
  rw [Bool.and_eq_false_iff]
  right
  rw [List.all_eq_false]
  exact ⟨m, hm, by rw [h]; simp⟩
set_option maxRecDepth 100000 in
set_option maxHeartbeats 8000000 in
theorem meetsR_any (s : SCP) (t i : GY) (c : List Value) (v u : Value) (w0 w : World) (h : IsSc w0 s c) (ht : IsY w0 t v) (hi : IsY w0 i u) (h0 : Below w0.heap.size w0 w) :
    Calls Try.prog 32 #[.agg c.toArray, v, u] w fun e w' => e = .returned (.bool (meetsS s t i)) ∧ Below w.heap.size w w' := by
  have HI := Lib.hid (fun W (hb : Below w.heap.size w W) => ifaceR_any s i c u w0 W h hi (old_step h0 hb))
  have HMI := Lib.hid (fun W (hb : Below w.heap.size w W) => methR_any s i c u w0 W h hi (old_step h0 hb))
  have HMT := Lib.hid (fun W (hb : Below w.heap.size w W) => methR_any s t c v w0 W h ht (old_step h0 hb))
  have HALL := Lib.hid (fun hI h => meets_all (s := s) (t := t) (i := i) hI h)
  have HNOT := Lib.hid (fun (m : MD) h1 h2 => meets_not (s := s) (t := t) (i := i) (m := m) h1 h2)
  have HNO : Hid (ifaceS s.W i = false → meetsS s t i = false) := meets_no
  have H0 := Lib.hid h0
  obtain ⟨o, o1, o2, o3, o4, k, n1, k1, n2, k2, k3, n4, k4, rfl, _⟩ := h
  obtain ⟨ta, tn, tp, tq, o5, na, k5, rfl⟩ := ht.expl
  obtain ⟨ia, inn, ip, iq, o6, nb, k6, rfl⟩ := hi.expl
  generalize meetsS s t i = R at *
  generalize methS s t = MT at *
  generalize methS s i = MI at *
  generalize ifaceS s.W i = BI at *
  generalize s.W.length = nW at *
  generalize s.bounds.length = nbd at *
  obtain ⟨W2, hW2, HBX⟩ := bx3 w #[.slice o nW k, .slice o1 n1 k1, .slice o2 n2 k2, .slice o3 nbd k3, .slice o4 n4 k4] #[.int .i64 ta, .string tp, .string tq, .int .i64 tn, .slice o5 na k5] #[.int .i64 ia, .string ip, .string iq, .int .i64 inn, .slice o6 nb k6] 32 34 34
  have HW2 := Lib.hid hW2
  have hb1 := HBX.out.2.1
  rw [← hW2] at hb1
  have HB1 := Lib.hid hb1
  clear ht hi h0 hW2 hb1
  go_enter Try.func32, Try.ntmps32
  go_wp2_with fail
  refine (HI.out _ HB1.out).mono ?_
  rintro e V ⟨rfl, hb⟩
  rw [HW2.out] at hb
  have HV := Lib.hid hb
  clear hb HB1 HW2
  cases hBI : BI with
  | false =>
    have HQ := Lib.hid (HNO.out hBI)
    clear hBI
    go_wp2
    go_ret
    rw [HQ.out]
    exact ⟨rfl, HBX.out.below HV.out⟩
  | true =>
    have HBI := Lib.hid hBI
    clear hBI HNO
    have c0 := (HBX.out.at_ HV.out 0 rfl).cell
    have c1 := (HBX.out.at_ HV.out 1 rfl).cell
    have c2 := (HBX.out.at_ HV.out 2 rfl).cell
    rw [Nat.add_zero] at c0
    go_wp2_with fail
    refine (HMI.out _ (HBX.out.below HV.out)).mono ?_
    rintro e V1 ⟨u1, rfl, hm1, hb⟩
    obtain ⟨oi, ki, rfl, hli, hki, hri⟩ := hm1
    have HV1 := Lib.hid (stepB HV.out hb (Nat.le_refl _))
    have HRI := Lib.hid hri
    clear hb c0 c1 c2 hri HV HI HMI
    have c0 := (HBX.out.at_ HV1.out 0 rfl).cell
    have c1 := (HBX.out.at_ HV1.out 1 rfl).cell
    rw [Nat.add_zero] at c0
    go_wp2_with fail
    refine (HMT.out _ (HBX.out.below HV1.out)).mono ?_
    rintro e V2 ⟨u2, rfl, hm2, hb⟩
    have HM2 := Lib.hid hm2
    obtain ⟨ot, kt, rfl, hlt, hkt, hrt⟩ := hm2
    have HV2 := Lib.hid (HBX.out.below (stepB HV1.out hb (Nat.le_refl _)))
    have hq : MI.length ≤ 9223372036854775807 := by unfold maxLen at hki; omega
    obtain ⟨N, hN⟩ : ∃ N, N = MI.length := ⟨_, rfl⟩
    rw [← hN] at hq
    rw [← hN]
    have HN := Lib.hid hN
    clear hb c0 c1 hrt HV1 HMT HBX hli hki hlt hkt hN
    have HB0 := Lib.hid (Nat.zero_le N)
    go_wp2
    go_loopw [10] (fun i wr => ∃ j : Nat, i = .int .i64 (j : Nat) ∧ Hid (j ≤ N) ∧ Hid (∀ (i : Nat) (m : MD), i < j → MI[i]? = some m → okM MT m = true) ∧ Hid (Below w.heap.size w wr)) (fun i _ => N - (RowKit.intOf i).toNat)
    case atStart => exact ⟨0, rfl, HB0, fun i a h => by omega, HV2⟩
    case round =>
      obtain ⟨j, rfl, HJ, HU, HR⟩ := hrel
      clear HB0 HV2
      by_cases hj : j < N
      · have hj' : ((j : Int) < (N : Int)) := by omega
        have hj0 : (0 : Int) ≤ (j : Int) := by omega
        have hwj := IntWalk.i64_in ((j : Int) + 1) ⟨by omega, by omega⟩
        obtain ⟨x, hx⟩ : ∃ x, MI[j]? = some x := ⟨_, List.getElem?_eq_getElem (by rw [← HN.out]; exact hj)⟩
        have HXI := Lib.hid (List.mem_of_getElem? hx)
        have HXJ := Lib.hid hx
        obtain ⟨a, c, rfl, hlc, hc, hyx⟩ := HRI.out j x hx
        obtain ⟨o7, k7, xa, xn, xp, xq, o8, e8, k8, rfl, hk7, hl7, hxp, hxr⟩ := hyx.parts
        have HXP := Lib.hid hxp
        have HXR := Lib.hid hxr
        have HC := Lib.hid (fun (W : World) (hb : Below w.heap.size w W) => mvc (old_step H0.out hb) hc)
        have e0 := at0 (HC.out wr HR.out 0 _ rfl)
        have HH := Lib.hid (fun W (hb : Below w.heap.size w W) => hasR_any MT x.name _ w0 W HM2.out (old_step H0.out hb))
        have hq7 : x.params.length ≤ 9223372036854775807 := by unfold maxLen at hk7; omega
        clear hx hlc hc hyx hxp hxr hk7 hl7
        go_wp2_with fail
        refine (HH.out _ HR.out).mono ?_
        rintro e V3 ⟨d, rfl, hd, hb⟩
        have HV3 := Lib.hid (stepB HR.out hb (Nat.le_refl _))
        clear hb e0
        obtain ⟨o9, k9, da, dn, dp, dq, o10, e10, k10, rfl, hk9, hl9, hdp, hdr⟩ := hd.parts
        have e1 : ∀ W, Below w.heap.size w W → W.cell? ⟨(a.add (j * 7)).block, (a.add (j * 7)).off + 1, none⟩ = some (.slice o7 x.params.length k7) := fun W hb => atS (HC.out W hb 1 _ rfl)
        have hOK : Hid (okM MT x = match hasM MT x.name with | some o => alikeYs o.params x.params && alikeY o.result x.result | none => false) := rfl
        generalize hgQ : (hasM MT x.name).getD zeroM = Q at *
        obtain ⟨V4, hV4⟩ : ∃ V4, V3.alloc (.cells #[.string Q.name, .slice o9 Q.params.length k9, .int .i64 da, .string dp, .string dq, .int .i64 dn, .slice o10 e10 k10] 54) = V4 := ⟨_, rfl⟩
        have b4 : Blk V4 V3.heap.size 54 #[.string Q.name, .slice o9 Q.params.length k9, .int .i64 da, .string dp, .string dq, .int .i64 dn, .slice o10 e10 k10] := by rw [← hV4]; exact Blk.new _ _ _
        have hb4 : Below w.heap.size w V4 := by rw [← hV4]; exact HV3.out.alloc HV3.out.size _
        have HV4 := Lib.hid hV4
        have HB4 := Lib.hid hb4
        have f1 := e1 V4 hb4
        have HE1 := Lib.hid e1
        clear hd hV4 hb4 e1 HH
        cases hh : hasM MT x.name with
        | none =>
          have HQ : Hid (R = false) := HNOT.out x HXI.out (by rw [hOK.out, hh])
          have c8 := b4.cell
          clear hOK hh hgQ b4 hk9 hl9 hdp hdr
          go_wp2_with fail
          rw [HV4.out]
          go_quiet (fail)
          go_wp2
          go_ret
          rw [HQ.out]
          exact ⟨rfl, below_drewN HB4.out _⟩
        | some q =>
          have HOK : Hid (okM MT x = (alikeYs q.params x.params && alikeY q.result x.result)) := by have e := hOK.out; rw [hh] at e; exact e
          rw [hh, Option.getD_some] at hgQ
          subst hgQ
          have hq9 : q.params.length ≤ 9223372036854775807 := by unfold maxLen at hk9; omega
          have c8 := b4.cell
          have HB8 := Lib.hid b4
          have HDP := Lib.hid hdp
          have HDR := Lib.hid hdr
          clear hOK hh b4 hk9 hl9 hdp hdr
          obtain ⟨P, hP⟩ : ∃ P, P = q.params.length := ⟨_, rfl⟩
          obtain ⟨P', hP'⟩ : ∃ P', P' = x.params.length := ⟨_, rfl⟩
          rw [← hP] at hq9 c8 HB8 HV4
          rw [← hP'] at hq7 f1 HE1
          rw [← hP]
          have HP := Lib.hid hP
          have HP' := Lib.hid hP'
          clear hP hP'
          by_cases hPP : P = P'
          · subst hPP
            clear hq9
            go_wp2_with fail
            rw [HV4.out]
            go_quiet (fail)
            generalize hW5 : V4.drewN _ = W5
            have b5 : Blk W5 V3.heap.size 54 #[.string q.name, .slice o9 P k9, .int .i64 da, .string dp, .string dq, .int .i64 dn, .slice o10 e10 k10] := by rw [← hW5]; exact HB8.out
            have hb5 : Below w.heap.size w W5 := by rw [← hW5]; exact below_drewN HB4.out _
            have HB5 := Lib.hid b5
            have HW5 := Lib.hid hb5
            have HP0 := Lib.hid (Nat.zero_le P)
            clear hW5 b5 hb5 HB8 HB4 HV4 c8 f1
            go_wp2
            go_loopw [13] (fun i wr => ∃ l : Nat, i = .int .i64 (l : Nat) ∧ Hid (l ≤ P) ∧ Hid (∀ (i : Nat) (a b : GY), i < l → q.params[i]? = some a → x.params[i]? = some b → alikeY a b = true) ∧ Hid (Below W5.heap.size W5 wr)) (fun i _ => P - (RowKit.intOf i).toNat)
            case atStart => exact ⟨0, rfl, HP0, fun i a b h => by omega, Below.refl _ _⟩
            case round =>
              obtain ⟨l, rfl, HL, HUL, HR5⟩ := hrel
              clear HP0
              have c8 := (blkB HB5.out HR5.out).cell
              have hww := stepB HW5.out HR5.out (Nat.le_refl _)
              have HWW := Lib.hid hww
              have hoo := old_step H0.out hww
              have f1 := HE1.out wr hww
              by_cases hl : l < P
              · have hl' : ((l : Int) < (P : Int)) := by omega
                have hl0 : (0 : Int) ≤ (l : Int) := by omega
                have hwl := IntWalk.i64_in ((l : Int) + 1) ⟨by omega, by omega⟩
                have e0 := at0 (HC.out wr hww 0 _ rfl)
                obtain ⟨y, hy⟩ : ∃ y, q.params[l]? = some y := ⟨_, List.getElem?_eq_getElem (by rw [← HP.out]; exact hl)⟩
                obtain ⟨z, hz⟩ : ∃ z, x.params[l]? = some z := ⟨_, List.getElem?_eq_getElem (by rw [← HP'.out]; exact hl)⟩
                obtain ⟨g1, a0, a1, a2, a3, a4, rfl, hc1, hyy⟩ := HDP.out.at_ l hy
                obtain ⟨g2, b0, b1, b2, b3, b4, rfl, hc2, hzz⟩ := HXP.out.at_ l hz
                rw [Nat.zero_add] at hc1 hc2
                have HC1 := Lib.hid (mvc hoo hc1)
                have HC2 := Lib.hid (mvc hoo hc2)
                have HF := Lib.hid (fun W (hb : Below wr.heap.size wr W) => alikeR_any _ y z _ _ W (Nat.lt_succ_self _) (hyy.below (stepB hoo hb (Nat.le_refl _))) (hzz.below (stepB hoo hb (Nat.le_refl _))))
                have HYY := Lib.hid hy
                have HZZ := Lib.hid hz
                clear hc1 hc2 hyy hzz hy hz hww hoo
                go_wp2_with fail
                refine wp_region_still_tail 13 (by kernel_rfl) (by kernel_rfl) ?_
                simp only [List.take_succ_cons, List.take_zero, List.drop_succ_cons, List.drop_zero]
                iterate 4 still_step
                refine stillLoadG 34 5 size5 Try.underlying34 rfl _ rfl (g1.add (l * 5)) rfl HC1.out rfl ?_
                iterate 7 still_step
                refine stillLoadG 34 5 size5 Try.underlying34 rfl _ rfl (g2.add (l * 5)) rfl HC2.out rfl ?_
                refine wpStill_nil ?_
                change wpList _ _ _ _ _ wr.drew
                go_wp2_with fail
                refine (HF.out _ (Below.refl _ _).drew).mono ?_
                rintro e w6 ⟨rfl, hb⟩
                have HR6 := Lib.hid (stepB HR5.out (undrewY hb) (Nat.le_refl _))
                cases hal : alikeY y z with
                | false =>
                  have HQ : Hid (R = false) := HNOT.out x HXI.out (by rw [HOK.out, alikes_not HYY.out HZZ.out hal]; rfl)
                  clear hb HC1 HC2 HF c8 f1 e0 hal
                  go_wp2
                  go_ret
                  rw [HQ.out]
                  exact ⟨rfl, stepB HW5.out HR6.out (Nat.le_refl _)⟩
                | true =>
                  have HU2 : Hid (∀ (i : Nat) (a b : GY), i < l + 1 → q.params[i]? = some a → x.params[i]? = some b → alikeY a b = true) := fun i a b hi hx hy => by
                    by_cases e : i < l
                    · exact HUL.out i a b e hx hy
                    · obtain rfl : i = l := by omega
                      rw [HYY.out] at hx
                      rw [HZZ.out] at hy
                      cases hx; cases hy
                      exact hal
                  clear hb HC1 HC2 HF c8 f1 e0 hal
                  go_wp2
                  case roundEnd => exact ⟨⟨l + 1, by push_cast; rfl, hl, HU2, HR6⟩, by simp [RowKit.intOf]; omega⟩
              · have hl' : ¬ ((l : Int) < (P : Int)) := by omega
                have e2 := atS (HC.out wr hww 2 _ rfl)
                have e3 := atS (HC.out wr hww 3 _ rfl)
                have e4 := atS (HC.out wr hww 4 _ rfl)
                have e5 := atS (HC.out wr hww 5 _ rfl)
                have e6 := atS (HC.out wr hww 6 _ rfl)
                have HOK2 : Hid (okM MT x = alikeY q.result x.result) := by
                  rw [HOK.out, alikes_all (HP.out.symm.trans HP'.out) fun i a b hx hy => HUL.out i a b (by have h1 := (List.getElem?_eq_some_iff.1 hx).1; rw [← HP.out] at h1; omega) hx hy]
                  exact Bool.true_and _
                have HF := Lib.hid (fun W (hb : Below wr.heap.size wr W) => alikeR_any _ q.result x.result _ _ W (Nat.lt_succ_self _) (HDR.out.below (stepB hoo hb (Nat.le_refl _))) (HXR.out.below (stepB hoo hb (Nat.le_refl _))))
                clear hl hww hoo HOK f1
                go_wp2_with fail
                refine wp_region_still_tail 7 (by kernel_rfl) (by kernel_rfl) ?_
                simp only [List.take_succ_cons, List.take_zero, List.drop_succ_cons, List.drop_zero]
                iterate 7 still_step
                refine wpStill_nil ?_
                change wpList _ _ _ _ _ wr.drew
                go_wp2_with fail
                refine (HF.out _ (Below.refl _ _).drew).mono ?_
                rintro e w6 ⟨rfl, hb⟩
                have HR6 := Lib.hid (stepB HWW.out (undrewY hb) (Nat.le_refl _))
                cases hal : alikeY q.result x.result with
                | false =>
                  have HQ : Hid (R = false) := HNOT.out x HXI.out (by rw [HOK2.out, hal])
                  clear hb HF c8 e2 e3 e4 e5 e6 hal
                  go_wp2
                  go_ret
                  rw [HQ.out]
                  exact ⟨rfl, HR6.out⟩
                | true =>
                  have HU2 : Hid (∀ (i : Nat) (m : MD), i < j + 1 → MI[i]? = some m → okM MT m = true) := fun i m hi hx => by
                    by_cases e : i < j
                    · exact HU.out i m e hx
                    · obtain rfl : i = j := by omega
                      rw [HXJ.out] at hx
                      cases hx
                      rw [HOK2.out, hal]
                  clear hb HF c8 e2 e3 e4 e5 e6 hal
                  go_wp2
                  case roundEnd => exact ⟨⟨j + 1, by push_cast; rfl, hj, HU2, HR6⟩, by simp [RowKit.intOf]; omega⟩
          · have HQ : Hid (R = false) := HNOT.out x HXI.out (by rw [HOK.out, alikes_ne (by rw [← HP.out, ← HP'.out]; exact hPP)]; rfl)
            have hnb : ((P : Int) != (P' : Int)) = true := by simpa using fun e => hPP (by omega)
            clear hPP HOK
            go_wp2_with fail
            rw [HV4.out]
            go_quiet (fail)
            go_wp2
            go_ret
            rw [HQ.out]
            exact ⟨rfl, below_drewN HB4.out _⟩
      · have hj' : ¬ ((j : Int) < (N : Int)) := by omega
        have HQ : Hid (R = true) := HALL.out HBI.out fun j m hm => HU.out j m (by have h1 := (List.getElem?_eq_some_iff.1 hm).1; rw [← HN.out] at h1; omega) hm
        clear hj
        go_wp2
        go_ret
        rw [HQ.out]
        exact ⟨rfl, HR.out⟩
set_option maxRecDepth 100000 in
set_option maxHeartbeats 8000000 in
theorem assignR_any (s : SCP) (t i : GY) (c : List Value) (v u : Value) (w0 w : World) (h : IsSc w0 s c) (ht : IsY w0 t v) (hi : IsY w0 i u) (h0 : Below w0.heap.size w0 w) :
    Calls Try.prog 33 #[.agg c.toArray, v, u] w fun e w' => e = .returned (.bool (assignS s t i)) ∧ Below w.heap.size w w' := by
  have HA := Lib.hid (fun W (hb : Below w.heap.size w W) => alikeR_any _ t i v u W (Nat.lt_succ_self _) (ht.below (old_step h0 hb)) (hi.below (old_step h0 hb)))
  have HM := Lib.hid (fun W (hb : Below w.heap.size w W) => meetsR_any s t i c v u w0 W h ht hi (old_step h0 hb))
  obtain ⟨o, o1, o2, o3, o4, k, n1, k1, n2, k2, k3, n4, k4, rfl, _⟩ := h
  obtain ⟨tk, tp, tq, tn, ta⟩ := t
  obtain ⟨ik, ip, iq, inn, ia⟩ := i
  obtain ⟨o5, k5, rfl, _⟩ := ht.parts
  obtain ⟨o6, k6, rfl, _⟩ := hi.parts
  have HD : Hid (assignS s (.mk tk tp tq tn ta) (.mk ik ip iq inn ia) = (!decide (tk = 7) && !decide (ik = 7) && (alikeY (.mk tk tp tq tn ta) (.mk ik ip iq inn ia) || meetsS s (.mk tk tp tq tn ta) (.mk ik ip iq inn ia)))) := rfl
  generalize assignS s (.mk tk tp tq tn ta) (.mk ik ip iq inn ia) = R at *
  generalize meetsS s (.mk tk tp tq tn ta) (.mk ik ip iq inn ia) = BM at *
  generalize alikeY (.mk tk tp tq tn ta) (.mk ik ip iq inn ia) = BA at *
  generalize s.W.length = nW at *
  generalize s.bounds.length = nbd at *
  generalize ta.length = na at *
  generalize ia.length = nb at *
  obtain ⟨W2, hW2, HBX⟩ := bx3 w #[.slice o nW k, .slice o1 n1 k1, .slice o2 n2 k2, .slice o3 nbd k3, .slice o4 n4 k4] #[.int .i64 tk, .string tp, .string tq, .int .i64 tn, .slice o5 na k5] #[.int .i64 ik, .string ip, .string iq, .int .i64 inn, .slice o6 nb k6] 32 34 34
  have hb1 := HBX.out.2.1
  rw [← hW2] at hb1
  have HB1 := Lib.hid hb1
  have HW2 := Lib.hid hW2
  clear ht hi h0 hW2 hb1
  by_cases h7 : tk = 7
  · subst h7
    have HQ : Hid (R = false) := HD.out
    go_enter Try.func33, Try.ntmps33
    go_wp2
    go_ret
    rw [HQ.out]
    exact ⟨rfl, HB1.out⟩
  · have h7b : (tk == 7) = false := by simpa using h7
    by_cases h8 : ik = 7
    · subst h8
      have HQ : Hid (R = false) := by show _ = _; rw [HD.out]; simp
      clear h7
      go_enter Try.func33, Try.ntmps33
      go_wp2
      go_ret
      rw [HQ.out]
      exact ⟨rfl, HB1.out⟩
    · have h8b : (ik == 7) = false := by simpa using h8
      have HD2 : Hid (R = (BA || BM)) := by rw [HD.out, decide_eq_false h7, decide_eq_false h8]; rfl
      clear h7 h8 HD
      go_enter Try.func33, Try.ntmps33
      go_wp2_with fail
      refine (HA.out _ HB1.out).mono ?_
      rintro e V ⟨rfl, hb⟩
      have hb2 := hb
      rw [HW2.out] at hb2
      have HV := Lib.hid (HBX.out.below hb2)
      have c0 := (HBX.out.at_ hb2 0 rfl).cell
      have c1 := (HBX.out.at_ hb2 1 rfl).cell
      have c2 := (HBX.out.at_ hb2 2 rfl).cell
      rw [Nat.add_zero] at c0
      clear hb hb2
      cases BA with
      | true =>
        have HQ : Hid (R = true) := HD2.out
        go_wp2
        go_ret
        rw [HQ.out]
        exact ⟨rfl, HV.out⟩
      | false =>
        have HQ : Hid (R = BM) := HD2.out
        go_wp2_with fail
        refine (HM.out _ HV.out).mono ?_
        rintro e V2 ⟨rfl, hb⟩
        have HV2 := Lib.hid (stepB HV.out hb (Nat.le_refl _))
        clear hb
        go_wp2
        go_ret
        rw [HQ.out]
        exact ⟨rfl, HV2.out⟩
end Go.Proofs.Ytlakmniaocpaaaa
namespace Go.Proofs.Ytlakmniaocpaaaa
open Go.RowKit
open Go.Lib hiding intOf
theorem cnt_snoc : ∀ (l : List GY) (x : GY), cntYs (l ++ [x]) = cntYs l + cntY x
  | [], x => by rw [List.nil_append]; simp only [cntYs]; omega
  | a :: r, x => by rw [List.cons_append, cntYs, cntYs, cnt_snoc r x]; omega
set_option maxRecDepth 100000 in
set_option maxHeartbeats 8000000 in
theorem parts12_any : ∀ (s : Nat) (x : GY) (v : Value) (q : Int) (w : World), SizeOf.sizeOf x < s → IsY w x v → 0 ≤ q → q ≤ 60 →
    Calls Try.prog 16 #[v, .int .i64 q] w fun e w' => (∃ m : Int, e = .returned (.int .i64 m) ∧ q < m ∧ m ≤ 61 ∧ (m ≤ 60 → m = q + (cntY x : Int))) ∧ Below w.heap.size w w' := by
  intro s
  induction s with
  | zero => intro x v q w h; omega
  | succ s ih =>
  rintro ⟨k, p, m, n, l⟩ v q w hs hv hq0 hq1
  obtain ⟨o, c, rfl, hl, hc, ha⟩ := hv.parts
  have hq : l.length ≤ 9223372036854775807 := by unfold maxLen at hc; omega
  have HI : Hid (∀ z ∈ l, ∀ (v : Value) (q : Int) (W : World), IsY W z v → 0 ≤ q → q ≤ 60 → Calls Try.prog 16 #[v, .int .i64 q] W fun e W' => (∃ m : Int, e = .returned (.int .i64 m) ∧ q < m ∧ m ≤ 61 ∧ (m ≤ 60 → m = q + (cntY z : Int))) ∧ Below W.heap.size W W') :=
    fun z hz v q W hv => ih z v q W (by have := List.sizeOf_lt_of_mem hz; simp at hs; omega) hv
  have HX := Lib.hid ha
  clear ih hv ha hl hc hs
  obtain ⟨N, hN⟩ : ∃ N, l.length = N := ⟨_, rfl⟩
  rw [hN] at hq ⊢
  have HN := Lib.hid hN
  clear hN
  obtain ⟨W2, hW2, HBX⟩ := bx1 w #[.int .i64 k, .string p, .string m, .int .i64 n, .slice o N c] 34
  have HW2 := Lib.hid hW2
  have HB0 := Lib.hid (Nat.zero_le N)
  have hwq := IntWalk.i64_in (q + 1) ⟨by omega, by omega⟩
  have HQ : Hid (q < q + 1 ∧ q + 1 ≤ 61 ∧ (q + 1 ≤ 60 → q + 1 = q + 1 + (cntYs (l.take 0) : Int))) := ⟨by omega, by omega, fun _ => by rw [List.take_zero, cntYs]; simp⟩
  have HCN : Hid (cntY (.mk k p m n l) = 1 + cntYs l) := by show _ = _; rw [cntY]
  clear hW2
  go_enter Try.func16, Try.ntmps16
  go_wp2
  rw [HW2.out]
  go_loopw [5, 1] (fun i t wr => ∃ (j : Nat) (r : Int), i = .int .i64 (j : Nat) ∧ t = .int .i64 r ∧ Hid (j ≤ N) ∧ Hid (q < r ∧ r ≤ 61 ∧ (r ≤ 60 → r = q + 1 + (cntYs (l.take j) : Int))) ∧ Hid (Below W2.heap.size W2 wr)) (fun i _ _ => N - (RowKit.intOf i).toNat)
  case atStart => exact ⟨0, _, rfl, rfl, HB0, HQ, Below.refl _ _⟩
  case round =>
    obtain ⟨j, r, rfl, rfl, HJ, HRR, HR⟩ := hrel
    clear HB0 HW2 HQ hwq
    have c4 : wr.cell? ⟨w.heap.size, 4, none⟩ = some (.slice o N c) := (HBX.out.at_ HR.out 0 rfl).cell 4
    have hww := HBX.out.below HR.out
    have HWW := Lib.hid hww
    by_cases hj : j < N
    · have hj' : ((j : Int) < (N : Int)) := by omega
      have hj0 : (0 : Int) ≤ (j : Int) := by omega
      have hwj := IntWalk.i64_in ((j : Int) + 1) ⟨by omega, by omega⟩
      by_cases hr : r ≤ 60
      · obtain ⟨x, hx⟩ : ∃ x, l[j]? = some x := ⟨_, List.getElem?_eq_getElem (by rw [HN.out]; exact hj)⟩
        have hmem := List.mem_of_getElem? hx
        obtain ⟨a, a0, a1, a2, a3, a4, rfl, hc, hyx⟩ := HX.out.at_ j hx
        rw [Nat.zero_add] at hc
        have HC := Lib.hid (mvc hww hc)
        have HTK : Hid (l.take (j + 1) = l.take j ++ [x]) := by show _ = _; rw [List.take_add_one, hx]; rfl
        have HF := Lib.hid (HI.out x hmem _ r wr (hyx.below hww) (by have := HRR.out.1; omega) hr)
        have e0 := at0 (HC.out 0 _ rfl)
        have e1 := atS (HC.out 1 _ rfl)
        have e2 := atS (HC.out 2 _ rfl)
        have e3 := atS (HC.out 3 _ rfl)
        have e4 := atS (HC.out 4 _ rfl)
        clear hc hyx hmem hww hx
        go_wp2_with fail
        refine HF.out.mono ?_
        rintro e w5 ⟨⟨r2, rfl, h1, h2, h3⟩, hb⟩
        have HR5 := Lib.hid (stepB HR.out hb (Nat.le_refl _))
        have HR2 : Hid (q < r2 ∧ r2 ≤ 61 ∧ (r2 ≤ 60 → r2 = q + 1 + (cntYs (l.take (j + 1)) : Int))) := ⟨by have := HRR.out.1; omega, h2, fun h => by
          have e := HRR.out.2.2 hr
          have e2 := h3 h
          rw [HTK.out, cnt_snoc]
          push_cast
          omega⟩
        clear hb HC HF h1 h2 h3 e0 e1 e2 e3 e4 c4
        go_wp2
        case roundEnd => exact ⟨⟨j + 1, r2, by push_cast; rfl, rfl, hj, HR2, HR5⟩, by simp [RowKit.intOf]; omega⟩
      · have hr' : ¬ r ≤ 60 := hr
        clear hww
        go_wp2
        go_ret
        exact ⟨⟨r, rfl, HRR.out.1, HRR.out.2.1, fun h => by omega⟩, HWW.out⟩
    · have hj' : ¬ ((j : Int) < (N : Int)) := by omega
      clear hj hww
      go_wp2
      go_ret
      exact ⟨⟨r, rfl, HRR.out.1, HRR.out.2.1, fun h => by
        have e := HRR.out.2.2 h
        rw [List.take_of_length_le (by have := HN.out; have := HJ.out; omega)] at e
        rw [HCN.out]
        push_cast
        omega⟩, HWW.out⟩
/-- Few, and small. -/
def Sml (l : List GY) : Prop := l.length ≤ 20 ∧ ∀ x ∈ l, cntY x ≤ 60
def IsBL (l : List GY) (e : Ending) : Prop := ∃ b, e = .returned (.bool b) ∧ (b = true → Sml l)
set_option maxRecDepth 100000 in
set_option maxHeartbeats 8000000 in
theorem small12_any (l : List GY) (o : Option Addr) (c : Nat) (w0 w : World) (hl : IsYs w0 o 0 l) (hq : l.length ≤ 9223372036854775807) (h0 : Below w0.heap.size w0 w) :
    Calls Try.prog 11 #[.slice o l.length c] w fun e w' => IsBL l e ∧ Below w.heap.size w w' := by
  have HX := Lib.hid hl
  have H0 := Lib.hid h0
  obtain ⟨N, hN⟩ : ∃ N, l.length = N := ⟨_, rfl⟩
  rw [hN] at hq ⊢
  have HN := Lib.hid hN
  have HBR := Lib.hid (Below.refl w.heap.size w)
  clear hl h0 hN
  by_cases h20 : (N : Int) > 20
  · go_enter Try.func11, Try.ntmps11
    go_wp2
    go_ret
    exact ⟨⟨_, rfl, fun h => nomatch h⟩, HBR.out⟩
  have HB0 := Lib.hid (Nat.zero_le N)
  have HU0 : Hid (∀ (i : Nat) (x : GY), i < 0 → l[i]? = some x → cntY x ≤ 60) := fun i x h => by omega
  go_enter Try.func11, Try.ntmps11
  go_wp2
  go_loopw [3] (fun i wr => ∃ j : Nat, i = .int .i64 (j : Nat) ∧ Hid (j ≤ N) ∧ Hid (∀ (i : Nat) (x : GY), i < j → l[i]? = some x → cntY x ≤ 60) ∧ Hid (Below w.heap.size w wr)) (fun i _ => N - (RowKit.intOf i).toNat)
  case atStart => exact ⟨0, rfl, HB0, HU0, HBR⟩
  case round =>
    obtain ⟨j, rfl, HJ, HU, HR⟩ := hrel
    clear HB0 HU0
    by_cases hj : j < N
    · have hj' : ((j : Int) < (N : Int)) := by omega
      have hj0 : (0 : Int) ≤ (j : Int) := by omega
      have hwj := IntWalk.i64_in ((j : Int) + 1) ⟨by omega, by omega⟩
      obtain ⟨x, hx⟩ : ∃ x, l[j]? = some x := ⟨_, List.getElem?_eq_getElem (by rw [HN.out]; exact hj)⟩
      obtain ⟨a, a0, a1, a2, a3, a4, rfl, hc, hyx⟩ := HX.out.at_ j hx
      rw [Nat.zero_add] at hc
      have hww := old_step H0.out HR.out
      have HC := Lib.hid (mvc hww hc)
      have HF := Lib.hid (parts12_any _ x _ 0 wr (Nat.lt_succ_self _) (hyx.below hww) (Int.le_refl _) (by decide))
      have HXX := Lib.hid hx
      clear hc hyx hww hx
      go_wp2_with (refine boxLoadG 34 5 size5 Try.underlying34 rfl _ rfl (a.add (j * 5)) rfl HC.out rfl ?_)
      refine HF.out.mono ?_
      rintro e w5 ⟨⟨r2, rfl, h1, h2, h3⟩, hb⟩
      have HR5 := Lib.hid (stepB HR.out hb (Nat.le_refl _))
      by_cases h60 : r2 > 60
      · clear hb HC HF h1 h2 h3
        go_wp2
        go_ret
        exact ⟨⟨_, rfl, fun h => nomatch h⟩, HR5.out⟩
      · have hcn : cntY x ≤ 60 := by have := h3 (by omega); omega
        have HU2 : Hid (∀ (i : Nat) (x : GY), i < j + 1 → l[i]? = some x → cntY x ≤ 60) := fun i z hi hz => by
          by_cases e : i < j
          · exact HU.out i z e hz
          · obtain rfl : i = j := by omega
            have hx := HXX.out
            rw [hx] at hz
            cases hz
            exact hcn
        clear hb HC HF h1 h2 h3 hcn
        go_wp2
        case roundEnd => exact ⟨⟨j + 1, by push_cast; rfl, hj, HU2, HR5⟩, by simp [RowKit.intOf]; omega⟩
    · have hj' : ¬ ((j : Int) < (N : Int)) := by omega
      have HQ : Hid (Sml l) := ⟨by rw [HN.out]; omega, fun x hx => by
        obtain ⟨i, hi⟩ := List.getElem?_of_mem hx
        exact HU.out i x (by have := (List.getElem?_eq_some_iff.1 hi).1; rw [HN.out] at this; omega) hi⟩
      clear hj
      go_wp2
      go_ret
      exact ⟨⟨_, rfl, fun _ => HQ.out⟩, HR.out⟩
end Go.Proofs.Ytlakmniaocpaaaa
namespace Go.Proofs.Ytlakmniaocpaaaa
open Go.RowKit
open Go.Lib hiding intOf
def IsBB (e : Ending) : Prop := ∃ b, e = .returned (.bool b)
set_option maxRecDepth 100000 in
set_option maxHeartbeats 16000000 in
theorem little_any (s : SCP) (c : List Value) (w0 w : World) (h : IsSc w0 s c) (h0 : Below w0.heap.size w0 w) :
    Calls Try.prog 15 #[.agg c.toArray] w fun e w' => IsBB e ∧ Below w.heap.size w w' := by
  obtain ⟨o, o1, o2, o3, o4, k, n1, k1, n2, k2, k3, n4, k4, rfl, hlw, hkw, hlb, hkb, hrow, _⟩ := h
  have hq : s.W.length ≤ 9223372036854775807 := by unfold maxLen at hkw; omega
  have hqb : s.bounds.length ≤ 9223372036854775807 := by unfold maxLen at hkb; omega
  generalize s.bounds.length = nb at *
  obtain ⟨N, hN⟩ : ∃ N, s.W.length = N := ⟨_, rfl⟩
  rw [hN] at hq ⊢
  have HN := Lib.hid hN
  have HR := Lib.hid hrow
  have H0 := Lib.hid h0
  obtain ⟨W2, hW2, HBX⟩ := bx1 w #[.slice o N k, .slice o1 n1 k1, .slice o2 n2 k2, .slice o3 nb k3, .slice o4 n4 k4] 32
  have hb1 := HBX.out.2.1
  rw [← hW2] at hb1
  have HB1 := Lib.hid hb1
  have HW2 := Lib.hid hW2
  have HB0 := Lib.hid (Nat.zero_le N)
  clear hb1 hW2 hlw hkw hlb hkb hrow h0 hN
  by_cases h20 : (N : Int) > 20
  · go_enter Try.func15, Try.ntmps15
    go_wp2
    go_ret
    exact ⟨⟨_, rfl⟩, HB1.out⟩
  by_cases h21 : (nb : Int) > 20
  · go_enter Try.func15, Try.ntmps15
    go_wp2
    go_ret
    exact ⟨⟨_, rfl⟩, HB1.out⟩
  go_enter Try.func15, Try.ntmps15
  go_wp2
  rw [HW2.out]
  go_loopw [3] (fun i wr => ∃ j : Nat, i = .int .i64 (j : Nat) ∧ Hid (j ≤ N) ∧ Hid (Below W2.heap.size W2 wr)) (fun i _ => N - (RowKit.intOf i).toNat)
  case atStart => exact ⟨0, rfl, HB0, Below.refl _ _⟩
  case round =>
    obtain ⟨j, rfl, HJ, HB⟩ := hrel
    clear HB0 HW2 HB1
    have c0 := (HBX.out.at_ HB.out 0 rfl).cell
    rw [Nat.add_zero] at c0
    have hww := HBX.out.below HB.out
    have HWW := Lib.hid hww
    by_cases hj : j < N
    · have hj' : ((j : Int) < (N : Int)) := by omega
      have hj0 : (0 : Int) ≤ (j : Int) := by omega
      have hwj := IntWalk.i64_in ((j : Int) + 1) ⟨by omega, by omega⟩
      obtain ⟨p, hp⟩ : ∃ p, s.W[j]? = some p := ⟨_, List.getElem?_eq_getElem (by rw [HN.out]; exact hj)⟩
      obtain ⟨a, cp, rfl, _, hc, hpp⟩ := HR.out j p hp
      obtain ⟨oT, oF, kT, nF, kF, rfl, hlT, hkT, hT⟩ := hpp
      have HC := Lib.hid (fun (W : World) (hb : Below w.heap.size w W) => mvc (old_step H0.out hb) hc)
      have HT := Lib.hid hT
      have hqT : p.types.length ≤ 9223372036854775807 := by unfold maxLen at hkT; omega
      obtain ⟨M, hM⟩ : ∃ M, p.types.length = M := ⟨_, rfl⟩
      rw [hM] at hqT HC
      have HM := Lib.hid hM
      have HM0 := Lib.hid (Nat.zero_le M)
      have e1 := atS (HC.out wr hww 1 _ rfl)
      clear hp hc hlT hkT hT hM hww
      by_cases h30 : (M : Int) > 30
      · go_wp2
        go_ret
        exact ⟨⟨_, rfl⟩, HWW.out⟩
      · go_wp2
        go_loopw [4] (fun i wr => ∃ q : Nat, i = .int .i64 (q : Nat) ∧ Hid (q ≤ M) ∧ Hid (Below W2.heap.size W2 wr)) (fun i _ => M - (RowKit.intOf i).toNat)
        case atStart => exact ⟨0, rfl, HM0, HB⟩
        case round =>
          obtain ⟨q, rfl, HQ, HB2⟩ := hrel
          clear HM0 c0 e1
          have c0 := (HBX.out.at_ HB2.out 0 rfl).cell
          rw [Nat.add_zero] at c0
          have hww := HBX.out.below HB2.out
          have HWW2 := Lib.hid hww
          have e1 := atS (HC.out wr hww 1 _ rfl)
          by_cases hqm : q < M
          · have hq' : ((q : Int) < (M : Int)) := by omega
            have hq0 : (0 : Int) ≤ (q : Int) := by omega
            have hwq := IntWalk.i64_in ((q : Int) + 1) ⟨by omega, by omega⟩
            obtain ⟨d, hd⟩ : ∃ d, p.types[q]? = some d := ⟨_, List.getElem?_eq_getElem (by rw [HM.out]; exact hqm)⟩
            obtain ⟨b, cd, rfl, _, hcd, hdd⟩ := HT.out q d hd
            obtain ⟨od, oe, kd, ke, rfl, _, hkd, _, hke, _, hme⟩ := hdd
            have hcd := mvc (old_step H0.out hww) hcd
            have d3 := atS (hcd 3 _ rfl)
            have HME := Lib.hid hme
            have hqe : d.meths.length ≤ 9223372036854775807 := by unfold maxLen at hke; omega
            obtain ⟨E, hE⟩ : ∃ E, d.meths.length = E := ⟨_, rfl⟩
            rw [hE] at hqe d3
            have HE := Lib.hid hE
            have HE0 := Lib.hid (Nat.zero_le E)
            clear hd hcd hkd hke hme hE hww
            by_cases h31 : (E : Int) > 20
            · go_wp2
              go_ret
              exact ⟨⟨_, rfl⟩, HWW2.out⟩
            go_wp2
            clear c0 e1 d3
            go_loopw [6] (fun i wr' => ∃ r : Nat, i = .int .i64 (r : Nat) ∧ Hid (r ≤ E) ∧ Hid (Below W2.heap.size W2 wr')) (fun i _ => E - (RowKit.intOf i).toNat)
            case atStart => exact ⟨0, rfl, HE0, HB2⟩
            case round =>
              obtain ⟨r, rfl, HRR, HB4⟩ := hrel
              clear HE0
              have hww := HBX.out.below HB4.out
              have HWW5 := Lib.hid hww
              by_cases hre : r < E
              · have hr' : ((r : Int) < (E : Int)) := by omega
                have hr0 : (0 : Int) ≤ (r : Int) := by omega
                have hwr := IntWalk.i64_in ((r : Int) + 1) ⟨by omega, by omega⟩
                obtain ⟨m, hm⟩ : ∃ m, d.meths[r]? = some m := ⟨_, List.getElem?_eq_getElem (by rw [HE.out]; exact hre)⟩
                obtain ⟨f, cm, rfl, _, hcm, hmm⟩ := HME.out r m hm
                obtain ⟨op, kp, r0, r1, r2, r3, r4, rfl, hlp, hkp, hpr, hrs⟩ := hmm
                obtain ⟨ra, rn, rp, rq, ro, re, rk, hv⟩ := hrs.expl
                simp only [Value.agg.injEq, Array.mk.injEq, List.cons.injEq, and_true] at hv
                obtain ⟨rfl, rfl, rfl, rfl, rfl⟩ := hv
                have h0w := old_step H0.out hww
                have hcc := mvc h0w hcm
                have f1 := atS (hcc 1 _ rfl)
                have HCM := Lib.hid (fun (W : World) (hb : Below wr.heap.size wr W) => mvc hb hcc)
                have HS := Lib.hid (small12_any m.params op kp w0 wr hpr (by unfold maxLen at hkp; omega) h0w)
                have HP := Lib.hid (fun W (hb : Below wr.heap.size wr W) => parts12_any _ m.result _ 0 W (Nat.lt_succ_self _) (hrs.below (old_step h0w hb)) (Int.le_refl _) (by decide))
                generalize m.params.length = np at *
                clear hm hcm hlp hkp hpr hrs h0w hcc hww
                go_wp2_with fail
                refine HS.out.mono ?_
                rintro e w5 ⟨⟨bb, rfl, _⟩, hb⟩
                have hb5 := stepB HB4.out hb (Nat.le_refl _)
                have HB5 := Lib.hid hb5
                have HW5 := Lib.hid (HBX.out.below hb5)
                cases bb with
                | false =>
                  clear hb hb5 HS HP HCM f1
                  go_wp2
                  go_ret
                  exact ⟨⟨_, rfl⟩, HW5.out⟩
                | true =>
                  have g2 := atS (HCM.out w5 hb 2 _ rfl)
                  have g3 := atS (HCM.out w5 hb 3 _ rfl)
                  have g4 := atS (HCM.out w5 hb 4 _ rfl)
                  have g5 := atS (HCM.out w5 hb 5 _ rfl)
                  have g6 := atS (HCM.out w5 hb 6 _ rfl)
                  have HP5 := Lib.hid (HP.out w5 hb)
                  clear hb hb5 HS HP HCM f1
                  go_wp2_with fail
                  refine HP5.out.mono ?_
                  rintro e w6 ⟨⟨mm, rfl, _, _⟩, hb⟩
                  have HB6 := Lib.hid (stepB HB5.out hb (Nat.le_refl _))
                  by_cases h60 : mm > 60
                  · clear hb g2 g3 g4 g5 g6 HP5
                    go_wp2
                    go_ret
                    exact ⟨⟨_, rfl⟩, HBX.out.below HB6.out⟩
                  · clear hb g2 g3 g4 g5 g6 HP5
                    go_wp2
                    case roundEnd => exact ⟨⟨r + 1, by push_cast; rfl, hre, HB6⟩, by simp [RowKit.intOf]; omega⟩
              · have hr' : ¬ ((r : Int) < (E : Int)) := by omega
                clear hre hww
                go_wp2
                case roundEnd => exact ⟨⟨q + 1, by push_cast; rfl, hqm, HB4⟩, by simp [RowKit.intOf]; omega⟩
          · have hq' : ¬ ((q : Int) < (M : Int)) := by omega
            clear hqm hww
            go_wp2
            case roundEnd => exact ⟨⟨j + 1, by push_cast; rfl, hj, HB2⟩, by simp [RowKit.intOf]; omega⟩
    · have hj' : ¬ ((j : Int) < (N : Int)) := by omega
      clear hj hww
      go_wp2
      go_ret
      exact ⟨⟨_, rfl⟩, HWW.out⟩
end Go.Proofs.Ytlakmniaocpaaaa
