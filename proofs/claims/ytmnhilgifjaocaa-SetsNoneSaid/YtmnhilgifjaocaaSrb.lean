/-
  What a type is declared to be: the document's answer. No condition.
-/
import Derived.Test.YtmnhilgifjaocaaSra
import Derived.Deep.RegionHeld3
import Derived.WalkSmall
namespace Go.Proofs.Ytmnhilgifjaocaa
open Go.RowKit
open Go.Lib hiding intOf

set_option maxRecDepth 100000 in
set_option maxHeartbeats 8000000 in
theorem findR_any (s : SCP) (t : GY) (c : List Value) (v : Value) (w0 w : World) (h : IsSc w0 s c) (ht : IsY w0 t v) (h0 : Below w0.heap.size w0 w) :
    Calls Try.prog 12 #[.agg c.toArray, v] w fun e w' => ∃ d, e = .returned (.tuple #[.agg d.toArray, .bool (findS s.W t).isSome]) ∧ IsTd w0 ((findS s.W t).getD zeroD) d ∧ Below w.heap.size w w' := by
  obtain ⟨o, o1, o2, o3, o4, k, n1, k1, n2, k2, k3, n4, k4, rfl, hl, hk, _, _, hrow, _⟩ := h
  obtain ⟨W, bs⟩ := s
  obtain ⟨tk, tp, tm, tn, ta⟩ := t
  obtain ⟨o5, k5, rfl, _⟩ := ht.parts
  dsimp only at hl hrow ⊢
  have hq : W.length ≤ 9223372036854775807 := by unfold maxLen at hk; omega
  obtain ⟨N, hN⟩ : ∃ N, W.length = N := ⟨_, rfl⟩
  generalize bs.length = nb
  generalize ta.length = na
  rw [hN] at hq ⊢
  obtain ⟨W2, hW2, HBX⟩ := bx3 w #[.slice o N k, .slice o1 n1 k1, .slice o2 n2 k2, .slice o3 nb k3, .slice o4 n4 k4] #[.int .i64 tk, .string tp, .string tm, .int .i64 tn, .slice o5 na k5] #[.string noB, .bool false, .slice none 0 0, .slice none 0 0] 27 29 35
  have HW2 := Lib.hid hW2
  have HN := Lib.hid hN
  have HR := Lib.hid hrow
  have H0 := Lib.hid h0
  have HB0 := Lib.hid (Nat.zero_le N)
  have HD : Hid (findS W (.mk tk tp tm tn ta) = if tk = 4 then (W.find? fun p => decide (p.pkg = tp)).bind fun p => declI p tm else none) := rfl
  have HU0 : Hid (∀ i (x : IF), i < 0 → W[i]? = some x → decide (x.pkg = tp) = false) := fun i x hi => by omega
  clear hl hk hrow hW2 hN ht h0
  generalize findS W (.mk tk tp tm tn ta) = R at *
  by_cases hk : tk = 4
  · have HD1 : Hid (R = (W.find? fun p => decide (p.pkg = tp)).bind fun p => declI p tm) := HD.out.trans (if_pos hk)
    clear HD
    subst hk
    go_enter Try.func12, Try.ntmps12
    go_wp2
    rw [HW2.out]
    go_loopw [6] (fun i wr => ∃ j : Nat, i = .int .i64 (j : Nat) ∧ Hid (j ≤ N) ∧ Hid (∀ i (x : IF), i < j → W[i]? = some x → decide (x.pkg = tp) = false) ∧ Hid (Below W2.heap.size W2 wr)) (fun i _ => N - (RowKit.intOf i).toNat)
    case atStart => exact ⟨0, rfl, HB0, HU0, Below.refl _ _⟩
    case round =>
      obtain ⟨j, rfl, HJ, HA, HB⟩ := hrel
      clear HB0 HW2 HU0
      have c0 : ∀ i, wr.cell? ⟨w.heap.size, i, none⟩ = _ := (HBX.out.at_ HB.out 0 rfl).cell
      have c1 : ∀ i, wr.cell? ⟨w.heap.size + 1, i, none⟩ = _ := (HBX.out.at_ HB.out 1 rfl).cell
      have c2 : ∀ i, wr.cell? ⟨w.heap.size + 2, i, none⟩ = _ := (HBX.out.at_ HB.out 2 rfl).cell
      have f2 : ∀ i, wr.frozen? ⟨w.heap.size + 2, i, none⟩ = false := (HBX.out.at_ HB.out 2 rfl).frozen
      by_cases hj : j < N
      · have hj' : ((j : Int) < (N : Int)) := by omega
        have hj0 : (0 : Int) ≤ (j : Int) := by omega
        have hwj := IntWalk.i64_in ((j : Int) + 1) ⟨by omega, by omega⟩
        obtain ⟨x, hx⟩ : ∃ x, W[j]? = some x := ⟨_, List.getElem?_eq_getElem (by rw [HN.out]; exact hj)⟩
        obtain ⟨a, c, rfl, hlc, hc, hyx⟩ := HR.out j x hx
        have hlt : (a.add (j * 3)).block < w.heap.size := Nat.lt_of_lt_of_le (World.block_lt_of_cell? _ _ (at0 (hc 0 _ (by obtain ⟨_, _, _, _, _, rfl, _⟩ := hyx; rfl)))) H0.out.size
        have hc := fun i u h => cells_below (H0.out.trans ((HBX.out.below HB.out).mono H0.out.size)) _ u (hc i u h)
        have HT := Lib.hid hyx
        obtain ⟨oT, oF, kT, nF, kF, rfl, _⟩ := hyx
        have e0 := at0 (hc 0 _ rfl)
        have HC := Lib.hid hc
        by_cases hm : x.pkg = tp
        · subst hm
          have HQ : Hid (R = declI x tm) := by
            exact HD1.out.trans (by rw [find_at hx (by simp) fun i y hi hy => HA.out i y hi hy]; rfl)
          have HCL := Lib.hid (fun V (hb : Below w.heap.size w V) => declR_any x tm _ w0 V HT.out (H0.out.trans (hb.mono H0.out.size)))
          clear hc hx
          go_wp2_with fail
          go_quiet (fail)
          go_wp2_with fail
          have na : ¬ (a.add (j * 3)).block = w.heap.size + 1 + 1 := by omega
          have s0 : wr.cell? ⟨w.heap.size, 0, none⟩ = some (.slice (some a) N k) := c0 0
          have s1 : wr.cell? ⟨w.heap.size + 1, 2, none⟩ = some (.string tm) := c1 2
          have e1 := atS (HC.out 1 _ rfl)
          have e2 := atS (HC.out 2 _ rfl)
          go_region_held3 (fun w' => w'.cell? ⟨w.heap.size, 0, none⟩ = some (.slice (some a) N k) ∧ w'.cell? ⟨w.heap.size + 1, 2, none⟩ = some (.string tm) ∧ w'.cell? (a.add (j * 3)) = some (.string x.pkg) ∧ w'.cell? ⟨(a.add (j * 3)).block, (a.add (j * 3)).off + 1, none⟩ = some (.slice oT x.types.length kT) ∧ w'.cell? ⟨(a.add (j * 3)).block, (a.add (j * 3)).off + 2, none⟩ = some (.slice oF nF kF))
            (refine ⟨?_, ?_, ?_, ?_, ?_⟩ <;> (first | with_reducible assumption | (simp [s0, s1, e0, e1, e2]; done) | (exact far4 (by with_reducible assumption) (by first | exact na | (simp only; omega))) | (trace_state; fail)))
            ((go_at_call 36; (have hw : Below wr.heap.size wr (wr.drewN (nq + 1)) := below_drewN (Below.refl _ _) _); refine (HCL.out _ (HBX.out.below (stepB HB.out hw (Nat.le_refl _)))).mono ?_; rintro e V ⟨d, rfl, hd, hb⟩; have HTD := Lib.hid hd; obtain ⟨od, oe, kd, ke, rfl, _⟩ := hd; have HV := Lib.hid (hw.trans hb); clear hw hb;
              have q0 := (HV.out.cell (World.block_lt_of_cell? _ _ s0)).trans s0; have q1 := (HV.out.cell (World.block_lt_of_cell? _ _ s1)).trans s1; have q2 := (HV.out.cell (World.block_lt_of_cell? _ _ e0)).trans e0; have q3 := (HV.out.cell (World.block_lt_of_cell? _ _ e1)).trans e1; have q4 := (HV.out.cell (World.block_lt_of_cell? _ _ e2)).trans e2; have c3 := (blkB (HBX.out.at_ HB.out 2 rfl) HV.out).cell; have f3 := (blkB (HBX.out.at_ HB.out 2 rfl) HV.out).frozen; clear c2 f2))
          all_goals go_wp2_with fail
          refine bodyPost_ret (v := .tuple #[.agg #[.string ((declI x tm).getD zeroD).name, .bool ((declI x tm).getD zeroD).strct, .slice od ((declI x tm).getD zeroD).fields.length kd, .slice oe ((declI x tm).getD zeroD).meths.length ke], .bool (declI x tm).isSome]) (by simp [results, Try.results12, go_sem, c3]) rfl ?_
          rw [HQ.out]
          have hb0 := (HBX.out.below (stepB HB.out HV.out (Nat.le_refl _)))
          exact ⟨_, rfl, HTD.out, below4 hb0 (by omega) _ _ _ _⟩
        · have hne := bytes_ne hm
          have HA2 : Hid (∀ i (y : IF), i < j + 1 → W[i]? = some y → decide (y.pkg = tp) = false) := fun i y hi hy => by
            by_cases e : i < j
            · exact HA.out i y e hy
            · obtain rfl : i = j := by omega
              rw [hx] at hy
              cases hy
              exact decide_eq_false hm
          clear hc hx hm HC HT
          go_wp2_with fail
          go_quiet (fail)
          go_wp2
          case roundEnd => exact ⟨⟨j + 1, by push_cast; rfl, hj, HA2, below_drewN HB.out _⟩, by simp [RowKit.intOf]; omega⟩
      · have hj' : ¬ ((j : Int) < (N : Int)) := by omega
        have HQ : Hid (R = none) := by
          exact HD1.out.trans (by rw [find_none fun i x hx => HA.out i x (by have := (List.getElem?_eq_some_iff.1 hx).1; have := HN.out; omega) hx]; rfl)
        clear hj
        go_wp2
        refine bodyPost_ret (v := .tuple #[.agg #[.string noB, .bool false, .slice none 0 0, .slice none 0 0], .bool false]) (by simp [results, Try.results12, go_sem, c2]) rfl ?_
        rw [HQ.out]
        have hb := below4 (g := w.heap.size + 2) (HBX.out.below HB.out) (Nat.le_add_right _ _) (.string noB) (.bool false) (.slice none 0 0) (.slice none 0 0)
        exact ⟨_, rfl, IsTd.zero, hb⟩
  · have hkb : (tk != 4) = true := by simpa using hk
    have HQ : Hid (R = none) := HD.out.trans (if_neg hk)
    have hb := HBX.out.2.1
    rw [← HW2.out] at hb
    have HBB := Lib.hid hb
    clear HBX HW2 hb
    go_enter Try.func12, Try.ntmps12
    go_wp2
    refine bodyPost_ret (v := .tuple #[.agg #[.string noB, .bool false, .slice none 0 0, .slice none 0 0], .bool false]) (by simp [results, Try.results12, go_sem]) rfl ?_
    rw [HQ.out]
    exact ⟨_, rfl, IsTd.zero, HBB.out⟩
end Go.Proofs.Ytmnhilgifjaocaa
