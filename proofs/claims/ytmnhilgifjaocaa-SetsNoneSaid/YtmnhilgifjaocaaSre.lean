/-
  A struct's field: the document's answer. No condition.
-/
import Derived.Test.YtmnhilgifjaocaaSrd
namespace Go.Proofs.Ytmnhilgifjaocaa
open Go.RowKit
open Go.Lib hiding intOf

theorem IsFd.expl {w : World} {f : ByteArray × GY} {c : List Value} (h : IsFd w f c) : ∃ (a n : Int) (p q : ByteArray) (o : Option Addr) (e k : Nat), c = [.string f.1, .int .i64 a, .string p, .string q, .int .i64 n, .slice o e k] ∧ IsY w f.2 (.agg #[.int .i64 a, .string p, .string q, .int .i64 n, .slice o e k]) := by
  obtain ⟨r0, r1, r2, r3, r4, rfl, h⟩ := h
  have h2 := h
  obtain ⟨a, n, p, q, o, e, k, hv⟩ := h2.expl
  simp only [Value.agg.injEq, Array.mk.injEq, List.cons.injEq, and_true] at hv
  obtain ⟨rfl, rfl, rfl, rfl, rfl⟩ := hv
  exact ⟨_, _, _, _, _, _, _, rfl, h⟩

set_option maxRecDepth 100000 in
set_option maxHeartbeats 8000000 in
theorem fieldR_any (s : SCP) (t : GY) (m : ByteArray) (c : List Value) (v : Value) (w0 w : World) (h : IsSc w0 s c) (ht : IsY w0 t v) (h0 : Below w0.heap.size w0 w) :
    Calls Try.prog 14 #[.agg c.toArray, v, .string m] w fun e w' => ∃ u, e = .returned (.tuple #[u, .bool (fieldS s.W t m).isSome]) ∧ IsY w0 ((fieldS s.W t m).getD zeroY) u ∧ Below w.heap.size w w' := by
  have HF := Lib.hid (fun W (hb : Below w.heap.size w W) => findR_any s t c v w0 W h ht (old_step h0 hb))
  have H0 := Lib.hid h0
  have HM : Hid (fieldS s.W t m = match findS s.W t with | some d => if d.strct then (d.fields.find? fun f => decide (f.1 = m)).map (·.2) else none | none => none) := rfl
  obtain ⟨o, o1, o2, o3, o4, k, n1, k1, n2, k2, k3, n4, k4, rfl, _⟩ := h
  obtain ⟨ta, tn, tp, tq, o5, na, k5, rfl⟩ := ht.expl
  generalize fieldS s.W t m = M at *
  generalize findS s.W t = R at *
  generalize s.W.length = nW at *
  generalize s.bounds.length = nb at *
  obtain ⟨W2, hW2, HBX⟩ := bx3 w #[.slice o nW k, .slice o1 n1 k1, .slice o2 n2 k2, .slice o3 nb k3, .slice o4 n4 k4] #[.int .i64 ta, .string tp, .string tq, .int .i64 tn, .slice o5 na k5] #[.int .i64 0, .string noB, .string noB, .int .i64 0, .slice none 0 0] 27 29 29
  have HW2 := Lib.hid hW2
  have hb1 := HBX.out.2.1
  rw [← hW2] at hb1
  have HB1 := Lib.hid hb1
  clear ht h0 hW2 hb1
  go_enter Try.func14, Try.ntmps14
  go_wp2_with fail
  refine (HF.out _ HB1.out).mono ?_
  rintro e V ⟨d, rfl, hd, hb⟩
  obtain ⟨od, oe, kd, ke, rfl, g1, g2, g3, g4, g5, g6⟩ := hd
  have hb2 := hb
  rw [HW2.out] at hb2
  have HV := Lib.hid hb2
  have b2 := HBX.out.at_ hb2 2 rfl
  have HRW := Lib.hid g5
  have hq : (R.getD zeroD).fields.length ≤ 9223372036854775807 := by unfold maxLen at g2; omega
  clear hb hb2 g1 g2 g3 g4 g5 g6 HF HB1
  generalize hDD : R.getD zeroD = D at *
  have HDD := Lib.hid hDD
  obtain ⟨N, hN⟩ : ∃ N, D.fields.length = N := ⟨_, rfl⟩
  rw [hN] at hq ⊢
  have HN := Lib.hid hN
  clear hN hDD
  obtain ⟨W3, hW3⟩ : ∃ W3, V.alloc (.cells #[.string D.name, .bool D.strct, .slice od N kd, .slice oe D.meths.length ke] 35) = W3 := ⟨_, rfl⟩
  have hV3 : Below V.heap.size V W3 := by rw [← hW3]; exact (Below.refl _ _).alloc (Nat.le_refl _) _
  have b8 : Blk W3 V.heap.size 35 #[.string D.name, .bool D.strct, .slice od N kd, .slice oe D.meths.length ke] := by rw [← hW3]; exact Blk.new _ _ _
  have b2 := blkB b2 hV3
  have HW3 := Lib.hid (HBX.out.below (stepB HV.out hV3 (Nat.le_refl _)))
  have HE3 := Lib.hid hW3
  have HB2 := Lib.hid b2
  have HB8 := Lib.hid b8
  have hg : w.heap.size ≤ V.heap.size := (HBX.out.below HV.out).size
  clear hW3 hV3 b2 b8 HV HBX HW2
  have hcase : (N = 0 ∨ (0 < N ∧ D.strct = false ∧ R.isSome = true)) ∧ M = none ∨ D.strct = true ∧ R.isSome = true ∧ M = (D.fields.find? fun f => decide (f.1 = m)).map (·.2) := by
    have e := HM.out
    have e2 := HDD.out
    cases hR : R with
    | none =>
      rw [hR] at e e2
      refine .inl ⟨.inl ?_, e⟩
      rw [← HN.out, ← e2]
      rfl
    | some d =>
      rw [hR] at e e2
      rw [Option.getD_some] at e2
      subst e2
      simp only at e
      cases hs : d.strct with
      | false =>
        rw [hs] at e
        refine .inl ⟨?_, e⟩
        by_cases h0 : N = 0
        · exact .inl h0
        · exact .inr ⟨by omega, rfl, rfl⟩
      | true => rw [hs] at e; exact .inr ⟨rfl, rfl, e⟩
  rcases hcase with ⟨hz, hM⟩ | ⟨hs, hr, hM⟩
  · have HZ := Lib.hid hz
    have HMM := Lib.hid hM
    clear hz hM HM
    go_wp2
    rw [HE3.out]
    go_loopw [10] (fun i wr => i = .int .i64 0 ∧ Hid (Below W3.heap.size W3 wr)) (fun i _ => N - (RowKit.intOf i).toNat)
    case atStart => exact ⟨rfl, Below.refl _ _⟩
    case round =>
      obtain ⟨rfl, HB⟩ := hrel
      have c8 := (blkB HB8.out HB.out).cell
      have c2 := (blkB HB2.out HB.out).cell
      have f2 := (blkB HB2.out HB.out).frozen
      have hb := below5 (g := w.heap.size + 2) (stepB HW3.out HB.out (Nat.le_refl _)) (Nat.le_add_right _ _) (.int .i64 0) (.string noB) (.string noB) (.int .i64 0) (.slice none 0 0)
      have HBB := Lib.hid hb
      clear hb HE3
      rcases HZ.out with h | h
      · subst h
        go_wp2
        refine bodyPost_ret (v := .tuple #[.agg #[.int .i64 0, .string noB, .string noB, .int .i64 0, .slice none 0 0], .bool false]) (by simp [results, Try.results14, go_sem, c2]) rfl ?_
        rw [HMM.out]
        exact ⟨_, rfl, IsY.zero, HBB.out⟩
      · obtain ⟨h1, h2, h3⟩ := h
        have h4 : ((0 : Int) < (N : Int)) := by omega
        rw [h2] at c8
        rw [h3]
        clear h1 h2 h3
        go_wp2
        refine bodyPost_ret (v := .tuple #[.agg #[.int .i64 0, .string noB, .string noB, .int .i64 0, .slice none 0 0], .bool false]) (by simp [results, Try.results14, go_sem, c2]) rfl ?_
        rw [HMM.out]
        exact ⟨_, rfl, IsY.zero, HBB.out⟩
  · have HMM := Lib.hid hM
    have HU0 : Hid (∀ i (x : ByteArray × GY), i < 0 → D.fields[i]? = some x → decide (x.1 = m) = false) := fun i x hi => by omega
    have HB0 := Lib.hid (Nat.zero_le N)
    clear hM HM
    rw [hs] at HB8
    rw [hs, hr]
    have HE4 : Hid (V.alloc (.cells #[.string D.name, .bool true, .slice od N kd, .slice oe D.meths.length ke] 35) = W3) := by rw [hs] at HE3; exact HE3
    clear hr hs HE3
    go_wp2
    rw [HE4.out]
    go_loopw [10] (fun i wr => ∃ j : Nat, i = .int .i64 (j : Nat) ∧ Hid (j ≤ N) ∧ Hid (∀ i (x : ByteArray × GY), i < j → D.fields[i]? = some x → decide (x.1 = m) = false) ∧ Hid (Below W3.heap.size W3 wr)) (fun i _ => N - (RowKit.intOf i).toNat)
    case atStart => exact ⟨0, rfl, HB0, HU0, Below.refl _ _⟩
    case round =>
      obtain ⟨j, rfl, HJ, HA, HB⟩ := hrel
      have c8 := (blkB HB8.out HB.out).cell
      have c2 := (blkB HB2.out HB.out).cell
      have f2 := (blkB HB2.out HB.out).frozen
      have hbw := stepB HW3.out HB.out (Nat.le_refl _)
      clear HE4 HB0 HU0
      by_cases hj : j < N
      · have hj' : ((j : Int) < (N : Int)) := by omega
        have hj0 : (0 : Int) ≤ (j : Int) := by omega
        have hwj := IntWalk.i64_in ((j : Int) + 1) ⟨by omega, by omega⟩
        obtain ⟨x, hx⟩ : ∃ x, D.fields[j]? = some x := ⟨_, List.getElem?_eq_getElem (by rw [HN.out]; exact hj)⟩
        obtain ⟨a, c, rfl, hlc, hc, hyx⟩ := HRW.out j x hx
        obtain ⟨xa, xn, xp, xq, o6, e6, k6, rfl, hy⟩ := hyx.expl
        have HY := Lib.hid hy
        have HBW := Lib.hid hbw
        have hc := mvc (old_step H0.out hbw) hc
        have e0 := at0 (hc 0 _ rfl)
        by_cases hm : x.1 = m
        · have e1 := atS (hc 1 _ rfl)
          have e2 := atS (hc 2 _ rfl)
          have e3 := atS (hc 3 _ rfl)
          have e4 := atS (hc 4 _ rfl)
          have e5 := atS (hc 5 _ rfl)
          subst hm
          have HQ : Hid (M = some x.2) := HMM.out.trans (by rw [find_at hx (by simp) fun i y hi hy => HA.out i y hi hy]; rfl)
          clear hc hlc hx hyx hy hbw
          go_wp2
          refine bodyPost_ret (v := .tuple #[.agg #[.int .i64 xa, .string xp, .string xq, .int .i64 xn, .slice o6 e6 k6], .bool true]) (by simp [results, Try.results14, go_sem, c2]) rfl ?_
          rw [HQ.out]
          exact ⟨_, rfl, HY.out, below5 (g := w.heap.size + 1 + 1) HBW.out (by omega) _ _ _ _ _⟩
        · have hne := bytes_ne hm
          have HA2 : Hid (∀ i (y : ByteArray × GY), i < j + 1 → D.fields[i]? = some y → decide (y.1 = m) = false) := fun i y hi hy => by
            by_cases e : i < j
            · exact HA.out i y e hy
            · obtain rfl : i = j := by omega
              rw [hx] at hy
              cases hy
              exact decide_eq_false hm
          clear hc hlc hx hm hyx hy hbw HY
          go_wp2
          case roundEnd => exact ⟨⟨j + 1, by push_cast; rfl, hj, HA2, HB⟩, by simp [RowKit.intOf]; omega⟩
      · have hj' : ¬ ((j : Int) < (N : Int)) := by omega
        have hfn : D.fields.find? (fun f => decide (f.1 = m)) = none := find_none (p := fun f => decide (f.1 = m)) (l := D.fields) fun i x hx => HA.out i x (by have h1 := (List.getElem?_eq_some_iff.1 hx).1; rw [HN.out] at h1; omega) hx
        have HQ : Hid (M = none) := HMM.out.trans (by rw [hfn]; rfl)
        have HBW := Lib.hid hbw
        clear hj hbw hfn
        go_wp2
        refine bodyPost_ret (v := .tuple #[.agg #[.int .i64 0, .string noB, .string noB, .int .i64 0, .slice none 0 0], .bool false]) (by simp [results, Try.results14, go_sem, c2]) rfl ?_
        rw [HQ.out]
        exact ⟨_, rfl, IsY.zero, below5 (g := w.heap.size + 1 + 1) HBW.out (by omega) _ _ _ _ _⟩
end Go.Proofs.Ytmnhilgifjaocaa
