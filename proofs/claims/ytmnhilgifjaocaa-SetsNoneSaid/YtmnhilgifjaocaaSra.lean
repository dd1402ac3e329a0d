/-
  What a package declares: the document's answer. No condition.
-/
import Derived.Test.YtmnhilgifjaocaaSmb
namespace Go.Proofs.Ytmnhilgifjaocaa
open Go.RowKit
open Go.Lib hiding intOf

set_option maxRecDepth 100000 in
set_option maxHeartbeats 8000000 in
theorem declR_any (p : IF) (m : ByteArray) (c : List Value) (w0 w : World) (h : IsIf w0 p c) (h0 : Below w0.heap.size w0 w) :
    Calls Try.prog 36 #[.agg c.toArray, .string m] w fun e w' => ∃ d, e = .returned (.tuple #[.agg d.toArray, .bool (declI p m).isSome]) ∧ IsTd w0 ((declI p m).getD zeroD) d ∧ Below w.heap.size w w' := by
  obtain ⟨o, o2, k, n2, k2, rfl, hl, hk, hrow⟩ := h
  obtain ⟨pkg, T⟩ := p
  dsimp only at hl hrow ⊢
  have hq : T.length ≤ 9223372036854775807 := by unfold maxLen at hk; omega
  obtain ⟨N, hN⟩ : ∃ N, T.length = N := ⟨_, rfl⟩
  rw [hN] at hq ⊢
  obtain ⟨W2, hW2, HBX⟩ := bx2 w #[.string pkg, .slice o N k, .slice o2 n2 k2] #[.string noB, .bool false, .slice none 0 0, .slice none 0 0] 59 35
  have HW2 := Lib.hid hW2
  have HN := Lib.hid hN
  have HR := Lib.hid hrow
  have H0 := Lib.hid h0
  have HB0 := Lib.hid (Nat.zero_le N)
  have HD : Hid (declI ⟨pkg, T⟩ m = T.find? fun d => decide (d.name = m)) := rfl
  have HU0 : Hid (∀ i (x : TD), i < 0 → T[i]? = some x → decide (x.name = m) = false) := fun i x hi => by omega
  clear hl hk hrow hW2 hN h0
  generalize declI ⟨pkg, T⟩ m = R at *
  go_enter Try.func36, Try.ntmps36
  go_wp2
  rw [HW2.out]
  go_loopw [6] (fun i wr => ∃ j : Nat, i = .int .i64 (j : Nat) ∧ Hid (j ≤ N) ∧ Hid (∀ i (x : TD), i < j → T[i]? = some x → decide (x.name = m) = false) ∧ Hid (Below W2.heap.size W2 wr)) (fun i _ => N - (RowKit.intOf i).toNat)
  case atStart => exact ⟨0, rfl, HB0, HU0, Below.refl _ _⟩
  case round =>
    obtain ⟨j, rfl, HJ, HA, HB⟩ := hrel
    clear HB0 HW2 HU0
    have c0 : ∀ i, wr.cell? ⟨w.heap.size, i, none⟩ = _ := (HBX.out.at_ HB.out 0 rfl).cell
    have c1 : ∀ i, wr.cell? ⟨w.heap.size + 1, i, none⟩ = _ := (HBX.out.at_ HB.out 1 rfl).cell
    have f1 := (HBX.out.at_ HB.out 1 rfl).frozen
    by_cases hj : j < N
    · have hj' : ((j : Int) < (N : Int)) := by omega
      have hj0 : (0 : Int) ≤ (j : Int) := by omega
      have hwj := IntWalk.i64_in ((j : Int) + 1) ⟨by omega, by omega⟩
      obtain ⟨x, hx⟩ : ∃ x, T[j]? = some x := ⟨_, List.getElem?_eq_getElem (by rw [HN.out]; exact hj)⟩
      obtain ⟨a, c, rfl, hlc, hc, hyx⟩ := HR.out j x hx
      have HT := Lib.hid hyx
      obtain ⟨o3, o4, k3, k4, rfl, g⟩ := hyx
      have hc := fun i u h => cells_below (H0.out.trans ((HBX.out.below HB.out).mono H0.out.size)) _ u (hc i u h)
      have e0 := at0 (hc 0 _ rfl)
      have HC := Lib.hid hc
      by_cases hm : x.name = m
      · subst hm
        have HQ : Hid (R = some x) := by
          rw [HD.out]
          exact find_at hx (by simp) fun i y hi hy => HA.out i y hi hy
        clear hc g hlc hx
        go_wp2_with (refine boxLoadG 35 4 (by kernel_rfl) Try.underlying35 rfl _ rfl (a.add (j * 4)) rfl HC.out rfl ?_)
        refine bodyPost_ret (v := .tuple #[.agg #[.string x.name, .bool x.strct, .slice o3 x.fields.length k3, .slice o4 x.meths.length k4], .bool true]) (by simp [results, Try.results36, go_sem, c1]) rfl ?_
        rw [HQ.out]
        have hb := below4 (g := w.heap.size + 1) (HBX.out.below HB.out) (Nat.le_succ _) (.string x.name) (.bool x.strct) (.slice o3 x.fields.length k3) (.slice o4 x.meths.length k4)
        exact ⟨_, rfl, HT.out, hb⟩
      · have hne := bytes_ne hm
        have HA2 : Hid (∀ i (y : TD), i < j + 1 → T[i]? = some y → decide (y.name = m) = false) := fun i y hi hy => by
          by_cases e : i < j
          · exact HA.out i y e hy
          · obtain rfl : i = j := by omega
            rw [hx] at hy
            cases hy
            exact decide_eq_false hm
        clear hc g hlc hx hm HC HT
        go_wp2
        case roundEnd => exact ⟨⟨j + 1, by push_cast; rfl, hj, HA2, HB⟩, by simp [RowKit.intOf]; omega⟩
    · have hj' : ¬ ((j : Int) < (N : Int)) := by omega
      have HQ : Hid (R = none) := by
        rw [HD.out]
        exact find_none fun i x hx => HA.out i x (by have := (List.getElem?_eq_some_iff.1 hx).1; have := HN.out; omega) hx
      clear hj
      go_wp2
      refine bodyPost_ret (v := .tuple #[.agg #[.string noB, .bool false, .slice none 0 0, .slice none 0 0], .bool false]) (by simp [results, Try.results36, go_sem, c1]) rfl ?_
      rw [HQ.out]
      have hb := below4 (g := w.heap.size + 1) (HBX.out.below HB.out) (Nat.le_succ _) (.string noB) (.bool false) (.slice none 0 0) (.slice none 0 0)
      exact ⟨_, rfl, IsTd.zero, hb⟩
end Go.Proofs.Ytmnhilgifjaocaa
