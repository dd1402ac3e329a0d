/-
  The document's comparisons of lists that are one; the statements' own types. No condition.
-/
import Derived.Test.YtlakmniaocpaaaaM22
import Derived.Test.YtlakmniaocpaaaaM03
import Derived.Laws.StructEq
namespace Go.Proofs.Ytlakmniaocpaaaa
open Go.RowKit
open Go.Lib hiding intOf
set_option maxRecDepth 100000 in
set_option maxHeartbeats 8000000 in
theorem typesQ_any (l : List GY) (o o' : Option Addr) (c c' : Nat) (w0 w : World) (h : IsYs w0 o 0 l) (h' : IsYs w0 o' 0 l) (hq : l.length ≤ 9223372036854775807) (h0 : Below w0.heap.size w0 w) :
    Calls Try.prog 12 #[.slice o l.length c, .slice o' l.length c'] w fun e w' => e = .returned (.bool true) ∧ Below w.heap.size w w' := by
  have HX := Lib.hid h
  have HY := Lib.hid h'
  have H0 := Lib.hid h0
  obtain ⟨N, hN⟩ : ∃ N, l.length = N := ⟨_, rfl⟩
  rw [hN] at hq ⊢
  have HN := Lib.hid hN
  have HBR := Lib.hid (Below.refl w.heap.size w)
  have HB0 := Lib.hid (Nat.zero_le N)
  clear h h' h0 hN
  go_enter Try.func12, Try.ntmps12
  go_wp2
  go_loopw [5] (fun i wr => ∃ j : Nat, i = .int .i64 (j : Nat) ∧ Hid (j ≤ N) ∧ Hid (Below w.heap.size w wr)) (fun i _ => N - (RowKit.intOf i).toNat)
  case atStart => exact ⟨0, rfl, HB0, HBR⟩
  case round =>
    obtain ⟨j, rfl, HJ, HR⟩ := hrel
    clear HB0
    by_cases hj : j < N
    · have hj' : ((j : Int) < (N : Int)) := by omega
      have hj0 : (0 : Int) ≤ (j : Int) := by omega
      have hwj := IntWalk.i64_in ((j : Int) + 1) ⟨by omega, by omega⟩
      obtain ⟨x, hx⟩ : ∃ x, l[j]? = some x := ⟨_, List.getElem?_eq_getElem (by rw [HN.out]; exact hj)⟩
      obtain ⟨a, a0, a1, a2, a3, a4, rfl, hc, hyx⟩ := HX.out.at_ j hx
      obtain ⟨b, b0, b1, b2, b3, b4, rfl, hd, hyy⟩ := HY.out.at_ j hx
      rw [Nat.zero_add] at hc hd
      have hww := old_step H0.out HR.out
      have HC := Lib.hid (mvc hww hc)
      have HD := Lib.hid (mvc hww hd)
      have HF := Lib.hid (fun X (hX : Below wr.heap.size wr X) => equal_any _ x _ _ X (Nat.lt_succ_self _) (hyx.below (old_step hww hX)) (hyy.below (old_step hww hX)))
      clear hc hd hyx hyy hww hx
      go_wp2_with fail
      refine wp_region_still_tail 8 (by kernel_rfl) (by kernel_rfl) ?_
      simp only [List.take_succ_cons, List.take_zero, List.drop_succ_cons, List.drop_zero]
      iterate 3 still_step
      refine stillLoadG 34 5 size5 Try.underlying34 rfl _ rfl (a.add (j * 5)) rfl HC.out rfl ?_
      iterate 3 still_step
      refine stillLoadG 34 5 size5 Try.underlying34 rfl _ rfl (b.add (j * 5)) rfl HD.out rfl ?_
      refine wpStill_nil ?_
      change wpList _ _ _ _ _ wr.drew
      go_wp2_with fail
      refine (HF.out _ (Below.refl _ _).drew).mono ?_
      rintro e w5 ⟨rfl, hb⟩
      have HR5 := Lib.hid (stepB HR.out ((Below.refl _ _).drew.trans hb) (Nat.le_refl _))
      clear hb HC HD HF
      go_wp2
      case roundEnd => exact ⟨⟨j + 1, by push_cast; rfl, hj, HR5⟩, by simp [RowKit.intOf]; omega⟩
    · have hj' : ¬ ((j : Int) < (N : Int)) := by omega
      clear hj
      go_wp2
      go_ret
      exact ⟨rfl, HR.out⟩
theorem sizeW2 : (Try.prog.info? 51).map (·.size) = some 2 := by kernel_rfl
theorem run_neq_wr (W : World) (a b : Int) : (binOp .neq 51 (.agg #[.int .i64 a, .int .i64 b]) (.agg #[.int .i64 a, .int .i64 b])).run Try.prog W = .ok (.bool false) W := by
  simp [go_sem]
set_option maxRecDepth 100000 in
set_option maxHeartbeats 8000000 in
theorem sameW_any (l : List (Int × Int)) (v u : Value) (w0 w : World) (h : IsEs w0 l v) (h' : IsEs w0 l u) (h0 : Below w0.heap.size w0 w) :
    Calls Try.prog 20 #[v, u] w fun e w' => e = .returned (.bool true) ∧ Below w.heap.size w w' := by
  obtain ⟨o, c, rfl, hlc, hcm, hr⟩ := h
  obtain ⟨o', c', rfl, _, _, hr'⟩ := h'
  have hq : l.length ≤ 9223372036854775807 := by unfold maxLen at hcm; omega
  have HX := Lib.hid hr
  have HY := Lib.hid hr'
  have H0 := Lib.hid h0
  obtain ⟨N, hN⟩ : ∃ N, l.length = N := ⟨_, rfl⟩
  rw [hN] at hq ⊢
  have HN := Lib.hid hN
  have HBR := Lib.hid (Below.refl w.heap.size w)
  have HB0 := Lib.hid (Nat.zero_le N)
  clear hr hr' h0 hN hlc hcm
  go_enter Try.func20, Try.ntmps20
  go_wp2
  go_loopw [5] (fun i wr => ∃ j : Nat, i = .int .i64 (j : Nat) ∧ Hid (j ≤ N) ∧ Hid (Below w.heap.size w wr)) (fun i _ => N - (RowKit.intOf i).toNat)
  case atStart => exact ⟨0, rfl, HB0, HBR⟩
  case round =>
    obtain ⟨j, rfl, HJ, HR⟩ := hrel
    clear HB0
    by_cases hj : j < N
    · have hj' : ((j : Int) < (N : Int)) := by omega
      have hj0 : (0 : Int) ≤ (j : Int) := by omega
      have hwj := IntWalk.i64_in ((j : Int) + 1) ⟨by omega, by omega⟩
      obtain ⟨⟨x1, x2⟩, hx⟩ : ∃ x, l[j]? = some x := ⟨_, List.getElem?_eq_getElem (by rw [HN.out]; exact hj)⟩
      obtain ⟨a, ca, rfl, hla, hc, rfl⟩ := HX.out j _ hx
      obtain ⟨b, cb, rfl, hlb, hd, rfl⟩ := HY.out j _ hx
      have hww := old_step H0.out HR.out
      have HC := Lib.hid (mvc hww hc)
      have HD := Lib.hid (mvc hww hd)
      have HR5 := Lib.hid (stepB HR.out (Below.refl _ wr).drew (Nat.le_refl _))
      have hneq := run_neq_wr wr.drew x1 x2
      clear hc hd hww hx hla hlb
      go_wp2_with fail
      refine wp_region_still_tail 8 (by kernel_rfl) (by kernel_rfl) ?_
      simp only [List.take_succ_cons, List.take_zero, List.drop_succ_cons, List.drop_zero]
      iterate 3 still_step
      refine stillLoadG 51 2 sizeW2 Try.underlying51 rfl _ rfl (a.add (j * 2)) rfl HC.out rfl ?_
      iterate 3 still_step
      refine stillLoadG 51 2 sizeW2 Try.underlying51 rfl _ rfl (b.add (j * 2)) rfl HD.out rfl ?_
      refine wpStill_nil ?_
      change wpList _ _ _ _ _ wr.drew
      clear HC HD
      go_wp2
      case roundEnd => exact ⟨⟨j + 1, by push_cast; rfl, hj, HR5⟩, by simp [RowKit.intOf]; omega⟩
    · have hj' : ¬ ((j : Int) < (N : Int)) := by omega
      clear hj
      go_wp2
      go_ret
      exact ⟨rfl, HR.out⟩
def leafY (k : Int) (p m : ByteArray) (n : Int) : GY := .mk k p m n []
theorem leaf_is (w : World) (k : Int) (p m : ByteArray) (n : Int) : IsY w (leafY k p m n) (.agg #[.int .i64 k, .string p, .string m, .int .i64 n, .slice none 0 0]) := IsY.of (args := []) (Nat.le_refl _) (Nat.zero_le _) (IsYs.nil _ _ _)
abbrev b1 (c : UInt8) : ByteArray := ⟨#[c]⟩
set_option maxRecDepth 100000 in
theorem named_call (m : ByteArray) (w : World) : Calls Try.prog 25 #[.string m] w fun e w' => e = .returned (.agg #[.int .i64 4, .string (b1 97), .string m, .int .i64 0, .slice none 0 0]) ∧ Below w.heap.size w w' := by
  have hB : Below w.heap.size w (w.alloc (.cells #[.int .i64 4, .string (b1 97), .string m, .int .i64 0, .slice none 0 0] 34)) := (Below.refl _ w).alloc (Nat.le_refl _) _
  have HB := Lib.hid hB
  clear hB
  go_enter Try.func25, Try.ntmps25
  go_wp2
  refine bodyPost_ret (v := .agg #[.int .i64 4, .string (b1 97), .string m, .int .i64 0, .slice none 0 0]) (by simp [results, Try.results25, go_sem]) rfl ?_
  exact ⟨rfl, HB.out⟩
set_option maxRecDepth 100000 in
theorem param_call (n : Int) (w : World) : Calls Try.prog 26 #[.int .i64 n] w fun e w' => e = .returned (.agg #[.int .i64 6, .string ⟨#[]⟩, .string (b1 80), .int .i64 n, .slice none 0 0]) ∧ Below w.heap.size w w' := by
  have hB : Below w.heap.size w (w.alloc (.cells #[.int .i64 6, .string ⟨#[]⟩, .string (b1 80), .int .i64 n, .slice none 0 0] 34)) := (Below.refl _ w).alloc (Nat.le_refl _) _
  have HB := Lib.hid hB
  clear hB
  go_enter Try.func26, Try.ntmps26
  go_wp2
  refine bodyPost_ret (v := .agg #[.int .i64 6, .string ⟨#[]⟩, .string (b1 80), .int .i64 n, .slice none 0 0]) (by simp [results, Try.results26, go_sem]) rfl ?_
  exact ⟨rfl, HB.out⟩
/-- One in a row. -/
theorem ys_one {w : World} {g : Nat} {y : GY} {c0 c1 c2 c3 c4 : Value} (hb : Blk w g 34 #[c0, c1, c2, c3, c4]) (hy : IsY w y (.agg #[c0, c1, c2, c3, c4])) : IsYs w (some ⟨g, 0, none⟩) 0 [y] := IsYs.mk' fun k z hz => by
  have hk : k = 0 := by have := (List.getElem?_eq_some_iff.1 hz).1; simpa using this
  subst hk
  obtain rfl : y = z := by simpa using hz
  refine ⟨c0, c1, c2, c3, c4, fun j v hv => ?_, hy⟩
  rw [show (⟨g, 0, none⟩ : Addr).add ((0 + 0) * 5 + j) = ⟨g, j, none⟩ by unfold Addr.add; split <;> simp_all, hb.cell]
  simpa using hv
theorem ys_two {w : World} {g : Nat} {y z : GY} {c0 c1 c2 c3 c4 d0 d1 d2 d3 d4 : Value} (hb : Blk w g 34 #[c0, c1, c2, c3, c4, d0, d1, d2, d3, d4]) (hy : IsY w y (.agg #[c0, c1, c2, c3, c4])) (hz : IsY w z (.agg #[d0, d1, d2, d3, d4])) : IsYs w (some ⟨g, 0, none⟩) 0 [y, z] := IsYs.mk' fun k x hx => by
  match k, hx with
  | 0, hx =>
    obtain rfl : y = x := by simpa using hx
    refine ⟨c0, c1, c2, c3, c4, fun j v hv => ?_, hy⟩
    have hj : j < 5 := (List.getElem?_eq_some_iff.1 hv).1
    rw [show (⟨g, 0, none⟩ : Addr).add ((0 + 0) * 5 + j) = ⟨g, j, none⟩ by unfold Addr.add; split <;> simp_all, hb.cell]
    match j, hj, hv with
    | 0, _, hv => exact hv
    | 1, _, hv => exact hv
    | 2, _, hv => exact hv
    | 3, _, hv => exact hv
    | 4, _, hv => exact hv
  | 1, hx =>
    obtain rfl : z = x := by simpa using hx
    refine ⟨d0, d1, d2, d3, d4, fun j v hv => ?_, hz⟩
    have hj : j < 5 := (List.getElem?_eq_some_iff.1 hv).1
    rw [show (⟨g, 0, none⟩ : Addr).add ((0 + 1) * 5 + j) = ⟨g, 5 + j, none⟩ by unfold Addr.add; split <;> simp_all, hb.cell]
    match j, hj, hv with
    | 0, _, hv => exact hv
    | 1, _, hv => exact hv
    | 2, _, hv => exact hv
    | 3, _, hv => exact hv
    | 4, _, hv => exact hv
  | k + 2, hx => simp at hx
set_option maxRecDepth 100000 in
set_option maxHeartbeats 4000000 in
theorem list_call (y : GY) (v : Value) (w : World) (hy : IsY w y v) : Calls Try.prog 27 #[v] w fun e w' => ∃ g, w.heap.size ≤ g ∧ e = .returned (.agg #[.int .i64 5, .string ⟨#[]⟩, .string ⟨#[]⟩, .int .i64 0, .slice (some ⟨g, 0, none⟩) 1 1]) ∧ IsY w' (.mk 5 ⟨#[]⟩ ⟨#[]⟩ 0 [y]) (.agg #[.int .i64 5, .string ⟨#[]⟩, .string ⟨#[]⟩, .int .i64 0, .slice (some ⟨g, 0, none⟩) 1 1]) ∧ Below w.heap.size w w' := by
  have HY := Lib.hid hy
  obtain ⟨a, n, p, q, o, e, k, rfl⟩ := hy.expl
  clear hy
  go_enter Try.func27, Try.ntmps27
  go_wp2
  refine bodyPost_ret (v := .agg #[.int .i64 5, .string ⟨#[]⟩, .string ⟨#[]⟩, .int .i64 0, .slice (some ⟨w.heap.size + 1 + 1, 0, none⟩) 1 1]) (by simp [results, Try.results27, go_sem]) rfl ?_
  have hb : ∀ {c0 c1 c2 : Array Value}, Below w.heap.size w (((w.alloc (.cells c0 34)).alloc (.cells c1 34)).alloc (.cells c2 34)) := (((Below.refl _ w).alloc (Nat.le_refl _) _).alloc (by simp) _).alloc (by simp; omega) _
  exact ⟨w.heap.size + 1 + 1, by omega, rfl, IsY.of (Nat.le_refl _) (by decide) (ys_one (bkN (by simp) _ _) (HY.out.below hb)), hb⟩
end Go.Proofs.Ytlakmniaocpaaaa
