/-
  Whether a type keeps to its bound: the program's answer. Condition: names and lists of at most 2^47 bytes.
-/
import Derived.Test.YtlakmniaocpaaaaM19
import Derived.Test.YtlakmniaocpaaaaM17
import Derived.Test.YtlakmniaocpaaaaM20
namespace Go.Proofs.Ytlakmniaocpaaaa
open Go.RowKit
open Go.Lib hiding intOf
theorem fit_zero : FitT 140737488351232 zeroD := ⟨by decide, fun f h => (nomatch h), by decide, fun f h => (nomatch h), by decide⟩
theorem fit_zeroY : FitY 140737488351232 zeroY := by
  show FitY _ (.mk 0 noB noB 0 [])
  unfold FitY FitYs
  exact ⟨by decide, by decide, by decide, trivial⟩
theorem fit_found {q : Nat} {s : SCP} (h : FitS q s) {t : GY} {d : TD} (hf : findS s.W t = some d) : FitT q d := by
  unfold findS at hf
  split at hf
  · obtain ⟨p, h1, h2⟩ := Option.bind_eq_some_iff.1 hf
    exact h.1 p (List.mem_of_find?_eq_some h1) d (List.mem_of_find?_eq_some h2)
  · cases hf
theorem fit_find {s : SCP} (h : FitS 140737488351232 s) (t : GY) : FitT 140737488351232 ((findS s.W t).getD zeroD) := by
  cases e : findS s.W t with
  | none => exact fit_zero
  | some d => exact fit_found h e
theorem fit_nil : FitMs [] := ⟨fun m h => (nomatch h), by decide⟩
theorem fit_methD {s : SCP} (h : FitS 140737488351232 s) (t : GY) : FitMs (methD s.W t) :=
  ⟨(fit_find h t).2.2.2.1, (fit_find h t).2.2.2.2⟩
theorem fit_meths {s : SCP} (h : FitS 140737488351232 s) (t : GY) : FitMs (methS s t) := by
  unfold methS
  split
  · split
    · exact fit_nil
    · split
      · exact fit_methD h _
      · exact fit_nil
  · exact fit_methD h _
theorem meetsQ_any (s : SCP) (t i : GY) (c : List Value) (v u : Value) (w0 w : World) (h : IsSc w0 s c) (ht : IsY w0 t v) (hi : IsY w0 i u) (h0 : Below w0.heap.size w0 w) (hf : FitS 140737488351232 s) :
    Calls Try.prog 41 #[.agg c.toArray, v, u] w fun e w' => e = .returned (.bool (meetsS s t i)) ∧ Below w.heap.size w w' := meetsP_any s t i c v u w0 w h ht hi h0 (fit_meths hf t) (fit_meths hf i)
theorem assignQ_any (s : SCP) (t i : GY) (c : List Value) (v u : Value) (w0 w : World) (h : IsSc w0 s c) (ht : IsY w0 t v) (hi : IsY w0 i u) (h0 : Below w0.heap.size w0 w) (hf : FitS 140737488351232 s) :
    Calls Try.prog 24 #[.agg c.toArray, v, u] w fun e w' => e = .returned (.bool (assignS s t i)) ∧ Below w.heap.size w w' := assignP_any s t i c v u w0 w h ht hi h0 (fit_meths hf t) (fit_meths hf i)
set_option maxRecDepth 100000 in
set_option maxHeartbeats 8000000 in
theorem keeps_any (s : SCP) (t b : GY) (c : List Value) (v u : Value) (w0 w : World) (h : IsSc w0 s c) (ht : IsY w0 t v) (hb : IsY w0 b u) (h0 : Below w0.heap.size w0 w) (hf : FitS 140737488351232 s) :
    Calls Try.prog 31 #[.agg c.toArray, v, u] w fun e w' => e = .returned (.bool (!wB s b t)) ∧ Below w.heap.size w w' := by
  have HM := Lib.hid (fun W (hW : Below w0.heap.size w0 W) => meetsQ_any s t b c v u w0 W h ht hb hW hf)
  obtain ⟨o, o1, o2, o3, o4, k, n1, k1, n2, k2, k3, n4, k4, rfl, _⟩ := h
  obtain ⟨tk, tp, tq, tn, ta⟩ := t
  obtain ⟨bk, bp, bq, bn, ba⟩ := b
  obtain ⟨o5, k5, rfl, _⟩ := ht.parts
  obtain ⟨o6, k6, rfl, _⟩ := hb.parts
  have HD : Hid (wB s (.mk bk bp bq bn ba) (.mk tk tp tq tn ta) = (decide (tk = 0) || (!decide (bk = 0) && !meetsS s (.mk tk tp tq tn ta) (.mk bk bp bq bn ba)))) := rfl
  generalize wB s (.mk bk bp bq bn ba) (.mk tk tp tq tn ta) = R at *
  generalize meetsS s (.mk tk tp tq tn ta) (.mk bk bp bq bn ba) = BM at *
  generalize s.W.length = nW at *
  generalize s.bounds.length = nb at *
  generalize ta.length = na at *
  generalize ba.length = nc at *
  obtain ⟨W2, hW2, HBX⟩ := bx3 w #[.slice o nW k, .slice o1 n1 k1, .slice o2 n2 k2, .slice o3 nb k3, .slice o4 n4 k4] #[.int .i64 tk, .string tp, .string tq, .int .i64 tn, .slice o5 na k5] #[.int .i64 bk, .string bp, .string bq, .int .i64 bn, .slice o6 nc k6] 32 34 34
  have HW2 := Lib.hid hW2
  have HB2 := Lib.hid HBX.out.2.1
  have H0 := Lib.hid h0
  have c0 : ∀ i, W2.cell? ⟨w.heap.size, i, none⟩ = _ := (HBX.out.at_ (Below.refl _ _) 0 rfl).cell
  have c1 : ∀ i, W2.cell? ⟨w.heap.size + 1, i, none⟩ = _ := (HBX.out.at_ (Below.refl _ _) 1 rfl).cell
  have c2 : ∀ i, W2.cell? ⟨w.heap.size + 1 + 1, i, none⟩ = _ := (HBX.out.at_ (Below.refl _ _) 2 rfl).cell
  clear ht hb h0 hf hW2
  by_cases ht0 : tk = 0
  · have e0 : (tk == 0) = true := by simp [ht0]
    have HR : Hid (R = true) := by show _ = _; rw [HD.out]; simp [ht0]
    clear ht0
    go_enter Try.func31, Try.ntmps31
    go_upto_region 1 with fail
    change Code.wp Try.prog _ _ _ (((w.alloc (.cells #[.slice o nW k, .slice o1 n1 k1, .slice o2 n2 k2, .slice o3 nb k3, .slice o4 n4 k4] 32)).alloc (.cells #[.int .i64 tk, .string tp, .string tq, .int .i64 tn, .slice o5 na k5] 34)).alloc (.cells #[.int .i64 bk, .string bp, .string bq, .int .i64 bn, .slice o6 nc k6] 34))
    rw [HW2.out]
    go_wp2
    go_ret
    exact ⟨by rw [HR.out]; rfl, HB2.out⟩
  have e0 : (tk == 0) = false := beq_eq_false_iff_ne.2 ht0
  by_cases hb0 : bk = 0
  · have e1 : (bk == 0) = true := by simp [hb0]
    have HR : Hid (R = false) := by show _ = _; rw [HD.out]; simp [ht0, hb0]
    clear ht0 hb0
    go_enter Try.func31, Try.ntmps31
    go_upto_region 1 with fail
    change Code.wp Try.prog _ _ _ (((w.alloc (.cells #[.slice o nW k, .slice o1 n1 k1, .slice o2 n2 k2, .slice o3 nb k3, .slice o4 n4 k4] 32)).alloc (.cells #[.int .i64 tk, .string tp, .string tq, .int .i64 tn, .slice o5 na k5] 34)).alloc (.cells #[.int .i64 bk, .string bp, .string bq, .int .i64 bn, .slice o6 nc k6] 34))
    rw [HW2.out]
    go_wp2
    go_ret
    exact ⟨by rw [HR.out]; rfl, HB2.out⟩
  · have e1 : (bk == 0) = false := beq_eq_false_iff_ne.2 hb0
    have HR : Hid (R = !BM) := by show _ = _; rw [HD.out, decide_eq_false ht0, decide_eq_false hb0]; rfl
    clear ht0 hb0
    go_enter Try.func31, Try.ntmps31
    go_upto_region 1 with fail
    change Code.wp Try.prog _ _ _ (((w.alloc (.cells #[.slice o nW k, .slice o1 n1 k1, .slice o2 n2 k2, .slice o3 nb k3, .slice o4 n4 k4] 32)).alloc (.cells #[.int .i64 tk, .string tp, .string tq, .int .i64 tn, .slice o5 na k5] 34)).alloc (.cells #[.int .i64 bk, .string bp, .string bq, .int .i64 bn, .slice o6 nc k6] 34))
    rw [HW2.out]
    go_wp2_with fail
    refine (HM.out _ (H0.out.trans (HB2.out.mono H0.out.size))).mono ?_
    rintro e X ⟨rfl, hX⟩
    have HX := Lib.hid (HBX.out.below hX)
    clear hX c0 c1 c2
    go_wp2
    go_ret
    exact ⟨by rw [HR.out, Bool.not_not]; rfl, HX.out⟩
end Go.Proofs.Ytlakmniaocpaaaa
