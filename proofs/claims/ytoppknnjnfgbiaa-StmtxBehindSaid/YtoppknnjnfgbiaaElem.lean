/-
  The walk of 'element'. Condition: the tokens lie in memory as 'ZAt' says; texts of at most 2^48 bytes.
-/
import Derived.Test.YtoppknnjnfgbiaaNamed
namespace Go.Proofs.Ytoppknnjnfgbiaa
open Go.RowKit
open Go.Lib hiding intOf

theorem IsRes.mono {B B' : Nat} (hB : B' ≤ B) {w : World} {r : Res} {v : Value} (h : IsRes B w r v) : IsRes B' w r v := by
  cases r with
  | ok x n => obtain ⟨y, hv, hx⟩ := h; exact ⟨y, hv, hx.mono hB⟩
  | err p c => exact h

set_option maxRecDepth 20000 in
set_option maxHeartbeats 4000000 in
theorem element_any (o : Option Addr) (c : Nat) (l : List TZ) (i : Int) (w : World) (h : ZAt w o l) (hn : l.length ≤ 9223372036854775807) (hf : Fits l) :
    Calls Try.prog 90 #[.slice o l.length c, .int .i64 i] w fun e w' => ∃ v, e = .returned v ∧ IsRes (w.heap.size + 2) w' (elm l i) v ∧ Below w.heap.size w w' := by
  have HT := Lib.hid (fun (W : World) (j : Int) (hb : Below w.heap.size w W) => tokenAt_v o c l j W (h.below hb) hn)
  by_cases hk : (tkAt l i).kind = 1
  · have HN := Lib.hid (fun (W : World) (hb : Below w.heap.size w W) => named_any o c l i W (h.below hb) hn hf hk)
    clear h hf
    go_enter Try.func90, Try.ntmps90
    go_wp2_with fail
    refine (HT.out _ _ (Two.start w).below).mono ?_
    rintro e w1 ⟨rfl, hB⟩
    have T1 := Lib.hid ((Two.start w).step hB)
    clear hB
    go_wp2_with fail
    refine (HN.out _ ((T1.out.alloc _).below)).mono ?_
    rintro e w2 ⟨v, rfl, hr, hB⟩
    have T2 := Lib.hid ((T1.out.alloc _).step hB)
    have hz : w.heap.size + 1 + 1 ≤ w1.heap.size := T1.out.size
    have hr2 : IsRes (w.heap.size + 2) w2 (elm l i) v := hr.mono (by simp; omega)
    clear hB T1 hr
    obtain ⟨R, hq⟩ : ∃ R, elm l i = R := ⟨_, rfl⟩
    have HQ := Lib.hid hq
    rw [hq] at hr2
    clear hq
    cases R with
    | ok x n =>
      obtain ⟨y, rfl, hx⟩ := hr2
      obtain ⟨k, p, g, m, o', a', rfl⟩ := hx.parts
      have HX := Lib.hid hx
      clear hx
      obtain ⟨c1, c2, c3, c4⟩ := T2.out.cells
      simp only [zeroT, zeroG] at c1 c3
      unfold okV
      go_wp2
      refine bodyPost_ret (v := okV (.agg #[.int .i64 k, .int .i64 p, .string g, .string m, .slice o' a' a']) n) (by simp [okV, results, Try.results90, go_sem, c1, c3]) rfl ?_
      refine ⟨_, rfl, ?_, ret7_below T2.out _ _ _ _ _ _ _⟩
      rw [HQ.out]
      exact ⟨_, rfl, ret7_type HX.out (by omega) _ _ _ _ _ _ _⟩
    | err p k =>
      obtain rfl : v = errV p k := hr2
      obtain ⟨c1, c2, c3, c4⟩ := T2.out.cells
      simp only [zeroT, zeroG] at c1 c3
      unfold errV noType noText
      go_wp2
      refine bodyPost_ret (v := errV p k) (by simp [errV, noType, noText, results, Try.results90, go_sem, c1, c3]) rfl ?_
      refine ⟨_, rfl, ?_, ret7_below T2.out _ _ _ _ _ _ _⟩
      rw [HQ.out]
      rfl
  · have K1 := Lib.hid hk
    have hk1 : ((tkAt l i).kind == 1) = false := by simpa using hk
    have HL := Lib.hid (fun (W : World) (b : Nat) (hw : KindsAt W b) => lookup_kind hw (tkAt l i).text (by have := hf.tkAt i; omega))
    have HW := Lib.hid kinds_any
    clear h hf
    go_enter Try.func90, Try.ntmps90
    go_wp2_with fail
    refine (HT.out _ _ (Two.start w).below).mono ?_
    rintro e w1 ⟨rfl, hB⟩
    have T1 := Lib.hid ((Two.start w).step hB)
    clear hB
    clear hk
    go_wp2_with fail
    go_cut [8] (fun v wx => v = .int .i64 (kindOf (tkAt l i).text.data.toList) ∧ Hid (Two w wx) ∧ w1.heap.size < wx.heap.size ∧ Hid (Blk wx w1.heap.size 53 #[.int .i64 (tkAt l i).kind, .int .i64 (tkAt l i).pos, .int .i64 (tkAt l i).stop, .string (tkAt l i).text]))
    case first =>
      go_region_with (go_at_call 93; refine (HW.out _).mono ?_; rintro e w2 ⟨rfl, hw2, hB⟩; have hl := HL.out w2 (w1.heap.size + 1) (by simpa using hw2); have X9 := blk_mid3 hB.undrew; have d9 := X9.cell; have f9 := X9.frozen; have H9 := Lib.hid X9; have hz2 := mid_size hB.undrew; have T2 := Lib.hid ((T1.out.alloc _).step hB.undrew); clear X9 hB hw2)
      all_goals go_wp2_with fail
      all_goals go_meet
      all_goals exact ⟨rfl, T2, hz2, H9⟩
    case rest =>
      obtain ⟨rfl, T2, hz2, H9⟩ := hcut
      have hz1 := T1.out.size
      have hz3 : w.heap.size + 1 < w1.heap.size := by omega
      have hz4 : w1.heap.size ≠ w.heap.size := by omega
      have hz5 : w1.heap.size ≠ w.heap.size + 1 := by omega
      obtain ⟨c1, c2, c3, c4⟩ := T2.out.cells
      have c5 := H9.out.cell
      simp only [zeroT, zeroG] at c1 c3
      clear T1
      by_cases h5 : (tkAt l i).kind = 5
      · have D5 := Lib.hid h5
        rw [h5] at c5
        clear h5
        obtain ⟨q, hq⟩ : ∃ q, kindOf (tkAt l i).text.data.toList = q := ⟨_, rfl⟩
        have HQ := Lib.hid hq
        rw [hq]
        clear hq
        by_cases h0 : q = 0
        · have e0 : (q == 0) = true := by simpa using h0
          have D0 := Lib.hid h0
          clear h0
          go_wp2_with fail
          go_region
          go_wp2
          have hr : elm l i = .err (tkAt l i).pos 5 := by simp [elm, K1.out, HQ.out, D0.out]
          rw [hr]
          refine bodyPost_ret (v := errV (tkAt l i).pos 5) (by simp [errV, noType, noText, results, Try.results90, go_sem, c1, c3]) rfl ?_
          exact ⟨_, rfl, rfl, (ret7_below T2.out _ _ _ _ _ _ _).drew⟩
        · have e0 : (q == 0) = false := by simpa using h0
          have D0 := Lib.hid h0
          clear h0
          have hi := (tkAt_real (l := l) (i := i) (by rw [D5.out]; decide))
          have hi1 := hi.1
          have hi2 := hi.2
          clear hi
          go_wp2
          have hr : elm l i = .ok (.leaf q (tkAt l i).pos ⟨#[]⟩ ⟨#[]⟩) (i + 1) := by simp [elm, D5.out, HQ.out, D0.out]
          rw [hr]
          refine bodyPost_ret (v := okV (leafV q (tkAt l i).pos ⟨#[]⟩ ⟨#[]⟩) (i + 1)) (by simp [okV, leafV, results, Try.results90, go_sem, c1, c3]) rfl ?_
          exact ⟨_, rfl, ⟨_, rfl, rfl⟩, ret7_below T2.out _ _ _ _ _ _ _⟩
      · have e5 : ((tkAt l i).kind == 5) = false := by simpa using h5
        have e6 : ((tkAt l i).kind != 5) = true := by simpa using h5
        have D5 := Lib.hid h5
        clear h5
        go_wp2_with fail
        go_region
        go_wp2
        have hr : elm l i = .err (tkAt l i).pos 5 := by simp [elm, K1.out, D5.out]
        rw [hr]
        refine bodyPost_ret (v := errV (tkAt l i).pos 5) (by simp [errV, noType, noText, results, Try.results90, go_sem, c1, c3]) rfl ?_
        exact ⟨_, rfl, rfl, (ret7_below T2.out _ _ _ _ _ _ _).drew⟩

end Go.Proofs.Ytoppknnjnfgbiaa
