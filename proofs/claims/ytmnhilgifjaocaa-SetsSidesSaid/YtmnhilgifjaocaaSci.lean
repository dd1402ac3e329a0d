/-
  The first element of a name: one instance. No condition.
-/
import Derived.Test.YtmnhilgifjaocaaScc
namespace Go.Proofs.Ytmnhilgifjaocaa
open Go.RowKit
open Go.Lib hiding intOf

theorem namedI_any (x : IF) (c : List Value) (w : World) (h : IsIf w x c) : Calls Try.prog 50 #[.agg c.toArray] w fun e w' => e = .returned (.string x.pkg) ∧ Below w.heap.size w w' := by
  obtain ⟨o1, o2, k1, n2, k2, rfl, g⟩ := h
  have hB : Below w.heap.size w (w.alloc (.cells #[.string x.pkg, .slice o1 x.types.length k1, .slice o2 n2 k2] 59)) := (Below.refl _ w).alloc (Nat.le_refl _) _
  have hc := (Blk.new w 59 #[.string x.pkg, .slice o1 x.types.length k1, .slice o2 n2 k2]).cell
  have HB := Lib.hid hB
  clear hB g
  go_enter Try.func50, Try.ntmps50
  go_wp2
  go_ret
  exact ⟨rfl, HB.out⟩
set_option maxRecDepth 100000 in
set_option maxHeartbeats 8000000 in
theorem firstI_any (xs : List IF) (o : Option Addr) (N cp : Nat) (m : ByteArray) (w0 w : World) (hN : xs.length = N) (hq : N ≤ 9223372036854775807) (hrow : IsRow 3 IsIf w0 o xs) (h0 : Below w0.heap.size w0 w) :
    Calls Try.prog 49 #[.slice o N cp, .string m, .func (.func 50) #[] #[]] w fun e w' => ∃ d, e = .returned (.tuple #[.agg d.toArray, .bool (xs.find? fun p => decide (p.pkg = m)).isSome]) ∧ IsIf w0 ((xs.find? fun p => decide (p.pkg = m)).getD zeroI) d ∧ Below w.heap.size w w' := by
  obtain ⟨W2, hW2, HBX⟩ := bx1 w #[.string noB, .slice none 0 0, .slice none 0 0] 59
  have HW2 := Lib.hid hW2
  have HN := Lib.hid hN
  have HR := Lib.hid hrow
  have H0 := Lib.hid h0
  have HB0 := Lib.hid (Nat.zero_le N)
  have HU0 : Hid (∀ i (x : IF), i < 0 → xs[i]? = some x → decide (x.pkg = m) = false) := fun i x hi => by omega
  clear hrow hW2 hN h0
  obtain ⟨R, hR⟩ : ∃ R, (xs.find? fun p => decide (p.pkg = m)) = R := ⟨_, rfl⟩
  rw [hR]
  have HD := Lib.hid hR.symm
  clear hR
  go_enter Try.func49, Try.ntmps49
  go_wp2
  rw [HW2.out]
  go_loopw [13] (fun i wr => ∃ j : Nat, i = .int .i64 (j : Nat) ∧ Hid (j ≤ N) ∧ Hid (∀ i (x : IF), i < j → xs[i]? = some x → decide (x.pkg = m) = false) ∧ Hid (Below W2.heap.size W2 wr)) (fun i _ => N - (RowKit.intOf i).toNat)
  case atStart => exact ⟨0, rfl, HB0, HU0, Below.refl _ _⟩
  case round =>
    obtain ⟨j, rfl, HJ, HA, HB⟩ := hrel
    clear HB0 HW2 HU0
    have c1 : ∀ i, wr.cell? ⟨w.heap.size, i, none⟩ = _ := (HBX.out.at_ HB.out 0 rfl).cell
    have f1 : ∀ i, wr.frozen? ⟨w.heap.size, i, none⟩ = false := (HBX.out.at_ HB.out 0 rfl).frozen
    by_cases hj : j < N
    · have hj' : ((j : Int) < (N : Int)) := by omega
      have hj0 : (0 : Int) ≤ (j : Int) := by omega
      have hwj := IntWalk.i64_in ((j : Int) + 1) ⟨by omega, by omega⟩
      obtain ⟨x, hx⟩ : ∃ x, xs[j]? = some x := ⟨_, List.getElem?_eq_getElem (by rw [HN.out]; exact hj)⟩
      obtain ⟨a, c, rfl, hlc, hc, hyx⟩ := HR.out j x hx
      have HT := Lib.hid hyx
      have hww := HBX.out.below HB.out
      have HC : Hid (∀ (i : Nat) (v : Value), c[i]? = some v → wr.cell? ((a.add (j * 3)).add i) = some v) := fun i v h => cells_below (H0.out.trans (hww.mono H0.out.size)) _ v (hc i v h)
      obtain ⟨W8, hW8⟩ : ∃ W8, wr.alloc (.cells c.toArray 59) = W8 := ⟨_, rfl⟩
      have hb8 : Below wr.heap.size wr W8 := by rw [← hW8]; exact (Below.refl _ _).alloc (Nat.le_refl _) _
      have HBK : Hid (Blk W8 wr.heap.size 59 c.toArray) := by rw [← hW8]; exact Blk.new _ _ _
      have HB8 := Lib.hid hb8
      have HF := Lib.hid (namedI_any x c W8 (hyx.below ((H0.out.trans (hww.mono H0.out.size)).trans (hb8.mono (Nat.le_trans H0.out.size hww.size)))))
      obtain ⟨o1, o2, k1, n2, k2, rfl, g⟩ := hyx
      have HW8 := Lib.hid hW8
      have HWW := Lib.hid hww
      have HX := Lib.hid hx
      clear hc g hlc hx hb8 hW8 hww c1 f1
      by_cases hm : x.pkg = m
      · have HQ : Hid (R = some x) := by
          rw [HD.out]
          exact find_at HX.out (by simp [hm]) fun i y hi hy => HA.out i y hi hy
        subst hm
        go_wp2_with (first
          | (refine boxLoadG 59 3 size3 Try.underlying59 rfl _ rfl (a.add (j * 3)) rfl HC.out rfl ?_)
          | (refine boxNew 59 3 size3 rfl _ _ rfl rfl [.string x.pkg, .slice o1 x.types.length k1, .slice o2 n2 k2] rfl rfl rfl rfl ?_; rw [HW8.out])
          | (refine boxLoad 59 3 size3 Try.underlying59 rfl _ rfl wr.heap.size rfl (cs := [.string x.pkg, .slice o1 x.types.length k1, .slice o2 n2 k2]) HK9.out rfl ?_)
          | (refine boxLoad 59 3 size3 Try.underlying59 rfl _ rfl wr.heap.size rfl (cs := [.string x.pkg, .slice o1 x.types.length k1, .slice o2 n2 k2]) HBK.out rfl ?_)
          | (refine HF.out.mono ?_; rintro e w9 ⟨rfl, hb⟩; have HK9 := Lib.hid (blkB HBK.out hb); have hb9 := (stepB HB8.out hb (Nat.le_refl _)); have HB9 := Lib.hid hb9; have c9 : ∀ i, w9.cell? ⟨w.heap.size, i, none⟩ = _ := (blkB (HBX.out.at_ HB.out 0 rfl) hb9).cell; have f9 : ∀ i, w9.frozen? ⟨w.heap.size, i, none⟩ = false := (blkB (HBX.out.at_ HB.out 0 rfl) hb9).frozen; clear hb hb9))
        refine bodyPost_ret (v := .tuple #[.agg #[.string x.pkg, .slice o1 x.types.length k1, .slice o2 n2 k2], .bool true]) (by simp [results, Try.results49, go_sem, c9]) rfl ?_
        rw [HQ.out]
        exact ⟨_, rfl, HT.out, below3s (stepB HWW.out HB9.out (Nat.le_refl _)) (Nat.le_refl _) (.string x.pkg) (.slice o1 x.types.length k1) (.slice o2 n2 k2)⟩
      · have hne := bytes_ne hm
        have HA2 : Hid (∀ i (y : IF), i < j + 1 → xs[i]? = some y → decide (y.pkg = m) = false) := fun i y hi hy => by
          by_cases e : i < j
          · exact HA.out i y e hy
          · obtain rfl : i = j := by omega
            have hx := HX.out
            rw [hx] at hy
            cases hy
            exact decide_eq_false hm
        have HM := Lib.hid hm
        clear hm
        go_wp2_with (first
          | (refine boxLoadG 59 3 size3 Try.underlying59 rfl _ rfl (a.add (j * 3)) rfl HC.out rfl ?_)
          | (refine boxNew 59 3 size3 rfl _ _ rfl rfl [.string x.pkg, .slice o1 x.types.length k1, .slice o2 n2 k2] rfl rfl rfl rfl ?_; rw [HW8.out])
          | (refine boxLoad 59 3 size3 Try.underlying59 rfl _ rfl wr.heap.size rfl (cs := [.string x.pkg, .slice o1 x.types.length k1, .slice o2 n2 k2]) HBK.out rfl ?_)
          | (refine HF.out.mono ?_; rintro e w9 ⟨rfl, hb⟩; have HB9 := Lib.hid (stepB HB8.out hb (Nat.le_refl _)); clear hb))
        case roundEnd => exact ⟨⟨j + 1, by push_cast; rfl, hj, HA2, stepB HB.out HB9.out (Nat.le_refl _)⟩, by simp [RowKit.intOf]; omega⟩
    · have hj' : ¬ ((j : Int) < (N : Int)) := by omega
      have HQ : Hid (R = none) := by
        rw [HD.out]
        exact find_none fun i x hx => HA.out i x (by have := (List.getElem?_eq_some_iff.1 hx).1; have := HN.out; omega) hx
      have hlt : w.heap.size < wr.heap.size := (HBX.out.at_ HB.out 0 rfl).lt
      have hne := Nat.ne_of_lt hlt
      clear hj
      have hk1 : Blk wr w.heap.size 59 #[.string noB, .slice none 0 0, .slice none 0 0] := HBX.out.at_ HB.out 0 rfl
      have ca := ((hk1.kept (World.grownBy_alloc wr (.cells #[.string noB, .slice none 0 0, .slice none 0 0] 59) none) (by simp))).cell
      have HK1 := Lib.hid hk1
      have HCA := Lib.hid ca
      clear ca hk1
      go_wp2
      rw [setCell_same HK1.out rfl, setCell_same HK1.out rfl, setCell_same HK1.out rfl]
      have ca := HCA.out
      refine bodyPost_ret (v := .tuple #[.agg #[.string noB, .slice none 0 0, .slice none 0 0], .bool false]) (by simp [results, Try.results49, go_sem, ca]) rfl ?_
      rw [HQ.out]
      exact ⟨_, rfl, IsIf.zero, (HBX.out.below HB.out).alloc (HBX.out.below HB.out).size _⟩
end Go.Proofs.Ytmnhilgifjaocaa
