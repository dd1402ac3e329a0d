/-
  The document's comparisons of types, methods, declared types, of those that are one. No condition.
-/
import Derived.Test.YtmnhilgifjaocaaSrg
namespace Go.Proofs.Ytmnhilgifjaocaa
open Go.RowKit
open Go.Lib hiding intOf

set_option maxRecDepth 100000 in
set_option maxHeartbeats 8000000 in
theorem typesE_any (l : List GY) (o o' : Option Addr) (n c c' : Nat) (w : World) (hn : l.length = n) (hq : n ≤ 9223372036854775807) (h : IsYs w o 0 l) (h' : IsYs w o' 0 l) :
    Calls Try.prog 40 #[.slice o n c, .slice o' n c'] w fun e w' => e = .returned (.bool true) ∧ Below w.heap.size w w' := by
  have HN := Lib.hid hn
  have HX := Lib.hid h
  have HY := Lib.hid h'
  have HB0 := Lib.hid (Nat.zero_le n)
  clear hn h h'
  go_enter Try.func40, Try.ntmps40
  go_wp2
  go_loopw [5] (fun i wr => ∃ j : Nat, i = .int .i64 (j : Nat) ∧ Hid (j ≤ n) ∧ Hid (Below w.heap.size w wr)) (fun i _ => n - (RowKit.intOf i).toNat)
  case atStart => exact ⟨0, rfl, HB0, Below.refl _ _⟩
  case round =>
    obtain ⟨j, rfl, HJ, HR⟩ := hrel
    clear HB0
    by_cases hj : j < n
    · have hj' : ((j : Int) < (n : Int)) := by omega
      have hj0 : (0 : Int) ≤ (j : Int) := by omega
      have hwj := IntWalk.i64_in ((j : Int) + 1) ⟨by omega, by omega⟩
      obtain ⟨x, hx⟩ : ∃ x, l[j]? = some x := ⟨_, List.getElem?_eq_getElem (by rw [HN.out]; exact hj)⟩
      obtain ⟨a, a0, a1, a2, a3, a4, rfl, hc, hyx⟩ := HX.out.at_ j hx
      obtain ⟨b, b0, b1, b2, b3, b4, rfl, hd, hyy⟩ := HY.out.at_ j hx
      rw [Nat.zero_add] at hc hd
      have HC := Lib.hid (mvc HR.out hc)
      have HDD := Lib.hid (mvc HR.out hd)
      have HF := Lib.hid (fun W (hb : Below wr.heap.size wr W) => equal_any _ x _ _ W (Nat.lt_succ_self _) (hyx.below (stepB HR.out hb (Nat.le_refl _))) (hyy.below (stepB HR.out hb (Nat.le_refl _))))
      clear hc hd hyx hyy hx
      go_wp2_with fail
      refine wp_region_still_tail 8 (by kernel_rfl) (by kernel_rfl) ?_
      simp only [List.take_succ_cons, List.take_zero, List.drop_succ_cons, List.drop_zero]
      iterate 3 still_step
      refine stillLoadG 29 5 size5 Try.underlying29 rfl _ rfl (a.add (j * 5)) rfl HC.out rfl ?_
      iterate 3 still_step
      refine stillLoadG 29 5 size5 Try.underlying29 rfl _ rfl (b.add (j * 5)) rfl HDD.out rfl ?_
      refine wpStill_nil ?_
      change wpList _ _ _ _ _ wr.drew
      go_wp2_with fail
      refine (HF.out _ (Below.refl _ _).drew).mono ?_
      rintro e w5 ⟨rfl, hb⟩
      have HR5 := Lib.hid (stepB HR.out (undrewY hb) (Nat.le_refl _))
      clear hb HC HDD HF
      go_wp2
      case roundEnd => exact ⟨⟨j + 1, by push_cast; rfl, hj, HR5⟩, by simp [RowKit.intOf]; omega⟩
    · have hj' : ¬ ((j : Int) < (n : Int)) := by omega
      clear hj
      go_wp2
      go_ret
      exact ⟨rfl, HR.out⟩

set_option maxRecDepth 100000 in
set_option maxHeartbeats 8000000 in
theorem methsE_any (l : List MD) (v u : Value) (w0 w : World) (h : IsMs w0 l v) (h' : IsMs w0 l u) (h0 : Below w0.heap.size w0 w) :
    Calls Try.prog 17 #[v, u] w fun e w' => e = .returned (.bool true) ∧ Below w.heap.size w w' := by
  obtain ⟨o, c, rfl, hl, hk, hx⟩ := h
  obtain ⟨o', c', rfl, _, _, hy⟩ := h'
  have hq : l.length ≤ 9223372036854775807 := by unfold maxLen at hk; omega
  obtain ⟨n, hn⟩ : ∃ n, l.length = n := ⟨_, rfl⟩
  rw [hn] at hq ⊢
  have HN := Lib.hid hn
  have HX := Lib.hid hx
  have HY := Lib.hid hy
  have H0 := Lib.hid h0
  have HB0 := Lib.hid (Nat.zero_le n)
  clear hn hx hy h0 hl hk
  go_enter Try.func17, Try.ntmps17
  go_wp2
  go_loopw [5] (fun i wr => ∃ j : Nat, i = .int .i64 (j : Nat) ∧ Hid (j ≤ n) ∧ Hid (Below w.heap.size w wr)) (fun i _ => n - (RowKit.intOf i).toNat)
  case atStart => exact ⟨0, rfl, HB0, Below.refl _ _⟩
  case round =>
    obtain ⟨j, rfl, HJ, HR⟩ := hrel
    clear HB0
    by_cases hj : j < n
    · have hj' : ((j : Int) < (n : Int)) := by omega
      have hj0 : (0 : Int) ≤ (j : Int) := by omega
      have hwj := IntWalk.i64_in ((j : Int) + 1) ⟨by omega, by omega⟩
      obtain ⟨x, hx⟩ : ∃ x, l[j]? = some x := ⟨_, List.getElem?_eq_getElem (by rw [HN.out]; exact hj)⟩
      obtain ⟨a, ca, rfl, _, hc, hyx⟩ := HX.out j x hx
      obtain ⟨b, cb, rfl, _, hd, hyy⟩ := HY.out j x hx
      obtain ⟨oa, ka, aa, an, ap, aq, ao, ae, ak, rfl, hka, hla, hap, har⟩ := hyx.parts
      obtain ⟨ob, kb, ba, bn, bp, bq, bo, be, bk, rfl, hkb, hlb, hbp, hbr⟩ := hyy.parts
      have hpq : x.params.length ≤ 9223372036854775807 := by unfold maxLen at hka; omega
      have hoo := old_step H0.out HR.out
      have HCA := Lib.hid (fun (W : World) (hb : Below wr.heap.size wr W) => mvc (stepB hoo hb (Nat.le_refl _)) hc)
      have HCB := Lib.hid (fun (W : World) (hb : Below wr.heap.size wr W) => mvc (stepB hoo hb (Nat.le_refl _)) hd)
      have HT := Lib.hid (fun W (hb : Below wr.heap.size wr W) => typesE_any x.params oa ob _ ka kb W rfl hpq (hap.below (stepB hoo hb (Nat.le_refl _))) (hbp.below (stepB hoo hb (Nat.le_refl _))))
      have HE := Lib.hid (fun W (hb : Below wr.heap.size wr W) => equal_any _ x.result _ _ W (Nat.lt_succ_self _) (har.below (stepB hoo hb (Nat.le_refl _))) (hbr.below (stepB hoo hb (Nat.le_refl _))))
      have e1 := atS (HCA.out wr (Below.refl _ _) 1 _ rfl)
      have d1 := atS (HCB.out wr (Below.refl _ _) 1 _ rfl)
      clear hc hd hyx hyy hx hap har hbp hbr hoo
      go_wp2_with fail
      refine wp_region_still_tail 10 (by kernel_rfl) (by kernel_rfl) ?_
      simp only [List.take_succ_cons, List.take_zero, List.drop_succ_cons, List.drop_zero]
      iterate 10 still_step
      refine wpStill_nil ?_
      change wpList _ _ _ _ _ wr.drew
      go_wp2_with fail
      refine (HT.out _ (Below.refl _ _).drew).mono ?_
      rintro e w5 ⟨rfl, hb⟩
      have hb5 := undrewY hb
      have HB5 := Lib.hid hb5
      clear hb hb5 e1 d1 HT
      have e2 := atS (HCA.out w5 HB5.out 2 _ rfl)
      have e3 := atS (HCA.out w5 HB5.out 3 _ rfl)
      have e4 := atS (HCA.out w5 HB5.out 4 _ rfl)
      have e5 := atS (HCA.out w5 HB5.out 5 _ rfl)
      have e6 := atS (HCA.out w5 HB5.out 6 _ rfl)
      have d2 := atS (HCB.out w5 HB5.out 2 _ rfl)
      have d3 := atS (HCB.out w5 HB5.out 3 _ rfl)
      have d4 := atS (HCB.out w5 HB5.out 4 _ rfl)
      have d5 := atS (HCB.out w5 HB5.out 5 _ rfl)
      have d6 := atS (HCB.out w5 HB5.out 6 _ rfl)
      go_wp2_with fail
      refine wp_region_still_tail 10 (by kernel_rfl) (by kernel_rfl) ?_
      simp only [List.take_succ_cons, List.take_zero, List.drop_succ_cons, List.drop_zero]
      iterate 10 still_step
      refine wpStill_nil ?_
      change wpList _ _ _ _ _ w5.drew
      go_wp2_with fail
      refine (HE.out _ HB5.out.drew).mono ?_
      rintro e w6 ⟨rfl, hb⟩
      have hb6 := stepB HB5.out (undrewY hb) (Nat.le_refl _)
      have HB6 := Lib.hid hb6
      clear hb hb6 HE e2 e3 e4 e5 e6 d2 d3 d4 d5 d6
      have e0 := at0 (HCA.out w6 HB6.out 0 _ rfl)
      have d0 := at0 (HCB.out w6 HB6.out 0 _ rfl)
      go_wp2_with fail
      go_quiet (fail)
      have HR7 := Lib.hid (stepB HR.out HB6.out (Nat.le_refl _))
      clear e0 d0 HCA HCB HB5 HB6
      go_wp2
      case roundEnd => exact ⟨⟨j + 1, by push_cast; rfl, hj, below_drewN HR7.out _⟩, by simp [RowKit.intOf]; omega⟩
    · have hj' : ¬ ((j : Int) < (n : Int)) := by omega
      clear hj
      go_wp2
      go_ret
      exact ⟨rfl, HR.out⟩

set_option maxRecDepth 100000 in
set_option maxHeartbeats 8000000 in
theorem declE_any (d : TD) (ca cb : List Value) (w0 w : World) (h : IsTd w0 d ca) (h' : IsTd w0 d cb) (h0 : Below w0.heap.size w0 w) :
    Calls Try.prog 15 #[.agg ca.toArray, .agg cb.toArray] w fun e w' => e = .returned (.bool true) ∧ Below w.heap.size w w' := by
  obtain ⟨o1, o2, k1, k2, rfl, hl1, hk1, hl2, hk2, hf, hm⟩ := h
  obtain ⟨p1, p2, j1, j2, rfl, hl3, hk3, hl4, hk4, hf', hm'⟩ := h'
  have HM := Lib.hid (fun W (hb : Below w.heap.size w W) => methsE_any d.meths _ _ w0 W ⟨o2, k2, rfl, hl2, hk2, hm⟩ ⟨p2, j2, rfl, hl4, hk4, hm'⟩ (old_step h0 hb))
  have hq : d.fields.length ≤ 9223372036854775807 := by unfold maxLen at hk1; omega
  obtain ⟨n, hn⟩ : ∃ n, d.fields.length = n := ⟨_, rfl⟩
  generalize d.meths.length = nm at *
  rw [hn] at hq ⊢
  have HN := Lib.hid hn
  have HX := Lib.hid hf
  have HY := Lib.hid hf'
  have H0 := Lib.hid h0
  have HB0 := Lib.hid (Nat.zero_le n)
  obtain ⟨W2, hW2, HBX⟩ := bx2 w #[.string d.name, .bool d.strct, .slice o1 n k1, .slice o2 nm k2] #[.string d.name, .bool d.strct, .slice p1 n j1, .slice p2 nm j2] 35 35
  have hb1 := HBX.out.2.1
  rw [← hW2] at hb1
  have HB1 := Lib.hid hb1
  have HW2 := Lib.hid hW2
  clear hn hf hf' h0 hl1 hk1 hl2 hk2 hl3 hk3 hl4 hk4 hm hm' hb1 hW2
  go_enter Try.func15, Try.ntmps15
  go_wp2_with fail
  refine (HM.out _ HB1.out).mono ?_
  rintro e V ⟨rfl, hb⟩
  have hb2 := hb
  rw [HW2.out] at hb2
  have HV := Lib.hid hb2
  have c0 := (HBX.out.at_ hb2 0 rfl).cell
  have c1 := (HBX.out.at_ hb2 1 rfl).cell
  rw [Nat.add_zero] at c0
  clear hb hb2 HM HB1 HW2
  go_wp2
  go_loopw [6] (fun i wr => ∃ j : Nat, i = .int .i64 (j : Nat) ∧ Hid (j ≤ n) ∧ Hid (Below W2.heap.size W2 wr)) (fun i _ => n - (RowKit.intOf i).toNat)
  case atStart => exact ⟨0, rfl, HB0, HV⟩
  case round =>
    obtain ⟨j, rfl, HJ, HR⟩ := hrel
    clear HB0 c0 c1 HV
    have c0 := (HBX.out.at_ HR.out 0 rfl).cell
    have c1 := (HBX.out.at_ HR.out 1 rfl).cell
    rw [Nat.add_zero] at c0
    have hww := HBX.out.below HR.out
    have HWW := Lib.hid hww
    by_cases hj : j < n
    · have hj' : ((j : Int) < (n : Int)) := by omega
      have hj0 : (0 : Int) ≤ (j : Int) := by omega
      have hwj := IntWalk.i64_in ((j : Int) + 1) ⟨by omega, by omega⟩
      obtain ⟨x, hx⟩ : ∃ x, d.fields[j]? = some x := ⟨_, List.getElem?_eq_getElem (by rw [HN.out]; exact hj)⟩
      obtain ⟨a, ca, rfl, _, hc, hyx⟩ := HX.out j x hx
      obtain ⟨b, cb, rfl, _, hd, hyy⟩ := HY.out j x hx
      obtain ⟨aa, an, ap, aq, ao, ae, ak, rfl, har⟩ := hyx.expl
      obtain ⟨ba, bn, bp, bq, bo, be, bk, rfl, hbr⟩ := hyy.expl
      have hoo := old_step H0.out hww
      have HCA := Lib.hid (fun (W : World) (hb : Below wr.heap.size wr W) => mvc (stepB hoo hb (Nat.le_refl _)) hc)
      have HCB := Lib.hid (fun (W : World) (hb : Below wr.heap.size wr W) => mvc (stepB hoo hb (Nat.le_refl _)) hd)
      have HE := Lib.hid (fun W (hb : Below wr.heap.size wr W) => equal_any _ x.2 _ _ W (Nat.lt_succ_self _) (har.below (stepB hoo hb (Nat.le_refl _))) (hbr.below (stepB hoo hb (Nat.le_refl _))))
      have e1 := atS (HCA.out wr (Below.refl _ _) 1 _ rfl)
      have e2 := atS (HCA.out wr (Below.refl _ _) 2 _ rfl)
      have e3 := atS (HCA.out wr (Below.refl _ _) 3 _ rfl)
      have e4 := atS (HCA.out wr (Below.refl _ _) 4 _ rfl)
      have e5 := atS (HCA.out wr (Below.refl _ _) 5 _ rfl)
      have d1 := atS (HCB.out wr (Below.refl _ _) 1 _ rfl)
      have d2 := atS (HCB.out wr (Below.refl _ _) 2 _ rfl)
      have d3 := atS (HCB.out wr (Below.refl _ _) 3 _ rfl)
      have d4 := atS (HCB.out wr (Below.refl _ _) 4 _ rfl)
      have d5 := atS (HCB.out wr (Below.refl _ _) 5 _ rfl)
      clear hc hd hyx hyy hx har hbr hoo hww
      go_wp2_with fail
      refine wp_region_still_tail 12 (by kernel_rfl) (by kernel_rfl) ?_
      simp only [List.take_succ_cons, List.take_zero, List.drop_succ_cons, List.drop_zero]
      iterate 12 still_step
      refine wpStill_nil ?_
      change wpList _ _ _ _ _ wr.drew
      go_wp2_with fail
      refine (HE.out _ (Below.refl _ _).drew).mono ?_
      rintro e w6 ⟨rfl, hb⟩
      have hb6 := undrewY hb
      have HB6 := Lib.hid hb6
      have HR6 := Lib.hid (stepB HR.out hb6 (Nat.le_refl _))
      clear hb hb6 HE e1 e2 e3 e4 e5 d1 d2 d3 d4 d5 c0 c1
      have c0 := (HBX.out.at_ HR6.out 0 rfl).cell
      have c1 := (HBX.out.at_ HR6.out 1 rfl).cell
      rw [Nat.add_zero] at c0
      have e0 := at0 (HCA.out w6 HB6.out 0 _ rfl)
      have d0 := at0 (HCB.out w6 HB6.out 0 _ rfl)
      go_wp2_with fail
      go_quiet (fail)
      clear e0 d0 HCA HCB HB6 c0 c1
      go_wp2
      case roundEnd => exact ⟨⟨j + 1, by push_cast; rfl, hj, below_drewN HR6.out _⟩, by simp [RowKit.intOf]; omega⟩
    · have hj' : ¬ ((j : Int) < (n : Int)) := by omega
      clear hj hww
      go_wp2
      go_ret
      exact ⟨rfl, HWW.out⟩
end Go.Proofs.Ytmnhilgifjaocaa
