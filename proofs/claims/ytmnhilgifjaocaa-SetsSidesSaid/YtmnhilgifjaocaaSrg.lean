/-
  Meets, and what may be assigned: the document's answers. No condition.
-/
import Derived.Test.YtmnhilgifjaocaaSrf
namespace Go.Proofs.Ytmnhilgifjaocaa
open Go.RowKit
open Go.Lib hiding intOf

theorem IsMd.parts {w : World} {m : MD} {c : List Value} (h : IsMd w m c) : ∃ (o : Option Addr) (k : Nat) (a n : Int) (p q : ByteArray) (o' : Option Addr) (e k' : Nat), c = [.string m.name, .slice o m.params.length k, .int .i64 a, .string p, .string q, .int .i64 n, .slice o' e k'] ∧ k ≤ maxLen ∧ m.params.length ≤ k ∧ IsYs w o 0 m.params ∧ IsY w m.result (.agg #[.int .i64 a, .string p, .string q, .int .i64 n, .slice o' e k']) := by
  obtain ⟨o, k, r0, r1, r2, r3, r4, rfl, h1, h2, h3, h⟩ := h
  have h4 := h
  obtain ⟨a, n, p, q, o', e, k', hv⟩ := h4.expl
  simp only [Value.agg.injEq, Array.mk.injEq, List.cons.injEq, and_true] at hv
  obtain ⟨rfl, rfl, rfl, rfl, rfl⟩ := hv
  exact ⟨_, _, _, _, _, _, _, _, _, rfl, h2, h1, h3, h⟩
theorem meets_all {s : SCP} {t i : GY} (hi : ifaceS s.W i = true) (h : ∀ (j : Nat) (m : MD), (methS s i)[j]? = some m → okM (methS s t) m = true) : meetsS s t i = true := by
  unfold meetsS
  rw [hi, Bool.true_and, List.all_eq_true]
  intro m hm
  obtain ⟨j, hj⟩ := List.getElem?_of_mem hm
  exact h j m hj
theorem meets_not {s : SCP} {t i : GY} {m : MD} (hm : m ∈ methS s i) (h : okM (methS s t) m = false) : meetsS s t i = false := by
  unfold meetsS
  rw [Bool.and_eq_false_iff]
  right
  rw [List.all_eq_false]
  exact ⟨m, hm, by rw [h]; simp⟩

set_option maxRecDepth 100000 in
set_option maxHeartbeats 8000000 in
theorem meetsR_any (s : SCP) (t i : GY) (c : List Value) (v u : Value) (w0 w : World) (h : IsSc w0 s c) (ht : IsY w0 t v) (hi : IsY w0 i u) (h0 : Below w0.heap.size w0 w) :
    Calls Try.prog 25 #[.agg c.toArray, v, u] w fun e w' => e = .returned (.bool (meetsS s t i)) ∧ Below w.heap.size w w' := by
  have HI := Lib.hid (fun W (hb : Below w.heap.size w W) => ifaceR_any s i c u w0 W h hi (old_step h0 hb))
  have HMI := Lib.hid (fun W (hb : Below w.heap.size w W) => methR_any s i c u w0 W h hi (old_step h0 hb))
  have HMT := Lib.hid (fun W (hb : Below w.heap.size w W) => methR_any s t c v w0 W h ht (old_step h0 hb))
  have HALL := Lib.hid (fun hI h => meets_all (s := s) (t := t) (i := i) hI h)
  have HNOT := Lib.hid (fun (m : MD) h1 h2 => meets_not (s := s) (t := t) (i := i) (m := m) h1 h2)
  have HNO : Hid (ifaceS s.W i = false → meetsS s t i = false) := meets_no
  have H0 := Lib.hid h0
  obtain ⟨o, o1, o2, o3, o4, k, n1, k1, n2, k2, k3, n4, k4, rfl, _⟩ := h
  obtain ⟨ta, tn, tp, tq, o5, na, k5, rfl⟩ := ht.expl
  obtain ⟨ia, inn, ip, iq, o6, nb, k6, rfl⟩ := hi.expl
  generalize meetsS s t i = R at *
  generalize methS s t = MT at *
  generalize methS s i = MI at *
  generalize ifaceS s.W i = BI at *
  generalize s.W.length = nW at *
  generalize s.bounds.length = nbd at *
  obtain ⟨W2, hW2, HBX⟩ := bx3 w #[.slice o nW k, .slice o1 n1 k1, .slice o2 n2 k2, .slice o3 nbd k3, .slice o4 n4 k4] #[.int .i64 ta, .string tp, .string tq, .int .i64 tn, .slice o5 na k5] #[.int .i64 ia, .string ip, .string iq, .int .i64 inn, .slice o6 nb k6] 27 29 29
  have HW2 := Lib.hid hW2
  have hb1 := HBX.out.2.1
  rw [← hW2] at hb1
  have HB1 := Lib.hid hb1
  clear ht hi h0 hW2 hb1
  go_enter Try.func25, Try.ntmps25
  go_wp2_with fail
  refine (HI.out _ HB1.out).mono ?_
  rintro e V ⟨rfl, hb⟩
  rw [HW2.out] at hb
  have HV := Lib.hid hb
  clear hb HB1 HW2
  cases hBI : BI with
  | false =>
    have HQ := Lib.hid (HNO.out hBI)
    clear hBI
    go_wp2
    go_ret
    rw [HQ.out]
    exact ⟨rfl, HBX.out.below HV.out⟩
  | true =>
    have HBI := Lib.hid hBI
    clear hBI HNO
    have c0 := (HBX.out.at_ HV.out 0 rfl).cell
    have c1 := (HBX.out.at_ HV.out 1 rfl).cell
    have c2 := (HBX.out.at_ HV.out 2 rfl).cell
    rw [Nat.add_zero] at c0
    go_wp2_with fail
    refine (HMI.out _ (HBX.out.below HV.out)).mono ?_
    rintro e V1 ⟨u1, rfl, hm1, hb⟩
    obtain ⟨oi, ki, rfl, hli, hki, hri⟩ := hm1
    have HV1 := Lib.hid (stepB HV.out hb (Nat.le_refl _))
    have HRI := Lib.hid hri
    clear hb c0 c1 c2 hri HV HI HMI
    have c0 := (HBX.out.at_ HV1.out 0 rfl).cell
    have c1 := (HBX.out.at_ HV1.out 1 rfl).cell
    rw [Nat.add_zero] at c0
    go_wp2_with fail
    refine (HMT.out _ (HBX.out.below HV1.out)).mono ?_
    rintro e V2 ⟨u2, rfl, hm2, hb⟩
    have HM2 := Lib.hid hm2
    obtain ⟨ot, kt, rfl, hlt, hkt, hrt⟩ := hm2
    have HV2 := Lib.hid (HBX.out.below (stepB HV1.out hb (Nat.le_refl _)))
    have hq : MI.length ≤ 9223372036854775807 := by unfold maxLen at hki; omega
    obtain ⟨N, hN⟩ : ∃ N, N = MI.length := ⟨_, rfl⟩
    rw [← hN] at hq
    rw [← hN]
    have HN := Lib.hid hN
    clear hb c0 c1 hrt HV1 HMT HBX hli hki hlt hkt hN
    have HB0 := Lib.hid (Nat.zero_le N)
    go_wp2
    go_loopw [10] (fun i wr => ∃ j : Nat, i = .int .i64 (j : Nat) ∧ Hid (j ≤ N) ∧ Hid (∀ (i : Nat) (m : MD), i < j → MI[i]? = some m → okM MT m = true) ∧ Hid (Below w.heap.size w wr)) (fun i _ => N - (RowKit.intOf i).toNat)
    case atStart => exact ⟨0, rfl, HB0, fun i a h => by omega, HV2⟩
    case round =>
      obtain ⟨j, rfl, HJ, HU, HR⟩ := hrel
      clear HB0 HV2
      by_cases hj : j < N
      · have hj' : ((j : Int) < (N : Int)) := by omega
        have hj0 : (0 : Int) ≤ (j : Int) := by omega
        have hwj := IntWalk.i64_in ((j : Int) + 1) ⟨by omega, by omega⟩
        obtain ⟨x, hx⟩ : ∃ x, MI[j]? = some x := ⟨_, List.getElem?_eq_getElem (by rw [← HN.out]; exact hj)⟩
        have HXI := Lib.hid (List.mem_of_getElem? hx)
        have HXJ := Lib.hid hx
        obtain ⟨a, c, rfl, hlc, hc, hyx⟩ := HRI.out j x hx
        obtain ⟨o7, k7, xa, xn, xp, xq, o8, e8, k8, rfl, hk7, hl7, hxp, hxr⟩ := hyx.parts
        have HXP := Lib.hid hxp
        have HXR := Lib.hid hxr
        have HC := Lib.hid (fun (W : World) (hb : Below w.heap.size w W) => mvc (old_step H0.out hb) hc)
        have e0 := at0 (HC.out wr HR.out 0 _ rfl)
        have HH := Lib.hid (fun W (hb : Below w.heap.size w W) => hasR_any MT x.name _ w0 W HM2.out (old_step H0.out hb))
        have hq7 : x.params.length ≤ 9223372036854775807 := by unfold maxLen at hk7; omega
        clear hx hlc hc hyx hxp hxr hk7 hl7
        go_wp2_with fail
        refine (HH.out _ HR.out).mono ?_
        rintro e V3 ⟨d, rfl, hd, hb⟩
        have HV3 := Lib.hid (stepB HR.out hb (Nat.le_refl _))
        clear hb e0
        obtain ⟨o9, k9, da, dn, dp, dq, o10, e10, k10, rfl, hk9, hl9, hdp, hdr⟩ := hd.parts
        have e1 : ∀ W, Below w.heap.size w W → W.cell? ⟨(a.add (j * 7)).block, (a.add (j * 7)).off + 1, none⟩ = some (.slice o7 x.params.length k7) := fun W hb => atS (HC.out W hb 1 _ rfl)
        have hOK : Hid (okM MT x = match hasM MT x.name with | some o => alikeYs o.params x.params && alikeY o.result x.result | none => false) := rfl
        generalize hgQ : (hasM MT x.name).getD zeroM = Q at *
        obtain ⟨V4, hV4⟩ : ∃ V4, V3.alloc (.cells #[.string Q.name, .slice o9 Q.params.length k9, .int .i64 da, .string dp, .string dq, .int .i64 dn, .slice o10 e10 k10] 50) = V4 := ⟨_, rfl⟩
        have b4 : Blk V4 V3.heap.size 50 #[.string Q.name, .slice o9 Q.params.length k9, .int .i64 da, .string dp, .string dq, .int .i64 dn, .slice o10 e10 k10] := by rw [← hV4]; exact Blk.new _ _ _
        have hb4 : Below w.heap.size w V4 := by rw [← hV4]; exact HV3.out.alloc HV3.out.size _
        have HV4 := Lib.hid hV4
        have HB4 := Lib.hid hb4
        have f1 := e1 V4 hb4
        have HE1 := Lib.hid e1
        clear hd hV4 hb4 e1 HH
        cases hh : hasM MT x.name with
        | none =>
          have HQ : Hid (R = false) := HNOT.out x HXI.out (by rw [hOK.out, hh])
          have c8 := b4.cell
          clear hOK hh hgQ b4 hk9 hl9 hdp hdr
          go_wp2_with fail
          rw [HV4.out]
          go_quiet (fail)
          go_wp2
          go_ret
          rw [HQ.out]
          exact ⟨rfl, below_drewN HB4.out _⟩
        | some q =>
          have HOK : Hid (okM MT x = (alikeYs q.params x.params && alikeY q.result x.result)) := by have e := hOK.out; rw [hh] at e; exact e
          rw [hh, Option.getD_some] at hgQ
          subst hgQ
          have hq9 : q.params.length ≤ 9223372036854775807 := by unfold maxLen at hk9; omega
          have c8 := b4.cell
          have HB8 := Lib.hid b4
          have HDP := Lib.hid hdp
          have HDR := Lib.hid hdr
          clear hOK hh b4 hk9 hl9 hdp hdr
          obtain ⟨P, hP⟩ : ∃ P, P = q.params.length := ⟨_, rfl⟩
          obtain ⟨P', hP'⟩ : ∃ P', P' = x.params.length := ⟨_, rfl⟩
          rw [← hP] at hq9 c8 HB8 HV4
          rw [← hP'] at hq7 f1 HE1
          rw [← hP]
          have HP := Lib.hid hP
          have HP' := Lib.hid hP'
          clear hP hP'
          by_cases hPP : P = P'
          · subst hPP
            clear hq9
            go_wp2_with fail
            rw [HV4.out]
            go_quiet (fail)
            generalize hW5 : V4.drewN _ = W5
            have b5 : Blk W5 V3.heap.size 50 #[.string q.name, .slice o9 P k9, .int .i64 da, .string dp, .string dq, .int .i64 dn, .slice o10 e10 k10] := by rw [← hW5]; exact HB8.out
            have hb5 : Below w.heap.size w W5 := by rw [← hW5]; exact below_drewN HB4.out _
            have HB5 := Lib.hid b5
            have HW5 := Lib.hid hb5
            have HP0 := Lib.hid (Nat.zero_le P)
            clear hW5 b5 hb5 HB8 HB4 HV4 c8 f1
            go_wp2
            go_loopw [13] (fun i wr => ∃ l : Nat, i = .int .i64 (l : Nat) ∧ Hid (l ≤ P) ∧ Hid (∀ (i : Nat) (a b : GY), i < l → q.params[i]? = some a → x.params[i]? = some b → alikeY a b = true) ∧ Hid (Below W5.heap.size W5 wr)) (fun i _ => P - (RowKit.intOf i).toNat)
            case atStart => exact ⟨0, rfl, HP0, fun i a b h => by omega, Below.refl _ _⟩
            case round =>
              obtain ⟨l, rfl, HL, HUL, HR5⟩ := hrel
              clear HP0
              have c8 := (blkB HB5.out HR5.out).cell
              have hww := stepB HW5.out HR5.out (Nat.le_refl _)
              have HWW := Lib.hid hww
              have hoo := old_step H0.out hww
              have f1 := HE1.out wr hww
              by_cases hl : l < P
              · have hl' : ((l : Int) < (P : Int)) := by omega
                have hl0 : (0 : Int) ≤ (l : Int) := by omega
                have hwl := IntWalk.i64_in ((l : Int) + 1) ⟨by omega, by omega⟩
                have e0 := at0 (HC.out wr hww 0 _ rfl)
                obtain ⟨y, hy⟩ : ∃ y, q.params[l]? = some y := ⟨_, List.getElem?_eq_getElem (by rw [← HP.out]; exact hl)⟩
                obtain ⟨z, hz⟩ : ∃ z, x.params[l]? = some z := ⟨_, List.getElem?_eq_getElem (by rw [← HP'.out]; exact hl)⟩
                obtain ⟨g1, a0, a1, a2, a3, a4, rfl, hc1, hyy⟩ := HDP.out.at_ l hy
                obtain ⟨g2, b0, b1, b2, b3, b4, rfl, hc2, hzz⟩ := HXP.out.at_ l hz
                rw [Nat.zero_add] at hc1 hc2
                have HC1 := Lib.hid (mvc hoo hc1)
                have HC2 := Lib.hid (mvc hoo hc2)
                have HF := Lib.hid (fun W (hb : Below wr.heap.size wr W) => alikeR_any _ y z _ _ W (Nat.lt_succ_self _) (hyy.below (stepB hoo hb (Nat.le_refl _))) (hzz.below (stepB hoo hb (Nat.le_refl _))))
                have HYY := Lib.hid hy
                have HZZ := Lib.hid hz
                clear hc1 hc2 hyy hzz hy hz hww hoo
                go_wp2_with fail
                refine wp_region_still_tail 13 (by kernel_rfl) (by kernel_rfl) ?_
                simp only [List.take_succ_cons, List.take_zero, List.drop_succ_cons, List.drop_zero]
                iterate 4 still_step
                refine stillLoadG 29 5 size5 Try.underlying29 rfl _ rfl (g1.add (l * 5)) rfl HC1.out rfl ?_
                iterate 7 still_step
                refine stillLoadG 29 5 size5 Try.underlying29 rfl _ rfl (g2.add (l * 5)) rfl HC2.out rfl ?_
                refine wpStill_nil ?_
                change wpList _ _ _ _ _ wr.drew
                go_wp2_with fail
                refine (HF.out _ (Below.refl _ _).drew).mono ?_
                rintro e w6 ⟨rfl, hb⟩
                have HR6 := Lib.hid (stepB HR5.out (undrewY hb) (Nat.le_refl _))
                cases hal : alikeY y z with
                | false =>
                  have HQ : Hid (R = false) := HNOT.out x HXI.out (by rw [HOK.out, alikes_not HYY.out HZZ.out hal]; rfl)
                  clear hb HC1 HC2 HF c8 f1 e0 hal
                  go_wp2
                  go_ret
                  rw [HQ.out]
                  exact ⟨rfl, stepB HW5.out HR6.out (Nat.le_refl _)⟩
                | true =>
                  have HU2 : Hid (∀ (i : Nat) (a b : GY), i < l + 1 → q.params[i]? = some a → x.params[i]? = some b → alikeY a b = true) := fun i a b hi hx hy => by
                    by_cases e : i < l
                    · exact HUL.out i a b e hx hy
                    · obtain rfl : i = l := by omega
                      rw [HYY.out] at hx
                      rw [HZZ.out] at hy
                      cases hx; cases hy
                      exact hal
                  clear hb HC1 HC2 HF c8 f1 e0 hal
                  go_wp2
                  case roundEnd => exact ⟨⟨l + 1, by push_cast; rfl, hl, HU2, HR6⟩, by simp [RowKit.intOf]; omega⟩
              · have hl' : ¬ ((l : Int) < (P : Int)) := by omega
                have e2 := atS (HC.out wr hww 2 _ rfl)
                have e3 := atS (HC.out wr hww 3 _ rfl)
                have e4 := atS (HC.out wr hww 4 _ rfl)
                have e5 := atS (HC.out wr hww 5 _ rfl)
                have e6 := atS (HC.out wr hww 6 _ rfl)
                have HOK2 : Hid (okM MT x = alikeY q.result x.result) := by
                  rw [HOK.out, alikes_all (HP.out.symm.trans HP'.out) fun i a b hx hy => HUL.out i a b (by have h1 := (List.getElem?_eq_some_iff.1 hx).1; rw [← HP.out] at h1; omega) hx hy]
                  exact Bool.true_and _
                have HF := Lib.hid (fun W (hb : Below wr.heap.size wr W) => alikeR_any _ q.result x.result _ _ W (Nat.lt_succ_self _) (HDR.out.below (stepB hoo hb (Nat.le_refl _))) (HXR.out.below (stepB hoo hb (Nat.le_refl _))))
                clear hl hww hoo HOK f1
                go_wp2_with fail
                refine wp_region_still_tail 7 (by kernel_rfl) (by kernel_rfl) ?_
                simp only [List.take_succ_cons, List.take_zero, List.drop_succ_cons, List.drop_zero]
                iterate 7 still_step
                refine wpStill_nil ?_
                change wpList _ _ _ _ _ wr.drew
                go_wp2_with fail
                refine (HF.out _ (Below.refl _ _).drew).mono ?_
                rintro e w6 ⟨rfl, hb⟩
                have HR6 := Lib.hid (stepB HWW.out (undrewY hb) (Nat.le_refl _))
                cases hal : alikeY q.result x.result with
                | false =>
                  have HQ : Hid (R = false) := HNOT.out x HXI.out (by rw [HOK2.out, hal])
                  clear hb HF c8 e2 e3 e4 e5 e6 hal
                  go_wp2
                  go_ret
                  rw [HQ.out]
                  exact ⟨rfl, HR6.out⟩
                | true =>
                  have HU2 : Hid (∀ (i : Nat) (m : MD), i < j + 1 → MI[i]? = some m → okM MT m = true) := fun i m hi hx => by
                    by_cases e : i < j
                    · exact HU.out i m e hx
                    · obtain rfl : i = j := by omega
                      rw [HXJ.out] at hx
                      cases hx
                      rw [HOK2.out, hal]
                  clear hb HF c8 e2 e3 e4 e5 e6 hal
                  go_wp2
                  case roundEnd => exact ⟨⟨j + 1, by push_cast; rfl, hj, HU2, HR6⟩, by simp [RowKit.intOf]; omega⟩
          · have HQ : Hid (R = false) := HNOT.out x HXI.out (by rw [HOK.out, alikes_ne (by rw [← HP.out, ← HP'.out]; exact hPP)]; rfl)
            have hnb : ((P : Int) != (P' : Int)) = true := by simpa using fun e => hPP (by omega)
            clear hPP HOK
            go_wp2_with fail
            rw [HV4.out]
            go_quiet (fail)
            go_wp2
            go_ret
            rw [HQ.out]
            exact ⟨rfl, below_drewN HB4.out _⟩
      · have hj' : ¬ ((j : Int) < (N : Int)) := by omega
        have HQ : Hid (R = true) := HALL.out HBI.out fun j m hm => HU.out j m (by have h1 := (List.getElem?_eq_some_iff.1 hm).1; rw [← HN.out] at h1; omega) hm
        clear hj
        go_wp2
        go_ret
        rw [HQ.out]
        exact ⟨rfl, HR.out⟩
set_option maxRecDepth 100000 in
set_option maxHeartbeats 8000000 in
theorem assignR_any (s : SCP) (t i : GY) (c : List Value) (v u : Value) (w0 w : World) (h : IsSc w0 s c) (ht : IsY w0 t v) (hi : IsY w0 i u) (h0 : Below w0.heap.size w0 w) :
    Calls Try.prog 27 #[.agg c.toArray, v, u] w fun e w' => e = .returned (.bool (assignS s t i)) ∧ Below w.heap.size w w' := by
  have HA := Lib.hid (fun W (hb : Below w.heap.size w W) => alikeR_any _ t i v u W (Nat.lt_succ_self _) (ht.below (old_step h0 hb)) (hi.below (old_step h0 hb)))
  have HM := Lib.hid (fun W (hb : Below w.heap.size w W) => meetsR_any s t i c v u w0 W h ht hi (old_step h0 hb))
  obtain ⟨o, o1, o2, o3, o4, k, n1, k1, n2, k2, k3, n4, k4, rfl, _⟩ := h
  obtain ⟨tk, tp, tq, tn, ta⟩ := t
  obtain ⟨ik, ip, iq, inn, ia⟩ := i
  obtain ⟨o5, k5, rfl, _⟩ := ht.parts
  obtain ⟨o6, k6, rfl, _⟩ := hi.parts
  have HD : Hid (assignS s (.mk tk tp tq tn ta) (.mk ik ip iq inn ia) = (!decide (tk = 7) && !decide (ik = 7) && (alikeY (.mk tk tp tq tn ta) (.mk ik ip iq inn ia) || meetsS s (.mk tk tp tq tn ta) (.mk ik ip iq inn ia)))) := rfl
  generalize assignS s (.mk tk tp tq tn ta) (.mk ik ip iq inn ia) = R at *
  generalize meetsS s (.mk tk tp tq tn ta) (.mk ik ip iq inn ia) = BM at *
  generalize alikeY (.mk tk tp tq tn ta) (.mk ik ip iq inn ia) = BA at *
  generalize s.W.length = nW at *
  generalize s.bounds.length = nbd at *
  generalize ta.length = na at *
  generalize ia.length = nb at *
  obtain ⟨W2, hW2, HBX⟩ := bx3 w #[.slice o nW k, .slice o1 n1 k1, .slice o2 n2 k2, .slice o3 nbd k3, .slice o4 n4 k4] #[.int .i64 tk, .string tp, .string tq, .int .i64 tn, .slice o5 na k5] #[.int .i64 ik, .string ip, .string iq, .int .i64 inn, .slice o6 nb k6] 27 29 29
  have hb1 := HBX.out.2.1
  rw [← hW2] at hb1
  have HB1 := Lib.hid hb1
  have HW2 := Lib.hid hW2
  clear ht hi h0 hW2 hb1
  by_cases h7 : tk = 7
  · subst h7
    have HQ : Hid (R = false) := HD.out
    go_enter Try.func27, Try.ntmps27
    go_wp2
    go_ret
    rw [HQ.out]
    exact ⟨rfl, HB1.out⟩
  · have h7b : (tk == 7) = false := by simpa using h7
    by_cases h8 : ik = 7
    · subst h8
      have HQ : Hid (R = false) := by show _ = _; rw [HD.out]; simp
      clear h7
      go_enter Try.func27, Try.ntmps27
      go_wp2
      go_ret
      rw [HQ.out]
      exact ⟨rfl, HB1.out⟩
    · have h8b : (ik == 7) = false := by simpa using h8
      have HD2 : Hid (R = (BA || BM)) := by rw [HD.out, decide_eq_false h7, decide_eq_false h8]; rfl
      clear h7 h8 HD
      go_enter Try.func27, Try.ntmps27
      go_wp2_with fail
      refine (HA.out _ HB1.out).mono ?_
      rintro e V ⟨rfl, hb⟩
      have hb2 := hb
      rw [HW2.out] at hb2
      have HV := Lib.hid (HBX.out.below hb2)
      have c0 := (HBX.out.at_ hb2 0 rfl).cell
      have c1 := (HBX.out.at_ hb2 1 rfl).cell
      have c2 := (HBX.out.at_ hb2 2 rfl).cell
      rw [Nat.add_zero] at c0
      clear hb hb2
      cases BA with
      | true =>
        have HQ : Hid (R = true) := HD2.out
        go_wp2
        go_ret
        rw [HQ.out]
        exact ⟨rfl, HV.out⟩
      | false =>
        have HQ : Hid (R = BM) := HD2.out
        go_wp2_with fail
        refine (HM.out _ HV.out).mono ?_
        rintro e V2 ⟨rfl, hb⟩
        have HV2 := Lib.hid (stepB HV.out hb (Nat.le_refl _))
        clear hb
        go_wp2
        go_ret
        rw [HQ.out]
        exact ⟨rfl, HV2.out⟩
end Go.Proofs.Ytmnhilgifjaocaa
