/-
  SetsNone: each type meets an interface that asks for nothing; an interface none of whose methods has a name twice meets itself. No condition.
-/
import Derived.Test.YtmnhilgifjaocaaSpz
import Derived.BigQuiet
import Derived.WalkSmall
import Derived.ProofKit
import Derived.OpenShut
import Derived.ChangeMaps5
namespace Go.Proofs.Ytmnhilgifjaocaa.setsNone
open Go.RowKit
open Go.Lib hiding intOf

theorem nodup_of {l : List MD} (h : ∀ (a b : Nat) (x y : MD), a < b → l[a]? = some x → l[b]? = some y → x.name ≠ y.name) : (l.map (·.name)).Nodup := by
  unfold List.Nodup
  rw [List.pairwise_iff_getElem]
  intro a b ha hb hab
  rw [List.length_map] at ha hb
  rw [List.getElem_map, List.getElem_map]
  exact h a b _ _ hab (List.getElem?_eq_getElem ha) (List.getElem?_eq_getElem hb)
set_option maxRecDepth 100000 in
set_option maxHeartbeats 16000000 in
theorem walk (hp : Prg) (s : SCP) (c : List Value) (t : GY) (vt : Value) (i : GY) (vi : Value) (w : World) (hs : IsSc w s c) (hfs : FitS 140737488351232 s) (ht : IsY w t vt) (hi : IsY w i vi) :
    Calls Try.prog 6 #[.agg c.toArray, vt, vi] w fun e w' => e = .returned (.bool true) ∧ Below w.heap.size w w' := by
  have HP := Lib.hid hp
  have HS := Lib.hid hs
  have HFS := Lib.hid hfs
  clear hfs
  obtain ⟨o, o1, o2, o3, o4, k, n1, k1, n2, k2, k3, n4, k4, rfl, _⟩ := hs
  have HtY := Lib.hid ht
  obtain ⟨ta, tm, tp, tq, tz, te, tk, rfl⟩ := ht.expl
  have HiY := Lib.hid hi
  obtain ⟨ia, im, ip, iq, iz, ie, ik, rfl⟩ := hi.expl
  generalize s.W.length = l0 at *
  generalize s.bounds.length = l3 at *
  obtain ⟨W1, hW1, HBX⟩ := bx3 w #[.slice o l0 k, .slice o1 n1 k1, .slice o2 n2 k2, .slice o3 l3 k3, .slice o4 n4 k4] #[.int .i64 ta, .string tp, .string tq, .int .i64 tm, .slice tz te tk] #[.int .i64 ia, .string ip, .string iq, .int .i64 im, .slice iz ie ik] 27 29 29
  have HW := Lib.hid hW1
  clear hW1 hp ht hi
  go_enter Try.func6, Try.ntmps6
  go_wp2_with fail
  refine (awake_any HP.out _).mono ?_
  rintro e U0 ⟨rfl, hb⟩
  rw [HW.out] at hb
  have H0 := Lib.hid hb
  clear hb HW
  have c0 := (HBX.out.at_ H0.out 0 rfl).cell
  rw [Nat.add_zero] at c0
  have c1 := (HBX.out.at_ H0.out 1 rfl).cell
  have c2 := (HBX.out.at_ H0.out 2 rfl).cell
  go_wp2_with fail
  refine (small_any s [t, i] _ _ _ _ _ (HS.out.below ((HBX.out.below H0.out).alloc (HBX.out.below H0.out).size _)) (rowY2 (newAt rfl _ _) (HtY.out.below ((HBX.out.below H0.out).alloc (HBX.out.below H0.out).size _)) (HiY.out.below ((HBX.out.below H0.out).alloc (HBX.out.below H0.out).size _))) (by simp) (Below.refl _ _)).mono ?_
  rintro e U1 ⟨⟨b, rfl, h20⟩, hb⟩
  have H1 := Lib.hid (stepB (H0.out.alloc H0.out.size _) hb (Nat.le_refl _))
  clear hb c0 c1 c2
  have c0 := (HBX.out.at_ H1.out 0 rfl).cell
  rw [Nat.add_zero] at c0
  have c1 := (HBX.out.at_ H1.out 1 rfl).cell
  have c2 := (HBX.out.at_ H1.out 2 rfl).cell
  cases b with
  | false =>
    go_wp2
    go_ret
    exact ⟨rfl, HBX.out.below H1.out⟩
  | true =>
    go_wp2_with fail
    refine (HP.out.iface s i _ _ w _ HS.out HiY.out (HBX.out.below H1.out)).mono ?_
    rintro e U2 ⟨rfl, hb⟩
    have H2 := Lib.hid (stepB H1.out hb (Nat.le_refl _))
    clear hb c0 c1 c2
    have c0 := (HBX.out.at_ H2.out 0 rfl).cell
    rw [Nat.add_zero] at c0
    have c1 := (HBX.out.at_ H2.out 1 rfl).cell
    have c2 := (HBX.out.at_ H2.out 2 rfl).cell
    go_wp2_with fail
    refine (HP.out.meth s i _ _ w _ HS.out HiY.out (HBX.out.below H2.out) HFS.out).mono ?_
    rintro e U3 ⟨um, rfl, hm, hb⟩
    have H3 := Lib.hid (stepB H2.out hb (Nat.le_refl _))
    obtain ⟨om, km, rfl, hlm, hkm, hrm⟩ := hm
    have HRM := Lib.hid hrm
    clear hb c0 c1 c2
    have c0 := (HBX.out.at_ H3.out 0 rfl).cell
    rw [Nat.add_zero] at c0
    have c1 := (HBX.out.at_ H3.out 1 rfl).cell
    have c2 := (HBX.out.at_ H3.out 2 rfl).cell
    have hq : (methS s i).length ≤ 9223372036854775807 := by unfold maxLen at hkm; omega
    clear hrm hlm hkm
    cases hI : ifaceS s.W i with
    | false =>
      have HI := Lib.hid hI
      clear hI
      go_wp2_with fail
      refine (HP.out.meets s t i _ _ _ w _ HS.out HtY.out HiY.out (HBX.out.below H3.out) HFS.out).mono ?_
      rintro e U4 ⟨rfl, hb⟩
      have H4 := Lib.hid (stepB H3.out hb (Nat.le_refl _))
      clear hb c0 c1 c2
      have c0 := (HBX.out.at_ H4.out 0 rfl).cell
      rw [Nat.add_zero] at c0
      have c1 := (HBX.out.at_ H4.out 1 rfl).cell
      have c2 := (HBX.out.at_ H4.out 2 rfl).cell
      rw [meets_no HI.out]
      go_wp2
      go_ret
      exact ⟨rfl, HBX.out.below H4.out⟩
    | true =>
      have HI := Lib.hid hI
      clear hI
      obtain ⟨N, hN⟩ : ∃ N, (methS s i).length = N := ⟨_, rfl⟩
      have HN := Lib.hid hN
      rw [hN] at hq
      rw [hN]
      clear hN
      by_cases h0 : N = 0
      · subst h0
        have hnil : methS s i = [] := List.length_eq_zero_iff.1 HN.out
        have HNIL := Lib.hid hnil
        clear hnil
        go_wp2_with fail
        refine (HP.out.meets s t i _ _ _ w _ HS.out HtY.out HiY.out (HBX.out.below H3.out) HFS.out).mono ?_
        rintro e U4 ⟨rfl, hb⟩
        have H4 := Lib.hid (stepB H3.out hb (Nat.le_refl _))
        clear hb c0 c1 c2
        have c0 := (HBX.out.at_ H4.out 0 rfl).cell
        rw [Nat.add_zero] at c0
        have c1 := (HBX.out.at_ H4.out 1 rfl).cell
        have c2 := (HBX.out.at_ H4.out 2 rfl).cell
        rw [meets_none HI.out HNIL.out]
        go_wp2
        go_ret
        exact ⟨rfl, HBX.out.below H4.out⟩
      have hn0 : ¬ ((N : Int) = 0) := by omega
      have hnb : ((N : Int) == 0) = false := by simpa using h0
      have HB0 := Lib.hid (Nat.zero_le N)
      generalize hL : methS s i = L at *
      clear h0
      go_wp2
      go_loopw [13] (fun i wr => ∃ j : Nat, i = .int .i64 (j : Nat) ∧ Hid (j ≤ N) ∧ Hid (∀ (a b : Nat) (x y : MD), a < b → b < j → L[a]? = some x → L[b]? = some y → x.name ≠ y.name) ∧ Hid (Below U3.heap.size U3 wr)) (fun i _ => N - (RowKit.intOf i).toNat)
      case atStart => exact ⟨0, rfl, HB0, fun a b x y h1 h2 => by omega, Below.refl _ _⟩
      case round =>
        obtain ⟨j, rfl, HJ, HU, HR⟩ := hrel
        clear HB0 c0 c1 c2
        by_cases hj : j < N
        · have hj' : ((j : Int) < (N : Int)) := by omega
          have hj0 : (0 : Int) ≤ (j : Int) := by omega
          have hwj := IntWalk.i64_in ((j : Int) + 1) ⟨by omega, by omega⟩
          obtain ⟨y, hy⟩ : ∃ y, L[j]? = some y := ⟨_, List.getElem?_eq_getElem (by rw [HN.out]; exact hj)⟩
          have HYJ := Lib.hid hy
          obtain ⟨a, cy, rfl, _, hcy, hmy⟩ := HRM.out j y hy
          obtain ⟨o7, k7, ya, yp, yq, yn, o8, e8, k8, rfl⟩ := hmy.expl
          have HCY := Lib.hid (fun (W : World) (hb : Below U3.heap.size U3 W) => mvc hb hcy)
          have HZ0 := Lib.hid (Nat.zero_le j)
          clear hy hcy hmy
          go_wp2
          go_loopw [14] (fun i wr => ∃ q : Nat, i = .int .i64 (q : Nat) ∧ Hid (q ≤ j) ∧ Hid (∀ (a : Nat) (x : MD), a < q → L[a]? = some x → x.name ≠ y.name) ∧ Hid (Below U3.heap.size U3 wr)) (fun i _ => j - (RowKit.intOf i).toNat)
          case atStart => exact ⟨0, rfl, HZ0, fun a x h => by omega, HR⟩
          case round =>
            obtain ⟨q, rfl, HQ, HV, HR2⟩ := hrel
            clear HZ0
            by_cases hqj : q < j
            · have hq' : ((q : Int) < (j : Int)) := by omega
              have hq0 : (0 : Int) ≤ (q : Int) := by omega
              have hq1 : ((q : Int) < (N : Int)) := by omega
              have hwq := IntWalk.i64_in ((q : Int) + 1) ⟨by omega, by omega⟩
              obtain ⟨x, hx⟩ : ∃ x, L[q]? = some x := ⟨_, List.getElem?_eq_getElem (by rw [HN.out]; omega)⟩
              have HXQ := Lib.hid hx
              obtain ⟨a2, cx, e, _, hcx, hmx⟩ := HRM.out q x hx
              cases e
              obtain ⟨p7, j7, xa, xp, xq, xn, p8, f8, j8, rfl⟩ := hmx.expl
              have d0 := at0 (mvc HR2.out hcx 0 _ rfl)
              have e0 := at0 (HCY.out _ HR2.out 0 _ rfl)
              clear hx hcx hmx
              by_cases hm : x.name = y.name
              · rw [hm] at d0
                clear hm
                go_wp2_with fail
                go_quiet (fail)
                go_wp2
                go_ret
                exact ⟨rfl, below_drewN (HBX.out.below (stepB H3.out HR2.out (Nat.le_refl _))) _⟩
              · have hne := bytes_ne hm
                have HV2 : Hid (∀ (a : Nat) (z : MD), a < q + 1 → L[a]? = some z → z.name ≠ y.name) := fun a z ha hz => by
                  by_cases e : a < q
                  · exact HV.out a z e hz
                  · obtain rfl : a = q := by omega
                    rw [HXQ.out] at hz
                    cases hz
                    exact hm
                clear hm
                go_wp2_with fail
                go_quiet (fail)
                clear e0 d0
                go_wp2
                case roundEnd => exact ⟨⟨q + 1, by push_cast; rfl, hqj, HV2, below_drewN HR2.out _⟩, by simp [RowKit.intOf]; omega⟩
            · have hq' : ¬ ((q : Int) < (j : Int)) := by omega
              have HU2 : Hid (∀ (a b : Nat) (x y : MD), a < b → b < j + 1 → L[a]? = some x → L[b]? = some y → x.name ≠ y.name) := fun a b x z hab hb hx hz => by
                by_cases e : b < j
                · exact HU.out a b x z hab e hx hz
                · obtain rfl : b = j := by omega
                  rw [HYJ.out] at hz
                  cases hz
                  exact HV.out a x (by omega) hx
              clear hqj
              go_wp2
              case roundEnd => exact ⟨⟨j + 1, by push_cast; rfl, hj, HU2, HR2⟩, by simp [RowKit.intOf]; omega⟩
        · have hj' : ¬ ((j : Int) < (N : Int)) := by omega
          have HND : Hid (((methS s i).map (·.name)).Nodup) := by
            show List.Nodup _
            rw [hL]
            exact nodup_of fun a b x y hab hx hy => HU.out a b x y hab (by have h1 := (List.getElem?_eq_some_iff.1 hy).1; rw [HN.out] at h1; omega) hx hy
          have HRW := Lib.hid (stepB H3.out HR.out (Nat.le_refl _))
          have c0 := (HBX.out.at_ HRW.out 0 rfl).cell
          rw [Nat.add_zero] at c0
          have c1 := (HBX.out.at_ HRW.out 1 rfl).cell
          have c2 := (HBX.out.at_ HRW.out 2 rfl).cell
          clear hj
          go_wp2_with fail
          refine (HP.out.meets s i i _ _ _ w _ HS.out HiY.out HiY.out (HBX.out.below HRW.out) HFS.out).mono ?_
          rintro e UZ ⟨rfl, hb⟩
          have HZ := Lib.hid (stepB HRW.out hb (Nat.le_refl _))
          rw [meets_self HI.out HND.out]
          clear hb c0 c1 c2
          go_wp2
          go_ret
          exact ⟨rfl, HBX.out.below HZ.out⟩
open Go.ChangeShapes Go.WideShapes Go.ChangeAt Go.ChangeMaps
theorem laidOut : laidOutB Try.prog = true := by kernel_rfl
theorem own : ownKnob Try.prog.godebug = none := by kernel_rfl

theorem int_range {n : Int} (h : (Lit.int .i64 n).wf = true) : -9223372036854775808 ≤ n ∧ n ≤ 9223372036854775807 := by
  have h2 : IntKind.i64.min ≤ n ∧ n ≤ IntKind.i64.max := by
    unfold Lit.wf at h
    simpa only [Bool.and_eq_true, decide_eq_true_eq] using h
  rw [show IntKind.i64.min = -9223372036854775808 by decide, show IntKind.i64.max = 9223372036854775807 by decide] at h2
  exact h2

set_option maxRecDepth 100000 in
theorem lifted (os : Os) (started : os.Started) (H : Type) (enc : TypeId × Value → H) :
    ReturnsInHanded {} Try.checked os 6 .any (Rows.setsNoneSpec.pre6 enc Try.prog Try.f6 Rows.setsNoneRow.domain false) (Rows.setsNoneSpec.post enc Try.prog Try.f6 false true false false) := by
  refine returnsInHanded_of_change_sized (C := Try.checked) own started (by kernel_rfl) Try.func6
    (ChangeSpec.witness6 (enc := enc) (C := Try.checked) false ⟨#[], #[.agg #[.slice none 0 0, .slice none 0 0, .slice none 0 0, .slice none 0 0, .slice none 0 0], .agg #[.int .i64 0, .string .empty, .string .empty, .int .i64 0, .slice none 0 0], .agg #[.int .i64 0, .string .empty, .string .empty, .int .i64 0, .slice none 0 0]], []⟩ 8 (by kernel_rfl) (by kernel_rfl) (by kernel_rfl) (by kernel_rfl)) ?_
  intro W base args ds gs before hval0 hW hcnd hsz _
  have hval : ∀ (j : Nat) t v, Try.f6.params[j]? = some t → args[j]? = some v → Value.okWide Try.prog W .any base t v := hval0
  have hW' := hW
  obtain ⟨p, q, hA0, hV, rfl, hfz, hnd⟩ := hW
  have hA : DataW.TrodAll enc Try.prog W 0 (fun _ => true) true Try.f6.params.toList args.toList ds p := hA0
  rw [Try.params6] at hA hval
  obtain ⟨v0, vs0, d0, ds0, p0, q0, hargs, rfl, rfl, h0, r0⟩ := trodAll_cons hA
  obtain ⟨v1, vs1, d1, ds1, p1, q1, rfl, rfl, rfl, h1, r1⟩ := trodAll_cons r0
  obtain ⟨v2, vs2, d2, ds2, p2, q2, rfl, rfl, rfl, h2, r2⟩ := trodAll_cons r1
  obtain ⟨rfl, rfl, rfl⟩ := trodAll_nil r2
  obtain rfl : args = #[v0, v1, v2] := by cases args; simp_all
  obtain ⟨rfl, rfl⟩ := trodVars_none hV
  have t0 := h0
  obtain ⟨fl0, k0⟩ := h0
  have lt0 : ∀ x ∈ p0, x.block < W.heap.size := fun x hx => by simpa using hW'.lt x (by simp [hx])
  obtain ⟨cc0, rfl, _⟩ := okWide_struct Try.underlying27 (hval 0 27 v0 rfl rfl)
  have kk0 : DataW.trod enc Try.prog W 0 (fun _ => true) true fl0 27 cc0.toList = some (d0, p0) := k0
  obtain ⟨cl0, rfl⟩ : ∃ cl : List Value, cc0 = cl.toArray := ⟨cc0.toList, by simp⟩
  obtain ⟨sc0, g0, s0⟩ := open_sc fl0 _ _ kk0
  have m0 := s0 reachBytes (fun k hk => by simpa using List.all_eq_true.1 hsz k (DataW.weights_mem_each (j := 0) rfl rfl k hk))
  rw [show cl0.toArray.toList = cl0 from rfl] at g0
  have t1 := h1
  obtain ⟨fl1, k1⟩ := h1
  have lt1 : ∀ x ∈ p1, x.block < W.heap.size := fun x hx => by simpa using hW'.lt x (by simp [hx])
  obtain ⟨cc1, rfl, _⟩ := okWide_struct Try.underlying29 (hval 1 29 v1 rfl rfl)
  have kk1 : DataW.trod enc Try.prog W 0 (fun _ => true) true fl1 29 cc1.toList = some (d1, p1) := k1
  obtain ⟨y1, g1, _⟩ := open_y fl1 _ _ kk1
  rw [show cc1.toList.toArray = cc1 by simp] at g1
  have t2 := h2
  obtain ⟨fl2, k2⟩ := h2
  have lt2 : ∀ x ∈ p2, x.block < W.heap.size := fun x hx => by simpa using hW'.lt x (by simp [hx])
  obtain ⟨cc2, rfl, _⟩ := okWide_struct Try.underlying29 (hval 2 29 v2 rfl rfl)
  have kk2 : DataW.trod enc Try.prog W 0 (fun _ => true) true fl2 29 cc2.toList = some (d2, p2) := k2
  obtain ⟨y2, g2, _⟩ := open_y fl2 _ _ kk2
  rw [show cc2.toList.toArray = cc2 by simp] at g2
  clear hA0 hval0
  simp only [List.append_nil] at hW'
  refine (walk prg sc0 cl0 y1 _ y2 _ W g0 m0 g1 g2).mono fun e W' ⟨he, hg⟩ => ?_
  subst he
  exact ⟨_, rfl, _, _, _, [], _, [], hW', (trodAll_cons_mk (shut_bool Try.underlying4 _) trodAll_mk0), (trodAll_cons_mk (Below.trod laidOut (by kernel_rfl) (of_decide_eq_true (by kernel_rfl)) t0 hg lt0) (trodAll_cons_mk (Below.trod laidOut (by kernel_rfl) (of_decide_eq_true (by kernel_rfl)) t1 hg lt1) (trodAll_cons_mk (Below.trod laidOut (by kernel_rfl) (of_decide_eq_true (by kernel_rfl)) t2 hg lt2) trodAll_mk0))), rfl, hg.frame _, fun h => by cases h⟩

theorem over : Rows.setsNoneRow.holds Try.pinned (OpenSpec.ofChange Rows.setsNoneSpec) :=
  OpenClaim.holds_of_wide 6 Try.f6 rfl rfl rfl rfl rfl rfl rfl ⟨rfl, rfl, rfl, rfl, rfl⟩ rfl rfl rfl rfl rfl (by kernel_rfl) Try.func6 (by kernel_rfl)
    (of_decide_eq_true (by kernel_rfl)) (by unfold Func.isWrapper; first | (rw [if_pos (by decide +kernel)]; kernel_rfl) | (rw [if_neg (by decide +kernel)]; exact ⟨rfl, rfl⟩))
    (fun os started H enc _ => lifted os started H enc)

/-- SetsNone answers true. -/
theorem proved : Rows.SetsNoneSaid :=
  over

end Go.Proofs.Ytmnhilgifjaocaa.setsNone
