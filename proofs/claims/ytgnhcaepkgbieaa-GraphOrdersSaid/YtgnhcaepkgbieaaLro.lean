/-
  GraphOrders answers true: the order, who is stuck, who is cyclic are the document's. Condition: the argument's own lengths.
-/
import Derived.Test.YtgnhcaepkgbieaaLrc
import Derived.Test.YtgnhcaepkgbieaaNmo
namespace Go.Proofs.Ytgnhcaepkgbieaa.graphOrders
open Go.ChangeShapes Go.WideShapes Go.ChangeAt Go.RowKit
open Go.ChangeMaps (open_string shut_string)
open Go.Lib hiding intOf

set_option maxRecDepth 100000 in
set_option maxHeartbeats 8000000 in
theorem walk (l : List ND) (o : Option Addr) (n c : Nat) (w : World) (hA : Arg w o l n c) :
    Calls Try.prog 3 #[.slice o n c] w fun e w' => e = .returned (.bool true) ∧ Below w.heap.size w w' := by
  have HA := Lib.hid hA
  clear hA
  go_enter Try.func3, Try.ntmps3
  go_wp2_with fail
  refine (awakeL_any _).mono ?_
  rintro e w1 ⟨rfl, hB⟩
  have H1 := Lib.hid hB
  clear hB
  go_wp2_with fail
  refine (fewA_any HA.out w1 H1.out).mono ?_
  rintro e w3 ⟨o2, m, c2, rfl, hm, h60, hmc, hcm, hD2, hB⟩
  have HM := Lib.hid hm
  have H60 := Lib.hid h60
  have HXD := Lib.hid hD2
  have H4 := Lib.hid (H1.out.trans (hB.mono H1.out.size))
  have HF := Lib.hid (few_fewD HA.out.small)
  clear hm h60 hD2 hB HA H1 hmc hcm
  generalize fewD l = xs at *
  go_wp2_with fail
  refine (orderN HM.out HXD.out HF.out).mono ?_
  rintro e w5 ⟨O, S, o5, o6, n5, n6, c5, c6, rfl, hO, hS, hn1, hn2, hr, hs, hAO, hAS, hB, _⟩
  have HO := Lib.hid hO
  have HS := Lib.hid hS
  have HN1 := Lib.hid hn1
  have HN2 := Lib.hid hn2
  have HRUN := Lib.hid hr
  have HSTK := Lib.hid hs
  have HAO := Lib.hid hAO
  have HAS := Lib.hid hAS
  have HXD5 := Lib.hid (HXD.out.below hB)
  have H5 := Lib.hid (H4.out.trans (hB.mono H4.out.size))
  clear hO hS hn1 hn2 hr hs hAO hAS hB HXD H4
  go_wp2_with fail
  refine (orderR_any HM.out HXD5.out (by have := H60.out; omega)).mono ?_
  rintro e w6 ⟨O', S', o7, o8, n7, n8, c7, c8, rfl, hO, hS, hn1, hn2, hr, hs, hAO, hAS, hB⟩
  have heo : nms O = nms O' := HRUN.out.unique hr
  rw [← heo] at hs
  have hes : nms S = nms S' := HSTK.out.eq hs
  have HEO := Lib.hid heo
  have HES := Lib.hid hes
  have HQ1 := Lib.hid (sameR_n O O' o5 o7 n5 n7 c5 c7 w6 (HAO.out.below hB) hAO HO.out hO (by have := HN1.out; omega) (by omega))
  have HQ2 := Lib.hid (fun (W : World) (hb : Below w6.heap.size w6 W) => sameR_n S S' o6 o8 n6 n8 c6 c8 W ((HAS.out.below hB).below hb) (hAS.below hb) HS.out hS (by have := HN2.out; omega) (by omega))
  have HXD6 := Lib.hid (HXD5.out.below hB)
  have H6 := Lib.hid (H5.out.trans (hB.mono H5.out.size))
  clear hO hS hn1 hn2 hr hs hAO hAS hB heo hes HXD5 H5 HO HS HN1 HN2 HRUN HSTK HAO HAS
  go_wp2_with fail
  refine HQ1.out.mono ?_
  rintro e w7 ⟨rfl, hB⟩
  rw [decide_eq_true HEO.out]
  have HQ3 := Lib.hid (HQ2.out w7 hB)
  have HXD7 := Lib.hid (HXD6.out.below hB)
  have H7 := Lib.hid (H6.out.trans (hB.mono H6.out.size))
  clear hB HXD6 H6 HQ1 HQ2 HEO
  go_wp2_with fail
  refine HQ3.out.mono ?_
  rintro e w8 ⟨rfl, hB⟩
  rw [decide_eq_true HES.out]
  have HXD8 := Lib.hid (HXD7.out.below hB)
  have H8 := Lib.hid (H7.out.trans (hB.mono H7.out.size))
  clear hB HXD7 H7 HQ3 HES
  go_wp2_with fail
  refine (cyclicN HM.out HXD8.out HF.out).mono ?_
  rintro e w9 ⟨Y, o9, n9, c9, rfl, hY, hn9, hc, hAY, hB⟩
  have HY := Lib.hid hY
  have HN9 := Lib.hid hn9
  have HCY := Lib.hid hc
  have HAY := Lib.hid hAY
  have HXD9 := Lib.hid (HXD8.out.below hB)
  have H9 := Lib.hid (H8.out.trans (hB.mono H8.out.size))
  clear hY hn9 hc hAY hB HXD8 H8
  go_wp2_with fail
  refine (cyclicR_any HM.out HXD9.out (by have := H60.out; omega)).mono ?_
  rintro e w10 ⟨Y', o10, n10, c10, rfl, hY, hn9, hc, hAY, hB⟩
  have hey : nms Y = nms Y' := HCY.out.eq hc
  have HEY := Lib.hid hey
  have HQ4 := Lib.hid (sameR_n Y Y' o9 o10 n9 n10 c9 c10 w10 (HAY.out.below hB) hAY HY.out hY (by have := HN9.out; omega) (by omega))
  have H10 := Lib.hid (H9.out.trans (hB.mono H9.out.size))
  clear hY hn9 hc hAY hB hey HXD9 H9 HCY HAY HY HN9
  go_wp2_with fail
  refine HQ4.out.mono ?_
  rintro e w11 ⟨rfl, hB⟩
  rw [decide_eq_true HEY.out]
  have H11 := Lib.hid (H10.out.trans (hB.mono H10.out.size))
  clear hB H10 HQ4 HEY
  go_wp2
  go_ret
  exact ⟨by first | rfl | simp, H11.out⟩

theorem laidOut : laidOutB Try.prog = true := by kernel_rfl
theorem own : ownKnob Try.prog.godebug = none := by kernel_rfl

theorem int_range {n : Int} (h : (Lit.int .i64 n).wf = true) : -9223372036854775808 ≤ n ∧ n ≤ 9223372036854775807 := by
  have h2 : IntKind.i64.min ≤ n ∧ n ≤ IntKind.i64.max := by
    unfold Lit.wf at h
    simpa only [Bool.and_eq_true, decide_eq_true_eq] using h
  rw [show IntKind.i64.min = -9223372036854775808 by decide, show IntKind.i64.max = 9223372036854775807 by decide] at h2
  exact h2

set_option maxRecDepth 100000 in
theorem lifted (os : Os) (started : os.Started) (H : Type) (enc : TypeId × Value → H) :
    ReturnsInHanded {} Try.checked os 3 .any (Rows.graphOrdersSpec.pre6 enc Try.prog Try.f3 Rows.graphOrdersRow.domain false) (Rows.graphOrdersSpec.post enc Try.prog Try.f3 false true false false) := by
  refine returnsInHanded_of_change_sized (C := Try.checked) own started (by kernel_rfl) Try.func3
    (ChangeSpec.witness6 (enc := enc) (C := Try.checked) false ⟨#[], #[.slice none 0 0], []⟩ 8 (by kernel_rfl) (by kernel_rfl) (by kernel_rfl) (by kernel_rfl)) ?_
  intro W base args ds gs before hval0 hW hcnd hsz _
  have hval : ∀ (j : Nat) t v, Try.f3.params[j]? = some t → args[j]? = some v → Value.okWide Try.prog W .any base t v := hval0
  have hW' := hW
  obtain ⟨p, q, hA0, hV, rfl, hfz, hnd⟩ := hW
  have hA : DataW.TrodAll enc Try.prog W 0 (fun _ => true) true Try.f3.params.toList args.toList ds p := hA0
  rw [Try.params3] at hA hval
  obtain ⟨v0, vs0, d0, ds0, p0, q0, hargs, rfl, rfl, h0, r0⟩ := trodAll_cons hA
  obtain ⟨rfl, rfl, rfl⟩ := trodAll_nil r0
  obtain rfl : args = #[v0] := by cases args; simp_all
  obtain ⟨rfl, rfl⟩ := trodVars_none hV
  have t0 := h0
  obtain ⟨fl0, k0⟩ := h0
  obtain ⟨oo0, ll0, cc0, rfl⟩ := okWide_slice Try.underlying22 (hval 0 22 v0 rfl rfl)
  have kk0 : DataW.trod enc Try.prog W 0 (fun _ => true) true fl0 22 [.slice oo0 ll0 cc0] = some (d0, p0) := k0
  obtain ⟨o0, l0, c0, e0, g0, lc0, cm0, im0, sm0⟩ := open_nds kk0
  simp only [List.cons.injEq, and_true, Value.slice.injEq] at e0
  obtain ⟨rfl, rfl, rfl⟩ := e0
  have f0 : Arg W oo0 l0 l0.length cc0 := ⟨rfl, lc0, cm0, g0, im0, fun x hx => small_of (sm0 reachBytes (fun k hk => by simpa using List.all_eq_true.1 hsz k (DataW.weights_mem_each (j := 0) rfl rfl k hk)) x hx)⟩
  have lt0 : ∀ x ∈ p0, x.block < W.heap.size := fun x hx => by simpa using hW'.lt x (by simp [hx])
  clear hA0 hval0
  simp only [List.append_nil] at hW'
  refine (walk l0 oo0 l0.length cc0 W f0).mono fun e W' ⟨he, hg⟩ => ?_
  subst he
  exact ⟨_, rfl, _, _, _, [], _, [], hW', (trodAll_cons_mk (shut_bool Try.underlying4 _) trodAll_mk0), (trodAll_cons_mk (Below.trod laidOut (by kernel_rfl) (of_decide_eq_true (by kernel_rfl)) t0 hg lt0) trodAll_mk0), rfl, hg.frame _, fun h => by cases h⟩

theorem over : Rows.graphOrdersRow.holds Try.pinned (OpenSpec.ofChange Rows.graphOrdersSpec) :=
  OpenClaim.holds_of_wide 3 Try.f3 rfl rfl rfl rfl rfl rfl rfl ⟨rfl, rfl, rfl, rfl, rfl⟩ rfl rfl rfl rfl rfl (by kernel_rfl) Try.func3 (by kernel_rfl)
    (of_decide_eq_true (by kernel_rfl)) (by unfold Func.isWrapper; first | (rw [if_pos (by decide +kernel)]; kernel_rfl) | (rw [if_neg (by decide +kernel)]; exact ⟨rfl, rfl⟩))
    (fun os started H enc _ => lifted os started H enc)

/-- GraphOrders answers true. -/
theorem proved : Rows.GraphOrdersSaid :=
  over

end Go.Proofs.Ytgnhcaepkgbieaa.graphOrders
