/-
  GraphSteps answers true: the order is what Ready tells, step by step. Condition: the argument's own lengths.
-/
import Derived.Test.YtgnhcaepkgbieaaLop
import Derived.BigQuiet
namespace Go.Proofs.Ytgnhcaepkgbieaa.graphSteps
open Go.ChangeShapes Go.WideShapes Go.ChangeAt Go.RowKit
open Go.ChangeMaps (open_string shut_string)
open Go.Lib hiding intOf

theorem take_some {α : Type} {l : List α} {j : Nat} {a : α} (h : l[j]? = some a) : j < l.length := (List.getElem?_eq_some_iff.1 h).1
theorem nms_take (l : List ByteArray) (j : Nat) : nms (l.take j) = (nms l).take j := List.map_take
theorem steps_end {l : List Nd} {o r : List Nm} (h : RunN l [] o) (hr : IsReady l o r) : r = [] := by
  cases r with
  | nil => rfl
  | cons a r => exact absurd ((hr.2 a).1 (List.mem_cons_self ..)) ((order_facts h).2.2.1 a)
theorem steps_at {l : List Nd} {o r : List Nm} {j : Nat} {a : Nm} (h : RunN l [] o) (hj : o[j]? = some a) (hr : IsReady l (o.take j) r) : ∃ r', r = a :: r' := by
  have h1 := h.at_ hj
  rw [List.nil_append] at h1
  cases r with
  | nil => exact absurd h1.1 (hr.none a)
  | cons b r => exact ⟨r, by rw [hr.first.unique h1]⟩

set_option maxRecDepth 100000 in
set_option maxHeartbeats 8000000 in
theorem walk (l : List ND) (o : Option Addr) (n c : Nat) (w : World) (hA : Arg w o l n c) :
    Calls Try.prog 8 #[.slice o n c] w fun e w' => e = .returned (.bool true) ∧ Below w.heap.size w w' := by
  have HA := Lib.hid hA
  clear hA
  go_enter Try.func8, Try.ntmps8
  go_wp2_with fail
  refine (awakeL_any _).mono ?_
  rintro e w1 ⟨rfl, hB⟩
  have H1 := Lib.hid hB
  clear hB
  go_wp2_with fail
  refine (fewA_any HA.out w1 H1.out).mono ?_
  rintro e w2 ⟨o2, m, c2, rfl, hm, h60, _, _, hD2, hB⟩
  have HM := Lib.hid hm
  have HD2 := Lib.hid hD2
  have H2 := Lib.hid (H1.out.trans (hB.mono H1.out.size))
  have HF := Lib.hid (few_fewD HA.out.small)
  clear hm h60 hD2 hB HA H1
  generalize fewD l = xs at *
  go_wp2_with fail
  refine (orderN HM.out HD2.out HF.out).mono ?_
  rintro e w3 ⟨O, S, o3, o4, n1, n2, c3, c4, rfl, hO, hS, hn1, hn2, hr, hs, hAO, hAS, hB, hcap⟩
  have HO := Lib.hid hO
  have HN1 := Lib.hid hn1
  have HRUN := Lib.hid hr
  have HAO := Lib.hid hAO
  have HCAP := Lib.hid hcap
  have HD3 := Lib.hid (HD2.out.below hB)
  have H3 := Lib.hid (H2.out.trans (hB.mono H2.out.size))
  have HZ : Hid (∀ s ∈ O, s.size ≤ maxLen) := fun s hs => by
    have h1 := (order_facts hr).2.1 (nm s) (nms_mem.2 hs)
    rw [← names_nd] at h1
    obtain ⟨x, hx, e⟩ := List.mem_map.1 h1
    obtain ⟨y, hy, rfl⟩ := List.mem_map.1 hx
    rw [← nm_inj e]
    exact le_maxLen (HF.out.imps y hy).2.1
  clear hO hS hn1 hn2 hr hs hAO hAS hB hcap HD2 H2
  go_wp2
  go_loopw [6] (fun i wr => ∃ j : Nat, i = .int .i64 (j : Nat) ∧ Hid (j ≤ n1) ∧ Hid (Below w3.heap.size w3 wr)) (fun i _ => n1 + 1 - (RowKit.intOf i).toNat)
  case atStart => exact ⟨0, rfl, Nat.zero_le _, Below.refl _ _⟩
  case round =>
    obtain ⟨j, rfl, HJ, HB⟩ := hrel
    have hjn := HJ.out
    have hnn := HN1.out
    have hj' : ((j : Int) ≤ (n1 : Int)) := by omega
    have hj0 : (0 : Int) ≤ (j : Int) := by omega
    have hwj := IntWalk.i64_in ((j : Int) + 1) ⟨by omega, by omega⟩
    have hjc : ((j : Int) ≤ (c3 : Int)) := by have := HCAP.out; omega
    have HRD := Lib.hid (readyN (c := c2) (nd := j) (ds := O.take j) (cd := c3) (od := o3) HM.out (HD3.out.below (HB.out.mono (Nat.le_refl _))) HF.out (by rw [List.length_take, HO.out]; omega) ((HAO.out.take j).below HB.out) (by omega) (fun s hs => HZ.out s (List.mem_of_mem_take hs)))
    clear hjn hnn
    go_wp2_with fail
    refine HRD.out.mono ?_
    rintro e w4 ⟨R, o5, n5, c5, rfl, hR, hr, hn5, hAR, hB⟩
    have HB4 := Lib.hid (HB.out.trans (hB.mono HB.out.size))
    by_cases hjn : j = n1
    · subst hjn
      have he : nms R = [] := by
        rw [List.take_of_length_le (by rw [HO.out]; exact Nat.le_refl _)] at hr
        exact steps_end HRUN.out hr
      have h0 : n5 = 0 := by
        rw [← hR]
        have := congrArg List.length he
        simpa [nms] using this
      subst h0
      clear he hR hr hn5 hAR hB HRD HB
      go_wp2
      go_ret
      exact ⟨by first | rfl | simp, H3.out.trans (HB4.out.mono H3.out.size)⟩
    · have hlt : j < O.length := by have := HO.out; have := HJ.out; omega
      have hne : ¬ ((j : Int) = (n1 : Int)) := by omega
      have hgj : O[j]? = some O[j] := List.getElem?_eq_getElem hlt
      rw [nms_take] at hr
      have hgn : (nms O)[j]? = some (nm O[j]) := by unfold nms; rw [List.getElem?_map, hgj]; rfl
      obtain ⟨r', he⟩ := steps_at HRUN.out hgn hr
      obtain ⟨a, ho, hc⟩ := HAO.out j _ hgj
      subst ho
      have hq := (HB4.out.cell (World.block_lt_of_cell? _ _ hc)).trans hc
      have hR0 : 0 < R.length := by
        have := congrArg List.length he
        simp [nms] at this
        omega
      have hg0 : R[0]? = some R[0] := List.getElem?_eq_getElem hR0
      have hx : R[0] = O[j] := by
        have := congrArg (fun l => l[0]?) he
        unfold nms at this
        simp only [List.getElem?_map, hg0, Option.map_some, List.getElem?_cons_zero, Option.some.injEq] at this
        exact nm_inj this
      obtain ⟨a5, ho5, hc5⟩ := hAR 0 _ hg0
      subst ho5
      rw [hx] at hc5
      have z0 : a5.add 0 = a5 := by obtain ⟨x, y, z⟩ := a5; cases z <;> simp [Addr.add]
      rw [z0] at hc5
      have h50 : (0 : Int) < (n5 : Int) := by omega
      have h51 : ¬ ((n5 : Int) = 0) := by omega
      have h52 : decide ((n5 : Int) = 0) = false := decide_eq_false h51
      have h53 : ((n5 : Int) == 0) = false := by simpa using h51
      have hjl : ((j : Int) < (n1 : Int)) := by have := HJ.out; omega
      have HJL := Lib.hid hjl
      generalize O[j] = y at *
      clear he hR hr hn5 hAR hB HRD HB hlt hgj hgn hR0 hg0 hx z0 hc r'
      go_wp2_with fail
      go_quiet (fail)
      go_wp2
      case roundEnd => exact ⟨⟨j + 1, by push_cast; rfl, by have := HJL.out; show _ ≤ _; omega, HB4.out.trans (quietB _ _ HB4.out.size)⟩, by have := HJL.out; simp [RowKit.intOf]; omega⟩

theorem laidOut : laidOutB Try.prog = true := by kernel_rfl
theorem own : ownKnob Try.prog.godebug = none := by kernel_rfl

theorem int_range {n : Int} (h : (Lit.int .i64 n).wf = true) : -9223372036854775808 ≤ n ∧ n ≤ 9223372036854775807 := by
  have h2 : IntKind.i64.min ≤ n ∧ n ≤ IntKind.i64.max := by
    unfold Lit.wf at h
    simpa only [Bool.and_eq_true, decide_eq_true_eq] using h
  rw [show IntKind.i64.min = -9223372036854775808 by decide, show IntKind.i64.max = 9223372036854775807 by decide] at h2
  exact h2

set_option maxRecDepth 100000 in
theorem lifted (os : Os) (started : os.Started) (H : Type) (enc : TypeId × Value → H) :
    ReturnsInHanded {} Try.checked os 8 .any (Rows.graphStepsSpec.pre6 enc Try.prog Try.f8 Rows.graphStepsRow.domain false) (Rows.graphStepsSpec.post enc Try.prog Try.f8 false true false false) := by
  refine returnsInHanded_of_change_sized (C := Try.checked) own started (by kernel_rfl) Try.func8
    (ChangeSpec.witness6 (enc := enc) (C := Try.checked) false ⟨#[], #[.slice none 0 0], []⟩ 8 (by kernel_rfl) (by kernel_rfl) (by kernel_rfl) (by kernel_rfl)) ?_
  intro W base args ds gs before hval0 hW hcnd hsz _
  have hval : ∀ (j : Nat) t v, Try.f8.params[j]? = some t → args[j]? = some v → Value.okWide Try.prog W .any base t v := hval0
  have hW' := hW
  obtain ⟨p, q, hA0, hV, rfl, hfz, hnd⟩ := hW
  have hA : DataW.TrodAll enc Try.prog W 0 (fun _ => true) true Try.f8.params.toList args.toList ds p := hA0
  rw [Try.params8] at hA hval
  obtain ⟨v0, vs0, d0, ds0, p0, q0, hargs, rfl, rfl, h0, r0⟩ := trodAll_cons hA
  obtain ⟨rfl, rfl, rfl⟩ := trodAll_nil r0
  obtain rfl : args = #[v0] := by cases args; simp_all
  obtain ⟨rfl, rfl⟩ := trodVars_none hV
  have t0 := h0
  obtain ⟨fl0, k0⟩ := h0
  obtain ⟨oo0, ll0, cc0, rfl⟩ := okWide_slice Try.underlying22 (hval 0 22 v0 rfl rfl)
  have kk0 : DataW.trod enc Try.prog W 0 (fun _ => true) true fl0 22 [.slice oo0 ll0 cc0] = some (d0, p0) := k0
  obtain ⟨o0, l0, c0, e0, g0, lc0, cm0, im0, sm0⟩ := open_nds kk0
  simp only [List.cons.injEq, and_true, Value.slice.injEq] at e0
  obtain ⟨rfl, rfl, rfl⟩ := e0
  have f0 : Arg W oo0 l0 l0.length cc0 := ⟨rfl, lc0, cm0, g0, im0, fun x hx => small_of (sm0 reachBytes (fun k hk => by simpa using List.all_eq_true.1 hsz k (DataW.weights_mem_each (j := 0) rfl rfl k hk)) x hx)⟩
  have lt0 : ∀ x ∈ p0, x.block < W.heap.size := fun x hx => by simpa using hW'.lt x (by simp [hx])
  clear hA0 hval0
  simp only [List.append_nil] at hW'
  refine (walk l0 oo0 l0.length cc0 W f0).mono fun e W' ⟨he, hg⟩ => ?_
  subst he
  exact ⟨_, rfl, _, _, _, [], _, [], hW', (trodAll_cons_mk (shut_bool Try.underlying4 _) trodAll_mk0), (trodAll_cons_mk (Below.trod laidOut (by kernel_rfl) (of_decide_eq_true (by kernel_rfl)) t0 hg lt0) trodAll_mk0), rfl, hg.frame _, fun h => by cases h⟩

theorem over : Rows.graphStepsRow.holds Try.pinned (OpenSpec.ofChange Rows.graphStepsSpec) :=
  OpenClaim.holds_of_wide 8 Try.f8 rfl rfl rfl rfl rfl rfl rfl ⟨rfl, rfl, rfl, rfl, rfl⟩ rfl rfl rfl rfl rfl (by kernel_rfl) Try.func8 (by kernel_rfl)
    (of_decide_eq_true (by kernel_rfl)) (by unfold Func.isWrapper; first | (rw [if_pos (by decide +kernel)]; kernel_rfl) | (rw [if_neg (by decide +kernel)]; exact ⟨rfl, rfl⟩))
    (fun os started H enc _ => lifted os started H enc)

/-- GraphSteps answers true. -/
theorem proved : Rows.GraphStepsSaid :=
  over

end Go.Proofs.Ytgnhcaepkgbieaa.graphSteps
