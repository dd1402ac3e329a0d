/-
  GraphReadies answers true: who is ready, who uses. Condition: the arguments' own lengths.
-/
import Derived.Test.YtgnhcaepkgbieaaLop
namespace Go.Proofs.Ytgnhcaepkgbieaa.graphReadies
open Go.ChangeShapes Go.WideShapes Go.ChangeAt Go.RowKit
open Go.ChangeMaps (open_string shut_string)
open Go.Lib hiding intOf

theorem readyRN {xs : List ND} {o : Option Addr} {m c : Nat} {ds : List ByteArray} {od : Option Addr} {nd cd : Nat} {w : World} (hm : xs.length = m) (h : AtD w o xs) (hl : m ≤ 800000) (hnd : ds.length = nd) (hd : AtS w od ds) (hdl : nd ≤ 800000) :
    Calls Try.prog 18 #[.slice o m c, .slice od nd cd] w fun e w' => ∃ (R : List ByteArray) (o' : Option Addr) (n c' : Nat), e = .returned (.slice o' n c') ∧ R.length = n ∧ IsReady (xs.map toNd) (nms ds) (nms R) ∧ n ≤ m ∧ AtS w' o' R ∧ Below w.heap.size w w' := by
  subst hm
  subst hnd
  refine (readyR_any xs o c ds od cd w h hd hl hdl).mono ?_
  rintro e w' ⟨R, o', n, c', rfl, h1, h2, h3, h4, h5⟩
  exact ⟨R, o', n, c', rfl, h1, by rw [h2]; exact readyF_is _ _, h3, h4, h5⟩
theorem usersRN {xs : List ND} {o : Option Addr} {m c : Nat} {s : ByteArray} {w : World} (hm : xs.length = m) (h : AtD w o xs) (hl : m ≤ 800000) :
    Calls Try.prog 20 #[.slice o m c, .string s] w fun e w' => ∃ (R : List ByteArray) (o' : Option Addr) (n c' : Nat), e = .returned (.slice o' n c') ∧ R.length = n ∧ UsersIs (xs.map toNd) (nm s) (nms R) ∧ n ≤ m ∧ AtS w' o' R ∧ Below w.heap.size w w' := by
  subst hm
  refine (usersR_any xs o c s w h hl).mono ?_
  rintro e w' ⟨R, o', n, c', rfl, h1, h2, h3, h4, h5⟩
  exact ⟨R, o', n, c', rfl, h1, by rw [h2]; exact usersF_is _ _, h3, h4, h5⟩

set_option maxRecDepth 100000 in
set_option maxHeartbeats 8000000 in
theorem walk (l : List ND) (o : Option Addr) (n c : Nat) (ds : List ByteArray) (od : Option Addr) (nd cd : Nat) (s : ByteArray) (w : World) (hA : Arg w o l n c) (hd : AtS w od ds) (hnd : ds.length = nd) (hdc : nd ≤ cd) (hdm : cd ≤ 9223372036854775807) (hds : ∀ x ∈ ds, x.size ≤ maxLen) :
    Calls Try.prog 4 #[.slice o n c, .slice od nd cd, .string s] w fun e w' => e = .returned (.bool true) ∧ Below w.heap.size w w' := by
  have HA := Lib.hid hA
  have HD := Lib.hid hd
  have HND := Lib.hid hnd
  have HDS := Lib.hid hds
  clear hA hd hnd hds
  go_enter Try.func4, Try.ntmps4
  go_wp2_with fail
  refine (awakeL_any _).mono ?_
  rintro e w1 ⟨rfl, hB⟩
  have H1 := Lib.hid hB
  clear hB
  go_wp2_with fail
  refine (fewA_any HA.out w1 H1.out).mono ?_
  rintro e w2 ⟨o2, m, c2, rfl, hm, h60, _, _, hD2, hB⟩
  have HM := Lib.hid hm
  have H60 := Lib.hid h60
  have HD2 := Lib.hid hD2
  have H2 := Lib.hid (H1.out.trans (hB.mono H1.out.size))
  have HF := Lib.hid (few_fewD HA.out.small)
  have HDO2 := Lib.hid (HD.out.below H2.out)
  clear hm h60 hD2 hB HA HD H1
  generalize fewD l = xs at *
  go_upto_if 15 with fail
  go_cut [1] from 13 to 17 (fun v wx => ∃ (dt : List ByteArray) (k : Nat), v = .slice od k cd ∧ Hid (dt.length = k) ∧ Hid (k ≤ 100) ∧ Hid (AtS w2 od dt) ∧ Hid (∀ x ∈ dt, x.size ≤ maxLen) ∧ wx = w2)
  case first =>
    by_cases h100 : 100 < nd
    · have h1 : (100 : Int) < (nd : Int) := by omega
      have h2 : (100 : Int) ≤ (cd : Int) := by omega
      go_wp2
      go_meet
      exact ⟨ds.take 100, 100, rfl, by show _ = _; rw [List.length_take, HND.out]; omega, Nat.le_refl _, HDO2.out.take 100, fun x hx => HDS.out x (List.mem_of_mem_take hx), rfl⟩
    · have h1 : ¬ ((100 : Int) < (nd : Int)) := by omega
      go_wp2
      go_meet
      exact ⟨ds, nd, rfl, HND, by show _ ≤ _; omega, HDO2, HDS, rfl⟩
  case rest =>
    obtain ⟨dt, k, rfl, HK, HK1, HDT, HDZ, rfl⟩ := hcut
    clear HND HDS HDO2
    go_wp2_with fail
    refine (readyN HM.out HD2.out HF.out HK.out HDT.out (by have := HK1.out; omega) HDZ.out).mono ?_
    rintro e w3 ⟨R, o3, n3, c3, rfl, hR, hr, hn3, hAR, hB⟩
    have HR := Lib.hid hR
    have HRR := Lib.hid hr
    have HN3 := Lib.hid hn3
    have HAR := Lib.hid hAR
    have HD3 := Lib.hid (HD2.out.below hB)
    have HDT3 := Lib.hid (HDT.out.below hB)
    have H3 := Lib.hid (H2.out.trans (hB.mono H2.out.size))
    clear hR hr hn3 hAR hB HD2 HDT H2
    go_wp2_with fail
    refine (readyRN HM.out HD3.out (by have := H60.out; omega) HK.out HDT3.out (by have := HK1.out; omega)).mono ?_
    rintro e w4 ⟨R', o4, n4, c4, rfl, hR, hr, hn4, hAR4, hB⟩
    have he : nms R = nms R' := HRR.out.eq hr
    have HE := Lib.hid he
    have HD4 := Lib.hid (HD3.out.below hB)
    have HS4 := Lib.hid (sameR_n R R' o3 o4 n3 n4 c3 c4 w4 (HAR.out.below hB) hAR4 HR.out hR (by have := HN3.out; omega) (by have := H60.out; omega))
    have H4 := Lib.hid (H3.out.trans (hB.mono H3.out.size))
    clear hR hr hn4 hAR4 hB he HD3 HDT3 H3 HRR HR HN3 HAR
    go_wp2_with fail
    refine HS4.out.mono ?_
    rintro e w5 ⟨rfl, hB⟩
    rw [decide_eq_true HE.out]
    have HD5 := Lib.hid (HD4.out.below hB)
    have H5 := Lib.hid (H4.out.trans (hB.mono H4.out.size))
    clear hB HD4 H4 HS4 HE
    go_wp2_with fail
    refine (usersN HM.out HD5.out HF.out).mono ?_
    rintro e w6 ⟨R, o3, n3, c3, rfl, hR, hr, hn3, hAR, hB⟩
    have HR := Lib.hid hR
    have HRR := Lib.hid hr
    have HN3 := Lib.hid hn3
    have HAR := Lib.hid hAR
    have HD6 := Lib.hid (HD5.out.below hB)
    have H6 := Lib.hid (H5.out.trans (hB.mono H5.out.size))
    clear hR hr hn3 hAR hB HD5 H5
    go_wp2_with fail
    refine (usersRN HM.out HD6.out (by have := H60.out; omega)).mono ?_
    rintro e w7 ⟨R', o4, n4, c4, rfl, hR, hr, hn4, hAR4, hB⟩
    have he : nms R = nms R' := HRR.out.eq hr
    have HE := Lib.hid he
    have HS4 := Lib.hid (sameR_n R R' o3 o4 n3 n4 c3 c4 w7 (HAR.out.below hB) hAR4 HR.out hR (by have := HN3.out; omega) (by have := H60.out; omega))
    have H7 := Lib.hid (H6.out.trans (hB.mono H6.out.size))
    clear hR hr hn4 hAR4 hB he HD6 H6 HRR HR HN3 HAR
    go_wp2_with fail
    refine HS4.out.mono ?_
    rintro e w8 ⟨rfl, hB⟩
    rw [decide_eq_true HE.out]
    have H8 := Lib.hid (H7.out.trans (hB.mono H7.out.size))
    clear hB H7 HS4 HE
    go_wp2
    go_ret
    exact ⟨by first | rfl | simp, H8.out⟩

theorem laidOut : laidOutB Try.prog = true := by kernel_rfl
theorem own : ownKnob Try.prog.godebug = none := by kernel_rfl

theorem int_range {n : Int} (h : (Lit.int .i64 n).wf = true) : -9223372036854775808 ≤ n ∧ n ≤ 9223372036854775807 := by
  have h2 : IntKind.i64.min ≤ n ∧ n ≤ IntKind.i64.max := by
    unfold Lit.wf at h
    simpa only [Bool.and_eq_true, decide_eq_true_eq] using h
  rw [show IntKind.i64.min = -9223372036854775808 by decide, show IntKind.i64.max = 9223372036854775807 by decide] at h2
  exact h2

set_option maxRecDepth 100000 in
theorem lifted (os : Os) (started : os.Started) (H : Type) (enc : TypeId × Value → H) :
    ReturnsInHanded {} Try.checked os 4 .any (Rows.graphReadiesSpec.pre6 enc Try.prog Try.f4 Rows.graphReadiesRow.domain false) (Rows.graphReadiesSpec.post enc Try.prog Try.f4 false true false false) := by
  refine returnsInHanded_of_change_sized (C := Try.checked) own started (by kernel_rfl) Try.func4
    (ChangeSpec.witness6 (enc := enc) (C := Try.checked) false ⟨#[], #[.slice none 0 0, .slice none 0 0, .string .empty], []⟩ 8 (by kernel_rfl) (by kernel_rfl) (by kernel_rfl) (by kernel_rfl)) ?_
  intro W base args ds gs before hval0 hW hcnd hsz _
  have hval : ∀ (j : Nat) t v, Try.f4.params[j]? = some t → args[j]? = some v → Value.okWide Try.prog W .any base t v := hval0
  have hW' := hW
  obtain ⟨p, q, hA0, hV, rfl, hfz, hnd⟩ := hW
  have hA : DataW.TrodAll enc Try.prog W 0 (fun _ => true) true Try.f4.params.toList args.toList ds p := hA0
  rw [Try.params4] at hA hval
  obtain ⟨v0, vs0, d0, ds0, p0, q0, hargs, rfl, rfl, h0, r0⟩ := trodAll_cons hA
  obtain ⟨v1, vs1, d1, ds1, p1, q1, rfl, rfl, rfl, h1, r1⟩ := trodAll_cons r0
  obtain ⟨v2, vs2, d2, ds2, p2, q2, rfl, rfl, rfl, h2, r2⟩ := trodAll_cons r1
  obtain ⟨rfl, rfl, rfl⟩ := trodAll_nil r2
  obtain rfl : args = #[v0, v1, v2] := by cases args; simp_all
  obtain ⟨rfl, rfl⟩ := trodVars_none hV
  have t0 := h0
  obtain ⟨fl0, k0⟩ := h0
  obtain ⟨oo0, ll0, cc0, rfl⟩ := okWide_slice Try.underlying22 (hval 0 22 v0 rfl rfl)
  have kk0 : DataW.trod enc Try.prog W 0 (fun _ => true) true fl0 22 [.slice oo0 ll0 cc0] = some (d0, p0) := k0
  obtain ⟨o0, l0, c0, e0, g0, lc0, cm0, im0, sm0⟩ := open_nds kk0
  simp only [List.cons.injEq, and_true, Value.slice.injEq] at e0
  obtain ⟨rfl, rfl, rfl⟩ := e0
  have f0 : Arg W oo0 l0 l0.length cc0 := ⟨rfl, lc0, cm0, g0, im0, fun x hx => small_of (sm0 reachBytes (fun k hk => by simpa using List.all_eq_true.1 hsz k (DataW.weights_mem_each (j := 0) rfl rfl k hk)) x hx)⟩
  have lt0 : ∀ x ∈ p0, x.block < W.heap.size := fun x hx => by simpa using hW'.lt x (by simp [hx])
  have t1 := h1
  obtain ⟨fl1, k1⟩ := h1
  obtain ⟨oo1, ll1, cc1, rfl⟩ := okWide_slice Try.underlying25 (hval 1 25 v1 rfl rfl)
  have kk1 : DataW.trod enc Try.prog W 0 (fun _ => true) true fl1 25 [.slice oo1 ll1 cc1] = some (d1, p1) := k1
  obtain ⟨o1, l1, c1, e1, g1, lc1, cm1, sm1⟩ := open_ns kk1
  simp only [List.cons.injEq, and_true, Value.slice.injEq] at e1
  obtain ⟨rfl, rfl, rfl⟩ := e1
  have f1 := small_names (sm1 reachBytes (fun k hk => by simpa using List.all_eq_true.1 hsz k (DataW.weights_mem_each (j := 1) rfl rfl k hk)))
  have lt1 : ∀ x ∈ p1, x.block < W.heap.size := fun x hx => by simpa using hW'.lt x (by simp [hx])
  obtain ⟨a2, rfl, rfl, rfl, w2⟩ := open_string Try.underlying9 (hval 2 9 v2 rfl rfl) h2
  have f2 : a2.size ≤ 281474976710656 := by
    have h := sized_string hsz (j := 2) rfl rfl
    have hr : reachBytes ≤ 140737488355328 := by decide
    have e : a2.data.toList.length = a2.size := by rw [Array.length_toList]; rfl
    omega
  clear hA0 hval0
  simp only [List.append_nil] at hW'
  refine (walk l0 oo0 l0.length cc0 l1 oo1 l1.length cc1 a2 W f0 g1 rfl lc1 cm1 f1 ).mono fun e W' ⟨he, hg⟩ => ?_
  subst he
  exact ⟨_, rfl, _, _, _, [], _, [], hW', (trodAll_cons_mk (shut_bool Try.underlying4 _) trodAll_mk0), (trodAll_cons_mk (Below.trod laidOut (by kernel_rfl) (of_decide_eq_true (by kernel_rfl)) t0 hg lt0) (trodAll_cons_mk (Below.trod laidOut (by kernel_rfl) (of_decide_eq_true (by kernel_rfl)) t1 hg lt1) (trodAll_cons_mk (shut_string Try.underlying9 w2) trodAll_mk0))), rfl, hg.frame _, fun h => by cases h⟩

theorem over : Rows.graphReadiesRow.holds Try.pinned (OpenSpec.ofChange Rows.graphReadiesSpec) :=
  OpenClaim.holds_of_wide 4 Try.f4 rfl rfl rfl rfl rfl rfl rfl ⟨rfl, rfl, rfl, rfl, rfl⟩ rfl rfl rfl rfl rfl (by kernel_rfl) Try.func4 (by kernel_rfl)
    (of_decide_eq_true (by kernel_rfl)) (by unfold Func.isWrapper; first | (rw [if_pos (by decide +kernel)]; kernel_rfl) | (rw [if_neg (by decide +kernel)]; exact ⟨rfl, rfl⟩))
    (fun os started H enc _ => lifted os started H enc)

/-- GraphReadies answers true. -/
theorem proved : Rows.GraphReadiesSaid :=
  over

end Go.Proofs.Ytgnhcaepkgbieaa.graphReadies
