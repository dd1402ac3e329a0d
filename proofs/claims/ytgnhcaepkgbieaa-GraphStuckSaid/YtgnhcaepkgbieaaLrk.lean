/-
  GraphStuck answers true: stuck are just those that are cyclic, or import one that is stuck. Condition: the argument's own lengths.
-/
import Derived.Test.YtgnhcaepkgbieaaLrc
namespace Go.Proofs.Ytgnhcaepkgbieaa.graphStuck
open Go.ChangeShapes Go.WideShapes Go.ChangeAt Go.RowKit
open Go.ChangeMaps (open_string shut_string)
open Go.Lib hiding intOf

theorem take_more {xs : List ByteArray} {k : Nat} {z : ByteArray} (h : xs[k]? = some z) (P : ByteArray → Prop) : (∃ s ∈ xs.take (k + 1), P s) ↔ (∃ s ∈ xs.take k, P s) ∨ P z := by
  rw [List.take_add_one, h]
  simp only [Option.toList_some, List.mem_append, List.mem_singleton]
  constructor
  · rintro ⟨s, hs | rfl, hp⟩
    · exact .inl ⟨s, hs, hp⟩
    · exact .inr hp
  · rintro (⟨s, hs, hp⟩ | hp)
    · exact ⟨s, .inl hs, hp⟩
    · exact ⟨z, .inr rfl, hp⟩
theorem imps_ex {y : ND} {P : Nm → Prop} : (∃ b ∈ (toNd y).imps, P b) ↔ ∃ s ∈ y.imps, P (nm s) := by
  unfold toNd nms
  constructor
  · rintro ⟨b, hb, h⟩
    obtain ⟨s, hs, rfl⟩ := List.mem_map.1 hb
    exact ⟨s, hs, h⟩
  · rintro ⟨s, hs, h⟩
    exact ⟨nm s, List.mem_map.2 ⟨s, hs, rfl⟩, h⟩

set_option maxRecDepth 100000 in
set_option maxHeartbeats 8000000 in
set_option linter.unusedSimpArgs false in
theorem walk (l : List ND) (o : Option Addr) (n c : Nat) (w : World) (hA : Arg w o l n c) :
    Calls Try.prog 6 #[.slice o n c] w fun e w' => e = .returned (.bool true) ∧ Below w.heap.size w w' := by
  have HA := Lib.hid hA
  clear hA
  go_enter Try.func6, Try.ntmps6
  go_wp2_with fail
  refine (awakeL_any _).mono ?_
  rintro e w1 ⟨rfl, hB⟩
  have H1 := Lib.hid hB
  clear hB
  go_wp2_with fail
  refine (fewA_any HA.out w1 H1.out).mono ?_
  rintro e w2 ⟨o2, m, c2, rfl, hm, h60, hmc, hcm, hD2, hB⟩
  have HM := Lib.hid hm
  have H60 := Lib.hid h60
  have HMC := Lib.hid hmc
  have HD2 := Lib.hid hD2
  have H2 := Lib.hid (H1.out.trans (hB.mono H1.out.size))
  have HF := Lib.hid (few_fewD HA.out.small)
  clear hm h60 hD2 hB HA H1 hmc hcm
  generalize fewD l = xs at *
  go_wp2_with fail
  refine (orderN HM.out HD2.out HF.out).mono ?_
  rintro e w3 ⟨O, S, o3, o4, n1, n2, c3, c4, rfl, hO, hS, hn1, hn2, hr, hs, hAO, hAS, hB, hcap⟩
  have HS := Lib.hid hS
  have HN2 := Lib.hid hn2
  have HRUN := Lib.hid hr
  have HSTK := Lib.hid hs
  have HAS3 := Lib.hid hAS
  have HD3 := Lib.hid (HD2.out.below hB)
  have H3 := Lib.hid (H2.out.trans (hB.mono H2.out.size))
  clear hO hS hn1 hn2 hr hs hAO hAS hB hcap HD2 H2
  go_wp2_with fail
  refine (cyclicN HM.out HD3.out HF.out).mono ?_
  rintro e w4 ⟨Y, o5, n5, c5, rfl, hY, hn5, hc, hAY, hB⟩
  have HY := Lib.hid hY
  have HN5 := Lib.hid hn5
  have HAY := Lib.hid hAY
  have HAS := Lib.hid (HAS3.out.below hB)
  have HD4 := Lib.hid (HD3.out.below hB)
  have H4 := Lib.hid (H3.out.trans (hB.mono H3.out.size))
  have HST := Lib.hid (stuck_of HRUN.out HSTK.out hc)
  clear hY hn5 hc hAY hB HD3 H3 HAS3 HRUN HSTK
  go_wp2_with fail
  go_loopw [7] (fun i wr => ∃ j : Nat, i = .int .i64 (j : Nat) ∧ Hid (j ≤ n5) ∧ wr = w4) (fun i _ => n5 - (RowKit.intOf i).toNat)
  case atStart => exact ⟨0, rfl, Nat.zero_le _, rfl⟩
  case round =>
    obtain ⟨j, rfl, HJ, rfl⟩ := hrel
    by_cases hj : j < n5
    · have hj' : ((j : Int) < (n5 : Int)) := by omega
      have hj0 : (0 : Int) ≤ (j : Int) := by omega
      have hwj := IntWalk.i64_in ((j : Int) + 1) ⟨by omega, by have := HN5.out; omega⟩
      have hjx : j < Y.length := by have := HY.out; omega
      have hgj : Y[j]? = some Y[j] := List.getElem?_eq_getElem hjx
      obtain ⟨a, ho, hcn⟩ := HAY.out j _ hgj
      subst ho
      have hmem := HST.out.1 (nm Y[j]) (nms_mem.2 (List.mem_of_getElem? hgj))
      have hpl : ¬ (plN (nms S) (nm Y[j]) < 0) := by have := plN_nonneg.2 hmem; omega
      have HPL := Lib.hid (placeL_any S o4 n2 c4 Y[j] wr HS.out HAS.out (by have := HN2.out; omega))
      have HJN := Lib.hid hj
      clear hgj hmem hj
      generalize Y[j] = y at *
      clear hjx
      go_wp2_with fail
      refine HPL.out.mono ?_
      rintro e w5 ⟨rfl, hw⟩
      have hw' := hw.symm
      subst hw'
      clear hw HPL hcn
      go_wp2
      case roundEnd =>
        have := HJN.out
        exact ⟨⟨j + 1, by push_cast; rfl, by show _ ≤ _; omega, by first | rfl | trivial⟩, by simp [RowKit.intOf]; omega⟩
    · have hj' : ¬ ((j : Int) < (n5 : Int)) := by omega
      clear hj
      obtain ⟨w5, rfl⟩ : ∃ w5, w5 = wr := ⟨wr, rfl⟩
      go_wp2_with fail
      go_loopw [8] (fun i wx => ∃ j : Nat, i = .int .i64 (j : Nat) ∧ Hid (j ≤ m) ∧ Hid (Below w5.heap.size w5 wx)) (fun i _ => m - (RowKit.intOf i).toNat)
      case atStart => exact ⟨0, rfl, Nat.zero_le _, Below.refl _ _⟩
      case round =>
        clear hj' HJ
        obtain ⟨j, rfl, HJ, HB⟩ := hrel
        by_cases hj : j < m
        · have hj' : ((j : Int) < (m : Int)) := by omega
          have hj0 : (0 : Int) ≤ (j : Int) := by omega
          have hwj := IntWalk.i64_in ((j : Int) + 1) ⟨by omega, by have := H60.out; omega⟩
          have hjc : ((j : Int) ≤ (c2 : Int)) := by have := HMC.out; omega
          have hjx : j < xs.length := by have := HM.out; omega
          have hgj : xs[j]? = some xs[j] := List.getElem?_eq_getElem hjx
          obtain ⟨a, oi, ci, ho, hcn, hci, _, his⟩ := HD4.out j _ hgj
          subst ho
          have HCN := Lib.hid hcn
          have HCI := Lib.hid hci
          have HIS := Lib.hid his
          have HGJ := Lib.hid hgj
          have HJM := Lib.hid hj
          have HNA := Lib.hid (fun (W : World) (hb : Below w5.heap.size w5 W) => namesT (xs := xs.take j) (m := j) (c := c2) (o := some a) (w := W) (by rw [List.length_take]; omega) ((HD4.out.take j).below hb) (by have := H60.out; omega))
          have HIK := Lib.hid (HF.out.imps _ (List.mem_of_getElem? hgj)).1
          clear hcn hci his hgj hj
          generalize xs[j] = y at *
          clear hjx
          have q0 : wr.cell? (a.add (j * 2)) = some (.string y.name) := (HB.out.cell (World.block_lt_of_cell? _ _ HCN.out)).trans HCN.out
          go_upto_region 13 with fail
          go_cut [50] from 40 to 50 (fun v wy => v = .bool (decide (0 ≤ plN (nms ((xs.take j).map (·.name))) (nm y.name))) ∧ Hid (Below wr.heap.size wr wy))
          case first =>
            go_region_held3 (fun w' => w'.cell? (a.add (j * 2)) = some (.string y.name))
              (first | with_reducible assumption | (simp [q1]; done) | (simp [q0]; done) | (trace_state; fail))
              ((first
                | (go_at_call 22; refine (HNA.out _ (by first | exact HB.out | exact HB.out.drew)).mono ?_; rintro e wa ⟨o9, c9, rfl, hAt, hlen, hB⟩; have KB : Hid (Below wr.heap.size wr wa) := (by first | exact hB | exact undrew' hB); have q1 : wa.cell? (a.add (j * 2)) = some (.string y.name) := (KB.out.cell (World.block_lt_of_cell? _ _ q0)).trans q0; have HPL := Lib.hid (fun W (hb : Below wa.heap.size wa W) => placeL_any _ o9 j c9 y.name W hlen (hAt.below hb) (by have := HJM.out; have := H60.out; omega)); clear hAt hlen hB)
                | (go_at_call 21; refine (HPL.out _ (by first | exact Below.refl _ _ | exact (Below.refl _ _).drew)).mono ?_; rintro e wb ⟨rfl, rfl⟩)))
            all_goals go_wp2_with fail
            all_goals go_meet
            all_goals exact ⟨by first | rfl | simp, KB⟩
          case rest =>
            obtain ⟨rfl, HBC⟩ := hcut
            have HB2 := Lib.hid (HB.out.trans (HBC.out.mono HB.out.size))
            clear q0 HNA HBC
            by_cases hmem : nm y.name ∈ nms ((xs.take j).map (·.name))
            · rw [decide_eq_true (plN_nonneg.2 hmem)]
              clear hmem
              go_wp2
              case roundEnd =>
                have := HJM.out
                exact ⟨⟨j + 1, by push_cast; rfl, by show _ ≤ _; omega, HB2⟩, by simp [RowKit.intOf]; omega⟩
            · rw [decide_eq_false (fun h => hmem (plN_nonneg.1 h))]
              have HN1 := Lib.hid (HST.out.2 (toNd y) (node_first (nd_at HGJ.out) (by rw [← names_take]; exact hmem)))
              have q0 := (HB2.out.cell (World.block_lt_of_cell? _ _ HCN.out)).trans HCN.out
              have q1 := (HB2.out.cell (World.block_lt_of_cell? _ _ HCI.out)).trans HCI.out
              have HPY := Lib.hid (placeL_any Y o5 n5 c5 y.name wc HY.out (HAY.out.below HB2.out) (by have := HN5.out; omega))
              have HPS := Lib.hid (fun (s : ByteArray) => placeL_any S o4 n2 c4 s wc HS.out (HAS.out.below HB2.out) (by have := HN2.out; omega))
              have HISC := Lib.hid (HIS.out.below HB2.out)
              generalize hK : y.imps.length = K at *
              have HK := Lib.hid hK
              clear hmem hK
              go_wp2_with fail
              refine HPY.out.mono ?_
              rintro e w9 ⟨rfl, hw⟩
              have hw' := hw.symm
              subst hw'
              clear hw HPY
              go_wp2_with fail
              go_loopw [9, 10] (fun b i wz => ∃ (k : Nat) (q : Bool), b = .bool q ∧ i = .int .i64 (k : Nat) ∧ Hid (k ≤ K) ∧ Hid (q = true ↔ (nm y.name ∈ nms Y ∨ ∃ s ∈ y.imps.take k, nm s ∈ nms S)) ∧ wz = wc) (fun _ i _ => K - (RowKit.intOf i).toNat)
              case atStart => exact ⟨0, _, rfl, rfl, Nat.zero_le _, by show _ ↔ _; simp [plN_nonneg], rfl⟩
              case round =>
                obtain ⟨k, q, rfl, rfl, HKK, HQ, hw⟩ := hrel
                have hw' := hw.symm
                subst hw'
                clear hw
                by_cases hk : k < K
                · have hk' : ((k : Int) < (K : Int)) := by omega
                  have hk0 : (0 : Int) ≤ (k : Int) := by omega
                  have hwk := IntWalk.i64_in ((k : Int) + 1) ⟨by omega, by have := HIK.out; have := HK.out; omega⟩
                  have hkx : k < y.imps.length := by have := HK.out; omega
                  have hgk : y.imps[k]? = some y.imps[k] := List.getElem?_eq_getElem hkx
                  obtain ⟨b, hob, hcb⟩ := HISC.out k _ hgk
                  subst hob
                  have HTM := Lib.hid (take_more hgk fun s => nm s ∈ nms S)
                  have HPZ := Lib.hid (HPS.out y.imps[k])
                  have HKL := Lib.hid hk
                  clear hgk hk
                  generalize y.imps[k] = z at *
                  clear hkx
                  cases q with
                  | true =>
                    have HQ2 : Hid (true = true ↔ (nm y.name ∈ nms Y ∨ ∃ s ∈ y.imps.take (k + 1), nm s ∈ nms S)) := by
                      show _ ↔ _
                      refine ⟨fun _ => ?_, fun _ => rfl⟩
                      rw [HTM.out]
                      rcases HQ.out.1 rfl with h | h
                      · exact .inl h
                      · exact .inr (.inl h)
                    clear HTM HPZ
                    go_wp2
                    case roundEnd =>
                      have := HKL.out
                      exact ⟨⟨k + 1, true, rfl, by push_cast; rfl, by show _ ≤ _; omega, HQ2, by first | rfl | trivial⟩, by simp [RowKit.intOf]; omega⟩
                  | false =>
                    have HQ2 : Hid (decide (0 ≤ plN (nms S) (nm z)) = true ↔ (nm y.name ∈ nms Y ∨ ∃ s ∈ y.imps.take (k + 1), nm s ∈ nms S)) := by
                      show _ ↔ _
                      have hn : ¬ (nm y.name ∈ nms Y ∨ ∃ s ∈ y.imps.take k, nm s ∈ nms S) := fun h => by have := HQ.out.2 h; cases this
                      rw [HTM.out, decide_eq_true_eq, plN_nonneg]
                      constructor
                      · exact fun h => .inr (.inr h)
                      · rintro (h | h | h)
                        · exact absurd (.inl h) hn
                        · exact absurd (.inr h) hn
                        · exact h
                    clear HTM
                    go_wp2_with fail
                    refine HPZ.out.mono ?_
                    rintro e w9 ⟨rfl, hw⟩
                    have hw' := hw.symm
                    subst hw'
                    clear hw HPZ
                    go_wp2
                    case roundEnd =>
                      have := HKL.out
                      exact ⟨⟨k + 1, _, rfl, by push_cast; rfl, by show _ ≤ _; omega, HQ2, by first | rfl | trivial⟩, by simp [RowKit.intOf]; omega⟩
                · have hk' : ¬ ((k : Int) < (K : Int)) := by omega
                  have hq := HQ.out
                  rw [List.take_of_length_le (by have := HK.out; omega)] at hq
                  have hqs : decide (0 ≤ plN (nms S) (nm y.name)) = q := by
                    have h1 : (0 ≤ plN (nms S) (nm y.name)) ↔ q = true := by
                      rw [plN_nonneg, hq]
                      have := HN1.out
                      rw [imps_ex] at this
                      exact this.symm
                    cases q with
                    | true => exact decide_eq_true (h1.2 rfl)
                    | false => exact decide_eq_false fun h => by have := h1.1 h; cases this
                  have HQS := Lib.hid hqs
                  have HPZ := Lib.hid (HPS.out y.name)
                  clear hq hqs hk
                  go_wp2_with fail
                  refine HPZ.out.mono ?_
                  rintro e w9 ⟨rfl, hw⟩
                  have hw' := hw.symm
                  subst hw'
                  clear hw HPZ
                  have hqs := HQS.out
                  go_wp2
                  case roundEnd =>
                    have := HJM.out
                    exact ⟨⟨j + 1, by push_cast; rfl, by show _ ≤ _; omega, HB2⟩, by simp [RowKit.intOf]; omega⟩
        · have hj' : ¬ ((j : Int) < (m : Int)) := by omega
          clear hj
          go_wp2
          go_ret
          exact ⟨by first | rfl | simp, H4.out.trans (HB.out.mono H4.out.size)⟩

theorem laidOut : laidOutB Try.prog = true := by kernel_rfl
theorem own : ownKnob Try.prog.godebug = none := by kernel_rfl

theorem int_range {n : Int} (h : (Lit.int .i64 n).wf = true) : -9223372036854775808 ≤ n ∧ n ≤ 9223372036854775807 := by
  have h2 : IntKind.i64.min ≤ n ∧ n ≤ IntKind.i64.max := by
    unfold Lit.wf at h
    simpa only [Bool.and_eq_true, decide_eq_true_eq] using h
  rw [show IntKind.i64.min = -9223372036854775808 by decide, show IntKind.i64.max = 9223372036854775807 by decide] at h2
  exact h2

set_option maxRecDepth 100000 in
theorem lifted (os : Os) (started : os.Started) (H : Type) (enc : TypeId × Value → H) :
    ReturnsInHanded {} Try.checked os 6 .any (Rows.graphStuckSpec.pre6 enc Try.prog Try.f6 Rows.graphStuckRow.domain false) (Rows.graphStuckSpec.post enc Try.prog Try.f6 false true false false) := by
  refine returnsInHanded_of_change_sized (C := Try.checked) own started (by kernel_rfl) Try.func6
    (ChangeSpec.witness6 (enc := enc) (C := Try.checked) false ⟨#[], #[.slice none 0 0], []⟩ 8 (by kernel_rfl) (by kernel_rfl) (by kernel_rfl) (by kernel_rfl)) ?_
  intro W base args ds gs before hval0 hW hcnd hsz _
  have hval : ∀ (j : Nat) t v, Try.f6.params[j]? = some t → args[j]? = some v → Value.okWide Try.prog W .any base t v := hval0
  have hW' := hW
  obtain ⟨p, q, hA0, hV, rfl, hfz, hnd⟩ := hW
  have hA : DataW.TrodAll enc Try.prog W 0 (fun _ => true) true Try.f6.params.toList args.toList ds p := hA0
  rw [Try.params6] at hA hval
  obtain ⟨v0, vs0, d0, ds0, p0, q0, hargs, rfl, rfl, h0, r0⟩ := trodAll_cons hA
  obtain ⟨rfl, rfl, rfl⟩ := trodAll_nil r0
  obtain rfl : args = #[v0] := by cases args; simp_all
  obtain ⟨rfl, rfl⟩ := trodVars_none hV
  have t0 := h0
  obtain ⟨fl0, k0⟩ := h0
  obtain ⟨oo0, ll0, cc0, rfl⟩ := okWide_slice Try.underlying22 (hval 0 22 v0 rfl rfl)
  have kk0 : DataW.trod enc Try.prog W 0 (fun _ => true) true fl0 22 [.slice oo0 ll0 cc0] = some (d0, p0) := k0
  obtain ⟨o0, l0, c0, e0, g0, lc0, cm0, im0, sm0⟩ := open_nds kk0
  simp only [List.cons.injEq, and_true, Value.slice.injEq] at e0
  obtain ⟨rfl, rfl, rfl⟩ := e0
  have f0 : Arg W oo0 l0 l0.length cc0 := ⟨rfl, lc0, cm0, g0, im0, fun x hx => small_of (sm0 reachBytes (fun k hk => by simpa using List.all_eq_true.1 hsz k (DataW.weights_mem_each (j := 0) rfl rfl k hk)) x hx)⟩
  have lt0 : ∀ x ∈ p0, x.block < W.heap.size := fun x hx => by simpa using hW'.lt x (by simp [hx])
  clear hA0 hval0
  simp only [List.append_nil] at hW'
  refine (walk l0 oo0 l0.length cc0 W f0).mono fun e W' ⟨he, hg⟩ => ?_
  subst he
  exact ⟨_, rfl, _, _, _, [], _, [], hW', (trodAll_cons_mk (shut_bool Try.underlying4 _) trodAll_mk0), (trodAll_cons_mk (Below.trod laidOut (by kernel_rfl) (of_decide_eq_true (by kernel_rfl)) t0 hg lt0) trodAll_mk0), rfl, hg.frame _, fun h => by cases h⟩

theorem over : Rows.graphStuckRow.holds Try.pinned (OpenSpec.ofChange Rows.graphStuckSpec) :=
  OpenClaim.holds_of_wide 6 Try.f6 rfl rfl rfl rfl rfl rfl rfl ⟨rfl, rfl, rfl, rfl, rfl⟩ rfl rfl rfl rfl rfl (by kernel_rfl) Try.func6 (by kernel_rfl)
    (of_decide_eq_true (by kernel_rfl)) (by unfold Func.isWrapper; first | (rw [if_pos (by decide +kernel)]; kernel_rfl) | (rw [if_neg (by decide +kernel)]; exact ⟨rfl, rfl⟩))
    (fun os started H enc _ => lifted os started H enc)

/-- GraphStuck answers true. -/
theorem proved : Rows.GraphStuckSaid :=
  over

end Go.Proofs.Ytgnhcaepkgbieaa.graphStuck
