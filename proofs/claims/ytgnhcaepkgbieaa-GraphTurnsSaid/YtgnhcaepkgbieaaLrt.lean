/-
  GraphTurns answers true: packages of unlike names come to the same in whatever order they are given. Condition: the argument's own lengths.
-/
import Derived.Test.YtgnhcaepkgbieaaLrc
namespace Go.Proofs.Ytgnhcaepkgbieaa.graphTurns
open Go.ChangeShapes Go.WideShapes Go.ChangeAt Go.RowKit
open Go.ChangeMaps (open_string shut_string)
open Go.Lib hiding intOf

theorem nodup_of {l : List Nm} (h : ∀ (i : Nat) (a : Nm), l[i]? = some a → a ∉ l.take i) : l.Nodup := by
  rw [List.Nodup, List.pairwise_iff_getElem]
  intro i j hi hj hij e
  have h1 := h j _ (List.getElem?_eq_getElem hj)
  refine h1 ?_
  have : (l.take j)[i]? = some l[j] := by
    rw [List.getElem?_take, if_pos hij, List.getElem?_eq_getElem hi, e]
  exact List.mem_of_getElem? this
theorem same_stk {l l' : List Nd} {o s s' : List Nm} (h : SameN l l') (h1 : StkIs l o s) (h2 : StkIs l' o s') : s = s' := Srt.ext h1.1 h2.1 fun x => by rw [h1.2, h2.2, h.names]
theorem same_cyc {l l' : List Nd} {s s' : List Nm} (h : SameN l l') (h1 : CycIs l s) (h2 : CycIs l' s') : s = s' := Srt.ext h1.1 h2.1 fun x => by
  rw [h1.2, h2.2]
  exact ⟨h.rch, h.symm.rch⟩
theorem few_rev {xs ys : List ND} (h : Few xs) (e : ys = xs.reverse) : Few ys := by
  subst e
  exact ⟨by rw [List.length_reverse]; exact h.len, fun x hx => h.imps x (List.mem_reverse.1 hx)⟩
theorem same_rev {xs ys : List ND} (hd : (namesN (xs.map toNd)).Nodup) (e : ys = xs.reverse) : SameN (xs.map toNd) (ys.map toNd) := by
  subst e
  refine same_of_mem hd ?_ fun n => ?_
  · have : namesN (xs.reverse.map toNd) = (namesN (xs.map toNd)).reverse := by unfold namesN; rw [List.map_reverse, List.map_reverse]
    rw [this]
    exact (List.reverse_perm _).nodup_iff.2 hd
  · rw [List.map_reverse, List.mem_reverse]

set_option maxRecDepth 100000 in
set_option maxHeartbeats 8000000 in
set_option linter.unusedSimpArgs false in
theorem walk (l : List ND) (o : Option Addr) (n c : Nat) (w : World) (hA : Arg w o l n c) :
    Calls Try.prog 7 #[.slice o n c] w fun e w' => e = .returned (.bool true) ∧ Below w.heap.size w w' := by
  have HA := Lib.hid hA
  clear hA
  go_enter Try.func7, Try.ntmps7
  go_wp2_with fail
  refine (awakeL_any _).mono ?_
  rintro e w1 ⟨rfl, hB⟩
  have H1 := Lib.hid hB
  clear hB
  go_wp2_with fail
  refine (fewA_any HA.out w1 H1.out).mono ?_
  rintro e w3 ⟨o2, m, c2, rfl, hm, h60, hmc, hcm, hD2, hB⟩
  have HM := Lib.hid hm
  have H60 := Lib.hid h60
  have HMC := Lib.hid hmc
  have HD3 := Lib.hid hD2
  have H3 := Lib.hid (H1.out.trans (hB.mono H1.out.size))
  have HF := Lib.hid (few_fewD HA.out.small)
  have hwm := IntWalk.i64_in ((m : Int) - 1) ⟨by omega, by omega⟩
  clear hm h60 hD2 hB HA H1 hmc hcm
  generalize fewD l = xs at *
  go_wp2_with fail
  clear hwm
  go_loopw [4, 5] (fun v i wr => ∃ (j : Nat) (L : List NV) (ov : Option Addr) (nv cv : Nat), v = .slice ov nv cv ∧ i = .int .i64 ((j : Int) - 1) ∧ Hid (j ≤ m) ∧ Hid (L.length = nv) ∧ Hid (nv + j = m) ∧ Hid (L.map (·.1) = (xs.drop j).reverse) ∧ Hid (Lies w3 L) ∧ Hid (wr.ownsRow w3.heap.size 36 2 (.slice ov nv cv) nv (dC L)) ∧
    Hid (∀ (k : Nat) (y : ND), j ≤ k → xs[k]? = some y → nm y.name ∉ nms ((xs.take k).map (·.name))) ∧ Hid (Below w3.heap.size w3 wr)) (fun _ i _ => (RowKit.intOf i + 1).toNat)
  case atStart => exact ⟨m, [], none, 0, 0, rfl, rfl, Nat.le_refl _, rfl, by show 0 + m = m; omega, by show _ = _; rw [List.drop_of_length_le (by rw [HM.out]; exact Nat.le_refl _)]; rfl, by show Lies _ _; intro p hp; simp at hp, World.ownsRow_nil _ _ _ _, by show ∀ k, _; intro k y hk hy; have := (List.getElem?_eq_some_iff.1 hy).1; have := HM.out; omega, Below.refl _ _⟩
  case round =>
    obtain ⟨j, L, ov, nv, cv, rfl, rfl, HJ, HLN, HNJ, HLM, HLI, HR, HU, HB⟩ := hrel
    cases j with
    | zero =>
      have hneg : ¬ ((0 : Int) ≤ ((0 : Nat) : Int) - 1) := by decide
      have hnd : (namesN (xs.map toNd)).Nodup := nodup_of fun i a ha => by
        unfold namesN at ha
        rw [List.map_map, List.getElem?_map] at ha
        obtain ⟨y, hy, rfl⟩ := Option.map_eq_some_iff.1 ha
        have := HU.out i y (Nat.zero_le _) hy
        rw [names_take] at this
        unfold namesN at this ⊢
        rw [← List.map_take]
        exact this
      have hlm := HLM.out
      rw [List.drop_zero] at hlm
      have HSM := Lib.hid (same_rev hnd hlm)
      have HFT := Lib.hid (few_rev HF.out hlm)
      have HTL : Hid ((L.map (·.1)).length = nv) := by show _ = _; rw [List.length_map]; exact HLN.out
      have HTD := Lib.hid (own_nodes HR.out HLN.out (HLI.out.below HB.out))
      have HXD := Lib.hid (HD3.out.below HB.out)
      have H4 := Lib.hid (H3.out.trans (HB.out.mono H3.out.size))
      clear hnd hlm HU HLI HR HLM HB HD3 H3
      generalize L.map (·.1) = ys at *
      go_wp2_with fail
      refine (orderN HM.out HXD.out HF.out).mono ?_
      rintro e w5 ⟨O, S, o5, o6, n5, n6, c5, c6, rfl, hO, hS, hn1, hn2, hr, hs, hAO, hAS, hB, _⟩
      have HO := Lib.hid hO
      have HS := Lib.hid hS
      have HN1 := Lib.hid hn1
      have HN2 := Lib.hid hn2
      have HRUN := Lib.hid hr
      have HSTK := Lib.hid hs
      have HAO := Lib.hid hAO
      have HAS := Lib.hid hAS
      have HXD5 := Lib.hid (HXD.out.below hB)
      have HTD5 := Lib.hid (HTD.out.below hB)
      have H5 := Lib.hid (H4.out.trans (hB.mono H4.out.size))
      clear hO hS hn1 hn2 hr hs hAO hAS hB HXD HTD H4
      go_wp2_with fail
      refine (orderN HTL.out HTD5.out HFT.out).mono ?_
      rintro e w6 ⟨O', S', o7, o8, n7, n8, c7, c8, rfl, hO, hS, hn1, hn2, hr, hs, hAO, hAS, hB, _⟩
      have heo : nms O = nms O' := HRUN.out.unique (HSM.out.symm.run hr)
      rw [← heo] at hs
      have hes : nms S = nms S' := same_stk HSM.out HSTK.out hs
      have HEO := Lib.hid heo
      have HES := Lib.hid hes
      have HQ1 := Lib.hid (sameR_n O O' o5 o7 n5 n7 c5 c7 w6 (HAO.out.below hB) hAO HO.out hO (by have := HN1.out; omega) (by omega))
      have HQ2 := Lib.hid (fun (W : World) (hb : Below w6.heap.size w6 W) => sameR_n S S' o6 o8 n6 n8 c6 c8 W ((HAS.out.below hB).below hb) (hAS.below hb) HS.out hS (by have := HN2.out; omega) (by omega))
      have HXD6 := Lib.hid (HXD5.out.below hB)
      have HTD6 := Lib.hid (HTD5.out.below hB)
      have H6 := Lib.hid (H5.out.trans (hB.mono H5.out.size))
      clear hO hS hn1 hn2 hr hs hAO hAS hB heo hes HXD5 HTD5 H5 HO HS HN1 HN2 HRUN HSTK HAO HAS
      go_wp2_with fail
      refine HQ1.out.mono ?_
      rintro e w7 ⟨rfl, hB⟩
      rw [decide_eq_true HEO.out]
      have HQ3 := Lib.hid (HQ2.out w7 hB)
      have HXD7 := Lib.hid (HXD6.out.below hB)
      have HTD7 := Lib.hid (HTD6.out.below hB)
      have H7 := Lib.hid (H6.out.trans (hB.mono H6.out.size))
      clear hB HXD6 HTD6 H6 HQ1 HQ2 HEO
      go_wp2_with fail
      refine HQ3.out.mono ?_
      rintro e w8 ⟨rfl, hB⟩
      rw [decide_eq_true HES.out]
      have HXD8 := Lib.hid (HXD7.out.below hB)
      have HTD8 := Lib.hid (HTD7.out.below hB)
      have H8 := Lib.hid (H7.out.trans (hB.mono H7.out.size))
      clear hB HXD7 HTD7 H7 HQ3 HES
      go_wp2_with fail
      refine (cyclicN HM.out HXD8.out HF.out).mono ?_
      rintro e w9 ⟨Y, o9, n9, c9, rfl, hY, hn9, hc, hAY, hB⟩
      have HY := Lib.hid hY
      have HN9 := Lib.hid hn9
      have HCY := Lib.hid hc
      have HAY := Lib.hid hAY
      have HTD9 := Lib.hid (HTD8.out.below hB)
      have H9 := Lib.hid (H8.out.trans (hB.mono H8.out.size))
      clear hY hn9 hc hAY hB HXD8 HTD8 H8
      go_wp2_with fail
      refine (cyclicN HTL.out HTD9.out HFT.out).mono ?_
      rintro e w10 ⟨Y', o10, n10, c10, rfl, hY, hn9, hc, hAY, hB⟩
      have hey : nms Y = nms Y' := same_cyc HSM.out HCY.out hc
      have HEY := Lib.hid hey
      have HQ4 := Lib.hid (sameR_n Y Y' o9 o10 n9 n10 c9 c10 w10 (HAY.out.below hB) hAY HY.out hY (by have := HN9.out; omega) (by omega))
      have H10 := Lib.hid (H9.out.trans (hB.mono H9.out.size))
      clear hY hn9 hc hAY hB hey HTD9 H9 HCY HAY HY HN9
      go_wp2_with fail
      refine HQ4.out.mono ?_
      rintro e w11 ⟨rfl, hB⟩
      rw [decide_eq_true HEY.out]
      have H11 := Lib.hid (H10.out.trans (hB.mono H10.out.size))
      clear hB H10 HQ4 HEY
      go_wp2
      go_ret
      exact ⟨by first | rfl | simp, H11.out⟩
    | succ j =>
      have hie : (((j + 1 : Nat)) : Int) - 1 = (j : Int) := by omega
      rw [hie]
      have hnn : (0 : Int) ≤ (j : Int) := by omega
      have hjm : j < m := HJ.out
      have hj' : ((j : Int) < (m : Int)) := by omega
      have hwj := IntWalk.i64_in ((j : Int) - 1) ⟨by omega, by have := H60.out; omega⟩
      have hjc : ((j : Int) ≤ (c2 : Int)) := by have := HMC.out; omega
      have hjx : j < xs.length := by have := HM.out; omega
      have hgj : xs[j]? = some xs[j] := List.getElem?_eq_getElem hjx
      have hdr : xs.drop j = xs[j] :: xs.drop (j + 1) := List.drop_eq_getElem_cons hjx
      obtain ⟨a, oi, ci, ho, hcn, hci, hik, his⟩ := HD3.out j _ hgj
      subst ho
      have HCN := Lib.hid hcn
      have HCI := Lib.hid hci
      have HIS := Lib.hid his
      have HIK := Lib.hid hik
      have HGJ := Lib.hid hgj
      have HDR := Lib.hid hdr
      have HNA := Lib.hid (fun (W : World) (hb : Below w3.heap.size w3 W) => namesT (xs := xs.take j) (m := j) (c := c2) (o := some a) (w := W) (by rw [List.length_take]; omega) ((HD3.out.take j).below hb) (by have := H60.out; omega))
      have HJM := Lib.hid hjm
      clear hcn hci his hik hgj hdr hie hjm
      generalize xs[j] = y at *
      clear hjx
      have q0 : wr.cell? (a.add (j * 2)) = some (.string y.name) := (HB.out.cell (World.block_lt_of_cell? _ _ HCN.out)).trans HCN.out
      go_upto_region 7 with fail
      go_cut [33] from 23 to 33 (fun v wx => v = .bool (decide (0 ≤ plN (nms ((xs.take j).map (·.name))) (nm y.name))) ∧ Hid (Below wr.heap.size wr wx))
      case first =>
        go_region_held3 (fun w' => w'.cell? (a.add (j * 2)) = some (.string y.name))
          (first | with_reducible assumption | (simp [q1]; done) | (simp [q0]; done) | (trace_state; fail))
          ((first
            | (go_at_call 22; refine (HNA.out _ (by first | exact HB.out | exact HB.out.drew)).mono ?_; rintro e wa ⟨o5, c5, rfl, hAt, hlen, hB⟩; have KB : Hid (Below wr.heap.size wr wa) := (by first | exact hB | exact undrew' hB); have q1 : wa.cell? (a.add (j * 2)) = some (.string y.name) := (KB.out.cell (World.block_lt_of_cell? _ _ q0)).trans q0; have HPL := Lib.hid (fun W (hb : Below wa.heap.size wa W) => placeL_any _ o5 j c5 y.name W hlen (hAt.below hb) (by have := HJM.out; have := H60.out; omega)); clear hAt hlen hB)
            | (go_at_call 21; refine (HPL.out _ (by first | exact Below.refl _ _ | exact (Below.refl _ _).drew)).mono ?_; rintro e wb ⟨rfl, rfl⟩)))
        all_goals go_wp2_with fail
        all_goals go_meet
        all_goals exact ⟨by first | rfl | simp, KB⟩
      case rest =>
        obtain ⟨rfl, HBC⟩ := hcut
        have HB2 := Lib.hid (HB.out.trans (HBC.out.mono HB.out.size))
        clear q0 HNA
        by_cases hmem : nm y.name ∈ nms ((xs.take j).map (·.name))
        · rw [decide_eq_true (plN_nonneg.2 hmem)]
          clear hmem
          go_wp2
          go_ret
          exact ⟨by first | rfl | simp, H3.out.trans (HB2.out.mono H3.out.size)⟩
        · rw [decide_eq_false (fun h => hmem (plN_nonneg.1 h))]
          have HMEM := Lib.hid hmem
          have q0 := (HB2.out.cell (World.block_lt_of_cell? _ _ HCN.out)).trans HCN.out
          have q1 := (HB2.out.cell (World.block_lt_of_cell? _ _ HCI.out)).trans HCI.out
          have HRC : Hid (wc.ownsRow w3.heap.size 36 2 (.slice ov nv cv) nv (dC L)) := below_row HBC.out HR.out
          clear hmem
          go_wp2_with (refine wpList_append_node rfl _ _ rfl w3.heap.size (.slice ov nv cv) nv L ((y, oi, ci) : NV) rfl HLN.out HRC.out rfl HB2.out.size (by have := HNJ.out; have := H60.out; omega) ?_; intro o9 c9 w9 hrow hbel; have HR9 := Lib.hid hrow; have HB9 := Lib.hid (HB2.out.trans hbel); clear hrow hbel)
          case roundEnd =>
            refine ⟨⟨j, L ++ [((y, oi, ci) : NV)], o9, nv + 1, c9, rfl, rfl, by have := HJM.out; show _ ≤ _; omega, by show _ = _; rw [List.length_append, HLN.out]; rfl, by have := HNJ.out; show _ = _; omega, ?_, ?_, HR9, ?_, HB9⟩, by simp [RowKit.intOf]⟩
            · show _ = _
              rw [List.map_append, HLM.out, HDR.out, List.reverse_cons]
              rfl
            · show Lies _ _
              intro p hp
              rcases List.mem_append.1 hp with hp | hp
              · exact HLI.out p hp
              · rw [List.mem_singleton.1 hp]; exact ⟨HIK.out, HIS.out⟩
            · show ∀ k, _
              intro k z hk hz
              by_cases hkj : k = j
              · subst hkj
                rw [HGJ.out] at hz
                injection hz with hz
                subst hz
                exact HMEM.out
              · exact HU.out k z (by omega) hz

theorem laidOut : laidOutB Try.prog = true := by kernel_rfl
theorem own : ownKnob Try.prog.godebug = none := by kernel_rfl

theorem int_range {n : Int} (h : (Lit.int .i64 n).wf = true) : -9223372036854775808 ≤ n ∧ n ≤ 9223372036854775807 := by
  have h2 : IntKind.i64.min ≤ n ∧ n ≤ IntKind.i64.max := by
    unfold Lit.wf at h
    simpa only [Bool.and_eq_true, decide_eq_true_eq] using h
  rw [show IntKind.i64.min = -9223372036854775808 by decide, show IntKind.i64.max = 9223372036854775807 by decide] at h2
  exact h2

set_option maxRecDepth 100000 in
theorem lifted (os : Os) (started : os.Started) (H : Type) (enc : TypeId × Value → H) :
    ReturnsInHanded {} Try.checked os 7 .any (Rows.graphTurnsSpec.pre6 enc Try.prog Try.f7 Rows.graphTurnsRow.domain false) (Rows.graphTurnsSpec.post enc Try.prog Try.f7 false true false false) := by
  refine returnsInHanded_of_change_sized (C := Try.checked) own started (by kernel_rfl) Try.func7
    (ChangeSpec.witness6 (enc := enc) (C := Try.checked) false ⟨#[], #[.slice none 0 0], []⟩ 8 (by kernel_rfl) (by kernel_rfl) (by kernel_rfl) (by kernel_rfl)) ?_
  intro W base args ds gs before hval0 hW hcnd hsz _
  have hval : ∀ (j : Nat) t v, Try.f7.params[j]? = some t → args[j]? = some v → Value.okWide Try.prog W .any base t v := hval0
  have hW' := hW
  obtain ⟨p, q, hA0, hV, rfl, hfz, hnd⟩ := hW
  have hA : DataW.TrodAll enc Try.prog W 0 (fun _ => true) true Try.f7.params.toList args.toList ds p := hA0
  rw [Try.params7] at hA hval
  obtain ⟨v0, vs0, d0, ds0, p0, q0, hargs, rfl, rfl, h0, r0⟩ := trodAll_cons hA
  obtain ⟨rfl, rfl, rfl⟩ := trodAll_nil r0
  obtain rfl : args = #[v0] := by cases args; simp_all
  obtain ⟨rfl, rfl⟩ := trodVars_none hV
  have t0 := h0
  obtain ⟨fl0, k0⟩ := h0
  obtain ⟨oo0, ll0, cc0, rfl⟩ := okWide_slice Try.underlying22 (hval 0 22 v0 rfl rfl)
  have kk0 : DataW.trod enc Try.prog W 0 (fun _ => true) true fl0 22 [.slice oo0 ll0 cc0] = some (d0, p0) := k0
  obtain ⟨o0, l0, c0, e0, g0, lc0, cm0, im0, sm0⟩ := open_nds kk0
  simp only [List.cons.injEq, and_true, Value.slice.injEq] at e0
  obtain ⟨rfl, rfl, rfl⟩ := e0
  have f0 : Arg W oo0 l0 l0.length cc0 := ⟨rfl, lc0, cm0, g0, im0, fun x hx => small_of (sm0 reachBytes (fun k hk => by simpa using List.all_eq_true.1 hsz k (DataW.weights_mem_each (j := 0) rfl rfl k hk)) x hx)⟩
  have lt0 : ∀ x ∈ p0, x.block < W.heap.size := fun x hx => by simpa using hW'.lt x (by simp [hx])
  clear hA0 hval0
  simp only [List.append_nil] at hW'
  refine (walk l0 oo0 l0.length cc0 W f0).mono fun e W' ⟨he, hg⟩ => ?_
  subst he
  exact ⟨_, rfl, _, _, _, [], _, [], hW', (trodAll_cons_mk (shut_bool Try.underlying4 _) trodAll_mk0), (trodAll_cons_mk (Below.trod laidOut (by kernel_rfl) (of_decide_eq_true (by kernel_rfl)) t0 hg lt0) trodAll_mk0), rfl, hg.frame _, fun h => by cases h⟩

theorem over : Rows.graphTurnsRow.holds Try.pinned (OpenSpec.ofChange Rows.graphTurnsSpec) :=
  OpenClaim.holds_of_wide 7 Try.f7 rfl rfl rfl rfl rfl rfl rfl ⟨rfl, rfl, rfl, rfl, rfl⟩ rfl rfl rfl rfl rfl (by kernel_rfl) Try.func7 (by kernel_rfl)
    (of_decide_eq_true (by kernel_rfl)) (by unfold Func.isWrapper; first | (rw [if_pos (by decide +kernel)]; kernel_rfl) | (rw [if_neg (by decide +kernel)]; exact ⟨rfl, rfl⟩))
    (fun os started H enc _ => lifted os started H enc)

/-- GraphTurns answers true. -/
theorem proved : Rows.GraphTurnsSaid :=
  over

end Go.Proofs.Ytgnhcaepkgbieaa.graphTurns
