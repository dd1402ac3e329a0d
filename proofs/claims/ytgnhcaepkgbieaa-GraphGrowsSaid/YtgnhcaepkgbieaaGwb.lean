/-
  GraphGrows answers true: one package more, that nobody imports, changes nothing but itself. Condition: the arguments' own lengths.
-/
import Derived.Test.YtgnhcaepkgbieaaGwa
import Derived.Deep.RegionHeld3
namespace Go.Proofs.Ytgnhcaepkgbieaa.graphGrows
open Go.ChangeShapes Go.WideShapes Go.ChangeAt Go.RowKit
open Go.ChangeMaps (open_string shut_string)
open Go.Lib hiding intOf

theorem filt_snoc (l : List Nm) (x s : Nm) : (l ++ [x]).filter (· ≠ s) = if x = s then l.filter (· ≠ s) else l.filter (· ≠ s) ++ [x] := by
  rw [List.filter_append]
  by_cases h : x = s
  · rw [if_pos h]; simp [h]
  · rw [if_neg h]; simp [h]
/-- What is asked of a package that came in. -/
structure ArgD (w : World) (y : ND) (oi : Option Addr) (ci : Nat) : Prop where
  at_ : AtS w oi y.imps
  le : y.imps.length ≤ ci
  max : ci ≤ 9223372036854775807
  small : y.name.size ≤ 281474976710656 ∧ ∀ s ∈ y.imps, s.size ≤ 281474976710656

set_option maxRecDepth 100000 in
set_option maxHeartbeats 8000000 in
set_option linter.unusedSimpArgs false in
theorem walk (l : List ND) (o : Option Addr) (n c : Nat) (y : ND) (oi : Option Addr) (ci : Nat) (w : World) (hA : Arg w o l n c) (hD : ArgD w y oi ci) :
    Calls Try.prog 9 #[.slice o n c, .agg #[.string y.name, .slice oi y.imps.length ci]] w fun e w' => e = .returned (.bool true) ∧ Below w.heap.size w w' := by
  have HA := Lib.hid hA
  have HIM := Lib.hid hD.at_
  have HSY := Lib.hid hD.small
  have hkc := hD.le
  have hcm := hD.max
  generalize hK : y.imps.length = K at *
  have HK := Lib.hid hK
  clear hA hD hK
  go_enter Try.func9, Try.ntmps9
  go_wp2_with fail
  have HBX : Hid ((w.alloc (.cells #[.string y.name, .slice oi K ci] 36)).heap[w.heap.size]? = some (.cells #[.string y.name, .slice oi K ci] 36)) := heap_alloc_new w _
  have H0 : Hid (Below w.heap.size w (w.alloc (.cells #[.string y.name, .slice oi K ci] 36))) := (Below.refl _ w).alloc (Nat.le_refl _) _
  generalize w.alloc (.cells #[.string y.name, .slice oi K ci] 36) = w0 at *
  refine (awakeL_any _).mono ?_
  rintro e w1 ⟨rfl, hB⟩
  have H1 := Lib.hid (H0.out.trans (hB.mono H0.out.size))
  have HX1 := Lib.hid ((hB.block _ (Array.getElem?_eq_some_iff.1 HBX.out).1).trans HBX.out)
  clear hB H0 HBX
  go_wp2_with fail
  refine (fewL_any l o n c w1 HA.out.len HA.out.cap HA.out.max (HA.out.at_.below H1.out) HA.out.imps).mono ?_
  rintro e w2 ⟨L, o2, m, c2, rfl, hL, hf, hrow, hlies, hB⟩
  have HM : Hid ((fewD l).length = m) := by show _ = _; rw [← hf, List.length_map]; exact hL
  have H60 : Hid (m ≤ 60) := by have := HM.out; rw [fewD_len] at this; show _ ≤ _; omega
  have HLL := Lib.hid hL
  have HLF := Lib.hid hf
  have HROW := Lib.hid hrow
  have HLIES := Lib.hid hlies
  have HD2 : Hid (AtD w2 o2 (fewD l)) := by show AtD _ _ _; rw [← hf]; exact own_nodes hrow hL hlies
  have H2 := Lib.hid (H1.out.trans (hB.mono H1.out.size))
  have HX2 := Lib.hid ((hB.block _ (Array.getElem?_eq_some_iff.1 HX1.out).1).trans HX1.out)
  have HF := Lib.hid (few_fewD HA.out.small)
  clear hL hf hrow hlies hB HA H1 HX1
  generalize fewD l = xs at *
  have q0 : w2.cell? ⟨w.heap.size, 0, none⟩ = some (.string y.name) := by simp [World.cell?, HX2.out]
  have q1 : w2.cell? ⟨w.heap.size, 1, none⟩ = some (.slice oi K ci) := by simp [World.cell?, HX2.out]
  by_cases h40 : (40 : Int) < (K : Int)
  · go_wp2
    go_ret
    exact ⟨by first | rfl | simp, H2.out⟩
  · have hk40 : K ≤ 40 := by omega
    have HK40 := Lib.hid hk40
    have HNA := Lib.hid (fun (W : World) (hb : Below w2.heap.size w2 W) => namesT (c := c2) (w := W) HM.out (HD2.out.below hb) (by have := H60.out; omega))
    have HUS := Lib.hid (fun (W : World) (hb : Below w2.heap.size w2 W) => usersN (c := c2) (s := y.name) (w := W) HM.out (HD2.out.below hb) HF.out)
    clear hk40
    go_upto_region 5 with fail
    go_cut [37] from 24 to 37 (fun v wx => ∃ q : Bool, v = .bool q ∧ Hid (q = false → nm y.name ∉ namesN (xs.map toNd) ∧ ∀ x z, nodeN (xs.map toNd) x = some z → nm y.name ∉ z.imps) ∧ Hid (Below w2.heap.size w2 wx))
    case first =>
      by_cases hmem : nm y.name ∈ nms (xs.map (·.name))
      · have h1 : decide (0 ≤ plN (nms (xs.map (·.name))) (nm y.name)) = true := decide_eq_true (plN_nonneg.2 hmem)
        have h0 : 0 ≤ plN (nms (xs.map (·.name))) (nm y.name) := plN_nonneg.2 hmem
        clear hmem
        have hS0 : (fun w' : World => Below w2.heap.size w2 w') w2.drew := (Below.refl _ _).drew
        refine wp_region_held_drew (S := (fun w' : World => Below w2.heap.size w2 w')) (by kernel_rfl) hS0 fun hS0 => ?_
        refine wpAnyH_take (i := 0) (v := .slice o2 m c2) rfl (by kernel_rfl) (by kernel_rfl) (by kernel_rfl) (fun _ _ _ h => h) (Or.inl ⟨by kernel_rfl, fun w' hw' => ?_⟩) hS0 ?_
        · kernel_rfl
        refine wpAnyH_take (i := 2) (v := .pointer (some ⟨w.heap.size, 0, none⟩)) rfl (by kernel_rfl) (by kernel_rfl) (by kernel_rfl) (fun _ _ _ h => h) (Or.inl ⟨by kernel_rfl, fun w' hw' => ?_⟩) hS0 ?_
        · go_simp
        refine wpAnyH_take (i := 3) (v := .string y.name) rfl (by kernel_rfl) (by kernel_rfl) (by kernel_rfl) (fun _ _ _ h => h) (Or.inl ⟨by kernel_rfl, fun w' hw' => ?_⟩) hS0 ?_
        · have h3 := (Below.cell hw' (World.block_lt_of_cell? _ _ q0)).trans q0; go_simp
        refine wpAnyH_ready (rs := [1]) (by kernel_rfl) (by simp) (AllReadyH.cons rfl (fun KK hK => ?_) AllReadyH.nil)
        go_simp
        refine (HNA.out _ hS0).mono ?_
        rintro e wa ⟨o5, c5, rfl, hAt, hlen, hB⟩
        have k2 : Below w2.heap.size w2 wa := hS0.trans (hB.mono hS0.size)
        refine hK.out _ _ k2 (fun hS1 => ?_)
        refine wpAnyH_ready (rs := [4]) (by kernel_rfl) (by simp) (AllReadyH.cons rfl (fun KK hK => ?_) AllReadyH.nil)
        go_simp
        refine (placeL_any _ o5 m c5 y.name _ hlen hAt (by have := H60.out; omega)).mono ?_
        rintro e wb ⟨rfl, rfl⟩
        refine hK.out _ _ k2 (fun hS2 => ?_)
        refine wpAnyH_take (i := 5) (v := .bool true) rfl (by kernel_rfl) (by kernel_rfl) (by kernel_rfl) (fun _ _ _ h => h) (Or.inl ⟨by kernel_rfl, fun w' hw' => ?_⟩) hS2 ?_
        · go_simp
        refine wpAnyH_take (i := 6) (v := .bool true) rfl (by kernel_rfl) (by kernel_rfl) (by kernel_rfl) (fun _ _ _ h => h) (Or.inl ⟨by kernel_rfl, fun w' hw' => ?_⟩) hS2 ?_
        · kernel_rfl
        refine wpAnyH_take (i := 7) (v := undef) rfl (by kernel_rfl) (by kernel_rfl) (by kernel_rfl) (fun _ _ _ h => h) (Or.inr ⟨by kernel_rfl, rfl⟩) hS2 ?_
        refine wpAnyH_take (i := 8) (v := undef) rfl (by kernel_rfl) (by kernel_rfl) (by kernel_rfl) (fun _ _ _ h => h) (Or.inr ⟨by kernel_rfl, rfl⟩) hS2 ?_
        refine wpAnyH_take (i := 9) (v := undef) rfl (by kernel_rfl) (by kernel_rfl) (by kernel_rfl) (fun _ _ _ h => h) (Or.inr ⟨by kernel_rfl, rfl⟩) hS2 ?_
        refine wpAnyH_take (i := 10) (v := undef) rfl (by kernel_rfl) (by kernel_rfl) (by kernel_rfl) (fun _ _ _ h => h) (Or.inr ⟨by kernel_rfl, rfl⟩) hS2 ?_
        refine wpAnyH_take (i := 11) (v := undef) rfl (by kernel_rfl) (by kernel_rfl) (by kernel_rfl) (fun _ _ _ h => h) (Or.inr ⟨by kernel_rfl, rfl⟩) hS2 ?_
        refine wpAnyH_take (i := 12) (v := undef) rfl (by kernel_rfl) (by kernel_rfl) (by kernel_rfl) (fun _ _ _ h => h) (Or.inr ⟨by kernel_rfl, rfl⟩) hS2 ?_
        refine wpAnyH_take (i := 13) (v := .bool true) rfl (by kernel_rfl) (by kernel_rfl) (by kernel_rfl) (fun _ _ _ h => h) (Or.inl ⟨by kernel_rfl, fun w' hw' => ?_⟩) hS2 ?_
        · go_simp
        refine wpAnyH_done (by kernel_rfl) ?_ _
        have KB := Lib.hid k2
        clear k2 hS0 hS1 hS2 hB hAt hlen h0 h1
        go_wp2_with fail
        go_meet
        exact ⟨true, rfl, (by show _ → _; intro h; cases h), KB⟩
      · have h1 : decide (0 ≤ plN (nms (xs.map (·.name))) (nm y.name)) = false := decide_eq_false (fun h => hmem (plN_nonneg.1 h))
        have h0 : ¬ (0 ≤ plN (nms (xs.map (·.name))) (nm y.name)) := fun h => hmem (plN_nonneg.1 h)
        have HMEM := Lib.hid (show nm y.name ∉ namesN (xs.map toNd) by rw [← names_nd]; exact hmem)
        clear hmem
        have hS0 : (fun w' : World => Below w2.heap.size w2 w') w2.drew := (Below.refl _ _).drew
        refine wp_region_held_drew (S := (fun w' : World => Below w2.heap.size w2 w')) (by kernel_rfl) hS0 fun hS0 => ?_
        refine wpAnyH_take (i := 0) (v := .slice o2 m c2) rfl (by kernel_rfl) (by kernel_rfl) (by kernel_rfl) (fun _ _ _ h => h) (Or.inl ⟨by kernel_rfl, fun w' hw' => ?_⟩) hS0 ?_
        · kernel_rfl
        refine wpAnyH_take (i := 2) (v := .pointer (some ⟨w.heap.size, 0, none⟩)) rfl (by kernel_rfl) (by kernel_rfl) (by kernel_rfl) (fun _ _ _ h => h) (Or.inl ⟨by kernel_rfl, fun w' hw' => ?_⟩) hS0 ?_
        · go_simp
        refine wpAnyH_take (i := 3) (v := .string y.name) rfl (by kernel_rfl) (by kernel_rfl) (by kernel_rfl) (fun _ _ _ h => h) (Or.inl ⟨by kernel_rfl, fun w' hw' => ?_⟩) hS0 ?_
        · have h3 := (Below.cell hw' (World.block_lt_of_cell? _ _ q0)).trans q0; go_simp
        refine wpAnyH_ready (rs := [1]) (by kernel_rfl) (by simp) (AllReadyH.cons rfl (fun KK hK => ?_) AllReadyH.nil)
        go_simp
        refine (HNA.out _ hS0).mono ?_
        rintro e wa ⟨o5, c5, rfl, hAt, hlen, hB⟩
        have k2 : Below w2.heap.size w2 wa := hS0.trans (hB.mono hS0.size)
        refine hK.out _ _ k2 (fun hS1 => ?_)
        refine wpAnyH_ready (rs := [4]) (by kernel_rfl) (by simp) (AllReadyH.cons rfl (fun KK hK => ?_) AllReadyH.nil)
        go_simp
        refine (placeL_any _ o5 m c5 y.name _ hlen hAt (by have := H60.out; omega)).mono ?_
        rintro e wb ⟨rfl, rfl⟩
        refine hK.out _ _ k2 (fun hS2 => ?_)
        refine wpAnyH_take (i := 5) (v := .bool false) rfl (by kernel_rfl) (by kernel_rfl) (by kernel_rfl) (fun _ _ _ h => h) (Or.inl ⟨by kernel_rfl, fun w' hw' => ?_⟩) hS2 ?_
        · go_simp
        refine wpAnyH_take (i := 6) (v := .bool false) rfl (by kernel_rfl) (by kernel_rfl) (by kernel_rfl) (fun _ _ _ h => h) (Or.inl ⟨by kernel_rfl, fun w' hw' => ?_⟩) hS2 ?_
        · kernel_rfl
        refine wpAnyH_take (i := 7) (v := .slice o2 m c2) rfl (by kernel_rfl) (by kernel_rfl) (by kernel_rfl) (fun _ _ _ h => h) (Or.inl ⟨by kernel_rfl, fun w' hw' => ?_⟩) hS2 ?_
        · kernel_rfl
        refine wpAnyH_take (i := 8) (v := .pointer (some ⟨w.heap.size, 0, none⟩)) rfl (by kernel_rfl) (by kernel_rfl) (by kernel_rfl) (fun _ _ _ h => h) (Or.inl ⟨by kernel_rfl, fun w' hw' => ?_⟩) hS2 ?_
        · go_simp
        refine wpAnyH_take (i := 9) (v := .string y.name) rfl (by kernel_rfl) (by kernel_rfl) (by kernel_rfl) (fun _ _ _ h => h) (Or.inl ⟨by kernel_rfl, fun w' hw' => ?_⟩) hS2 ?_
        · have h3 := (Below.cell hw' (World.block_lt_of_cell? _ _ q0)).trans q0; go_simp
        refine wpAnyH_ready (rs := [10]) (by kernel_rfl) (by simp) (AllReadyH.cons rfl (fun KK hK => ?_) AllReadyH.nil)
        go_simp
        refine (HUS.out _ k2).mono ?_
        rintro e wc ⟨R, o9, n9, c9, rfl, hr1, hr2, _, _, hB2⟩
        have k3 : Below w2.heap.size w2 wc := k2.trans (hB2.mono k2.size)
        refine hK.out _ _ k3 (fun hS3 => ?_)
        refine wpAnyH_take (i := 11) (v := .int .i64 (n9 : Int)) rfl (by kernel_rfl) (by kernel_rfl) (by kernel_rfl) (fun _ _ _ h => h) (Or.inl ⟨by kernel_rfl, fun w' hw' => ?_⟩) hS3 ?_
        · go_simp
        refine wpAnyH_take (i := 12) (v := .bool (decide ((0 : Int) < (n9 : Int)))) rfl (by kernel_rfl) (by kernel_rfl) (by kernel_rfl) (fun _ _ _ h => h) (Or.inl ⟨by kernel_rfl, fun w' hw' => ?_⟩) hS3 ?_
        · go_simp
        refine wpAnyH_take (i := 13) (v := .bool (decide ((0 : Int) < (n9 : Int)))) rfl (by kernel_rfl) (by kernel_rfl) (by kernel_rfl) (fun _ _ _ h => h) (Or.inl ⟨by kernel_rfl, fun w' hw' => ?_⟩) hS3 ?_
        · go_simp
        refine wpAnyH_done (by kernel_rfl) ?_ _
        have KB := Lib.hid k3
        have HR1 := Lib.hid hr1
        have HR2 := Lib.hid hr2
        clear k2 k3 hS0 hS1 hS2 hS3 hB hB2 hAt hlen h0 h1 hr1 hr2
        go_wp2_with fail
        go_meet
        refine ⟨_, rfl, ?_, KB⟩
        show _ → _
        intro h
        have hn0 : n9 = 0 := by have := of_decide_eq_false h; omega
        refine ⟨HMEM.out, fun x z hz hin => ?_⟩
        have hx := (HR2.out.2 x).2 ⟨z, hz, hin⟩
        have hR0 : R = [] := List.length_eq_zero_iff.1 (HR1.out.trans hn0)
        rw [hR0] at hx
        simp [nms] at hx
    case rest =>
      obtain ⟨q, rfl, HQ, HB5⟩ := hcut
      have HD5 := Lib.hid (HD2.out.below HB5.out)
      have H5 := Lib.hid (H2.out.trans (HB5.out.mono H2.out.size))
      have HX5 := Lib.hid ((HB5.out.block _ (Array.getElem?_eq_some_iff.1 HX2.out).1).trans HX2.out)
      have HROW5 := Lib.hid (below_row HB5.out HROW.out)
      have HLI5 := Lib.hid (HLIES.out.below HB5.out)
      have HIM5 := Lib.hid ((HIM.out.below H2.out).below HB5.out)
      clear q0 q1 HNA HUS HB5 HD2 H2 HX2 HROW HLIES HIM
      cases q with
      | true =>
        go_wp2
        go_ret
        exact ⟨by first | rfl | simp, H5.out⟩
      | false =>
        have HU := Lib.hid (HQ.out rfl)
        clear HQ
        go_wp2_with fail
        refine (orderN HM.out HD5.out HF.out).mono ?_
        rintro e w5 ⟨O, S, o5, o6, n5, n6, c5, c6, rfl, hO, hS, hn1, hn2, hr, hs, hAO, hAS, hB, _⟩
        have HO := Lib.hid hO
        have HS := Lib.hid hS
        have HN1 := Lib.hid hn1
        have HN2 := Lib.hid hn2
        have HRUN := Lib.hid hr
        have HSTK := Lib.hid hs
        have HAO := Lib.hid hAO
        have HAS := Lib.hid hAS
        have H6 := Lib.hid (H5.out.trans (hB.mono H5.out.size))
        have HX6 := Lib.hid ((hB.block _ (Array.getElem?_eq_some_iff.1 HX5.out).1).trans HX5.out)
        have HROW6 := Lib.hid (below_row hB HROW5.out)
        have HLI6 := Lib.hid (HLI5.out.below hB)
        have HIM6 := Lib.hid (HIM5.out.below hB)
        have HF2 : Hid (Few (xs ++ [y])) := by
          refine ⟨by rw [List.length_append, HM.out]; have := H60.out; simp; omega, fun x hx => ?_⟩
          rcases List.mem_append.1 hx with hx | hx
          · exact HF.out.imps x hx
          · rw [List.mem_singleton.1 hx]
            exact ⟨by rw [HK.out]; have := HK40.out; omega, HSY.out.1, HSY.out.2⟩
        have HLIES2 : ∀ W, Below w5.heap.size w5 W → Lies W (L ++ [((y, oi, ci) : NV)]) := fun W hb p hp => by
          rcases List.mem_append.1 hp with hp | hp
          · exact (HLI6.out.below hb) p hp
          · rw [List.mem_singleton.1 hp]
            exact ⟨by show y.imps.length ≤ _; rw [HK.out]; have := HK40.out; omega, HIM6.out.below hb⟩
        have q0 : w5.cell? ⟨w.heap.size, 0, none⟩ = some (.string y.name) := by simp [World.cell?, HX6.out]
        have q1 : w5.cell? ⟨w.heap.size, 1, none⟩ = some (.slice oi K ci) := by simp [World.cell?, HX6.out]
        clear hO hS hn1 hn2 hr hs hAO hAS hB HD5 H5 HX5 HROW5 HLI5 HIM5
        go_upto_region 8 with fail
        go_cut [8, 9] from 44 to 53 (fun v1 v2 wx => ∃ (O' S' : List ByteArray) (o7 o8 : Option Addr) (n7 n8 c7 c8 : Nat), v1 = .slice o7 n7 c7 ∧ v2 = .slice o8 n8 c8 ∧ Hid (O'.length = n7) ∧ Hid (S'.length = n8) ∧ Hid (n7 ≤ 1000) ∧ Hid (n8 ≤ 1000) ∧ Hid (RunN (xs.map toNd ++ [toNd y]) [] (nms O')) ∧ Hid (StkIs (xs.map toNd ++ [toNd y]) (nms O') (nms S')) ∧ Hid (AtS wx o7 O') ∧ Hid (AtS wx o8 S') ∧ Hid (Below w5.heap.size w5 wx))
        case first =>
          have HLIES2' := Lib.hid HLIES2
          clear HLIES2
          have HLIES2 := HLIES2'.out
          have hS0 : (fun w' : World => Below w5.heap.size w5 w') w5.drew := (Below.refl _ _).drew
          refine wp_region_held_drew (S := (fun w' : World => Below w5.heap.size w5 w')) (by kernel_rfl) hS0 fun hS0 => ?_
          refine wpAnyH_take (i := 1) (v := .slice o2 m c2) rfl (by kernel_rfl) (by kernel_rfl) (by kernel_rfl) (fun _ _ _ h => h) (Or.inl ⟨by kernel_rfl, fun w' hw' => ?_⟩) hS0 ?_
          · kernel_rfl
          refine wpAnyH_take (i := 3) (v := .agg #[.string y.name, .slice oi K ci]) rfl (by kernel_rfl) (by kernel_rfl) (by kernel_rfl) (fun _ _ _ h => h) (Or.inl ⟨by kernel_rfl, fun w' hw' => ?_⟩) hS0 ?_
          · have h3 := (Below.cell hw' (World.block_lt_of_cell? _ _ q0)).trans q0; have h4 := (Below.cell hw' (World.block_lt_of_cell? _ _ q1)).trans q1; go_simp
          have kR0 : w5.drew.ownsRow w1.heap.size 36 2 (.slice o2 m c2) m (dC L) := below_row ((Below.refl _ _).drew) HROW6.out
          generalize w5.drew = W0 at *
          have HE0 := Lib.hid (empty_row W0 36)
          have HN0 := Lib.hid (one_nds W0 y oi K ci HK.out)
          refine wpAnyH_ready (rs := [0, 4]) (by kernel_rfl) (by simp) (AllReadyH.cons rfl (fun KK hK => ?_) (AllReadyH.cons rfl (fun KK hK => ?_) AllReadyH.nil))
          · go_simp
            have kA := (hS0.alloc hS0.size (.cells #[] 36))
            have kR1 := kR0.alloc (.cells #[] 36)
            have hb0 : W0.heap.size < (W0.alloc (.cells #[] 36)).heap.size := by rw [World.size_alloc]; omega
            have HL0 : Hid (w5.heap.size ≤ W0.heap.size) := hS0.size
            refine hK.out _ _ kA (fun hS1 => ?_)
            generalize W0.alloc (.cells #[] 36) = W1 at *
            have HN1' := Lib.hid (one_nds W1 y oi K ci HK.out)
            generalize W0.heap.size = b0 at *
            refine wpAnyH_ready (rs := [2, 4]) (by kernel_rfl) (by simp) (AllReadyH.cons rfl (fun KK hK => ?_) (AllReadyH.cons rfl (fun KK hK => ?_) AllReadyH.nil))
            · refine step_append_ex rfl (.tmp 45) (.tmp 46) 22 rfl (.slice (some ⟨b0, 0, none⟩) 0 0) (.slice o2 m c2) (by kernel_rfl) (by kernel_rfl) (fun ty => run_copy_nds _ b0 HE0.out o2 m c2 _ L kR1 HLL.out (by have := H60.out; omega) ty) fun v7 W7 hR7 => ?_
              obtain ⟨⟨oA, cA, rfl, hrowA⟩, hbelA, hblkA⟩ := hR7
              have kB : Below w5.heap.size w5 W7 := kA.trans (hbelA.mono HL0.out)
              refine hK.out _ _ kB (fun hS2 => ?_)
              refine wpAnyH_ready (rs := [4]) (by kernel_rfl) (by simp) (AllReadyH.cons rfl (fun KK hK => ?_) AllReadyH.nil)
              go_simp
              have kC := (kB.alloc kB.size (.cells #[.string y.name, .slice oi K ci] 36))
              have HRA := Lib.hid (hrowA.alloc (.cells #[.string y.name, .slice oi K ci] 36))
              have HON := Lib.hid (one_nds W7 y oi K ci HK.out)
              have HBL : Hid (b0 ≤ (W7.alloc (.cells #[.string y.name, .slice oi K ci] 36)).heap.size) := by have := hbelA.size; show _ ≤ _; rw [World.size_alloc]; omega
              have HB0 := HL0
              refine hK.out _ _ kC (fun hS3 => ?_)
              generalize W7.alloc (.cells #[.string y.name, .slice oi K ci] 36) = W8 at *
              generalize W7.heap.size = g at *
              refine wpAnyH_ready (rs := [5]) (by kernel_rfl) (by simp) (AllReadyH.cons rfl (fun KK hK => ?_) AllReadyH.nil)
              refine step_append_ex rfl (.tmp 47) (.tmp 49) 22 rfl (.slice oA m cA) (.slice (some ⟨g, 0, none⟩) 1 1) (by kernel_rfl) (by kernel_rfl) (fun ty => run_more_nds _ b0 _ m L ⟨_, _, rfl⟩ HRA.out HBL.out g g ((y, oi, ci) : NV) HON.out (by have := H60.out; omega) ty) fun v9 W9 hR9 => ?_
              obtain ⟨⟨o9, c9, rfl, hrow9⟩, hbel9⟩ := hR9
              have k9 : Below w5.heap.size w5 W9 := kC.trans (hbel9.mono HB0.out)
              refine hK.out _ _ k9 (fun hS9 => ?_)
              have hAD : AtD W9 o9 (xs ++ [y]) := by
                have h := own_nodes hrow9 (by rw [List.length_append, HLL.out]; rfl) (HLIES2 W9 k9)
                rw [List.map_append, HLF.out] at h
                exact h
              refine wpAnyH_ready (rs := [6]) (by kernel_rfl) (by simp) (AllReadyH.cons rfl (fun KK hK => ?_) AllReadyH.nil)
              go_simp
              refine (orderN (xs := xs ++ [y]) (by rw [List.length_append, HM.out]; rfl) hAD HF2.out).mono ?_
              rintro e w9 ⟨O', S', o7, o8, n7, n8, c7, c8, rfl, hO, hS, hn1, hn2, hr, hs, hAO, hAS, hB, _⟩
              have k10 : Below w5.heap.size w5 w9 := k9.trans (hB.mono k9.size)
              refine hK.out _ _ k10 (fun hS10 => ?_)
              refine wpAnyH_take (i := 7) (v := .tuple #[.slice o7 n7 c7, .slice o8 n8 c8]) rfl (by kernel_rfl) (by kernel_rfl) (by kernel_rfl) (fun _ _ _ h => h) (Or.inl ⟨by kernel_rfl, fun w' hw' => ?_⟩) hS10 ?_
              · kernel_rfl
              refine wpAnyH_take (i := 8) (v := .slice o7 n7 c7) rfl (by kernel_rfl) (by kernel_rfl) (by kernel_rfl) (fun _ _ _ h => h) (Or.inl ⟨by kernel_rfl, fun w' hw' => ?_⟩) hS10 ?_
              · kernel_rfl
              refine wpAnyH_take (i := 9) (v := .slice o8 n8 c8) rfl (by kernel_rfl) (by kernel_rfl) (by kernel_rfl) (fun _ _ _ h => h) (Or.inl ⟨by kernel_rfl, fun w' hw' => ?_⟩) hS10 ?_
              · kernel_rfl
              refine wpAnyH_take (i := 10) (v := .slice o7 n7 c7) rfl (by kernel_rfl) (by kernel_rfl) (by kernel_rfl) (fun _ _ _ h => h) (Or.inl ⟨by kernel_rfl, fun w' hw' => ?_⟩) hS10 ?_
              · kernel_rfl
              refine wpAnyH_take (i := 11) (v := .slice o8 n8 c8) rfl (by kernel_rfl) (by kernel_rfl) (by kernel_rfl) (fun _ _ _ h => h) (Or.inl ⟨by kernel_rfl, fun w' hw' => ?_⟩) hS10 ?_
              · kernel_rfl
              refine wpAnyH_done (by kernel_rfl) ?_ _
              have hRR : RunN (xs.map toNd ++ [toNd y]) [] (nms O') := by rw [List.map_append] at hr; exact hr
              have hSS : StkIs (xs.map toNd ++ [toNd y]) (nms O') (nms S') := by rw [List.map_append] at hs; exact hs
              have G1 := Lib.hid hO
              have G2 := Lib.hid hS
              have G3 := Lib.hid hn1
              have G4 := Lib.hid hn2
              have G5 := Lib.hid hRR
              have G6 := Lib.hid hSS
              have G7 := Lib.hid hAO
              have G8 := Lib.hid hAS
              have G9 := Lib.hid k10
              clear hO hS hn1 hn2 hr hs hRR hSS hAO hAS hB k10 hS10 k9 hS9 hbel9 hrow9 hAD
              go_wp2_with fail
              go_meet
              exact ⟨O', S', o7, o8, n7, n8, c7, c8, rfl, rfl, G1, G2, G3, G4, G5, G6, G7, G8, G9⟩
            · go_simp
              have kB := (kA.alloc kA.size (.cells #[.string y.name, .slice oi K ci] 36))
              have kR2 := kR1.alloc (.cells #[.string y.name, .slice oi K ci] 36)
              have HE2 := Lib.hid (HE0.out.alloc (.cells #[.string y.name, .slice oi K ci] 36))
              have hgl : W1.heap.size < (W1.alloc (.cells #[.string y.name, .slice oi K ci] 36)).heap.size := by rw [World.size_alloc]; omega
              have hne : W1.heap.size ≠ b0 := by omega
              refine hK.out _ _ kB (fun hS2 => ?_)
              generalize W1.alloc (.cells #[.string y.name, .slice oi K ci] 36) = W2 at *
              generalize W1.heap.size = g at *
              refine wpAnyH_ready (rs := [2]) (by kernel_rfl) (by simp) (AllReadyH.cons rfl (fun KK hK => ?_) AllReadyH.nil)
              refine step_append_ex rfl (.tmp 45) (.tmp 46) 22 rfl (.slice (some ⟨b0, 0, none⟩) 0 0) (.slice o2 m c2) (by kernel_rfl) (by kernel_rfl) (fun ty => run_copy_nds _ b0 HE2.out o2 m c2 _ L kR2 HLL.out (by have := H60.out; omega) ty) fun v7 W7 hR7 => ?_
              obtain ⟨⟨oA, cA, rfl, hrowA⟩, hbelA, hblkA⟩ := hR7
              have kC : Below w5.heap.size w5 W7 := kB.trans (hbelA.mono HL0.out)
              have HRA := Lib.hid hrowA
              have HON := Lib.hid (keep_nds HN1'.out fun k e => by simp only [Value.ownBlock, Option.some.injEq] at e; subst e; exact hblkA _ hgl hne)
              have HBL : Hid (b0 ≤ W7.heap.size) := by have := hbelA.size; show _ ≤ _; omega
              have HB0 := HL0
              refine hK.out _ _ kC (fun hS3 => ?_)
              refine wpAnyH_ready (rs := [5]) (by kernel_rfl) (by simp) (AllReadyH.cons rfl (fun KK hK => ?_) AllReadyH.nil)
              refine step_append_ex rfl (.tmp 47) (.tmp 49) 22 rfl (.slice oA m cA) (.slice (some ⟨g, 0, none⟩) 1 1) (by kernel_rfl) (by kernel_rfl) (fun ty => run_more_nds _ b0 _ m L ⟨_, _, rfl⟩ HRA.out HBL.out g g ((y, oi, ci) : NV) HON.out (by have := H60.out; omega) ty) fun v9 W9 hR9 => ?_
              obtain ⟨⟨o9, c9, rfl, hrow9⟩, hbel9⟩ := hR9
              have k9 : Below w5.heap.size w5 W9 := kC.trans (hbel9.mono HB0.out)
              refine hK.out _ _ k9 (fun hS9 => ?_)
              have hAD : AtD W9 o9 (xs ++ [y]) := by
                have h := own_nodes hrow9 (by rw [List.length_append, HLL.out]; rfl) (HLIES2 W9 k9)
                rw [List.map_append, HLF.out] at h
                exact h
              refine wpAnyH_ready (rs := [6]) (by kernel_rfl) (by simp) (AllReadyH.cons rfl (fun KK hK => ?_) AllReadyH.nil)
              go_simp
              refine (orderN (xs := xs ++ [y]) (by rw [List.length_append, HM.out]; rfl) hAD HF2.out).mono ?_
              rintro e w9 ⟨O', S', o7, o8, n7, n8, c7, c8, rfl, hO, hS, hn1, hn2, hr, hs, hAO, hAS, hB, _⟩
              have k10 : Below w5.heap.size w5 w9 := k9.trans (hB.mono k9.size)
              refine hK.out _ _ k10 (fun hS10 => ?_)
              refine wpAnyH_take (i := 7) (v := .tuple #[.slice o7 n7 c7, .slice o8 n8 c8]) rfl (by kernel_rfl) (by kernel_rfl) (by kernel_rfl) (fun _ _ _ h => h) (Or.inl ⟨by kernel_rfl, fun w' hw' => ?_⟩) hS10 ?_
              · kernel_rfl
              refine wpAnyH_take (i := 8) (v := .slice o7 n7 c7) rfl (by kernel_rfl) (by kernel_rfl) (by kernel_rfl) (fun _ _ _ h => h) (Or.inl ⟨by kernel_rfl, fun w' hw' => ?_⟩) hS10 ?_
              · kernel_rfl
              refine wpAnyH_take (i := 9) (v := .slice o8 n8 c8) rfl (by kernel_rfl) (by kernel_rfl) (by kernel_rfl) (fun _ _ _ h => h) (Or.inl ⟨by kernel_rfl, fun w' hw' => ?_⟩) hS10 ?_
              · kernel_rfl
              refine wpAnyH_take (i := 10) (v := .slice o7 n7 c7) rfl (by kernel_rfl) (by kernel_rfl) (by kernel_rfl) (fun _ _ _ h => h) (Or.inl ⟨by kernel_rfl, fun w' hw' => ?_⟩) hS10 ?_
              · kernel_rfl
              refine wpAnyH_take (i := 11) (v := .slice o8 n8 c8) rfl (by kernel_rfl) (by kernel_rfl) (by kernel_rfl) (fun _ _ _ h => h) (Or.inl ⟨by kernel_rfl, fun w' hw' => ?_⟩) hS10 ?_
              · kernel_rfl
              refine wpAnyH_done (by kernel_rfl) ?_ _
              have hRR : RunN (xs.map toNd ++ [toNd y]) [] (nms O') := by rw [List.map_append] at hr; exact hr
              have hSS : StkIs (xs.map toNd ++ [toNd y]) (nms O') (nms S') := by rw [List.map_append] at hs; exact hs
              have G1 := Lib.hid hO
              have G2 := Lib.hid hS
              have G3 := Lib.hid hn1
              have G4 := Lib.hid hn2
              have G5 := Lib.hid hRR
              have G6 := Lib.hid hSS
              have G7 := Lib.hid hAO
              have G8 := Lib.hid hAS
              have G9 := Lib.hid k10
              clear hO hS hn1 hn2 hr hs hRR hSS hAO hAS hB k10 hS10 k9 hS9 hbel9 hrow9 hAD
              go_wp2_with fail
              go_meet
              exact ⟨O', S', o7, o8, n7, n8, c7, c8, rfl, rfl, G1, G2, G3, G4, G5, G6, G7, G8, G9⟩
          · go_simp
            have kA := (hS0.alloc hS0.size (.cells #[.string y.name, .slice oi K ci] 36))
            have kR1 := kR0.alloc (.cells #[.string y.name, .slice oi K ci] 36)
            have hgl0 : W0.heap.size < (W0.alloc (.cells #[.string y.name, .slice oi K ci] 36)).heap.size := by rw [World.size_alloc]; omega
            refine hK.out _ _ kA (fun hS1 => ?_)
            generalize W0.alloc (.cells #[.string y.name, .slice oi K ci] 36) = W1 at *
            generalize W0.heap.size = g at *
            refine wpAnyH_ready (rs := [0]) (by kernel_rfl) (by simp) (AllReadyH.cons rfl (fun KK hK => ?_) AllReadyH.nil)
            go_simp
            have kB := (kA.alloc kA.size (.cells #[] 36))
            have kR2 := kR1.alloc (.cells #[] 36)
            have HE1 := Lib.hid (empty_row W1 36)
            have HN2' := Lib.hid (HN0.out.alloc (.cells #[] 36))
            have hgl : W1.heap.size < (W1.alloc (.cells #[] 36)).heap.size := by rw [World.size_alloc]; omega
            have HL0 : Hid (w5.heap.size ≤ W1.heap.size) := kA.size
            refine hK.out _ _ kB (fun hS2 => ?_)
            generalize W1.alloc (.cells #[] 36) = W2 at *
            generalize W1.heap.size = b0 at *
            refine wpAnyH_ready (rs := [2]) (by kernel_rfl) (by simp) (AllReadyH.cons rfl (fun KK hK => ?_) AllReadyH.nil)
            refine step_append_ex rfl (.tmp 45) (.tmp 46) 22 rfl (.slice (some ⟨b0, 0, none⟩) 0 0) (.slice o2 m c2) (by kernel_rfl) (by kernel_rfl) (fun ty => run_copy_nds _ b0 HE1.out o2 m c2 _ L kR2 HLL.out (by have := H60.out; omega) ty) fun v7 W7 hR7 => ?_
            obtain ⟨⟨oA, cA, rfl, hrowA⟩, hbelA, hblkA⟩ := hR7
            have kC : Below w5.heap.size w5 W7 := kB.trans (hbelA.mono HL0.out)
            have HRA := Lib.hid hrowA
            have HON := Lib.hid (keep_nds HN2'.out fun k e => by simp only [Value.ownBlock, Option.some.injEq] at e; subst e; exact hblkA _ (by omega) (by omega))
            have HBL : Hid (b0 ≤ W7.heap.size) := by have := hbelA.size; show _ ≤ _; omega
            have HB0 := HL0
            refine hK.out _ _ kC (fun hS3 => ?_)
            refine wpAnyH_ready (rs := [5]) (by kernel_rfl) (by simp) (AllReadyH.cons rfl (fun KK hK => ?_) AllReadyH.nil)
            refine step_append_ex rfl (.tmp 47) (.tmp 49) 22 rfl (.slice oA m cA) (.slice (some ⟨g, 0, none⟩) 1 1) (by kernel_rfl) (by kernel_rfl) (fun ty => run_more_nds _ b0 _ m L ⟨_, _, rfl⟩ HRA.out HBL.out g g ((y, oi, ci) : NV) HON.out (by have := H60.out; omega) ty) fun v9 W9 hR9 => ?_
            obtain ⟨⟨o9, c9, rfl, hrow9⟩, hbel9⟩ := hR9
            have k9 : Below w5.heap.size w5 W9 := kC.trans (hbel9.mono HB0.out)
            refine hK.out _ _ k9 (fun hS9 => ?_)
            have hAD : AtD W9 o9 (xs ++ [y]) := by
              have h := own_nodes hrow9 (by rw [List.length_append, HLL.out]; rfl) (HLIES2 W9 k9)
              rw [List.map_append, HLF.out] at h
              exact h
            refine wpAnyH_ready (rs := [6]) (by kernel_rfl) (by simp) (AllReadyH.cons rfl (fun KK hK => ?_) AllReadyH.nil)
            go_simp
            refine (orderN (xs := xs ++ [y]) (by rw [List.length_append, HM.out]; rfl) hAD HF2.out).mono ?_
            rintro e w9 ⟨O', S', o7, o8, n7, n8, c7, c8, rfl, hO, hS, hn1, hn2, hr, hs, hAO, hAS, hB, _⟩
            have k10 : Below w5.heap.size w5 w9 := k9.trans (hB.mono k9.size)
            refine hK.out _ _ k10 (fun hS10 => ?_)
            refine wpAnyH_take (i := 7) (v := .tuple #[.slice o7 n7 c7, .slice o8 n8 c8]) rfl (by kernel_rfl) (by kernel_rfl) (by kernel_rfl) (fun _ _ _ h => h) (Or.inl ⟨by kernel_rfl, fun w' hw' => ?_⟩) hS10 ?_
            · kernel_rfl
            refine wpAnyH_take (i := 8) (v := .slice o7 n7 c7) rfl (by kernel_rfl) (by kernel_rfl) (by kernel_rfl) (fun _ _ _ h => h) (Or.inl ⟨by kernel_rfl, fun w' hw' => ?_⟩) hS10 ?_
            · kernel_rfl
            refine wpAnyH_take (i := 9) (v := .slice o8 n8 c8) rfl (by kernel_rfl) (by kernel_rfl) (by kernel_rfl) (fun _ _ _ h => h) (Or.inl ⟨by kernel_rfl, fun w' hw' => ?_⟩) hS10 ?_
            · kernel_rfl
            refine wpAnyH_take (i := 10) (v := .slice o7 n7 c7) rfl (by kernel_rfl) (by kernel_rfl) (by kernel_rfl) (fun _ _ _ h => h) (Or.inl ⟨by kernel_rfl, fun w' hw' => ?_⟩) hS10 ?_
            · kernel_rfl
            refine wpAnyH_take (i := 11) (v := .slice o8 n8 c8) rfl (by kernel_rfl) (by kernel_rfl) (by kernel_rfl) (fun _ _ _ h => h) (Or.inl ⟨by kernel_rfl, fun w' hw' => ?_⟩) hS10 ?_
            · kernel_rfl
            refine wpAnyH_done (by kernel_rfl) ?_ _
            have hRR : RunN (xs.map toNd ++ [toNd y]) [] (nms O') := by rw [List.map_append] at hr; exact hr
            have hSS : StkIs (xs.map toNd ++ [toNd y]) (nms O') (nms S') := by rw [List.map_append] at hs; exact hs
            have G1 := Lib.hid hO
            have G2 := Lib.hid hS
            have G3 := Lib.hid hn1
            have G4 := Lib.hid hn2
            have G5 := Lib.hid hRR
            have G6 := Lib.hid hSS
            have G7 := Lib.hid hAO
            have G8 := Lib.hid hAS
            have G9 := Lib.hid k10
            clear hO hS hn1 hn2 hr hs hRR hSS hAO hAS hB k10 hS10 k9 hS9 hbel9 hrow9 hAD
            go_wp2_with fail
            go_meet
            exact ⟨O', S', o7, o8, n7, n8, c7, c8, rfl, rfl, G1, G2, G3, G4, G5, G6, G7, G8, G9⟩
        case rest =>
          obtain ⟨O', S', o7, o8, n7, n8, c7, c8, rfl, rfl, HO2, HS2, HN7, HN8, HRUN2, HSTK2, HAO2, HAS2, HB8⟩ := hcut
          have hgr := grows_of (n := toNd y) HU.out.1 HU.out.2 HRUN.out HSTK.out HRUN2.out HSTK2.out
          have HG1 : Hid ((nms O').filter (· ≠ nm y.name) = nms O) := hgr.1
          have HG2 : Hid ((nms S').filter (· ≠ nm y.name) = nms S) := hgr.2.1
          have hg3 := hgr.2.2
          have hlen : n7 + n8 = n5 + n6 + 1 := by
            have e : ∀ l : List ByteArray, (nms l).length = l.length := fun l => by unfold nms; rw [List.length_map]
            rw [e, e, e, e, HO2.out, HS2.out, HO.out, HS.out] at hg3
            exact hg3
          have HX8 := Lib.hid ((HB8.out.block _ (Array.getElem?_eq_some_iff.1 HX6.out).1).trans HX6.out)
          have HAO8 := Lib.hid (HAO.out.below HB8.out)
          have HAS8 := Lib.hid (HAS.out.below HB8.out)
          have H8 := Lib.hid (H6.out.trans (HB8.out.mono H6.out.size))
          have HLEN := Lib.hid hlen
          clear hgr hg3 hlen HU HRUN HSTK HRUN2 HSTK2 HX6 HAO HAS H6 HB8 q0 q1 HLIES2 HF2 HIM6 HLI6 HROW6
          generalize wc = wb at *
          go_wp2_with fail
          go_loopw [10, 11] (fun v i wr => ∃ (j : Nat) (R : List ByteArray) (ov : Option Addr) (nv cv : Nat), v = .slice ov nv cv ∧ i = .int .i64 (j : Nat) ∧ Hid (R.length = nv) ∧ Hid (nv ≤ j) ∧ Hid (j ≤ n7) ∧ Hid (nms R = (nms (O'.take j)).filter (· ≠ nm y.name)) ∧ Hid (wr.ownsRow wb.heap.size 9 1 (.slice ov nv cv) nv (sC R)) ∧ Hid (Below wb.heap.size wb wr)) (fun _ i _ => n7 - (RowKit.intOf i).toNat)
          case atStart => exact ⟨0, [], none, 0, 0, rfl, rfl, rfl, Nat.le_refl _, Nat.zero_le _, by show _ = _; rfl, World.ownsRow_nil _ _ _ _, Below.refl _ _⟩
          case round =>
            obtain ⟨j, R, ov, nv, cv, rfl, rfl, HRL, HNJ, HJ, HRF, HR, HB⟩ := hrel
            by_cases hj : j < n7
            · have hj' : ((j : Int) < (n7 : Int)) := by omega
              have hjo : j < O'.length := by rw [HO2.out]; exact hj
              have hgj : O'[j]? = some O'[j] := List.getElem?_eq_getElem hjo
              obtain ⟨a, rfl, hc⟩ := HAO2.out j _ hgj
              have hq := (HB.out.cell (World.block_lt_of_cell? _ _ hc)).trans hc
              have hb : wb.cell? ⟨w.heap.size, 0, none⟩ = some (.string y.name) := by simp [World.cell?, HX8.out]
              have hq' := (HB.out.cell (World.block_lt_of_cell? _ _ hb)).trans hb
              have he := nm_eq O'[j] y.name
              have htk : nms (O'.take (j + 1)) = nms (O'.take j) ++ [nm O'[j]] := by rw [List.take_succ_eq_append_getElem hjo, nms_app]; rfl
              have HF1 : Hid ((nms (O'.take (j + 1))).filter (· ≠ nm y.name) = if nm O'[j] = nm y.name then (nms (O'.take j)).filter (· ≠ nm y.name) else (nms (O'.take j)).filter (· ≠ nm y.name) ++ [nm O'[j]]) := by
                show _ = _
                rw [htk, filt_snoc]
              have HJ7 := Lib.hid hj
              have hnb := HN7.out
              have HBd := Lib.hid (fun k => (HB.out.trans (quietB wr k HB.out.size) : Below wb.heap.size wb _))
              clear hgj hc hb htk hj
              generalize O'[j] = x at *
              clear hjo
              by_cases hxy : nm x = nm y.name
              · rw [decide_eq_true hxy] at he
                have HF2' := HF1.out
                rw [if_pos hxy] at HF2'
                have HF3 := Lib.hid (HRF.out.trans HF2'.symm)
                clear hxy HF1 HF2'
                go_wp2_with fail
                go_quiet (fail)
                go_wp2
                case roundEnd =>
                  have := HJ7.out
                  have := HNJ.out
                  exact ⟨⟨j + 1, R, ov, nv, cv, rfl, by push_cast; rfl, HRL, by show _ ≤ _; omega, by show _ ≤ _; omega, HF3, below_row (quietB _ _ (Nat.le_refl _)) HR.out, HBd.out _⟩, by simp [RowKit.intOf]; omega⟩
              · rw [decide_eq_false hxy] at he
                have HF2' := HF1.out
                rw [if_neg hxy] at HF2'
                have HF3 : Hid (nms (R ++ [x]) = (nms (O'.take (j + 1))).filter (· ≠ nm y.name)) := by
                  show _ = _
                  rw [HF2', nms_app, HRF.out]
                  rfl
                have HRd := Lib.hid (fun k => below_row (quietB wr k (Nat.le_refl _)) HR.out)
                clear hxy HF1 HF2'
                go_wp2_with fail
                go_quiet (fail)
                go_wp2_with (refine wpList_append_name rfl _ _ rfl wb.heap.size (.slice ov nv cv) nv R x rfl HRL.out (HRd.out _) rfl (HBd.out _).size (by have := HJ7.out; have := HNJ.out; have := HN7.out; omega) ?_; intro o9 c9 w9 hrow hbel; have HR9 := Lib.hid hrow; have HB9 := Lib.hid ((HBd.out _).trans hbel); clear hrow hbel)
                case roundEnd =>
                  have := HJ7.out
                  have := HNJ.out
                  exact ⟨⟨j + 1, R ++ [x], o9, nv + 1, c9, rfl, by push_cast; rfl, by show _ = _; rw [List.length_append, HRL.out]; rfl, by show _ ≤ _; omega, by show _ ≤ _; omega, HF3, HR9, HB9⟩, by simp [RowKit.intOf]; omega⟩
            · have hj' : ¬ ((j : Int) < (n7 : Int)) := by omega
              have hle := HJ.out
              obtain rfl : n7 = j := by omega
              have hfull := HRF.out
              rw [List.take_of_length_le (by rw [HO2.out]; exact Nat.le_refl _), HG1.out] at hfull
              have HFL1 := Lib.hid hfull
              have HRR1 := Lib.hid (own_names_n HR.out HRL.out)
              have HNS1 := Lib.hid (Nat.le_trans HNJ.out HN7.out)
              have HAO11 := Lib.hid (HAO8.out.below HB.out)
              have HAS11 := Lib.hid (HAS8.out.below HB.out)
              have HASS := Lib.hid (HAS2.out.below HB.out)
              have HX11 := Lib.hid ((HB.out.block _ (Array.getElem?_eq_some_iff.1 HX8.out).1).trans HX8.out)
              have H11 := Lib.hid (H8.out.trans (HB.out.mono H8.out.size))
              clear hfull hle hj HRF HR HB HAO8 HAS8 HAS2 HX8 H8 HJ HNJ HAO2
              obtain ⟨R1, rfl⟩ : ∃ R1, R1 = R := ⟨R, rfl⟩
              obtain ⟨ov1, rfl⟩ : ∃ ov1, ov1 = ov := ⟨ov, rfl⟩
              obtain ⟨nv1, rfl⟩ : ∃ nv1, nv1 = nv := ⟨nv, rfl⟩
              obtain ⟨cv1, rfl⟩ : ∃ cv1, cv1 = cv := ⟨cv, rfl⟩
              have HRL1 := HRL
              clear HRL
              obtain ⟨wd, rfl⟩ : ∃ wd, wd = wr := ⟨wr, rfl⟩
              go_wp2_with fail
              go_loopw [12, 13] (fun v i wr => ∃ (j : Nat) (R : List ByteArray) (ov : Option Addr) (nv cv : Nat), v = .slice ov nv cv ∧ i = .int .i64 (j : Nat) ∧ Hid (R.length = nv) ∧ Hid (nv ≤ j) ∧ Hid (j ≤ n8) ∧ Hid (nms R = (nms (S'.take j)).filter (· ≠ nm y.name)) ∧ Hid (wr.ownsRow wd.heap.size 9 1 (.slice ov nv cv) nv (sC R)) ∧ Hid (Below wd.heap.size wd wr)) (fun _ i _ => n8 - (RowKit.intOf i).toNat)
              case atStart => exact ⟨0, [], none, 0, 0, rfl, rfl, rfl, Nat.le_refl _, Nat.zero_le _, by show _ = _; rfl, World.ownsRow_nil _ _ _ _, Below.refl _ _⟩
              case round =>
                obtain ⟨j, R, ov, nv, cv, rfl, rfl, HRL, HNJ, HJ, HRF, HR, HB⟩ := hrel
                by_cases hj : j < n8
                · have hj' : ((j : Int) < (n8 : Int)) := by omega
                  have hjo : j < S'.length := by rw [HS2.out]; exact hj
                  have hgj : S'[j]? = some S'[j] := List.getElem?_eq_getElem hjo
                  obtain ⟨a, rfl, hc⟩ := HASS.out j _ hgj
                  have hq := (HB.out.cell (World.block_lt_of_cell? _ _ hc)).trans hc
                  have hb : wd.cell? ⟨w.heap.size, 0, none⟩ = some (.string y.name) := by simp [World.cell?, HX11.out]
                  have hq' := (HB.out.cell (World.block_lt_of_cell? _ _ hb)).trans hb
                  have he := nm_eq S'[j] y.name
                  have htk : nms (S'.take (j + 1)) = nms (S'.take j) ++ [nm S'[j]] := by rw [List.take_succ_eq_append_getElem hjo, nms_app]; rfl
                  have HF1 : Hid ((nms (S'.take (j + 1))).filter (· ≠ nm y.name) = if nm S'[j] = nm y.name then (nms (S'.take j)).filter (· ≠ nm y.name) else (nms (S'.take j)).filter (· ≠ nm y.name) ++ [nm S'[j]]) := by
                    show _ = _
                    rw [htk, filt_snoc]
                  have HJ7 := Lib.hid hj
                  have hnb := HN8.out
                  have HBd := Lib.hid (fun k => (HB.out.trans (quietB wr k HB.out.size) : Below wd.heap.size wd _))
                  clear hgj hc hb htk hj
                  generalize S'[j] = x at *
                  clear hjo
                  by_cases hxy : nm x = nm y.name
                  · rw [decide_eq_true hxy] at he
                    have HF2' := HF1.out
                    rw [if_pos hxy] at HF2'
                    have HF3 := Lib.hid (HRF.out.trans HF2'.symm)
                    clear hxy HF1 HF2'
                    go_wp2_with fail
                    go_quiet (fail)
                    go_wp2
                    case roundEnd =>
                      have := HJ7.out
                      have := HNJ.out
                      exact ⟨⟨j + 1, R, ov, nv, cv, rfl, by push_cast; rfl, HRL, by show _ ≤ _; omega, by show _ ≤ _; omega, HF3, below_row (quietB _ _ (Nat.le_refl _)) HR.out, HBd.out _⟩, by simp [RowKit.intOf]; omega⟩
                  · rw [decide_eq_false hxy] at he
                    have HF2' := HF1.out
                    rw [if_neg hxy] at HF2'
                    have HF3 : Hid (nms (R ++ [x]) = (nms (S'.take (j + 1))).filter (· ≠ nm y.name)) := by
                      show _ = _
                      rw [HF2', nms_app, HRF.out]
                      rfl
                    have HRd := Lib.hid (fun k => below_row (quietB wr k (Nat.le_refl _)) HR.out)
                    clear hxy HF1 HF2'
                    go_wp2_with fail
                    go_quiet (fail)
                    go_wp2_with (refine wpList_append_name rfl _ _ rfl wd.heap.size (.slice ov nv cv) nv R x rfl HRL.out (HRd.out _) rfl (HBd.out _).size (by have := HJ7.out; have := HNJ.out; have := HN8.out; omega) ?_; intro o9 c9 w9 hrow hbel; have HR9 := Lib.hid hrow; have HB9 := Lib.hid ((HBd.out _).trans hbel); clear hrow hbel)
                    case roundEnd =>
                      have := HJ7.out
                      have := HNJ.out
                      exact ⟨⟨j + 1, R ++ [x], o9, nv + 1, c9, rfl, by push_cast; rfl, by show _ = _; rw [List.length_append, HRL.out]; rfl, by show _ ≤ _; omega, by show _ ≤ _; omega, HF3, HR9, HB9⟩, by simp [RowKit.intOf]; omega⟩
                · have hj' : ¬ ((j : Int) < (n8 : Int)) := by omega
                  have hle := HJ.out
                  obtain rfl : n8 = j := by omega
                  have hfull := HRF.out
                  rw [List.take_of_length_le (by rw [HS2.out]; exact Nat.le_refl _), HG2.out] at hfull
                  have HFL2 := Lib.hid hfull
                  have HRR2 := Lib.hid (own_names_n HR.out HRL.out)
                  have HRL2 := HRL
                  have HNS2 := Lib.hid (Nat.le_trans HNJ.out HN8.out)
                  have HAOa := Lib.hid (HAO11.out.below HB.out)
                  have HASa := Lib.hid (HAS11.out.below HB.out)
                  have HRRa := Lib.hid (HRR1.out.below HB.out)
                  have H12 := Lib.hid (H11.out.trans (HB.out.mono H11.out.size))
                  clear hfull hle hj HRF HR HB HAO11 HAS11 HRR1 H11 HJ HNJ HRL
                  go_wp2_with fail
                  refine (sameR_n R1 O ov1 o5 nv1 n5 cv1 c5 _ HRRa.out HAOa.out HRL1.out HO.out (by have := HNS1.out; omega) (by have := HN1.out; omega)).mono ?_
                  rintro e w13 ⟨rfl, hB⟩
                  rw [decide_eq_true HFL1.out]
                  have HASb := Lib.hid (HASa.out.below hB)
                  have HRRb := Lib.hid (HRR2.out.below hB)
                  have H13 := Lib.hid (H12.out.trans (hB.mono H12.out.size))
                  clear hB
                  go_wp2_with fail
                  refine (sameR_n R S ov o6 nv n6 cv c6 _ HRRb.out HASb.out HRL2.out HS.out (by have := HNS2.out; omega) (by have := HN2.out; omega)).mono ?_
                  rintro e w14 ⟨rfl, hB⟩
                  rw [decide_eq_true HFL2.out]
                  have H14 := Lib.hid (H13.out.trans (hB.mono H13.out.size))
                  have hsum : ((n7 : Int) + (n8 : Int)) = ((n5 : Int) + (n6 : Int) + 1) := by have := HLEN.out; omega
                  have hm1 := HN7.out
                  have hm2 := HN8.out
                  have hm3 := HN1.out
                  have hm4 := HN2.out
                  clear hB
                  go_wp2
                  go_ret
                  exact ⟨by first | rfl | simp [hsum], H14.out⟩

end Go.Proofs.Ytgnhcaepkgbieaa.graphGrows
