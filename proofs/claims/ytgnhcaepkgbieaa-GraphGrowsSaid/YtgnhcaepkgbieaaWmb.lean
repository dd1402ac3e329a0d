/-
  The program's own web of packages: names in order, numbers for names. Condition: at most a thousand packages, of at most a thousand imports, and names of at most 2^48 bytes.
-/
import Derived.Test.YtgnhcaepkgbieaaWma
import Derived.Deep.DeepCutAuto
namespace Go.Proofs.Ytgnhcaepkgbieaa
open Go.RowKit Go.Maps

theorem names_few {l : List Nd} {ss : List Nm} (hd : ss.Nodup) (hm : ∀ x, x ∈ ss ↔ (firstI l x).isSome = true) : ss.length ≤ l.length := by
  have := (all_in hd (b := namesN l) fun x hx => firstI_isSome.1 ((hm x).1 hx)).1
  unfold namesN at this
  rwa [List.length_map] at this

theorem AtS.turn {S : Nat → Prop} {w w' : World} {o : Option Addr} {xs : List ByteArray} (h : AtS w o xs) (hT : Turn S w w') (hn : ∀ a, o = some a → ¬ S a.block) : AtS w' o xs := fun i s hs => by
  obtain ⟨a, ha, hc⟩ := h i s hs
  refine ⟨a, ha, hT.cell hc ?_⟩
  have e : (a.add i).block = a.block := by unfold Addr.add; split <;> rfl
  rw [e]
  exact hn a ha
/-- The web's variable and its two outer rows, just made. -/
structure WebM (w wx : World) (WB BI BU n cap : Nat) (o : Option Addr) : Prop where
  web : wx.heap[WB]? = some (.cells #[.slice o n cap, .slice (some ⟨BI, 0, none⟩) n n, .slice (some ⟨BU, 0, none⟩) n n] 40)
  im : wx.heap[BI]? = some (.cells (Array.replicate n (.slice none 0 0)) 42)
  us : wx.heap[BU]? = some (.cells (Array.replicate n (.slice none 0 0)) 42)
  ne : WB ≠ BI ∧ WB ≠ BU ∧ BI ≠ BU ∧ w.heap.size ≤ WB ∧ w.heap.size ≤ BI ∧ w.heap.size ≤ BU ∧ WB < wx.heap.size ∧ BI < wx.heap.size ∧ BU < wx.heap.size
  below : Below w.heap.size w wx
theorem makeMap_len (n : Nat) (hn : n ≤ 1000000) (W : World) : (Instr.makeMap 57 (some (.int .i64 (n : Int)))).run Try.prog W = .ok (.map (some W.heap.size)) (W.alloc (.map #[] 0)) := by
  have h1 : IntKind.i64.wrap (n : Int) = (n : Int) := IntWalk.i64_in _ ⟨by omega, by omega⟩
  have h2 : ¬ ((n : Int) < 0) := by omega
  simp [Instr.makeMap, go_sem]
set_option maxRecDepth 100000 in
set_option maxHeartbeats 8000000 in
/-- The web. -/
theorem laidP_any (xs : List ND) (o : Option Addr) (c : Nat) (w : World) (h : AtD w o xs) (hf : Few xs) :
    Calls Try.prog 23 #[.slice o xs.length c] w fun e w' => ∃ (names : List ByteArray) (imps users : List (List Nat)) (on oi ou : Option Addr) (n cn : Nat), e = .returned (.agg #[.slice on n cn, .slice oi n n, .slice ou n n]) ∧
      names.length = n ∧ n ≤ 1000 ∧ WebIs (xs.map toNd) (nms names) imps users ∧ (∀ s ∈ names, s.size ≤ 281474976710656) ∧ (∀ v, (waysAt imps v).length ≤ 1000) ∧ (∀ v, (waysAt users v).length ≤ 1000000) ∧ AtS w' on names ∧ AtR w' oi imps ∧ AtR w' ou users ∧ Below w.heap.size w w' := by
  have HX := Lib.hid h
  have HF := Lib.hid hf
  have HLEN := Lib.hid hf.len
  have HFI := Lib.hid (fun w' (hb : Below w.heap.size w w') => firstsP_any xs o c w' (h.below hb) hf)
  clear h hf
  go_enter Try.func23, Try.ntmps23
  go_wp2_with fail
  refine (HFI.out _ ((Below.refl _ w).alloc (Nat.le_refl _) _)).mono ?_
  rintro e w1 ⟨rfl, hM, hB⟩
  have hlt := hM.lt
  have HM1 := Lib.hid hM
  have HB1 := Lib.hid (((Below.refl w.heap.size w).alloc (Nat.le_refl _) (.cells #[.slice none 0 0, .slice none 0 0, .slice none 0 0] 40)).trans (hB.mono (by simp)))
  have HTB := Lib.hid ((hB.block w.heap.size (by simp)).trans (Go.heap_alloc_new w (.cells #[.slice none 0 0, .slice none 0 0, .slice none 0 0] 40)))
  have HTL := Lib.hid (Array.getElem?_eq_some_iff.1 HTB.out).1
  clear hM hB HFI
  generalize (w.alloc (.cells #[.slice none 0 0, .slice none 0 0, .slice none 0 0] 40)).heap.size = b1 at *
  have HLT := Lib.hid hlt
  clear hlt
  go_wp2_with (at_range; refine wpList_range_M _ rfl _ rfl b1 xs.length (firstI (xs.map toNd)) rfl HM1.out ?_; intro w2 hrg hg)
  have HR0 := Lib.hid hrg
  have HB0 := Lib.hid ((Below.refl w1.heap.size w1).grown hg (Nat.le_refl _) (fun k hk => by cases hk))
  clear hrg hg
  go_frame
  generalize hr : w1.heap.size = r at *
  have HRE := Lib.hid hr
  clear hr
  go_loopw [4] (fun v wr => ∃ (ss : List Nm) (L : List ByteArray) (o' : Option Addr) (n cap : Nat), v = .slice o' n cap ∧ Hid (L.length = n) ∧ Hid (RgM wr b1 r xs.length (firstI (xs.map toNd)) ss) ∧ Hid (nms L = ss) ∧
    Hid (wr.ownsRow w2.heap.size 9 1 (.slice o' n cap) n (sC L)) ∧ Hid (Below r w1 wr) ∧ Hid (w2.heap.size ≤ wr.heap.size)) (fun _ wr => wr.rangeLeft b1 r)
  case atStart => exact ⟨[], [], none, 0, 0, rfl, by show _ = _; rfl, HR0.out, by show _ = _; rfl, World.ownsRow_nil _ _ _ _, HB0.out, Nat.le_refl _⟩
  case round =>
    obtain ⟨ss, L, o', n, cap, rfl, HLN, HR, HL, HRW, HB, HW⟩ := hrel
    have HNE := Lib.hid HR0.out.ne
    have HN : Hid (n ≤ 1000) := by
      have h1 := HR.out.few
      have h2 := HLEN.out
      have h3 : (nms L).length = n := by unfold nms; rw [List.length_map]; exact HLN.out
      rw [HL.out] at h3
      show _ ≤ _
      omega
    go_wp2_with (at_next; refine wpList_next_M _ rfl _ rfl b1 r xs.length _ ss rfl HR.out ?_ ?_)
    · intro hnd hmem
      have HS := Lib.hid (sortS_any L o' n cap w2.heap.size wr HLN.out HRW.out (by have := HN.out; omega))
      have HSS := Lib.hid (sort_srt hnd)
      have HMEM := Lib.hid hmem
      clear hnd hmem
      go_wp2_with fail
      refine HS.out.mono ?_
      rintro e w3 ⟨rfl, hrow, hT⟩
      have HB3 := Lib.hid (HB.out.trans (hT.below (by have := HB.out.size; have := HRE.out; omega) fun k hk => by have := (HRW.out.lt k hk).1; have := HNE.out.2.1; omega))
      have hl : (bys ((nms L).mergeSort leN)).length = n := by rw [bys_len, List.length_mergeSort]; unfold nms; rw [List.length_map]; exact HLN.out
      have HNA := Lib.hid (own_names_n hrow hl)
      have HNB : Hid (∀ a, o' = some a → w2.heap.size ≤ a.block) := fun a ha => by subst ha; exact (hrow.lt a.block rfl).1
      have HRW2 := Lib.hid HNE.out.2.1
      have HLL := Lib.hid hl
      rw [HL.out] at hrow
      have HNM : Hid (nms (bys ((nms L).mergeSort leN)) = ss.mergeSort leN) := by show _ = _; rw [nms_bys, HL.out]
      clear hrow hT HS hl
      generalize bys ((nms L).mergeSort leN) = N at *
      have HSZ : Hid (∀ s ∈ N, s.size ≤ 281474976710656) := fun s hs => by
        have h1 : nm s ∈ nms N := nms_mem.2 hs
        rw [HNM.out, HSS.out.2, HMEM.out] at h1
        obtain ⟨j, hj⟩ := Option.isSome_iff_exists.1 h1
        obtain ⟨d, hd, _, hnm⟩ := first_node hj
        rw [← nm_inj hnm]
        exact (HF.out.imps d (List.mem_of_getElem? hd)).2.1
      have HSR : Hid (Srt (nms N)) := by show Srt _; rw [HNM.out]; exact HSS.out.1
      have HMM : Hid (∀ a, a ∈ nms N ↔ a ∈ namesN (xs.map toNd)) := fun a => by rw [HNM.out, HSS.out.2, HMEM.out, firstI_isSome]
      have HM3 := Lib.hid (below_isM HB3.out HM1.out HLT.out)
      have hmm := makeMap_len n (by have := HN.out; omega)
      have HM4 := Lib.hid (IsM.made w3)
      have HB4 := Lib.hid ((Below.refl w3.heap.size w3).alloc (Nat.le_refl _) (.map #[] 0))
      clear HSS HMEM HNM HM1 HR0 HB0 HRW HR HL HB HW HNE
      go_wp2_with fail
      generalize hb2 : w3.heap.size = b2 at *
      have HB2E := Lib.hid hb2
      clear hb2 hmm
      go_loopw [35] (fun v wr => ∃ j : Nat, v = .int .i64 (j : Int) ∧ Hid (j ≤ n) ∧ Hid (IsM wr b2 j (idxN (nms (N.take j)))) ∧ Hid (Below b2 w3 wr)) (fun v _ => n - (RowKit.intOf v).toNat)
      case atStart => exact ⟨0, rfl, Nat.zero_le _, by show IsM _ _ _ _; exact HM4.out, HB4.out⟩
      case round =>
        obtain ⟨j, rfl, HJ, HM, HB⟩ := hrel
        by_cases hj : j < n
        · have hj' : ((j : Int) < (n : Int)) := by omega
          have hj0 : (0 : Int) ≤ (j : Int) := by omega
          have hn9 := HN.out
          have hj1 : (j : Int) + 1 ≤ 9223372036854775807 := by omega
          have hj2 : -9223372036854775808 ≤ (j : Int) + 1 := by omega
          have HMX : Hid (j < maxLen) := by show _ < _; unfold maxLen; omega
          have HJ9 : Hid (j ≤ 9223372036854775807) := by show _ ≤ _; omega
          have hjN : j < N.length := by have := HLL.out; omega
          obtain ⟨a, ho, hc⟩ := HNA.out j _ (List.getElem?_eq_getElem hjN)
          subst ho
          have hq := (HB.out.cell (by have := World.block_lt_of_cell? _ _ hc; have := HB2E.out; omega)).trans hc
          have HS1 := Lib.hid (le_maxLen (HSZ.out _ (List.getElem_mem hjN)))
          have HT : Hid (idxN (nms (N.take (j + 1))) = putF (idxN (nms (N.take j))) (nm N[j]) j) := by
            show _ = _
            have hnd := HSR.out.nodup
            have e : nms (N.take (j + 1)) = nms (N.take j) ++ [nm N[j]] := by
              rw [List.take_add_one, List.getElem?_eq_getElem hjN, Option.toList_some, nms_app]
              rfl
            have hl : (nms (N.take j)).length = j := by unfold nms; rw [List.length_map, List.length_take]; omega
            have hnin : nm N[j] ∉ nms (N.take j) := by
              have e2 : nms N = nms (N.take (j + 1)) ++ nms (N.drop (j + 1)) := by rw [← nms_app, List.take_append_drop]
              rw [e2, e, List.append_assoc, List.nodup_append] at hnd
              exact fun hm => hnd.2.2 _ hm _ (by simp) rfl
            rw [e, idxN_snoc hnin, hl]
          clear hc hn9
          generalize N[j] = y at *
          go_wp2_with (at_mapUpdate; refine wpList_put _ rfl _ _ _ rfl b2 j _ rfl HM.out HMX.out y rfl HS1.out j rfl HJ9.out ?_; intro w5 hm5 hg5; have HM5 := Lib.hid hm5; have HB5 := Lib.hid (HB.out.grown hg5 (by have := HB.out.size; have := HB2E.out; omega) (fun k hk => by cases hk; exact Nat.le_refl _)); clear hm5 hg5)
          case roundEnd => exact ⟨⟨j + 1, by push_cast; rfl, by show _ ≤ _; omega, by rw [HT.out]; exact HM5, HB5⟩, by simp [RowKit.intOf]; omega⟩
        · have hj' : ¬ ((j : Int) < (n : Int)) := by omega
          have hm := HM.out
          rw [List.take_of_length_le (by rw [HLL.out]; omega)] at hm
          have HM5 := Lib.hid (hm.mono (n' := n) HJ.out)
          clear hm hj
          have hmk := make_all 38 42 (.slice none 0 0) 24 Try.underlying38 info42s rfl (by decide) n (by have := HN.out; omega)
          go_wp2_with fail
          generalize hW5 : wr = w5 at *
          clear hW5
          go_cut [9] (fun v wx => ∃ WB BI BU : Nat, v = .pointer (some ⟨WB, 0, none⟩) ∧ Hid (WebM w5 wx WB BI BU n cap o'))
          case first =>
            go_region
            all_goals go_wp2_with fail
            all_goals go_meet
            · exact ⟨w5.heap.size + 1 + 1, w5.heap.size, w5.heap.size + 1, rfl, ⟨(three_blocks w5 _ _ _).2.2.1, (three_blocks w5 _ _ _).1, (three_blocks w5 _ _ _).2.1, ⟨by omega, by omega, by omega, by omega, by omega, by omega, by rw [(three_blocks w5 _ _ _).2.2.2.2]; omega, by rw [(three_blocks w5 _ _ _).2.2.2.2]; omega, by rw [(three_blocks w5 _ _ _).2.2.2.2]; omega⟩, (three_blocks w5 _ _ _).2.2.2.1⟩⟩
            · exact ⟨w5.heap.size + 1, w5.heap.size, w5.heap.size + 1 + 1, rfl, ⟨(three_blocks w5 _ _ _).2.1, (three_blocks w5 _ _ _).1, (three_blocks w5 _ _ _).2.2.1, ⟨by omega, by omega, by omega, by omega, by omega, by omega, by rw [(three_blocks w5 _ _ _).2.2.2.2]; omega, by rw [(three_blocks w5 _ _ _).2.2.2.2]; omega, by rw [(three_blocks w5 _ _ _).2.2.2.2]; omega⟩, (three_blocks w5 _ _ _).2.2.2.1⟩⟩
            · exact ⟨w5.heap.size + 1 + 1, w5.heap.size + 1, w5.heap.size, rfl, ⟨(three_blocks w5 _ _ _).2.2.1, (three_blocks w5 _ _ _).2.1, (three_blocks w5 _ _ _).1, ⟨by omega, by omega, by omega, by omega, by omega, by omega, by rw [(three_blocks w5 _ _ _).2.2.2.2]; omega, by rw [(three_blocks w5 _ _ _).2.2.2.2]; omega, by rw [(three_blocks w5 _ _ _).2.2.2.2]; omega⟩, (three_blocks w5 _ _ _).2.2.2.1⟩⟩
            · exact ⟨w5.heap.size + 1, w5.heap.size + 1 + 1, w5.heap.size, rfl, ⟨(three_blocks w5 _ _ _).2.1, (three_blocks w5 _ _ _).2.2.1, (three_blocks w5 _ _ _).1, ⟨by omega, by omega, by omega, by omega, by omega, by omega, by rw [(three_blocks w5 _ _ _).2.2.2.2]; omega, by rw [(three_blocks w5 _ _ _).2.2.2.2]; omega, by rw [(three_blocks w5 _ _ _).2.2.2.2]; omega⟩, (three_blocks w5 _ _ _).2.2.2.1⟩⟩
            · exact ⟨w5.heap.size, w5.heap.size + 1, w5.heap.size + 1 + 1, rfl, ⟨(three_blocks w5 _ _ _).1, (three_blocks w5 _ _ _).2.1, (three_blocks w5 _ _ _).2.2.1, ⟨by omega, by omega, by omega, by omega, by omega, by omega, by rw [(three_blocks w5 _ _ _).2.2.2.2]; omega, by rw [(three_blocks w5 _ _ _).2.2.2.2]; omega, by rw [(three_blocks w5 _ _ _).2.2.2.2]; omega⟩, (three_blocks w5 _ _ _).2.2.2.1⟩⟩
            · exact ⟨w5.heap.size, w5.heap.size + 1 + 1, w5.heap.size + 1, rfl, ⟨(three_blocks w5 _ _ _).1, (three_blocks w5 _ _ _).2.2.1, (three_blocks w5 _ _ _).2.1, ⟨by omega, by omega, by omega, by omega, by omega, by omega, by rw [(three_blocks w5 _ _ _).2.2.2.2]; omega, by rw [(three_blocks w5 _ _ _).2.2.2.2]; omega, by rw [(three_blocks w5 _ _ _).2.2.2.2]; omega⟩, (three_blocks w5 _ _ _).2.2.2.1⟩⟩
          case rest =>
            obtain ⟨WB, BI, BU, rfl, HW⟩ := hcut
            obtain ⟨w6, rfl⟩ : ∃ w6, w6 = wc := ⟨wc, rfl⟩
            have HB6 := Lib.hid ((HB.out.trans (HW.out.below.mono (by have := HB.out.size; have := HB2E.out; omega))))
            have HM9L := Lib.hid HM5.out.lt
            have HM6 := Lib.hid (below_isM HW.out.below HM5.out HM5.out.lt)
            have HM7 := Lib.hid (below_isM HB6.out HM3.out (by have := HM3.out.lt; have := HB2E.out; omega))
            have HRI := Lib.hid (RR.start (base := w6.heap.size) false (fun _ => none) HW.out.im HW.out.ne.2.2.2.2.2.2.2.1)
            have HRU := Lib.hid (RR.start (base := w6.heap.size) true (fun _ => none) HW.out.us HW.out.ne.2.2.2.2.2.2.2.2)
            have HWW := Lib.hid HW.out.web
            have HNE := Lib.hid HW.out.ne
            have hnl : (nms N).length = n := by unfold nms; rw [List.length_map]; exact HLL.out
            have HNL := Lib.hid hnl
            have hst := WebI.start (xs.map toNd) (nms N)
            rw [hnl] at hst
            have HST := Lib.hid hst
            have hn := HN.out
            clear hst hnl HM4 HB4 HM HM5 hmk HJ
            go_wp2_with fail
            go_loopw [54] (fun v wr => ∃ (u : Nat) (I U : List (List Nat)) (vi vu : List Value) (φ : Nat → Option (Bool × Nat)), v = .int .i64 (u : Int) ∧ Hid (u ≤ n) ∧ Hid (WebI (xs.map toNd) (nms N) u 0 I U) ∧ Hid (RR wr w6.heap.size BI false φ I vi) ∧ Hid (RR wr w6.heap.size BU true φ U vu) ∧
              Hid (Turn (fun k => k = BI ∨ k = BU ∨ w6.heap.size ≤ k) w6 wr)) (fun v _ => n - (RowKit.intOf v).toNat)
            case atStart => exact ⟨0, _, _, _, _, _, rfl, Nat.zero_le _, HST, HRI, HRU, Turn.refl _ _⟩
            case round =>
              clear HRI HRU HST
              obtain ⟨u, I, U, vi, vu, φ, rfl, HUN, HWI, HRI, HRU, HT⟩ := hrel
              have hsz := HT.out.size
              have HB7 := Lib.hid (HB6.out.trans (HT.out.below (B := b2) (by have := HNE.out; have := HB.out.size; have := HB2E.out; omega) fun k hk => by have := HNE.out; have := HB.out.size; have := HB2E.out; have := HW.out.below.size; omega))
              have HBW := Lib.hid (HB1.out.trans ((HB3.out.mono (by have := HTL.out; omega)).trans (HB7.out.mono (by have := HTL.out; have := HB3.out.size; have := HRE.out; have := HB2E.out; omega))))
              have HM8 := Lib.hid (below_isM HB7.out HM3.out (by have := HM3.out.lt; have := HB2E.out; omega))
              have HM9 := Lib.hid (HT.out.isM HM6.out (by have := HNE.out; have := HM6.out.lt; have := HM9L.out; omega))
              by_cases hu : u < n
              · have hu' : ((u : Int) < (n : Int)) := by omega
                have hu0 : (0 : Int) ≤ (u : Int) := by omega
                have hu1 : (u : Int) + 1 ≤ 9223372036854775807 := by omega
                have hu2 : -9223372036854775808 ≤ (u : Int) + 1 := by omega
                have huN : u < N.length := by have := HLL.out; omega
                obtain ⟨a, ho, hc⟩ := HNA.out u _ (List.getElem?_eq_getElem huN)
                subst ho
                have hq := (HB7.out.cell (by have := World.block_lt_of_cell? _ _ hc; have := HB2E.out; omega)).trans hc
                have HS1 := Lib.hid (le_maxLen (HSZ.out _ (List.getElem_mem huN)))
                have hnu : (nms N)[u]? = some (nm N[u]) := by unfold nms; rw [List.getElem?_map, List.getElem?_eq_getElem huN]; rfl
                have HNU := Lib.hid hnu
                have hin := firstI_isSome.2 ((HMM.out _).1 (List.mem_of_getElem? hnu))
                obtain ⟨j, hj⟩ := Option.isSome_iff_exists.1 hin
                obtain ⟨d, hd, hnode, hnm⟩ := first_node hj
                have HJE := Lib.hid hj
                have HFD := Lib.hid (HF.out.imps d (List.mem_of_getElem? hd))
                have HIO : Hid (impsOf (xs.map toNd) (nm N[u]) = nms d.imps) := by show _ = _; unfold impsOf; rw [hnode]; rfl
                have hjl : j < xs.length := (List.getElem?_eq_some_iff.1 hd).1
                obtain ⟨a2, oi, ci, ho2, hc2, hi2w, hil, his⟩ := HX.out j _ hd
                subst ho2
                have hi2 := (HBW.out.cell (World.block_lt_of_cell? _ _ hi2w)).trans hi2w
                have hj' : ((j : Int) < (xs.length : Int)) := by omega
                have hj0 : (0 : Int) ≤ (j : Int) := by omega
                have HIS := Lib.hid his
                clear hc hnu hin hj hd hnode hnm hjl hc2 hil his hi2w
                generalize N[u] = y at *
                go_wp2_with (at_lookup; refine wpList_look _ rfl _ _ rfl b1 xs.length _ rfl HM8.out y rfl HS1.out j HJE.out ?_)
                obtain ⟨w8, rfl⟩ : ∃ w8, w8 = wr := ⟨wr, rfl⟩
                clear hsz hq hi2 hu'
                have HUL := Lib.hid hu
                clear hu
                go_loopw [67] (fun v wx => ∃ (k : Nat) (I U : List (List Nat)) (vi vu : List Value) (φ : Nat → Option (Bool × Nat)), v = .int .i64 (k : Int) ∧ Hid (k ≤ d.imps.length) ∧ Hid (WebI (xs.map toNd) (nms N) u k I U) ∧ Hid (RR wx w6.heap.size BI false φ I vi) ∧ Hid (RR wx w6.heap.size BU true φ U vu) ∧
                  Hid (Turn (fun k => k = BI ∨ k = BU ∨ w6.heap.size ≤ k) w6 wx)) (fun v _ => d.imps.length - (RowKit.intOf v).toNat)
                case atStart => exact ⟨0, I, U, vi, vu, φ, rfl, Nat.zero_le _, HWI, HRI, HRU, HT⟩
                case round =>
                  clear HWI HRI HRU HT HB7 HBW HM8 HM9
                  obtain ⟨k, I, U, vi, vu, φ, rfl, HKN, HWI, HRI, HRU, HT⟩ := hrel
                  have hsz := HT.out.size
                  have HB7 := Lib.hid (HB6.out.trans (HT.out.below (B := b2) (by have := HNE.out; have := HB.out.size; have := HB2E.out; omega) fun k hk => by have := HNE.out; have := HB.out.size; have := HB2E.out; have := HW.out.below.size; omega))
                  have HBW := Lib.hid (HB1.out.trans ((HB3.out.mono (by have := HTL.out; omega)).trans (HB7.out.mono (by have := HTL.out; have := HB3.out.size; have := HRE.out; have := HB2E.out; omega))))
                  have HM9 := Lib.hid (HT.out.isM HM6.out (by have := HNE.out; have := HM6.out.lt; have := HM9L.out; omega))
                  have HSZW := Lib.hid hsz
                  clear hsz
                  by_cases hk : k < d.imps.length
                  · have hk' : ((k : Int) < (d.imps.length : Int)) := by omega
                    have hk0 : (0 : Int) ≤ (k : Int) := by omega
                    have hdl := HFD.out.1
                    have hk1 : (k : Int) + 1 ≤ 9223372036854775807 := by omega
                    have hk2 : -9223372036854775808 ≤ (k : Int) + 1 := by omega
                    obtain ⟨a3, ho3, hc3⟩ := HIS.out k _ (List.getElem?_eq_getElem hk)
                    subst ho3
                    have hq := (HBW.out.cell (World.block_lt_of_cell? _ _ hc3)).trans hc3
                    have HS2 := Lib.hid (le_maxLen (HFD.out.2.2 _ (List.getElem_mem hk)))
                    have HBK : Hid ((impsOf (xs.map toNd) (nm y))[k]? = some (nm d.imps[k])) := by show _ = _; rw [HIO.out]; unfold nms; rw [List.getElem?_map, List.getElem?_eq_getElem hk]; rfl
                    clear hdl hc3
                    generalize d.imps[k] = z at *
                    cases hz : idxN (nms N) (nm z) with
                    | none =>
                      have HWK := Lib.hid (HWI.out.unknown HNU.out HBK.out hz)
                      have hz2 : (idxN (nms N) (nm z)).isSome = false := by rw [hz]; rfl
                      clear hz
                      go_wp2_with (at_lookup; refine wpList_look_ok _ rfl _ _ rfl b2 n _ rfl HM9.out z rfl HS2.out ?_; intro cc hcc; clear hcc; rw [hz2])
                      case roundEnd => exact ⟨⟨k + 1, I, U, vi, vu, φ, by push_cast; rfl, by show _ ≤ _; omega, HWK, HRI, HRU, HT⟩, by simp [RowKit.intOf]; omega⟩
                    | some v =>
                      have HWK := Lib.hid (HWI.out.known HNU.out HBK.out hz)
                      have hz2 : (idxN (nms N) (nm z)).isSome = true := by rw [hz]; rfl
                      have HZ := Lib.hid hz
                      have hvn : v < n := by have := (List.getElem?_eq_some_iff.1 (idxN_some hz)).1; rw [HNL.out] at this; exact this
                      clear hz
                      go_wp2_with (at_lookup; refine wpList_look_ok _ rfl _ _ rfl b2 n _ rfl HM9.out z rfl HS2.out ?_; intro cc hcc; obtain rfl := hcc v HZ.out; clear hcc; rw [hz2])
                      have hul : u < I.length := by have := HUL.out; have := HWI.out.li; have := HNL.out; omega
                      have hil2 : (waysAt I u).length + 1 ≤ 2000000 := by
                        have h1 := HWI.out.is u _ HNU.out
                        rw [if_neg (Nat.lt_irrefl u), if_pos rfl] at h1
                        have h2 := List.length_filterMap_le (idxN (nms N)) ((impsOf (xs.map toNd) (nm y)).take k)
                        rw [← h1, List.length_take] at h2
                        have h3 := HFD.out.1
                        omega
                      obtain ⟨oI, cI, o1, c1, wI, bi, fi, hrun, bi1, fi1, hblk, hRR, hTT⟩ := HRI.out.ahead hul v HSZW.out hil2
                      have hwb := (HT.out.block WB (by have := HNE.out; omega) (by have := HNE.out; omega)).trans HWW.out
                      obtain ⟨x0, x1, x2⟩ := cells3 hwb
                      obtain ⟨z0, z1, z2⟩ := cells3 ((hblk WB (by have := HNE.out; omega)).trans hwb)
                      have HRUN := Lib.hid hrun
                      have HRR := Lib.hid hRR
                      have HTT := Lib.hid hTT
                      have hu' : ((u : Int) < (n : Int)) := by have := HUL.out; omega
                      have hu0' : (0 : Int) ≤ (u : Int) := by omega
                      have HVN := Lib.hid hvn
                      have hBIs : BI < wr.heap.size := by have := HSZW.out; have := HNE.out; omega
                      have hWBs : WB < wr.heap.size := by have := HSZW.out; have := HNE.out; omega
                      clear hrun hblk hRR hTT hwb hul hil2 hz2 hvn hq
                      go_cut [] (fun wx => Hid (∃ φ' vi', RR wx w6.heap.size BI false φ' (I.set u (waysAt I u ++ [v])) vi' ∧ RR wx w6.heap.size BU true φ' U vu ∧ Turn (fun k => k = BI ∨ k = BU ∨ w6.heap.size ≤ k) w6 wx))
                      case first =>
                        go_region_law (refine step_append rfl _ _ 42 rfl _ _ rfl rfl _ _ HRUN.out ?_)
                        all_goals go_wp2_with fail
                        all_goals go_meet
                        all_goals exact ⟨_, _, HRR.out, HRU.out.turn HTT.out (by have := HNE.out; omega) (fun g i hg _ hφ hk => by
                          rcases hk with hk | ⟨_, hk⟩
                          · have := HNE.out; omega
                          · rw [hφ] at hk; injection hk with hk; injection hk with hk; cases hk) (fun g hg => if_neg (by omega)), HT.out.trans (HTT.out.mono fun k _ hk => by
                          rcases hk with hk | ⟨hk, _⟩
                          · exact .inl hk
                          · exact .inr (.inr hk))⟩
                      case rest =>
                        obtain ⟨w7, rfl⟩ : ∃ w7, w7 = wc := ⟨wc, rfl⟩
                        clear HRI HRU HT HRR HTT HRUN HSZW HB7 HBW HM9 bi fi bi1 fi1 x0 x1 x2 z0 z1 z2 hBIs hWBs
                        obtain ⟨φ', vi', h1, h2, h3⟩ := hcut.out
                        have HRI := Lib.hid h1
                        have HRU := Lib.hid h2
                        have HT := Lib.hid h3
                        have HSZW := Lib.hid h3.size
                        clear hcut h1 h2 h3
                        have hvl : v < U.length := by have := HVN.out; have := HWI.out.lu; have := HNL.out; omega
                        have hul2 : (waysAt U v).length + 1 ≤ 2000000 := by
                          have h1 := HWI.out.few v
                          have h2 := HUL.out
                          have h3 := HN.out
                          have h4 := HKN.out
                          have h5 := HFD.out.1
                          omega
                        obtain ⟨oU, cU, o2, c2, wU, bu, fu, hrun, bu1, fu1, hblk, hRR, hTT⟩ := HRU.out.ahead hvl u HSZW.out hul2
                        have hwb := (HT.out.block WB (by have := HNE.out; omega) (by have := HNE.out; omega)).trans HWW.out
                        obtain ⟨x0, x1, x2⟩ := cells3 hwb
                        obtain ⟨z0, z1, z2⟩ := cells3 ((hblk WB (by have := HNE.out; omega)).trans hwb)
                        have HRUN := Lib.hid hrun
                        have HRR := Lib.hid hRR
                        have HTT := Lib.hid hTT
                        have hv' : ((v : Int) < (n : Int)) := by have := HVN.out; omega
                        have hv0 : (0 : Int) ≤ (v : Int) := by omega
                        have hBUs : BU < w7.heap.size := by have := HSZW.out; have := HNE.out; omega
                        have hWBs : WB < w7.heap.size := by have := HSZW.out; have := HNE.out; omega
                        clear hrun hblk hRR hTT hwb hvl hul2
                        go_wp2_with fail
                        go_region_law (refine step_append rfl _ _ 42 rfl _ _ rfl rfl _ _ HRUN.out ?_)
                        all_goals go_wp2_with fail
                        all_goals exact ⟨⟨k + 1, _, _, _, _, _, by push_cast; rfl, by show _ ≤ _; omega, HWK, HRI.out.turn HTT.out (by have := HNE.out; omega) (fun g i hg _ hφ hk => by
                            rcases hk with hk | ⟨_, hk⟩
                            · have := HNE.out; omega
                            · rw [hφ] at hk; injection hk with hk; injection hk with hk; cases hk) (fun g hg => if_neg (by omega)), HRR.out, HT.out.trans (HTT.out.mono fun k _ hk => by
                            rcases hk with hk | ⟨hk, _⟩
                            · exact .inr (.inl hk)
                            · exact .inr (.inr hk))⟩, by simp [RowKit.intOf]; omega⟩
                  · have hk' : ¬ ((k : Int) < (d.imps.length : Int)) := by omega
                    have HWN := Lib.hid (HWI.out.next HNU.out (by rw [HIO.out]; unfold nms; rw [List.length_map]; omega) (by have := HKN.out; have := HFD.out.1; omega))
                    clear hk
                    go_wp2
                    case roundEnd => exact ⟨⟨u + 1, I, U, vi, vu, φ, by push_cast; rfl, by have := HUL.out; show _ ≤ _; omega, HWN, HRI, HRU, HT⟩, by have := HUL.out; simp [RowKit.intOf]; omega⟩
              · have hu' : ¬ ((u : Int) < (n : Int)) := by omega
                have hun := HUN.out
                obtain rfl : u = n := by omega
                have hwi := HWI.out
                rw [← HNL.out] at hwi
                have HWD := Lib.hid (hwi.done HSR.out HMM.out)
                have hwb := (HT.out.block WB (by have := HNE.out; omega) (by have := HNE.out; omega)).trans HWW.out
                obtain ⟨x0, x1, x2⟩ := cells3 hwb
                have htb := (HB7.out.block w.heap.size (by have := HTL.out; have := HB3.out.size; have := HRE.out; have := HB2E.out; omega)).trans ((HB3.out.block w.heap.size HTL.out).trans HTB.out)
                obtain ⟨y0, y1, y2⟩ := cells3 htb
                have yf0 : wr.frozen? ⟨w.heap.size, 0, none⟩ = false := by simp [World.frozen?, htb]
                have yf1 : wr.frozen? ⟨w.heap.size, 1, none⟩ = false := by simp [World.frozen?, htb]
                have yf2 : wr.frozen? ⟨w.heap.size, 2, none⟩ = false := by simp [World.frozen?, htb]
                clear hwi hwb htb hun hsz HM8 HM9
                have HFW : Hid (∀ v, (waysAt I v).length ≤ 1000) := fun v => by
                  by_cases hv : v < (nms N).length
                  · have h1 := HWI.out.is v _ (List.getElem?_eq_getElem hv)
                    rw [if_pos (by rw [← HNL.out]; exact hv)] at h1
                    rw [h1]
                    refine Nat.le_trans (List.length_filterMap_le _ _) ?_
                    unfold impsOf
                    cases hc : nodeN (xs.map toNd) (nms N)[v] with
                    | none => simp
                    | some m =>
                      obtain ⟨_, hm⟩ := node_name hc
                      obtain ⟨d, hd, rfl⟩ := List.mem_map.1 hm
                      have := (HF.out.imps d hd).1
                      show (nms d.imps).length ≤ _
                      unfold nms
                      rw [List.length_map]
                      exact this
                  · rw [ways_none (by rw [HWI.out.li]; omega)]
                    simp
                have HFU : Hid (∀ v, (waysAt U v).length ≤ 1000000) := fun v => by
                  have h1 := HWI.out.few v
                  have h2 := HN.out
                  omega
                go_wp2
                have hT1 : Turn (fun k => k = w.heap.size) wr (((wr.setCell ⟨w.heap.size, 0, none⟩ (.slice o' u cap)).setCell ⟨w.heap.size, 1, none⟩ (.slice (some ⟨BI, 0, none⟩) u u)).setCell ⟨w.heap.size, 2, none⟩ (.slice (some ⟨BU, 0, none⟩) u u)) :=
                  ((((Turn.refl (fun k => k = w.heap.size) wr).setCell (p := ⟨w.heap.size, 0, none⟩) (fun _ => rfl) _).setCell (p := ⟨w.heap.size, 1, none⟩) (fun _ => rfl) _).setCell (p := ⟨w.heap.size, 2, none⟩) (fun _ => rfl) _)
                have HT1 := Lib.hid hT1
                clear hT1
                have hbs := HTL.out
                have hb3 := HB3.out.size
                have hre := HRE.out
                have hb2 := HB2E.out
                refine bodyPost_ret (v := .agg #[.slice o' u cap, .slice (some ⟨BI, 0, none⟩) u u, .slice (some ⟨BU, 0, none⟩) u u]) (by simp [results, Try.results23, go_sem, y0, y1, y2]) rfl ?_
                refine ⟨N, I, U, o', some ⟨BI, 0, none⟩, some ⟨BU, 0, none⟩, u, ⟨cap, rfl⟩, HLL.out, HN.out, HWD.out, HSZ.out, HFW.out, HFU.out, ?_, ?_, ?_, ?_⟩
                · exact (HNA.out.below (HB7.out.mono (by omega))).turn HT1.out fun a ha h => by have := HNB.out a ha; have := HRW2.out; omega
                · exact (HRI.out.turn HT1.out (by have := HNE.out; have := HB.out.size; omega) (fun g i hg _ _ (h : g = w.heap.size) => by have := HW.out.below.size; have := HB.out.size; omega) (fun g _ => rfl)).read
                · exact (HRU.out.turn HT1.out (by have := HNE.out; have := HB.out.size; omega) (fun g i hg _ _ (h : g = w.heap.size) => by have := HW.out.below.size; have := HB.out.size; omega) (fun g _ => rfl)).read
                · exact HBW.out.trans (HT1.out.below HBW.out.size fun k hk => by omega)
    · intro y j w3 hj hsz hnew hrg hlt hg hen
      have HRG3 := Lib.hid hrg
      have HLT3 := Lib.hid hlt
      have HB3 := Lib.hid (HB.out.grown hg (by have := HB.out.size; have := HRE.out; omega) (fun k hk => by injection hk with hk; omega))
      have HW3 := Lib.hid (Nat.le_trans HW.out hg.size)
      have HRW3 := Lib.hid ((Turn.of_grown hg).row HRW.out fun k hk he => by injection he with he; have := (HRW.out.lt k hk).1; have := HNE.out.2.1; omega)
      clear hj hsz hnew hrg hlt hg
      go_wp2_with (refine wpList_append_name rfl _ _ rfl w2.heap.size (.slice o' n cap) n L y rfl HLN.out HRW3.out rfl HW3.out (by have := HN.out; omega) ?_; intro o6 cap6 w6 hrow hbel; have HRW6 := Lib.hid hrow; have HB6 := Lib.hid hbel; clear hrow hbel)
      case roundEnd =>
        have h6 := below_rg HB6.out HRG3.out HNE.out.2.2 HNE.out.2.1
        refine ⟨⟨ss ++ [nm y], L ++ [y], o6, n + 1, cap6, rfl, by show _ = _; rw [List.length_append, HLN.out]; rfl, h6.1, ?_, HRW6.out, HB3.out.trans (HB6.out.mono (by have := HNE.out.2.1; omega)), Nat.le_trans HW3.out HB6.out.size⟩, ?_⟩
        · show _ = _
          rw [nms_app, HL.out]
          rfl
        · rw [h6.2]
          exact HLT3.out

end Go.Proofs.Ytgnhcaepkgbieaa
