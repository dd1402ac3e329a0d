/-
  The program's own list of who is ready. Condition: at most a thousand packages, of at most a thousand imports, and names of at most 2^48 bytes.
-/
import Derived.Test.YtgnhcaepkgbieaaMpd
import Derived.Test.YtgnhcaepkgbieaaNmh
import Derived.WalkMore
namespace Go.Proofs.Ytgnhcaepkgbieaa
open Go.RowKit Go.Maps

/-- Who is still waiting, and where it stands. -/
def waitF (l : List Nd) (done : List Nm) (a : Nm) : Option Nat := if a ∈ done then none else firstI l a
theorem waitF_snoc (l : List Nd) (done : List Nm) (s : Nm) : waitF l (done ++ [s]) = delF (waitF l done) s := by
  funext a
  unfold waitF delF
  by_cases ha : a = s
  · subst ha; simp
  · simp [ha]
def noneT (l : List Nd) (done : List Nm) (b : Nm) : Bool := (waitF l done b).isNone
def rdyT (l : List Nd) (done : List Nm) (a : Nm) : Bool := match nodeN l a with | some n => n.imps.all (noneT l done) | none => false
theorem ready_done {l : List Nd} {done ss : List Nm} (hd : ss.Nodup) (hm : ∀ x, x ∈ ss ↔ (waitF l done x).isSome = true) : IsReady l done ((ss.filter (rdyT l done)).mergeSort leN) := by
  obtain ⟨h1, h2⟩ := sort_srt (hd.filter (rdyT l done))
  refine ⟨h1, fun a => (h2 a).trans ?_⟩
  rw [List.mem_filter, hm]
  have hw : ∀ x, (waitF l done x).isSome = true ↔ x ∈ namesN l ∧ x ∉ done := fun x => by
    unfold waitF
    by_cases hx : x ∈ done
    · simp [hx]
    · rw [if_neg hx, firstI_isSome]; simp [hx]
  have hn : ∀ x, noneT l done x = true ↔ (x ∈ namesN l → x ∈ done) := fun x => by
    unfold noneT
    have := hw x
    cases hc : waitF l done x with
    | none =>
      rw [hc] at this
      simp only [Option.isSome_none, Bool.false_eq_true, false_iff, not_and, Classical.not_not] at this
      simpa using this
    | some j =>
      rw [hc] at this
      simp only [Option.isSome_some, true_iff] at this
      simp only [Option.isNone_some, Bool.false_eq_true, false_iff]
      exact fun h => this.2 (h this.1)
  rw [hw]
  unfold RdyP rdyT Imp
  constructor
  · rintro ⟨⟨h3, h4⟩, ht⟩
    refine ⟨h3, h4, ?_⟩
    rintro b ⟨n, hn', hb, hbn⟩
    rw [hn'] at ht
    exact (hn b).1 (List.all_eq_true.1 ht b hb) hbn
  · rintro ⟨h3, h4, h5⟩
    refine ⟨⟨h3, h4⟩, ?_⟩
    obtain ⟨n, hn'⟩ := node_some h3
    rw [hn']
    exact List.all_eq_true.2 fun b hb => (hn b).2 fun hbn => h5 b ⟨n, hn', hb, hbn⟩
theorem waitF_first {l : List Nd} {done : List Nm} {a : Nm} {j : Nat} (h : waitF l done a = some j) : firstI l a = some j := by
  unfold waitF at h
  split at h
  · cases h
  · exact h

set_option maxRecDepth 100000 in
set_option maxHeartbeats 8000000 in
/-- Who is ready. -/
theorem readyP_any (xs : List ND) (o : Option Addr) (c : Nat) (ds : List ByteArray) (od : Option Addr) (cd : Nat) (w : World) (h : AtD w o xs) (hf : Few xs) (hd : AtS w od ds) (hdl : ds.length ≤ 100000) (hds : ∀ s ∈ ds, s.size ≤ maxLen) :
    Calls Try.prog 17 #[.slice o xs.length c, .slice od ds.length cd] w fun e w' => ∃ (R : List ByteArray) (o' : Option Addr) (n c' : Nat), e = .returned (.slice o' n c') ∧ R.length = n ∧ IsReady (xs.map toNd) (nms ds) (nms R) ∧ n ≤ 1000 ∧ AtS w' o' R ∧ Below w.heap.size w w' := by
  have HX := Lib.hid h
  have HF := Lib.hid hf
  have HD := Lib.hid hd
  have HDS := Lib.hid hds
  have HFI := Lib.hid (firstsP_any xs o c w h hf)
  have HLEN := Lib.hid hf.len
  clear h hf hd hds
  go_enter Try.func17, Try.ntmps17
  go_wp2
  go_step3
  go_wp2_with fail
  refine HFI.out.mono ?_
  rintro e w1 ⟨rfl, hM, hB⟩
  have HM1 := Lib.hid hM
  have HB1 := Lib.hid hB
  clear hM hB HFI
  go_wp2_with fail
  go_loopw [19] (fun i wr => ∃ j : Nat, i = .int .i64 (j : Nat) ∧ Hid (j ≤ ds.length) ∧ Hid (IsM wr w.heap.size xs.length (waitF (xs.map toNd) (nms (ds.take j)))) ∧ Hid (Below w.heap.size w wr)) (fun i _ => ds.length - (RowKit.intOf i).toNat)
  case atStart => exact ⟨0, rfl, Nat.zero_le _, by show IsM _ _ _ _; exact HM1.out, HB1.out⟩
  case round =>
    obtain ⟨j, rfl, HJ, HM, HB⟩ := hrel
    by_cases hj : j < ds.length
    · have hj' : ((j : Int) < (ds.length : Int)) := by omega
      have hj0 : (0 : Int) ≤ (j : Int) := by omega
      have hj1 : (j : Int) + 1 ≤ 9223372036854775807 := by omega
      have hj2 : -9223372036854775808 ≤ (j : Int) + 1 := by omega
      obtain ⟨a, ho, hc⟩ := HD.out j _ (List.getElem?_eq_getElem hj)
      subst ho
      have hq := (HB.out.cell (World.block_lt_of_cell? _ _ hc)).trans hc
      have HSZ := Lib.hid (HDS.out _ (List.getElem_mem hj))
      have HT : Hid (nms (ds.take (j + 1)) = nms (ds.take j) ++ [nm ds[j]]) := by
        show _ = _
        rw [List.take_add_one, List.getElem?_eq_getElem hj, Option.toList_some, nms_app]
        rfl
      clear hc
      generalize ds[j] = y at *
      go_wp2_with (at_delete; refine wpList_del _ rfl _ _ rfl w.heap.size xs.length _ rfl HM.out y rfl HSZ.out ?_; intro w2 hm2 hg2; have HM2 := Lib.hid hm2; have HB2 := Lib.hid (HB.out.grown hg2 HB.out.size (fun k hk => by cases hk; exact Nat.le_refl _)); clear hm2 hg2)
      case roundEnd => exact ⟨⟨j + 1, by push_cast; rfl, by show _ ≤ _; omega, by rw [HT.out, waitF_snoc]; exact HM2, HB2⟩, by simp [RowKit.intOf]; omega⟩
    · have hj' : ¬ ((j : Int) < (ds.length : Int)) := by omega
      have hm := HM.out
      rw [List.take_of_length_le (by omega)] at hm
      have HM2 := Lib.hid hm
      have HLT := Lib.hid hm.lt
      clear hm HM HM1 HB1 HD HDS
      go_wp2
      go_step3
      go_wp2_with (at_range; refine wpList_range_M _ rfl _ rfl w.heap.size xs.length (waitF (xs.map toNd) (nms ds)) rfl HM2.out ?_; intro w2 hrg hg)
      have HR0 := Lib.hid hrg
      have HB0 := Lib.hid (HB.out.grown hg HB.out.size (fun k hk => by cases hk))
      have HW2 := Lib.hid hg.size
      clear hrg hg HM2 HB
      go_frame
      generalize wr.heap.size = r at *
      clear hj'
      go_loopw [8] (fun v wr => ∃ (ss : List Nm) (L : List ByteArray) (o' : Option Addr) (n cap : Nat), v = .slice o' n cap ∧ Hid (L.length = n) ∧ Hid (RgM wr w.heap.size r xs.length (waitF (xs.map toNd) (nms ds)) ss) ∧ Hid (nms L = ss.filter (rdyT (xs.map toNd) (nms ds))) ∧
        Hid (wr.ownsRow w2.heap.size 9 1 (.slice o' n cap) n (sC L)) ∧ Hid (Below w.heap.size w wr) ∧ Hid (w2.heap.size ≤ wr.heap.size)) (fun _ wr => wr.rangeLeft w.heap.size r)
      case atStart => exact ⟨[], [], none, 0, 0, rfl, by show _ = _; rfl, HR0.out, by show _ = _; rfl, World.ownsRow_nil _ _ _ _, HB0.out, Nat.le_refl _⟩
      case round =>
        obtain ⟨ss, L, o', n, cap, rfl, HLN, HR, HL, HRW, HB, HW⟩ := hrel
        obtain ⟨w9, rfl⟩ : ∃ w9, w9 = wr := ⟨wr, rfl⟩
        have HN : Hid (n ≤ 1000) := by
          have h1 := HR.out.few
          have h2 := HLEN.out
          have h3 : (nms L).length = n := by unfold nms; rw [List.length_map]; exact HLN.out
          rw [HL.out] at h3
          have := List.length_filter_le (rdyT (xs.map toNd) (nms ds)) ss
          show _ ≤ _
          omega
        have HNE := Lib.hid HR0.out.ne
        go_wp2_with (at_next; refine wpList_next_M _ rfl _ rfl w.heap.size r xs.length _ ss rfl HR.out ?_ ?_)
        · intro hnd hmem
          have HU := Lib.hid (ready_done hnd hmem)
          have HS := Lib.hid (sortS_any L o' n cap w2.heap.size w9 HLN.out HRW.out (by have := HN.out; omega))
          clear hnd hmem
          go_wp2_with fail
          refine HS.out.mono ?_
          rintro e w3 ⟨rfl, hrow, hT⟩
          have HRW3 := Lib.hid hrow
          have HB3 := Lib.hid (HB.out.trans (hT.below HB.out.size fun k hk => by have := (HRW.out.lt k hk).1; have := HB0.out.size; omega))
          clear hrow hT HS
          go_wp2
          rw [Exit.noGoto_ret]
          go_ret
          have hl : (bys ((nms L).mergeSort leN)).length = n := by rw [bys_len, List.length_mergeSort]; unfold nms; rw [List.length_map]; exact HLN.out
          exact ⟨bys ((nms L).mergeSort leN), o', n, cap, rfl, hl, by rw [nms_bys, HL.out]; exact HU.out, HN.out, own_names_n HRW3.out hl, HB3.out⟩
        · intro y j w3 hj hsz hnew hrg hlt hg hen
          have HRG3 := Lib.hid hrg
          have HLT3 := Lib.hid hlt
          have HB3 := Lib.hid (HB.out.grown hg HB.out.size (fun k hk => by injection hk with hk; subst hk; have := HLT.out; omega))
          have HW3 := Lib.hid (Nat.le_trans HW.out hg.size)
          have HRW3 := Lib.hid ((Turn.of_grown hg).row HRW.out fun k hk he => by injection he with he; have := (HRW.out.lt k hk).1; have := HNE.out.2.1; omega)
          obtain ⟨d, hd, hnode, hnm⟩ := first_node (waitF_first hj)
          have hjl : j < xs.length := (List.getElem?_eq_some_iff.1 hd).1
          have hdm := List.mem_of_getElem? hd
          have HFD := Lib.hid (HF.out.imps d hdm)
          obtain rfl : d.name = y := nm_inj hnm
          have HFIL : Hid ((ss ++ [nm d.name]).filter (rdyT (xs.map toNd) (nms ds)) = ss.filter (rdyT (xs.map toNd) (nms ds)) ++ (if d.imps.all (fun b => noneT (xs.map toNd) (nms ds) (nm b)) = true then [nm d.name] else [])) := by
            show _ = _
            rw [List.filter_append]
            congr 1
            have hu : rdyT (xs.map toNd) (nms ds) (nm d.name) = d.imps.all (fun b => noneT (xs.map toNd) (nms ds) (nm b)) := by
              unfold rdyT
              rw [hnode]
              show (nms d.imps).all _ = _
              unfold nms
              rw [List.all_map]
              rfl
            by_cases hin : d.imps.all (fun b => noneT (xs.map toNd) (nms ds) (nm b)) = true
            · rw [List.filter_cons_of_pos (by rw [hu]; exact hin), if_pos hin]; rfl
            · rw [List.filter_cons_of_neg (by rw [hu]; exact hin), if_neg hin]; rfl
          obtain ⟨a, oi, ci, ho, hc, hi, hil, his⟩ := (HX.out.below HB3.out) j _ hd
          subst ho
          have hj' : ((j : Int) < (xs.length : Int)) := by omega
          have hj0 : (0 : Int) ≤ (j : Int) := by omega
          have HIS := Lib.hid his
          have HIL := Lib.hid HFD.out.1
          clear hj hsz hnew hrg hlt hg hd hnode hnm hjl hdm hc his hil
          go_wp2_with fail
          obtain ⟨w8, rfl⟩ : ∃ w8, w8 = w3 := ⟨w3, rfl⟩
          go_loopw [39] (fun k wx => ∃ m : Nat, k = .int .i64 (m : Nat) ∧ Hid (m ≤ d.imps.length) ∧ Hid ((d.imps.take m).all (fun b => noneT (xs.map toNd) (nms ds) (nm b)) = true) ∧ wx = w8) (fun k _ => d.imps.length - (RowKit.intOf k).toNat)
          case atStart => exact ⟨0, rfl, Nat.zero_le _, by show _ = _; rfl, rfl⟩
          case round =>
            obtain ⟨m, rfl, HMM, HAL, rfl⟩ := hrel
            by_cases hm : m < d.imps.length
            · have hm' : ((m : Int) < (d.imps.length : Int)) := by omega
              have hm0 : (0 : Int) ≤ (m : Int) := by omega
              have hil := HIL.out
              have hm1 : (m : Int) + 1 ≤ 9223372036854775807 := by omega
              have hm2 : -9223372036854775808 ≤ (m : Int) + 1 := by omega
              obtain ⟨ai, hoi, hci⟩ := HIS.out m _ (List.getElem?_eq_getElem hm)
              subst hoi
              have HTI : Hid ((d.imps.take (m + 1)).all (fun b => noneT (xs.map toNd) (nms ds) (nm b)) = noneT (xs.map toNd) (nms ds) (nm d.imps[m])) := by
                show _ = _
                rw [List.take_add_one, List.getElem?_eq_getElem hm, Option.toList_some, List.all_append, HAL.out]
                simp
              have HSI := Lib.hid (le_maxLen (HFD.out.2.2 _ (List.getElem_mem hm)))
              have HTA := Lib.hid (all_take (fun b => noneT (xs.map toNd) (nms ds) (nm b)) d.imps (m + 1))
              generalize d.imps[m] = z at *
              clear hil
              cases hz : (waitF (xs.map toNd) (nms ds) (nm z)).isSome with
              | true =>
                have hno : noneT (xs.map toNd) (nms ds) (nm z) = false := by
                  unfold noneT
                  cases hc : waitF (xs.map toNd) (nms ds) (nm z) with
                  | none => rw [hc] at hz; cases hz
                  | some _ => rfl
                have hff := HFIL.out
                rw [if_neg (by rw [HTA.out (by rw [HTI.out]; exact hno)]; decide), List.append_nil] at hff
                have HFF := Lib.hid hff
                clear hff hno
                go_wp2_with (at_lookup; refine wpList_look_ok _ rfl _ _ rfl w.heap.size xs.length _ rfl HRG3.out.isM z rfl HSI.out ?_; intro cc hcc; clear hcc; rw [hz])
                case roundEnd => exact ⟨⟨ss ++ [nm d.name], L, o', n, cap, rfl, HLN, HRG3, by show _ = _; rw [HL.out, HFF.out], HRW3, HB3, HW3⟩, HLT3.out⟩
              | false =>
                have hno : noneT (xs.map toNd) (nms ds) (nm z) = true := by
                  unfold noneT
                  cases hc : waitF (xs.map toNd) (nms ds) (nm z) with
                  | none => rfl
                  | some _ => rw [hc] at hz; cases hz
                have HNO := Lib.hid hno
                clear hno
                go_wp2_with (at_lookup; refine wpList_look_ok _ rfl _ _ rfl w.heap.size xs.length _ rfl HRG3.out.isM z rfl HSI.out ?_; intro cc hcc; clear hcc; rw [hz])
                case roundEnd => exact ⟨⟨m + 1, by push_cast; rfl, by show _ ≤ _; omega, by show _ = _; rw [HTI.out]; exact HNO.out, by first | rfl | trivial⟩, by simp [RowKit.intOf]; omega⟩
            · have hm' : ¬ ((m : Int) < (d.imps.length : Int)) := by omega
              have hal := HAL.out
              rw [List.take_of_length_le (by omega)] at hal
              have hff := HFIL.out
              rw [if_pos hal] at hff
              have HFF := Lib.hid hff
              have HCL := Lib.hid (cloneS_any d.name wr HFD.out.2.1)
              clear hff hal
              go_wp2_with fail
              refine HCL.out.mono ?_
              rintro e w5 ⟨rfl, hB⟩
              have HB5 := Lib.hid (HB3.out.trans (hB.mono HB3.out.size))
              have HRG5 := Lib.hid (below_rg hB HRG3.out HRG3.out.ne.2.2 HRG3.out.ne.2.1)
              have HRW5 := Lib.hid (below_row hB HRW3.out)
              have HW5 := Lib.hid (Nat.le_trans HW3.out hB.size)
              clear hB HCL hi
              go_wp2_with (refine wpList_append_name rfl _ _ rfl w2.heap.size (.slice o' n cap) n L d.name rfl HLN.out HRW5.out rfl HW5.out (by have := HN.out; omega) ?_; intro o6 cap6 w6 hrow hbel; have HRW6 := Lib.hid hrow; have HB6 := Lib.hid hbel; clear hrow hbel)
              case roundEnd =>
                have h6 := below_rg HB6.out HRG5.out.1 HNE.out.2.2 HNE.out.2.1
                refine ⟨⟨ss ++ [nm d.name], L ++ [d.name], o6, n + 1, cap6, rfl, by show _ = _; rw [List.length_append, HLN.out]; rfl, h6.1, ?_, HRW6.out, HB5.out.trans (HB6.out.mono HB0.out.size), Nat.le_trans HW5.out HB6.out.size⟩, ?_⟩
                · show _ = _
                  rw [nms_app, HL.out, HFF.out]
                  rfl
                · rw [h6.2, HRG5.out.2]
                  exact HLT3.out

end Go.Proofs.Ytgnhcaepkgbieaa
