/-
  The program's own list of who uses a package. Condition: at most a thousand packages, of at most a thousand imports, and names of at most 2^48 bytes.
-/
import Derived.Test.YtgnhcaepkgbieaaMpc
namespace Go.Proofs.Ytgnhcaepkgbieaa
open Go.RowKit Go.Maps

def useT (l : List Nd) (s : Nm) (a : Nm) : Bool := match nodeN l a with | some n => decide (s ∈ n.imps) | none => false
theorem users_done {l : List Nd} {s : Nm} {ss : List Nm} (hd : ss.Nodup) (hm : ∀ x, x ∈ ss ↔ (firstI l x).isSome = true) : UsersIs l s ((ss.filter (useT l s)).mergeSort leN) := by
  obtain ⟨h1, h2⟩ := sort_srt (hd.filter (useT l s))
  refine ⟨h1, fun a => (h2 a).trans ?_⟩
  rw [List.mem_filter, hm, firstI_isSome, names_node]
  unfold useT
  constructor
  · rintro ⟨⟨n, hn⟩, ht⟩
    rw [hn] at ht
    exact ⟨n, hn, by simpa using ht⟩
  · rintro ⟨n, hn, ht⟩
    exact ⟨⟨n, hn⟩, by rw [hn]; simpa using ht⟩
theorem first_node {xs : List ND} {a : Nm} {i : Nat} (h : firstI (xs.map toNd) a = some i) : ∃ n, xs[i]? = some n ∧ nodeN (xs.map toNd) a = some (toNd n) ∧ nm n.name = a := by
  obtain ⟨n, h1, h2, h3⟩ := firstI_some h
  rw [List.getElem?_map] at h1
  obtain ⟨m, hm, rfl⟩ := Option.map_eq_some_iff.1 h1
  exact ⟨m, hm, h2, h3⟩

set_option maxRecDepth 100000 in
set_option maxHeartbeats 4000000 in
/-- Who uses. -/
theorem usersP_any (xs : List ND) (o : Option Addr) (c : Nat) (s : ByteArray) (w : World) (h : AtD w o xs) (hf : Few xs) :
    Calls Try.prog 19 #[.slice o xs.length c, .string s] w fun e w' => ∃ (R : List ByteArray) (o' : Option Addr) (n c' : Nat), e = .returned (.slice o' n c') ∧ R.length = n ∧ UsersIs (xs.map toNd) (nm s) (nms R) ∧ n ≤ 1000 ∧ AtS w' o' R ∧ Below w.heap.size w w' := by
  have HX := Lib.hid h
  have HF := Lib.hid hf
  have HFI := Lib.hid (firstsP_any xs o c w h hf)
  have HLEN := Lib.hid hf.len
  clear h hf
  go_enter Try.func19, Try.ntmps19
  go_wp2_with fail
  refine HFI.out.mono ?_
  rintro e w1 ⟨rfl, hM, hB⟩
  have HM1 := Lib.hid hM
  have HB1 := Lib.hid hB
  have HLT := Lib.hid hM.lt
  clear hM hB HFI
  go_wp2_with (at_range; refine wpList_range_M _ rfl _ rfl w.heap.size xs.length (firstI (xs.map toNd)) rfl HM1.out ?_; intro w2 hrg hg)
  have HR0 := Lib.hid hrg
  have HB0 := Lib.hid (HB1.out.grown hg HB1.out.size (fun k hk => by cases hk))
  have HW2 := Lib.hid hg.size
  clear hrg hg HM1 HB1
  go_frame
  generalize w1.heap.size = r at *
  go_loopw [5] (fun v wr => ∃ (ss : List Nm) (L : List ByteArray) (o' : Option Addr) (n cap : Nat), v = .slice o' n cap ∧ Hid (L.length = n) ∧ Hid (RgM wr w.heap.size r xs.length (firstI (xs.map toNd)) ss) ∧ Hid (nms L = ss.filter (useT (xs.map toNd) (nm s))) ∧
    Hid (wr.ownsRow w2.heap.size 9 1 (.slice o' n cap) n (sC L)) ∧ Hid (Below w.heap.size w wr) ∧ Hid (w2.heap.size ≤ wr.heap.size)) (fun _ wr => wr.rangeLeft w.heap.size r)
  case atStart => exact ⟨[], [], none, 0, 0, rfl, by show _ = _; rfl, HR0.out, by show _ = _; rfl, World.ownsRow_nil _ _ _ _, HB0.out, Nat.le_refl _⟩
  case round =>
    obtain ⟨ss, L, o', n, cap, rfl, HLN, HR, HL, HRW, HB, HW⟩ := hrel
    have HN : Hid (n ≤ 1000) := by
      have h1 := HR.out.few
      have h2 := HLEN.out
      have h3 : (nms L).length = n := by unfold nms; rw [List.length_map]; exact HLN.out
      rw [HL.out] at h3
      have := List.length_filter_le (useT (xs.map toNd) (nm s)) ss
      show _ ≤ _
      omega
    have HNE := Lib.hid HR0.out.ne
    go_wp2_with (at_next; refine wpList_next_M _ rfl _ rfl w.heap.size r xs.length _ ss rfl HR.out ?_ ?_)
    · intro hnd hmem
      have HU := Lib.hid (users_done (s := nm s) hnd hmem)
      have HS := Lib.hid (sortS_any L o' n cap w2.heap.size wr HLN.out HRW.out (by have := HN.out; omega))
      clear hnd hmem
      go_wp2_with fail
      refine HS.out.mono ?_
      rintro e w3 ⟨rfl, hrow, hT⟩
      have HRW3 := Lib.hid hrow
      have HB3 := Lib.hid (HB.out.trans (hT.below HB.out.size fun k hk => by have := (HRW.out.lt k hk).1; have := HB0.out.size; omega))
      clear hrow hT HS
      go_wp2
      go_ret
      have hl : (bys ((nms L).mergeSort leN)).length = n := by rw [bys_len, List.length_mergeSort]; unfold nms; rw [List.length_map]; exact HLN.out
      exact ⟨bys ((nms L).mergeSort leN), o', n, cap, rfl, hl, by rw [nms_bys, HL.out]; exact HU.out, HN.out, own_names_n HRW3.out hl, HB3.out⟩
    · intro y j w3 hj hsz hnew hrg hlt hg hen
      have HRG3 := Lib.hid hrg
      have HLT3 := Lib.hid hlt
      have HB3 := Lib.hid (HB.out.grown hg HB.out.size (fun k hk => by injection hk with hk; subst hk; have := HLT.out; omega))
      have HW3 := Lib.hid (Nat.le_trans HW.out hg.size)
      have HRW3 := Lib.hid ((Turn.of_grown hg).row HRW.out fun k hk he => by injection he with he; have := (HRW.out.lt k hk).1; have := HNE.out.2.1; omega)
      obtain ⟨d, hd, hnode, hnm⟩ := first_node hj
      have hjl : j < xs.length := (List.getElem?_eq_some_iff.1 hd).1
      have hdm := List.mem_of_getElem? hd
      have HFD := Lib.hid (HF.out.imps d hdm)
      obtain rfl : d.name = y := nm_inj hnm
      have HFIL : Hid ((ss ++ [nm d.name]).filter (useT (xs.map toNd) (nm s)) = ss.filter (useT (xs.map toNd) (nm s)) ++ (if nm s ∈ nms d.imps then [nm d.name] else [])) := by
        show _ = _
        rw [List.filter_append]
        congr 1
        have hu : useT (xs.map toNd) (nm s) (nm d.name) = decide (nm s ∈ nms d.imps) := by unfold useT; rw [hnode]; rfl
        by_cases hin : nm s ∈ nms d.imps
        · rw [List.filter_cons_of_pos (by rw [hu]; simpa using hin), if_pos hin]; rfl
        · rw [List.filter_cons_of_neg (by rw [hu]; simpa using hin), if_neg hin]; rfl
      obtain ⟨a, oi, ci, ho, hc, hi, hil, his⟩ := (HX.out.below HB3.out) j _ hd
      subst ho
      have hj' : ((j : Int) < (xs.length : Int)) := by omega
      have hj0 : (0 : Int) ≤ (j : Int) := by omega
      have HCT := Lib.hid (containsS_any d.imps oi ci s w3 his (by omega))
      clear hj hsz hnew hrg hlt hg hd hnode hnm hjl hdm hc his hil
      go_wp2_with fail
      refine HCT.out.mono ?_
      rintro e w4 ⟨rfl, hw⟩
      have hw' := hw.symm
      subst hw'
      clear hw HCT
      by_cases hin : nm s ∈ nms d.imps
      · rw [decide_eq_true hin]
        have hff := HFIL.out
        rw [if_pos hin] at hff
        have HFF := Lib.hid hff
        have HCL := Lib.hid (cloneS_any d.name w3 HFD.out.2.1)
        clear hff hin
        go_wp2_with fail
        refine HCL.out.mono ?_
        rintro e w5 ⟨rfl, hB⟩
        have HB5 := Lib.hid (HB3.out.trans (hB.mono HB3.out.size))
        have HRG5 := Lib.hid (below_rg hB HRG3.out HRG3.out.ne.2.2 HRG3.out.ne.2.1)
        have HRW5 := Lib.hid (below_row hB HRW3.out)
        have HW5 := Lib.hid (Nat.le_trans HW3.out hB.size)
        clear hB HCL hi
        go_wp2_with (refine wpList_append_name rfl _ _ rfl w2.heap.size (.slice o' n cap) n L d.name rfl HLN.out HRW5.out rfl HW5.out (by have := HN.out; omega) ?_; intro o6 cap6 w6 hrow hbel; have HRW6 := Lib.hid hrow; have HB6 := Lib.hid hbel; clear hrow hbel)
        case roundEnd =>
          have h6 := below_rg HB6.out HRG5.out.1 HNE.out.2.2 HNE.out.2.1
          refine ⟨⟨ss ++ [nm d.name], L ++ [d.name], o6, n + 1, cap6, rfl, by show _ = _; rw [List.length_append, HLN.out]; rfl, h6.1, ?_, HRW6.out, HB5.out.trans (HB6.out.mono HB0.out.size), Nat.le_trans HW5.out HB6.out.size⟩, ?_⟩
          · show _ = _
            rw [nms_app, HL.out, HFF.out]
            rfl
          · rw [h6.2, HRG5.out.2]
            exact HLT3.out
      · rw [decide_eq_false hin]
        have hff := HFIL.out
        rw [if_neg hin, List.append_nil] at hff
        have HFF := Lib.hid hff
        clear hff hin hi
        go_wp2
        case roundEnd => exact ⟨⟨ss ++ [nm d.name], L, o', n, cap, rfl, HLN, HRG3, by show _ = _; rw [HL.out, HFF.out], HRW3, HB3, HW3⟩, HLT3.out⟩

end Go.Proofs.Ytgnhcaepkgbieaa
