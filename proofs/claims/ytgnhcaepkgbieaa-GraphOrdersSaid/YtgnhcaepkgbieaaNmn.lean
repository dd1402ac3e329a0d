/-
  The document's own look at what a package reaches, in memory. Condition: at most a thousand packages.
-/
import Derived.Test.YtgnhcaepkgbieaaNmm
namespace Go.Proofs.Ytgnhcaepkgbieaa
open Go.RowKit

theorem Off.pos {w : World} {base : Nat} {v : Value} {n : Nat} {xs : List ByteArray} (h : OffV w base v (n + 1) xs) : ∃ g k cap x r, v = .slice (some ⟨g, k, none⟩) (n + 1) cap ∧ xs = x :: r ∧ Off w base g k (n + 1) cap (x :: r) := by
  rcases h with ⟨_, h0, _⟩ | ⟨g, k, cap, e, h⟩
  · omega
  · match xs, h with
    | [], h => have := h.len; simp at this
    | x :: r, h => exact ⟨g, k, cap, x, r, e, rfl, h⟩

set_option maxRecDepth 100000 in
set_option maxHeartbeats 8000000 in
/-- What is reached. -/
theorem reachedR_any {xs : List ND} {o : Option Addr} {m c : Nat} {s : ByteArray} {w : World} (hm : xs.length = m) (h : AtD w o xs) (hl : m ≤ 1000) :
    Calls Try.prog 35 #[.slice o m c, .string s] w fun e w' => ∃ (V : List ByteArray) (o1 : Option Addr) (n1 c1 : Nat), e = .returned (.slice o1 n1 c1) ∧ V.length = n1 ∧ n1 ≤ 1000 ∧ (∀ x, x ∈ nms V ↔ RchN (xs.map toNd) (nm s) x) ∧ AtS w' o1 V ∧ Below w.heap.size w w' := by
  have HN := Lib.hid (nodesT (c := c) hm h (by omega))
  clear h hm
  go_enter Try.func35, Try.ntmps35
  go_wp2_with fail
  refine HN.out.mono ?_
  rintro e w1 ⟨ys, o1, n1, c1, rfl, hyl, hyf, hle, hat, hB⟩
  have HY := Lib.hid hat
  have HYL := Lib.hid hyl
  have HB1 := Lib.hid hB
  have HLE : Hid (n1 ≤ 1000) := by show _ ≤ _; omega
  have HND : Hid ((namesN (ys.map toNd)).Nodup) := by show List.Nodup _; rw [hyf]; exact firsts_nodup _
  have HSM : Hid (SameN (ys.map toNd) (xs.map toNd)) := by show SameN _ _; rw [hyf]; exact firsts_same _
  have HIM := Lib.hid (fun (W : World) (t : ByteArray) (hb : Below w1.heap.size w1 W) => importsR_any (c := c1) (s := t) hyl (hat.below hb) (by omega))
  clear hat hyl hyf hB hle hl HN
  have HIM0 := Lib.hid (HIM.out w1 s (Below.refl _ _))
  go_wp2_with fail
  refine HIM0.out.mono ?_
  rintro e w2 ⟨V0, o2, n2, c2, rfl, hvl, hv1, hv2, hown, hB⟩
  have HLK0 : Hid (Look (ys.map toNd) (nm s) [] (nms V0)) := Look.start _ (by rw [hv2]; exact (imsF_is HND.out (nm s)).2)
  have HO0 : Hid (OffV w2 w1.heap.size (.slice o2 n2 c2) n2 V0) := OffV.of_own hown hvl
  have HGL0 : Hid (∀ i, (Value.slice o2 n2 c2).ownBlock = some i → i < w2.heap.size) := fun i hi => (hown.lt i hi).2
  have HB2 := Lib.hid hB
  have HN2 : Hid (n2 ≤ 1000) := by have := HLE.out; show _ ≤ _; omega
  have HVL := Lib.hid hvl
  clear hvl hv1 hv2 hown hB HIM0
  go_wp2_with fail
  go_loopw [5, 6] (fun v u wr => ∃ (M V : List ByteArray) (om ov : Option Addr) (nm' cm nv cv : Nat), v = .slice om nm' cm ∧ u = .slice ov nv cv ∧ Hid (OffV wr w1.heap.size (.slice om nm' cm) nm' M) ∧ Hid (V.length = nv) ∧ Hid (wr.ownsRow w1.heap.size 9 1 (.slice ov nv cv) nv (sC V)) ∧ Hid (∀ i, (Value.slice ov nv cv).ownBlock = some i → (Value.slice om nm' cm).ownBlock ≠ some i) ∧ Hid (∀ i, (Value.slice om nm' cm).ownBlock = some i → i < wr.heap.size) ∧ Hid (Look (ys.map toNd) (nm s) (nms V) (nms M)) ∧ Hid (nm' ≤ 1000 * (nv + 1)) ∧ Hid (Below w1.heap.size w1 wr)) (fun v u _ => 1001 * (n1 - lenV u) + lenV v)
  case atStart => exact ⟨V0, [], o2, none, n2, c2, 0, 0, rfl, rfl, HO0, rfl, World.ownsRow_nil _ _ _ _, (by show ∀ i, _; intro i h; cases h), HGL0, HLK0, by have := HN2.out; show _ ≤ _; omega, HB2⟩
  case round =>
    clear HO0 HLK0 HB2 HN2 HVL HGL0
    obtain ⟨M, V, om, ov, p, cm, nv, cv, rfl, rfl, HO, HVL, HVR, HAP, HGL, HLK, HPN, HB⟩ := hrel
    have HV := Lib.hid (own_names_n HVR.out HVL.out)
    have HNV : Hid (nv ≤ n1) := by
      have := HLK.out.few
      rw [nms_len, HVL.out, List.length_map, HYL.out] at this
      exact this
    cases p with
    | zero =>
      have hM : M = [] := by
        rcases HO.out with ⟨_, _, e⟩ | ⟨_, _, _, _, h⟩
        · exact e
        · exact List.length_eq_zero_iff.1 h.len
      subst hM
      have HDN : Hid (∀ x, x ∈ nms V ↔ RchN (xs.map toNd) (nm s) x) := fun x => (HLK.out.done x).trans ⟨HSM.out.rch, HSM.out.symm.rch⟩
      go_wp2
      go_ret
      exact ⟨V, ov, nv, cv, rfl, HVL.out, by have := HNV.out; have := HLE.out; omega, HDN.out, HV.out, HB1.out.trans (HB.out.mono HB1.out.size)⟩
    | succ p =>
      obtain ⟨g, k, cap, x, r, e, rfl, hO⟩ := Off.pos HO.out
      simp only [Value.slice.injEq, true_and] at e
      obtain ⟨rfl, rfl⟩ := e
      have HO1 := Lib.hid hO
      have hc0 := hO.at_ 0 x rfl
      rw [Nat.add_zero] at hc0
      have hp0 : (0 : Int) < ((p : Nat) : Int) + 1 := by omega
      have hle := hO.le
      have h1c : (1 : Int) ≤ ((cm : Nat) : Int) := by omega
      have h1p : (1 : Int) ≤ ((p : Nat) : Int) + 1 := by omega
      have HLE2 := Lib.hid hle
      clear hO hle HO
      go_upto_region 7 with fail
      have hif : ∃ k2, (if cm = 1 then some (⟨g, k, none⟩ : Addr) else some ⟨g, k + 1, none⟩) = some ⟨g, k2, none⟩ ∧ Off wr w1.heap.size g k2 p (cm - 1) r := by
        by_cases h1 : cm = 1
        · rw [if_pos h1]
          have ht := HO1.out.tail
          have hp : p = 0 := by have := HLE2.out; omega
          refine ⟨k, rfl, ht.ge, ht.len, ht.le, fun i z hz => ?_, fun j hj => by omega⟩
          have := (List.getElem?_eq_some_iff.1 hz).1
          have := ht.len
          omega
        · rw [if_neg h1]
          exact ⟨k + 1, rfl, HO1.out.tail⟩
      obtain ⟨k2, e2, hO2⟩ := hif
      rw [e2]
      have HO2 := Lib.hid hO2
      have HH := Lib.hid (hasT (c := cv) (s := x) HVL.out HV.out (by have := HNV.out; have := HLE.out; omega))
      have HWT := Lib.hid (withO (c := cv) (s := x) HVL.out HV.out (by have := HNV.out; have := HLE.out; omega))
      clear e2 hO2 HO1 hc0 hp0 h1c h1p
      go_wp2_with fail
      refine HH.out.mono ?_
      rintro e w3 ⟨rfl, hw⟩
      have hw' := hw.symm
      subst hw'
      clear hw HH
      by_cases hmem : nm x ∈ nms V
      · have HLK2 := Lib.hid (Look.skip HLK.out hmem)
        rw [decide_eq_true hmem]
        clear hmem HLK HWT
        go_wp2
        case roundEnd => exact ⟨⟨r, V, some ⟨g, k2, none⟩, ov, p, cm - 1, nv, cv, rfl, rfl, .inr ⟨g, k2, cm - 1, rfl, HO2.out⟩, HVL, HVR, HAP, HGL, HLK2, by have := HPN.out; show _ ≤ _; omega, HB⟩, by simp only [lenV]; omega⟩
      · have HVW : Hid ((withB V x).length = nv + 1) := by
          have := withF_len HLK.out.srt hmem
          rw [← withB_nm, nms_len, nms_len, HVL.out] at this
          exact this
        rw [decide_eq_false hmem]
        clear hmem
        go_wp2_with fail
        refine HWT.out.mono ?_
        rintro e w3 ⟨ob, cb, nb, rfl, hb1, hb2, hB⟩
        have hnb : nb = nv + 1 := by rw [← hb1, HVW.out]
        subst hnb
        have HB3 := Lib.hid (HB.out.trans (hB.mono HB.out.size))
        have HV3 := Lib.hid (row_low hb2 HB.out.size)
        have HAP3 : Hid (∀ i, (Value.slice ob (nv + 1) cb).ownBlock = some i → (Value.slice (some ⟨g, k2, none⟩) p (cm - 1)).ownBlock ≠ some i) := fun i h1 h2 => by
          have := (hb2.lt i h1).1
          have := HGL.out i h2
          omega
        have HGL3 : Hid (g < w3.heap.size) := Nat.lt_of_lt_of_le (HGL.out g rfl) hB.size
        have HO3 := Lib.hid (HO2.out.below hB)
        have HI3 := Lib.hid (HIM.out w3 x HB3.out)
        clear hb1 hb2 hB HWT HO2 HB HV HVL HVR HAP HGL
        go_wp2_with fail
        refine HI3.out.mono ?_
        rintro e w4 ⟨V2, o5, n5, c5, rfl, hvl, hv1, hv2, hown, hB⟩
        have HLK2 : Hid (Look (ys.map toNd) (nm s) (nms (withB V x)) (nms (r ++ V2))) := by
          have := Look.take (ims := nms V2) HLK.out (by rw [hv2]; exact (imsF_is HND.out (nm x)).2)
          rw [← withB_nm] at this
          rw [nms_app]
          exact this
        have HB4 := Lib.hid (HB3.out.trans (hB.mono HB3.out.size))
        have HV4 := Lib.hid (below_row hB HV3.out)
        have HGL4 : Hid (g < w4.heap.size) := Nat.lt_of_lt_of_le HGL3.out hB.size
        have HO4 := Lib.hid (HO3.out.below hB)
        have HOW := Lib.hid hown
        have HV2L := Lib.hid hvl
        have HN5 : Hid (n5 ≤ 1000) := by have := HLE.out; show _ ≤ _; omega
        have HNV1 : Hid (nv + 1 ≤ n1) := by
          have := HLK2.out.few
          rw [nms_len, HVW.out, List.length_map, HYL.out] at this
          exact this
        clear hvl hv1 hv2 hown hB HI3 HO3 HV3 HB3 HLK
        go_wp2_with (refine wpList_append_off rfl _ _ rfl w1.heap.size (.slice (some ⟨g, k2, none⟩) p (cm - 1)) p r rfl (.inr ⟨g, k2, cm - 1, rfl, HO4.out⟩) o5 n5 c5 _ V2 rfl HOW.out HV2L.out HB4.out.size (by have := HPN.out; have := HN5.out; have := HNV.out; have := HLE.out; omega) ?_; intro o9 c9 w9 hoff hT hwh; have HO9 := Lib.hid hoff; have HT9 := Lib.hid hT; have HWH := Lib.hid hwh; clear hoff hT hwh)
        case roundEnd =>
          refine ⟨⟨r ++ V2, withB V x, o9, ob, p + n5, c9, nv + 1, cb, rfl, rfl, HO9, HVW, HT9.out.row HV4.out fun i h1 h2 => HAP3.out i h1 h2, fun i h1 h2 => ?_, fun i hi => ?_, HLK2, by have := HPN.out; have := HN5.out; show _ ≤ _; omega, HB4.out.trans (HT9.out.below HB4.out.size fun i hi => ?_)⟩, by have := HNV1.out; have := HN5.out; simp only [lenV]; omega⟩
          · rcases HWH.out i h2 with h3 | h3
            · exact HAP3.out i h1 h3
            · have := (HV4.out.lt i h1).2
              omega
          · rcases HWH.out i hi with h3 | h3
            · simp only [Value.ownBlock, Option.some.injEq] at h3
              subst h3
              exact Nat.lt_of_lt_of_le HGL4.out HT9.out.size
            · exact h3.2
          · simp only [Value.ownBlock, Option.some.injEq] at hi
            subst hi
            exact HO4.out.ge

end Go.Proofs.Ytgnhcaepkgbieaa
