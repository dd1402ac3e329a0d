/-
  A call, checked: the document's answer. Condition: at most twenty types each, of at most a million parts.
-/
import Derived.Test.YtlakmniaocpaaaaM17
import Derived.Deep.DeepCutAuto
import Derived.Deep.RegionHeld3
namespace Go.Proofs.Ytlakmniaocpaaaa
open Go.RowKit
open Go.Lib hiding intOf
theorem keepD1 {w : World} {p : Addr} {u : Value} (h : w.cell? p = some u) : w.drew.cell? p = some u := h
theorem keepA1 {w : World} {p : Addr} {u : Value} {o : Obj} (h : w.cell? p = some u) : (w.alloc o).cell? p = some u := cells_below ((Below.refl _ _).alloc (Nat.le_refl _) _) _ _ h
theorem RowE.farC {w : World} {B g i : Nat} {u : Value} {o : Option Addr} {m c : Nat} {l : List (Int × Int)} (h : RowE w B o m c l) (hg : g < B) : RowE (w.setCell ⟨g, i, none⟩ u) B o m c l := by
  obtain ⟨h5, L, h1, h2, h3, h4⟩ := h
  refine ⟨h5, L, ⟨h1.1, ?_⟩, h2, h3, h4⟩
  rcases h1.2 with h | ⟨k, cap, cur, e, hb, hk, r⟩
  · exact .inl h
  · exact .inr ⟨k, cap, cur, e, hb, (Below.heap_setCell w ⟨g, i, none⟩ u k (by simp only; omega)).trans hk, r⟩
theorem RowE.farC5 {w : World} {B g : Nat} {o : Option Addr} {m c : Nat} {l : List (Int × Int)} (h : RowE w B o m c l) (hg : g < B) (v0 v1 v2 v3 v4 : Value) : RowE (((((w.setCell ⟨g, 0, none⟩ v0).setCell ⟨g, 1, none⟩ v1).setCell ⟨g, 2, none⟩ v2).setCell ⟨g, 3, none⟩ v3).setCell ⟨g, 4, none⟩ v4) B o m c l :=
  ((((h.farC hg).farC hg).farC hg).farC hg).farC hg
set_option maxRecDepth 100000 in
set_option maxHeartbeats 32000000 in
theorem callR_any (s : SCP) (f : FN) (A : List GY) (cs cf : List Value) (oA : Option Addr) (cA : Nat) (w : World) (hs : IsSc w s cs) (hf : IsFn w f cf) (hA : IsYs w oA 0 A) (hlA : A.length ≤ 20) (hlP : f.params.length ≤ 20) (hlB : f.bounds.length ≤ 20) (hcP : ∀ p ∈ f.params, cntY p ≤ 1000000) (hcR : cntY f.result ≤ 1000000) :
    Calls Try.prog 18 #[.agg cs.toArray, .agg cf.toArray, .slice oA A.length cA] w fun e w' => ∃ u v, e = .returned (.tuple #[u, v]) ∧ IsY w' (callT f.bounds f.params f.result A) u ∧ IsEs w' (callE s f.bounds f.params A) v ∧ Below w.heap.size w w' := by
  have HS := Lib.hid hs
  obtain ⟨o, o1, o2, o3, o4, k, n1, k1, n2, k2', k3, n4, k4, rfl, _⟩ := hs
  obtain ⟨oB, kB, oP, kP, ra, rp, rq, rn, ro, re, rk, rfl, _, _, _, _, hB, hP, hR⟩ := hf
  obtain ⟨fname, B, P, Rr⟩ := f
  dsimp only at *
  generalize s.W.length = nW at *
  generalize s.bounds.length = nb at *
  obtain ⟨nB, hnB⟩ : ∃ nB, B.length = nB := ⟨_, rfl⟩
  obtain ⟨nP, hnP⟩ : ∃ nP, P.length = nP := ⟨_, rfl⟩
  obtain ⟨nA, hnA⟩ : ∃ nA, A.length = nA := ⟨_, rfl⟩
  have htt := told_types B P A
  obtain ⟨W2, hW2, HBX⟩ := bx3 w #[.slice o nW k, .slice o1 n1 k1, .slice o2 n2 k2', .slice o3 nb k3, .slice o4 n4 k4] #[.string fname, .slice oB nB kB, .slice oP nP kP, .int .i64 ra, .string rp, .string rq, .int .i64 rn, .slice ro re rk] #[.int .i64 0, .string noB, .string noB, .int .i64 0, .slice none 0 0] 32 36 34
  have hU := unifyR_any P A oP oA kP cA (B.length : Int) w W2 hP hA (by omega) HBX.out.2.1
  rw [htt] at hU
  have HCE : Hid (errC P A ++ errB s B (typesY B P A) ++ errA s (typesY B P A) 0 A P = callE s B P A) := rfl
  have HCT : Hid (callT B P Rr A = subY (typesY B P A) Rr) := rfl
  have htl : (typesY B P A).length ≤ 16 := by rw [← htt]; exact toldY_len _ _ _
  have HTL := Lib.hid htl
  generalize typesY B P A = TT at *
  rw [hnB, hnP, hnA] at hU
  rw [hnA] at hlA ⊢
  rw [hnP] at hlP ⊢
  rw [hnB] at hlB ⊢
  have HU := Lib.hid hU
  have HNB := Lib.hid hnB
  have HNP := Lib.hid hnP
  have HNA := Lib.hid hnA
  have HW2 := Lib.hid hW2
  have HB := Lib.hid hB
  have HP := Lib.hid hP
  have HA := Lib.hid hA
  have HR := Lib.hid hR
  have b0 : ∀ i, W2.cell? ⟨w.heap.size, i, none⟩ = _ := (HBX.out.at_ (Below.refl _ _) 0 rfl).cell
  have b1 : ∀ i, W2.cell? ⟨w.heap.size + 1, i, none⟩ = _ := (HBX.out.at_ (Below.refl _ _) 1 rfl).cell
  clear hU hnB hnP hnA hW2 hB hP hA hR htt htl
  go_enter Try.func18, Try.ntmps18
  go_upto_region 1 with fail
  change Code.wp Try.prog _ _ _ (((w.alloc (.cells #[.slice o nW k, .slice o1 n1 k1, .slice o2 n2 k2', .slice o3 nb k3, .slice o4 n4 k4] 32)).alloc (.cells #[.string fname, .slice oB nB kB, .slice oP nP kP, .int .i64 ra, .string rp, .string rq, .int .i64 rn, .slice ro re rk] 36)).alloc (.cells #[.int .i64 0, .string noB, .string noB, .int .i64 0, .slice none 0 0] 34))
  rw [HW2.out]
  go_wp2_with fail
  refine HU.out.mono ?_
  rintro e V ⟨⟨u, rfl, hu⟩, hbV⟩
  obtain ⟨Q, oT, cT, rfl, hlT, hcT, hQ0, hQ1, hyT⟩ := hu.use (HBX.out.below hbV) HTL.out (w.heap.size + 1 + 1) (by omega) (by have := HBX.out.1; simp only [List.length_cons, List.length_nil] at this; omega)
  have HVW := Lib.hid hbV
  have HQ0 := Lib.hid hQ0
  have HQ1 := Lib.hid hQ1
  have HVTP := Lib.hid hyT
  clear hu hbV hlT hcT hQ0 hQ1 hyT b0 b1 HU HW2
  obtain ⟨nT, hnT⟩ : ∃ nT, TT.length = nT := ⟨_, rfl⟩
  rw [hnT]
  have HNT := Lib.hid hnT
  have HVT := Lib.hid HVTP.out.toYs
  have hwV := HBX.out.below HVW.out
  have HVS := Lib.hid (HS.out.below hwV)
  have HVB := Lib.hid (HB.out.below hwV)
  have HVP := Lib.hid (HP.out.below hwV)
  have HVA := Lib.hid (HA.out.below hwV)
  have HVL : Hid (w.heap.size + 1 + 1 < V.heap.size) := (HBX.out.at_ HVW.out 2 rfl).lt
  have HUP : ∀ (p : GY) (v : Value), IsY w p v → IsYP Q V p v := fun p v h => (h.toP (Nat.le_refl _)).keep (fun a _ h _ => HQ0.out _ h) fun a u _ hc => cells_below hwV a u hc
  have HVRP := Lib.hid (HUP _ _ HR.out)
  have HVPP : Hid (IsYPs Q V oP 0 P) := (HP.out.toPs (Nat.le_refl _)).keep (fun a _ h _ => HQ0.out _ h) fun a u _ hc => cells_below hwV a u hc
  have k0 := HBX.out.at_ HVW.out 0 rfl
  have k1 := HBX.out.at_ HVW.out 1 rfl
  have c0 := k0.cell
  rw [Nat.add_zero] at c0
  have c1 := k1.cell
  have HR0 := Lib.hid (Below.refl V.heap.size V)
  have hvz : V.heap.size ≤ V.heap.size := Nat.le_refl _
  have HSZ := Lib.hid hvz
  have HRE0 : Hid (RowE V V.heap.size none 0 0 []) := RowQ.start _ _
  clear hwV HUP k0 k1 hvz hnT
  by_cases hnn : nA = nP
  · subst hnn
    obtain ⟨E0, hE0⟩ : ∃ E0, errC P A = E0 := ⟨_, rfl⟩
    have hE1 : E0 = [] := by rw [← hE0]; exact if_pos (HNA.out.trans HNP.out.symm)
    have HE0 := Lib.hid hE0.symm
    subst hE1
    have HST : Hid ([] ++ errB s (B.drop 0) (TT.drop 0) = [] ++ errB s B TT) := by show _ = _; rw [List.drop_zero, List.drop_zero]
    obtain ⟨m, hm0⟩ : ∃ m, m = 0 := ⟨_, rfl⟩
    have HM0 : Hid (0 ≤ 1 + 0) := by show _ ≤ _; omega
    have HRE := HRE0
    have HR := HR0
    clear hE0 HRE0 HR0 hm0 m
    go_wp2
    have HB0 := Lib.hid (Nat.zero_le nB)
    have HT0 := Lib.hid (Nat.zero_le nT)
    go_loopw [9, 10] (fun v i wr => ∃ (j m : Nat) (oe : Option Addr) (ce : Nat) (es : List (Int × Int)), v = .slice oe m ce ∧ i = .int .i64 (j : Nat) ∧ Hid (j ≤ nB) ∧ Hid (j ≤ nT) ∧ Hid (m ≤ 1 + j) ∧ Hid (es ++ errB s (B.drop j) (TT.drop j) = [] ++ errB s B TT) ∧ Hid (RowE wr V.heap.size oe m ce es) ∧ Hid (Below V.heap.size V wr)) (fun _ i _ => nB - (RowKit.intOf i).toNat)
    case atStart => exact ⟨0, 0, none, 0, [], rfl, rfl, HB0, HT0, HM0, HST, HRE, HR⟩
    case round =>
      clear HST HRE HR HM0 c0 c1
      obtain ⟨j, m, oe, ce, es, rfl, rfl, HJ, HJ', HM, HE, HRE, HR⟩ := hrel
      clear HB0 HT0
      have hsz : V.heap.size ≤ wr.heap.size := HR.out.size
      have HSZ := Lib.hid hsz
      have hm := HM.out
      have kk0 := HBX.out.at_ (stepB HVW.out HR.out (Nat.le_refl _)) 0 rfl
      have kk1 := HBX.out.at_ (stepB HVW.out HR.out (Nat.le_refl _)) 1 rfl
      have c0 := kk0.cell
      rw [Nat.add_zero] at c0
      have c1 := kk1.cell
      by_cases hj : j < nB
      · have hj1 : ((j : Int) < (nB : Int)) := by omega
        have hj0 : (0 : Int) ≤ (j : Int) := by omega
        have hwj := IntWalk.i64_in ((j : Int) + 1) ⟨by omega, by omega⟩
        by_cases hj' : j < nT
        · have hj2 : ((j : Int) < (nT : Int)) := by omega
          obtain ⟨b, hb⟩ : ∃ b, B[j]? = some b := ⟨_, List.getElem?_eq_getElem (by rw [HNB.out]; exact hj)⟩
          obtain ⟨t, ht⟩ : ∃ t, TT[j]? = some t := ⟨_, List.getElem?_eq_getElem (by rw [HNT.out]; exact hj')⟩
          have HED := Lib.hid (errB_drop (s := s) hb ht)
          obtain ⟨aB, x0, x1, x2, x3, x4, rfl, hcb, hbb⟩ := HVB.out.at_ j hb
          obtain ⟨aT, y0, y1, y2, y3, y4, rfl, hct, htt⟩ := HVT.out.at_ j ht
          rw [Nat.zero_add] at hcb hct
          obtain ⟨bk, bp, bm, bi, bl⟩ := b
          obtain ⟨tk, tp, tm, ti, tl⟩ := t
          obtain ⟨bo, bc, he, _⟩ := hbb.parts
          simp only [Value.agg.injEq, Array.mk.injEq, List.cons.injEq, and_true] at he
          obtain ⟨rfl, rfl, rfl, rfl, rfl⟩ := he
          obtain ⟨tto, tc, he, _⟩ := htt.parts
          simp only [Value.agg.injEq, Array.mk.injEq, List.cons.injEq, and_true] at he
          obtain ⟨rfl, rfl, rfl, rfl, rfl⟩ := he
          have HCB := Lib.hid (mvc HR.out hcb)
          have HCT := Lib.hid (mvc HR.out hct)
          have et0 := at0 (HCT.out 0 _ rfl)
          have eb0 := at0 (HCB.out 0 _ rfl)
          have HME := Lib.hid (fun W (hW : Below wr.heap.size wr W) => meetsR_any s _ _ _ _ _ V W HVS.out htt hbb (stepB HR.out hW (Nat.le_refl _)))
          clear hcb hct hbb htt hb ht
          by_cases ht0 : tk = 0
          · subst ht0
            have HE2 : Hid ((es ++ [(-1, 15)]) ++ errB s (B.drop (j + 1)) (TT.drop (j + 1)) = [] ++ errB s B TT) := by
              have e := HE.out
              rw [HED.out, if_pos (show wB s (.mk bk bp bm bi bl) (.mk 0 tp tm ti tl) = true from rfl)] at e
              show _ = _
              rw [← e]; simp
            clear HED HME HE
            go_upto_region 13 with fail
            go_wp2_with (first
              | (refine boxRow1 39 51 2 (.agg #[.int .i64 0, .int .i64 0]) Try.underlying39 (by kernel_rfl) rfl (by decide) rfl _ rfl [.int .i64 (-1), .int .i64 (15)] rfl rfl ?_)
              | (refine rowE_append rfl _ _ rfl V.heap.size m ce oe es (-1, 15) rfl rfl HRE.out (by omega) (by first | exact HSZ.out | omega) ?_; intro o9 c9 w9 hr9 hb9; have HR9 := Lib.hid hr9; have HB9 := Lib.hid hb9; clear hr9 hb9))
            case roundEnd => exact ⟨⟨j + 1, m + 1, o9, c9, _, rfl, by push_cast; rfl, hj, hj', (by show m + 1 ≤ _; omega), HE2, HR9, HR.out.trans (HB9.out.mono (Nat.le_refl _))⟩, by simp [RowKit.intOf]; omega⟩
          have et : (tk == 0) = false := beq_eq_false_iff_ne.2 ht0
          by_cases hb0 : bk = 0
          · subst hb0
            have HE2 : Hid (es ++ errB s (B.drop (j + 1)) (TT.drop (j + 1)) = [] ++ errB s B TT) := by
              have e := HE.out
              rw [HED.out, if_neg (by show ¬ ((decide (tk = 0) || (!decide ((0 : Int) = 0) && _)) = true); rw [decide_eq_false ht0]; simp)] at e
              exact e
            clear HED HME HE ht0
            go_wp2
            case roundEnd => exact ⟨⟨j + 1, m, oe, ce, es, rfl, by push_cast; rfl, hj, hj', (by show m ≤ _; omega), HE2, HRE, HR⟩, by simp [RowKit.intOf]; omega⟩
          have ebk : (bk != 0) = true := by simpa using hb0
          have HWB : Hid (wB s (.mk bk bp bm bi bl) (.mk tk tp tm ti tl) = !meetsS s (.mk tk tp tm ti tl) (.mk bk bp bm bi bl)) := by
            show (decide (tk = 0) || (!decide (bk = 0) && _)) = _
            rw [decide_eq_false ht0, decide_eq_false hb0]; rfl
          generalize meetsS s (.mk tk tp tm ti tl) (.mk bk bp bm bi bl) = MB at *
          clear ht0 hb0
          go_wp2_with fail
          refine wp_region_still_tail 10 (by kernel_rfl) (by kernel_rfl) ?_
          simp only [List.take_succ_cons, List.take_zero, List.drop_succ_cons, List.drop_zero]
          iterate 4 still_step
          refine stillLoadG 34 5 size5 Try.underlying34 rfl _ rfl (aT.add (j * 5)) rfl HCT.out rfl ?_
          iterate 4 still_step
          refine stillLoadG 34 5 size5 Try.underlying34 rfl _ rfl (aB.add (j * 5)) rfl HCB.out rfl ?_
          refine wpStill_nil ?_
          change wpList _ _ _ _ _ wr.drew
          go_wp2_with fail
          refine (HME.out _ (Below.refl _ _).drew).mono ?_
          rintro e w5 ⟨rfl, hb5⟩
          have hbw : Below wr.heap.size wr w5 := (Below.refl _ _).drew.trans hb5
          have HR5 := Lib.hid (stepB HR.out hbw (Nat.le_refl _))
          have HRE5 := Lib.hid (RowQ.below keepW HRE.out hbw)
          have hsz5 : V.heap.size ≤ w5.heap.size := HR5.out.size
          clear hb5 hbw HSZ HCB HCT et0 eb0 HME
          have HSZ := Lib.hid hsz5
          cases MB with
          | true =>
            have HE2 : Hid (es ++ errB s (B.drop (j + 1)) (TT.drop (j + 1)) = [] ++ errB s B TT) := by
              have e := HE.out
              rw [HED.out, if_neg (by rw [HWB.out]; simp)] at e
              exact e
            clear HED HE HWB
            go_wp2
            case roundEnd => exact ⟨⟨j + 1, m, oe, ce, es, rfl, by push_cast; rfl, hj, hj', (by show m ≤ _; omega), HE2, HRE5, HR5⟩, by simp [RowKit.intOf]; omega⟩
          | false =>
            have HE2 : Hid ((es ++ [(-1, 15)]) ++ errB s (B.drop (j + 1)) (TT.drop (j + 1)) = [] ++ errB s B TT) := by
              have e := HE.out
              rw [HED.out, if_pos (by rw [HWB.out]; rfl)] at e
              show _ = _
              rw [← e]; simp
            clear HED HE HWB
            go_upto_region 13 with fail
            go_wp2_with (first
              | (refine boxRow1 39 51 2 (.agg #[.int .i64 0, .int .i64 0]) Try.underlying39 (by kernel_rfl) rfl (by decide) rfl _ rfl [.int .i64 (-1), .int .i64 (15)] rfl rfl ?_)
              | (refine rowE_append rfl _ _ rfl V.heap.size m ce oe es (-1, 15) rfl rfl HRE5.out (by omega) (by first | exact HSZ.out | omega) ?_; intro o9 c9 w9 hr9 hb9; have HR9 := Lib.hid hr9; have HB9 := Lib.hid hb9; clear hr9 hb9))
            case roundEnd => exact ⟨⟨j + 1, m + 1, o9, c9, _, rfl, by push_cast; rfl, hj, hj', (by show m + 1 ≤ _; omega), HE2, HR9, HR5.out.trans (HB9.out.mono (Nat.le_refl _))⟩, by simp [RowKit.intOf]; omega⟩
        · have hj2 : ¬ ((j : Int) < (nT : Int)) := by omega
          have HE2 : Hid (es = [] ++ errB s B TT) := by
            have e := HE.out
            rw [errB_end (.inr (by rw [HNT.out]; omega)), List.append_nil] at e
            exact e
          clear hj' HE
          have HTOT0 : Hid (es ++ errA s TT 0 (A.drop 0) (P.drop 0) = callE s B P A) := by
            show _ = _
            rw [HE2.out, List.drop_zero, List.drop_zero, HE0.out]
            exact HCE.out
          have HZA := Lib.hid (Nat.zero_le nA)
          have HZP := Lib.hid (Nat.zero_le nA)
          have HM21 : Hid (m ≤ 21 + 0) := by have := HJ.out; show _ ≤ _; omega
          clear hm kk0 kk1 hsz
          go_wp2
          go_loopw [9, 13] (fun v i wr => ∃ (j m : Nat) (oe : Option Addr) (ce : Nat) (es : List (Int × Int)), v = .slice oe m ce ∧ i = .int .i64 (j : Nat) ∧ Hid (j ≤ nA) ∧ Hid (j ≤ nA) ∧ Hid (m ≤ 21 + j) ∧ Hid (es ++ errA s TT j (A.drop j) (P.drop j) = callE s B P A) ∧ Hid (RowE wr V.heap.size oe m ce es) ∧ Hid (Below V.heap.size V wr)) (fun _ i _ => nA - (RowKit.intOf i).toNat)
          case atStart => exact ⟨0, m, oe, ce, es, rfl, rfl, HZA, HZP, HM21, HTOT0, HRE, HR⟩
          case round =>
            clear HE2 HM21 HTOT0 HRE HR HM HSZ HJ HJ' c0 c1
            obtain ⟨j, m, oe, ce, es, rfl, rfl, HJ, HJ', HM, HE, HRE, HR⟩ := hrel
            clear HZA HZP
            have hsz : V.heap.size ≤ wr.heap.size := HR.out.size
            have HSZ := Lib.hid hsz
            have hm := HM.out
            have kk0 := HBX.out.at_ (stepB HVW.out HR.out (Nat.le_refl _)) 0 rfl
            have kk1 := HBX.out.at_ (stepB HVW.out HR.out (Nat.le_refl _)) 1 rfl
            have c0 := kk0.cell
            rw [Nat.add_zero] at c0
            have c1 := kk1.cell
            by_cases hj : j < nA
            · have hj1 : ((j : Int) < (nA : Int)) := by omega
              have hj0 : (0 : Int) ≤ (j : Int) := by omega
              have hwj := IntWalk.i64_in ((j : Int) + 1) ⟨by omega, by omega⟩
              by_cases hj' : j < nA
              · have hj2 : ((j : Int) < (nA : Int)) := by omega
                obtain ⟨a, ha⟩ : ∃ a, A[j]? = some a := ⟨_, List.getElem?_eq_getElem (by rw [HNA.out]; exact hj)⟩
                obtain ⟨p, hp⟩ : ∃ p, P[j]? = some p := ⟨_, List.getElem?_eq_getElem (by rw [HNP.out]; exact hj')⟩
                have HED := Lib.hid (errA_drop (s := s) (ts := TT) ha hp)
                obtain ⟨aA, x0, x1, x2, x3, x4, rfl, hca, haa⟩ := HVA.out.at_ j ha
                obtain ⟨aP, y0, y1, y2, y3, y4, rfl, hcp, hpp⟩ := HVPP.out.at_ j hp
                rw [Nat.zero_add] at hca hcp
                have HCA := Lib.hid (mvc HR.out hca)
                have HCP := Lib.hid (mvc HR.out hcp)
                have HPQ := Lib.hid hpp
                have hcnt := hcP p (List.mem_of_getElem? hp)
                have HSU := Lib.hid (fun W (hW : Below wr.heap.size wr W) => subR_any TT oT nT cT HNT.out Q _ p _ W (Nat.lt_succ_self _) hcnt (fun k hk => Nat.lt_of_lt_of_le (HQ1.out k hk).1 (stepB HR.out hW (Nat.le_refl _)).size) (HPQ.out.below (stepB HR.out hW (Nat.le_refl _))) (HVTP.out.below (stepB HR.out hW (Nat.le_refl _))))
                have HAS := Lib.hid (fun (u : Value) W (hW : Below wr.heap.size wr W) (hu : IsY W (subY TT p) u) => assignR_any s a (subY TT p) _ _ u W W (HVS.out.below (stepB HR.out hW (Nat.le_refl _))) (haa.below (stepB HR.out hW (Nat.le_refl _))) hu (Below.refl _ _))
                have HWA : Hid (wA s TT a p = !assignS s a (subY TT p)) := rfl
                generalize assignS s a (subY TT p) = AB at *
                clear hca hcp haa hpp ha hp hcnt
                have f0 := c0 0
                have f1 := c0 1
                have f2 := c0 2
                have f3 := c0 3
                have f4 := c0 4
                have f5 := c1 2
                have f6 := at0 (HCA.out 0 _ rfl)
                have f7 := atS (HCA.out 1 _ rfl)
                have f8 := atS (HCA.out 2 _ rfl)
                have f9 := atS (HCA.out 3 _ rfl)
                have f10 := atS (HCA.out 4 _ rfl)
                have f11 := at0 (HCP.out 0 _ rfl)
                have f12 := atS (HCP.out 1 _ rfl)
                have f13 := atS (HCP.out 2 _ rfl)
                have f14 := atS (HCP.out 3 _ rfl)
                have f15 := atS (HCP.out 4 _ rfl)
                simp only [List.getElem?_toArray, List.getElem?_cons_zero, List.getElem?_cons_succ] at f0 f1 f2 f3 f4 f5
                have q0 := f0
                have q1 := f1
                have q2 := f2
                have q3 := f3
                have q4 := f4
                have q5 := f5
                have q6 := f6
                have q7 := f7
                have q8 := f8
                have q9 := f9
                have q10 := f10
                have q11 := f11
                have q12 := f12
                have q13 := f13
                have q14 := f14
                have q15 := f15
                have KB := Lib.hid (Below.refl wr.heap.size wr)
                go_wp2_with fail
                go_region_held3 (fun w' => w'.cell? ⟨w.heap.size, 0, none⟩ = some (.slice o nW k) ∧ w'.cell? ⟨w.heap.size, 1, none⟩ = some (.slice o1 n1 k1) ∧ w'.cell? ⟨w.heap.size, 2, none⟩ = some (.slice o2 n2 k2') ∧ w'.cell? ⟨w.heap.size, 3, none⟩ = some (.slice o3 nb k3) ∧ w'.cell? ⟨w.heap.size, 4, none⟩ = some (.slice o4 n4 k4) ∧ w'.cell? ⟨w.heap.size + 1, 2, none⟩ = some (.slice (some aP) nA kP) ∧ w'.cell? (aA.add (j * 5)) = some x0 ∧ w'.cell? ⟨(aA.add (j * 5)).block, (aA.add (j * 5)).off + 1, none⟩ = some x1 ∧ w'.cell? ⟨(aA.add (j * 5)).block, (aA.add (j * 5)).off + 2, none⟩ = some x2 ∧ w'.cell? ⟨(aA.add (j * 5)).block, (aA.add (j * 5)).off + 3, none⟩ = some x3 ∧ w'.cell? ⟨(aA.add (j * 5)).block, (aA.add (j * 5)).off + 4, none⟩ = some x4 ∧ w'.cell? (aP.add (j * 5)) = some y0 ∧ w'.cell? ⟨(aP.add (j * 5)).block, (aP.add (j * 5)).off + 1, none⟩ = some y1 ∧ w'.cell? ⟨(aP.add (j * 5)).block, (aP.add (j * 5)).off + 2, none⟩ = some y2 ∧ w'.cell? ⟨(aP.add (j * 5)).block, (aP.add (j * 5)).off + 3, none⟩ = some y3 ∧ w'.cell? ⟨(aP.add (j * 5)).block, (aP.add (j * 5)).off + 4, none⟩ = some y4)
                  (refine ⟨?_, ?_, ?_, ?_, ?_, ?_, ?_, ?_, ?_, ?_, ?_, ?_, ?_, ?_, ?_, ?_⟩ <;> (repeat (first | with_reducible assumption | with_reducible refine keepD1 ?_ | with_reducible refine keepA1 ?_)))
                  ((first
                    | (go_at_call 34; refine (HSU.out _ (by first | exact KB.out | exact KB.out.drew)).mono ?_; rintro e w4 ⟨pu, rfl, hpu, hb4⟩; have HPU := Lib.hid hpu.toY; clear hpu; have kb : Below wr.heap.size wr w4 := (by first | with_reducible exact stepB KB.out hb4 (Nat.le_refl _) | with_reducible exact stepB KB.out.drew hb4 (Nat.le_refl _)); clear KB hb4 q0 q1 q2 q3 q4 q5 q6 q7 q8 q9 q10 q11 q12 q13 q14 q15; have KB := Lib.hid kb; clear kb; have q0 := (KB.out.cell (World.block_lt_of_cell? _ _ f0)).trans f0; have q1 := (KB.out.cell (World.block_lt_of_cell? _ _ f1)).trans f1; have q2 := (KB.out.cell (World.block_lt_of_cell? _ _ f2)).trans f2; have q3 := (KB.out.cell (World.block_lt_of_cell? _ _ f3)).trans f3; have q4 := (KB.out.cell (World.block_lt_of_cell? _ _ f4)).trans f4; have q5 := (KB.out.cell (World.block_lt_of_cell? _ _ f5)).trans f5; have q6 := (KB.out.cell (World.block_lt_of_cell? _ _ f6)).trans f6; have q7 := (KB.out.cell (World.block_lt_of_cell? _ _ f7)).trans f7; have q8 := (KB.out.cell (World.block_lt_of_cell? _ _ f8)).trans f8; have q9 := (KB.out.cell (World.block_lt_of_cell? _ _ f9)).trans f9; have q10 := (KB.out.cell (World.block_lt_of_cell? _ _ f10)).trans f10; have q11 := (KB.out.cell (World.block_lt_of_cell? _ _ f11)).trans f11; have q12 := (KB.out.cell (World.block_lt_of_cell? _ _ f12)).trans f12; have q13 := (KB.out.cell (World.block_lt_of_cell? _ _ f13)).trans f13; have q14 := (KB.out.cell (World.block_lt_of_cell? _ _ f14)).trans f14; have q15 := (KB.out.cell (World.block_lt_of_cell? _ _ f15)).trans f15)
                    | (go_at_call 33; refine (HAS.out _ _ (by first | exact KB.out | exact KB.out.drew) HPU.out).mono ?_; rintro e w5 ⟨rfl, hb4⟩; have kb : Below wr.heap.size wr w5 := (by first | with_reducible exact stepB KB.out hb4 (Nat.le_refl _) | with_reducible exact stepB KB.out.drew hb4 (Nat.le_refl _)); clear KB hb4 q0 q1 q2 q3 q4 q5 q6 q7 q8 q9 q10 q11 q12 q13 q14 q15; have KB := Lib.hid kb; clear kb; have q0 := (KB.out.cell (World.block_lt_of_cell? _ _ f0)).trans f0; have q1 := (KB.out.cell (World.block_lt_of_cell? _ _ f1)).trans f1; have q2 := (KB.out.cell (World.block_lt_of_cell? _ _ f2)).trans f2; have q3 := (KB.out.cell (World.block_lt_of_cell? _ _ f3)).trans f3; have q4 := (KB.out.cell (World.block_lt_of_cell? _ _ f4)).trans f4; have q5 := (KB.out.cell (World.block_lt_of_cell? _ _ f5)).trans f5; have q6 := (KB.out.cell (World.block_lt_of_cell? _ _ f6)).trans f6; have q7 := (KB.out.cell (World.block_lt_of_cell? _ _ f7)).trans f7; have q8 := (KB.out.cell (World.block_lt_of_cell? _ _ f8)).trans f8; have q9 := (KB.out.cell (World.block_lt_of_cell? _ _ f9)).trans f9; have q10 := (KB.out.cell (World.block_lt_of_cell? _ _ f10)).trans f10; have q11 := (KB.out.cell (World.block_lt_of_cell? _ _ f11)).trans f11; have q12 := (KB.out.cell (World.block_lt_of_cell? _ _ f12)).trans f12; have q13 := (KB.out.cell (World.block_lt_of_cell? _ _ f13)).trans f13; have q14 := (KB.out.cell (World.block_lt_of_cell? _ _ f14)).trans f14; have q15 := (KB.out.cell (World.block_lt_of_cell? _ _ f15)).trans f15)))
                clear f0 q0 f1 q1 f2 q2 f3 q3 f4 q4 f5 q5 f6 q6 f7 q7 f8 q8 f9 q9 f10 q10 f11 q11 f12 q12 f13 q13 f14 q14 f15 q15
                have hbw : Below wr.heap.size wr w5 := KB.out
                have HR5 := Lib.hid (stepB HR.out hbw (Nat.le_refl _))
                have HRE5 := Lib.hid (RowQ.below keepW HRE.out hbw)
                have hsz5 : V.heap.size ≤ w5.heap.size := HR5.out.size
                clear KB hbw HSZ HCA HCP HSU HAS HPU HPQ
                have HSZ := Lib.hid hsz5
                cases AB with
                | true =>
                  have HE2 : Hid (es ++ errA s TT (j + 1) (A.drop (j + 1)) (P.drop (j + 1)) = callE s B P A) := by
                    have e := HE.out
                    rw [HED.out, if_neg (by rw [HWA.out]; simp)] at e
                    exact e
                  clear HED HE HWA
                  go_wp2
                  case roundEnd => exact ⟨⟨j + 1, m, oe, ce, es, rfl, by push_cast; rfl, hj, hj', (by show m ≤ _; omega), HE2, HRE5, HR5⟩, by simp [RowKit.intOf]; omega⟩
                | false =>
                  have HE2 : Hid ((es ++ [((j : Int), 11)]) ++ errA s TT (j + 1) (A.drop (j + 1)) (P.drop (j + 1)) = callE s B P A) := by
                    have e := HE.out
                    rw [HED.out, if_pos (by rw [HWA.out]; rfl)] at e
                    show _ = _
                    rw [← e]; simp
                  clear HED HE HWA
                  go_upto_region 19 with fail
                  go_wp2_with (first
                    | (refine boxRow1 39 51 2 (.agg #[.int .i64 0, .int .i64 0]) Try.underlying39 (by kernel_rfl) rfl (by decide) rfl _ rfl [.int .i64 ((j : Int)), .int .i64 (11)] rfl rfl ?_)
                    | (refine rowE_append rfl _ _ rfl V.heap.size m ce oe es ((j : Int), 11) rfl rfl HRE5.out (by omega) (by first | exact HSZ.out | omega) ?_; intro o9 c9 w9 hr9 hb9; have HR9 := Lib.hid hr9; have HB9 := Lib.hid hb9; clear hr9 hb9))
                  case roundEnd => exact ⟨⟨j + 1, m + 1, o9, c9, _, rfl, by push_cast; rfl, hj, hj', (by show m + 1 ≤ _; omega), HE2, HR9, HR5.out.trans (HB9.out.mono (Nat.le_refl _))⟩, by simp [RowKit.intOf]; omega⟩
              · have hj2 : ¬ ((j : Int) < (nA : Int)) := by omega
                have HTOT : Hid (es = callE s B P A) := by
                  have e := HE.out
                  rw [errA_end (.inr (by rw [HNP.out]; omega)), List.append_nil] at e
                  exact e
                have HR2 := HR
                have HRE2 := HRE
                clear hj' HE hsz hm
                exact (hj2 hj1).elim
            · have hj1 : ¬ ((j : Int) < (nA : Int)) := by omega
              have HTOT : Hid (es = callE s B P A) := by
                have e := HE.out
                rw [errA_end (.inl (by rw [HNA.out]; omega)), List.append_nil] at e
                exact e
              have HR2 := HR
              have HRE2 := HRE
              clear hj HE hsz hm
              have HFN := Lib.hid (subR_any TT oT nT cT HNT.out Q _ Rr _ wr (Nat.lt_succ_self _) hcR (fun k hk => Nat.lt_of_lt_of_le (HQ1.out k hk).1 HR2.out.size) (HVRP.out.below HR2.out) (HVTP.out.below HR2.out))
              have HFZ := Lib.hid HR2.out
              have HFE := Lib.hid HRE2.out
              go_wp2_with fail
              refine HFN.out.mono ?_
              rintro e X ⟨ru, rfl, hru, hbX⟩
              obtain ⟨za, zn, zp, zq, zz, ze, zk, rfl⟩ := hru.toY.expl
              have HRU := Lib.hid hru
              have hX := stepB HFZ.out hbX (Nat.le_refl _)
              have hXW := stepB HVW.out hX (Nat.le_refl _)
              have kx := HBX.out.at_ hXW 2 rfl
              have c4 : ∀ i, X.cell? ⟨w.heap.size + 1 + 1, i, none⟩ = _ := kx.cell
              have f4 : ∀ i, X.frozen? ⟨w.heap.size + 1 + 1, i, none⟩ = false := kx.frozen
              have HX := Lib.hid hX
              have HXW := Lib.hid (HBX.out.below hXW)
              have HEX := Lib.hid (RowQ.below keepW HFE.out hbX)
              have hlt : w.heap.size + 1 + 1 < wr.heap.size := (HBX.out.at_ (stepB HVW.out HFZ.out (Nat.le_refl _)) 2 rfl).lt
              have HLT := Lib.hid hlt
              clear hbX hX hXW kx hlt hru
              go_wp2
              refine bodyPost_ret (v := .tuple #[.agg #[.int .i64 za, .string zp, .string zq, .int .i64 zn, .slice zz ze zk], .slice oe m ce]) (by simp [results, Try.results18, go_sem, c4]) rfl ?_
              refine ⟨_, _, rfl, ?_, ?_, below5 HXW.out (by omega) _ _ _ _ _⟩
              · have hk : ∀ (a : Addr) (u : Value), (Q a.block ∨ wr.heap.size ≤ a.block) → X.cell? a = some u → (((((X.setCell ⟨w.heap.size + 1 + 1, 0, none⟩ (.int .i64 za)).setCell ⟨w.heap.size + 1 + 1, 1, none⟩ (.string zp)).setCell ⟨w.heap.size + 1 + 1, 2, none⟩ (.string zq)).setCell ⟨w.heap.size + 1 + 1, 3, none⟩ (.int .i64 zn)).setCell ⟨w.heap.size + 1 + 1, 4, none⟩ (.slice zz ze zk)).cell? a = some u := fun a u ha hc => by
                  have hne : ¬ a.block = w.heap.size + 1 + 1 := by
                    rcases ha with ha | ha
                    · exact (HQ1.out _ ha).2
                    · have := HLT.out; omega
                  exact far1 (far1 (far1 (far1 (far1 hc hne) hne) hne) hne) hne
                rw [HCT.out]
                exact (IsYP.keep (P' := fun _ => True) (fun _ _ _ _ => trivial) hk HRU.out).toY
              · have hE := HTOT.out
                rw [← hE]
                exact (RowE.farC5 HEX.out (by have := HVL.out; omega) _ _ _ _ _).es
      · have hj1 : ¬ ((j : Int) < (nB : Int)) := by omega
        have HE2 : Hid (es = [] ++ errB s B TT) := by
          have e := HE.out
          rw [errB_end (.inl (by rw [HNB.out]; omega)), List.append_nil] at e
          exact e
        clear hj HE
        have HTOT0 : Hid (es ++ errA s TT 0 (A.drop 0) (P.drop 0) = callE s B P A) := by
          show _ = _
          rw [HE2.out, List.drop_zero, List.drop_zero, HE0.out]
          exact HCE.out
        have HZA := Lib.hid (Nat.zero_le nA)
        have HZP := Lib.hid (Nat.zero_le nA)
        have HM21 : Hid (m ≤ 21 + 0) := by have := HJ.out; show _ ≤ _; omega
        clear hm kk0 kk1 hsz
        go_wp2
        go_loopw [9, 13] (fun v i wr => ∃ (j m : Nat) (oe : Option Addr) (ce : Nat) (es : List (Int × Int)), v = .slice oe m ce ∧ i = .int .i64 (j : Nat) ∧ Hid (j ≤ nA) ∧ Hid (j ≤ nA) ∧ Hid (m ≤ 21 + j) ∧ Hid (es ++ errA s TT j (A.drop j) (P.drop j) = callE s B P A) ∧ Hid (RowE wr V.heap.size oe m ce es) ∧ Hid (Below V.heap.size V wr)) (fun _ i _ => nA - (RowKit.intOf i).toNat)
        case atStart => exact ⟨0, m, oe, ce, es, rfl, rfl, HZA, HZP, HM21, HTOT0, HRE, HR⟩
        case round =>
          clear HE2 HM21 HTOT0 HRE HR HM HSZ HJ HJ' c0 c1
          obtain ⟨j, m, oe, ce, es, rfl, rfl, HJ, HJ', HM, HE, HRE, HR⟩ := hrel
          clear HZA HZP
          have hsz : V.heap.size ≤ wr.heap.size := HR.out.size
          have HSZ := Lib.hid hsz
          have hm := HM.out
          have kk0 := HBX.out.at_ (stepB HVW.out HR.out (Nat.le_refl _)) 0 rfl
          have kk1 := HBX.out.at_ (stepB HVW.out HR.out (Nat.le_refl _)) 1 rfl
          have c0 := kk0.cell
          rw [Nat.add_zero] at c0
          have c1 := kk1.cell
          by_cases hj : j < nA
          · have hj1 : ((j : Int) < (nA : Int)) := by omega
            have hj0 : (0 : Int) ≤ (j : Int) := by omega
            have hwj := IntWalk.i64_in ((j : Int) + 1) ⟨by omega, by omega⟩
            by_cases hj' : j < nA
            · have hj2 : ((j : Int) < (nA : Int)) := by omega
              obtain ⟨a, ha⟩ : ∃ a, A[j]? = some a := ⟨_, List.getElem?_eq_getElem (by rw [HNA.out]; exact hj)⟩
              obtain ⟨p, hp⟩ : ∃ p, P[j]? = some p := ⟨_, List.getElem?_eq_getElem (by rw [HNP.out]; exact hj')⟩
              have HED := Lib.hid (errA_drop (s := s) (ts := TT) ha hp)
              obtain ⟨aA, x0, x1, x2, x3, x4, rfl, hca, haa⟩ := HVA.out.at_ j ha
              obtain ⟨aP, y0, y1, y2, y3, y4, rfl, hcp, hpp⟩ := HVPP.out.at_ j hp
              rw [Nat.zero_add] at hca hcp
              have HCA := Lib.hid (mvc HR.out hca)
              have HCP := Lib.hid (mvc HR.out hcp)
              have HPQ := Lib.hid hpp
              have hcnt := hcP p (List.mem_of_getElem? hp)
              have HSU := Lib.hid (fun W (hW : Below wr.heap.size wr W) => subR_any TT oT nT cT HNT.out Q _ p _ W (Nat.lt_succ_self _) hcnt (fun k hk => Nat.lt_of_lt_of_le (HQ1.out k hk).1 (stepB HR.out hW (Nat.le_refl _)).size) (HPQ.out.below (stepB HR.out hW (Nat.le_refl _))) (HVTP.out.below (stepB HR.out hW (Nat.le_refl _))))
              have HAS := Lib.hid (fun (u : Value) W (hW : Below wr.heap.size wr W) (hu : IsY W (subY TT p) u) => assignR_any s a (subY TT p) _ _ u W W (HVS.out.below (stepB HR.out hW (Nat.le_refl _))) (haa.below (stepB HR.out hW (Nat.le_refl _))) hu (Below.refl _ _))
              have HWA : Hid (wA s TT a p = !assignS s a (subY TT p)) := rfl
              generalize assignS s a (subY TT p) = AB at *
              clear hca hcp haa hpp ha hp hcnt
              have f0 := c0 0
              have f1 := c0 1
              have f2 := c0 2
              have f3 := c0 3
              have f4 := c0 4
              have f5 := c1 2
              have f6 := at0 (HCA.out 0 _ rfl)
              have f7 := atS (HCA.out 1 _ rfl)
              have f8 := atS (HCA.out 2 _ rfl)
              have f9 := atS (HCA.out 3 _ rfl)
              have f10 := atS (HCA.out 4 _ rfl)
              have f11 := at0 (HCP.out 0 _ rfl)
              have f12 := atS (HCP.out 1 _ rfl)
              have f13 := atS (HCP.out 2 _ rfl)
              have f14 := atS (HCP.out 3 _ rfl)
              have f15 := atS (HCP.out 4 _ rfl)
              simp only [List.getElem?_toArray, List.getElem?_cons_zero, List.getElem?_cons_succ] at f0 f1 f2 f3 f4 f5
              have q0 := f0
              have q1 := f1
              have q2 := f2
              have q3 := f3
              have q4 := f4
              have q5 := f5
              have q6 := f6
              have q7 := f7
              have q8 := f8
              have q9 := f9
              have q10 := f10
              have q11 := f11
              have q12 := f12
              have q13 := f13
              have q14 := f14
              have q15 := f15
              have KB := Lib.hid (Below.refl wr.heap.size wr)
              go_wp2_with fail
              go_region_held3 (fun w' => w'.cell? ⟨w.heap.size, 0, none⟩ = some (.slice o nW k) ∧ w'.cell? ⟨w.heap.size, 1, none⟩ = some (.slice o1 n1 k1) ∧ w'.cell? ⟨w.heap.size, 2, none⟩ = some (.slice o2 n2 k2') ∧ w'.cell? ⟨w.heap.size, 3, none⟩ = some (.slice o3 nb k3) ∧ w'.cell? ⟨w.heap.size, 4, none⟩ = some (.slice o4 n4 k4) ∧ w'.cell? ⟨w.heap.size + 1, 2, none⟩ = some (.slice (some aP) nA kP) ∧ w'.cell? (aA.add (j * 5)) = some x0 ∧ w'.cell? ⟨(aA.add (j * 5)).block, (aA.add (j * 5)).off + 1, none⟩ = some x1 ∧ w'.cell? ⟨(aA.add (j * 5)).block, (aA.add (j * 5)).off + 2, none⟩ = some x2 ∧ w'.cell? ⟨(aA.add (j * 5)).block, (aA.add (j * 5)).off + 3, none⟩ = some x3 ∧ w'.cell? ⟨(aA.add (j * 5)).block, (aA.add (j * 5)).off + 4, none⟩ = some x4 ∧ w'.cell? (aP.add (j * 5)) = some y0 ∧ w'.cell? ⟨(aP.add (j * 5)).block, (aP.add (j * 5)).off + 1, none⟩ = some y1 ∧ w'.cell? ⟨(aP.add (j * 5)).block, (aP.add (j * 5)).off + 2, none⟩ = some y2 ∧ w'.cell? ⟨(aP.add (j * 5)).block, (aP.add (j * 5)).off + 3, none⟩ = some y3 ∧ w'.cell? ⟨(aP.add (j * 5)).block, (aP.add (j * 5)).off + 4, none⟩ = some y4)
                (refine ⟨?_, ?_, ?_, ?_, ?_, ?_, ?_, ?_, ?_, ?_, ?_, ?_, ?_, ?_, ?_, ?_⟩ <;> (repeat (first | with_reducible assumption | with_reducible refine keepD1 ?_ | with_reducible refine keepA1 ?_)))
                ((first
                  | (go_at_call 34; refine (HSU.out _ (by first | exact KB.out | exact KB.out.drew)).mono ?_; rintro e w4 ⟨pu, rfl, hpu, hb4⟩; have HPU := Lib.hid hpu.toY; clear hpu; have kb : Below wr.heap.size wr w4 := (by first | with_reducible exact stepB KB.out hb4 (Nat.le_refl _) | with_reducible exact stepB KB.out.drew hb4 (Nat.le_refl _)); clear KB hb4 q0 q1 q2 q3 q4 q5 q6 q7 q8 q9 q10 q11 q12 q13 q14 q15; have KB := Lib.hid kb; clear kb; have q0 := (KB.out.cell (World.block_lt_of_cell? _ _ f0)).trans f0; have q1 := (KB.out.cell (World.block_lt_of_cell? _ _ f1)).trans f1; have q2 := (KB.out.cell (World.block_lt_of_cell? _ _ f2)).trans f2; have q3 := (KB.out.cell (World.block_lt_of_cell? _ _ f3)).trans f3; have q4 := (KB.out.cell (World.block_lt_of_cell? _ _ f4)).trans f4; have q5 := (KB.out.cell (World.block_lt_of_cell? _ _ f5)).trans f5; have q6 := (KB.out.cell (World.block_lt_of_cell? _ _ f6)).trans f6; have q7 := (KB.out.cell (World.block_lt_of_cell? _ _ f7)).trans f7; have q8 := (KB.out.cell (World.block_lt_of_cell? _ _ f8)).trans f8; have q9 := (KB.out.cell (World.block_lt_of_cell? _ _ f9)).trans f9; have q10 := (KB.out.cell (World.block_lt_of_cell? _ _ f10)).trans f10; have q11 := (KB.out.cell (World.block_lt_of_cell? _ _ f11)).trans f11; have q12 := (KB.out.cell (World.block_lt_of_cell? _ _ f12)).trans f12; have q13 := (KB.out.cell (World.block_lt_of_cell? _ _ f13)).trans f13; have q14 := (KB.out.cell (World.block_lt_of_cell? _ _ f14)).trans f14; have q15 := (KB.out.cell (World.block_lt_of_cell? _ _ f15)).trans f15)
                  | (go_at_call 33; refine (HAS.out _ _ (by first | exact KB.out | exact KB.out.drew) HPU.out).mono ?_; rintro e w5 ⟨rfl, hb4⟩; have kb : Below wr.heap.size wr w5 := (by first | with_reducible exact stepB KB.out hb4 (Nat.le_refl _) | with_reducible exact stepB KB.out.drew hb4 (Nat.le_refl _)); clear KB hb4 q0 q1 q2 q3 q4 q5 q6 q7 q8 q9 q10 q11 q12 q13 q14 q15; have KB := Lib.hid kb; clear kb; have q0 := (KB.out.cell (World.block_lt_of_cell? _ _ f0)).trans f0; have q1 := (KB.out.cell (World.block_lt_of_cell? _ _ f1)).trans f1; have q2 := (KB.out.cell (World.block_lt_of_cell? _ _ f2)).trans f2; have q3 := (KB.out.cell (World.block_lt_of_cell? _ _ f3)).trans f3; have q4 := (KB.out.cell (World.block_lt_of_cell? _ _ f4)).trans f4; have q5 := (KB.out.cell (World.block_lt_of_cell? _ _ f5)).trans f5; have q6 := (KB.out.cell (World.block_lt_of_cell? _ _ f6)).trans f6; have q7 := (KB.out.cell (World.block_lt_of_cell? _ _ f7)).trans f7; have q8 := (KB.out.cell (World.block_lt_of_cell? _ _ f8)).trans f8; have q9 := (KB.out.cell (World.block_lt_of_cell? _ _ f9)).trans f9; have q10 := (KB.out.cell (World.block_lt_of_cell? _ _ f10)).trans f10; have q11 := (KB.out.cell (World.block_lt_of_cell? _ _ f11)).trans f11; have q12 := (KB.out.cell (World.block_lt_of_cell? _ _ f12)).trans f12; have q13 := (KB.out.cell (World.block_lt_of_cell? _ _ f13)).trans f13; have q14 := (KB.out.cell (World.block_lt_of_cell? _ _ f14)).trans f14; have q15 := (KB.out.cell (World.block_lt_of_cell? _ _ f15)).trans f15)))
              clear f0 q0 f1 q1 f2 q2 f3 q3 f4 q4 f5 q5 f6 q6 f7 q7 f8 q8 f9 q9 f10 q10 f11 q11 f12 q12 f13 q13 f14 q14 f15 q15
              have hbw : Below wr.heap.size wr w5 := KB.out
              have HR5 := Lib.hid (stepB HR.out hbw (Nat.le_refl _))
              have HRE5 := Lib.hid (RowQ.below keepW HRE.out hbw)
              have hsz5 : V.heap.size ≤ w5.heap.size := HR5.out.size
              clear KB hbw HSZ HCA HCP HSU HAS HPU HPQ
              have HSZ := Lib.hid hsz5
              cases AB with
              | true =>
                have HE2 : Hid (es ++ errA s TT (j + 1) (A.drop (j + 1)) (P.drop (j + 1)) = callE s B P A) := by
                  have e := HE.out
                  rw [HED.out, if_neg (by rw [HWA.out]; simp)] at e
                  exact e
                clear HED HE HWA
                go_wp2
                case roundEnd => exact ⟨⟨j + 1, m, oe, ce, es, rfl, by push_cast; rfl, hj, hj', (by show m ≤ _; omega), HE2, HRE5, HR5⟩, by simp [RowKit.intOf]; omega⟩
              | false =>
                have HE2 : Hid ((es ++ [((j : Int), 11)]) ++ errA s TT (j + 1) (A.drop (j + 1)) (P.drop (j + 1)) = callE s B P A) := by
                  have e := HE.out
                  rw [HED.out, if_pos (by rw [HWA.out]; rfl)] at e
                  show _ = _
                  rw [← e]; simp
                clear HED HE HWA
                go_upto_region 19 with fail
                go_wp2_with (first
                  | (refine boxRow1 39 51 2 (.agg #[.int .i64 0, .int .i64 0]) Try.underlying39 (by kernel_rfl) rfl (by decide) rfl _ rfl [.int .i64 ((j : Int)), .int .i64 (11)] rfl rfl ?_)
                  | (refine rowE_append rfl _ _ rfl V.heap.size m ce oe es ((j : Int), 11) rfl rfl HRE5.out (by omega) (by first | exact HSZ.out | omega) ?_; intro o9 c9 w9 hr9 hb9; have HR9 := Lib.hid hr9; have HB9 := Lib.hid hb9; clear hr9 hb9))
                case roundEnd => exact ⟨⟨j + 1, m + 1, o9, c9, _, rfl, by push_cast; rfl, hj, hj', (by show m + 1 ≤ _; omega), HE2, HR9, HR5.out.trans (HB9.out.mono (Nat.le_refl _))⟩, by simp [RowKit.intOf]; omega⟩
            · have hj2 : ¬ ((j : Int) < (nA : Int)) := by omega
              have HTOT : Hid (es = callE s B P A) := by
                have e := HE.out
                rw [errA_end (.inr (by rw [HNP.out]; omega)), List.append_nil] at e
                exact e
              have HR2 := HR
              have HRE2 := HRE
              clear hj' HE hsz hm
              exact (hj2 hj1).elim
          · have hj1 : ¬ ((j : Int) < (nA : Int)) := by omega
            have HTOT : Hid (es = callE s B P A) := by
              have e := HE.out
              rw [errA_end (.inl (by rw [HNA.out]; omega)), List.append_nil] at e
              exact e
            have HR2 := HR
            have HRE2 := HRE
            clear hj HE hsz hm
            have HFN := Lib.hid (subR_any TT oT nT cT HNT.out Q _ Rr _ wr (Nat.lt_succ_self _) hcR (fun k hk => Nat.lt_of_lt_of_le (HQ1.out k hk).1 HR2.out.size) (HVRP.out.below HR2.out) (HVTP.out.below HR2.out))
            have HFZ := Lib.hid HR2.out
            have HFE := Lib.hid HRE2.out
            go_wp2_with fail
            refine HFN.out.mono ?_
            rintro e X ⟨ru, rfl, hru, hbX⟩
            obtain ⟨za, zn, zp, zq, zz, ze, zk, rfl⟩ := hru.toY.expl
            have HRU := Lib.hid hru
            have hX := stepB HFZ.out hbX (Nat.le_refl _)
            have hXW := stepB HVW.out hX (Nat.le_refl _)
            have kx := HBX.out.at_ hXW 2 rfl
            have c4 : ∀ i, X.cell? ⟨w.heap.size + 1 + 1, i, none⟩ = _ := kx.cell
            have f4 : ∀ i, X.frozen? ⟨w.heap.size + 1 + 1, i, none⟩ = false := kx.frozen
            have HX := Lib.hid hX
            have HXW := Lib.hid (HBX.out.below hXW)
            have HEX := Lib.hid (RowQ.below keepW HFE.out hbX)
            have hlt : w.heap.size + 1 + 1 < wr.heap.size := (HBX.out.at_ (stepB HVW.out HFZ.out (Nat.le_refl _)) 2 rfl).lt
            have HLT := Lib.hid hlt
            clear hbX hX hXW kx hlt hru
            go_wp2
            refine bodyPost_ret (v := .tuple #[.agg #[.int .i64 za, .string zp, .string zq, .int .i64 zn, .slice zz ze zk], .slice oe m ce]) (by simp [results, Try.results18, go_sem, c4]) rfl ?_
            refine ⟨_, _, rfl, ?_, ?_, below5 HXW.out (by omega) _ _ _ _ _⟩
            · have hk : ∀ (a : Addr) (u : Value), (Q a.block ∨ wr.heap.size ≤ a.block) → X.cell? a = some u → (((((X.setCell ⟨w.heap.size + 1 + 1, 0, none⟩ (.int .i64 za)).setCell ⟨w.heap.size + 1 + 1, 1, none⟩ (.string zp)).setCell ⟨w.heap.size + 1 + 1, 2, none⟩ (.string zq)).setCell ⟨w.heap.size + 1 + 1, 3, none⟩ (.int .i64 zn)).setCell ⟨w.heap.size + 1 + 1, 4, none⟩ (.slice zz ze zk)).cell? a = some u := fun a u ha hc => by
                have hne : ¬ a.block = w.heap.size + 1 + 1 := by
                  rcases ha with ha | ha
                  · exact (HQ1.out _ ha).2
                  · have := HLT.out; omega
                exact far1 (far1 (far1 (far1 (far1 hc hne) hne) hne) hne) hne
              rw [HCT.out]
              exact (IsYP.keep (P' := fun _ => True) (fun _ _ _ _ => trivial) hk HRU.out).toY
            · have hE := HTOT.out
              rw [← hE]
              exact (RowE.farC5 HEX.out (by have := HVL.out; omega) _ _ _ _ _).es
  · have hnI : ¬ ((nA : Int) = (nP : Int)) := by omega
    have hE1 : errC P A = [(-1, 12)] := if_neg (by rw [HNA.out, HNP.out]; exact hnn)
    have HE0 : Hid ([(-1, 12)] = errC P A) := hE1.symm
    have HST : Hid (([] ++ [(-1, 12)]) ++ errB s (B.drop 0) (TT.drop 0) = [(-1, 12)] ++ errB s B TT) := by show _ = _; rw [List.drop_zero, List.drop_zero, List.nil_append]
    have HM0 : Hid (1 ≤ 1 + 0) := by show _ ≤ _; omega
    clear hE1 hnn HR0
    go_upto_region 4 with fail
    go_wp2_with (first
      | (refine boxRow1 39 51 2 (.agg #[.int .i64 0, .int .i64 0]) Try.underlying39 (by kernel_rfl) rfl (by decide) rfl _ rfl [.int .i64 (-1), .int .i64 (12)] rfl rfl ?_)
      | (refine rowE_append rfl _ _ rfl V.heap.size 0 0 none [] (-1, 12) rfl rfl HRE0.out (by omega) (by first | exact HSZ.out | omega) ?_; intro o9 c9 w9 hr9 hb9; have HR9 := Lib.hid hr9; have HB9 := Lib.hid hb9; clear hr9 hb9))
    clear HRE0 hnI HSZ
    have HB0 := Lib.hid (Nat.zero_le nB)
    have HT0 := Lib.hid (Nat.zero_le nT)
    go_loopw [9, 10] (fun v i wr => ∃ (j m : Nat) (oe : Option Addr) (ce : Nat) (es : List (Int × Int)), v = .slice oe m ce ∧ i = .int .i64 (j : Nat) ∧ Hid (j ≤ nB) ∧ Hid (j ≤ nT) ∧ Hid (m ≤ 1 + j) ∧ Hid (es ++ errB s (B.drop j) (TT.drop j) = [(-1, 12)] ++ errB s B TT) ∧ Hid (RowE wr V.heap.size oe m ce es) ∧ Hid (Below V.heap.size V wr)) (fun _ i _ => nB - (RowKit.intOf i).toNat)
    case atStart => exact ⟨0, 1, o9, c9, _, rfl, rfl, HB0, HT0, HM0, HST, HR9, HB9⟩
    case round =>
      clear HST HR9 HB9 HM0 c0 c1
      obtain ⟨j, m, oe, ce, es, rfl, rfl, HJ, HJ', HM, HE, HRE, HR⟩ := hrel
      clear HB0 HT0
      have hsz : V.heap.size ≤ wr.heap.size := HR.out.size
      have HSZ := Lib.hid hsz
      have hm := HM.out
      have kk0 := HBX.out.at_ (stepB HVW.out HR.out (Nat.le_refl _)) 0 rfl
      have kk1 := HBX.out.at_ (stepB HVW.out HR.out (Nat.le_refl _)) 1 rfl
      have c0 := kk0.cell
      rw [Nat.add_zero] at c0
      have c1 := kk1.cell
      by_cases hj : j < nB
      · have hj1 : ((j : Int) < (nB : Int)) := by omega
        have hj0 : (0 : Int) ≤ (j : Int) := by omega
        have hwj := IntWalk.i64_in ((j : Int) + 1) ⟨by omega, by omega⟩
        by_cases hj' : j < nT
        · have hj2 : ((j : Int) < (nT : Int)) := by omega
          obtain ⟨b, hb⟩ : ∃ b, B[j]? = some b := ⟨_, List.getElem?_eq_getElem (by rw [HNB.out]; exact hj)⟩
          obtain ⟨t, ht⟩ : ∃ t, TT[j]? = some t := ⟨_, List.getElem?_eq_getElem (by rw [HNT.out]; exact hj')⟩
          have HED := Lib.hid (errB_drop (s := s) hb ht)
          obtain ⟨aB, x0, x1, x2, x3, x4, rfl, hcb, hbb⟩ := HVB.out.at_ j hb
          obtain ⟨aT, y0, y1, y2, y3, y4, rfl, hct, htt⟩ := HVT.out.at_ j ht
          rw [Nat.zero_add] at hcb hct
          obtain ⟨bk, bp, bm, bi, bl⟩ := b
          obtain ⟨tk, tp, tm, ti, tl⟩ := t
          obtain ⟨bo, bc, he, _⟩ := hbb.parts
          simp only [Value.agg.injEq, Array.mk.injEq, List.cons.injEq, and_true] at he
          obtain ⟨rfl, rfl, rfl, rfl, rfl⟩ := he
          obtain ⟨tto, tc, he, _⟩ := htt.parts
          simp only [Value.agg.injEq, Array.mk.injEq, List.cons.injEq, and_true] at he
          obtain ⟨rfl, rfl, rfl, rfl, rfl⟩ := he
          have HCB := Lib.hid (mvc HR.out hcb)
          have HCT := Lib.hid (mvc HR.out hct)
          have et0 := at0 (HCT.out 0 _ rfl)
          have eb0 := at0 (HCB.out 0 _ rfl)
          have HME := Lib.hid (fun W (hW : Below wr.heap.size wr W) => meetsR_any s _ _ _ _ _ V W HVS.out htt hbb (stepB HR.out hW (Nat.le_refl _)))
          clear hcb hct hbb htt hb ht
          by_cases ht0 : tk = 0
          · subst ht0
            have HE2 : Hid ((es ++ [(-1, 15)]) ++ errB s (B.drop (j + 1)) (TT.drop (j + 1)) = [(-1, 12)] ++ errB s B TT) := by
              have e := HE.out
              rw [HED.out, if_pos (show wB s (.mk bk bp bm bi bl) (.mk 0 tp tm ti tl) = true from rfl)] at e
              show _ = _
              rw [← e]; simp
            clear HED HME HE
            go_upto_region 13 with fail
            go_wp2_with (first
              | (refine boxRow1 39 51 2 (.agg #[.int .i64 0, .int .i64 0]) Try.underlying39 (by kernel_rfl) rfl (by decide) rfl _ rfl [.int .i64 (-1), .int .i64 (15)] rfl rfl ?_)
              | (refine rowE_append rfl _ _ rfl V.heap.size m ce oe es (-1, 15) rfl rfl HRE.out (by omega) (by first | exact HSZ.out | omega) ?_; intro o9 c9 w9 hr9 hb9; have HR9 := Lib.hid hr9; have HB9 := Lib.hid hb9; clear hr9 hb9))
            case roundEnd => exact ⟨⟨j + 1, m + 1, o9, c9, _, rfl, by push_cast; rfl, hj, hj', (by show m + 1 ≤ _; omega), HE2, HR9, HR.out.trans (HB9.out.mono (Nat.le_refl _))⟩, by simp [RowKit.intOf]; omega⟩
          have et : (tk == 0) = false := beq_eq_false_iff_ne.2 ht0
          by_cases hb0 : bk = 0
          · subst hb0
            have HE2 : Hid (es ++ errB s (B.drop (j + 1)) (TT.drop (j + 1)) = [(-1, 12)] ++ errB s B TT) := by
              have e := HE.out
              rw [HED.out, if_neg (by show ¬ ((decide (tk = 0) || (!decide ((0 : Int) = 0) && _)) = true); rw [decide_eq_false ht0]; simp)] at e
              exact e
            clear HED HME HE ht0
            go_wp2
            case roundEnd => exact ⟨⟨j + 1, m, oe, ce, es, rfl, by push_cast; rfl, hj, hj', (by show m ≤ _; omega), HE2, HRE, HR⟩, by simp [RowKit.intOf]; omega⟩
          have ebk : (bk != 0) = true := by simpa using hb0
          have HWB : Hid (wB s (.mk bk bp bm bi bl) (.mk tk tp tm ti tl) = !meetsS s (.mk tk tp tm ti tl) (.mk bk bp bm bi bl)) := by
            show (decide (tk = 0) || (!decide (bk = 0) && _)) = _
            rw [decide_eq_false ht0, decide_eq_false hb0]; rfl
          generalize meetsS s (.mk tk tp tm ti tl) (.mk bk bp bm bi bl) = MB at *
          clear ht0 hb0
          go_wp2_with fail
          refine wp_region_still_tail 10 (by kernel_rfl) (by kernel_rfl) ?_
          simp only [List.take_succ_cons, List.take_zero, List.drop_succ_cons, List.drop_zero]
          iterate 4 still_step
          refine stillLoadG 34 5 size5 Try.underlying34 rfl _ rfl (aT.add (j * 5)) rfl HCT.out rfl ?_
          iterate 4 still_step
          refine stillLoadG 34 5 size5 Try.underlying34 rfl _ rfl (aB.add (j * 5)) rfl HCB.out rfl ?_
          refine wpStill_nil ?_
          change wpList _ _ _ _ _ wr.drew
          go_wp2_with fail
          refine (HME.out _ (Below.refl _ _).drew).mono ?_
          rintro e w5 ⟨rfl, hb5⟩
          have hbw : Below wr.heap.size wr w5 := (Below.refl _ _).drew.trans hb5
          have HR5 := Lib.hid (stepB HR.out hbw (Nat.le_refl _))
          have HRE5 := Lib.hid (RowQ.below keepW HRE.out hbw)
          have hsz5 : V.heap.size ≤ w5.heap.size := HR5.out.size
          clear hb5 hbw HSZ HCB HCT et0 eb0 HME
          have HSZ := Lib.hid hsz5
          cases MB with
          | true =>
            have HE2 : Hid (es ++ errB s (B.drop (j + 1)) (TT.drop (j + 1)) = [(-1, 12)] ++ errB s B TT) := by
              have e := HE.out
              rw [HED.out, if_neg (by rw [HWB.out]; simp)] at e
              exact e
            clear HED HE HWB
            go_wp2
            case roundEnd => exact ⟨⟨j + 1, m, oe, ce, es, rfl, by push_cast; rfl, hj, hj', (by show m ≤ _; omega), HE2, HRE5, HR5⟩, by simp [RowKit.intOf]; omega⟩
          | false =>
            have HE2 : Hid ((es ++ [(-1, 15)]) ++ errB s (B.drop (j + 1)) (TT.drop (j + 1)) = [(-1, 12)] ++ errB s B TT) := by
              have e := HE.out
              rw [HED.out, if_pos (by rw [HWB.out]; rfl)] at e
              show _ = _
              rw [← e]; simp
            clear HED HE HWB
            go_upto_region 13 with fail
            go_wp2_with (first
              | (refine boxRow1 39 51 2 (.agg #[.int .i64 0, .int .i64 0]) Try.underlying39 (by kernel_rfl) rfl (by decide) rfl _ rfl [.int .i64 (-1), .int .i64 (15)] rfl rfl ?_)
              | (refine rowE_append rfl _ _ rfl V.heap.size m ce oe es (-1, 15) rfl rfl HRE5.out (by omega) (by first | exact HSZ.out | omega) ?_; intro o9 c9 w9 hr9 hb9; have HR9 := Lib.hid hr9; have HB9 := Lib.hid hb9; clear hr9 hb9))
            case roundEnd => exact ⟨⟨j + 1, m + 1, o9, c9, _, rfl, by push_cast; rfl, hj, hj', (by show m + 1 ≤ _; omega), HE2, HR9, HR5.out.trans (HB9.out.mono (Nat.le_refl _))⟩, by simp [RowKit.intOf]; omega⟩
        · have hj2 : ¬ ((j : Int) < (nT : Int)) := by omega
          have HE2 : Hid (es = [(-1, 12)] ++ errB s B TT) := by
            have e := HE.out
            rw [errB_end (.inr (by rw [HNT.out]; omega)), List.append_nil] at e
            exact e
          clear hj' HE
          have HTOT0 : Hid (es ++ errA s TT 0 (A.drop 0) (P.drop 0) = callE s B P A) := by
            show _ = _
            rw [HE2.out, List.drop_zero, List.drop_zero, HE0.out]
            exact HCE.out
          have HZA := Lib.hid (Nat.zero_le nA)
          have HZP := Lib.hid (Nat.zero_le nP)
          have HM21 : Hid (m ≤ 21 + 0) := by have := HJ.out; show _ ≤ _; omega
          clear hm kk0 kk1 hsz
          go_wp2
          go_loopw [9, 13] (fun v i wr => ∃ (j m : Nat) (oe : Option Addr) (ce : Nat) (es : List (Int × Int)), v = .slice oe m ce ∧ i = .int .i64 (j : Nat) ∧ Hid (j ≤ nA) ∧ Hid (j ≤ nP) ∧ Hid (m ≤ 21 + j) ∧ Hid (es ++ errA s TT j (A.drop j) (P.drop j) = callE s B P A) ∧ Hid (RowE wr V.heap.size oe m ce es) ∧ Hid (Below V.heap.size V wr)) (fun _ i _ => nA - (RowKit.intOf i).toNat)
          case atStart => exact ⟨0, m, oe, ce, es, rfl, rfl, HZA, HZP, HM21, HTOT0, HRE, HR⟩
          case round =>
            clear HE2 HM21 HTOT0 HRE HR HM HSZ HJ HJ' c0 c1
            obtain ⟨j, m, oe, ce, es, rfl, rfl, HJ, HJ', HM, HE, HRE, HR⟩ := hrel
            clear HZA HZP
            have hsz : V.heap.size ≤ wr.heap.size := HR.out.size
            have HSZ := Lib.hid hsz
            have hm := HM.out
            have kk0 := HBX.out.at_ (stepB HVW.out HR.out (Nat.le_refl _)) 0 rfl
            have kk1 := HBX.out.at_ (stepB HVW.out HR.out (Nat.le_refl _)) 1 rfl
            have c0 := kk0.cell
            rw [Nat.add_zero] at c0
            have c1 := kk1.cell
            by_cases hj : j < nA
            · have hj1 : ((j : Int) < (nA : Int)) := by omega
              have hj0 : (0 : Int) ≤ (j : Int) := by omega
              have hwj := IntWalk.i64_in ((j : Int) + 1) ⟨by omega, by omega⟩
              by_cases hj' : j < nP
              · have hj2 : ((j : Int) < (nP : Int)) := by omega
                obtain ⟨a, ha⟩ : ∃ a, A[j]? = some a := ⟨_, List.getElem?_eq_getElem (by rw [HNA.out]; exact hj)⟩
                obtain ⟨p, hp⟩ : ∃ p, P[j]? = some p := ⟨_, List.getElem?_eq_getElem (by rw [HNP.out]; exact hj')⟩
                have HED := Lib.hid (errA_drop (s := s) (ts := TT) ha hp)
                obtain ⟨aA, x0, x1, x2, x3, x4, rfl, hca, haa⟩ := HVA.out.at_ j ha
                obtain ⟨aP, y0, y1, y2, y3, y4, rfl, hcp, hpp⟩ := HVPP.out.at_ j hp
                rw [Nat.zero_add] at hca hcp
                have HCA := Lib.hid (mvc HR.out hca)
                have HCP := Lib.hid (mvc HR.out hcp)
                have HPQ := Lib.hid hpp
                have hcnt := hcP p (List.mem_of_getElem? hp)
                have HSU := Lib.hid (fun W (hW : Below wr.heap.size wr W) => subR_any TT oT nT cT HNT.out Q _ p _ W (Nat.lt_succ_self _) hcnt (fun k hk => Nat.lt_of_lt_of_le (HQ1.out k hk).1 (stepB HR.out hW (Nat.le_refl _)).size) (HPQ.out.below (stepB HR.out hW (Nat.le_refl _))) (HVTP.out.below (stepB HR.out hW (Nat.le_refl _))))
                have HAS := Lib.hid (fun (u : Value) W (hW : Below wr.heap.size wr W) (hu : IsY W (subY TT p) u) => assignR_any s a (subY TT p) _ _ u W W (HVS.out.below (stepB HR.out hW (Nat.le_refl _))) (haa.below (stepB HR.out hW (Nat.le_refl _))) hu (Below.refl _ _))
                have HWA : Hid (wA s TT a p = !assignS s a (subY TT p)) := rfl
                generalize assignS s a (subY TT p) = AB at *
                clear hca hcp haa hpp ha hp hcnt
                have f0 := c0 0
                have f1 := c0 1
                have f2 := c0 2
                have f3 := c0 3
                have f4 := c0 4
                have f5 := c1 2
                have f6 := at0 (HCA.out 0 _ rfl)
                have f7 := atS (HCA.out 1 _ rfl)
                have f8 := atS (HCA.out 2 _ rfl)
                have f9 := atS (HCA.out 3 _ rfl)
                have f10 := atS (HCA.out 4 _ rfl)
                have f11 := at0 (HCP.out 0 _ rfl)
                have f12 := atS (HCP.out 1 _ rfl)
                have f13 := atS (HCP.out 2 _ rfl)
                have f14 := atS (HCP.out 3 _ rfl)
                have f15 := atS (HCP.out 4 _ rfl)
                simp only [List.getElem?_toArray, List.getElem?_cons_zero, List.getElem?_cons_succ] at f0 f1 f2 f3 f4 f5
                have q0 := f0
                have q1 := f1
                have q2 := f2
                have q3 := f3
                have q4 := f4
                have q5 := f5
                have q6 := f6
                have q7 := f7
                have q8 := f8
                have q9 := f9
                have q10 := f10
                have q11 := f11
                have q12 := f12
                have q13 := f13
                have q14 := f14
                have q15 := f15
                have KB := Lib.hid (Below.refl wr.heap.size wr)
                go_wp2_with fail
                go_region_held3 (fun w' => w'.cell? ⟨w.heap.size, 0, none⟩ = some (.slice o nW k) ∧ w'.cell? ⟨w.heap.size, 1, none⟩ = some (.slice o1 n1 k1) ∧ w'.cell? ⟨w.heap.size, 2, none⟩ = some (.slice o2 n2 k2') ∧ w'.cell? ⟨w.heap.size, 3, none⟩ = some (.slice o3 nb k3) ∧ w'.cell? ⟨w.heap.size, 4, none⟩ = some (.slice o4 n4 k4) ∧ w'.cell? ⟨w.heap.size + 1, 2, none⟩ = some (.slice (some aP) nP kP) ∧ w'.cell? (aA.add (j * 5)) = some x0 ∧ w'.cell? ⟨(aA.add (j * 5)).block, (aA.add (j * 5)).off + 1, none⟩ = some x1 ∧ w'.cell? ⟨(aA.add (j * 5)).block, (aA.add (j * 5)).off + 2, none⟩ = some x2 ∧ w'.cell? ⟨(aA.add (j * 5)).block, (aA.add (j * 5)).off + 3, none⟩ = some x3 ∧ w'.cell? ⟨(aA.add (j * 5)).block, (aA.add (j * 5)).off + 4, none⟩ = some x4 ∧ w'.cell? (aP.add (j * 5)) = some y0 ∧ w'.cell? ⟨(aP.add (j * 5)).block, (aP.add (j * 5)).off + 1, none⟩ = some y1 ∧ w'.cell? ⟨(aP.add (j * 5)).block, (aP.add (j * 5)).off + 2, none⟩ = some y2 ∧ w'.cell? ⟨(aP.add (j * 5)).block, (aP.add (j * 5)).off + 3, none⟩ = some y3 ∧ w'.cell? ⟨(aP.add (j * 5)).block, (aP.add (j * 5)).off + 4, none⟩ = some y4)
                  (refine ⟨?_, ?_, ?_, ?_, ?_, ?_, ?_, ?_, ?_, ?_, ?_, ?_, ?_, ?_, ?_, ?_⟩ <;> (repeat (first | with_reducible assumption | with_reducible refine keepD1 ?_ | with_reducible refine keepA1 ?_)))
                  ((first
                    | (go_at_call 34; refine (HSU.out _ (by first | exact KB.out | exact KB.out.drew)).mono ?_; rintro e w4 ⟨pu, rfl, hpu, hb4⟩; have HPU := Lib.hid hpu.toY; clear hpu; have kb : Below wr.heap.size wr w4 := (by first | with_reducible exact stepB KB.out hb4 (Nat.le_refl _) | with_reducible exact stepB KB.out.drew hb4 (Nat.le_refl _)); clear KB hb4 q0 q1 q2 q3 q4 q5 q6 q7 q8 q9 q10 q11 q12 q13 q14 q15; have KB := Lib.hid kb; clear kb; have q0 := (KB.out.cell (World.block_lt_of_cell? _ _ f0)).trans f0; have q1 := (KB.out.cell (World.block_lt_of_cell? _ _ f1)).trans f1; have q2 := (KB.out.cell (World.block_lt_of_cell? _ _ f2)).trans f2; have q3 := (KB.out.cell (World.block_lt_of_cell? _ _ f3)).trans f3; have q4 := (KB.out.cell (World.block_lt_of_cell? _ _ f4)).trans f4; have q5 := (KB.out.cell (World.block_lt_of_cell? _ _ f5)).trans f5; have q6 := (KB.out.cell (World.block_lt_of_cell? _ _ f6)).trans f6; have q7 := (KB.out.cell (World.block_lt_of_cell? _ _ f7)).trans f7; have q8 := (KB.out.cell (World.block_lt_of_cell? _ _ f8)).trans f8; have q9 := (KB.out.cell (World.block_lt_of_cell? _ _ f9)).trans f9; have q10 := (KB.out.cell (World.block_lt_of_cell? _ _ f10)).trans f10; have q11 := (KB.out.cell (World.block_lt_of_cell? _ _ f11)).trans f11; have q12 := (KB.out.cell (World.block_lt_of_cell? _ _ f12)).trans f12; have q13 := (KB.out.cell (World.block_lt_of_cell? _ _ f13)).trans f13; have q14 := (KB.out.cell (World.block_lt_of_cell? _ _ f14)).trans f14; have q15 := (KB.out.cell (World.block_lt_of_cell? _ _ f15)).trans f15)
                    | (go_at_call 33; refine (HAS.out _ _ (by first | exact KB.out | exact KB.out.drew) HPU.out).mono ?_; rintro e w5 ⟨rfl, hb4⟩; have kb : Below wr.heap.size wr w5 := (by first | with_reducible exact stepB KB.out hb4 (Nat.le_refl _) | with_reducible exact stepB KB.out.drew hb4 (Nat.le_refl _)); clear KB hb4 q0 q1 q2 q3 q4 q5 q6 q7 q8 q9 q10 q11 q12 q13 q14 q15; have KB := Lib.hid kb; clear kb; have q0 := (KB.out.cell (World.block_lt_of_cell? _ _ f0)).trans f0; have q1 := (KB.out.cell (World.block_lt_of_cell? _ _ f1)).trans f1; have q2 := (KB.out.cell (World.block_lt_of_cell? _ _ f2)).trans f2; have q3 := (KB.out.cell (World.block_lt_of_cell? _ _ f3)).trans f3; have q4 := (KB.out.cell (World.block_lt_of_cell? _ _ f4)).trans f4; have q5 := (KB.out.cell (World.block_lt_of_cell? _ _ f5)).trans f5; have q6 := (KB.out.cell (World.block_lt_of_cell? _ _ f6)).trans f6; have q7 := (KB.out.cell (World.block_lt_of_cell? _ _ f7)).trans f7; have q8 := (KB.out.cell (World.block_lt_of_cell? _ _ f8)).trans f8; have q9 := (KB.out.cell (World.block_lt_of_cell? _ _ f9)).trans f9; have q10 := (KB.out.cell (World.block_lt_of_cell? _ _ f10)).trans f10; have q11 := (KB.out.cell (World.block_lt_of_cell? _ _ f11)).trans f11; have q12 := (KB.out.cell (World.block_lt_of_cell? _ _ f12)).trans f12; have q13 := (KB.out.cell (World.block_lt_of_cell? _ _ f13)).trans f13; have q14 := (KB.out.cell (World.block_lt_of_cell? _ _ f14)).trans f14; have q15 := (KB.out.cell (World.block_lt_of_cell? _ _ f15)).trans f15)))
                clear f0 q0 f1 q1 f2 q2 f3 q3 f4 q4 f5 q5 f6 q6 f7 q7 f8 q8 f9 q9 f10 q10 f11 q11 f12 q12 f13 q13 f14 q14 f15 q15
                have hbw : Below wr.heap.size wr w5 := KB.out
                have HR5 := Lib.hid (stepB HR.out hbw (Nat.le_refl _))
                have HRE5 := Lib.hid (RowQ.below keepW HRE.out hbw)
                have hsz5 : V.heap.size ≤ w5.heap.size := HR5.out.size
                clear KB hbw HSZ HCA HCP HSU HAS HPU HPQ
                have HSZ := Lib.hid hsz5
                cases AB with
                | true =>
                  have HE2 : Hid (es ++ errA s TT (j + 1) (A.drop (j + 1)) (P.drop (j + 1)) = callE s B P A) := by
                    have e := HE.out
                    rw [HED.out, if_neg (by rw [HWA.out]; simp)] at e
                    exact e
                  clear HED HE HWA
                  go_wp2
                  case roundEnd => exact ⟨⟨j + 1, m, oe, ce, es, rfl, by push_cast; rfl, hj, hj', (by show m ≤ _; omega), HE2, HRE5, HR5⟩, by simp [RowKit.intOf]; omega⟩
                | false =>
                  have HE2 : Hid ((es ++ [((j : Int), 11)]) ++ errA s TT (j + 1) (A.drop (j + 1)) (P.drop (j + 1)) = callE s B P A) := by
                    have e := HE.out
                    rw [HED.out, if_pos (by rw [HWA.out]; rfl)] at e
                    show _ = _
                    rw [← e]; simp
                  clear HED HE HWA
                  go_upto_region 19 with fail
                  go_wp2_with (first
                    | (refine boxRow1 39 51 2 (.agg #[.int .i64 0, .int .i64 0]) Try.underlying39 (by kernel_rfl) rfl (by decide) rfl _ rfl [.int .i64 ((j : Int)), .int .i64 (11)] rfl rfl ?_)
                    | (refine rowE_append rfl _ _ rfl V.heap.size m ce oe es ((j : Int), 11) rfl rfl HRE5.out (by omega) (by first | exact HSZ.out | omega) ?_; intro o9 c9 w9 hr9 hb9; have HR9 := Lib.hid hr9; have HB9 := Lib.hid hb9; clear hr9 hb9))
                  case roundEnd => exact ⟨⟨j + 1, m + 1, o9, c9, _, rfl, by push_cast; rfl, hj, hj', (by show m + 1 ≤ _; omega), HE2, HR9, HR5.out.trans (HB9.out.mono (Nat.le_refl _))⟩, by simp [RowKit.intOf]; omega⟩
              · have hj2 : ¬ ((j : Int) < (nP : Int)) := by omega
                have HTOT : Hid (es = callE s B P A) := by
                  have e := HE.out
                  rw [errA_end (.inr (by rw [HNP.out]; omega)), List.append_nil] at e
                  exact e
                have HR2 := HR
                have HRE2 := HRE
                clear hj' HE hsz hm
                have HFN := Lib.hid (subR_any TT oT nT cT HNT.out Q _ Rr _ wr (Nat.lt_succ_self _) hcR (fun k hk => Nat.lt_of_lt_of_le (HQ1.out k hk).1 HR2.out.size) (HVRP.out.below HR2.out) (HVTP.out.below HR2.out))
                have HFZ := Lib.hid HR2.out
                have HFE := Lib.hid HRE2.out
                go_wp2_with fail
                refine HFN.out.mono ?_
                rintro e X ⟨ru, rfl, hru, hbX⟩
                obtain ⟨za, zn, zp, zq, zz, ze, zk, rfl⟩ := hru.toY.expl
                have HRU := Lib.hid hru
                have hX := stepB HFZ.out hbX (Nat.le_refl _)
                have hXW := stepB HVW.out hX (Nat.le_refl _)
                have kx := HBX.out.at_ hXW 2 rfl
                have c4 : ∀ i, X.cell? ⟨w.heap.size + 1 + 1, i, none⟩ = _ := kx.cell
                have f4 : ∀ i, X.frozen? ⟨w.heap.size + 1 + 1, i, none⟩ = false := kx.frozen
                have HX := Lib.hid hX
                have HXW := Lib.hid (HBX.out.below hXW)
                have HEX := Lib.hid (RowQ.below keepW HFE.out hbX)
                have hlt : w.heap.size + 1 + 1 < wr.heap.size := (HBX.out.at_ (stepB HVW.out HFZ.out (Nat.le_refl _)) 2 rfl).lt
                have HLT := Lib.hid hlt
                clear hbX hX hXW kx hlt hru
                go_wp2
                refine bodyPost_ret (v := .tuple #[.agg #[.int .i64 za, .string zp, .string zq, .int .i64 zn, .slice zz ze zk], .slice oe m ce]) (by simp [results, Try.results18, go_sem, c4]) rfl ?_
                refine ⟨_, _, rfl, ?_, ?_, below5 HXW.out (by omega) _ _ _ _ _⟩
                · have hk : ∀ (a : Addr) (u : Value), (Q a.block ∨ wr.heap.size ≤ a.block) → X.cell? a = some u → (((((X.setCell ⟨w.heap.size + 1 + 1, 0, none⟩ (.int .i64 za)).setCell ⟨w.heap.size + 1 + 1, 1, none⟩ (.string zp)).setCell ⟨w.heap.size + 1 + 1, 2, none⟩ (.string zq)).setCell ⟨w.heap.size + 1 + 1, 3, none⟩ (.int .i64 zn)).setCell ⟨w.heap.size + 1 + 1, 4, none⟩ (.slice zz ze zk)).cell? a = some u := fun a u ha hc => by
                    have hne : ¬ a.block = w.heap.size + 1 + 1 := by
                      rcases ha with ha | ha
                      · exact (HQ1.out _ ha).2
                      · have := HLT.out; omega
                    exact far1 (far1 (far1 (far1 (far1 hc hne) hne) hne) hne) hne
                  rw [HCT.out]
                  exact (IsYP.keep (P' := fun _ => True) (fun _ _ _ _ => trivial) hk HRU.out).toY
                · have hE := HTOT.out
                  rw [← hE]
                  exact (RowE.farC5 HEX.out (by have := HVL.out; omega) _ _ _ _ _).es
            · have hj1 : ¬ ((j : Int) < (nA : Int)) := by omega
              have HTOT : Hid (es = callE s B P A) := by
                have e := HE.out
                rw [errA_end (.inl (by rw [HNA.out]; omega)), List.append_nil] at e
                exact e
              have HR2 := HR
              have HRE2 := HRE
              clear hj HE hsz hm
              have HFN := Lib.hid (subR_any TT oT nT cT HNT.out Q _ Rr _ wr (Nat.lt_succ_self _) hcR (fun k hk => Nat.lt_of_lt_of_le (HQ1.out k hk).1 HR2.out.size) (HVRP.out.below HR2.out) (HVTP.out.below HR2.out))
              have HFZ := Lib.hid HR2.out
              have HFE := Lib.hid HRE2.out
              go_wp2_with fail
              refine HFN.out.mono ?_
              rintro e X ⟨ru, rfl, hru, hbX⟩
              obtain ⟨za, zn, zp, zq, zz, ze, zk, rfl⟩ := hru.toY.expl
              have HRU := Lib.hid hru
              have hX := stepB HFZ.out hbX (Nat.le_refl _)
              have hXW := stepB HVW.out hX (Nat.le_refl _)
              have kx := HBX.out.at_ hXW 2 rfl
              have c4 : ∀ i, X.cell? ⟨w.heap.size + 1 + 1, i, none⟩ = _ := kx.cell
              have f4 : ∀ i, X.frozen? ⟨w.heap.size + 1 + 1, i, none⟩ = false := kx.frozen
              have HX := Lib.hid hX
              have HXW := Lib.hid (HBX.out.below hXW)
              have HEX := Lib.hid (RowQ.below keepW HFE.out hbX)
              have hlt : w.heap.size + 1 + 1 < wr.heap.size := (HBX.out.at_ (stepB HVW.out HFZ.out (Nat.le_refl _)) 2 rfl).lt
              have HLT := Lib.hid hlt
              clear hbX hX hXW kx hlt hru
              go_wp2
              refine bodyPost_ret (v := .tuple #[.agg #[.int .i64 za, .string zp, .string zq, .int .i64 zn, .slice zz ze zk], .slice oe m ce]) (by simp [results, Try.results18, go_sem, c4]) rfl ?_
              refine ⟨_, _, rfl, ?_, ?_, below5 HXW.out (by omega) _ _ _ _ _⟩
              · have hk : ∀ (a : Addr) (u : Value), (Q a.block ∨ wr.heap.size ≤ a.block) → X.cell? a = some u → (((((X.setCell ⟨w.heap.size + 1 + 1, 0, none⟩ (.int .i64 za)).setCell ⟨w.heap.size + 1 + 1, 1, none⟩ (.string zp)).setCell ⟨w.heap.size + 1 + 1, 2, none⟩ (.string zq)).setCell ⟨w.heap.size + 1 + 1, 3, none⟩ (.int .i64 zn)).setCell ⟨w.heap.size + 1 + 1, 4, none⟩ (.slice zz ze zk)).cell? a = some u := fun a u ha hc => by
                  have hne : ¬ a.block = w.heap.size + 1 + 1 := by
                    rcases ha with ha | ha
                    · exact (HQ1.out _ ha).2
                    · have := HLT.out; omega
                  exact far1 (far1 (far1 (far1 (far1 hc hne) hne) hne) hne) hne
                rw [HCT.out]
                exact (IsYP.keep (P' := fun _ => True) (fun _ _ _ _ => trivial) hk HRU.out).toY
              · have hE := HTOT.out
                rw [← hE]
                exact (RowE.farC5 HEX.out (by have := HVL.out; omega) _ _ _ _ _).es
      · have hj1 : ¬ ((j : Int) < (nB : Int)) := by omega
        have HE2 : Hid (es = [(-1, 12)] ++ errB s B TT) := by
          have e := HE.out
          rw [errB_end (.inl (by rw [HNB.out]; omega)), List.append_nil] at e
          exact e
        clear hj HE
        have HTOT0 : Hid (es ++ errA s TT 0 (A.drop 0) (P.drop 0) = callE s B P A) := by
          show _ = _
          rw [HE2.out, List.drop_zero, List.drop_zero, HE0.out]
          exact HCE.out
        have HZA := Lib.hid (Nat.zero_le nA)
        have HZP := Lib.hid (Nat.zero_le nP)
        have HM21 : Hid (m ≤ 21 + 0) := by have := HJ.out; show _ ≤ _; omega
        clear hm kk0 kk1 hsz
        go_wp2
        go_loopw [9, 13] (fun v i wr => ∃ (j m : Nat) (oe : Option Addr) (ce : Nat) (es : List (Int × Int)), v = .slice oe m ce ∧ i = .int .i64 (j : Nat) ∧ Hid (j ≤ nA) ∧ Hid (j ≤ nP) ∧ Hid (m ≤ 21 + j) ∧ Hid (es ++ errA s TT j (A.drop j) (P.drop j) = callE s B P A) ∧ Hid (RowE wr V.heap.size oe m ce es) ∧ Hid (Below V.heap.size V wr)) (fun _ i _ => nA - (RowKit.intOf i).toNat)
        case atStart => exact ⟨0, m, oe, ce, es, rfl, rfl, HZA, HZP, HM21, HTOT0, HRE, HR⟩
        case round =>
          clear HE2 HM21 HTOT0 HRE HR HM HSZ HJ HJ' c0 c1
          obtain ⟨j, m, oe, ce, es, rfl, rfl, HJ, HJ', HM, HE, HRE, HR⟩ := hrel
          clear HZA HZP
          have hsz : V.heap.size ≤ wr.heap.size := HR.out.size
          have HSZ := Lib.hid hsz
          have hm := HM.out
          have kk0 := HBX.out.at_ (stepB HVW.out HR.out (Nat.le_refl _)) 0 rfl
          have kk1 := HBX.out.at_ (stepB HVW.out HR.out (Nat.le_refl _)) 1 rfl
          have c0 := kk0.cell
          rw [Nat.add_zero] at c0
          have c1 := kk1.cell
          by_cases hj : j < nA
          · have hj1 : ((j : Int) < (nA : Int)) := by omega
            have hj0 : (0 : Int) ≤ (j : Int) := by omega
            have hwj := IntWalk.i64_in ((j : Int) + 1) ⟨by omega, by omega⟩
            by_cases hj' : j < nP
            · have hj2 : ((j : Int) < (nP : Int)) := by omega
              obtain ⟨a, ha⟩ : ∃ a, A[j]? = some a := ⟨_, List.getElem?_eq_getElem (by rw [HNA.out]; exact hj)⟩
              obtain ⟨p, hp⟩ : ∃ p, P[j]? = some p := ⟨_, List.getElem?_eq_getElem (by rw [HNP.out]; exact hj')⟩
              have HED := Lib.hid (errA_drop (s := s) (ts := TT) ha hp)
              obtain ⟨aA, x0, x1, x2, x3, x4, rfl, hca, haa⟩ := HVA.out.at_ j ha
              obtain ⟨aP, y0, y1, y2, y3, y4, rfl, hcp, hpp⟩ := HVPP.out.at_ j hp
              rw [Nat.zero_add] at hca hcp
              have HCA := Lib.hid (mvc HR.out hca)
              have HCP := Lib.hid (mvc HR.out hcp)
              have HPQ := Lib.hid hpp
              have hcnt := hcP p (List.mem_of_getElem? hp)
              have HSU := Lib.hid (fun W (hW : Below wr.heap.size wr W) => subR_any TT oT nT cT HNT.out Q _ p _ W (Nat.lt_succ_self _) hcnt (fun k hk => Nat.lt_of_lt_of_le (HQ1.out k hk).1 (stepB HR.out hW (Nat.le_refl _)).size) (HPQ.out.below (stepB HR.out hW (Nat.le_refl _))) (HVTP.out.below (stepB HR.out hW (Nat.le_refl _))))
              have HAS := Lib.hid (fun (u : Value) W (hW : Below wr.heap.size wr W) (hu : IsY W (subY TT p) u) => assignR_any s a (subY TT p) _ _ u W W (HVS.out.below (stepB HR.out hW (Nat.le_refl _))) (haa.below (stepB HR.out hW (Nat.le_refl _))) hu (Below.refl _ _))
              have HWA : Hid (wA s TT a p = !assignS s a (subY TT p)) := rfl
              generalize assignS s a (subY TT p) = AB at *
              clear hca hcp haa hpp ha hp hcnt
              have f0 := c0 0
              have f1 := c0 1
              have f2 := c0 2
              have f3 := c0 3
              have f4 := c0 4
              have f5 := c1 2
              have f6 := at0 (HCA.out 0 _ rfl)
              have f7 := atS (HCA.out 1 _ rfl)
              have f8 := atS (HCA.out 2 _ rfl)
              have f9 := atS (HCA.out 3 _ rfl)
              have f10 := atS (HCA.out 4 _ rfl)
              have f11 := at0 (HCP.out 0 _ rfl)
              have f12 := atS (HCP.out 1 _ rfl)
              have f13 := atS (HCP.out 2 _ rfl)
              have f14 := atS (HCP.out 3 _ rfl)
              have f15 := atS (HCP.out 4 _ rfl)
              simp only [List.getElem?_toArray, List.getElem?_cons_zero, List.getElem?_cons_succ] at f0 f1 f2 f3 f4 f5
              have q0 := f0
              have q1 := f1
              have q2 := f2
              have q3 := f3
              have q4 := f4
              have q5 := f5
              have q6 := f6
              have q7 := f7
              have q8 := f8
              have q9 := f9
              have q10 := f10
              have q11 := f11
              have q12 := f12
              have q13 := f13
              have q14 := f14
              have q15 := f15
              have KB := Lib.hid (Below.refl wr.heap.size wr)
              go_wp2_with fail
              go_region_held3 (fun w' => w'.cell? ⟨w.heap.size, 0, none⟩ = some (.slice o nW k) ∧ w'.cell? ⟨w.heap.size, 1, none⟩ = some (.slice o1 n1 k1) ∧ w'.cell? ⟨w.heap.size, 2, none⟩ = some (.slice o2 n2 k2') ∧ w'.cell? ⟨w.heap.size, 3, none⟩ = some (.slice o3 nb k3) ∧ w'.cell? ⟨w.heap.size, 4, none⟩ = some (.slice o4 n4 k4) ∧ w'.cell? ⟨w.heap.size + 1, 2, none⟩ = some (.slice (some aP) nP kP) ∧ w'.cell? (aA.add (j * 5)) = some x0 ∧ w'.cell? ⟨(aA.add (j * 5)).block, (aA.add (j * 5)).off + 1, none⟩ = some x1 ∧ w'.cell? ⟨(aA.add (j * 5)).block, (aA.add (j * 5)).off + 2, none⟩ = some x2 ∧ w'.cell? ⟨(aA.add (j * 5)).block, (aA.add (j * 5)).off + 3, none⟩ = some x3 ∧ w'.cell? ⟨(aA.add (j * 5)).block, (aA.add (j * 5)).off + 4, none⟩ = some x4 ∧ w'.cell? (aP.add (j * 5)) = some y0 ∧ w'.cell? ⟨(aP.add (j * 5)).block, (aP.add (j * 5)).off + 1, none⟩ = some y1 ∧ w'.cell? ⟨(aP.add (j * 5)).block, (aP.add (j * 5)).off + 2, none⟩ = some y2 ∧ w'.cell? ⟨(aP.add (j * 5)).block, (aP.add (j * 5)).off + 3, none⟩ = some y3 ∧ w'.cell? ⟨(aP.add (j * 5)).block, (aP.add (j * 5)).off + 4, none⟩ = some y4)
                (refine ⟨?_, ?_, ?_, ?_, ?_, ?_, ?_, ?_, ?_, ?_, ?_, ?_, ?_, ?_, ?_, ?_⟩ <;> (repeat (first | with_reducible assumption | with_reducible refine keepD1 ?_ | with_reducible refine keepA1 ?_)))
                ((first
                  | (go_at_call 34; refine (HSU.out _ (by first | exact KB.out | exact KB.out.drew)).mono ?_; rintro e w4 ⟨pu, rfl, hpu, hb4⟩; have HPU := Lib.hid hpu.toY; clear hpu; have kb : Below wr.heap.size wr w4 := (by first | with_reducible exact stepB KB.out hb4 (Nat.le_refl _) | with_reducible exact stepB KB.out.drew hb4 (Nat.le_refl _)); clear KB hb4 q0 q1 q2 q3 q4 q5 q6 q7 q8 q9 q10 q11 q12 q13 q14 q15; have KB := Lib.hid kb; clear kb; have q0 := (KB.out.cell (World.block_lt_of_cell? _ _ f0)).trans f0; have q1 := (KB.out.cell (World.block_lt_of_cell? _ _ f1)).trans f1; have q2 := (KB.out.cell (World.block_lt_of_cell? _ _ f2)).trans f2; have q3 := (KB.out.cell (World.block_lt_of_cell? _ _ f3)).trans f3; have q4 := (KB.out.cell (World.block_lt_of_cell? _ _ f4)).trans f4; have q5 := (KB.out.cell (World.block_lt_of_cell? _ _ f5)).trans f5; have q6 := (KB.out.cell (World.block_lt_of_cell? _ _ f6)).trans f6; have q7 := (KB.out.cell (World.block_lt_of_cell? _ _ f7)).trans f7; have q8 := (KB.out.cell (World.block_lt_of_cell? _ _ f8)).trans f8; have q9 := (KB.out.cell (World.block_lt_of_cell? _ _ f9)).trans f9; have q10 := (KB.out.cell (World.block_lt_of_cell? _ _ f10)).trans f10; have q11 := (KB.out.cell (World.block_lt_of_cell? _ _ f11)).trans f11; have q12 := (KB.out.cell (World.block_lt_of_cell? _ _ f12)).trans f12; have q13 := (KB.out.cell (World.block_lt_of_cell? _ _ f13)).trans f13; have q14 := (KB.out.cell (World.block_lt_of_cell? _ _ f14)).trans f14; have q15 := (KB.out.cell (World.block_lt_of_cell? _ _ f15)).trans f15)
                  | (go_at_call 33; refine (HAS.out _ _ (by first | exact KB.out | exact KB.out.drew) HPU.out).mono ?_; rintro e w5 ⟨rfl, hb4⟩; have kb : Below wr.heap.size wr w5 := (by first | with_reducible exact stepB KB.out hb4 (Nat.le_refl _) | with_reducible exact stepB KB.out.drew hb4 (Nat.le_refl _)); clear KB hb4 q0 q1 q2 q3 q4 q5 q6 q7 q8 q9 q10 q11 q12 q13 q14 q15; have KB := Lib.hid kb; clear kb; have q0 := (KB.out.cell (World.block_lt_of_cell? _ _ f0)).trans f0; have q1 := (KB.out.cell (World.block_lt_of_cell? _ _ f1)).trans f1; have q2 := (KB.out.cell (World.block_lt_of_cell? _ _ f2)).trans f2; have q3 := (KB.out.cell (World.block_lt_of_cell? _ _ f3)).trans f3; have q4 := (KB.out.cell (World.block_lt_of_cell? _ _ f4)).trans f4; have q5 := (KB.out.cell (World.block_lt_of_cell? _ _ f5)).trans f5; have q6 := (KB.out.cell (World.block_lt_of_cell? _ _ f6)).trans f6; have q7 := (KB.out.cell (World.block_lt_of_cell? _ _ f7)).trans f7; have q8 := (KB.out.cell (World.block_lt_of_cell? _ _ f8)).trans f8; have q9 := (KB.out.cell (World.block_lt_of_cell? _ _ f9)).trans f9; have q10 := (KB.out.cell (World.block_lt_of_cell? _ _ f10)).trans f10; have q11 := (KB.out.cell (World.block_lt_of_cell? _ _ f11)).trans f11; have q12 := (KB.out.cell (World.block_lt_of_cell? _ _ f12)).trans f12; have q13 := (KB.out.cell (World.block_lt_of_cell? _ _ f13)).trans f13; have q14 := (KB.out.cell (World.block_lt_of_cell? _ _ f14)).trans f14; have q15 := (KB.out.cell (World.block_lt_of_cell? _ _ f15)).trans f15)))
              clear f0 q0 f1 q1 f2 q2 f3 q3 f4 q4 f5 q5 f6 q6 f7 q7 f8 q8 f9 q9 f10 q10 f11 q11 f12 q12 f13 q13 f14 q14 f15 q15
              have hbw : Below wr.heap.size wr w5 := KB.out
              have HR5 := Lib.hid (stepB HR.out hbw (Nat.le_refl _))
              have HRE5 := Lib.hid (RowQ.below keepW HRE.out hbw)
              have hsz5 : V.heap.size ≤ w5.heap.size := HR5.out.size
              clear KB hbw HSZ HCA HCP HSU HAS HPU HPQ
              have HSZ := Lib.hid hsz5
              cases AB with
              | true =>
                have HE2 : Hid (es ++ errA s TT (j + 1) (A.drop (j + 1)) (P.drop (j + 1)) = callE s B P A) := by
                  have e := HE.out
                  rw [HED.out, if_neg (by rw [HWA.out]; simp)] at e
                  exact e
                clear HED HE HWA
                go_wp2
                case roundEnd => exact ⟨⟨j + 1, m, oe, ce, es, rfl, by push_cast; rfl, hj, hj', (by show m ≤ _; omega), HE2, HRE5, HR5⟩, by simp [RowKit.intOf]; omega⟩
              | false =>
                have HE2 : Hid ((es ++ [((j : Int), 11)]) ++ errA s TT (j + 1) (A.drop (j + 1)) (P.drop (j + 1)) = callE s B P A) := by
                  have e := HE.out
                  rw [HED.out, if_pos (by rw [HWA.out]; rfl)] at e
                  show _ = _
                  rw [← e]; simp
                clear HED HE HWA
                go_upto_region 19 with fail
                go_wp2_with (first
                  | (refine boxRow1 39 51 2 (.agg #[.int .i64 0, .int .i64 0]) Try.underlying39 (by kernel_rfl) rfl (by decide) rfl _ rfl [.int .i64 ((j : Int)), .int .i64 (11)] rfl rfl ?_)
                  | (refine rowE_append rfl _ _ rfl V.heap.size m ce oe es ((j : Int), 11) rfl rfl HRE5.out (by omega) (by first | exact HSZ.out | omega) ?_; intro o9 c9 w9 hr9 hb9; have HR9 := Lib.hid hr9; have HB9 := Lib.hid hb9; clear hr9 hb9))
                case roundEnd => exact ⟨⟨j + 1, m + 1, o9, c9, _, rfl, by push_cast; rfl, hj, hj', (by show m + 1 ≤ _; omega), HE2, HR9, HR5.out.trans (HB9.out.mono (Nat.le_refl _))⟩, by simp [RowKit.intOf]; omega⟩
            · have hj2 : ¬ ((j : Int) < (nP : Int)) := by omega
              have HTOT : Hid (es = callE s B P A) := by
                have e := HE.out
                rw [errA_end (.inr (by rw [HNP.out]; omega)), List.append_nil] at e
                exact e
              have HR2 := HR
              have HRE2 := HRE
              clear hj' HE hsz hm
              have HFN := Lib.hid (subR_any TT oT nT cT HNT.out Q _ Rr _ wr (Nat.lt_succ_self _) hcR (fun k hk => Nat.lt_of_lt_of_le (HQ1.out k hk).1 HR2.out.size) (HVRP.out.below HR2.out) (HVTP.out.below HR2.out))
              have HFZ := Lib.hid HR2.out
              have HFE := Lib.hid HRE2.out
              go_wp2_with fail
              refine HFN.out.mono ?_
              rintro e X ⟨ru, rfl, hru, hbX⟩
              obtain ⟨za, zn, zp, zq, zz, ze, zk, rfl⟩ := hru.toY.expl
              have HRU := Lib.hid hru
              have hX := stepB HFZ.out hbX (Nat.le_refl _)
              have hXW := stepB HVW.out hX (Nat.le_refl _)
              have kx := HBX.out.at_ hXW 2 rfl
              have c4 : ∀ i, X.cell? ⟨w.heap.size + 1 + 1, i, none⟩ = _ := kx.cell
              have f4 : ∀ i, X.frozen? ⟨w.heap.size + 1 + 1, i, none⟩ = false := kx.frozen
              have HX := Lib.hid hX
              have HXW := Lib.hid (HBX.out.below hXW)
              have HEX := Lib.hid (RowQ.below keepW HFE.out hbX)
              have hlt : w.heap.size + 1 + 1 < wr.heap.size := (HBX.out.at_ (stepB HVW.out HFZ.out (Nat.le_refl _)) 2 rfl).lt
              have HLT := Lib.hid hlt
              clear hbX hX hXW kx hlt hru
              go_wp2
              refine bodyPost_ret (v := .tuple #[.agg #[.int .i64 za, .string zp, .string zq, .int .i64 zn, .slice zz ze zk], .slice oe m ce]) (by simp [results, Try.results18, go_sem, c4]) rfl ?_
              refine ⟨_, _, rfl, ?_, ?_, below5 HXW.out (by omega) _ _ _ _ _⟩
              · have hk : ∀ (a : Addr) (u : Value), (Q a.block ∨ wr.heap.size ≤ a.block) → X.cell? a = some u → (((((X.setCell ⟨w.heap.size + 1 + 1, 0, none⟩ (.int .i64 za)).setCell ⟨w.heap.size + 1 + 1, 1, none⟩ (.string zp)).setCell ⟨w.heap.size + 1 + 1, 2, none⟩ (.string zq)).setCell ⟨w.heap.size + 1 + 1, 3, none⟩ (.int .i64 zn)).setCell ⟨w.heap.size + 1 + 1, 4, none⟩ (.slice zz ze zk)).cell? a = some u := fun a u ha hc => by
                  have hne : ¬ a.block = w.heap.size + 1 + 1 := by
                    rcases ha with ha | ha
                    · exact (HQ1.out _ ha).2
                    · have := HLT.out; omega
                  exact far1 (far1 (far1 (far1 (far1 hc hne) hne) hne) hne) hne
                rw [HCT.out]
                exact (IsYP.keep (P' := fun _ => True) (fun _ _ _ _ => trivial) hk HRU.out).toY
              · have hE := HTOT.out
                rw [← hE]
                exact (RowE.farC5 HEX.out (by have := HVL.out; omega) _ _ _ _ _).es
          · have hj1 : ¬ ((j : Int) < (nA : Int)) := by omega
            have HTOT : Hid (es = callE s B P A) := by
              have e := HE.out
              rw [errA_end (.inl (by rw [HNA.out]; omega)), List.append_nil] at e
              exact e
            have HR2 := HR
            have HRE2 := HRE
            clear hj HE hsz hm
            have HFN := Lib.hid (subR_any TT oT nT cT HNT.out Q _ Rr _ wr (Nat.lt_succ_self _) hcR (fun k hk => Nat.lt_of_lt_of_le (HQ1.out k hk).1 HR2.out.size) (HVRP.out.below HR2.out) (HVTP.out.below HR2.out))
            have HFZ := Lib.hid HR2.out
            have HFE := Lib.hid HRE2.out
            go_wp2_with fail
            refine HFN.out.mono ?_
            rintro e X ⟨ru, rfl, hru, hbX⟩
            obtain ⟨za, zn, zp, zq, zz, ze, zk, rfl⟩ := hru.toY.expl
            have HRU := Lib.hid hru
            have hX := stepB HFZ.out hbX (Nat.le_refl _)
            have hXW := stepB HVW.out hX (Nat.le_refl _)
            have kx := HBX.out.at_ hXW 2 rfl
            have c4 : ∀ i, X.cell? ⟨w.heap.size + 1 + 1, i, none⟩ = _ := kx.cell
            have f4 : ∀ i, X.frozen? ⟨w.heap.size + 1 + 1, i, none⟩ = false := kx.frozen
            have HX := Lib.hid hX
            have HXW := Lib.hid (HBX.out.below hXW)
            have HEX := Lib.hid (RowQ.below keepW HFE.out hbX)
            have hlt : w.heap.size + 1 + 1 < wr.heap.size := (HBX.out.at_ (stepB HVW.out HFZ.out (Nat.le_refl _)) 2 rfl).lt
            have HLT := Lib.hid hlt
            clear hbX hX hXW kx hlt hru
            go_wp2
            refine bodyPost_ret (v := .tuple #[.agg #[.int .i64 za, .string zp, .string zq, .int .i64 zn, .slice zz ze zk], .slice oe m ce]) (by simp [results, Try.results18, go_sem, c4]) rfl ?_
            refine ⟨_, _, rfl, ?_, ?_, below5 HXW.out (by omega) _ _ _ _ _⟩
            · have hk : ∀ (a : Addr) (u : Value), (Q a.block ∨ wr.heap.size ≤ a.block) → X.cell? a = some u → (((((X.setCell ⟨w.heap.size + 1 + 1, 0, none⟩ (.int .i64 za)).setCell ⟨w.heap.size + 1 + 1, 1, none⟩ (.string zp)).setCell ⟨w.heap.size + 1 + 1, 2, none⟩ (.string zq)).setCell ⟨w.heap.size + 1 + 1, 3, none⟩ (.int .i64 zn)).setCell ⟨w.heap.size + 1 + 1, 4, none⟩ (.slice zz ze zk)).cell? a = some u := fun a u ha hc => by
                have hne : ¬ a.block = w.heap.size + 1 + 1 := by
                  rcases ha with ha | ha
                  · exact (HQ1.out _ ha).2
                  · have := HLT.out; omega
                exact far1 (far1 (far1 (far1 (far1 hc hne) hne) hne) hne) hne
              rw [HCT.out]
              exact (IsYP.keep (P' := fun _ => True) (fun _ _ _ _ => trivial) hk HRU.out).toY
            · have hE := HTOT.out
              rw [← hE]
              exact (RowE.farC5 HEX.out (by have := HVL.out; omega) _ _ _ _ _).es
end Go.Proofs.Ytlakmniaocpaaaa
