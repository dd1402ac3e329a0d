/-
  TermTells answers true, where what it reads is of bulk at most 1,048,576.
-/
import Derived.Test.YtofdejoeheokjaaTvb
import Derived.Test.YtofdejoeheokjaaTvc
import Derived.Test.YtofdejoeheokjaaTmc
import Derived.Test.YtofdejoeheokjaaTre
import Derived.ProofKit
import Derived.OpenShut
import Derived.ChangeMaps5
namespace Go.Proofs.Ytofdejoeheokjaa.termTells
open Go.ChangeShapes Go.WideShapes Go.ChangeAt Go.RowKit Go.ChangeMaps
open Go.Lib hiding intOf

set_option maxRecDepth 100000 in
set_option maxHeartbeats 8000000 in
theorem walk (t : GY) (va : Value) (s : ByteArray) (w : World) (ha : IsY w t va) (hfa : FitY 75497472 t) (hs : s.size ≤ 1048576) :
    Calls Try.prog 4 #[va, .string s] w fun e w' => e = .returned (.bool true) ∧ Below w.heap.size w w' := by
  obtain ⟨a0, a1, a2, a3, a4, rfl⟩ := ref.five ha
  have HNa := Lib.hid (fun W (h : Below w.heap.size w W) => nodes_any _ t _ 0 W (Nat.lt_succ_self _) (ha.below h) (by decide) (by decide))
  have HA := Lib.hid ha
  have HFA := Lib.hid hfa
  have HM := Lib.hid (fun W => nameP_any s W (Nat.le_trans hs (by decide)))
  have HN := Lib.hid (fun W => nameR_any s W (Nat.le_trans hs (by decide)))
  obtain ⟨W1, hW1, hb1⟩ := ref.made w #[a0, a1, a2, a3, a4]
  have HB := Lib.hid hb1
  have HW1 := Lib.hid hW1
  have hcnt := nod_cnt t 0
  have hlen := txt_len hfa
  clear ha hfa hs hW1 hb1
  generalize okN s = O at *
  go_enter Try.func4, Try.ntmps4
  go_upto_region 1 with fail
  change Code.wp Try.prog _ _ _ (w.alloc (.cells #[a0, a1, a2, a3, a4] 25))
  rw [HW1.out]
  clear HW1
  by_cases hna : 200 ≤ nodY t 0
  · have e0 := decide_eq_true hna
    clear hcnt hlen
    generalize nodY t 0 = na at *
    go_wp2_with (first
      | (refine boxLoad 25 5 size5 Try.underlying25 rfl _ rfl w.heap.size rfl (cs := [a0, a1, a2, a3, a4]) HB.out.b0 rfl ?_)
      | (go_at_call 10; (with_reducible refine (awake_any _).mono ?_); rintro e w1 ⟨rfl, hb⟩; have HB2 := Lib.hid (HB.out.step hb); clear HB hb; have HB := HB2; clear HB2)
      | (go_at_call 11; (with_reducible refine (HNa.out _ HB.out.below).mono ?_); rintro e w1 ⟨rfl, hb⟩; have HB2 := Lib.hid (HB.out.step hb); clear HB hb; have HB := HB2; clear HB2))
    go_ret
    exact ⟨rfl, HB.out.below⟩
  have e0 := decide_eq_false hna
  have hcx := hcnt (by omega)
  have hx1 : cntY t ≤ 1000 := by omega
  have HC := Lib.hid (fun W (h : Below w.heap.size w W) => checkP_any t hx1 75497472 (by decide) HFA.out _ W (HA.out.below h))
  have HD := Lib.hid (fun W (h : Below w.heap.size w W) => ref.checkR_any 75497472 (by decide) t _ W HFA.out (HA.out.below h))
  have HT := Lib.hid (fun W (h : Below w.heap.size w W) => textP_any t hx1 (by omega) _ W (HA.out.below h))
  have HU := Lib.hid (fun W (h : Below w.heap.size w W) => ref.textR_any _ t _ W (Nat.lt_succ_self _) (by omega) (HA.out.below h))
  have HPP := Lib.hid (fun W (h : Below w.heap.size w W) => paramsP_any t hx1 _ W (HA.out.below h))
  have HPR := Lib.hid (fun W (h : Below w.heap.size w W) => ref.paramsR_any _ t _ W (Nat.lt_succ_self _) hx1 (HA.out.below h))
  clear hcnt hcx hx1 hlen HFA HA
  generalize chkY okN 0 t = C at *
  generalize (⟨(txtY t).toArray⟩ : ByteArray) = X at *
  generalize nodY t 0 = na at *
  go_wp2_with (first
    | (refine boxLoad 25 5 size5 Try.underlying25 rfl _ rfl w.heap.size rfl (cs := [a0, a1, a2, a3, a4]) HB.out.b0 rfl ?_)
    | (go_at_call 10; (with_reducible refine (awake_any _).mono ?_); rintro e w1 ⟨rfl, hb⟩; have HB2 := Lib.hid (HB.out.step hb); clear HB hb; have HB := HB2; clear HB2)
    | (go_at_call 11; (with_reducible refine (HNa.out _ HB.out.below).mono ?_); rintro e w1 ⟨rfl, hb⟩; have HB2 := Lib.hid (HB.out.step hb); clear HB hb; have HB := HB2; clear HB2))
  obtain ⟨W5, hW5⟩ : ∃ W, w1 = W := ⟨_, rfl⟩
  subst hW5
  have hS0 : (fun w' : World => Below w1.heap.size w1 w') w1.drew := (Below.refl _ _).drew
  refine wp_region_held_drew (S := (fun w' : World => Below w1.heap.size w1 w')) (by kernel_rfl) hS0 fun hS0 => ?_
  refine wpAnyH_take (i := 0) (v := .agg #[a0, a1, a2, a3, a4]) rfl (by kernel_rfl) (by kernel_rfl) (by kernel_rfl) (fun _ _ _ h => h) (Or.inl ⟨by kernel_rfl, fun w' hw' => ?_⟩) hS0 ?_
  · exact run_loadG 25 5 size5 Try.underlying25 _ rfl ⟨w.heap.size, 0, none⟩ (by kernel_rfl) (blk_add ((Below.block hw' _ HB.out.b0.lt).trans HB.out.b0)) rfl
  refine wpAnyH_take (i := 2) (v := .agg #[a0, a1, a2, a3, a4]) rfl (by kernel_rfl) (by kernel_rfl) (by kernel_rfl) (fun _ _ _ h => h) (Or.inl ⟨by kernel_rfl, fun w' hw' => ?_⟩) hS0 ?_
  · exact run_loadG 25 5 size5 Try.underlying25 _ rfl ⟨w.heap.size, 0, none⟩ (by kernel_rfl) (blk_add ((Below.block hw' _ HB.out.b0.lt).trans HB.out.b0)) rfl
  refine wpAnyH_ready (rs := [1]) (by kernel_rfl) (by simp) (AllReadyH.cons rfl (fun KK hK => ?_) AllReadyH.nil)
  go_simp
  refine (HPP.out _ (HB.out.below.trans (hS0.mono HB.out.below.size))).mono ?_
  rintro e wa ⟨L, oa, na, ca, rfl, hL, hl2, hp, hz, hba⟩
  have k1 : Below w1.heap.size w1 wa := hS0.trans (hba.mono hS0.size)
  refine hK.out _ _ k1 (fun hS1 => ?_)
  refine wpAnyH_ready (rs := [3]) (by kernel_rfl) (by simp) (AllReadyH.cons rfl (fun KK hK => ?_) AllReadyH.nil)
  go_simp
  refine (HPR.out _ (HB.out.below.trans (hS1.mono HB.out.below.size))).mono ?_
  rintro e wb ⟨⟨M, ob, nb, cb, rfl, hR, hM, hq⟩, hbb⟩
  have k2 : Below w1.heap.size w1 wb := hS1.trans (hbb.mono hS1.size)
  obtain rfl : L = M := up_one hp.up hq.up fun x => (hp.is x).trans (hq.is x).symm
  obtain rfl : na = nb := by have := hR.len; omega
  refine hK.out _ _ k2 (fun hS2 => ?_)
  refine wpAnyH_ready (rs := [4]) (by kernel_rfl) (by simp) (AllReadyH.cons rfl (fun KK hK => ?_) AllReadyH.nil)
  go_simp
  refine (ref.ints_same L oa ob na ca cb _ hL hl2 (hz.below hbb) hR.is).mono ?_
  rintro e wc ⟨rfl, hbc⟩
  have k3 : Below w1.heap.size w1 wc := hS2.trans (hbc.mono hS2.size)
  refine hK.out _ _ k3 (fun hS3 => ?_)
  refine wpAnyH_take (i := 5) (v := .bool true) rfl (by kernel_rfl) (by kernel_rfl) (by kernel_rfl) (fun _ _ _ h => h) (Or.inl ⟨by kernel_rfl, fun w' hw' => ?_⟩) hS3 ?_
  · kernel_rfl
  refine wpAnyH_done (by kernel_rfl) ?_ _
  have HB4 := Lib.hid (HB.out.step k3)
  clear HB k1 k2 k3 hS0 hS1 hS2 hS3 hba hbb hbc hL hl2 hp hz hR hM hq HPP HPR
  have HB := HB4
  clear HB4
  go_wp2_with fail
  have hS0 : (fun w' : World => Below wc.heap.size wc w') wc.drew := (Below.refl _ _).drew
  refine wp_region_held_drew (S := (fun w' : World => Below wc.heap.size wc w')) (by kernel_rfl) hS0 fun hS0 => ?_
  refine wpAnyH_take (i := 0) (v := .bool true) rfl (by kernel_rfl) (by kernel_rfl) (by kernel_rfl) (fun _ _ _ h => h) (Or.inl ⟨by kernel_rfl, fun w' hw' => ?_⟩) hS0 ?_
  · kernel_rfl
  refine wpAnyH_take (i := 1) (v := .bool true) rfl (by kernel_rfl) (by kernel_rfl) (by kernel_rfl) (fun _ _ _ h => h) (Or.inl ⟨by kernel_rfl, fun w' hw' => ?_⟩) hS0 ?_
  · kernel_rfl
  refine wpAnyH_take (i := 2) (v := .bool true) rfl (by kernel_rfl) (by kernel_rfl) (by kernel_rfl) (fun _ _ _ h => h) (Or.inl ⟨by kernel_rfl, fun w' hw' => ?_⟩) hS0 ?_
  · go_simp
  refine wpAnyH_take (i := 3) (v := .bool true) rfl (by kernel_rfl) (by kernel_rfl) (by kernel_rfl) (fun _ _ _ h => h) (Or.inl ⟨by kernel_rfl, fun w' hw' => ?_⟩) hS0 ?_
  · go_simp
  refine wpAnyH_take (i := 4) (v := .bool true) rfl (by kernel_rfl) (by kernel_rfl) (by kernel_rfl) (fun _ _ _ h => h) (Or.inl ⟨by kernel_rfl, fun w' hw' => ?_⟩) hS0 ?_
  · go_simp
  refine wpAnyH_take (i := 5) (v := .agg #[a0, a1, a2, a3, a4]) rfl (by kernel_rfl) (by kernel_rfl) (by kernel_rfl) (fun _ _ _ h => h) (Or.inl ⟨by kernel_rfl, fun w' hw' => ?_⟩) hS0 ?_
  · exact run_loadG 25 5 size5 Try.underlying25 _ rfl ⟨w.heap.size, 0, none⟩ (by kernel_rfl) (blk_add ((Below.block hw' _ HB.out.b0.lt).trans HB.out.b0)) rfl
  refine wpAnyH_take (i := 7) (v := .agg #[a0, a1, a2, a3, a4]) rfl (by kernel_rfl) (by kernel_rfl) (by kernel_rfl) (fun _ _ _ h => h) (Or.inl ⟨by kernel_rfl, fun w' hw' => ?_⟩) hS0 ?_
  · exact run_loadG 25 5 size5 Try.underlying25 _ rfl ⟨w.heap.size, 0, none⟩ (by kernel_rfl) (blk_add ((Below.block hw' _ HB.out.b0.lt).trans HB.out.b0)) rfl
  refine wpAnyH_ready (rs := [6]) (by kernel_rfl) (by simp) (AllReadyH.cons rfl (fun KK hK => ?_) AllReadyH.nil)
  go_simp
  refine (HC.out _ (HB.out.below.trans (hS0.mono HB.out.below.size))).mono ?_
  rintro e wd ⟨rfl, hbd⟩
  have k1 : Below wc.heap.size wc wd := hS0.trans (hbd.mono hS0.size)
  refine hK.out _ _ k1 (fun hS1 => ?_)
  refine wpAnyH_ready (rs := [8]) (by kernel_rfl) (by simp) (AllReadyH.cons rfl (fun KK hK => ?_) AllReadyH.nil)
  go_simp
  refine (HD.out _ (HB.out.below.trans (hS1.mono HB.out.below.size))).mono ?_
  rintro e we ⟨rfl, hbe⟩
  have k2 : Below wc.heap.size wc we := hS1.trans (hbe.mono hS1.size)
  refine hK.out _ _ k2 (fun hS2 => ?_)
  refine wpAnyH_take (i := 9) (v := .bool true) rfl (by kernel_rfl) (by kernel_rfl) (by kernel_rfl) (fun _ _ _ h => h) (Or.inl ⟨by kernel_rfl, fun w' hw' => ?_⟩) hS2 ?_
  · go_simp
  refine wpAnyH_take (i := 10) (v := .bool true) rfl (by kernel_rfl) (by kernel_rfl) (by kernel_rfl) (fun _ _ _ h => h) (Or.inl ⟨by kernel_rfl, fun w' hw' => ?_⟩) hS2 ?_
  · go_simp
  refine wpAnyH_take (i := 11) (v := .bool true) rfl (by kernel_rfl) (by kernel_rfl) (by kernel_rfl) (fun _ _ _ h => h) (Or.inl ⟨by kernel_rfl, fun w' hw' => ?_⟩) hS2 ?_
  · go_simp
  refine wpAnyH_take (i := 12) (v := .agg #[a0, a1, a2, a3, a4]) rfl (by kernel_rfl) (by kernel_rfl) (by kernel_rfl) (fun _ _ _ h => h) (Or.inl ⟨by kernel_rfl, fun w' hw' => ?_⟩) hS2 ?_
  · exact run_loadG 25 5 size5 Try.underlying25 _ rfl ⟨w.heap.size, 0, none⟩ (by kernel_rfl) (blk_add ((Below.block hw' _ HB.out.b0.lt).trans HB.out.b0)) rfl
  refine wpAnyH_take (i := 14) (v := .agg #[a0, a1, a2, a3, a4]) rfl (by kernel_rfl) (by kernel_rfl) (by kernel_rfl) (fun _ _ _ h => h) (Or.inl ⟨by kernel_rfl, fun w' hw' => ?_⟩) hS2 ?_
  · exact run_loadG 25 5 size5 Try.underlying25 _ rfl ⟨w.heap.size, 0, none⟩ (by kernel_rfl) (blk_add ((Below.block hw' _ HB.out.b0.lt).trans HB.out.b0)) rfl
  refine wpAnyH_ready (rs := [13]) (by kernel_rfl) (by simp) (AllReadyH.cons rfl (fun KK hK => ?_) AllReadyH.nil)
  go_simp
  refine (HT.out _ (HB.out.below.trans (hS2.mono HB.out.below.size))).mono ?_
  rintro e wf ⟨rfl, hbf⟩
  have k3 : Below wc.heap.size wc wf := hS2.trans (hbf.mono hS2.size)
  refine hK.out _ _ k3 (fun hS3 => ?_)
  refine wpAnyH_ready (rs := [15]) (by kernel_rfl) (by simp) (AllReadyH.cons rfl (fun KK hK => ?_) AllReadyH.nil)
  go_simp
  refine (HU.out _ (HB.out.below.trans (hS3.mono HB.out.below.size))).mono ?_
  rintro e wg ⟨rfl, hbg⟩
  have k4 : Below wc.heap.size wc wg := hS3.trans (hbg.mono hS3.size)
  refine hK.out _ _ k4 (fun hS4 => ?_)
  refine wpAnyH_take (i := 16) (v := .bool true) rfl (by kernel_rfl) (by kernel_rfl) (by kernel_rfl) (fun _ _ _ h => h) (Or.inl ⟨by kernel_rfl, fun w' hw' => ?_⟩) hS4 ?_
  · go_simp
  refine wpAnyH_take (i := 17) (v := .bool true) rfl (by kernel_rfl) (by kernel_rfl) (by kernel_rfl) (fun _ _ _ h => h) (Or.inl ⟨by kernel_rfl, fun w' hw' => ?_⟩) hS4 ?_
  · go_simp
  refine wpAnyH_take (i := 18) (v := .bool true) rfl (by kernel_rfl) (by kernel_rfl) (by kernel_rfl) (fun _ _ _ h => h) (Or.inl ⟨by kernel_rfl, fun w' hw' => ?_⟩) hS4 ?_
  · go_simp
  refine wpAnyH_take (i := 19) (v := .string s) rfl (by kernel_rfl) (by kernel_rfl) (by kernel_rfl) (fun _ _ _ h => h) (Or.inl ⟨by kernel_rfl, fun w' hw' => ?_⟩) hS4 ?_
  · go_simp
  refine wpAnyH_take (i := 21) (v := .string s) rfl (by kernel_rfl) (by kernel_rfl) (by kernel_rfl) (fun _ _ _ h => h) (Or.inl ⟨by kernel_rfl, fun w' hw' => ?_⟩) hS4 ?_
  · go_simp
  refine wpAnyH_ready (rs := [20]) (by kernel_rfl) (by simp) (AllReadyH.cons rfl (fun KK hK => ?_) AllReadyH.nil)
  go_simp
  refine (HM.out _).mono ?_
  rintro e wh ⟨rfl, hbh⟩
  have k5 : Below wc.heap.size wc wh := hS4.trans (hbh.mono hS4.size)
  refine hK.out _ _ k5 (fun hS5 => ?_)
  refine wpAnyH_ready (rs := [22]) (by kernel_rfl) (by simp) (AllReadyH.cons rfl (fun KK hK => ?_) AllReadyH.nil)
  go_simp
  refine (HN.out _).mono ?_
  rintro e wi ⟨rfl, hbi⟩
  have k6 : Below wc.heap.size wc wi := hS5.trans (hbi.mono hS5.size)
  refine hK.out _ _ k6 (fun hS6 => ?_)
  refine wpAnyH_take (i := 23) (v := .bool true) rfl (by kernel_rfl) (by kernel_rfl) (by kernel_rfl) (fun _ _ _ h => h) (Or.inl ⟨by kernel_rfl, fun w' hw' => ?_⟩) hS6 ?_
  · go_simp
  refine wpAnyH_take (i := 24) (v := .bool true) rfl (by kernel_rfl) (by kernel_rfl) (by kernel_rfl) (fun _ _ _ h => h) (Or.inl ⟨by kernel_rfl, fun w' hw' => ?_⟩) hS6 ?_
  · go_simp
  refine wpAnyH_take (i := 25) (v := .bool true) rfl (by kernel_rfl) (by kernel_rfl) (by kernel_rfl) (fun _ _ _ h => h) (Or.inl ⟨by kernel_rfl, fun w' hw' => ?_⟩) hS6 ?_
  · go_simp
  refine wpAnyH_done (by kernel_rfl) ?_ _
  have KF := Lib.hid (HB.out.below.trans (k6.mono HB.out.below.size))
  clear k1 k2 k3 k4 k5 k6 hS0 hS1 hS2 hS3 hS4 hS5 hS6 hbd hbe hbf hbg hbh hbi
  go_wp2_with fail
  go_ret
  exact ⟨rfl, KF.out⟩

theorem laidOut : laidOutB Try.prog = true := by kernel_rfl
theorem own : ownKnob Try.prog.godebug = none := by kernel_rfl

theorem part_le {H : Type} {l : List (DataW H)} {d : DataW H} (h : d ∈ l) : Rows.uptoBulk d ≤ Rows.uptoBulkAll l := by
  induction l with
  | nil => cases h
  | cons x r ih =>
    simp only [Rows.uptoBulkAll]
    rcases List.mem_cons.1 h with rfl | h
    · omega
    · have := ih h; omega

theorem contract (H : Type) (enc : TypeId × Value → H) (W : World) (base : Nat) (args : Array Value) (ds gs : List (DataW H)) (before : List MemPlace)
    (hval : ∀ (j : Nat) t v, Try.f4.params[j]? = some t → args[j]? = some v → Value.okWide Try.prog W .any base t v)
    (hW : DataW.Whole enc Try.prog Try.f4.params.toList Rows.termTellsSpec.vars false W args.toList ds gs before) (hk : Rows.uptoSmall H (ds ++ gs) = true) :
    Calls Try.prog 4 args W fun e W' => ∃ v, e = .returned v ∧ Rows.termTellsSpec.post enc Try.prog Try.f4 false true false false W args v W' := by
  have hpart : ∀ d ∈ ds, Rows.uptoBulk d ≤ 1048576 := fun d hd => by
    have h1 : Rows.uptoBulkAll (ds ++ gs) ≤ 1048576 := of_decide_eq_true hk
    have h2 := part_le (List.mem_append_left gs hd)
    omega
  have hW' := hW
  obtain ⟨p, q, hA0, hV, rfl, hfz, hnd⟩ := hW
  have hA : DataW.TrodAll enc Try.prog W 0 (fun _ => true) true Try.f4.params.toList args.toList ds p := hA0
  rw [Try.params4] at hA hval
  obtain ⟨v0, vs0, d0, ds0, p0, q0, hargs, rfl, rfl, h0, r0⟩ := trodAll_cons hA
  obtain ⟨v1, vs1, d1, ds1, p1, q1, rfl, rfl, rfl, h1, r1⟩ := trodAll_cons r0
  obtain ⟨rfl, rfl, rfl⟩ := trodAll_nil r1
  obtain rfl : args = #[v0, v1] := by cases args; simp_all
  obtain ⟨rfl, rfl⟩ := trodVars_none hV
  have t0 := h0
  obtain ⟨fl0, k0⟩ := h0
  have lt0 : ∀ x ∈ p0, x.block < W.heap.size := fun x hx => by simpa using hW'.lt x (by simp [hx])
  obtain ⟨cc0, rfl, _⟩ := okWide_struct Try.underlying25 (hval 0 25 v0 rfl rfl)
  have kk0 : DataW.trod enc Try.prog W 0 (fun _ => true) true fl0 25 cc0.toList = some (d0, p0) := k0
  obtain ⟨y0, g0, b0⟩ := open_yB fl0 _ _ kk0
  have m0 : FitY 75497472 y0 := b0.mono (by have := hpart d0 (by simp); show 72 * Rows.uptoBulk d0 ≤ 75497472; omega)
  rw [show cc0.toList.toArray = cc0 by simp] at g0
  obtain ⟨a1, rfl, rfl, rfl, w1⟩ := open_string Try.underlying9 (hval 1 9 v1 rfl rfl) h1
  have f1 : a1.size ≤ 1048576 := by
    have h := hpart (DataW.lit (.string a1.data.toList)) (by simp)
    have e : a1.data.toList.length = a1.size := by rw [Array.length_toList]; rfl
    simp only [Rows.uptoBulk] at h
    omega
  clear hA0 hk
  simp only [List.append_nil] at hW'
  refine (walk y0 _ a1 W g0 m0 f1).mono fun e W' ⟨he, hg⟩ => ?_
  subst he
  exact ⟨_, rfl, _, _, _, [], _, [], hW', (trodAll_cons_mk (shut_bool Try.underlying4 _) trodAll_mk0), (trodAll_cons_mk (Below.trod laidOut (by kernel_rfl) (of_decide_eq_true (by kernel_rfl)) t0 hg lt0) (trodAll_cons_mk (shut_string Try.underlying9 w1) trodAll_mk0)), rfl, hg.frame _, fun h => by cases h⟩

set_option maxRecDepth 100000 in
theorem lifted (os : Os) (started : os.Started) (H : Type) (enc : TypeId × Value → H) (F : Stop.Interp) :
    ReturnsInHanded {} Try.checked os 4 .any ((Rows.OpenSpec.upto Rows.termTellsSpec).pre6 enc Try.prog Try.f4 Rows.termTellsUptoRow.domain false) (((Rows.OpenSpec.upto Rows.termTellsSpec).at F).post enc Try.prog Try.f4 false true false false) := by
  refine returnsInHanded_of_cond (C := Try.checked) (s := Rows.OpenSpec.upto Rows.termTellsSpec) (k := Rows.uptoSmall) rfl own started (by kernel_rfl) Try.func4
    (OpenSpec.witness (enc := enc) (C := Try.checked) (s := Rows.OpenSpec.upto Rows.termTellsSpec) (k := Rows.uptoSmall) rfl false ⟨#[], #[.agg #[.int .i64 0, .string .empty, .string .empty, .int .i64 0, .slice none 0 0], .string .empty], []⟩ 8 (by kernel_rfl) (by kernel_rfl) (by kernel_rfl)
      (x := ([.agg [.lit (.int .i64 0), .lit (.string []), .lit (.string []), .lit (.int .i64 0), .nil], .lit (.string [])], [], [])) (by kernel_rfl) rfl (by kernel_rfl)) ?_
  intro W base args ds gs before hval hW _ hk _
  exact contract H enc W base args ds gs before hval hW hk

/-- TermTells answers true, where what it reads is of bulk at most 1,048,576. -/
theorem proved : Rows.TermTellsUptoSaid :=
  OpenClaim.holds_of_cond 4 Try.f4 rfl rfl rfl rfl rfl rfl rfl ⟨rfl, rfl, rfl, rfl, rfl⟩ rfl rfl rfl rfl rfl (by kernel_rfl) Try.func4 (by kernel_rfl)
    (of_decide_eq_true (by kernel_rfl)) (by unfold Func.isWrapper; first | (rw [if_pos (by decide +kernel)]; kernel_rfl) | (rw [if_neg (by decide +kernel)]; exact ⟨rfl, rfl⟩))
    (fun os started H enc _ F => lifted os started H enc F)

end Go.Proofs.Ytofdejoeheokjaa.termTells
