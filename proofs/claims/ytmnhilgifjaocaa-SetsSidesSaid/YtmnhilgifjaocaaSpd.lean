/-
  What may be assigned; methods, declared types, fields, copied: the program's answers. Condition: names and lists of at most 2^47 bytes.
-/
import Derived.Test.YtmnhilgifjaocaaSpc
import Derived.Test.YtmnhilgifjaocaaScf
import Derived.Test.YtmnhilgifjaocaaSre
namespace Go.Proofs.Ytmnhilgifjaocaa
open Go.RowKit
open Go.Lib hiding intOf

set_option maxRecDepth 100000 in
set_option maxHeartbeats 8000000 in
theorem assignP_any (s : SCP) (t i : GY) (c : List Value) (v u : Value) (w0 w : World) (h : IsSc w0 s c) (ht : IsY w0 t v) (hi : IsY w0 i u) (h0 : Below w0.heap.size w0 w) (hft : FitMs (methS s t)) (hfi : FitMs (methS s i)) :
    Calls Try.prog 26 #[.agg c.toArray, v, u] w fun e w' => e = .returned (.bool (assignS s t i)) ∧ Below w.heap.size w w' := by
  have HA := Lib.hid (fun W (hb : Below w.heap.size w W) => alikeP_any _ t i v u W (Nat.lt_succ_self _) (ht.below (old_step h0 hb)) (hi.below (old_step h0 hb)))
  have HM := Lib.hid (fun W (hb : Below w.heap.size w W) => meetsP_any s t i c v u w0 W h ht hi (old_step h0 hb) hft hfi)
  obtain ⟨o, o1, o2, o3, o4, k, n1, k1, n2, k2, k3, n4, k4, rfl, _⟩ := h
  obtain ⟨tk, tp, tq, tn, ta⟩ := t
  obtain ⟨ik, ip, iq, inn, ia⟩ := i
  obtain ⟨o5, k5, rfl, _⟩ := ht.parts
  obtain ⟨o6, k6, rfl, _⟩ := hi.parts
  have HD : Hid (assignS s (.mk tk tp tq tn ta) (.mk ik ip iq inn ia) = (!decide (tk = 7) && !decide (ik = 7) && (alikeY (.mk tk tp tq tn ta) (.mk ik ip iq inn ia) || meetsS s (.mk tk tp tq tn ta) (.mk ik ip iq inn ia)))) := rfl
  generalize assignS s (.mk tk tp tq tn ta) (.mk ik ip iq inn ia) = R at *
  generalize meetsS s (.mk tk tp tq tn ta) (.mk ik ip iq inn ia) = BM at *
  generalize alikeY (.mk tk tp tq tn ta) (.mk ik ip iq inn ia) = BA at *
  generalize s.W.length = nW at *
  generalize s.bounds.length = nbd at *
  generalize ta.length = na at *
  generalize ia.length = nb at *
  obtain ⟨W2, hW2, HBX⟩ := bx3 w #[.slice o nW k, .slice o1 n1 k1, .slice o2 n2 k2, .slice o3 nbd k3, .slice o4 n4 k4] #[.int .i64 tk, .string tp, .string tq, .int .i64 tn, .slice o5 na k5] #[.int .i64 ik, .string ip, .string iq, .int .i64 inn, .slice o6 nb k6] 27 29 29
  have hb1 := HBX.out.2.1
  rw [← hW2] at hb1
  have HB1 := Lib.hid hb1
  have HW2 := Lib.hid hW2
  clear ht hi h0 hW2 hb1 hft hfi
  by_cases h7 : tk = 7
  · subst h7
    have HQ : Hid (R = false) := HD.out
    go_enter Try.func26, Try.ntmps26
    go_wp2
    go_ret
    rw [HQ.out]
    exact ⟨rfl, HB1.out⟩
  · have h7b : (tk == 7) = false := by simpa using h7
    by_cases h8 : ik = 7
    · subst h8
      have HQ : Hid (R = false) := by show _ = _; rw [HD.out]; simp
      clear h7
      go_enter Try.func26, Try.ntmps26
      go_wp2
      go_ret
      rw [HQ.out]
      exact ⟨rfl, HB1.out⟩
    · have h8b : (ik == 7) = false := by simpa using h8
      have HD2 : Hid (R = (BA || BM)) := by rw [HD.out, decide_eq_false h7, decide_eq_false h8]; rfl
      clear h7 h8 HD
      go_enter Try.func26, Try.ntmps26
      go_wp2_with fail
      refine (HA.out _ HB1.out).mono ?_
      rintro e V ⟨rfl, hb⟩
      have hb2 := hb
      rw [HW2.out] at hb2
      have HV := Lib.hid (HBX.out.below hb2)
      have c0 := (HBX.out.at_ hb2 0 rfl).cell
      have c1 := (HBX.out.at_ hb2 1 rfl).cell
      have c2 := (HBX.out.at_ hb2 2 rfl).cell
      rw [Nat.add_zero] at c0
      clear hb hb2
      cases BA with
      | true =>
        have HQ : Hid (R = true) := HD2.out
        go_wp2
        go_ret
        rw [HQ.out]
        exact ⟨rfl, HV.out⟩
      | false =>
        have HQ : Hid (R = BM) := HD2.out
        go_wp2_with fail
        refine (HM.out _ HV.out).mono ?_
        rintro e V2 ⟨rfl, hb⟩
        have HV2 := Lib.hid (stepB HV.out hb (Nat.le_refl _))
        clear hb
        go_wp2
        go_ret
        rw [HQ.out]
        exact ⟨rfl, HV2.out⟩

set_option maxRecDepth 100000 in
set_option maxHeartbeats 8000000 in
theorem methodsP_any (s : SCP) (t : GY) (c : List Value) (v : Value) (w0 w : World) (h : IsSc w0 s c) (ht : IsY w0 t v) (h0 : Below w0.heap.size w0 w) (hf : FitMs (methS s t)) :
    Calls Try.prog 18 #[.agg c.toArray, v] w fun e w' => ∃ u, e = .returned u ∧ IsMs w' (methS s t) u ∧ Below w.heap.size w w' := by
  have HM := Lib.hid (fun W (hb : Below w.heap.size w W) => methP_any s t c v w0 W h ht (old_step h0 hb))
  have HF := Lib.hid hf
  have H0 := Lib.hid h0
  obtain ⟨o, o1, o2, o3, o4, k, n1, k1, n2, k2, k3, n4, k4, rfl, _⟩ := h
  obtain ⟨ta, tn, tp, tq, o5, na, k5, rfl⟩ := ht.expl
  generalize methS s t = MT at *
  generalize s.W.length = nW at *
  generalize s.bounds.length = nbd at *
  obtain ⟨W2, hW2, HBX⟩ := bx2 w #[.slice o nW k, .slice o1 n1 k1, .slice o2 n2 k2, .slice o3 nbd k3, .slice o4 n4 k4] #[.int .i64 ta, .string tp, .string tq, .int .i64 tn, .slice o5 na k5] 27 29
  have hb1 := HBX.out.2.1
  rw [← hW2] at hb1
  have HB1 := Lib.hid hb1
  clear ht h0 hW2 hb1 hf HBX
  go_enter Try.func18, Try.ntmps18
  go_wp2_with fail
  refine (HM.out _ HB1.out).mono ?_
  rintro e V ⟨u2, rfl, hm2, hb⟩
  obtain ⟨ot, kt, rfl, hlt, hkt, hrt⟩ := hm2
  have hv := stepB HB1.out hb (Nat.le_refl _)
  have HE := Lib.hid (eachM_any MT ot MT.length kt V rfl (by have := HF.out.2; omega) (rowMs_below hrt (old_step H0.out hv)) fun x hx => copyM_any 140737488351232 (Nat.le_refl _) x (HF.out.1 x hx))
  have HV := Lib.hid hv
  clear hb hv hlt hkt hrt HM HF H0
  generalize hTL : MT.length = TL at HE ⊢
  have HT := Lib.hid hTL
  clear hTL
  go_wp2_with fail
  refine HE.out.mono ?_
  rintro e X ⟨o9, c9, rfl, ⟨g1, g2, g3⟩, hb⟩
  have HX := Lib.hid (stepB HV.out hb (Nat.le_refl _))
  have HR : Hid (IsMs X MT (.slice o9 TL c9)) := by
    show IsMs _ _ _
    rw [← HT.out]
    exact ⟨o9, c9, rfl, by rw [HT.out]; exact g1, g2, g3.toR fun _ _ h => h.toM⟩
  clear hb g1 g2 g3
  go_wp2
  go_ret
  exact ⟨_, rfl, HR.out, HX.out⟩
set_option maxRecDepth 100000 in
set_option maxHeartbeats 8000000 in
theorem findP_any (s : SCP) (t : GY) (c : List Value) (v : Value) (w0 w : World) (h : IsSc w0 s c) (ht : IsY w0 t v) (h0 : Below w0.heap.size w0 w) (hf : FitT 140737488351232 ((findS s.W t).getD zeroD)) :
    Calls Try.prog 11 #[.agg c.toArray, v] w fun e w' => ∃ d, e = .returned (.tuple #[.agg d.toArray, .bool (findS s.W t).isSome]) ∧ IsTd w' ((findS s.W t).getD zeroD) d ∧ Below w.heap.size w w' := by
  have HD := Lib.hid (fun W (hb : Below w.heap.size w W) => declP_any s t c v w0 W h ht (old_step h0 hb))
  have H0 := Lib.hid h0
  have HC := Lib.hid (copyD_any 140737488351232 (Nat.le_refl _) _ hf)
  obtain ⟨o, o1, o2, o3, o4, k, n1, k1, n2, k2, k3, n4, k4, rfl, _⟩ := h
  obtain ⟨ta, tn, tp, tq, o5, na, k5, rfl⟩ := ht.expl
  generalize (findS s.W t).getD zeroD = D at *
  generalize (findS s.W t).isSome = IS at *
  generalize s.W.length = nW at *
  generalize s.bounds.length = nbd at *
  obtain ⟨W2, hW2, HBX⟩ := bx3 w #[.slice o nW k, .slice o1 n1 k1, .slice o2 n2 k2, .slice o3 nbd k3, .slice o4 n4 k4] #[.int .i64 ta, .string tp, .string tq, .int .i64 tn, .slice o5 na k5] #[.string noB, .bool false, .slice none 0 0, .slice none 0 0] 27 29 35
  have hb1 := HBX.out.2.1
  have HB1 := Lib.hid hb1
  have HW2 := Lib.hid hW2
  clear ht h0 hW2 hb1 hf
  have c0 : ∀ i, W2.cell? ⟨w.heap.size, i, none⟩ = _ := (HBX.out.at_ (Below.refl _ _) 0 rfl).cell
  have c1 : ∀ i, W2.cell? ⟨w.heap.size + 1, i, none⟩ = _ := (HBX.out.at_ (Below.refl _ _) 1 rfl).cell
  go_enter Try.func11, Try.ntmps11
  go_wp2_with fail
  rw [HW2.out]
  refine (HD.out _ HB1.out).mono ?_
  rintro e V ⟨d, rfl, hd, hb⟩
  have HTD := Lib.hid hd
  obtain ⟨od, oe, kd, ke, rfl, _⟩ := hd
  obtain ⟨V1, hV1⟩ : ∃ V1, V.alloc (.cells #[.string D.name, .bool D.strct, .slice od D.fields.length kd, .slice oe D.meths.length ke] 35) = V1 := ⟨_, rfl⟩
  have hb5 : Below V.heap.size V V1 := by rw [← hV1]; exact (Below.refl _ _).alloc (Nat.le_refl _) _
  have b6 : Blk V1 V.heap.size 35 #[.string D.name, .bool D.strct, .slice od D.fields.length kd, .slice oe D.meths.length ke] := by rw [← hV1]; exact Blk.new _ _ _
  have hv := stepB hb hb5 (Nat.le_refl _)
  have HV := Lib.hid hv
  have HCC := Lib.hid (HC.out [.string D.name, .bool D.strct, .slice od D.fields.length kd, .slice oe D.meths.length ke] V1 (HTD.out.below (old_step H0.out (HBX.out.below hv))))
  have HE := Lib.hid hV1
  clear c0 c1 hb hb5 b6 hv hV1 HD HC HB1
  go_wp2_with fail
  refine (show Calls _ _ _ _ _ from by rw [HE.out]; exact HCC.out).mono ?_
  rintro e X ⟨e9, rfl, hd9, hb⟩
  have HR := Lib.hid hd9
  obtain ⟨oa, ob, ka, kb, rfl, _⟩ := hd9
  have hx := stepB HV.out hb (Nat.le_refl _)
  have b4 := HBX.out.at_ hx 2 rfl
  have c4 : ∀ i, X.cell? ⟨w.heap.size + 1 + 1, i, none⟩ = _ := b4.cell
  have f4 : ∀ i, X.frozen? ⟨w.heap.size + 1 + 1, i, none⟩ = false := b4.frozen
  have hlt : w.heap.size + 1 + 1 < V1.heap.size := (HBX.out.at_ HV.out 2 rfl).lt
  have HX := Lib.hid (HBX.out.below hx)
  have HLT := Lib.hid hlt
  clear hb hx b4 hlt
  go_wp2
  refine bodyPost_ret (v := .tuple #[.agg #[.string D.name, .bool D.strct, .slice oa D.fields.length ka, .slice ob D.meths.length kb], .bool IS]) (by simp [results, Try.results11, go_sem, c4]) rfl ?_
  refine ⟨_, rfl, ?_, below4 HX.out (by omega) _ _ _ _⟩
  have h := keepT _ ((((X.setCell ⟨w.heap.size + 1 + 1, 0, none⟩ (.string D.name)).setCell ⟨w.heap.size + 1 + 1, 1, none⟩ (.bool D.strct)).setCell ⟨w.heap.size + 1 + 1, 2, none⟩ (.slice oa D.fields.length ka)).setCell ⟨w.heap.size + 1 + 1, 3, none⟩ (.slice ob D.meths.length kb)) _ (fun k => V1.heap.size ≤ k) _ _ (fun _ _ h _ => h) (fun a u ha hc => far4 hc (by have := HLT.out; omega)) HR.out
  exact h.toT
set_option maxRecDepth 100000 in
set_option maxHeartbeats 8000000 in
theorem fieldP_any (s : SCP) (t : GY) (m : ByteArray) (c : List Value) (v : Value) (w0 w : World) (h : IsSc w0 s c) (ht : IsY w0 t v) (h0 : Below w0.heap.size w0 w) (hf : FitY 140737488351232 ((fieldS s.W t m).getD zeroY)) :
    Calls Try.prog 13 #[.agg c.toArray, v, .string m] w fun e w' => ∃ u, e = .returned (.tuple #[u, .bool (fieldS s.W t m).isSome]) ∧ IsY w' ((fieldS s.W t m).getD zeroY) u ∧ Below w.heap.size w w' := by
  have HD := Lib.hid (fun W (hb : Below w.heap.size w W) => declP_any s t c v w0 W h ht (old_step h0 hb))
  have H0 := Lib.hid h0
  have HFS : Hid (fieldS s.W t m = match findS s.W t with | some d => if d.strct then (d.fields.find? fun f => decide (f.1 = m)).map (·.2) else none | none => none) := rfl
  have HC := Lib.hid (copyY_any 140737488351232 (by decide) _ hf)
  obtain ⟨o, o1, o2, o3, o4, k, n1, k1, n2, k2, k3, n4, k4, rfl, _⟩ := h
  obtain ⟨ta, tn, tp, tq, o5, na, k5, rfl⟩ := ht.expl
  generalize fieldS s.W t m = R at *
  generalize findS s.W t = FI at *
  generalize s.W.length = nW at *
  generalize s.bounds.length = nbd at *
  obtain ⟨W2, hW2, HBX⟩ := bx3 w #[.slice o nW k, .slice o1 n1 k1, .slice o2 n2 k2, .slice o3 nbd k3, .slice o4 n4 k4] #[.int .i64 ta, .string tp, .string tq, .int .i64 tn, .slice o5 na k5] #[.int .i64 0, .string noB, .string noB, .int .i64 0, .slice none 0 0] 27 29 29
  have hb1 := HBX.out.2.1
  have HB1 := Lib.hid hb1
  have HW2 := Lib.hid hW2
  clear ht h0 hW2 hb1 hf
  have c0 : ∀ i, W2.cell? ⟨w.heap.size, i, none⟩ = _ := (HBX.out.at_ (Below.refl _ _) 0 rfl).cell
  have c1 : ∀ i, W2.cell? ⟨w.heap.size + 1, i, none⟩ = _ := (HBX.out.at_ (Below.refl _ _) 1 rfl).cell
  go_enter Try.func13, Try.ntmps13
  go_wp2_with fail
  rw [HW2.out]
  refine (HD.out _ HB1.out).mono ?_
  rintro e V ⟨d, rfl, hd, hb⟩
  obtain ⟨D, hDD⟩ : ∃ D, FI.getD zeroD = D := ⟨_, rfl⟩
  rw [hDD] at hd
  obtain ⟨od, oe, kd, ke, rfl, hlf, hkf, _, _, hrf, _⟩ := hd
  obtain ⟨V1, hV1⟩ : ∃ V1, V.alloc (.cells #[.string D.name, .bool D.strct, .slice od D.fields.length kd, .slice oe D.meths.length ke] 35) = V1 := ⟨_, rfl⟩
  have hb5 : Below V.heap.size V V1 := by rw [← hV1]; exact (Below.refl _ _).alloc (Nat.le_refl _) _
  have hv := stepB hb hb5 (Nat.le_refl _)
  have b4 := HBX.out.at_ hv 2 rfl
  have c4 : ∀ i, V1.cell? ⟨w.heap.size + 1 + 1, i, none⟩ = _ := b4.cell
  have f4 : ∀ i, V1.frozen? ⟨w.heap.size + 1 + 1, i, none⟩ = false := b4.frozen
  have HK4 := Lib.hid b4
  have HV := Lib.hid hv
  have HE := Lib.hid hV1
  cases hS : D.strct with
  | false =>
    have HQ : Hid (R = none) := by
      show _ = _
      rw [HFS.out]
      cases FI with
      | none => rfl
      | some d =>
        obtain rfl : d = D := hDD
        show (if d.strct = true then _ else _) = _
        rw [hS]; rfl
    rw [hS] at HE
    have HK4V := Lib.hid (HBX.out.at_ hb 2 rfl)
    have c4' := (HBX.out.at_ hb 2 rfl).cell
    have l4' := (HBX.out.at_ hb 2 rfl).lt
    have n4' := Nat.ne_of_lt l4'
    have f4' := (HBX.out.at_ hb 2 rfl).frozen
    clear c0 c1 hlf hkf hrf hb5 hv hV1 HD HC HB1 hS hDD hb b4 HFS
    go_wp2_with (fail)
    rw [setCell_same HK4V.out rfl, setCell_same HK4V.out rfl, setCell_same HK4V.out rfl, setCell_same HK4V.out rfl, setCell_same HK4V.out rfl]
    rw [HE.out]
    refine bodyPost_ret (v := .tuple #[.agg #[.int .i64 0, .string noB, .string noB, .int .i64 0, .slice none 0 0], .bool false]) (by simp [results, Try.results13, go_sem, c4]) rfl ?_
    rw [HQ.out]
    exact ⟨_, rfl, IsY.zero, HBX.out.below HV.out⟩
  | true =>
    have HQ : Hid (R = (D.fields.find? fun f => decide (f.1 = m)).map (·.2)) := by
      show _ = _
      rw [HFS.out]
      cases FI with
      | none => subst hDD; cases hS
      | some d =>
        obtain rfl : d = D := hDD
        show (if d.strct = true then _ else _) = _
        rw [hS]; rfl
    rw [hS] at HE
    have hq : D.fields.length ≤ 9223372036854775807 := by unfold maxLen at hkf; omega
    have h01 := old_step H0.out (HBX.out.below hv)
    have HF := Lib.hid (firstF_any D.fields od D.fields.length kd m w0 V1 rfl hq hrf h01)
    have HP := Lib.hid (fun (x : ByteArray × GY) (c : List Value) (W : World) (hx : IsFd w0 x c) (hb : Below V1.heap.size V1 W) => hx.below (old_step h01 hb))
    obtain ⟨FF, hFF⟩ : ∃ FF, (D.fields.find? fun f => decide (f.1 = m)) = FF := ⟨_, rfl⟩
    rw [hFF] at HQ HF
    have HR2 : Hid (R.getD zeroY = (FF.getD (noB, zeroY)).2 ∧ R.isSome = FF.isSome) := by
      show _ ∧ _
      rw [HQ.out]
      cases FF with
      | none => exact ⟨rfl, rfl⟩
      | some x => exact ⟨rfl, rfl⟩
    rw [HR2.out.1] at HC
    generalize FF.getD (noB, zeroY) = X at *
    generalize FF.isSome = IS at *
    generalize D.fields.length = nF at *
    generalize D.meths.length = nM at *
    clear c0 c1 hlf hkf hrf hb5 hv hV1 HD HB1 hS hDD hb b4 HFS HQ hFF c4 f4 h01
    go_wp2_with fail
    refine (show Calls _ _ _ _ _ from by rw [HE.out]; exact HF.out).mono ?_
    rintro e X1 ⟨dd, rfl, hd, hb⟩
    have hd2 := HP.out X dd _ hd hb
    obtain ⟨r0, r1, r2, r3, r4, rfl, hy⟩ := hd
    obtain ⟨ya, yn, yp, yq, yz, ye, yk, he⟩ := hy.expl
    simp only [Value.agg.injEq, Array.mk.injEq, List.cons.injEq, and_true] at he
    obtain ⟨rfl, rfl, rfl, rfl, rfl⟩ := he
    obtain ⟨s0, s1, s2, s3, s4, hs, hy2⟩ := hd2
    simp only [List.cons.injEq, and_true, true_and] at hs
    obtain ⟨rfl, rfl, rfl, rfl, rfl⟩ := hs
    obtain ⟨V2, hV2⟩ : ∃ V2, X1.alloc (.cells #[.string X.1, .int .i64 ya, .string yp, .string yq, .int .i64 yn, .slice yz ye yk] 63) = V2 := ⟨_, rfl⟩
    have hb6 : Below X1.heap.size X1 V2 := by rw [← hV2]; exact (Below.refl _ _).alloc (Nat.le_refl _) _
    have HCC := Lib.hid (HC.out [.int .i64 ya, .string yp, .string yq, .int .i64 yn, .slice yz ye yk] V2 ⟨rfl, rfl, hy2.below hb6⟩)
    have HE2 := Lib.hid hV2
    have hv2 := stepB HV.out (stepB hb hb6 (Nat.le_refl _)) (Nat.le_refl _)
    have HV2 := Lib.hid hv2
    have hlt : w.heap.size + 1 + 1 < V2.heap.size := (HBX.out.at_ hv2 2 rfl).lt
    have HLT := Lib.hid hlt
    clear hb hb6 hy hy2 hV2 hv2 hlt HC HP
    go_wp2_with fail
    refine (show Calls _ _ _ _ _ from by rw [HE2.out]; exact HCC.out).mono ?_
    rintro e X2 ⟨d9, rfl, hd9, hb⟩
    have HR := Lib.hid hd9
    obtain ⟨b0, b1, b2, b3, b4, rfl⟩ := hd9.five
    obtain ⟨za, zn, zp, zq, zz, ze, zk, he⟩ := hd9.2.2.toY.expl
    simp only [Value.agg.injEq, Array.mk.injEq, List.cons.injEq, and_true] at he
    obtain ⟨rfl, rfl, rfl, rfl, rfl⟩ := he
    have hx := stepB HV2.out hb (Nat.le_refl _)
    have k4 := HBX.out.at_ hx 2 rfl
    have c4 : ∀ i, X2.cell? ⟨w.heap.size + 1 + 1, i, none⟩ = _ := k4.cell
    have f4 : ∀ i, X2.frozen? ⟨w.heap.size + 1 + 1, i, none⟩ = false := k4.frozen
    have HX := Lib.hid (HBX.out.below hx)
    clear hb hx k4 hd9
    go_wp2
    refine bodyPost_ret (v := .tuple #[.agg #[.int .i64 za, .string zp, .string zq, .int .i64 zn, .slice zz ze zk], .bool IS]) (by simp [results, Try.results13, go_sem, c4]) rfl ?_
    rw [HR2.out.1, HR2.out.2]
    refine ⟨_, rfl, ?_, below5 HX.out (by omega) _ _ _ _ _⟩
    exact (keepY _ _ _ (fun k => V2.heap.size ≤ k) _ _ (fun _ _ h _ => h) (fun a u ha hc => far1 (far1 (far1 (far1 (far1 hc (by have := HLT.out; simp only; omega)) (by have := HLT.out; simp only; omega)) (by have := HLT.out; simp only; omega)) (by have := HLT.out; simp only; omega)) (by have := HLT.out; simp only; omega)) HR.out).2.2.toY
end Go.Proofs.Ytmnhilgifjaocaa
