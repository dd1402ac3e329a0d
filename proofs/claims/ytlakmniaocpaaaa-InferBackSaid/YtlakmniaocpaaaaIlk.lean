/-
  InferBack: what was put in is told. No condition.
-/
import Derived.Test.YtlakmniaocpaaaaM24
import Derived.Test.YtlakmniaocpaaaaM25
import Derived.ProofKit
import Derived.OpenShut
import Derived.Deep.RegionHeld3
import Derived.ChangeMaps5

import Derived.Test.YtlakmniaocpaaaaIxm
import Derived.Test.YtlakmniaocpaaaaTph
namespace Go.Proofs.Ytlakmniaocpaaaa.inferBack
open Go.RowKit
open Go.Lib hiding intOf

theorem chk_occ : ∀ {t : GY} {d : Nat}, chkY okN d t = true → ∀ k, hasY k t → 0 ≤ k ∧ occY k.toNat t
  | .mk kd p m n l, d, h, k, hk => by
    rcases (chk_iff okN).1 h with ⟨hq, _, _, _, rfl⟩ | ⟨rfl, _, _, _, rfl⟩ | ⟨rfl, _, _, h0, _, rfl⟩ | ⟨rfl, _, _, _, hd, y, rfl, hy⟩
    · unfold hasY at hk
      rcases hk with hk | hk
      · omega
      · unfold hasYs at hk; exact hk.elim
    · unfold hasY at hk
      rcases hk with hk | hk
      · omega
      · unfold hasYs at hk; exact hk.elim
    · unfold hasY at hk
      rcases hk with hk | hk
      · obtain ⟨_, rfl⟩ := hk
        refine ⟨h0, ?_⟩
        unfold occY
        exact .inl ⟨rfl, by omega⟩
      · unfold hasYs at hk; exact hk.elim
    · unfold hasY at hk
      rcases hk with hk | hk
      · omega
      · unfold hasYs at hk
        rcases hk with hk | hk
        · obtain ⟨h1, h2⟩ := chk_occ hy k hk
          refine ⟨h1, ?_⟩
          unfold occY
          refine .inr ⟨rfl, ?_⟩
          unfold occYs
          exact .inl h2
        · unfold hasYs at hk; exact hk.elim
theorem occ_mem {k : Nat} {p : GY} : ∀ {l : List GY}, p ∈ l → occY k p → occYs k l
  | y :: r, h, hp => by
    unfold occYs
    rcases List.mem_cons.1 h with rfl | h
    · exact .inl hp
    · exact .inr (occ_mem h hp)
theorem boxLoadGW (T : TypeId) (n : Nat) (hi : (Try.prog.info? T).map (·.size) = some n) {fs : _} (hu : Try.prog.underlying T = some (.struct fs)) {ops : Array Oper} {rest : List Oper} {o : Oper} {a : Act} {w : World} {Q : Exit → Act → World → Prop} (hw : Region.wanted o (yielded ops a.tmps) = true) (x : Operand) (ho : o.op = .load T x) (g : Addr) (hx : a.eval x = .pointer (some g)) {cs : List Value} (hc : ∀ (j : Nat) (v : Value), cs[j]? = some v → w.cell? (g.add j) = some v) (hs : cs.length = n)
    (h : wpList Try.prog ops Q rest (a.put o.dst (.agg cs.toArray)) w) : wpList Try.prog ops Q (o :: rest) a w := by
  refine wpList_step fun K hK => ?_
  rw [if_pos hw]
  have hr := run_loadG T n hi hu x ho g hx hc hs
  unfold Oper.wp
  rw [hr]
  exact hK _ _ h
set_option maxRecDepth 100000 in
set_option maxHeartbeats 32000000 in
theorem walk (haw : Awk) (P : List GY) (oP : Option Addr) (cP : Nat) (A : List GY) (oA : Option Addr) (cA : Nat) (w : World) (hP : IsYs w oP 0 P) (lcP : P.length ≤ cP) (cmP : cP ≤ maxLen) (fP : FitYs 140737488351232 P) (wfP : WfYs P) (hA : IsYs w oA 0 A) (lcA : A.length ≤ cA) (cmA : cA ≤ maxLen) (fA : FitYs 140737488351232 A) (_wfA : WfYs A) :
    Calls Try.prog 6 #[.slice oP P.length cP, .slice oA A.length cA] w fun e w' => e = .returned (.bool true) ∧ Below w.heap.size w w' := by
  have hlP : P.length ≤ 9223372036854775807 := by unfold maxLen at cmP; omega
  have hlA : A.length ≤ 9223372036854775807 := by unfold maxLen at cmA; omega
  have HAW := Lib.hid haw
  have HS1 := Lib.hid (fun V (hV : Below w.heap.size w V) => small12_any P oP cP w V hP hlP hV)
  have HS2 := Lib.hid (fun V (hV : Below w.heap.size w V) => small12_any A oA cA w V hA hlA hV)
  have HPY := Lib.hid hP
  have HAY := Lib.hid hA
  have HLP := Lib.hid lcP
  have HLA := Lib.hid lcA
  have HFP := Lib.hid fP
  have HFA := Lib.hid fA
  have HWF := Lib.hid wfP
  obtain ⟨TT, hTT⟩ : ∃ t, toldY P (subYs A P) (A.length : Int) = t := ⟨_, rfl⟩
  have HUN : Hid (∀ V (o' : Option Addr) (c' : Nat), Below w.heap.size w V → Sml P → IsYs V o' 0 (subYs A P) → P.length ≤ c' → c' ≤ maxLen → Calls Try.prog 13 #[.slice oP P.length cP, .slice o' P.length c', .int .i64 (A.length : Int)] V fun e w' => ∃ o c, e = .returned (.slice o TT.length c) ∧ IsYs w' o 0 TT ∧ Below V.heap.size V w') := Lib.hid (fun V o' c' hV hs hy hl hc => by
    have hL : (subYs A P).length = P.length := by rw [subs_map, List.length_map]
    have h := unifyP_any 140737488351232 (by decide) P (subYs A P) oP o' cP c' (A.length : Int) V V (EntL.of lcP cmP (hP.below hV)) (EntL.of (by rw [hL]; exact hl) hc hy) wfP (fits_sub fA fP) (cnts_small hs) (Below.refl _ _)
    rw [hL] at h
    exact h.mono (by rintro e w' ⟨o, c, rfl, _, _, h, hb⟩; rw [hTT] at h ⊢; exact ⟨o, c, rfl, h, hb⟩))
  have HBK : Hid (1 ≤ A.length → A.length ≤ 16 → (∀ t ∈ A, t.kind ≠ 0 ∧ t.kind ≠ 7) → TT.length = A.length ∧ ∀ k, k < A.length → occYs k P → TT[k]? = A[k]?) := Lib.hid (fun h1 h2 hk => by
    have ht : ∀ k, k < A.length → (A.getD k noY).kind ≠ 0 ∧ (A.getD k noY).kind ≠ 7 := fun k h => by
      rw [List.getD_eq_getElem?_getD, List.getElem?_eq_getElem h]
      exact hk _ (List.getElem_mem h)
    obtain ⟨g1, g2⟩ := unify_back ht P
    have e : toldY P (subYs A P) (A.length : Int) = unifyY P (subYs A P) A.length := by
      unfold toldY
      rw [if_pos (by omega), Int.toNat_natCast]
    rw [← hTT, e]
    refine ⟨g1, fun k h ho => ?_⟩
    have g := g2 k h ho
    rw [List.getD_eq_getElem?_getD, List.getD_eq_getElem?_getD, List.getElem?_eq_getElem h, List.getElem?_eq_getElem (by omega)] at g
    rw [List.getElem?_eq_getElem h, List.getElem?_eq_getElem (by omega)]
    exact congrArg some g)
  clear hTT
  obtain ⟨nP, hnP⟩ : ∃ n, P.length = n := ⟨_, rfl⟩
  obtain ⟨nA, hnA⟩ : ∃ n, A.length = n := ⟨_, rfl⟩
  rw [hnP] at HS1 HLP HUN
  rw [hnA] at HS2 HLA HUN HBK
  rw [hnP, hnA]
  have HNP := Lib.hid hnP
  have HNA := Lib.hid hnA
  clear haw hP lcP wfP fP hA lcA fA hlP hlA hnP hnA
  go_enter Try.func6, Try.ntmps6
  go_wp2_with fail
  refine (HAW.out _).mono ?_
  rintro e U0 ⟨rfl, hb⟩
  have H0 := Lib.hid hb
  clear hb
  go_wp2_with fail
  refine (HS1.out _ H0.out).mono ?_
  rintro e U1 ⟨⟨b1, rfl, hs1⟩, hb⟩
  have H1 := Lib.hid (stepB H0.out hb (Nat.le_refl _))
  have HQ1 := Lib.hid hs1
  clear hb hs1
  go_wp2_with fail
  refine (HS2.out _ H1.out).mono ?_
  rintro e U2 ⟨⟨b2, rfl, hs2⟩, hb⟩
  have H2 := Lib.hid (stepB H1.out hb (Nat.le_refl _))
  have HQ2 := Lib.hid hs2
  clear hb hs2
  cases b1 with
  | false =>
    go_wp2
    go_ret
    exact ⟨rfl, H2.out⟩
  | true =>
  cases b2 with
  | false =>
    go_wp2
    go_ret
    exact ⟨rfl, H2.out⟩
  | true =>
  by_cases hA1 : (nA : Int) < 1
  · go_wp2
    go_ret
    exact ⟨rfl, H2.out⟩
  by_cases hA2 : (nA : Int) > 16
  · go_wp2
    go_ret
    exact ⟨rfl, H2.out⟩
  have HTL : Hid (nA ≤ 16) := by show _ ≤ _; omega
  have HSP := Lib.hid (HQ1.out (by first | rfl | trivial))
  have HSA := Lib.hid (HQ2.out (by first | rfl | trivial))
  have HBR := Lib.hid (Below.refl U2.heap.size U2)
  clear HQ1 HQ2 HS1 HS2 H0 H1
  go_wp2_with fail
  have HA1 : Hid (1 ≤ nA) := by show _ ≤ _; omega
  clear hA1 hA2
  go_loopw [8] (fun i wr => ∃ j : Nat, i = .int .i64 (j : Nat) ∧ Hid (j ≤ nA) ∧ Hid (∀ (k : Nat) (t : GY), k < j → A[k]? = some t → t.kind ≠ 0 ∧ t.kind ≠ 7) ∧ Hid (Below U2.heap.size U2 wr)) (fun i _ => nA - (RowKit.intOf i).toNat)
  case atStart => exact ⟨0, rfl, Nat.zero_le _, (fun k t h => by omega), HBR⟩
  case round =>
    obtain ⟨j, rfl, HJ, HK, HR⟩ := hrel
    clear HBR
    have HWW : Hid (Below w.heap.size w wr) := stepB H2.out HR.out (Nat.le_refl _)
    by_cases hj : j < nA
    · have hj' : ((j : Int) < (nA : Int)) := by omega
      have hj0 : (0 : Int) ≤ (j : Int) := by omega
      have hwj := IntWalk.i64_in ((j : Int) + 1) ⟨by omega, by have := HTL.out; omega⟩
      obtain ⟨t, ht⟩ : ∃ t, A[j]? = some t := ⟨_, List.getElem?_eq_getElem (by rw [HNA.out]; exact hj)⟩
      obtain ⟨aT, x0, x1, x2, x3, x4, rfl, hct, htt⟩ := HAY.out.at_ j ht
      rw [Nat.zero_add] at hct
      have htc : cntY t ≤ 60 := HSA.out.2 t (List.mem_of_getElem? ht)
      have htf : FitY 140737488351232 t := FitYs.mem HFA.out t (List.mem_of_getElem? ht)
      have HCT := Lib.hid hct
      have HTT := Lib.hid htt
      have HC : Hid (∀ (i : Nat) (v : Value), [x0, x1, x2, x3, x4][i]? = some v → wr.cell? ((aT.add (j * 5)).add i) = some v) := mvc HWW.out hct
      have HCK := Lib.hid (checkP_any t (Nat.le_trans htc (by decide)) 140737488351232 (by decide) htf _ wr (htt.below HWW.out))
      have HPA := Lib.hid (fun V (hV : Below w.heap.size w V) => paramsP_any t (Nat.le_trans htc (by decide)) _ V (htt.below hV))
      have HJN := Lib.hid hj
      have HAJ := Lib.hid ht
      clear hct ht htc htf
      obtain ⟨tk, tp, tm, tn, tl⟩ := t
      obtain ⟨ox, cx, ex, _⟩ := htt.parts
      simp only [Value.agg.injEq, Array.mk.injEq, List.cons.injEq, and_true] at ex
      obtain ⟨rfl, rfl, rfl, rfl, rfl⟩ := ex
      obtain ⟨nX, hnX⟩ : ∃ n, tl.length = n := ⟨_, rfl⟩
      rw [hnX] at HC HCK HPA HCT HTT
      clear htt hnX
      go_wp2_with (refine boxLoadG 34 5 size5 Try.underlying34 rfl _ rfl (aT.add (j * 5)) rfl (cs := [.int .i64 tk, .string tp, .string tm, .int .i64 tn, .slice ox nX cx]) HC.out rfl ?_)
      refine HCK.out.mono ?_
      rintro e W2 ⟨rfl, hb⟩
      have HR2 := Lib.hid (stepB HR.out hb (Nat.le_refl _))
      have HW2 := Lib.hid (stepB HWW.out hb (Nat.le_refl _))
      have HC2 : Hid (∀ (i : Nat) (v : Value), [.int .i64 tk, .string tp, .string tm, .int .i64 tn, .slice ox nX cx][i]? = some v → W2.cell? ((aT.add (j * 5)).add i) = some v) := mvc HW2.out HCT.out
      clear hb HCK HC
      generalize chkY okN 0 (.mk tk tp tm tn tl) = ck at *
      cases ck with
      | false =>
        go_wp2
        go_ret
        exact ⟨rfl, HW2.out⟩
      | true =>
      go_wp2_with (refine boxLoadGW 34 5 size5 Try.underlying34 (by rfl) _ rfl (aT.add (j * 5)) rfl (cs := [.int .i64 tk, .string tp, .string tm, .int .i64 tn, .slice ox nX cx]) HC2.out rfl ?_)
      refine (HPA.out _ HW2.out).mono ?_
      rintro e W3 ⟨L, oL, nL, cL, rfl, _, _, _, _, hb⟩
      have HR3 := Lib.hid (stepB HR2.out hb (Nat.le_refl _))
      have HW3 := Lib.hid (stepB HW2.out hb (Nat.le_refl _))
      have e0 : W3.cell? (aT.add (j * 5)) = some (.int .i64 tk) := at0 (mvc HW3.out HCT.out 0 _ rfl)
      clear hb HPA HC2
      by_cases hnL : 0 < nL
      · have hnL' : (0 : Int) < (nL : Int) := by omega
        go_wp2
        go_ret
        exact ⟨rfl, HW3.out⟩
      have hnL' : ¬ ((0 : Int) < (nL : Int)) := by omega
      by_cases h0 : tk = 0
      · subst h0
        go_wp2
        go_ret
        exact ⟨rfl, HW3.out⟩
      have h0' : (tk == 0) = false := by rw [beq_eq_false_iff_ne]; exact h0
      by_cases h7 : tk = 7
      · subst h7
        go_wp2
        go_ret
        exact ⟨rfl, HW3.out⟩
      have h7' : (tk == 7) = false := by rw [beq_eq_false_iff_ne]; exact h7
      have HK2 : Hid (∀ (k : Nat) (t : GY), k < j + 1 → A[k]? = some t → t.kind ≠ 0 ∧ t.kind ≠ 7) := fun k p' hk hp' => by
        by_cases hkj : k = j
        · subst hkj
          rw [HAJ.out] at hp'
          obtain rfl := Option.some.inj hp'
          exact ⟨h0, h7⟩
        · exact HK.out k p' (by omega) hp'
      go_wp2
      case roundEnd => exact ⟨⟨j + 1, by push_cast; rfl, HJN.out, HK2, HR3⟩, by have := HJN.out; simp [RowKit.intOf]; omega⟩
    · have hj' : ¬ ((j : Int) < (nA : Int)) := by omega
      obtain ⟨V2, rfl⟩ : ∃ V, V = wr := ⟨wr, rfl⟩
      have HV2 := HWW
      obtain ⟨jA, rfl⟩ : ∃ q : Nat, q = j := ⟨j, rfl⟩
      have HKA : Hid (∀ (t : GY), t ∈ A → t.kind ≠ 0 ∧ t.kind ≠ 7) := fun t ht => by
        obtain ⟨i, hi, e⟩ := List.getElem_of_mem ht
        exact HK.out i t (by have := HNA.out; omega) (by rw [List.getElem?_eq_getElem hi, e])
      have HQ0 : Hid (RowQ 34 5 IsYPc V2 V2.heap.size none 0 0 ((subYs A P).take 0)) := RowQ.start V2 _
      have HB0 := Lib.hid (Below.refl V2.heap.size V2)
      have HSL : Hid ((subYs A P).length = nP) := by show _ = _; rw [subs_map, List.length_map]; exact HNP.out
      clear hj HR HJ HK HWW
      go_wp2_with fail
      go_loopw [10, 11] (fun v i wr2 => ∃ (j : Nat) (op : Option Addr) (cp : Nat), v = .slice op j cp ∧ i = .int .i64 (j : Nat) ∧ Hid (j ≤ nP) ∧ Hid (RowQ 34 5 IsYPc wr2 V2.heap.size op j cp ((subYs A P).take j)) ∧ Hid (∀ (k : Nat) (t : GY), k < j → P[k]? = some t → chkY okN 0 t = true) ∧ Hid (Below V2.heap.size V2 wr2)) (fun _ i _ => nP - (RowKit.intOf i).toNat)
      case atStart => exact ⟨0, none, 0, rfl, rfl, Nat.zero_le _, HQ0, (fun k t h => by omega), HB0⟩
      case round =>
        obtain ⟨j, op, cp, rfl, rfl, HJ, HRQ, HCH, HR⟩ := hrel
        clear HQ0 HB0
        have HWW : Hid (Below w.heap.size w wr) := stepB HV2.out HR.out (Nat.le_refl _)
        have hsp : nP ≤ 20 := by rw [← HNP.out]; exact HSP.out.1
        by_cases hj : j < nP
        · have hj' : ((j : Int) < (nP : Int)) := by omega
          have hj0 : (0 : Int) ≤ (j : Int) := by omega
          have hwj := IntWalk.i64_in ((j : Int) + 1) ⟨by omega, by omega⟩
          obtain ⟨p, hp⟩ : ∃ x, P[j]? = some x := ⟨_, List.getElem?_eq_getElem (by rw [HNP.out]; exact hj)⟩
          obtain ⟨aP, y0, y1, y2, y3, y4, rfl, hcp, hpp⟩ := HPY.out.at_ j hp
          rw [Nat.zero_add] at hcp
          have htc : cntY p ≤ 60 := HSP.out.2 p (List.mem_of_getElem? hp)
          have htf : FitY 140737488351232 p := FitYs.mem HFP.out p (List.mem_of_getElem? hp)
          have HCP : Hid (∀ (i : Nat) (v : Value), [y0, y1, y2, y3, y4][i]? = some v → wr.cell? ((aP.add (j * 5)).add i) = some v) := mvc HWW.out hcp
          have HCPW := Lib.hid hcp
          have HCK := Lib.hid (checkP_any p (Nat.le_trans htc (by decide)) 140737488351232 (by decide) htf _ wr (hpp.below HWW.out))
          have HSU := Lib.hid (fun V (hV : Below w.heap.size w V) => substP_any 140737488351232 (by decide) A oA nA cA HNA.out HFA.out p _ V htf (hpp.below hV) (HAY.out.below hV))
          have HT : Hid ((subYs A P).take (j + 1) = (subYs A P).take j ++ [subY A p]) := by show _ = _; rw [List.take_add_one, subs_map, List.getElem?_map, hp]; rfl
          have HJN := Lib.hid hj
          obtain ⟨ck, hck⟩ : ∃ c, chkY okN 0 p = c := ⟨_, rfl⟩
          have HCE : Hid (ck = true → ∀ (k : Nat) (t : GY), k < j + 1 → P[k]? = some t → chkY okN 0 t = true) := fun e k p' hk hp' => by
            by_cases hkj : k = j
            · subst hkj
              rw [hp] at hp'
              obtain rfl := Option.some.inj hp'
              rw [hck, e]
            · exact HCH.out k p' (by omega) hp'
          rw [hck] at HCK
          clear hcp hpp hp htc htf hck
          go_wp2_with (refine boxLoadG 34 5 size5 Try.underlying34 rfl _ rfl (aP.add (j * 5)) rfl (cs := [y0, y1, y2, y3, y4]) HCP.out rfl ?_)
          refine HCK.out.mono ?_
          rintro e W2 ⟨rfl, hb⟩
          have HR2 := Lib.hid (stepB HR.out hb (Nat.le_refl _))
          have HW2 := Lib.hid (stepB HWW.out hb (Nat.le_refl _))
          have HRQ2 := Lib.hid (HRQ.out.below keepY hb)
          have HC2 : Hid (∀ (i : Nat) (v : Value), [y0, y1, y2, y3, y4][i]? = some v → W2.cell? ((aP.add (j * 5)).add i) = some v) := mvc HW2.out HCPW.out
          clear hb HCK HCP HRQ
          cases ck with
          | false =>
            go_wp2
            go_ret
            exact ⟨rfl, HW2.out⟩
          | true =>
          have HCE2 : Hid (∀ (k : Nat) (t : GY), k < j + 1 → P[k]? = some t → chkY okN 0 t = true) := HCE.out rfl
          clear HCE
          go_wp2_with (refine boxLoadG 34 5 size5 Try.underlying34 rfl _ rfl (aP.add (j * 5)) rfl (cs := [y0, y1, y2, y3, y4]) HC2.out rfl ?_)
          refine (HSU.out _ HW2.out).mono ?_
          rintro e w8 ⟨u, rfl, huf, hb⟩
          obtain ⟨xx, hxx⟩ : ∃ x, subY A p = x := ⟨_, rfl⟩
          rw [hxx] at huf
          have HXX := Lib.hid hxx
          clear hxx
          obtain ⟨xk, xp, xm, xn, xl⟩ := xx
          have hup := IsYF.toP huf
          obtain ⟨ox, cx, rfl, _, _, _⟩ := hup.parts
          have HUP := Lib.hid hup
          obtain ⟨nX, hnX⟩ : ∃ n, xl.length = n := ⟨_, rfl⟩
          rw [hnX] at HUP ⊢
          have HU9 := Lib.hid hb
          have HS9 : Hid (V2.heap.size ≤ w8.heap.size) := Nat.le_trans HR2.out.size hb.size
          have HQ8 := Lib.hid (HRQ2.out.below keepY hb)
          have HD : Hid (IsYPc (fun k => V2.heap.size ≤ k ∧ (Value.slice op j cp).ownBlock ≠ some k) w8 (subY A p) [.int .i64 xk, .string xp, .string xm, .int .i64 xn, .slice ox nX cx]) := by
            rw [HXX.out]
            refine ⟨rfl, rfl, HUP.out.keep (fun a u h _ => ⟨Nat.le_trans HR2.out.size h, fun e => ?_⟩) (fun _ _ _ h => h)⟩
            obtain ⟨_, L', hL', _⟩ := HRQ2.out
            have := (hL'.lt _ e).2
            omega
          clear hup huf hnX HSU HC2 hb HCPW
          obtain ⟨hL5, L, hL1, hL2, hL3, hL4⟩ := HQ8.out
          have HL1 := Lib.hid hL1
          have HL2 := Lib.hid hL2
          have HL3 := Lib.hid hL3
          have HL4 := Lib.hid hL4
          have HL5 := Lib.hid hL5
          obtain ⟨i0, hi, hz0, hz1, hz2⟩ := info_parts infoTT
          clear hL1 hL2 hL3 hL4 hL5
          go_wp2_with (first
            | (refine boxRow1 23 34 5 (.agg #[.int .i64 0, .string ⟨#[]⟩, .string ⟨#[]⟩, .int .i64 0, .slice none 0 0]) Try.underlying23 (by kernel_rfl) rfl (by decide) rfl _ rfl [.int .i64 xk, .string xp, .string xm, .int .i64 xn, .slice ox nX cx] rfl rfl ?_)
            | (refine wpList_append_tells w8 rfl _ _ 23 rfl V2.heap.size 34 i0 (.agg #[.int .i64 0, .string ⟨#[]⟩, .string ⟨#[]⟩, .int .i64 0, .slice none 0 0]) 5 72 Try.underlying23 hi hz0 hz1 hz2 rfl (by decide) (.slice op j cp) j L.flatten rfl HL1.out _ [.int .i64 xk, .string xp, .string xm, .int .i64 xn, .slice ox nX cx] rfl rfl (cells_new w8 34 [.int .i64 xk, .string xp, .string xm, .int .i64 xn, .slice ox nX cx]) (List.all_eq_true.1 HD.out.2.1) (by unfold maxLen; omega) (by omega) HS9.out ?_; intro o9 c9 w9 hrow hT9 hfr; have HROW := Lib.hid hrow; have HT9 := Lib.hid hT9; have HFR := Lib.hid hfr; clear hrow hT9 hfr))
          case roundEnd =>
            have hN := RowQ.next keepY HL1.out HL2.out HL3.out HL4.out HL5.out rfl HD.out HROW.out HT9.out HFR.out
            refine ⟨⟨j + 1, o9, c9, rfl, by push_cast; rfl, HJN.out, by show RowQ _ _ _ _ _ _ _ _ _; rw [HT.out]; exact hN, HCE2, ?_⟩, by have := HJN.out; simp [RowKit.intOf]; omega⟩
            exact (stepB HR2.out HU9.out (Nat.le_refl _)).trans (HT9.out.below (by have := HS9.out; omega) fun k hk => by have := (HL1.out.lt k hk).1; omega)
        · have hj' : ¬ ((j : Int) < (nP : Int)) := by omega
          have hjP := HJ.out
          obtain rfl : j = nP := by omega
          have hfull : (subYs A P).take j = subYs A P := List.take_of_length_le (by rw [HSL.out]; exact Nat.le_refl _)
          have hRQ := HRQ.out
          rw [hfull] at hRQ
          obtain ⟨hq1, hq2, hq3⟩ := hRQ.done keepY
          have HCC := Lib.hid (HUN.out wr op cp HWW.out HSP.out hq3.toYs hq1 hq2)
          have HCH : Hid (∀ (t : GY), t ∈ P → chkY okN 0 t = true) := fun t ht => by
            obtain ⟨i, hi, e⟩ := List.getElem_of_mem ht
            exact HCH.out i t (by have := HNP.out; omega) (by rw [List.getElem?_eq_getElem hi, e])
          clear hfull hRQ hq1 hq2 hq3 hj HRQ hjP HUN
          go_wp2_with fail
          refine (HCC.out).mono ?_
          rintro e V3 ⟨oG, cG, rfl, hG, hb⟩
          have HW3 := Lib.hid (stepB HWW.out hb (Nat.le_refl _))
          obtain ⟨hTL, hTB⟩ := HBK.out HA1.out HTL.out HKA.out
          rw [hTL]
          have HGY := Lib.hid hG
          have HTB := Lib.hid hTB
          have HLT := Lib.hid hTL
          have hne : ((nA : Int) != (nA : Int)) = false := bne_self_eq_false' ..
          have HB3 := Lib.hid (Below.refl V3.heap.size V3)
          clear hb hTL hTB hG HCC HWW HR HJ HBK HKA
          go_wp2_with fail
          clear hne
          go_loopw [14] (fun i wr => ∃ j2 : Nat, i = .int .i64 (j2 : Nat) ∧ Hid (j2 ≤ j) ∧ Hid (Below V3.heap.size V3 wr)) (fun i _ => j - (RowKit.intOf i).toNat)
          case atStart => exact ⟨0, rfl, Nat.zero_le _, HB3⟩
          case round =>
            obtain ⟨i, rfl, HJ, HR⟩ := hrel
            clear HB3
            have HWW : Hid (Below w.heap.size w wr) := stepB HW3.out HR.out (Nat.le_refl _)
            have hsp : j ≤ 20 := by rw [← HNP.out]; exact HSP.out.1
            by_cases hj : i < j
            · have hj' : ((i : Int) < (j : Int)) := by omega
              have hj0 : (0 : Int) ≤ (i : Int) := by omega
              have hwj := IntWalk.i64_in ((i : Int) + 1) ⟨by omega, by omega⟩
              obtain ⟨p, hp⟩ : ∃ x, P[i]? = some x := ⟨_, List.getElem?_eq_getElem (by rw [HNP.out]; exact hj)⟩
              obtain ⟨aP, y0, y1, y2, y3, y4, rfl, hcp, hpp⟩ := HPY.out.at_ i hp
              rw [Nat.zero_add] at hcp
              have htc : cntY p ≤ 60 := HSP.out.2 p (List.mem_of_getElem? hp)
              have HCP : Hid (∀ (k : Nat) (v : Value), [y0, y1, y2, y3, y4][k]? = some v → wr.cell? ((aP.add (i * 5)).add k) = some v) := mvc HWW.out hcp
              have HPA := Lib.hid (paramsP_any p (Nat.le_trans htc (by decide)) _ wr (hpp.below HWW.out))
              have HOC : Hid (∀ x, hasY x p → 0 ≤ x ∧ occYs x.toNat P) := fun x hx => by
                have hm := List.mem_of_getElem? hp
                obtain ⟨h1, h2⟩ := chk_occ (HCH.out p hm) x hx
                exact ⟨h1, occ_mem hm h2⟩
              have HJN := Lib.hid hj
              clear hcp hpp hp htc
              go_wp2_with (refine boxLoadG 34 5 size5 Try.underlying34 rfl _ rfl (aP.add (i * 5)) rfl (cs := [y0, y1, y2, y3, y4]) HCP.out rfl ?_)
              refine HPA.out.mono ?_
              rintro e V4 ⟨L, oL, nL, cL, rfl, hL1, hL2, hL3, hL4, hb⟩
              have HR4 := Lib.hid (stepB HR.out hb (Nat.le_refl _))
              have HW4 := Lib.hid (stepB HWW.out hb (Nat.le_refl _))
              have HL1 := Lib.hid hL1
              have HL2 := Lib.hid hL2
              have HL3 := Lib.hid hL3
              have HL4 := Lib.hid hL4
              have HB5 := Lib.hid (Below.refl V4.heap.size V4)
              clear hb hL1 hL2 hL3 hL4 HPA HCP HR HWW HJ
              go_wp2_with fail
              go_loopw [16] (fun i wr => ∃ k : Nat, i = .int .i64 (k : Nat) ∧ Hid (k ≤ nL) ∧ Hid (Below V4.heap.size V4 wr)) (fun i _ => nL - (RowKit.intOf i).toNat)
              case atStart => exact ⟨0, rfl, Nat.zero_le _, HB5⟩
              case round =>
                obtain ⟨k, rfl, HJ, HR⟩ := hrel
                clear HB5
                have HWW : Hid (Below w.heap.size w wr) := stepB HW4.out HR.out (Nat.le_refl _)
                by_cases hk : k < nL
                · have hk' : ((k : Int) < (nL : Int)) := by omega
                  have hk0 : (0 : Int) ≤ (k : Int) := by omega
                  have hwk := IntWalk.i64_in ((k : Int) + 1) ⟨by omega, by have := HL2.out; omega⟩
                  obtain ⟨x, hx⟩ : ∃ x, L[k]? = some x := ⟨_, List.getElem?_eq_getElem (by rw [HL1.out]; exact hk)⟩
                  obtain ⟨aL, rfl, hcl⟩ := HL4.out k x hx
                  have hcl : wr.cell? (aL.add k) = some (.int .i64 x) := ((HR.out.cell (World.block_lt_of_cell? _ _ hcl)).trans hcl)
                  obtain ⟨hx0, hxo⟩ := HOC.out x ((HL3.out.is x).1 (List.mem_of_getElem? hx))
                  have HKN := Lib.hid hk
                  clear hx
                  by_cases hxn : x < (nA : Int)
                  · obtain ⟨xx, rfl⟩ : ∃ n : Nat, x = (n : Int) := ⟨x.toNat, by omega⟩
                    have hxa : xx < nA := by omega
                    have hxx0 : (0 : Int) ≤ (xx : Int) := by omega
                    obtain ⟨y, hy⟩ : ∃ y, A[xx]? = some y := ⟨_, List.getElem?_eq_getElem (by rw [HNA.out]; exact hxa)⟩
                    have hyt : TT[xx]? = some y := (HTB.out xx hxa (by have := hxo; rwa [Int.toNat_natCast] at this)).trans hy
                    obtain ⟨aG, g0, g1, g2, g3, g4, rfl, hcg, hgg⟩ := HGY.out.at_ xx hyt
                    obtain ⟨aA, a0, a1, a2, a3, a4, rfl, hca, haa⟩ := HAY.out.at_ xx hy
                    rw [Nat.zero_add] at hcg hca
                    have HEQ : Hid (∀ V, Below wr.heap.size wr V → Calls Try.prog 19 #[.agg #[g0, g1, g2, g3, g4], .agg #[a0, a1, a2, a3, a4]] V fun e w' => e = .returned (.bool true) ∧ Below V.heap.size V w') := Lib.hid (fun V hV => equal_any _ y _ _ _ (Nat.lt_succ_self _) (hgg.below (stepB (stepB HR4.out HR.out (Nat.le_refl _)) hV (Nat.le_refl _))) (haa.below (stepB HWW.out hV (Nat.le_refl _))))
                    have HCG : Hid (∀ (i : Nat) (v : Value), [g0, g1, g2, g3, g4][i]? = some v → wr.cell? ((aG.add (xx * 5)).add i) = some v) := mvc (stepB HR4.out HR.out (Nat.le_refl _)) hcg
                    have HCA : Hid (∀ (i : Nat) (v : Value), [a0, a1, a2, a3, a4][i]? = some v → wr.cell? ((aA.add (xx * 5)).add i) = some v) := mvc HWW.out hca
                    clear hyt hy hcg hca hgg haa hxo
                    go_upto_region 30 with fail
                    have hS0 : (fun w' : World => Below wr.heap.size wr w') wr.drew := (Below.refl _ _).drew
                    refine wp_region_held_drew (S := (fun w' : World => Below wr.heap.size wr w')) (by kernel_rfl) hS0 fun hS0 => ?_
                    refine wpAnyH_take (i := 0) (v := .slice (some aL) nL cL) rfl (by kernel_rfl) (by kernel_rfl) (by kernel_rfl) (fun _ _ _ h => h) (Or.inl ⟨by kernel_rfl, fun w' hw' => ?_⟩) hS0 ?_
                    · go_simp
                    refine wpAnyH_take (i := 1) (v := .int .i64 (k : Int)) rfl (by kernel_rfl) (by kernel_rfl) (by kernel_rfl) (fun _ _ _ h => h) (Or.inl ⟨by kernel_rfl, fun w' hw' => ?_⟩) hS0 ?_
                    · go_simp
                    refine wpAnyH_take (i := 2) (v := .pointer (some (aL.add k))) rfl (by kernel_rfl) (by kernel_rfl) (by kernel_rfl) (fun _ _ _ h => h) (Or.inl ⟨by kernel_rfl, fun w' hw' => ?_⟩) hS0 ?_
                    · go_simp
                    refine wpAnyH_take (i := 3) (v := .int .i64 (xx : Int)) rfl (by kernel_rfl) (by kernel_rfl) (by kernel_rfl) (fun _ _ _ h => h) (Or.inl ⟨by kernel_rfl, fun w' hw' => ?_⟩) hS0 ?_
                    · have h3 := (Below.cell hw' (World.block_lt_of_cell? _ _ hcl)).trans hcl; go_simp
                    refine wpAnyH_take (i := 4) (v := .slice (some aA) nA cA) rfl (by kernel_rfl) (by kernel_rfl) (by kernel_rfl) (fun _ _ _ h => h) (Or.inl ⟨by kernel_rfl, fun w' hw' => ?_⟩) hS0 ?_
                    · go_simp
                    refine wpAnyH_take (i := 5) (v := .int .i64 (nA : Int)) rfl (by kernel_rfl) (by kernel_rfl) (by kernel_rfl) (fun _ _ _ h => h) (Or.inl ⟨by kernel_rfl, fun w' hw' => ?_⟩) hS0 ?_
                    · go_simp
                    refine wpAnyH_take (i := 6) (v := .bool true) rfl (by kernel_rfl) (by kernel_rfl) (by kernel_rfl) (fun _ _ _ h => h) (Or.inl ⟨by kernel_rfl, fun w' hw' => ?_⟩) hS0 ?_
                    · go_simp
                    refine wpAnyH_take (i := 7) (v := .bool true) rfl (by kernel_rfl) (by kernel_rfl) (by kernel_rfl) (fun _ _ _ h => h) (Or.inl ⟨by kernel_rfl, fun w' hw' => ?_⟩) hS0 ?_
                    · go_simp
                    refine wpAnyH_take (i := 8) (v := .slice (some aG) nA cG) rfl (by kernel_rfl) (by kernel_rfl) (by kernel_rfl) (fun _ _ _ h => h) (Or.inl ⟨by kernel_rfl, fun w' hw' => ?_⟩) hS0 ?_
                    · go_simp
                    refine wpAnyH_take (i := 9) (v := .slice (some aL) nL cL) rfl (by kernel_rfl) (by kernel_rfl) (by kernel_rfl) (fun _ _ _ h => h) (Or.inl ⟨by kernel_rfl, fun w' hw' => ?_⟩) hS0 ?_
                    · go_simp
                    refine wpAnyH_take (i := 10) (v := .int .i64 (k : Int)) rfl (by kernel_rfl) (by kernel_rfl) (by kernel_rfl) (fun _ _ _ h => h) (Or.inl ⟨by kernel_rfl, fun w' hw' => ?_⟩) hS0 ?_
                    · go_simp
                    refine wpAnyH_take (i := 11) (v := .pointer (some (aL.add k))) rfl (by kernel_rfl) (by kernel_rfl) (by kernel_rfl) (fun _ _ _ h => h) (Or.inl ⟨by kernel_rfl, fun w' hw' => ?_⟩) hS0 ?_
                    · go_simp
                    refine wpAnyH_take (i := 12) (v := .int .i64 (xx : Int)) rfl (by kernel_rfl) (by kernel_rfl) (by kernel_rfl) (fun _ _ _ h => h) (Or.inl ⟨by kernel_rfl, fun w' hw' => ?_⟩) hS0 ?_
                    · have h3 := (Below.cell hw' (World.block_lt_of_cell? _ _ hcl)).trans hcl; go_simp
                    refine wpAnyH_take (i := 13) (v := .pointer (some (aG.add (xx * 5)))) rfl (by kernel_rfl) (by kernel_rfl) (by kernel_rfl) (fun _ _ _ h => h) (Or.inl ⟨by kernel_rfl, fun w' hw' => ?_⟩) hS0 ?_
                    · go_simp
                    refine wpAnyH_take (i := 14) (v := .agg #[g0, g1, g2, g3, g4]) rfl (by kernel_rfl) (by kernel_rfl) (by kernel_rfl) (fun _ _ _ h => h) (Or.inl ⟨by kernel_rfl, fun w' hw' => ?_⟩) hS0 ?_
                    · exact run_loadG 34 5 size5 Try.underlying34 _ rfl (aG.add (xx * 5)) (by kernel_rfl) (cs := [g0, g1, g2, g3, g4]) (mvc hw' HCG.out) rfl
                    refine wpAnyH_take (i := 15) (v := .slice (some aA) nA cA) rfl (by kernel_rfl) (by kernel_rfl) (by kernel_rfl) (fun _ _ _ h => h) (Or.inl ⟨by kernel_rfl, fun w' hw' => ?_⟩) hS0 ?_
                    · go_simp
                    refine wpAnyH_take (i := 16) (v := .slice (some aL) nL cL) rfl (by kernel_rfl) (by kernel_rfl) (by kernel_rfl) (fun _ _ _ h => h) (Or.inl ⟨by kernel_rfl, fun w' hw' => ?_⟩) hS0 ?_
                    · go_simp
                    refine wpAnyH_take (i := 17) (v := .int .i64 (k : Int)) rfl (by kernel_rfl) (by kernel_rfl) (by kernel_rfl) (fun _ _ _ h => h) (Or.inl ⟨by kernel_rfl, fun w' hw' => ?_⟩) hS0 ?_
                    · go_simp
                    refine wpAnyH_take (i := 18) (v := .pointer (some (aL.add k))) rfl (by kernel_rfl) (by kernel_rfl) (by kernel_rfl) (fun _ _ _ h => h) (Or.inl ⟨by kernel_rfl, fun w' hw' => ?_⟩) hS0 ?_
                    · go_simp
                    refine wpAnyH_take (i := 19) (v := .int .i64 (xx : Int)) rfl (by kernel_rfl) (by kernel_rfl) (by kernel_rfl) (fun _ _ _ h => h) (Or.inl ⟨by kernel_rfl, fun w' hw' => ?_⟩) hS0 ?_
                    · have h3 := (Below.cell hw' (World.block_lt_of_cell? _ _ hcl)).trans hcl; go_simp
                    refine wpAnyH_take (i := 20) (v := .pointer (some (aA.add (xx * 5)))) rfl (by kernel_rfl) (by kernel_rfl) (by kernel_rfl) (fun _ _ _ h => h) (Or.inl ⟨by kernel_rfl, fun w' hw' => ?_⟩) hS0 ?_
                    · go_simp
                    refine wpAnyH_take (i := 21) (v := .agg #[a0, a1, a2, a3, a4]) rfl (by kernel_rfl) (by kernel_rfl) (by kernel_rfl) (fun _ _ _ h => h) (Or.inl ⟨by kernel_rfl, fun w' hw' => ?_⟩) hS0 ?_
                    · exact run_loadG 34 5 size5 Try.underlying34 _ rfl (aA.add (xx * 5)) (by kernel_rfl) (cs := [a0, a1, a2, a3, a4]) (mvc hw' HCA.out) rfl
                    obtain ⟨V0, hV0⟩ : ∃ V0, wr.drew = V0 := ⟨_, rfl⟩
                    rw [hV0] at hS0 ⊢
                    clear hV0
                    refine wpAnyH_ready (rs := [22]) (by kernel_rfl) (by simp) (AllReadyH.cons rfl (fun KK hK => ?_) AllReadyH.nil)
                    go_simp
                    refine (HEQ.out _ hS0).mono ?_
                    rintro e V6 ⟨rfl, hb⟩
                    have hS0 := stepB hS0 hb (Nat.le_refl _)
                    refine hK.out _ _ hS0 (fun hS0 => ?_)
                    refine wpAnyH_take (i := 23) (v := .bool false) rfl (by kernel_rfl) (by kernel_rfl) (by kernel_rfl) (fun _ _ _ h => h) (Or.inl ⟨by kernel_rfl, fun w' hw' => ?_⟩) hS0 ?_
                    · go_simp
                    refine wpAnyH_take (i := 24) (v := .bool false) rfl (by kernel_rfl) (by kernel_rfl) (by kernel_rfl) (fun _ _ _ h => h) (Or.inl ⟨by kernel_rfl, fun w' hw' => ?_⟩) hS0 ?_
                    · go_simp
                    refine wpAnyH_done' (by kernel_rfl) { tmps := #[.slice (some aP) j cP, .slice (some aA) nA cA, undef, undef, u4, .bool true, .bool true, .bool true, .int .i64 (jA : Int), u9, .slice op j cp, .int .i64 (j : Int), u12, .slice (some aG) nA cG, .int .i64 (i : Int), .slice (some aL) nL cL, .int .i64 (k : Int), .bool true, .slice (some aP) j cP, .bool true, .slice (some aA) nA cA, .bool true, .bool true, .bool false, .bool false, .bool true, .bool false, .bool false, .bool false, .slice (some aA) nA cA, .int .i64 (nA : Int), .bool (decide ((nA : Int) < 1)), .bool (decide ((nA : Int) < 1)), .bool (decide ((nA : Int) < 1)), .slice (some aA) nA cA, .int .i64 (nA : Int), .bool (decide (16 < (nA : Int))), .bool (decide ((nA : Int) < 1) || decide (16 < (nA : Int))), undef, .int .i64 (jA : Int), .slice (some aA) nA cA, .int .i64 (nA : Int), .bool false, u43, u44, u45, u46, u47, u48, u49, u50, u51, u52, u53, u54, u55, u56, u57, u58, u59, u60, u61, u62, u63, u64, u65, u66, u67, u68, u69, u70, u71, u72, u73, u74, u75, u76, u77, .int .i64 (j : Int), .slice (some aP) j cP, .int .i64 (j : Int), .bool false, u82, u83, u84, u85, u86, u87, u88, u89, u90, u91, u92, u93, u94, u95, u96, u97, u98, u99, u100, .slice (some aP) j cP, .slice op j cp, .slice (some aA) nA cA, .int .i64 (nA : Int), .slice (some aG) nA cG, .slice (some aG) nA cG, .int .i64 (nA : Int), .slice (some aA) nA cA, .int .i64 (nA : Int), .bool false, .int .i64 (i : Int), .slice (some aP) j cP, .int .i64 (j : Int), .bool true, u115, u116, .slice (some aP) j cP, .int .i64 (i : Int), .pointer (some (aP.add (i * 5))), .agg #[y0, y1, y2, y3, y4], .slice (some aL) nL cL, .int .i64 (k : Int), .slice (some aL) nL cL, .int .i64 (nL : Int), .bool true, u126, u127, .slice (some aL) nL cL, .int .i64 (k : Int), .pointer (some (aL.add k)), .int .i64 (xx : Int), .slice (some aA) nA cA, .int .i64 (nA : Int), .bool true, .bool true, .slice (some aG) nA cG, .slice (some aL) nL cL, .int .i64 (k : Int), .pointer (some (aL.add k)), .int .i64 (xx : Int), .pointer (some (aG.add (xx * 5))), .agg #[g0, g1, g2, g3, g4], .slice (some aA) nA cA, .slice (some aL) nL cL, .int .i64 (k : Int), .pointer (some (aL.add k)), .int .i64 (xx : Int), .pointer (some (aA.add (xx * 5))), .agg #[a0, a1, a2, a3, a4], .bool true, .bool false, .bool false, undef], defers := [] } (by kernel_rfl) ?_
                    have H6 := Lib.hid (stepB HR.out hS0 (Nat.le_refl _))
                    clear hS0 hb hcl
                    go_wp2
                    case roundEnd => exact ⟨⟨k + 1, by push_cast; rfl, HKN.out, H6⟩, by have := HKN.out; simp [RowKit.intOf]; omega⟩
                  · clear hxo
                    go_upto_region 30 with fail
                    have hS0 : (fun w' : World => Below wr.heap.size wr w') wr.drew := (Below.refl _ _).drew
                    refine wp_region_held_drew (S := (fun w' : World => Below wr.heap.size wr w')) (by kernel_rfl) hS0 fun hS0 => ?_
                    refine wpAnyH_take (i := 0) (v := .slice (some aL) nL cL) rfl (by kernel_rfl) (by kernel_rfl) (by kernel_rfl) (fun _ _ _ h => h) (Or.inl ⟨by kernel_rfl, fun w' hw' => ?_⟩) hS0 ?_
                    · go_simp
                    refine wpAnyH_take (i := 1) (v := .int .i64 (k : Int)) rfl (by kernel_rfl) (by kernel_rfl) (by kernel_rfl) (fun _ _ _ h => h) (Or.inl ⟨by kernel_rfl, fun w' hw' => ?_⟩) hS0 ?_
                    · go_simp
                    refine wpAnyH_take (i := 2) (v := .pointer (some (aL.add k))) rfl (by kernel_rfl) (by kernel_rfl) (by kernel_rfl) (fun _ _ _ h => h) (Or.inl ⟨by kernel_rfl, fun w' hw' => ?_⟩) hS0 ?_
                    · go_simp
                    refine wpAnyH_take (i := 3) (v := .int .i64 x) rfl (by kernel_rfl) (by kernel_rfl) (by kernel_rfl) (fun _ _ _ h => h) (Or.inl ⟨by kernel_rfl, fun w' hw' => ?_⟩) hS0 ?_
                    · have h3 := (Below.cell hw' (World.block_lt_of_cell? _ _ hcl)).trans hcl; go_simp
                    refine wpAnyH_take (i := 4) (v := .slice oA nA cA) rfl (by kernel_rfl) (by kernel_rfl) (by kernel_rfl) (fun _ _ _ h => h) (Or.inl ⟨by kernel_rfl, fun w' hw' => ?_⟩) hS0 ?_
                    · go_simp
                    refine wpAnyH_take (i := 5) (v := .int .i64 (nA : Int)) rfl (by kernel_rfl) (by kernel_rfl) (by kernel_rfl) (fun _ _ _ h => h) (Or.inl ⟨by kernel_rfl, fun w' hw' => ?_⟩) hS0 ?_
                    · go_simp
                    refine wpAnyH_take (i := 6) (v := .bool false) rfl (by kernel_rfl) (by kernel_rfl) (by kernel_rfl) (fun _ _ _ h => h) (Or.inl ⟨by kernel_rfl, fun w' hw' => ?_⟩) hS0 ?_
                    · go_simp
                    refine wpAnyH_take (i := 7) (v := .bool false) rfl (by kernel_rfl) (by kernel_rfl) (by kernel_rfl) (fun _ _ _ h => h) (Or.inl ⟨by kernel_rfl, fun w' hw' => ?_⟩) hS0 ?_
                    · go_simp
                    refine wpAnyH_take (i := 8) (v := undef) rfl (by kernel_rfl) (by kernel_rfl) (by kernel_rfl) (fun _ _ _ h => h) (Or.inr ⟨by kernel_rfl, by kernel_rfl⟩) hS0 ?_
                    refine wpAnyH_take (i := 9) (v := undef) rfl (by kernel_rfl) (by kernel_rfl) (by kernel_rfl) (fun _ _ _ h => h) (Or.inr ⟨by kernel_rfl, by kernel_rfl⟩) hS0 ?_
                    refine wpAnyH_take (i := 10) (v := undef) rfl (by kernel_rfl) (by kernel_rfl) (by kernel_rfl) (fun _ _ _ h => h) (Or.inr ⟨by kernel_rfl, by kernel_rfl⟩) hS0 ?_
                    refine wpAnyH_take (i := 11) (v := undef) rfl (by kernel_rfl) (by kernel_rfl) (by kernel_rfl) (fun _ _ _ h => h) (Or.inr ⟨by kernel_rfl, by kernel_rfl⟩) hS0 ?_
                    refine wpAnyH_take (i := 12) (v := undef) rfl (by kernel_rfl) (by kernel_rfl) (by kernel_rfl) (fun _ _ _ h => h) (Or.inr ⟨by kernel_rfl, by kernel_rfl⟩) hS0 ?_
                    refine wpAnyH_take (i := 13) (v := undef) rfl (by kernel_rfl) (by kernel_rfl) (by kernel_rfl) (fun _ _ _ h => h) (Or.inr ⟨by kernel_rfl, by kernel_rfl⟩) hS0 ?_
                    refine wpAnyH_take (i := 14) (v := undef) rfl (by kernel_rfl) (by kernel_rfl) (by kernel_rfl) (fun _ _ _ h => h) (Or.inr ⟨by kernel_rfl, by kernel_rfl⟩) hS0 ?_
                    refine wpAnyH_take (i := 15) (v := undef) rfl (by kernel_rfl) (by kernel_rfl) (by kernel_rfl) (fun _ _ _ h => h) (Or.inr ⟨by kernel_rfl, by kernel_rfl⟩) hS0 ?_
                    refine wpAnyH_take (i := 16) (v := undef) rfl (by kernel_rfl) (by kernel_rfl) (by kernel_rfl) (fun _ _ _ h => h) (Or.inr ⟨by kernel_rfl, by kernel_rfl⟩) hS0 ?_
                    refine wpAnyH_take (i := 17) (v := undef) rfl (by kernel_rfl) (by kernel_rfl) (by kernel_rfl) (fun _ _ _ h => h) (Or.inr ⟨by kernel_rfl, by kernel_rfl⟩) hS0 ?_
                    refine wpAnyH_take (i := 18) (v := undef) rfl (by kernel_rfl) (by kernel_rfl) (by kernel_rfl) (fun _ _ _ h => h) (Or.inr ⟨by kernel_rfl, by kernel_rfl⟩) hS0 ?_
                    refine wpAnyH_take (i := 19) (v := undef) rfl (by kernel_rfl) (by kernel_rfl) (by kernel_rfl) (fun _ _ _ h => h) (Or.inr ⟨by kernel_rfl, by kernel_rfl⟩) hS0 ?_
                    refine wpAnyH_take (i := 20) (v := undef) rfl (by kernel_rfl) (by kernel_rfl) (by kernel_rfl) (fun _ _ _ h => h) (Or.inr ⟨by kernel_rfl, by kernel_rfl⟩) hS0 ?_
                    refine wpAnyH_take (i := 21) (v := undef) rfl (by kernel_rfl) (by kernel_rfl) (by kernel_rfl) (fun _ _ _ h => h) (Or.inr ⟨by kernel_rfl, by kernel_rfl⟩) hS0 ?_
                    refine wpAnyH_take (i := 22) (v := undef) rfl (by kernel_rfl) (by kernel_rfl) (by kernel_rfl) (fun _ _ _ h => h) (Or.inr ⟨by kernel_rfl, by kernel_rfl⟩) hS0 ?_
                    refine wpAnyH_take (i := 23) (v := undef) rfl (by kernel_rfl) (by kernel_rfl) (by kernel_rfl) (fun _ _ _ h => h) (Or.inr ⟨by kernel_rfl, by kernel_rfl⟩) hS0 ?_
                    refine wpAnyH_take (i := 24) (v := .bool false) rfl (by kernel_rfl) (by kernel_rfl) (by kernel_rfl) (fun _ _ _ h => h) (Or.inl ⟨by kernel_rfl, fun w' hw' => ?_⟩) hS0 ?_
                    · go_simp
                    refine wpAnyH_done' (by kernel_rfl) { tmps := #[.slice (some aP) j cP, .slice oA nA cA, undef, undef, u4, .bool true, .bool true, .bool true, .int .i64 (jA : Int), u9, .slice op j cp, .int .i64 (j : Int), u12, .slice oG nA cG, .int .i64 (i : Int), .slice (some aL) nL cL, .int .i64 (k : Int), .bool true, .slice (some aP) j cP, .bool true, .slice oA nA cA, .bool true, .bool true, .bool false, .bool false, .bool true, .bool false, .bool false, .bool false, .slice oA nA cA, .int .i64 (nA : Int), .bool (decide ((nA : Int) < 1)), .bool (decide ((nA : Int) < 1)), .bool (decide ((nA : Int) < 1)), .slice oA nA cA, .int .i64 (nA : Int), .bool (decide (16 < (nA : Int))), .bool (decide ((nA : Int) < 1) || decide (16 < (nA : Int))), undef, .int .i64 (jA : Int), .slice oA nA cA, .int .i64 (nA : Int), .bool false, u43, u44, u45, u46, u47, u48, u49, u50, u51, u52, u53, u54, u55, u56, u57, u58, u59, u60, u61, u62, u63, u64, u65, u66, u67, u68, u69, u70, u71, u72, u73, u74, u75, u76, u77, .int .i64 (j : Int), .slice (some aP) j cP, .int .i64 (j : Int), .bool false, u82, u83, u84, u85, u86, u87, u88, u89, u90, u91, u92, u93, u94, u95, u96, u97, u98, u99, u100, .slice (some aP) j cP, .slice op j cp, .slice oA nA cA, .int .i64 (nA : Int), .slice oG nA cG, .slice oG nA cG, .int .i64 (nA : Int), .slice oA nA cA, .int .i64 (nA : Int), .bool false, .int .i64 (i : Int), .slice (some aP) j cP, .int .i64 (j : Int), .bool true, u115, u116, .slice (some aP) j cP, .int .i64 (i : Int), .pointer (some (aP.add (i * 5))), .agg #[y0, y1, y2, y3, y4], .slice (some aL) nL cL, .int .i64 (k : Int), .slice (some aL) nL cL, .int .i64 (nL : Int), .bool true, u126, u127, .slice (some aL) nL cL, .int .i64 (k : Int), .pointer (some (aL.add k)), .int .i64 x, .slice oA nA cA, .int .i64 (nA : Int), .bool false, .bool false, undef, undef, undef, undef, undef, undef, undef, undef, undef, undef, undef, undef, undef, undef, undef, undef, .bool false, undef], defers := [] } (by kernel_rfl) ?_
                    have H6 := Lib.hid (stepB HR.out hS0 (Nat.le_refl _))
                    clear hS0 hcl
                    go_wp2
                    case roundEnd => exact ⟨⟨k + 1, by push_cast; rfl, HKN.out, H6⟩, by have := HKN.out; simp [RowKit.intOf]; omega⟩
                · have hk' : ¬ ((k : Int) < (nL : Int)) := by omega
                  have H5 := Lib.hid (stepB HR4.out HR.out (Nat.le_refl _))
                  go_wp2
                  case roundEnd => exact ⟨⟨i + 1, by push_cast; rfl, HJN.out, H5⟩, by have := HJN.out; simp [RowKit.intOf]; omega⟩
            · have hj' : ¬ ((i : Int) < (j : Int)) := by omega
              have H5 : Hid (Below w.heap.size w wr) := HWW
              go_wp2
              go_ret
              exact ⟨rfl, H5.out⟩
open Go.ChangeShapes Go.WideShapes Go.ChangeAt Go.ChangeMaps
theorem laidOut : laidOutB Try.prog = true := by kernel_rfl
theorem own : ownKnob Try.prog.godebug = none := by kernel_rfl

theorem int_range {n : Int} (h : (Lit.int .i64 n).wf = true) : -9223372036854775808 ≤ n ∧ n ≤ 9223372036854775807 := by
  have h2 : IntKind.i64.min ≤ n ∧ n ≤ IntKind.i64.max := by
    unfold Lit.wf at h
    simpa only [Bool.and_eq_true, decide_eq_true_eq] using h
  rw [show IntKind.i64.min = -9223372036854775808 by decide, show IntKind.i64.max = 9223372036854775807 by decide] at h2
  exact h2

set_option maxRecDepth 100000 in
theorem lifted (os : Os) (started : os.Started) (H : Type) (enc : TypeId × Value → H) :
    ReturnsInHanded {} Try.checked os 6 .any (Rows.inferBackSpec.pre6 enc Try.prog Try.f6 Rows.inferBackRow.domain false) (Rows.inferBackSpec.post enc Try.prog Try.f6 false true false false) := by
  refine returnsInHanded_of_change_sized (C := Try.checked) own started (by kernel_rfl) Try.func6
    (ChangeSpec.witness6 (enc := enc) (C := Try.checked) false ⟨#[], #[.slice none 0 0, .slice none 0 0], []⟩ 8 (by kernel_rfl) (by kernel_rfl) (by kernel_rfl) (by kernel_rfl)) ?_
  intro W base args ds gs before hval0 hW hcnd hsz _
  have hval : ∀ (j : Nat) t v, Try.f6.params[j]? = some t → args[j]? = some v → Value.okWide Try.prog W .any base t v := hval0
  have hW' := hW
  obtain ⟨p, q, hA0, hV, rfl, hfz, hnd⟩ := hW
  have hA : DataW.TrodAll enc Try.prog W 0 (fun _ => true) true Try.f6.params.toList args.toList ds p := hA0
  rw [Try.params6] at hA hval
  obtain ⟨v0, vs0, d0, ds0, p0, q0, hargs, rfl, rfl, h0, r0⟩ := trodAll_cons hA
  obtain ⟨v1, vs1, d1, ds1, p1, q1, rfl, rfl, rfl, h1, r1⟩ := trodAll_cons r0
  obtain ⟨rfl, rfl, rfl⟩ := trodAll_nil r1
  obtain rfl : args = #[v0, v1] := by cases args; simp_all
  obtain ⟨rfl, rfl⟩ := trodVars_none hV
  have t0 := h0
  obtain ⟨fl0, k0⟩ := h0
  have lt0 : ∀ x ∈ p0, x.block < W.heap.size := fun x hx => by simpa using hW'.lt x (by simp [hx])
  obtain ⟨oo0, ll0, cc0, rfl⟩ := okWide_slice Try.underlying23 (hval 0 23 v0 rfl rfl)
  have kk0 : DataW.trod enc Try.prog W 0 (fun _ => true) true fl0 23 [.slice oo0 ll0 cc0] = some (d0, p0) := k0
  obtain ⟨o0, l0, c0, e0, lc0, cm0, g0, s0⟩ := open_ys kk0
  have m0 := (s0 reachBytes (fun k hk => by simpa using List.all_eq_true.1 hsz k (DataW.weights_mem_each (j := 0) rfl rfl k hk))).1
  simp only [List.cons.injEq, and_true, Value.slice.injEq] at e0
  obtain ⟨rfl, rfl, rfl⟩ := e0
  have b0 : WfYs l0 := wf_ys rfl kk0 g0
  have t1 := h1
  obtain ⟨fl1, k1⟩ := h1
  have lt1 : ∀ x ∈ p1, x.block < W.heap.size := fun x hx => by simpa using hW'.lt x (by simp [hx])
  obtain ⟨oo1, ll1, cc1, rfl⟩ := okWide_slice Try.underlying23 (hval 1 23 v1 rfl rfl)
  have kk1 : DataW.trod enc Try.prog W 0 (fun _ => true) true fl1 23 [.slice oo1 ll1 cc1] = some (d1, p1) := k1
  obtain ⟨o1, l1, c1, e1, lc1, cm1, g1, s1⟩ := open_ys kk1
  have m1 := (s1 reachBytes (fun k hk => by simpa using List.all_eq_true.1 hsz k (DataW.weights_mem_each (j := 1) rfl rfl k hk))).1
  simp only [List.cons.injEq, and_true, Value.slice.injEq] at e1
  obtain ⟨rfl, rfl, rfl⟩ := e1
  have b1 : WfYs l1 := wf_ys rfl kk1 g1
  clear hA0 hval0
  simp only [List.append_nil] at hW'
  refine (walk awake_any l0 oo0 cc0 l1 oo1 cc1 W g0 lc0 cm0 m0 b0 g1 lc1 cm1 m1 b1).mono fun e W' ⟨he, hg⟩ => ?_
  subst he
  exact ⟨_, rfl, _, _, _, [], _, [], hW', (trodAll_cons_mk (shut_bool Try.underlying4 _) trodAll_mk0), (trodAll_cons_mk (Below.trod laidOut (by kernel_rfl) (of_decide_eq_true (by kernel_rfl)) t0 hg lt0) (trodAll_cons_mk (Below.trod laidOut (by kernel_rfl) (of_decide_eq_true (by kernel_rfl)) t1 hg lt1) trodAll_mk0)), rfl, hg.frame _, fun h => by cases h⟩

theorem over : Rows.inferBackRow.holds Try.pinned (OpenSpec.ofChange Rows.inferBackSpec) :=
  OpenClaim.holds_of_wide 6 Try.f6 rfl rfl rfl rfl rfl rfl rfl ⟨rfl, rfl, rfl, rfl, rfl⟩ rfl rfl rfl rfl rfl (by kernel_rfl) Try.func6 (by kernel_rfl)
    (of_decide_eq_true (by kernel_rfl)) (by unfold Func.isWrapper; first | (rw [if_pos (by decide +kernel)]; kernel_rfl) | (rw [if_neg (by decide +kernel)]; exact ⟨rfl, rfl⟩))
    (fun os started H enc _ => lifted os started H enc)

/-- InferBack answers true. -/
theorem proved : Rows.InferBackSaid :=
  over

end Go.Proofs.Ytlakmniaocpaaaa.inferBack
