/-
  InferUnifies: what any arguments tell for any parameters is what the chapter says. No condition.
-/
import Derived.Test.YtlakmniaocpaaaaM24
import Derived.Test.YtlakmniaocpaaaaM25
import Derived.ProofKit
import Derived.OpenShut
import Derived.ChangeMaps5
namespace Go.Proofs.Ytlakmniaocpaaaa.inferUnifies
open Go.RowKit
open Go.Lib hiding intOf

set_option maxRecDepth 100000 in
set_option maxHeartbeats 32000000 in
theorem walk (haw : Awk) (P : List GY) (oP : Option Addr) (cP : Nat) (A : List GY) (oA : Option Addr) (cA : Nat) (n : Int) (w : World) (hP : IsYs w oP 0 P) (lcP : P.length ≤ cP) (cmP : cP ≤ maxLen) (_fP : FitYs 140737488351232 P) (wfP : WfYs P) (hA : IsYs w oA 0 A) (lcA : A.length ≤ cA) (cmA : cA ≤ maxLen) (fA : FitYs 140737488351232 A) (_wfA : WfYs A) :
    Calls Try.prog 4 #[.slice oP P.length cP, .slice oA A.length cA, .int .i64 n] w fun e w' => e = .returned (.bool true) ∧ Below w.heap.size w w' := by
  have hlP : P.length ≤ 9223372036854775807 := by unfold maxLen at cmP; omega
  have hlA : A.length ≤ 9223372036854775807 := by unfold maxLen at cmA; omega
  have HAW := Lib.hid haw
  have HS1 := Lib.hid (fun V (hV : Below w.heap.size w V) => small12_any P oP cP w V hP hlP hV)
  have HS2 := Lib.hid (fun V (hV : Below w.heap.size w V) => small12_any A oA cA w V hA hlA hV)
  have HU := Lib.hid (fun V (hV : Below w.heap.size w V) (hs : Sml P) => unifyP_any 140737488351232 (by decide) P A oP oA cP cA n w V (EntL.of lcP cmP hP) (EntL.of lcA cmA hA) wfP fA (cnts_small hs) hV)
  have HR := Lib.hid (fun V (hV : Below w.heap.size w V) => unifyR_any P A oP oA cP cA n w V hP hA hlP hV)
  have HTL := Lib.hid (toldY_len P A n)
  clear haw hP lcP cmP wfP hA lcA cmA fA hlP hlA
  generalize P.length = nP at *
  generalize A.length = nA at *
  go_enter Try.func4, Try.ntmps4
  go_wp2_with fail
  refine (HAW.out _).mono ?_
  rintro e U0 ⟨rfl, hb⟩
  have H0 := Lib.hid hb
  clear hb
  go_wp2_with fail
  refine (HS1.out _ H0.out).mono ?_
  rintro e U1 ⟨⟨b1, rfl, hs1⟩, hb⟩
  have H1 := Lib.hid (stepB H0.out hb (Nat.le_refl _))
  have HQ1 := Lib.hid hs1
  clear hb hs1
  go_wp2_with fail
  refine (HS2.out _ H1.out).mono ?_
  rintro e U2 ⟨⟨b2, rfl, hs2⟩, hb⟩
  have H2 := Lib.hid (stepB H1.out hb (Nat.le_refl _))
  clear hb hs2
  cases b1 with
  | false =>
    go_wp2
    go_ret
    exact ⟨rfl, H2.out⟩
  | true =>
    cases b2 with
    | false =>
      go_wp2
      go_ret
      exact ⟨rfl, H2.out⟩
    | true =>
      go_wp2_with fail
      refine (HU.out _ H2.out (HQ1.out (by first | rfl | trivial))).mono ?_
      rintro e U3 ⟨o3, c3, rfl, _, _, hy3, hb⟩
      have H3 := Lib.hid (stepB H2.out hb (Nat.le_refl _))
      have HY3 := Lib.hid hy3
      clear hb hy3
      go_wp2_with fail
      refine (HR.out _ H3.out).mono ?_
      rintro e U4 ⟨⟨u, rfl, hu⟩, hb⟩
      have H4 := Lib.hid (stepB H3.out hb (Nat.le_refl _))
      have HY34 := Lib.hid (HY3.out.below hb)
      have hyr : ∃ (o : Option Addr) (c : Nat), u = .slice o (toldY P A n).length c ∧ IsYs U4 o 0 (toldY P A n) := by
        rcases hu with ⟨h1, rfl⟩ | ⟨g, h1, rfl, h3⟩
        · exact ⟨none, 0, by rw [h1]; rfl, by rw [h1]; exact IsYs.nil _ _ _⟩
        · exact ⟨_, _, rfl, h3.ys (H4.out)⟩
      obtain ⟨o4, c4, rfl, hy4⟩ := hyr
      have HF := Lib.hid (typesQ_any (toldY P A n) o3 o4 c3 c4 U4 U4 HY34.out hy4 (by have := HTL.out; omega) (Below.refl _ _))
      clear hb hu hy4
      generalize (toldY P A n).length = nT at *
      go_wp2_with fail
      refine HF.out.mono ?_
      rintro e U5 ⟨rfl, hb⟩
      have H5 := Lib.hid (stepB H4.out hb (Nat.le_refl _))
      clear hb
      go_wp2
      go_ret
      exact ⟨rfl, H5.out⟩
open Go.ChangeShapes Go.WideShapes Go.ChangeAt Go.ChangeMaps
theorem laidOut : laidOutB Try.prog = true := by kernel_rfl
theorem own : ownKnob Try.prog.godebug = none := by kernel_rfl

theorem int_range {n : Int} (h : (Lit.int .i64 n).wf = true) : -9223372036854775808 ≤ n ∧ n ≤ 9223372036854775807 := by
  have h2 : IntKind.i64.min ≤ n ∧ n ≤ IntKind.i64.max := by
    unfold Lit.wf at h
    simpa only [Bool.and_eq_true, decide_eq_true_eq] using h
  rw [show IntKind.i64.min = -9223372036854775808 by decide, show IntKind.i64.max = 9223372036854775807 by decide] at h2
  exact h2

set_option maxRecDepth 100000 in
theorem lifted (os : Os) (started : os.Started) (H : Type) (enc : TypeId × Value → H) :
    ReturnsInHanded {} Try.checked os 4 .any (Rows.inferUnifiesSpec.pre6 enc Try.prog Try.f4 Rows.inferUnifiesRow.domain false) (Rows.inferUnifiesSpec.post enc Try.prog Try.f4 false true false false) := by
  refine returnsInHanded_of_change_sized (C := Try.checked) own started (by kernel_rfl) Try.func4
    (ChangeSpec.witness6 (enc := enc) (C := Try.checked) false ⟨#[], #[.slice none 0 0, .slice none 0 0, .int .i64 0], []⟩ 8 (by kernel_rfl) (by kernel_rfl) (by kernel_rfl) (by kernel_rfl)) ?_
  intro W base args ds gs before hval0 hW hcnd hsz _
  have hval : ∀ (j : Nat) t v, Try.f4.params[j]? = some t → args[j]? = some v → Value.okWide Try.prog W .any base t v := hval0
  have hW' := hW
  obtain ⟨p, q, hA0, hV, rfl, hfz, hnd⟩ := hW
  have hA : DataW.TrodAll enc Try.prog W 0 (fun _ => true) true Try.f4.params.toList args.toList ds p := hA0
  rw [Try.params4] at hA hval
  obtain ⟨v0, vs0, d0, ds0, p0, q0, hargs, rfl, rfl, h0, r0⟩ := trodAll_cons hA
  obtain ⟨v1, vs1, d1, ds1, p1, q1, rfl, rfl, rfl, h1, r1⟩ := trodAll_cons r0
  obtain ⟨v2, vs2, d2, ds2, p2, q2, rfl, rfl, rfl, h2, r2⟩ := trodAll_cons r1
  obtain ⟨rfl, rfl, rfl⟩ := trodAll_nil r2
  obtain rfl : args = #[v0, v1, v2] := by cases args; simp_all
  obtain ⟨rfl, rfl⟩ := trodVars_none hV
  have t0 := h0
  obtain ⟨fl0, k0⟩ := h0
  have lt0 : ∀ x ∈ p0, x.block < W.heap.size := fun x hx => by simpa using hW'.lt x (by simp [hx])
  obtain ⟨oo0, ll0, cc0, rfl⟩ := okWide_slice Try.underlying23 (hval 0 23 v0 rfl rfl)
  have kk0 : DataW.trod enc Try.prog W 0 (fun _ => true) true fl0 23 [.slice oo0 ll0 cc0] = some (d0, p0) := k0
  obtain ⟨o0, l0, c0, e0, lc0, cm0, g0, s0⟩ := open_ys kk0
  have m0 := (s0 reachBytes (fun k hk => by simpa using List.all_eq_true.1 hsz k (DataW.weights_mem_each (j := 0) rfl rfl k hk))).1
  simp only [List.cons.injEq, and_true, Value.slice.injEq] at e0
  obtain ⟨rfl, rfl, rfl⟩ := e0
  have b0 : WfYs l0 := wf_ys rfl kk0 g0
  have t1 := h1
  obtain ⟨fl1, k1⟩ := h1
  have lt1 : ∀ x ∈ p1, x.block < W.heap.size := fun x hx => by simpa using hW'.lt x (by simp [hx])
  obtain ⟨oo1, ll1, cc1, rfl⟩ := okWide_slice Try.underlying23 (hval 1 23 v1 rfl rfl)
  have kk1 : DataW.trod enc Try.prog W 0 (fun _ => true) true fl1 23 [.slice oo1 ll1 cc1] = some (d1, p1) := k1
  obtain ⟨o1, l1, c1, e1, lc1, cm1, g1, s1⟩ := open_ys kk1
  have m1 := (s1 reachBytes (fun k hk => by simpa using List.all_eq_true.1 hsz k (DataW.weights_mem_each (j := 1) rfl rfl k hk))).1
  simp only [List.cons.injEq, and_true, Value.slice.injEq] at e1
  obtain ⟨rfl, rfl, rfl⟩ := e1
  have b1 : WfYs l1 := wf_ys rfl kk1 g1
  obtain ⟨a2, rfl, rfl, rfl, w2⟩ := open_int Try.underlying3 (hval 2 3 v2 rfl rfl) h2
  clear hA0 hval0
  simp only [List.append_nil] at hW'
  refine (walk awake_any l0 oo0 cc0 l1 oo1 cc1 a2 W g0 lc0 cm0 m0 b0 g1 lc1 cm1 m1 b1).mono fun e W' ⟨he, hg⟩ => ?_
  subst he
  exact ⟨_, rfl, _, _, _, [], _, [], hW', (trodAll_cons_mk (shut_bool Try.underlying4 _) trodAll_mk0), (trodAll_cons_mk (Below.trod laidOut (by kernel_rfl) (of_decide_eq_true (by kernel_rfl)) t0 hg lt0) (trodAll_cons_mk (Below.trod laidOut (by kernel_rfl) (of_decide_eq_true (by kernel_rfl)) t1 hg lt1) (trodAll_cons_mk (shut_int Try.underlying3 w2) trodAll_mk0))), rfl, hg.frame _, fun h => by cases h⟩

theorem over : Rows.inferUnifiesRow.holds Try.pinned (OpenSpec.ofChange Rows.inferUnifiesSpec) :=
  OpenClaim.holds_of_wide 4 Try.f4 rfl rfl rfl rfl rfl rfl rfl ⟨rfl, rfl, rfl, rfl, rfl⟩ rfl rfl rfl rfl rfl (by kernel_rfl) Try.func4 (by kernel_rfl)
    (of_decide_eq_true (by kernel_rfl)) (by unfold Func.isWrapper; first | (rw [if_pos (by decide +kernel)]; kernel_rfl) | (rw [if_neg (by decide +kernel)]; exact ⟨rfl, rfl⟩))
    (fun os started H enc _ => lifted os started H enc)

/-- InferUnifies answers true. -/
theorem proved : Rows.InferUnifiesSaid :=
  over

end Go.Proofs.Ytlakmniaocpaaaa.inferUnifies
