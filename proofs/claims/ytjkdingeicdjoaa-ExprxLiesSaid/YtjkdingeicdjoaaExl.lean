/-
  ExprxLies answers true, whatever the text. Condition: none beside the form's own reach.
-/
import Derived.Test.YtjkdingeicdjoaaExa
import Derived.Test.YtjkdingeicdjoaaWithin
import Derived.ProofKit
import Derived.OpenShut
import Derived.SizedLaws
namespace Go.Proofs.Ytjkdingeicdjoaa
open Go.RowKit
open Go.Lib hiding intOf

theorem chain_len {b : Int} : ∀ {a : Int} {ys : List EX}, chain a b ys → ((ys.length : Nat) : Int) ≤ b - a
  | a, [], h => by unfold chain at h; simp; omega
  | a, y :: r, h => by
    unfold chain at h
    have h1 := lies_wide h.2.1
    have h2 := chain_len h.2.2
    rw [List.length_cons]
    omega
theorem chain_mem {b : Int} : ∀ {a : Int} {ys : List EX} {k : Nat} {y : EX}, chain a b ys → ys[k]? = some y → lies y ∧ a ≤ y.pos ∧ y.stop ≤ b
  | _, [], _, _, _, h => by simp at h
  | a, x :: r, 0, y, h, hy => by
    simp at hy; subst hy
    unfold chain at h
    exact ⟨h.2.1, h.1, chain_le h.2.2⟩
  | a, x :: r, k + 1, y, h, hy => by
    unfold chain at h
    obtain ⟨h1, h2, h3⟩ := chain_mem h.2.2 (by simpa using hy)
    have := lies_wide h.2.1
    exact ⟨h1, by omega, h3⟩

/-- The statements' own 'within' answers true of what lies so. -/
theorem within_all : ∀ (n : Nat) (x : EX), SizeOf.sizeOf x < n → ∀ (P : Nat → Prop) (v : Value) (w : World), IsEP P w x v → lies x → x.stop - x.pos ≤ 9223372036854775807 →
    Calls Try.prog 10 #[v] w fun e w' => e = .returned (.bool true) ∧ Below w.heap.size w w'
  | 0, _, h => by omega
  | n + 1, x, h => fun P v w hv hl hb => by
    have hc := lies_chain hl
    have hlen := chain_len hc
    refine within_any x P v w hv hl (by omega) fun k y hy P' v' w' hv' hl' => ?_
    have hm := chain_mem hc hy
    exact within_all n y (by have := args_lt hy; omega) P' v' w' hv' hl' (by omega)

/-- An expression that a text begins with. -/
theorem exAll_span {s : List UInt8} {x : EX} {j : Int} (h : exAll s = .ok x j) : 1 ≤ j ∧ j < (toks s).length ∧ (tkAt ((toks s).map zTok) 0).pos ≤ x.pos ∧ x.stop ≤ (tkAt ((toks s).map zTok) (j - 1)).stop ∧ lies x ∧ x.stop - x.pos ≤ s.length := by
  have G := toks_good s
  have hs := (read_lies G _).1 1 0 0 x j (by decide) h
  obtain ⟨h0, h1, h2, h3, h4, h5⟩ := hs
  have hl := G.len
  rw [List.length_map] at hl
  have hp := (toks_pos s 0).1
  have hst := (G.pos (i := j - 1) (j := ((pcsAt 0 s).length : Nat)) (by omega) (by omega) (Int.le_refl _)).2.1
  have hend : tkAt ((toks s).map zTok) (((pcsAt 0 s).length : Nat) : Int) = zTok (endTok s) := tk_map (by unfold toks; simp)
  rw [hend] at hst
  have hst2 : (tkAt ((toks s).map zTok) (j - 1)).stop ≤ (s.length : Nat) := hst
  exact ⟨by omega, by omega, h3, h4, h5, by omega⟩
theorem exAll_err {s : List UInt8} {p q : Int} (h : exAll s = .err p q) : q ≠ 0 ∧ 0 ≤ p ∧ p ≤ s.length := by
  obtain ⟨⟨k, rfl⟩, hq⟩ := (read_err _).1 _ _ _ _ _ h
  exact ⟨hq, toks_pos s k⟩

end Go.Proofs.Ytjkdingeicdjoaa
namespace Go.Proofs.Ytjkdingeicdjoaa.exprxLies
open Go.ChangeShapes Go.WideShapes Go.ChangeAt Go.RowKit
open Go.ChangeMaps (open_string shut_string)
open Go.Lib hiding intOf

theorem own : ownKnob Try.prog.godebug = none := by kernel_rfl

set_option maxRecDepth 20000 in
set_option maxHeartbeats 8000000 in
theorem walk (s : ByteArray) (w : World) (hs : s.size ≤ 281474976710656) : Calls Try.prog 4 #[.string s] w fun e w' => e = .returned (.bool true) ∧ Below w.heap.size w w' := by
  have hsz : s.data.toList.length = s.size := by rw [Array.length_toList]; rfl
  rcases lexed_cases s.data.toList with ⟨hb, hl⟩ | ⟨a, c, hb, hl⟩
  · have HA := Lib.hid (fun W : World => all_at s _ 0 0 hl W (by omega))
    have HP := Lib.hid (fun (o : Option Addr) (cap : Nat) (W : World) (h : AtToks W o (toks s.data.toList)) => parse_at s.data.toList hb (by omega) o cap W h)
    have hfew := toks_few hb
    cases hq : exAll s.data.toList with
    | out => exact (exAll_some _ hq).elim
    | err p q =>
      obtain ⟨hq0, hp0, hp1⟩ := exAll_err hq
      rw [hsz] at hp1
      rw [hq] at HP
      have eq : (q != 0) = true := by simpa using hq0
      clear hq hb hl hsz hfew hq0
      generalize (toks s.data.toList).length = n at *
      go_enter Try.func4, Try.ntmps4
      go_wp2_with fail
      refine (awake_any _).mono ?_
      rintro e w1 ⟨rfl, hB⟩
      have B1 := Lib.hid hB
      clear hB
      go_wp2_with fail
      refine (HA.out _).mono ?_
      rintro e w2 ⟨o, cap, rfl, hz, hB, _⟩
      have Z2 := Lib.hid (hz.below ((Below.refl _ _).alloc (Nat.le_refl _) (.cells #[.int .i64 0, .int .i64 0] 25)))
      have B2 := Lib.hid ((B1.out.trans (hB.mono B1.out.size)).alloc (by have := B1.out.size; have := hB.size; omega) (.cells #[.int .i64 0, .int .i64 0] 25))
      clear hB hz B1
      go_wp2_with fail
      refine (HP.out o cap _ Z2.out).mono ?_
      rintro e w3 ⟨v, rfl, hr, hB⟩
      obtain rfl : v = .tuple #[.agg zeroE, .int .i64 0, .agg #[.int .i64 p, .int .i64 q]] := hr
      have B3 := Lib.hid (B2.out.trans (hB.mono B2.out.size))
      have hz3 := B3.out.size
      clear hB B2 Z2
      unfold zeroE
      go_wp2
      go_ret
      exact ⟨by simp, (B3.out.alloc hz3 _).alloc (by simp; omega) _⟩
    | ok x j =>
      obtain ⟨h1, h2, h3, h4, h5, h6⟩ := exAll_span hq
      rw [hq] at HP
      obtain ⟨m, rfl⟩ : ∃ m : Nat, j = ((m + 1 : Nat) : Int) := ⟨(j - 1).toNat, by omega⟩
      have hm : m < (toks s.data.toList).length := by omega
      have h0 : 0 < (toks s.data.toList).length := by omega
      rw [show ((m + 1 : Nat) : Int) - 1 = (m : Nat) by omega, tk_map (List.getElem?_eq_getElem hm)] at h4
      rw [show (0 : Int) = ((0 : Nat) : Int) by rfl, tk_map (List.getElem?_eq_getElem h0)] at h3
      have T0 := Lib.hid (List.getElem?_eq_getElem h0)
      have TM := Lib.hid (List.getElem?_eq_getElem hm)
      generalize (toks s.data.toList)[0] = t0 at h3 T0
      generalize (toks s.data.toList)[m] = t1 at h4 TM
      have hp3 : ((t0.pos : Nat) : Int) ≤ x.pos := h3
      have hp4 : x.stop ≤ ((t1.stop : Nat) : Int) := h4
      have hw := lies_wide h5
      have HW := Lib.hid (fun (P : Nat → Prop) (v : Value) (W : World) (h : IsEP P W x v) => within_all _ x (Nat.lt_succ_self _) P v W h h5 (by omega))
      have d1 : decide (((m : Nat) : Int) + 1 < 1) = false := by simp; omega
      have d2 : decide ((((toks s.data.toList).length : Nat) : Int) ≤ ((m : Nat) : Int) + 1) = false := by simp; omega
      have d3 : decide (x.pos < ((t0.pos : Nat) : Int)) = false := by simp; omega
      have d4 : decide (((t1.stop : Nat) : Int) < x.stop) = false := by simp; omega
      have d5 : decide (x.stop ≤ x.pos) = false := by simp; omega
      have HT := Lib.hid (rfl : toks s.data.toList = toks s.data.toList)
      have hmn : ((m : Nat) : Int) + 1 - 1 = m := by omega
      have hmm : ((m : Nat) : Int) + 1 < ((toks s.data.toList).length : Nat) := by omega
      clear hq hb hl h1 h2 h3 h4 h5 h6 hw hp3 hp4
      generalize toks s.data.toList = ts at *
      go_enter Try.func4, Try.ntmps4
      go_wp2_with fail
      refine (awake_any _).mono ?_
      rintro e w1 ⟨rfl, hB⟩
      have B1 := Lib.hid hB
      clear hB
      go_wp2_with fail
      refine (HA.out _).mono ?_
      rintro e w2 ⟨o, cap, rfl, hz, hB, _⟩
      have Z2 := Lib.hid (hz.below ((Below.refl _ _).alloc (Nat.le_refl _) (.cells #[.int .i64 0, .int .i64 0] 25)))
      have B2 := Lib.hid ((B1.out.trans (hB.mono B1.out.size)).alloc (by have := B1.out.size; have := hB.size; omega) (.cells #[.int .i64 0, .int .i64 0] 25))
      clear hB hz B1
      go_wp2_with fail
      refine (HP.out o cap _ Z2.out).mono ?_
      rintro e w3 ⟨v, rfl, hr, hB⟩
      obtain ⟨vx, rfl, hx⟩ := hr
      obtain ⟨n, nm, tk, tp, tg, tn, tz, ta, o', c', rfl, _⟩ := hx.parts
      have B3 := Lib.hid (B2.out.trans (hB.mono B2.out.size))
      have hz3 := B3.out.size
      have Z3 := Z2.out.below hB
      obtain ⟨g, off, rfl, c00, c01, c02, c03⟩ := Z3.tok T0.out
      obtain ⟨g', off', e', c10, c11, c12, c13⟩ := Z3.tok TM.out
      injection e' with e'
      injection e' with e1 e2
      subst e1 e2
      have hgl : g < w3.heap.size := World.block_lt_of_cell? _ _ c00
      have HX := Lib.hid hx
      have HXW := Lib.hid (fun (W : World) (hb : Below w3.heap.size w3 W) => HW.out _ _ W (IsEP.below hx hb))
      clear hB B2 Z2 Z3 hx HP HA T0 TM
      go_wp2_with fail
      go_quiet (fail)
      go_wp2_with fail
      refine (HXW.out _ (below_drewN (((Below.refl _ _).alloc (Nat.le_refl _) _).alloc (by simp) _) _)).mono ?_
      rintro e w4 ⟨rfl, hB⟩
      have B4 := Lib.hid (B3.out.trans ((below_drewN (((Below.refl w3.heap.size w3).alloc (Nat.le_refl _) _).alloc (by simp) _) _).trans (hB.mono (by simp; omega)) |>.mono hz3))
      clear hB
      go_wp2
      go_ret
      exact ⟨by simp, B4.out⟩
  · have HA := Lib.hid (fun W : World => all_at s _ a c hl W (by omega))
    have hc := (bad_some hb).1
    have hc2 : (c != 0) = true := by simpa using hc
    clear hl hb hsz hc
    go_enter Try.func4, Try.ntmps4
    go_wp2_with fail
    refine (awake_any _).mono ?_
    rintro e w1 ⟨rfl, hB⟩
    have B1 := Lib.hid hB
    clear hB
    go_wp2_with fail
    refine (HA.out _).mono ?_
    rintro e w2 ⟨o, cap, rfl, hz, hB, _⟩
    have B2 := Lib.hid (B1.out.trans (hB.mono B1.out.size))
    have hz2 := B2.out.size
    clear hB hz B1
    go_wp2
    go_ret
    exact ⟨rfl, B2.out.alloc hz2 _⟩

theorem laidOut : laidOutB Try.prog = true := by kernel_rfl

theorem int_range {n : Int} (h : (Lit.int .i64 n).wf = true) : -9223372036854775808 ≤ n ∧ n ≤ 9223372036854775807 := by
  have h2 : IntKind.i64.min ≤ n ∧ n ≤ IntKind.i64.max := by
    unfold Lit.wf at h
    simpa only [Bool.and_eq_true, decide_eq_true_eq] using h
  rw [show IntKind.i64.min = -9223372036854775808 by decide, show IntKind.i64.max = 9223372036854775807 by decide] at h2
  exact h2

set_option maxRecDepth 100000 in
theorem lifted (os : Os) (started : os.Started) (H : Type) (enc : TypeId × Value → H) :
    ReturnsInHanded {} Try.checked os 4 .any (Rows.exprxLiesSpec.pre6 enc Try.prog Try.f4 Rows.exprxLiesRow.domain false) (Rows.exprxLiesSpec.post enc Try.prog Try.f4 false true false false) := by
  refine returnsInHanded_of_change_sized (C := Try.checked) own started (by kernel_rfl) Try.func4
    (ChangeSpec.witness6 (enc := enc) (C := Try.checked) false ⟨#[], #[.string .empty], []⟩ 8 (by kernel_rfl) (by kernel_rfl) (by kernel_rfl) (by kernel_rfl)) ?_
  intro W base args ds gs before hval0 hW hcnd hsz _
  have hval : ∀ (j : Nat) t v, Try.f4.params[j]? = some t → args[j]? = some v → Value.okWide Try.prog W .any base t v := hval0
  have hW' := hW
  obtain ⟨p, q, hA0, hV, rfl, hfz, hnd⟩ := hW
  have hA : DataW.TrodAll enc Try.prog W 0 (fun _ => true) true Try.f4.params.toList args.toList ds p := hA0
  rw [Try.params4] at hA hval
  obtain ⟨v0, vs0, d0, ds0, p0, q0, hargs, rfl, rfl, h0, r0⟩ := trodAll_cons hA
  obtain ⟨rfl, rfl, rfl⟩ := trodAll_nil r0
  obtain rfl : args = #[v0] := by cases args; simp_all
  obtain ⟨rfl, rfl⟩ := trodVars_none hV
  obtain ⟨a0, rfl, rfl, rfl, w0⟩ := open_string Try.underlying9 (hval 0 9 v0 rfl rfl) h0
  have f0 : a0.size ≤ 281474976710656 := by
    have h := sized_string hsz (j := 0) rfl rfl
    have hr : reachBytes ≤ 140737488355328 := by decide
    have e : a0.data.toList.length = a0.size := by rw [Array.length_toList]; rfl
    omega
  clear hA0 hval0
  simp only [List.append_nil] at hW'
  refine (walk a0 W f0).mono fun e W' ⟨he, hg⟩ => ?_
  subst he
  exact ⟨_, rfl, _, _, _, [], _, [], hW', (trodAll_cons_mk (shut_bool Try.underlying4 _) trodAll_mk0), (trodAll_cons_mk (shut_string Try.underlying9 w0) trodAll_mk0), rfl, hg.frame _, fun h => by cases h⟩

theorem over : Rows.exprxLiesRow.holds Try.pinned (OpenSpec.ofChange Rows.exprxLiesSpec) :=
  OpenClaim.holds_of_wide 4 Try.f4 rfl rfl rfl rfl rfl rfl rfl ⟨rfl, rfl, rfl, rfl, rfl⟩ rfl rfl rfl rfl rfl (by kernel_rfl) Try.func4 (by kernel_rfl)
    (of_decide_eq_true (by kernel_rfl)) (by unfold Func.isWrapper; first | (rw [if_pos (by decide +kernel)]; kernel_rfl) | (rw [if_neg (by decide +kernel)]; exact ⟨rfl, rfl⟩))
    (fun os started H enc _ => lifted os started H enc)

/-- ExprxLies answers true. -/
theorem proved : Rows.ExprxLiesSaid :=
  over

end Go.Proofs.Ytjkdingeicdjoaa.exprxLies
