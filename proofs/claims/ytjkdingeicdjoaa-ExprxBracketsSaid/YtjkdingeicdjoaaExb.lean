/-
  ExprxBrackets answers true, whatever the text. Condition: none beside the form's own reach.
-/
import Derived.Test.YtjkdingeicdjoaaExw
import Derived.ProofKit
import Derived.OpenShut
import Derived.SizedLaws
namespace Go.Proofs.Ytjkdingeicdjoaa
open Go.RowKit
open Go.Lib hiding intOf

theorem chain_len' {b : Int} : ∀ {a : Int} {ys : List EX}, chain a b ys → ((ys.length : Nat) : Int) ≤ b - a
  | a, [], h => by unfold chain at h; simp; omega
  | a, y :: r, h => by
    unfold chain at h
    have h1 := lies_wide h.2.1
    have h2 := chain_len' h.2.2
    rw [List.length_cons]
    omega
theorem chain_mem' {b : Int} : ∀ {a : Int} {ys : List EX} {k : Nat} {y : EX}, chain a b ys → ys[k]? = some y → lies y ∧ a ≤ y.pos ∧ y.stop ≤ b
  | _, [], _, _, _, h => by simp at h
  | a, x :: r, 0, y, h, hy => by
    simp at hy; subst hy
    unfold chain at h
    exact ⟨h.2.1, h.1, chain_le h.2.2⟩
  | a, x :: r, k + 1, y, h, hy => by
    unfold chain at h
    obtain ⟨h1, h2, h3⟩ := chain_mem' h.2.2 (by simpa using hy)
    have := lies_wide h.2.1
    exact ⟨h1, by omega, h3⟩

/-- The statements' own 'moved' answers true of what was moved by one. -/
theorem moved_all : ∀ (n : Nat) (x y : EX), SizeOf.sizeOf x < n → Mov 1 x y → lies x → 0 ≤ x.pos → x.stop ≤ 4611686018427387904 → ∀ (P Q : Nat → Prop) (u v : Value) (w : World), IsEP P w x u → IsEP Q w y v →
    Calls Try.prog 11 #[u, v, .int .i64 1] w fun e w' => e = .returned (.bool true) ∧ Below w.heap.size w w'
  | 0, _, _, h => by omega
  | n + 1, x, y, h => fun hm hl h0 h1 P Q u v w hu hv => by
    have hc := lies_chain hl
    have hlen := chain_len' hc
    have hw := lies_wide hl
    refine moved_one x y hm ⟨by omega, by omega, by omega, h1, by omega⟩ P Q u v w hu hv fun k x' y' hx' hy' u' v' w' hu' hv' => ?_
    obtain ⟨c1, c2, c3⟩ := chain_mem' hc hx'
    exact moved_all n x' y' (by have := args_lt hx'; omega) (MovL.at_ hm.parts.2.2.2.2.2 hx' hy') c1 (by omega) (by omega) P Q u' v' w' hu' hv'

theorem exAll_range {s : List UInt8} {x : EX} {j : Int} (h : exAll s = .ok x j) : lies x ∧ 0 ≤ x.pos ∧ x.stop ≤ s.length := by
  have G := toks_good s
  have hs := (read_lies G _).1 1 0 0 x j (by decide) h
  obtain ⟨h0, h1, h2, h3, h4, h5⟩ := hs
  have hp := (toks_pos s 0).1
  have hst := (G.pos (i := j - 1) (j := ((pcsAt 0 s).length : Nat)) (by omega) (by omega) (Int.le_refl _)).2.1
  have hend : tkAt ((toks s).map zTok) (((pcsAt 0 s).length : Nat) : Int) = zTok (endTok s) := tk_map (by unfold toks; simp)
  rw [hend] at hst
  have hst2 : (tkAt ((toks s).map zTok) (j - 1)).stop ≤ (s.length : Nat) := hst
  exact ⟨h5, by omega, by omega⟩

theorem parse_atF (s : List UInt8) (h : bad (toks s) 0 = none) (hn : s.length ≤ 281474976710656 + 3) (f : Nat) (hr : ex ((toks s).map zTok) f 1 0 0 ≠ .out) (o : Option Addr) (c : Nat) (w : World) (hz : AtToks w o (toks s)) (hf : Fits ((toks s).map zTok)) :
    Calls Try.prog 9 #[.slice o (toks s).length c, .int .i64 0] w fun e w' => ∃ v, e = .returned v ∧ ParRes w.heap.size w' (ex ((toks s).map zTok) f 1 0 0) v ∧ Below w.heap.size w w' := by
  have _ := hn
  have hl : ((toks s).map zTok).length ≤ 1073741824 := by have := toks_few h; rw [List.length_map]; omega
  have := parseE_any (c := c) 0 w hz.zt (hz.old (toks_ne s)) f (fun b m => level_all hl hf _) hr
  rw [List.length_map] at this
  exact this

/-- The text in brackets: what the chapter says of it. -/
theorem brack_all {s : List UInt8} (h : bad (toks s) 0 = none) {x : EX} {j : Int} (hx : exAll s = .ok x j) (hj : j + 1 = ((toks s).length : Nat)) :
    (∃ y, ex ((toks (brack s)).map zTok) (fuel ((toks s).map zTok) + 7) 1 0 0 = .ok y (j + 2) ∧ Mov 1 x y) ∨ ∃ p, ex ((toks (brack s)).map zTok) (fuel ((toks s).map zTok) + 7) 1 0 0 = .err p 6 := by
  have G := toks_good s
  have hl := G.len
  rw [List.length_map] at hl
  have S := brack_sim s h
  have hb := toks_brack s h
  have he : j = ((pcsAt 0 s).length : Nat) := by omega
  subst he
  have h0 : isS (tkAt ((toks (brack s)).map zTok) 0) 40 = true := by
    rw [show (0 : Int) = ((0 : Nat) : Int) by rfl, tk_map (t := ⟨4, 0, 1, [40]⟩) (by rw [hb]; rfl)]
    rfl
  have h2 : (tkAt ((toks (brack s)).map zTok) (((pcsAt 0 s).length : Nat) + 2 : Int)).kind = 0 := by
    rw [show (((pcsAt 0 s).length : Nat) : Int) + 2 = (((pcsAt 0 s).length + 2 : Nat) : Int) by omega, tk_map (t := ⟨0, s.length + 3, s.length + 3, []⟩) (by
      rw [hb, List.cons_append, List.getElem?_cons_succ, List.getElem?_append_right (by simp)]
      simp)]
    rfl
  have hf : fuel ((toks s).map zTok) = (fuel ((toks s).map zTok) - 1) + 1 := by unfold fuel; omega
  have := brack_ex S G h0 h2 (f := fuel ((toks s).map zTok) - 1) (x := x) (by rw [← hf]; exact hx)
  rwa [show fuel ((toks s).map zTok) - 1 + 8 = fuel ((toks s).map zTok) + 7 by omega] at this

theorem brack_fits {s : List UInt8} (hn : s.length + 3 ≤ 281474976710656) : Fits ((toks (brack s)).map zTok) := toks_fits (by unfold brack; simp; omega)

end Go.Proofs.Ytjkdingeicdjoaa
namespace Go.Proofs.Ytjkdingeicdjoaa.exprxBrackets
open Go.ChangeShapes Go.WideShapes Go.ChangeAt Go.RowKit
open Go.ChangeMaps (open_string shut_string)
open Go.Lib hiding intOf

theorem own : ownKnob Try.prog.godebug = none := by kernel_rfl

theorem cat3 (a c : List UInt8) (s : ByteArray) : (⟨a.toArray⟩ : ByteArray) ++ s ++ ⟨c.toArray⟩ = ⟨(a ++ s.data.toList ++ c).toArray⟩ := by
  apply ByteArray.ext
  simp [ByteArray.data_append]

set_option maxRecDepth 20000 in
set_option maxHeartbeats 8000000 in
theorem walk (s : ByteArray) (w : World) (hs : s.size ≤ 140737488355328) : Calls Try.prog 5 #[.string s] w fun e w' => e = .returned (.bool true) ∧ Below w.heap.size w w' := by
  have hsz : s.data.toList.length = s.size := by rw [Array.length_toList]; rfl
  rcases lexed_cases s.data.toList with ⟨hb, hl⟩ | ⟨a, c, hb, hl⟩
  · have HA := Lib.hid (fun W : World => all_at s _ 0 0 hl W (by omega))
    have HP := Lib.hid (fun (o : Option Addr) (cap : Nat) (W : World) (h : AtToks W o (toks s.data.toList)) => parse_at s.data.toList hb (by omega) o cap W h)
    have hfew := toks_few hb
    by_cases h3990 : 3990 < (toks s.data.toList).length
    · have d1 : decide ((3990 : Int) < (((toks s.data.toList).length : Nat) : Int)) = true := by simp; omega
      clear hb hl hsz HP h3990
      generalize toks s.data.toList = ts at *
      go_enter Try.func5, Try.ntmps5
      go_wp2_with fail
      refine (awake_any _).mono ?_
      rintro e w1 ⟨rfl, hB⟩
      have B1 := Lib.hid hB
      clear hB
      go_wp2_with fail
      refine (HA.out _).mono ?_
      rintro e w2 ⟨o, cap, rfl, hz, hB, _⟩
      have B2 := Lib.hid (B1.out.trans (hB.mono B1.out.size))
      have hz2 := B2.out.size
      clear hB hz B1
      go_wp2
      go_ret
      exact ⟨rfl, B2.out.alloc hz2 _⟩
    · have d1 : decide ((3990 : Int) < (((toks s.data.toList).length : Nat) : Int)) = false := by simp; omega
      have HL := Lib.hid (brack_lexed hb (by omega))
      cases hq : exAll s.data.toList with
      | out => exact (exAll_some _ hq).elim
      | err p q =>
        have hq0 := ((read_err _).1 _ _ _ _ _ hq).2
        rw [hq] at HP
        have eq : (q != 0) = true := by simpa using hq0
        clear hq hb hl hsz hfew hq0 h3990 HL
        generalize toks s.data.toList = ts at *
        go_enter Try.func5, Try.ntmps5
        go_wp2_with fail
        refine (awake_any _).mono ?_
        rintro e w1 ⟨rfl, hB⟩
        have B1 := Lib.hid hB
        clear hB
        go_wp2_with fail
        refine (HA.out _).mono ?_
        rintro e w2 ⟨o, cap, rfl, hz, hB, _⟩
        have Z2 := Lib.hid (hz.below ((Below.refl _ _).alloc (Nat.le_refl _) (.cells #[.int .i64 0, .int .i64 0] 25)))
        have B2 := Lib.hid ((B1.out.trans (hB.mono B1.out.size)).alloc (by have := B1.out.size; have := hB.size; omega) (.cells #[.int .i64 0, .int .i64 0] 25))
        clear hB hz B1
        go_wp2_with fail
        refine (HP.out o cap _ Z2.out).mono ?_
        rintro e w3 ⟨v, rfl, hr, hB⟩
        obtain rfl : v = .tuple #[.agg zeroE, .int .i64 0, .agg #[.int .i64 p, .int .i64 q]] := hr
        have B3 := Lib.hid (B2.out.trans (hB.mono B2.out.size))
        have hz3 := B3.out.size
        clear hB B2 Z2
        unfold zeroE
        go_wp2
        go_ret
        exact ⟨by simp, (B3.out.alloc hz3 _).alloc (by simp; omega) _⟩
      | ok x j =>
        rw [hq] at HP
        by_cases hj : j + 1 = ((toks s.data.toList).length : Nat)
        · have hB2 := brack_all hb hq hj
          obtain ⟨l1, l2, l3⟩ := exAll_range hq
          have hbs : (⟨(brack s.data.toList).toArray⟩ : ByteArray).size ≤ 9223372036854775807 := by
            show (brack s.data.toList).toArray.size ≤ _
            unfold brack
            simp
            omega
          have HA2 := Lib.hid (fun W : World => all_at ⟨(brack s.data.toList).toArray⟩ (toks (brack s.data.toList)) 0 0 (by rw [List.toList_toArray]; exact HL.out) W hbs)
          have hgood2 : bad (toks (brack s.data.toList)) 0 = none := by
            rcases lexed_cases (brack s.data.toList) with ⟨h, _⟩ | ⟨a, c, h, hl⟩
            · exact h
            · rw [HL.out] at hl
              injection hl with hl _
              exact (toks_ne _ hl).elim
          have hne : ex ((toks (brack s.data.toList)).map zTok) (fuel ((toks s.data.toList).map zTok) + 7) 1 0 0 ≠ .out := by
            rcases hB2 with ⟨y, h, _⟩ | ⟨p, h⟩ <;> rw [h] <;> simp
          have HP2 := Lib.hid (fun (o : Option Addr) (cap : Nat) (W : World) (h : AtToks W o (toks (brack s.data.toList))) => parse_atF (brack s.data.toList) hgood2 (by unfold brack; simp; omega) _ hne o cap W h (brack_fits (by omega)))
          have HBR := Lib.hid hB2
          have HE : Hid ((⟨#[40]⟩ : ByteArray) ++ s ++ ⟨#[10, 41]⟩ = ⟨(brack s.data.toList).toArray⟩) := by
            refine (cat3 [40] [10, 41] s).trans ?_
            unfold brack
            simp
          have HMV := Lib.hid (fun (y : EX) (hm : Mov 1 x y) (P Q : Nat → Prop) (u v : Value) (W : World) (hu : IsEP P W x u) (hv : IsEP Q W y v) => moved_all _ x y (Nat.lt_succ_self _) hm l1 l2 (by omega) P Q u v W hu hv)
          have hj2 : ((toks s.data.toList).length : Nat) - 1 = j := by omega
          have hfew2 := toks_few hgood2
          clear hq hb hl h3990 hB2 hne hgood2 l1 l2 l3 HL hj
          generalize fuel ((toks s.data.toList).map zTok) + 7 = F at *
          generalize toks s.data.toList = ts at *
          generalize toks (brack s.data.toList) = us at *
          go_enter Try.func5, Try.ntmps5
          go_wp2_with fail
          refine (awake_any _).mono ?_
          rintro e w1 ⟨rfl, hB⟩
          have B1 := Lib.hid hB
          clear hB
          go_wp2_with fail
          refine (HA.out _).mono ?_
          rintro e w2 ⟨o, cap, rfl, hz, hB, _⟩
          have Z2 := Lib.hid (hz.below ((Below.refl _ _).alloc (Nat.le_refl _) (.cells #[.int .i64 0, .int .i64 0] 25)))
          have B2 := Lib.hid ((B1.out.trans (hB.mono B1.out.size)).alloc (by have := B1.out.size; have := hB.size; omega) (.cells #[.int .i64 0, .int .i64 0] 25))
          clear hB hz B1
          go_wp2_with fail
          refine (HP.out o cap _ Z2.out).mono ?_
          rintro e w3 ⟨v, rfl, hr, hB⟩
          obtain ⟨vx, rfl, hx⟩ := hr
          obtain ⟨n, nm, tk, tp, tg, tn, tz, ta, o', c', rfl, _⟩ := hx.parts
          have B3 := Lib.hid (B2.out.trans (hB.mono B2.out.size))
          have HX := Lib.hid hx
          have hz3 := B3.out.size
          clear hB B2 Z2 hx HP HA
          go_wp2_with fail
          rw [HE.out]
          refine (HA2.out _).mono ?_
          rintro e w4 ⟨o2, cap2, rfl, hz, hB, _⟩
          have hx4 := blk_mid2 hB
          have k4 : Below w3.heap.size w3 w4 := (((Below.refl _ _).alloc (Nat.le_refl _) _).alloc (by simp) _).trans (hB.mono (by simp; omega))
          have X4 := Lib.hid hx4
          have HX4 := Lib.hid (IsEP.below HX.out k4)
          have Z4 := Lib.hid (hz.below ((Below.refl _ _).alloc (Nat.le_refl _) (.cells #[.int .i64 0, .int .i64 0] 25)))
          have B4 := Lib.hid (B3.out.trans (k4.mono hz3))
          have hz4 : w3.heap.size < w4.heap.size := hx4.lt
          clear hB hz hx4 k4 HX HE HA2 hbs
          go_wp2_with fail
          refine (HP2.out o2 cap2 _ Z4.out).mono ?_
          rintro e w5 ⟨v, rfl, hr, hB⟩
          have k5 : Below w4.heap.size w4 w5 := ((Below.refl _ _).alloc (Nat.le_refl _) _).trans (hB.mono (by simp))
          have X5 := Lib.hid (X4.out.below k5)
          have x5 := X5.out.cell
          have HX5 := Lib.hid (IsEP.below HX4.out k5)
          have B5 := Lib.hid (B4.out.trans (k5.mono B4.out.size))
          have hz5 : w3.heap.size < w5.heap.size := X5.out.lt
          have hbs5 := B5.out.size
          clear hB k5 X4 HX4 Z4 HP2 B4
          rcases HBR.out with ⟨y, hy, hm⟩ | ⟨p, hy⟩
          · rw [hy] at hr
            obtain ⟨vy, rfl, hyy⟩ := hr
            obtain ⟨n2, nm2, tk2, tp2, tg2, tn2, tz2, ta2, o3, c3, rfl, _⟩ := hyy.parts
            have HY5 := Lib.hid hyy
            have HM := Lib.hid hm
            clear hy hyy hm
            go_wp2_with fail
            refine (HMV.out y HM.out _ _ _ _ _ (IsEP.alloc (IsEP.alloc HX5.out _) _) (IsEP.alloc (IsEP.alloc HY5.out _) _)).mono ?_
            rintro e w6 ⟨rfl, hB⟩
            have B6 := Lib.hid (B5.out.trans ((((Below.refl w5.heap.size w5).alloc (Nat.le_refl _) _).alloc (by simp) _).trans (hB.mono (by simp; omega)) |>.mono hbs5))
            clear hB
            go_wp2
            go_ret
            exact ⟨by simp, B6.out⟩
          · rw [hy] at hr
            obtain rfl : v = .tuple #[.agg zeroE, .int .i64 0, .agg #[.int .i64 p, .int .i64 6]] := hr
            clear hy
            unfold zeroE
            go_wp2
            go_ret
            exact ⟨by simp, (B5.out.alloc hbs5 _).alloc (by simp; omega) _⟩
        · have ej : (j != ((toks s.data.toList).length : Nat) - 1) = true := by rw [bne_iff_ne]; omega
          clear hq hb hl hsz h3990 HL hj
          generalize toks s.data.toList = ts at *
          go_enter Try.func5, Try.ntmps5
          go_wp2_with fail
          refine (awake_any _).mono ?_
          rintro e w1 ⟨rfl, hB⟩
          have B1 := Lib.hid hB
          clear hB
          go_wp2_with fail
          refine (HA.out _).mono ?_
          rintro e w2 ⟨o, cap, rfl, hz, hB, _⟩
          have Z2 := Lib.hid (hz.below ((Below.refl _ _).alloc (Nat.le_refl _) (.cells #[.int .i64 0, .int .i64 0] 25)))
          have B2 := Lib.hid ((B1.out.trans (hB.mono B1.out.size)).alloc (by have := B1.out.size; have := hB.size; omega) (.cells #[.int .i64 0, .int .i64 0] 25))
          clear hB hz B1
          go_wp2_with fail
          refine (HP.out o cap _ Z2.out).mono ?_
          rintro e w3 ⟨v, rfl, hr, hB⟩
          obtain ⟨vx, rfl, hx⟩ := hr
          obtain ⟨n, nm, tk, tp, tg, tn, tz, ta, o', c', rfl, _⟩ := hx.parts
          have B3 := Lib.hid (B2.out.trans (hB.mono B2.out.size))
          have hz3 := B3.out.size
          clear hB B2 Z2 hx
          go_wp2
          go_ret
          exact ⟨by simp, (B3.out.alloc hz3 _).alloc (by simp; omega) _⟩
  · have HA := Lib.hid (fun W : World => all_at s _ a c hl W (by omega))
    have hc := (bad_some hb).1
    have hc2 : (c != 0) = true := by simpa using hc
    clear hl hb hsz hc
    go_enter Try.func5, Try.ntmps5
    go_wp2_with fail
    refine (awake_any _).mono ?_
    rintro e w1 ⟨rfl, hB⟩
    have B1 := Lib.hid hB
    clear hB
    go_wp2_with fail
    refine (HA.out _).mono ?_
    rintro e w2 ⟨o, cap, rfl, hz, hB, _⟩
    have B2 := Lib.hid (B1.out.trans (hB.mono B1.out.size))
    have hz2 := B2.out.size
    clear hB hz B1
    go_wp2
    go_ret
    exact ⟨rfl, B2.out.alloc hz2 _⟩

theorem laidOut : laidOutB Try.prog = true := by kernel_rfl

theorem int_range {n : Int} (h : (Lit.int .i64 n).wf = true) : -9223372036854775808 ≤ n ∧ n ≤ 9223372036854775807 := by
  have h2 : IntKind.i64.min ≤ n ∧ n ≤ IntKind.i64.max := by
    unfold Lit.wf at h
    simpa only [Bool.and_eq_true, decide_eq_true_eq] using h
  rw [show IntKind.i64.min = -9223372036854775808 by decide, show IntKind.i64.max = 9223372036854775807 by decide] at h2
  exact h2

set_option maxRecDepth 100000 in
theorem lifted (os : Os) (started : os.Started) (H : Type) (enc : TypeId × Value → H) :
    ReturnsInHanded {} Try.checked os 5 .any (Rows.exprxBracketsSpec.pre6 enc Try.prog Try.f5 Rows.exprxBracketsRow.domain false) (Rows.exprxBracketsSpec.post enc Try.prog Try.f5 false true false false) := by
  refine returnsInHanded_of_change_sized (C := Try.checked) own started (by kernel_rfl) Try.func5
    (ChangeSpec.witness6 (enc := enc) (C := Try.checked) false ⟨#[], #[.string .empty], []⟩ 8 (by kernel_rfl) (by kernel_rfl) (by kernel_rfl) (by kernel_rfl)) ?_
  intro W base args ds gs before hval0 hW hcnd hsz _
  have hval : ∀ (j : Nat) t v, Try.f5.params[j]? = some t → args[j]? = some v → Value.okWide Try.prog W .any base t v := hval0
  have hW' := hW
  obtain ⟨p, q, hA0, hV, rfl, hfz, hnd⟩ := hW
  have hA : DataW.TrodAll enc Try.prog W 0 (fun _ => true) true Try.f5.params.toList args.toList ds p := hA0
  rw [Try.params5] at hA hval
  obtain ⟨v0, vs0, d0, ds0, p0, q0, hargs, rfl, rfl, h0, r0⟩ := trodAll_cons hA
  obtain ⟨rfl, rfl, rfl⟩ := trodAll_nil r0
  obtain rfl : args = #[v0] := by cases args; simp_all
  obtain ⟨rfl, rfl⟩ := trodVars_none hV
  obtain ⟨a0, rfl, rfl, rfl, w0⟩ := open_string Try.underlying9 (hval 0 9 v0 rfl rfl) h0
  have f0 : a0.size ≤ 140737488355328 := by
    have h := sized_string hsz (j := 0) rfl rfl
    have hr : reachBytes ≤ 140737488355328 := by decide
    have e : a0.data.toList.length = a0.size := by rw [Array.length_toList]; rfl
    omega
  clear hA0 hval0
  simp only [List.append_nil] at hW'
  refine (walk a0 W f0).mono fun e W' ⟨he, hg⟩ => ?_
  subst he
  exact ⟨_, rfl, _, _, _, [], _, [], hW', (trodAll_cons_mk (shut_bool Try.underlying4 _) trodAll_mk0), (trodAll_cons_mk (shut_string Try.underlying9 w0) trodAll_mk0), rfl, hg.frame _, fun h => by cases h⟩

theorem over : Rows.exprxBracketsRow.holds Try.pinned (OpenSpec.ofChange Rows.exprxBracketsSpec) :=
  OpenClaim.holds_of_wide 5 Try.f5 rfl rfl rfl rfl rfl rfl rfl ⟨rfl, rfl, rfl, rfl, rfl⟩ rfl rfl rfl rfl rfl (by kernel_rfl) Try.func5 (by kernel_rfl)
    (of_decide_eq_true (by kernel_rfl)) (by unfold Func.isWrapper; first | (rw [if_pos (by decide +kernel)]; kernel_rfl) | (rw [if_neg (by decide +kernel)]; exact ⟨rfl, rfl⟩))
    (fun os started H enc _ => lifted os started H enc)

/-- ExprxBrackets answers true. -/
theorem proved : Rows.ExprxBracketsSaid :=
  over

end Go.Proofs.Ytjkdingeicdjoaa.exprxBrackets
