/-
  TypexTexts answers true, whatever the text. Condition: none beside the form's own reach.
-/
import Derived.Test.YtdmlelikmikflaaAwake
import Derived.ProofKit
import Derived.OpenShut
import Derived.SizedLaws
namespace Go.Proofs.Ytdmlelikmikflaa
open Go.RowKit
open Go.Lib hiding intOf

/-- Two boxes, a type's and a diagnostic's, made behind a call. -/
theorem two_more {w1 w2 : World} {xs ys : Array Value} {t u : TypeId} (hB : Below ((w1.alloc (.cells xs t)).alloc (.cells ys u)).heap.size ((w1.alloc (.cells xs t)).alloc (.cells ys u)) w2) :
    (∀ i, w2.cell? ⟨w1.heap.size, i, none⟩ = xs[i]?) ∧ (∀ i, w2.cell? ⟨w1.heap.size + 1, i, none⟩ = ys[i]?) ∧ w1.heap.size + 1 < w2.heap.size ∧ w1.heap.size < w2.heap.size ∧ Below w1.heap.size w1 w2 :=
  ⟨(blk_mid2 hB).cell, (blk_sec hB).cell, mid_size' hB, Nat.lt_of_succ_lt (mid_size' hB), (((Below.refl _ _).alloc (Nat.le_refl _) _).alloc (by simp) _).trans (hB.mono (by simp; omega))⟩

/-- The type, the next index, what is wrong, of an answer. -/
def Res.type : Res → TX
  | .ok x _ => x
  | .err _ _ => .leaf 0 0 ⟨#[]⟩ ⟨#[]⟩
def Res.next : Res → Int
  | .ok _ n => n
  | .err _ _ => 0
def Res.pos : Res → Int
  | .ok _ _ => 0
  | .err p _ => p
def Res.code : Res → Int
  | .ok _ _ => 0
  | .err _ c => c
theorem IsRes.all {B : Nat} {w : World} {r : Res} {v : Value} (h : IsRes B w r v) : ∃ k p g n o a, v = .tuple #[.agg #[.int .i64 k, .int .i64 p, .string g, .string n, .slice o a a], .int .i64 r.next, .agg #[.int .i64 r.pos, .int .i64 r.code]] ∧
    IsTX B w r.type (.agg #[.int .i64 k, .int .i64 p, .string g, .string n, .slice o a a]) ∧ (r.code ≠ 0 → k = 0 ∧ a = 0 ∧ r.next = 0) := by
  cases r with
  | ok y m' =>
    obtain ⟨u, rfl, hx⟩ := h
    obtain ⟨k, p, g, n, o, a, rfl⟩ := hx.parts
    exact ⟨k, p, g, n, o, a, rfl, hx, fun h => (h rfl).elim⟩
  | err q' c' =>
    obtain rfl : v = errV q' c' := h
    exact ⟨0, 0, ⟨#[]⟩, ⟨#[]⟩, none, 0, rfl, rfl, fun _ => ⟨rfl, rfl, rfl⟩⟩

end Go.Proofs.Ytdmlelikmikflaa
namespace Go.Proofs.Ytdmlelikmikflaa.typexTexts
open Go.ChangeShapes Go.WideShapes Go.ChangeAt Go.RowKit
open Go.ChangeMaps (open_string shut_string)
open Go.Lib hiding intOf

theorem own : ownKnob Try.prog.godebug = none := by kernel_rfl

set_option maxRecDepth 20000 in
set_option maxHeartbeats 4000000 in
theorem walk (s : ByteArray) (w : World) (hs : s.size ≤ 281474976710656) : Calls Try.prog 5 #[.string s] w fun e w' => e = .returned (.bool true) ∧ Below w.heap.size w w' := by
  obtain ⟨ts, a, c, hl⟩ : ∃ ts a c, lexed s.data.toList = (ts, a, c) := ⟨_, _, _, rfl⟩
  have hsz : s.data.toList.length = s.size := by rw [Array.length_toList]; rfl
  have hlen : ts.length ≤ 281474976710657 := by
    have := lexed_len hl
    omega
  have HF : Fits (ts.map zOf) := lexed_fits hl (by omega)
  clear hsz
  have HA := Lib.hid (fun W : World => all_at s ts a c hl W (by omega))
  have hmap : (ts.map zOf).length = ts.length := List.length_map ..
  have HP := Lib.hid (fun (o : Option Addr) (cap : Nat) (W : World) (hz : ZAt W o (ts.map zOf)) => by
    have h := parse_any o cap (ts.map zOf) 0 W hz (by omega) HF
    rw [hmap] at h
    exact h)
  have HR := Lib.hid (fun (o : Option Addr) (cap : Nat) (W : World) (hz : ZAt W o (ts.map zOf)) => by
    have h := refParse_any o cap (ts.map zOf) 0 W hz (by omega)
    rw [hmap] at h
    exact h)
  have HC := Lib.hid hl
  clear hl HF hmap hlen
  generalize prs (ts.map zOf) 30 0 = R at HP HR
  go_enter Try.func5, Try.ntmps5
  go_wp2_with fail
  refine (awake_any _).mono ?_
  rintro e w1 ⟨rfl, hB⟩
  have B1 := Lib.hid hB
  clear hB
  go_wp2_with fail
  refine (HA.out _).mono ?_
  rintro e w2 ⟨o, cap, rfl, hz, hB, _⟩
  have Z2 := Lib.hid hz.z
  have B2 := Lib.hid (B1.out.trans (hB.mono B1.out.size))
  have hz2 := B2.out.size
  clear hB hz B1
  by_cases hc : c = 0
  · subst hc
    go_wp2_with fail
    refine (HP.out o cap _ (Z2.out.below ((Below.refl _ _).alloc (Nat.le_refl _) _))).mono ?_
    rintro e w3 ⟨v, rfl, hr, hB⟩
    obtain ⟨k, p, g, n, o1, a1, rfl, hx, _⟩ := hr.all
    have X3 := Lib.hid hx
    have k3 : Below w2.heap.size w2 w3 := ((Below.refl _ _).alloc (Nat.le_refl _) _).trans (hB.mono (by simp))
    have Z3 := Lib.hid (Z2.out.below k3)
    have B3 := Lib.hid (B2.out.trans (k3.mono hz2))
    clear hr hx hB k3 Z2 B2
    go_wp2_with fail
    refine (HR.out o cap _ (Z3.out.below (((Below.refl _ _).alloc (Nat.le_refl _) _).alloc (by simp) _))).mono ?_
    rintro e w4 ⟨v, rfl, hr, hB⟩
    obtain ⟨k', p', g', n', o1', a1', rfl, hx, _⟩ := hr.all
    obtain ⟨c3, c4, hz4, hz5, k4⟩ := two_more hB
    have X4 := Lib.hid (X3.out.below k4)
    have Y4 := Lib.hid hx
    have B4 := Lib.hid (B3.out.trans (k4.mono B3.out.size))
    have HS := Lib.hid (fun (W : World) (hb : Below w4.heap.size w4 W) => sameT_any R.type _ _ _ _ W (IsTX.below X4.out hb) (IsTX.below hx hb))
    clear hr hx hB k4 X3 B3 Z3
    go_wp2_with fail
    refine (HS.out _ (((Below.refl _ _).alloc (Nat.le_refl _) _).alloc (by simp) _)).mono ?_
    rintro e w5 ⟨rfl, hB⟩
    obtain ⟨c5, c6, hz6, hz7, k5⟩ := two_more hB
    have d3 : ∀ i, w5.cell? ⟨w3.heap.size + 1, i, none⟩ = #[Value.int .i64 R.pos, Value.int .i64 R.code][i]? := fun i => (k5.cell (p := ⟨w3.heap.size + 1, i, none⟩) hz4).trans (c4 i)
    have B5 := Lib.hid (B4.out.trans (k5.mono B4.out.size))
    clear hB k5 B4 c3 c4 c5
    go_wp2
    go_ret
    exact ⟨by simp, B5.out⟩
  · have hc1 : (c == 0) = false := by simpa using hc
    have hc2 : (c != 0) = true := by simpa using hc
    clear hc
    go_wp2
    go_ret
    exact ⟨rfl, B2.out.alloc hz2 _⟩

theorem laidOut : laidOutB Try.prog = true := by kernel_rfl

theorem int_range {n : Int} (h : (Lit.int .i64 n).wf = true) : -9223372036854775808 ≤ n ∧ n ≤ 9223372036854775807 := by
  have h2 : IntKind.i64.min ≤ n ∧ n ≤ IntKind.i64.max := by
    unfold Lit.wf at h
    simpa only [Bool.and_eq_true, decide_eq_true_eq] using h
  rw [show IntKind.i64.min = -9223372036854775808 by decide, show IntKind.i64.max = 9223372036854775807 by decide] at h2
  exact h2

set_option maxRecDepth 100000 in
theorem lifted (os : Os) (started : os.Started) (H : Type) (enc : TypeId × Value → H) :
    ReturnsInHanded {} Try.checked os 5 .any (Rows.typexTextsSpec.pre6 enc Try.prog Try.f5 Rows.typexTextsRow.domain false) (Rows.typexTextsSpec.post enc Try.prog Try.f5 false true false false) := by
  refine returnsInHanded_of_change_sized (C := Try.checked) own started (by kernel_rfl) Try.func5
    (ChangeSpec.witness6 (enc := enc) (C := Try.checked) false ⟨#[], #[.string .empty], []⟩ 8 (by kernel_rfl) (by kernel_rfl) (by kernel_rfl) (by kernel_rfl)) ?_
  intro W base args ds gs before hval0 hW hcnd hsz _
  have hval : ∀ (j : Nat) t v, Try.f5.params[j]? = some t → args[j]? = some v → Value.okWide Try.prog W .any base t v := hval0
  have hW' := hW
  obtain ⟨p, q, hA0, hV, rfl, hfz, hnd⟩ := hW
  have hA : DataW.TrodAll enc Try.prog W 0 (fun _ => true) true Try.f5.params.toList args.toList ds p := hA0
  rw [Try.params5] at hA hval
  obtain ⟨v0, vs0, d0, ds0, p0, q0, hargs, rfl, rfl, h0, r0⟩ := trodAll_cons hA
  obtain ⟨rfl, rfl, rfl⟩ := trodAll_nil r0
  obtain rfl : args = #[v0] := by cases args; simp_all
  obtain ⟨rfl, rfl⟩ := trodVars_none hV
  obtain ⟨a0, rfl, rfl, rfl, w0⟩ := open_string Try.underlying9 (hval 0 9 v0 rfl rfl) h0
  have f0 : a0.size ≤ 281474976710656 := by
    have h := sized_string hsz (j := 0) rfl rfl
    have hr : reachBytes ≤ 140737488355328 := by decide
    have e : a0.data.toList.length = a0.size := by rw [Array.length_toList]; rfl
    omega
  clear hA0 hval0
  simp only [List.append_nil] at hW'
  refine (walk a0 W f0).mono fun e W' ⟨he, hg⟩ => ?_
  subst he
  exact ⟨_, rfl, _, _, _, [], _, [], hW', (trodAll_cons_mk (shut_bool Try.underlying4 _) trodAll_mk0), (trodAll_cons_mk (shut_string Try.underlying9 w0) trodAll_mk0), rfl, hg.frame _, fun h => by cases h⟩

theorem over : Rows.typexTextsRow.holds Try.pinned (OpenSpec.ofChange Rows.typexTextsSpec) :=
  OpenClaim.holds_of_wide 5 Try.f5 rfl rfl rfl rfl rfl rfl rfl ⟨rfl, rfl, rfl, rfl, rfl⟩ rfl rfl rfl rfl rfl (by kernel_rfl) Try.func5 (by kernel_rfl)
    (of_decide_eq_true (by kernel_rfl)) (by unfold Func.isWrapper; first | (rw [if_pos (by decide +kernel)]; kernel_rfl) | (rw [if_neg (by decide +kernel)]; exact ⟨rfl, rfl⟩))
    (fun os started H enc _ => lifted os started H enc)

/-- TypexTexts answers true. -/
theorem proved : Rows.TypexTextsSaid :=
  over

end Go.Proofs.Ytdmlelikmikflaa.typexTexts
