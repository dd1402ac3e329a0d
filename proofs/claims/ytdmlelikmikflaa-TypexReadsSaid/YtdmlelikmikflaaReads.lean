/-
  TypexReads answers true, whatever the tokens and the place. Condition: none beside the form's own reach.
-/
import Derived.Test.YtdmlelikmikflaaRow
import Derived.ProofKit
import Derived.OpenShut
import Derived.SizedLaws
import Derived.Carry
namespace Go.Proofs.Ytdmlelikmikflaa.typexReads
open Go.ChangeShapes Go.WideShapes Go.ChangeAt Go.RowKit
open Go.Lib hiding intOf

theorem own : ownKnob Try.prog.godebug = none := by kernel_rfl

set_option maxRecDepth 20000 in
set_option maxHeartbeats 4000000 in
theorem walk (o : Option Addr) (l : List TZ) (cap : Nat) (i : Int) (w : World) (h : ZAt w o l) (hnil : o = none → l = [] ∧ cap = 0) (hb : l.length * 40 ≤ 140737488355328) (hf : Fits l) (_hi : -9223372036854775808 ≤ i ∧ i ≤ 9223372036854775807) :
    Calls Try.prog 4 #[.slice o l.length cap, .int .i64 i] w fun e w' => e = .returned (.bool true) ∧ Below w.heap.size w w' := by
  have hn : l.length ≤ 9223372036854775807 := by omega
  have HZ := Lib.hid h
  have HN := Lib.hid hnil
  have HBy := Lib.hid hb
  have HP := Lib.hid (fun (o : Option Addr) (c : Nat) (W : World) (hz : ZAt W o l) => parse_any o c l i W hz hn hf)
  have HR := Lib.hid (fun (o : Option Addr) (c : Nat) (W : World) (hz : ZAt W o l) => refParse_any o c l i W hz hn)
  clear h hnil hf
  generalize prs l 30 i = R at HP HR
  go_enter Try.func4, Try.ntmps4
  go_wp2_with fail
  refine (awake_any _).mono ?_
  rintro e w1 ⟨rfl, hB⟩
  have B1 := Lib.hid hB
  clear hB
  go_wp2_with (refine wpList_append_toks rfl _ _ rfl w1.heap.size _ [] l rfl (World.ownsRow_lit w1 #[] 0 (Nat.le_refl _) (Nat.zero_le _) rfl) o cap rfl (HZ.out.below (B1.out.alloc B1.out.size _)) HN.out (by rw [List.length_nil, Nat.zero_add]; exact HBy.out) (by simp) ?_; intro v2 w2 hown hB2; obtain ⟨o2, cap2, rfl, hz2, hlc2, hn2⟩ := own_toks hown; have HZ2 := Lib.hid hz2; have B2 := Lib.hid hB2; clear hz2 hlc2 hn2 hown hB2)
  refine (HP.out o2 cap2 _ HZ2.out).mono ?_
  rintro e w3 ⟨v, rfl, hr, hB⟩
  obtain ⟨k_, p, g, n, o1, a1, rfl, hx, _⟩ := hr.all
  have X3 := Lib.hid hx
  have k2 : Below w.heap.size w w2 := (B1.out.alloc B1.out.size _).trans (B2.out.mono B1.out.size)
  have B3 := Lib.hid (k2.trans (hB.mono k2.size))
  have Z3 := Lib.hid (HZ.out.below B3.out)
  have Z4 := Lib.hid ((show ZAt w2 o2 l from HZ2.out).below hB)
  have hnl := Lib.hid hn
  clear hr hx hB B2 HZ HZ2 B1 HP hn hb k2
  go_wp2
  go_loopw [10] (fun i wr => ∃ k : Nat, k ≤ l.length ∧ i = .int .i64 (k : Nat) ∧ Hid (Below ((w3.alloc (.cells #[.int .i64 k_, .int .i64 p, .string g, .string n, .slice o1 a1 a1] 26)).alloc (.cells #[.int .i64 R.pos, .int .i64 R.code] 28)).heap.size ((w3.alloc (.cells #[.int .i64 k_, .int .i64 p, .string g, .string n, .slice o1 a1 a1] 26)).alloc (.cells #[.int .i64 R.pos, .int .i64 R.code] 28)) wr)) (fun i _ => l.length - (RowKit.intOf i).toNat)
  case atStart => exact ⟨0, Nat.zero_le _, rfl, Lib.hid (Below.refl _ _)⟩
  case round =>
    obtain ⟨m, hm, rfl, HB⟩ := hrel
    have hn := hnl.out
    have kb : Below w3.heap.size w3 wr := (((Below.refl _ _).alloc (Nat.le_refl _) _).alloc (by simp) _).trans (HB.out.mono (by simp; omega))
    have HK := Lib.hid kb
    clear kb
    by_cases hlt : m < l.length
    · obtain ⟨a, ha, a0, a1', a2, a3⟩ := (Z3.out.below HK.out).tok (List.getElem?_eq_getElem hlt)
      obtain ⟨b, hb, b0, b1, b2, b3⟩ := (Z4.out.below HK.out).tok (List.getElem?_eq_getElem hlt)
      subst ha; subst hb
      generalize l[m] = t at *
      have hkz : (m : Int) < (l.length : Nat) := by omega
      have hk0 : (0 : Int) ≤ (m : Nat) := by omega
      go_wp2
      go_quiet (fail)
      go_wp2
      go_roundw
      case rel => exact ⟨m + 1, hlt, by go_num, Lib.hid (below_drewN HB.out _)⟩
      case measure => simp [RowKit.intOf]; omega
    · have hk0 : ¬ ((m : Nat) : Int) < (l.length : Nat) := by omega
      obtain ⟨c3, c4, hz4, hz5, k4⟩ := two_more HB.out
      have X4 := Lib.hid (X3.out.below k4)
      have B4 := Lib.hid (B3.out.trans (k4.mono B3.out.size))
      clear k4
      go_wp2_with fail
      refine (HR.out o cap _ (Z3.out.below HK.out)).mono ?_
      rintro e w5 ⟨v, rfl, hr, hB⟩
      obtain ⟨k', p', g', n', o1', a1', rfl, hx, _⟩ := hr.all
      have d3 : ∀ i, w5.cell? ⟨w3.heap.size, i, none⟩ = #[.int .i64 k_, .int .i64 p, .string g, .string n, .slice o1 a1 a1][i]? := fun i => (hB.cell (p := ⟨w3.heap.size, i, none⟩) hz5).trans (c3 i)
      have d4 : ∀ i, w5.cell? ⟨w3.heap.size + 1, i, none⟩ = #[Value.int .i64 R.pos, Value.int .i64 R.code][i]? := fun i => (hB.cell (p := ⟨w3.heap.size + 1, i, none⟩) hz4).trans (c4 i)
      have hz6 : w3.heap.size + 1 < w5.heap.size := Nat.lt_of_lt_of_le hz4 hB.size
      have hz7 : w3.heap.size < w5.heap.size := by omega
      have B5 := Lib.hid (B4.out.trans (hB.mono B4.out.size))
      have HS := Lib.hid (fun (W : World) (hb : Below w5.heap.size w5 W) => sameT_any R.type _ _ _ _ W ((IsTX.below X4.out hB).below hb) (IsTX.below hx hb))
      clear hr hx hB X4 X3 B4 Z3 Z4 c3 c4 hz4 hz5
      go_wp2_with fail
      refine (HS.out _ (((Below.refl _ _).alloc (Nat.le_refl _) _).alloc (by simp) _)).mono ?_
      rintro e w6 ⟨rfl, hB⟩
      obtain ⟨c5, c6, hz8, hz9, k5⟩ := two_more hB
      have d5 : ∀ i, w6.cell? ⟨w3.heap.size + 1, i, none⟩ = #[Value.int .i64 R.pos, Value.int .i64 R.code][i]? := fun i => (k5.cell (p := ⟨w3.heap.size + 1, i, none⟩) hz6).trans (d4 i)
      have B6 := Lib.hid (B5.out.trans (k5.mono B5.out.size))
      clear hB k5 B5 c5 d3 d4
      go_wp2
      go_ret
      exact ⟨by simp, B6.out⟩

theorem laidOut : laidOutB Try.prog = true := by kernel_rfl

theorem int_range {n : Int} (h : (Lit.int .i64 n).wf = true) : -9223372036854775808 ≤ n ∧ n ≤ 9223372036854775807 := by
  have h2 : IntKind.i64.min ≤ n ∧ n ≤ IntKind.i64.max := by
    unfold Lit.wf at h
    simpa only [Bool.and_eq_true, decide_eq_true_eq] using h
  rw [show IntKind.i64.min = -9223372036854775808 by decide, show IntKind.i64.max = 9223372036854775807 by decide] at h2
  exact h2

set_option maxRecDepth 100000 in
theorem lifted (os : Os) (started : os.Started) (H : Type) (enc : TypeId × Value → H) :
    ReturnsInHanded {} Try.checked os 4 .any (Rows.typexReadsSpec.pre6 enc Try.prog Try.f4 Rows.typexReadsRow.domain false) (Rows.typexReadsSpec.post enc Try.prog Try.f4 false true false false) := by
  refine returnsInHanded_of_change_sized (C := Try.checked) own started (by kernel_rfl) Try.func4
    (ChangeSpec.witness6 (enc := enc) (C := Try.checked) false ⟨#[], #[.slice none 0 0, .int .i64 0], []⟩ 8 (by kernel_rfl) (by kernel_rfl) (by kernel_rfl) (by kernel_rfl)) ?_
  intro W base args ds gs before hval0 hW hcnd hsz _
  have hval : ∀ (j : Nat) t v, Try.f4.params[j]? = some t → args[j]? = some v → Value.okWide Try.prog W .any base t v := hval0
  have hW' := hW
  obtain ⟨p, q, hA0, hV, rfl, hfz, hnd⟩ := hW
  have hA : DataW.TrodAll enc Try.prog W 0 (fun _ => true) true Try.f4.params.toList args.toList ds p := hA0
  rw [Try.params4] at hA hval
  obtain ⟨v0, vs0, d0, ds0, p0, q0, hargs, rfl, rfl, h0, r0⟩ := trodAll_cons hA
  obtain ⟨v1, vs1, d1, ds1, p1, q1, rfl, rfl, rfl, h1, r1⟩ := trodAll_cons r0
  obtain ⟨rfl, rfl, rfl⟩ := trodAll_nil r1
  obtain rfl : args = #[v0, v1] := by cases args; simp_all
  obtain ⟨rfl, rfl⟩ := trodVars_none hV
  have t0 := h0
  obtain ⟨o0, l0, c0, s0, rfl, z0, _, _, _, n0, e0⟩ := open_toks (hval 0 23 v0 rfl rfl) h0
  obtain ⟨b0, f0⟩ := toks_reach e0 (fun n hn => by simpa using List.all_eq_true.1 hsz n (DataW.weights_mem_each (j := 0) rfl rfl n hn))
  have lt0 : ∀ x ∈ p0, x.block < W.heap.size := fun x hx => by simpa using hW'.lt x (by simp [hx])
  obtain ⟨a1, rfl, rfl, rfl, w1⟩ := open_int Try.underlying3 (hval 1 3 v1 rfl rfl) h1
  have f1 := int_range w1
  clear hA0 hval0
  simp only [List.append_nil] at hW'
  refine (walk o0 l0 c0 a1 W z0 n0 b0 f0 f1).mono fun e W' ⟨he, hg⟩ => ?_
  subst he
  exact ⟨_, rfl, _, _, _, [], _, [], hW', (trodAll_cons_mk (shut_bool Try.underlying4 _) trodAll_mk0), (trodAll_cons_mk (Below.trod laidOut (by kernel_rfl) (of_decide_eq_true (by kernel_rfl)) t0 hg lt0) (trodAll_cons_mk (shut_int Try.underlying3 w1) trodAll_mk0)), rfl, hg.frame _, fun h => by cases h⟩

theorem over : Rows.typexReadsRow.holds Try.pinned (OpenSpec.ofChange Rows.typexReadsSpec) :=
  OpenClaim.holds_of_wide 4 Try.f4 rfl rfl rfl rfl rfl rfl rfl ⟨rfl, rfl, rfl, rfl, rfl⟩ rfl rfl rfl rfl rfl (by kernel_rfl) Try.func4 (by kernel_rfl)
    (of_decide_eq_true (by kernel_rfl)) (by unfold Func.isWrapper; first | (rw [if_pos (by decide +kernel)]; kernel_rfl) | (rw [if_neg (by decide +kernel)]; exact ⟨rfl, rfl⟩))
    (fun os started H enc _ => lifted os started H enc)

/-- TypexReads answers true. -/
theorem proved : Rows.TypexReadsSaid :=
  over

end Go.Proofs.Ytdmlelikmikflaa.typexReads
