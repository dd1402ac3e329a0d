/-
  LexReads answers true for every text. No condition.
-/
import Derived.Test.YtddpmlmhlegheaaEnds
import Derived.Test.YtddpmlmhlegheaaRefLoop
import Derived.ProofKit
import Derived.OpenShut
import Derived.JoinedCond
namespace Go.Proofs.Ytddpmlmhlegheaa.lexReads
open Go.ChangeShapes Go.WideShapes Go.ChangeAt Go.RowKit
open Go.ChangeMaps (open_string shut_string)

theorem own : ownKnob Try.prog.godebug = none := by kernel_rfl

theorem refall_at (s : ByteArray) (ts : List Tok) (a : Nat) (c : Int) (hl : lexed s.data.toList = (ts, a, c)) (w : World) (hs : s.size ≤ 9223372036854775807) :
    Calls Try.prog 11 #[.string s] w fun e w' => ∃ o cap, e = .returned (.tuple #[.slice o ts.length cap, .agg #[.int .i64 (a : Nat), .int .i64 c]]) ∧ AtToks w' o ts ∧ Below w.heap.size w w' :=
  (refAll_any s w hs).mono fun e w' ⟨v, he, ht, hb⟩ => by
    rw [hl] at he ht
    obtain ⟨o, cap, hv, _, ht⟩ := ht.at_
    simp only at he ht hv
    exact ⟨o, cap, by rw [he, hv], ht, hb⟩

set_option maxHeartbeats 2000000 in
theorem walk (s : ByteArray) (w : World) (hs0 : s.size ≤ maxLen) :
    Calls Try.prog 4 #[.string s] w fun e w' => e = .returned (.bool true) ∧ Below w.heap.size w w' := by
  obtain ⟨ts, a, c, hl⟩ : ∃ ts a c, lexed s.data.toList = (ts, a, c) := ⟨_, _, _, rfl⟩
  have hs : s.size ≤ 9223372036854775807 := hs0
  clear hs0
  have hlen := lexed_few hl
  have HA := Lib.hid (fun w => all_at s ts a c hl w (by omega))
  have HR := Lib.hid (fun w => refall_at s ts a c hl w (by omega))
  have HW := Lib.hid (fun w => word_any s w (by omega))
  have HV := Lib.hid (fun w => refWord_any s w)
  have hn : ts.length ≤ 2199023255553 := by omega
  clear hl hlen
  generalize kw s.data.toList = x at *
  go_enter Try.func4, Try.ntmps4
  go_wp2_with fail
  refine (awake_any _).mono ?_
  rintro e w1 ⟨rfl, hB⟩
  have B1 := Lib.hid hB
  clear hB
  go_wp2_with fail
  refine (HA.out _).mono ?_
  rintro e w2 ⟨o, cap, rfl, hT, hB, _⟩
  have B2 := Lib.hid (B1.out.trans (hB.mono B1.out.size))
  have T2 := Lib.hid hT
  clear hB B1 hT
  go_wp2_with fail
  refine (HR.out _).mono ?_
  rintro e w3 ⟨o', cap', rfl, hT, hB⟩
  have B3 := Lib.hid (below_box B2.out B2.out.size hB)
  have D3 := Lib.hid (box25 hB)
  have T3 := Lib.hid ((T2.out.below ((Below.refl _ _).alloc (Nat.le_refl _) _)).below hB)
  have U3 := Lib.hid hT
  have hz3 : w2.heap.size + 1 ≤ w3.heap.size := by have := hB.size; simpa using this
  clear hB B2 T2 hT
  go_wp2_with fail
  refine (same_any o o' cap cap' ts _ (T3.out.below ((Below.refl _ _).alloc (Nat.le_refl _) _)) (U3.out.below ((Below.refl _ _).alloc (Nat.le_refl _) _)) hn).mono ?_
  rintro e w4 ⟨rfl, hB⟩
  have B4 := Lib.hid (below_box B3.out B3.out.size hB)
  obtain ⟨e0, e1⟩ := box25 hB
  have b5 : Below w3.heap.size w3 w4 := below_box (Below.refl _ _) (Nat.le_refl _) hB
  have d0 : w4.cell? ⟨w2.heap.size, 0, none⟩ = some (.int .i64 (a : Nat)) := (b5.cell (p := ⟨w2.heap.size, 0, none⟩) (by simp only; omega)).trans D3.out.1
  have d1 : w4.cell? ⟨w2.heap.size, 1, none⟩ = some (.int .i64 c) := (b5.cell (p := ⟨w2.heap.size, 1, none⟩) (by simp only; omega)).trans D3.out.2
  clear hB B3 D3 T3 U3 b5 hz3
  go_wp2_with fail
  refine (HW.out _).mono ?_
  rintro e w5 ⟨rfl, hB⟩
  have B5 := Lib.hid (B4.out.trans (hB.mono B4.out.size))
  clear hB B4 e0 e1 d0 d1
  go_wp2_with fail
  refine (HV.out _).mono ?_
  rintro e w6 ⟨rfl, hB⟩
  have B6 := Lib.hid (B5.out.trans (hB.mono B5.out.size))
  clear hB B5
  go_wp2
  go_ret
  exact ⟨by simp, B6.out⟩

set_option maxRecDepth 100000 in
theorem lifted (os : Os) (started : os.Started) (H : Type) (enc : TypeId × Value → H) :
    ReturnsInHanded {} Try.checked os 4 .any (Rows.lexReadsSpec.pre6 enc Try.prog Try.f4 Rows.lexReadsRow.domain false) (Rows.lexReadsSpec.post enc Try.prog Try.f4 false true false false) := by
  refine returnsInHanded_of_change (C := Try.checked) own started (by kernel_rfl) Try.func4
    (ChangeSpec.witness6 (enc := enc) (C := Try.checked) false ⟨#[], #[.string .empty], []⟩ 8 (by kernel_rfl) (by kernel_rfl) (by kernel_rfl) (by kernel_rfl)) ?_
  intro W base args ds gs before hval0 hW hcnd _
  have hval : ∀ (j : Nat) t v, Try.f4.params[j]? = some t → args[j]? = some v → Value.okWide Try.prog W .any base t v := hval0
  have hW' := hW
  obtain ⟨p, q, hA0, hV, rfl, hfz, hnd⟩ := hW
  have hA : DataW.TrodAll enc Try.prog W 0 (fun _ => true) true Try.f4.params.toList args.toList ds p := hA0
  rw [Try.params4] at hA hval
  obtain ⟨v0, vs0, d0, ds0, p0, q0, hargs, rfl, rfl, h0, r0⟩ := trodAll_cons hA
  obtain ⟨rfl, rfl, rfl⟩ := trodAll_nil r0
  obtain rfl : args = #[v0] := by cases args; simp_all
  obtain ⟨rfl, rfl⟩ := trodVars_none hV
  obtain ⟨a0, rfl, rfl, rfl, w0⟩ := open_string Try.underlying9 (hval 0 9 v0 rfl rfl) h0
  clear hA0 hval0
  simp only [List.append_nil] at hW'
  refine (walk a0 W w0).mono fun e W' ⟨he, hg⟩ => ?_
  subst he
  exact ⟨_, rfl, _, _, _, [], [], [], hW', (trodAll_cons_mk (shut_bool Try.underlying4 _) trodAll_mk0), (trodAll_cons_mk (shut_string Try.underlying9 w0) trodAll_mk0), rfl, hg.frame _, fun h => by cases h⟩

theorem over : Rows.lexReadsRow.holds Try.pinned (OpenSpec.ofChange Rows.lexReadsSpec) :=
  OpenClaim.holds_of_wide 4 Try.f4 rfl rfl rfl rfl rfl rfl rfl ⟨rfl, rfl, rfl, rfl, rfl⟩ rfl rfl rfl rfl rfl (by kernel_rfl) Try.func4 (by kernel_rfl)
    (of_decide_eq_true (by kernel_rfl)) (by unfold Func.isWrapper; first | (rw [if_pos (by decide +kernel)]; kernel_rfl) | (rw [if_neg (by decide +kernel)]; exact ⟨rfl, rfl⟩))
    (fun os started H enc _ => lifted os started H enc)

/-- LexReads answers true. -/
theorem proved : Rows.LexReadsSaid :=
  over

end Go.Proofs.Ytddpmlmhlegheaa.lexReads
