/-
  FilexMore answers true, whatever the text and the number. Condition: none beside the form's own reach.
-/
import Derived.Test.YtlgaphopjdeklaaGreatU46
namespace Go.Proofs.YtlgaphopjdeklaaGreat.filexMore
open Go.ChangeShapes Go.WideShapes Go.ChangeAt Go.RowKit
open Go.ChangeMaps (open_string shut_string)
open Go.Lib hiding intOf

theorem walk (s : ByteArray) (n : Int) (w : World) (hs : s.size ≤ 281474976710656) (_hn : -9223372036854775808 ≤ n ∧ n ≤ 9223372036854775807) : Calls Tryz.prog 6 #[.string s, .int .i64 n] w fun e w' => e = .returned (.bool true) ∧ Below w.heap.size w w' := by
  by_cases h : 3000 < s.size
  · exact walk_long s n w h hs
  have e0 : s.data.toList.length = s.size := by rw [Array.length_toList]; rfl
  by_cases hn : n.tmod 2 = 0
  · obtain ⟨R, R', T1, T2, ⟨p, q, p', q', hR, hR', hq, hq'⟩ | ⟨X, j, Z, r, hR, hR', z1, z2, z3, hf⟩⟩ := more_both s.data.toList zF (by omega) (.inr rfl)
    · exact walk_badF s n w (by omega) hn R R' T1 T2 p q p' q' hR hR' hq hq'
    · exact walk_okF s n w (by omega) hn R R' T1 T2 X j Z r hR hR' z1 z2 (by rw [z3, e0, show zF.length = 20 from rfl]; omega) hf
  · obtain ⟨R, R', T1, T2, ⟨p, q, p', q', hR, hR', hq, hq'⟩ | ⟨X, j, Z, r, hR, hR', z1, z2, z3, hf⟩⟩ := more_both s.data.toList zS (by omega) (.inl rfl)
    · exact walk_badS s n w (by omega) hn R R' T1 T2 p q p' q' hR hR' hq hq'
    · exact walk_okS s n w (by omega) hn R R' T1 T2 X j Z r hR hR' z1 z2 (by rw [z3, e0, show zS.length = 24 from rfl]; omega) hf

theorem laidOut : laidOutB Tryz.prog = true := by kernel_rfl

theorem int_range {n : Int} (h : (Lit.int .i64 n).wf = true) : -9223372036854775808 ≤ n ∧ n ≤ 9223372036854775807 := by
  have h2 : IntKind.i64.min ≤ n ∧ n ≤ IntKind.i64.max := by
    unfold Lit.wf at h
    simpa only [Bool.and_eq_true, decide_eq_true_eq] using h
  rw [show IntKind.i64.min = -9223372036854775808 by decide, show IntKind.i64.max = 9223372036854775807 by decide] at h2
  exact h2

set_option maxRecDepth 100000 in
theorem lifted (os : Os) (started : os.Started) (H : Type) (enc : TypeId × Value → H) :
    ReturnsInHanded {} Tryz.checked os 6 .any (Rows.filexMoreSpec.pre6 enc Tryz.prog Tryz.f6 Rows.filexMoreRow.domain false) (Rows.filexMoreSpec.post enc Tryz.prog Tryz.f6 false true false false) := by
  refine returnsInHanded_of_change_sized (C := Tryz.checked) own started (by kernel_rfl) Tryz.func6
    (ChangeSpec.witness6 (enc := enc) (C := Tryz.checked) false ⟨#[], #[.string .empty, .int .i64 0], []⟩ 8 (by kernel_rfl) (by kernel_rfl) (by kernel_rfl) (by kernel_rfl)) ?_
  intro W base args ds gs before hval0 hW hcnd hsz _
  have hval : ∀ (j : Nat) t v, Tryz.f6.params[j]? = some t → args[j]? = some v → Value.okWide Tryz.prog W .any base t v := hval0
  have hW' := hW
  obtain ⟨p, q, hA0, hV, rfl, hfz, hnd⟩ := hW
  have hA : DataW.TrodAll enc Tryz.prog W 0 (fun _ => true) true Tryz.f6.params.toList args.toList ds p := hA0
  rw [Tryz.params6] at hA hval
  obtain ⟨v0, vs0, d0, ds0, p0, q0, hargs, rfl, rfl, h0, r0⟩ := trodAll_cons hA
  obtain ⟨v1, vs1, d1, ds1, p1, q1, rfl, rfl, rfl, h1, r1⟩ := trodAll_cons r0
  obtain ⟨rfl, rfl, rfl⟩ := trodAll_nil r1
  obtain rfl : args = #[v0, v1] := by cases args; simp_all
  obtain ⟨rfl, rfl⟩ := trodVars_none hV
  obtain ⟨a0, rfl, rfl, rfl, w0⟩ := open_string Tryz.underlying9 (hval 0 9 v0 rfl rfl) h0
  have f0 : a0.size ≤ 281474976710656 := by
    have h := sized_string hsz (j := 0) rfl rfl
    have hr : reachBytes ≤ 140737488355328 := by decide
    have e : a0.data.toList.length = a0.size := by rw [Array.length_toList]; rfl
    omega
  obtain ⟨a1, rfl, rfl, rfl, w1⟩ := open_int Tryz.underlying3 (hval 1 3 v1 rfl rfl) h1
  have f1 := int_range w1
  clear hA0 hval0
  simp only [List.append_nil] at hW'
  refine (walk a0 a1 W f0 f1).mono fun e W' ⟨he, hg⟩ => ?_
  subst he
  exact ⟨_, rfl, _, _, _, [], _, [], hW', (trodAll_cons_mk (shut_bool Tryz.underlying4 _) trodAll_mk0), (trodAll_cons_mk (shut_string Tryz.underlying9 w0) (trodAll_cons_mk (shut_int Tryz.underlying3 w1) trodAll_mk0)), rfl, hg.frame _, fun h => by cases h⟩

theorem over : Rows.filexMoreRow.holds Tryz.pinned (OpenSpec.ofChange Rows.filexMoreSpec) :=
  OpenClaim.holds_of_wide 6 Tryz.f6 rfl rfl rfl rfl rfl rfl rfl ⟨rfl, rfl, rfl, rfl, rfl⟩ rfl rfl rfl rfl rfl (by kernel_rfl) Tryz.func6 (by kernel_rfl)
    (of_decide_eq_true (by kernel_rfl)) (by unfold Func.isWrapper; first | (rw [if_pos (by decide +kernel)]; kernel_rfl) | (rw [if_neg (by decide +kernel)]; exact ⟨rfl, rfl⟩))
    (fun os started H enc _ => lifted os started H enc)

/-- FilexMore answers true. -/
theorem proved : Rows.FilexMoreSaid :=
  over

end Go.Proofs.YtlgaphopjdeklaaGreat.filexMore
