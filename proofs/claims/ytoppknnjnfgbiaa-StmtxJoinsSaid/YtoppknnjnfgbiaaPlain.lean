/-
  Plain facts about pieces, for the document's own lexer: when a piece of the text may be. Nothing of the program is imported; no condition.
-/
import Derived.Test.YtoppknnjnfgbiaaMath
namespace Go.Proofs.Ytoppknnjnfgbiaa

theorem run_append (p : UInt8 → Bool) (a b : List UInt8) (h : run p a = a.length) : run p (a ++ b) = a.length + run p b := by
  induction a with
  | nil => simp
  | cons c r ih =>
    by_cases hc : p c = true
    · rw [run_hit r hc, List.length_cons] at h
      rw [List.cons_append, run_hit _ hc, ih (by omega), List.length_cons]; omega
    · rw [run_miss r (by simpa using hc)] at h; simp at h

theorem run_take (p : UInt8 → Bool) (l : List UInt8) : run p (l.take (run p l)) = run p l := by
  induction l with
  | nil => rfl
  | cons c r ih =>
    by_cases hc : p c = true
    · rw [run_hit r hc, List.take_succ_cons, run_hit _ hc, ih]
    · rw [run_miss r (by simpa using hc)]; rfl

/-- Behind a run stands a byte that is none, or nothing. -/
theorem run_stop (p : UInt8 → Bool) (l : List UInt8) (h : run p l < l.length) : ∃ c r, l.drop (run p l) = c :: r ∧ p c = false := by
  induction l with
  | nil => simp at h
  | cons c r ih =>
    by_cases hc : p c = true
    · rw [run_hit r hc] at h ⊢
      rw [List.drop_succ_cons]
      exact ih (by simp only [List.length_cons] at h; omega)
    · exact ⟨c, r, by rw [run_miss r (by simpa using hc)]; rfl, by simpa using hc⟩

end Go.Proofs.Ytoppknnjnfgbiaa
