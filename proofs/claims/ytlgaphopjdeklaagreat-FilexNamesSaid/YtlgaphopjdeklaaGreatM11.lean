/-
  Plain facts about pieces, for the document's own lexer: when a piece of the text may be. Nothing of the program is imported; no condition.
  Plain facts about tokens of texts that are put together: behind layout, with layout between. Nothing of the program is imported; no condition.
-/
import Derived.Test.YtlgaphopjdeklaaGreatM00
namespace Go.Proofs.YtlgaphopjdeklaaGreat
end Go.Proofs.YtlgaphopjdeklaaGreat
namespace Go.Proofs.YtlgaphopjdeklaaGreat
/-! ## shifting -/
def sh (n : Nat) (t : Tok) : Tok := ⟨t.kind, t.pos + n, t.stop + n, t.text⟩
/-! ## runs and skips in a longer text -/
/-- A text piece is closed. -/
def shut : List UInt8 → Prop
  | [] => True
  | c :: r => c = 34 → run ne34 r < r.length
/-! ## right pieces -/
theorem lexed_good' {l : List UInt8} (h : bad (toks l) 0 = none) : lexed l = (toks l, 0, 0) := by unfold lexed; rw [h]
theorem lexed_bad' {l : List UInt8} {a : Nat} {c : Int} (h : bad (toks l) 0 = some (a, c)) : lexed l = ([], a, c) := by unfold lexed; rw [h]
/-- What is answered is right just where nothing is wrong. -/
theorem lexed_cases (l : List UInt8) : (bad (toks l) 0 = none ∧ lexed l = (toks l, 0, 0)) ∨ ∃ a c, bad (toks l) 0 = some (a, c) ∧ lexed l = ([], a, c) := by
  cases h : bad (toks l) 0 with
  | none => exact .inl ⟨rfl, lexed_good' h⟩
  | some x => exact .inr ⟨x.1, x.2, rfl, lexed_bad' h⟩
theorem bad_some {ts : List Tok} {n a : Nat} {c : Int} (h : bad ts n = some (a, c)) : c ≠ 0 ∧ ∃ t ∈ ts, t.pos = a ∧ t.kind ≠ 0 := by
  induction ts generalizing n with
  | nil => cases h
  | cons t r ih =>
    simp only [bad] at h
    split at h
    · obtain ⟨h1, u, hu, h2⟩ := ih h
      exact ⟨h1, u, List.mem_cons_of_mem _ hu, h2⟩
    · rename_i h0
      injection h with h
      injection h with h1 h2
      refine ⟨by rw [← h2]; exact h0, t, List.mem_cons_self, h1, fun hk => h0 ?_⟩
      rw [hk]; exact flt_zero _ _
/-! ## layout ahead -/
/-! ## tokens, with layout between -/
end Go.Proofs.YtlgaphopjdeklaaGreat
