/-
  The walks of 'Same' and 'alike', where the lists are the same, or alike. Condition: the lists lie in memory as 'AtToks' says; at most 2^41 tokens.
-/
import Derived.Test.YtoppknnjnfgbiaaAll
import Derived.Deep.QuietTactic
import Derived.BigQuiet
namespace Go.Proofs.Ytoppknnjnfgbiaa
open Go.RowKit
open Go.Lib hiding intOf

/-- A list of tokens lies from an address on. -/
def AtToks (w : World) (o : Option Addr) (ts : List Tok) : Prop := ∀ j u, (toksC ts)[j]? = some u → ∃ g off, o = some ⟨g, off, none⟩ ∧ w.cell? ⟨g, off + j, none⟩ = some u

theorem AtToks.below {w w' : World} {o : Option Addr} {ts : List Tok} (h : AtToks w o ts) (hb : Below w.heap.size w w') : AtToks w' o ts := fun j u hu => by
  obtain ⟨g, off, h1, h2⟩ := h j u hu
  exact ⟨g, off, h1, (hb.cell (World.block_lt_of_cell? _ _ h2)).trans h2⟩

theorem IsToks.at_ {w : World} {v : Value} {ts : List Tok} (h : IsToks w v ts) : ∃ o cap, v = .slice o ts.length cap ∧ ts.length ≤ cap ∧ AtToks w o ts := by
  obtain ⟨o, cap, hv, hle, hc⟩ := h
  exact ⟨o, cap, hv, hle, fun j u hu => by obtain ⟨g, h1, h2⟩ := hc j u hu; exact ⟨g, 0, h1, by rw [Nat.zero_add]; exact h2⟩⟩

theorem toksC_at (ts : List Tok) (k : Nat) (t : Tok) (h : ts[k]? = some t) (j : Nat) (hj : j < 4) : (toksC ts)[k * 4 + j]? = (tokC t)[j]? := by
  induction ts generalizing k with
  | nil => simp at h
  | cons x r ih =>
    have hl : (tokC x).length = 4 := rfl
    cases k with
    | zero =>
      simp at h; subst h
      show (tokC x ++ toksC r)[0 * 4 + j]? = _
      rw [Nat.zero_mul, Nat.zero_add, List.getElem?_append_left (by rw [hl]; exact hj)]
    | succ k =>
      show (tokC x ++ toksC r)[(k + 1) * 4 + j]? = _
      rw [List.getElem?_append_right (by rw [hl]; omega), hl, show (k + 1) * 4 + j - 4 = k * 4 + j by omega]
      exact ih k (by simpa using h)

/-- The cells of one token. -/
theorem AtToks.tok {w : World} {o : Option Addr} {ts : List Tok} (h : AtToks w o ts) {k : Nat} {t : Tok} (ht : ts[k]? = some t) : ∃ g off, o = some ⟨g, off, none⟩ ∧
    w.cell? ⟨g, off + k * 4, none⟩ = some (.int .i64 t.kind) ∧ w.cell? ⟨g, off + k * 4 + 1, none⟩ = some (.int .i64 (t.pos : Nat)) ∧ w.cell? ⟨g, off + k * 4 + 2, none⟩ = some (.int .i64 (t.stop : Nat)) ∧ w.cell? ⟨g, off + k * 4 + 3, none⟩ = some (.string ⟨t.text.toArray⟩) := by
  obtain ⟨g, off, ho, h0⟩ := h (k * 4 + 0) _ ((toksC_at ts k t ht 0 (by omega)).trans rfl)
  refine ⟨g, off, ho, h0, ?_, ?_, ?_⟩
  · obtain ⟨g', off', ho', h1⟩ := h (k * 4 + 1) _ ((toksC_at ts k t ht 1 (by omega)).trans rfl)
    rw [ho] at ho'; cases ho'; exact h1
  · obtain ⟨g', off', ho', h1⟩ := h (k * 4 + 2) _ ((toksC_at ts k t ht 2 (by omega)).trans rfl)
    rw [ho] at ho'; cases ho'; exact h1
  · obtain ⟨g', off', ho', h1⟩ := h (k * 4 + 3) _ ((toksC_at ts k t ht 3 (by omega)).trans rfl)
    rw [ho] at ho'; cases ho'; exact h1

theorem below_drewN {B : Nat} {a w : World} (h : Below B a w) (n : Nat) : Below B a (w.drewN n) := h.trans ⟨rfl, rfl, rfl, Nat.le_refl _, fun _ _ => rfl⟩

/-- Alike: the same but for places. -/
def key (t : Tok) : Int × List UInt8 := (t.kind, t.text)

theorem AtToks.drew {w w' : World} {o : Option Addr} {ts : List Tok} (h : AtToks w o ts) (hw : ∃ q, w' = w.drewN q) : AtToks w' o ts := by
  obtain ⟨q, rfl⟩ := hw
  exact h
theorem drew_more {w w' : World} (hw : ∃ q, w' = w.drewN q) (n : Nat) : ∃ q, w'.drewN n = w.drewN q := by
  obtain ⟨q, rfl⟩ := hw
  exact ⟨_, World.drewN_drewN _ _ _⟩

end Go.Proofs.Ytoppknnjnfgbiaa
