/-
  A list of tokens in a row of the call's own; an append of tokens. Condition: at most 2^47 bytes.
-/
import Derived.Test.YtdmlelikmikflaaOpen
import Derived.Laws.OwnMore
namespace Go.Proofs.Ytdmlelikmikflaa
open Go.RowKit
open Go.Lib hiding intOf

/-- The cells of a list of tokens. -/
def tzsC (l : List TZ) : List Value := l.flatMap tzC
theorem tzsC_len (l : List TZ) : (tzsC l).length = l.length * 4 := by
  induction l with
  | nil => rfl
  | cons t r ih => simp only [tzsC, List.flatMap_cons, List.length_append, List.length_cons] at *; rw [ih]; simp [tzC]; omega
theorem tzsC_at (l : List TZ) (k : Nat) (t : TZ) (h : l[k]? = some t) (j : Nat) (hj : j < 4) : (tzsC l)[k * 4 + j]? = (tzC t)[j]? := by
  induction l generalizing k with
  | nil => simp at h
  | cons x r ih =>
    have hl : (tzC x).length = 4 := rfl
    cases k with
    | zero =>
      simp at h; subst h
      show (tzC x ++ tzsC r)[0 * 4 + j]? = _
      rw [Nat.zero_mul, Nat.zero_add, List.getElem?_append_left (by rw [hl]; exact hj)]
    | succ k =>
      show (tzC x ++ tzsC r)[(k + 1) * 4 + j]? = _
      rw [List.getElem?_append_right (by rw [hl]; omega), hl, show (k + 1) * 4 + j - 4 = k * 4 + j by omega]
      exact ih k (by simpa using h)
theorem tzsC_cell {w : World} {a : Addr} {l : List TZ} (h : ZAt w (some a) l) (j : Nat) (u : Value) (hu : (tzsC l)[j]? = some u) : w.cell? (a.add j) = some u := by
  have hj : j < l.length * 4 := by rw [← tzsC_len]; exact (List.getElem?_eq_some_iff.1 hu).1
  have hk : j / 4 < l.length := by omega
  obtain ⟨a', ha, hc⟩ := h (j / 4) _ (List.getElem?_eq_getElem hk)
  cases ha
  have e : j = j / 4 * 4 + j % 4 := by omega
  rw [e] at hu ⊢
  rw [tzsC_at l (j / 4) _ (List.getElem?_eq_getElem hk) (j % 4) (by omega)] at hu
  exact hc _ _ hu
theorem tzsC_one (l : List TZ) : ∀ u ∈ tzsC l, u.oneCell' = true := by
  intro u hu
  obtain ⟨t, _, ht⟩ := List.mem_flatMap.1 hu
  simp only [tzC, List.mem_cons, List.not_mem_nil, or_false] at ht
  rcases ht with rfl | rfl | rfl | rfl <;> rfl

/-- A row of the call's own that holds tokens. -/
theorem own_toks {w : World} {base : Nat} {v : Value} {l : List TZ} (h : w.ownsRow base 32 4 v l.length (tzsC l)) : ∃ o cap, v = .slice o l.length cap ∧ ZAt w o l ∧ l.length ≤ cap ∧ (o = none → l = [] ∧ cap = 0) := by
  rcases h.2 with ⟨rfl, h0⟩ | ⟨g, cap, cur, rfl, _, hg, hnc, _, _, htake⟩
  · have : l = [] := List.length_eq_zero_iff.1 h0
    subst this
    exact ⟨none, 0, rfl, fun k t hk => by simp at hk, Nat.le_refl _, fun _ => ⟨rfl, rfl⟩⟩
  · refine ⟨some ⟨g, 0, none⟩, cap, rfl, fun k t hk => ⟨_, rfl, fun j u hu => ?_⟩, hnc, fun h => (by cases h)⟩
    have hj : j < 4 := (List.getElem?_eq_some_iff.1 hu).1
    have hkl : k < l.length := (List.getElem?_eq_some_iff.1 hk).1
    rw [add_none, Nat.zero_add, h.cellAt (k * 4 + j) (by omega), tzsC_at l k t hk j hj]
    exact hu

/-- An append of tokens, onto a row of the call's own. -/
theorem wpList_append_toks {ops : Array Oper} {rest : List Oper} {o : Oper} {a : Act} {w : World} {Q : Exit → Act → World → Prop} (hgd : o.guard = none) (s x : Operand)
    (ho : o.op = .call { callee := .builtin .append, args := #[s, x], argTypes := #[23, 23] }) (base : Nat)
    (v : Value) (l m : List TZ) (hs : a.eval s = v) (hown : w.ownsRow base 32 4 v l.length (tzsC l)) (ad : Option Addr) (c : Nat) (hx : a.eval x = .slice ad m.length c) (hm : ZAt w ad m) (hnil : ad = none → m = [] ∧ c = 0)
    (hbytes : (l.length + m.length) * 40 ≤ 140737488355328) (hbase : base ≤ w.heap.size)
    (h : ∀ v' w', w'.ownsRow base 32 4 v' (l ++ m).length (tzsC (l ++ m)) → Below base w w' → wpList Try.prog ops Q rest (a.put o.dst v') w') : wpList Try.prog ops Q (o :: rest) a w := by
  obtain ⟨i0, hi, hi'⟩ := Option.map_eq_some_iff.1 Try.info32
  simp only [Prod.mk.injEq] at hi'
  obtain ⟨hz0, hz1, hz2⟩ := hi'
  cases ad with
  | none =>
    obtain ⟨rfl, rfl⟩ := hnil rfl
    refine wpList_plain hgd fun K hK => ?_
    have hrun := run_append_owned_none (P := Try.prog) w base 23 o.type 32 i0 4 Try.underlying23 hi v l.length (tzsC l) hown
    unfold Oper.wp
    rw [List.length_nil] at hx
    simp [execOp, ho, resolve, invoke, builtin, hs, hx, hrun, Result.andThen]
    exact hK _ _ (h v w (by simpa using hown) (Below.refl _ _))
  | some ad =>
    refine wpList_append_own w hgd s x 23 ho base 32 i0 (.agg #[.int .i64 0, .int .i64 0, .int .i64 0, .string ⟨#[]⟩]) 4 40 Try.underlying23 hi hz0 hz1 hz2 rfl (by decide) v l.length (tzsC l) hs hown ad m.length c (tzsC m) hx (tzsC_len m)
      (fun j u hu => tzsC_cell hm j u hu) (tzsC_one m) (by unfold maxLen; omega) hbytes hbase fun v' w' hown' hg _ => ?_
    refine h v' w' (by rw [List.length_append]; simpa [tzsC] using hown') ?_
    refine (Below.refl base w).grown hg hbase fun k hk => ?_
    rcases hown.2 with ⟨rfl, _⟩ | ⟨g, cap, cur, rfl, hb, _⟩
    · cases hk
    · simp only [Value.ownBlock, Option.some.injEq] at hk
      omega

end Go.Proofs.Ytdmlelikmikflaa
