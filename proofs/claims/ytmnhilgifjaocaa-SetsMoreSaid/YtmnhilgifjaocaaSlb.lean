/-
  Lists of what packages show, put behind each other. Condition: at most a thousand.
-/
import Derived.Test.YtmnhilgifjaocaaSla
import Derived.Maps.AppendAt
namespace Go.Proofs.Ytmnhilgifjaocaa
open Go.RowKit
open Go.Lib hiding intOf

/-- A list's cells, one behind the other. -/
structure FlatI (w : World) (L : List IF) (cs : List Value) : Prop where
  len : cs.length = L.length * 3
  at_ : ∀ (i : Nat) (x : IF), L[i]? = some x → ∃ c : List Value, c.length = 3 ∧ (∀ (j : Nat) (u : Value), c[j]? = some u → cs[i * 3 + j]? = some u) ∧ IsIf w x c
theorem FlatI.nil (w : World) : FlatI w [] [] := ⟨rfl, fun i x h => by simp at h⟩
theorem FlatI.below {w w' : World} {L : List IF} {cs : List Value} (h : FlatI w L cs) (hb : Below w.heap.size w w') : FlatI w' L cs := ⟨h.len, fun i x hx => by
  obtain ⟨c, h1, h2, h3⟩ := h.at_ i x hx
  exact ⟨c, h1, h2, h3.below hb⟩⟩
theorem FlatI.app {w : World} {L M : List IF} {cs ds : List Value} (h : FlatI w L cs) (k : FlatI w M ds) : FlatI w (L ++ M) (cs ++ ds) := by
  refine ⟨by rw [List.length_append, List.length_append, h.len, k.len]; omega, fun i x hx => ?_⟩
  by_cases hi : i < L.length
  · rw [List.getElem?_append_left hi] at hx
    obtain ⟨c, h1, h2, h3⟩ := h.at_ i x hx
    refine ⟨c, h1, fun j u hu => ?_, h3⟩
    rw [List.getElem?_append_left (by have := (List.getElem?_eq_some_iff.1 hu).1; rw [h.len]; omega)]
    exact h2 j u hu
  · rw [List.getElem?_append_right (by omega)] at hx
    obtain ⟨c, h1, h2, h3⟩ := k.at_ _ x hx
    refine ⟨c, h1, fun j u hu => ?_, h3⟩
    rw [List.getElem?_append_right (by rw [h.len]; omega), h.len, show i * 3 + j - L.length * 3 = (i - L.length) * 3 + j by omega]
    exact h2 j u hu
theorem FlatI.ones {w : World} {L : List IF} {cs : List Value} (h : FlatI w L cs) : ∀ u ∈ cs, u.oneCell' = true := by
  intro u hu
  obtain ⟨k, hk⟩ := List.getElem?_of_mem hu
  have hk2 := (List.getElem?_eq_some_iff.1 hk).1
  rw [h.len] at hk2
  obtain ⟨x, hx⟩ : ∃ x, L[k / 3]? = some x := ⟨_, List.getElem?_eq_getElem (by omega)⟩
  obtain ⟨c, h1, h2, h3⟩ := h.at_ _ x hx
  have h4 := h3.ones.2
  obtain ⟨v, hv⟩ : ∃ v, c[k % 3]? = some v := ⟨_, List.getElem?_eq_getElem (by omega)⟩
  have h5 := h2 _ v hv
  rw [show k / 3 * 3 + k % 3 = k by omega, hk] at h5
  cases h5
  exact List.all_eq_true.1 h4 _ (List.mem_of_getElem? hv)
/-- A list in memory, flat. -/
theorem flat_of {w : World} {a : Addr} {L : List IF} (h : IsRow 3 IsIf w (some a) L) : ∃ cs, FlatI w L cs ∧ ∀ (j : Nat) (u : Value), cs[j]? = some u → w.cell? (a.add j) = some u := by
  have key : ∀ j, j < L.length * 3 → ∃ u, w.cell? (a.add j) = some u := fun j hj => by
    obtain ⟨x, hx⟩ : ∃ x, L[j / 3]? = some x := ⟨_, List.getElem?_eq_getElem (by omega)⟩
    obtain ⟨a', c, e, h1, h2, _⟩ := h _ x hx
    cases e
    obtain ⟨v, hv⟩ : ∃ v, c[j % 3]? = some v := ⟨_, List.getElem?_eq_getElem (by omega)⟩
    have := h2 _ v hv
    rw [add_more', show j / 3 * 3 + j % 3 = j by omega] at this
    exact ⟨v, this⟩
  refine ⟨(List.range (L.length * 3)).map fun j => (w.cell? (a.add j)).getD undef, ⟨by simp, fun i x hx => ?_⟩, fun j u hu => ?_⟩
  · obtain ⟨a', c, e, h1, h2, h3⟩ := h i x hx
    cases e
    refine ⟨c, h1, fun j u hu => ?_, h3⟩
    have hj := (List.getElem?_eq_some_iff.1 hu).1
    have hi := (List.getElem?_eq_some_iff.1 hx).1
    have h4 := h2 j u hu
    rw [add_more'] at h4
    rw [List.getElem?_map, List.getElem?_range (by omega), Option.map_some, h4]
    rfl
  · rw [List.getElem?_map] at hu
    obtain ⟨k, hk, hk2⟩ := Option.map_eq_some_iff.1 hu
    have hj := (List.getElem?_eq_some_iff.1 hk).1
    rw [List.length_range] at hj
    rw [List.getElem?_range hj] at hk
    cases hk
    obtain ⟨v, hv⟩ := key j hj
    rw [hv] at hk2 ⊢
    cases hk2
    rfl
/-- .. and back. -/
theorem row_of_flat {w : World} {base n : Nat} {v : Value} {cs : List Value} {L : List IF} (hr : w.ownsRow base 59 3 v n cs) (hf : FlatI w L cs) (hn : L.length = n) : ∃ (o : Option Addr) (k : Nat), v = .slice o n k ∧ n ≤ k ∧ k ≤ maxLen ∧ IsRow 3 IsIf w o L ∧ (o = none → k = 0) := by
  rcases hr.2 with ⟨rfl, h0⟩ | ⟨g, cap, cur, rfl, hb, hg, h1, h2, h3, h4⟩
  · obtain rfl : L = [] := List.length_eq_zero_iff.1 (by omega)
    exact ⟨none, 0, by rw [h0], by omega, Nat.zero_le _, IsRow.nil, fun _ => rfl⟩
  · refine ⟨_, cap, rfl, h1, h2, fun i x hx => ?_, fun h => by cases h⟩
    obtain ⟨c, g1, g2, g3⟩ := hf.at_ i x hx
    refine ⟨_, c, rfl, g1, fun j u hu => ?_, g3⟩
    have hj := (List.getElem?_eq_some_iff.1 hu).1
    have hi := (List.getElem?_eq_some_iff.1 hx).1
    rw [addr0, World.ownsRow.cellAt hr _ (by omega)]
    exact g2 j u hu
theorem infoI : (Try.prog.info? 59).map (fun i => (i.zero, i.size, i.bytes)) = some (some (.agg #[.string noB, .slice none 0 0, .slice none 0 0]), 3, 64) := by kernel_rfl
theorem empty_row (w : World) : (w.alloc (.cells #[] 59)).ownsRow w.heap.size 59 3 (.slice (some ⟨w.heap.size, 0, none⟩) 0 0) 0 [] :=
  ⟨rfl, .inr ⟨w.heap.size, 0, #[], rfl, Nat.le_refl _, heap_alloc_new w _, Nat.le_refl _, Nat.zero_le _, rfl, rfl⟩⟩
/-- A list put behind a row of the call's own. -/
theorem app_if {ops : Array Oper} {rest : List Oper} {op : Oper} {a : Act} {W : World} {Q : Exit → Act → World → Prop} (hgd : op.guard = none) (s x : Operand)
    (ho : op.op = .call { callee := .builtin .append, args := #[s, x], argTypes := #[22, 22] }) (w0 : World) (h0 : Below w0.heap.size w0 W) (base : Nat) (v : Value) (M : List IF) (cs : List Value) (n m c : Nat) (o : Option Addr) (hs : a.eval s = v) (hown : W.ownsRow base 59 3 v n cs)
    (hx : a.eval x = .slice o m c) (hM : M.length = m) (hr : IsRow 3 IsIf w0 o M) (hc : o = none → c = 0) (hsm : n + m ≤ 1000) (hbase : base ≤ W.heap.size)
    (h : ∀ v' W' ds, W'.ownsRow base 59 3 v' (n + m) (cs ++ ds) → FlatI w0 M ds → Below base W W' → wpList Try.prog ops Q rest (a.put op.dst v') W') : wpList Try.prog ops Q (op :: rest) a W := by
  obtain ⟨i0, hi, hi'⟩ := Option.map_eq_some_iff.1 infoI
  simp only [Prod.mk.injEq] at hi'
  obtain ⟨hz0, hz1, hz2⟩ := hi'
  cases o with
  | none =>
    obtain rfl := hc rfl
    obtain rfl : M = [] := by
      cases M with
      | nil => rfl
      | cons y r =>
        obtain ⟨a', _, e, _⟩ := hr 0 y rfl
        cases e
    obtain rfl : m = 0 := hM.symm
    refine wpList_plain hgd fun K hK => ?_
    have hrun := run_append_owned_none (P := Try.prog) W base 22 op.type 59 i0 3 Try.underlying22 hi v n cs hown
    unfold Oper.wp
    simp [execOp, ho, resolve, invoke, builtin, hs, hx, hrun, Result.andThen]
    exact hK _ _ (h v W [] (by simpa using hown) (FlatI.nil w0) (Below.refl _ _))
  | some ad =>
    obtain ⟨ds, hds, hcell⟩ := flat_of hr
    refine wpList_append_own_at (P := Try.prog) W hgd s x 22 ho base 59 i0 (.agg #[.string noB, .slice none 0 0, .slice none 0 0]) 3 64 Try.underlying22 hi hz0 hz1 hz2 rfl (by decide) v n cs hs hown ad m c ds hx (by rw [hds.len, hM]) (mvc h0 hcell) hds.ones (by unfold maxLen; omega) (by omega) hbase fun v' W' r1 r2 _ r4 => ?_
    exact h v' W' ds r1 hds ((Below.refl base W).grown r2 hbase fun k hk => (hown.lt k hk).1)
theorem empty_row' {W : World} {g : Nat} (h : W.heap.size = g) : (W.alloc (.cells #[] 59)).ownsRow g 59 3 (.slice (some ⟨g, 0, none⟩) 0 0) 0 [] := by subst h; exact empty_row W
theorem below3 {B : Nat} {w U : World} {a b c : Obj} (h : Below B w U) (hB : B ≤ U.heap.size) : Below B w (((U.alloc a).alloc b).alloc c) :=
  ((h.alloc hB a).alloc (by rw [World.size_alloc]; omega) b).alloc (by rw [World.size_alloc, World.size_alloc]; omega) c
theorem own_slice {W : World} {base n : Nat} {v : Value} {xs : List Value} (h : W.ownsRow base 59 3 v n xs) : ∃ o k, v = .slice o n k := by
  rcases h.2 with ⟨rfl, h0⟩ | ⟨g, cap, cur, rfl, _⟩
  · exact ⟨none, 0, by rw [h0]⟩
  · exact ⟨_, _, rfl⟩
theorem own_set {W : World} {base n g i : Nat} {v u : Value} {xs : List Value} (h : W.ownsRow base 59 3 v n xs) (hg : g < base) : (W.setCell ⟨g, i, none⟩ u).ownsRow base 59 3 v n xs := by
  refine ⟨h.1, ?_⟩
  rcases h.2 with h1 | ⟨k, cap, cur, rfl, hb, hk, r⟩
  · exact .inl h1
  · exact .inr ⟨k, cap, cur, rfl, hb, (Below.heap_setCell W ⟨g, i, none⟩ u k (by simp only; omega)).trans hk, r⟩
theorem blkK {B k : Nat} {W W' : World} {t : TypeId} {cs : Array Value} (h : Blk W k t cs) (hb : Below B W W') (hk : k < B) : Blk W' k t cs := (hb.block k hk).trans h
end Go.Proofs.Ytmnhilgifjaocaa
