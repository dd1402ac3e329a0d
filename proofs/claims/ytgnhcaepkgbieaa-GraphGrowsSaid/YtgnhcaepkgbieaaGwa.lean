/-
  An append of a list of packages; one package more. Condition: at most a million.
-/
import Derived.Test.YtgnhcaepkgbieaaLrc
namespace Go.Proofs.Ytgnhcaepkgbieaa
open Go.RowKit

theorem dC_one (l : List NV) : ∀ u ∈ dC l, u.oneCell' = true := by
  intro u hu
  unfold dC at hu
  obtain ⟨p, _, hp⟩ := List.mem_flatMap.1 hu
  simp only [List.mem_cons, List.not_mem_nil, or_false] at hp
  rcases hp with rfl | rfl <;> rfl
theorem dC_app (a b : List NV) : dC (a ++ b) = dC a ++ dC b := by unfold dC; rw [List.flatMap_append]
/-- An append of packages onto a row of the call's own. -/
theorem run_append_nds (w : World) (base : Nat) (ty : TypeId) (v : Value) (n : Nat) (xs : List Value) (hown : w.ownsRow base 36 2 v n xs) (o : Option Addr) (m c b2 : Nat) (L : List NV) (hy : w.ownsRow b2 36 2 (.slice o m c) m (dC L)) (hl : L.length = m)
    (hb : base ≤ w.heap.size) (hn : n + m ≤ 1000000) (hv : ∃ ov cv, v = .slice ov n cv) :
    ∃ o' cap w', (Builtin.append_ #[22, 22] ty #[v, .slice o m c]).run Try.prog w = .ok (.slice o' (n + m) cap) w' ∧ w'.ownsRow base 36 2 (.slice o' (n + m) cap) (n + m) (xs ++ dC L) ∧ Below base w w' ∧ ∀ k, k < w.heap.size → v.ownBlock ≠ some k → w'.heap[k]? = w.heap[k]? := by
  obtain ⟨i0, hi, hi'⟩ := Option.map_eq_some_iff.1 info36s
  simp only [Prod.mk.injEq] at hi'
  obtain ⟨hz0, hz1, hz2⟩ := hi'
  rcases hy.2 with ⟨e, h0⟩ | ⟨g, cap', cur, e, hb2, hg, h4, h5, h6, h7⟩
  · simp only [Value.slice.injEq] at e
    obtain ⟨rfl, _, rfl⟩ := e
    subst h0
    obtain rfl : L = [] := List.length_eq_zero_iff.1 hl
    obtain ⟨ov, cv, rfl⟩ := hv
    refine ⟨ov, cv, w, ?_, by simpa [dC] using hown, Below.refl _ _, fun _ _ _ => rfl⟩
    exact run_append_owned_none (P := Try.prog) w base 22 ty 36 i0 2 Try.underlying22 hi (.slice ov n cv) n xs hown
  · simp only [Value.slice.injEq] at e
    obtain ⟨rfl, _, rfl⟩ := e
    have hcells : ∀ j u, (dC L)[j]? = some u → w.cell? ((⟨g, 0, none⟩ : Addr).add j) = some u := fun j u hu => by
      have e : (⟨g, 0, none⟩ : Addr).add j = ⟨g, j, none⟩ := by unfold Addr.add; split <;> simp_all
      have hj : j < m * 2 := by have := (List.getElem?_eq_some_iff.1 hu).1; rw [dC_len, hl] at this; exact this
      rw [e, World.ownsRow.cellAt hy j (by omega)]
      exact hu
    obtain ⟨v', w', hrun, r1, hgr, _⟩ := run_append_own (P := Try.prog) w base 22 ty 36 i0 (.agg #[.string ⟨#[]⟩, .slice none 0 0]) 2 40 Try.underlying22 hi hz0 hz1 hz2 rfl (by decide) v n xs hown ⟨g, 0, none⟩ m c (dC L) (by rw [dC_len, hl])
      hcells (dC_one L) (by unfold maxLen; omega) (by omega) hb
    have hsl : ∃ o' c', v' = .slice o' (n + m) c' := by
      rcases r1.2 with ⟨e, h0⟩ | ⟨g, cap, _, e, _⟩
      · exact ⟨none, 0, by rw [e, h0]⟩
      · exact ⟨_, _, e⟩
    obtain ⟨o', c', rfl⟩ := hsl
    refine ⟨o', c', w', hrun, r1, (Below.refl base w).grown hgr hb fun k hk => (hown.lt k hk).1, fun k hk hne => hgr.block k hk fun e => hne e.symm⟩
/-- An empty row that is not nil. -/
theorem empty_row (w : World) (e : TypeId) : (w.alloc (.cells #[] e)).ownsRow w.heap.size e 2 (.slice (some ⟨w.heap.size, 0, none⟩) 0 0) 0 [] :=
  ⟨rfl, .inr ⟨w.heap.size, 0, #[], rfl, Nat.le_refl _, heap_alloc_new w _, Nat.le_refl _, Nat.zero_le _, rfl, rfl⟩⟩
/-- One package, laid. -/
theorem one_nds (w : World) (y : ND) (oi : Option Addr) (k ci : Nat) (hk : y.imps.length = k) : (w.alloc (.cells #[.string y.name, .slice oi k ci] 36)).ownsRow w.heap.size 36 2 (.slice (some ⟨w.heap.size, 0, none⟩) 1 1) 1 (dC [((y, oi, ci) : NV)]) := by
  subst hk
  exact ⟨rfl, .inr ⟨w.heap.size, 1, #[.string y.name, .slice oi y.imps.length ci], rfl, Nat.le_refl _, heap_alloc_new w _, Nat.le_refl _, by decide, rfl, rfl⟩⟩
theorem keep_nds {w w' : World} {base n : Nat} {v : Value} {xs : List Value} (hr : w.ownsRow base 36 2 v n xs) (h : ∀ g, v.ownBlock = some g → w'.heap[g]? = w.heap[g]?) : w'.ownsRow base 36 2 v n xs := by
  obtain ⟨h0, h1 | ⟨g, cap, cur, rfl, hb, hg, h2⟩⟩ := hr
  · exact ⟨h0, .inl h1⟩
  · exact ⟨h0, .inr ⟨g, cap, cur, rfl, hb, (h g rfl).trans hg, h2⟩⟩
/-- What an append onto an empty row leaves. -/
structure CopyR (b0 m : Nat) (L : List NV) (w : World) (v : Value) (w' : World) : Prop where
  is : ∃ o' cap, v = .slice o' m cap ∧ w'.ownsRow b0 36 2 (.slice o' m cap) m (dC L)
  below : Below b0 w w'
  block : ∀ k, k < w.heap.size → k ≠ b0 → w'.heap[k]? = w.heap[k]?
theorem run_copy_nds (w : World) (b0 : Nat) (hE : w.ownsRow b0 36 2 (.slice (some ⟨b0, 0, none⟩) 0 0) 0 []) (o : Option Addr) (m c b2 : Nat) (L : List NV) (hy : w.ownsRow b2 36 2 (.slice o m c) m (dC L)) (hl : L.length = m) (hn : m ≤ 1000000) (ty : TypeId) :
    ∃ v' w', (Builtin.append_ #[22, 22] ty #[.slice (some ⟨b0, 0, none⟩) 0 0, .slice o m c]).run Try.prog w = .ok v' w' ∧ CopyR b0 m L w v' w' := by
  have hb := (hE.lt b0 rfl).2
  obtain ⟨o', cap, w', h1, h2, h3, h4⟩ := run_append_nds w b0 ty _ 0 [] hE o m c b2 L hy hl (Nat.le_of_lt hb) (by omega) ⟨_, _, rfl⟩
  rw [Nat.zero_add] at h1 h2
  rw [List.nil_append] at h2
  exact ⟨_, w', h1, ⟨o', cap, rfl, h2⟩, h3, fun k hk hne => h4 k hk fun e => by simp [Value.ownBlock] at e; exact hne e.symm⟩
/-- What an append of one package leaves. -/
structure MoreR (b0 m : Nat) (L : List NV) (p : NV) (w : World) (v : Value) (w' : World) : Prop where
  is : ∃ o' cap, v = .slice o' (m + 1) cap ∧ w'.ownsRow b0 36 2 (.slice o' (m + 1) cap) (m + 1) (dC (L ++ [p]))
  below : Below b0 w w'
theorem run_more_nds (w : World) (b0 : Nat) (v : Value) (m : Nat) (L : List NV) (hv : ∃ ov cv, v = .slice ov m cv) (hE : w.ownsRow b0 36 2 v m (dC L)) (hb : b0 ≤ w.heap.size) (g b2 : Nat) (p : NV) (hy : w.ownsRow b2 36 2 (.slice (some ⟨g, 0, none⟩) 1 1) 1 (dC [p])) (hn : m + 1 ≤ 1000000) (ty : TypeId) :
    ∃ v' w', (Builtin.append_ #[22, 22] ty #[v, .slice (some ⟨g, 0, none⟩) 1 1]).run Try.prog w = .ok v' w' ∧ MoreR b0 m L p w v' w' := by
  obtain ⟨o', cap, w', h1, h2, h3, h4⟩ := run_append_nds w b0 ty v m (dC L) hE _ 1 1 b2 [p] hy rfl hb hn hv
  rw [← dC_app] at h2
  exact ⟨_, w', h1, ⟨o', cap, rfl, h2⟩, h3⟩
/-- The law for a region whose order is drawn. -/
theorem step_append_ex {P : Program} {ops : Array Oper} {o : Oper} {a : Act} {w : World} {K : Act → World → Prop} {Q : Exit → Act → World → Prop} {E : Prop} {R : Value → World → Prop}
    (hg : o.guard = none) (s x : Operand) (t : TypeId) (hop : o.op = Op.call { callee := Callee.builtin Builtin.append, args := #[s, x], argTypes := #[t, t] }) (v1 v2 : Value) (hs : a.eval s = v1) (hx : a.eval x = v2)
    (hrun : ∀ ty, ∃ v' w', (Builtin.append_ #[t, t] ty #[v1, v2]).run P w = .ok v' w' ∧ R v' w') (hK : ∀ v' w', R v' w' → K (a.put o.dst v') w') :
    if Region.wanted o (yielded ops a.tmps) = true then Oper.wp P o a w K Q else E := by
  obtain ⟨v', w', h1, h2⟩ := hrun o.type
  exact step_append hg s x t hop v1 v2 hs hx v' w' h1 (hK v' w' h2)

end Go.Proofs.Ytgnhcaepkgbieaa
