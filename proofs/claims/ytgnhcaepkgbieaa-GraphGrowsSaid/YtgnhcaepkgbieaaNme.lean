/-
  Packages in a row of the call's own; an append of one. Condition: at most a million.
-/
import Derived.Test.YtgnhcaepkgbieaaNmd
namespace Go.Proofs.Ytgnhcaepkgbieaa
open Go.RowKit

/-- Packages in a row of the call's own: each with where its imports lie. -/
abbrev NV := ND × (Option Addr × Nat)
def dC (l : List NV) : List Value := l.flatMap fun p => [.string p.1.name, .slice p.2.1 p.1.imps.length p.2.2]
theorem dC_len (l : List NV) : (dC l).length = l.length * 2 := by
  induction l with
  | nil => rfl
  | cons p r ih =>
    have : dC (p :: r) = [.string p.1.name, .slice p.2.1 p.1.imps.length p.2.2] ++ dC r := rfl
    rw [this, List.length_append, ih]
    simp only [List.length_cons, List.length_nil]
    omega
theorem dC_at : ∀ (l : List NV) (k : Nat) (p : NV), l[k]? = some p → (dC l)[k * 2]? = some (.string p.1.name) ∧ (dC l)[k * 2 + 1]? = some (.slice p.2.1 p.1.imps.length p.2.2)
  | q :: r, 0, p, h => by
    simp only [List.getElem?_cons_zero, Option.some.injEq] at h
    subst h
    exact ⟨rfl, rfl⟩
  | q :: r, k + 1, p, h => by
    have := dC_at r k p (by simpa using h)
    have e : dC (q :: r) = [.string q.1.name, .slice q.2.1 q.1.imps.length q.2.2] ++ dC r := rfl
    rw [e, List.getElem?_append_right (by simp; omega), List.getElem?_append_right (by simp; omega)]
    simp only [List.length_cons, List.length_nil]
    rw [show (k + 1) * 2 - 2 = k * 2 by omega, show (k + 1) * 2 + 1 - 2 = k * 2 + 1 by omega]
    exact this
def Lies (w : World) (l : List NV) : Prop := ∀ p ∈ l, p.1.imps.length ≤ 900000 ∧ AtS w p.2.1 p.1.imps
theorem Lies.below {w w' : World} {l : List NV} (h : Lies w l) (hb : Below w.heap.size w w') : Lies w' l := fun p hp => ⟨(h p hp).1, (h p hp).2.below hb⟩
theorem own_nodes {w : World} {base : Nat} {o : Option Addr} {n cap : Nat} {l : List NV} (h : w.ownsRow base 36 2 (.slice o n cap) n (dC l)) (hl : l.length = n) (hL : Lies w l) : AtD w o (l.map (·.1)) := fun i q hq => by
  rw [List.getElem?_map] at hq
  obtain ⟨p, hp, rfl⟩ := Option.map_eq_some_iff.1 hq
  have hi : i < l.length := (List.getElem?_eq_some_iff.1 hp).1
  rcases h.2 with ⟨hv, h0⟩ | ⟨g, cap', cur, hv, _⟩
  · omega
  · simp only [Value.slice.injEq] at hv
    obtain ⟨rfl, _, rfl⟩ := hv
    obtain ⟨d1, d2⟩ := dC_at l i p hp
    have c1 := h.cellAt (i * 2) (by omega)
    have c2 := h.cellAt (i * 2 + 1) (by omega)
    rw [d1] at c1
    rw [d2] at c2
    obtain ⟨g1, g2⟩ := hL p (List.mem_of_getElem? hp)
    have e : (⟨g, 0, none⟩ : Addr).add (i * 2) = ⟨g, i * 2, none⟩ := by unfold Addr.add; split <;> simp_all
    refine ⟨⟨g, 0, none⟩, p.2.1, p.2.2, rfl, by rw [e]; exact c1, by rw [e]; exact c2, g1, g2⟩
theorem info36s : (Try.prog.info? 36).map (fun i => (i.zero, i.size, i.bytes)) = some (some (.agg #[.string ⟨#[]⟩, .slice none 0 0]), 2, 40) := by kernel_rfl
/-- An append of one package, laid just ahead. -/
theorem wpList_append_node {ops : Array Oper} {rest : List Oper} {op : Oper} {a : Act} {w0 : World} {Q : Exit → Act → World → Prop} (hgd : op.guard = none) (s x : Operand)
    (ho : op.op = .call { callee := .builtin .append, args := #[s, x], argTypes := #[22, 22] }) (base : Nat)
    (v : Value) (n : Nat) (l : List NV) (p : NV) (hs : a.eval s = v) (hln : l.length = n) (hown : w0.ownsRow base 36 2 v n (dC l)) (hx : a.eval x = .slice (some ⟨w0.heap.size, 0, none⟩) 1 1)
    (hb : base ≤ w0.heap.size) (hn : n ≤ 1000000)
    (h : ∀ o cap w', w'.ownsRow base 36 2 (.slice o (n + 1) cap) (n + 1) (dC (l ++ [p])) → Below base w0 w' → wpList Try.prog ops Q rest (a.put op.dst (.slice o (n + 1) cap)) w') : wpList Try.prog ops Q (op :: rest) a (w0.alloc (.cells #[.string p.1.name, .slice p.2.1 p.1.imps.length p.2.2] 36)) := by
  subst hln
  obtain ⟨i0, hi, hi'⟩ := Option.map_eq_some_iff.1 info36s
  simp only [Prod.mk.injEq] at hi'
  obtain ⟨hz0, hz1, hz2⟩ := hi'
  refine wpList_append_own _ hgd s x 22 ho base 36 i0 (.agg #[.string ⟨#[]⟩, .slice none 0 0]) 2 40 Try.underlying22 hi hz0 hz1 hz2 rfl (by decide) v l.length (dC l) hs (hown.alloc _) ⟨w0.heap.size, 0, none⟩ 1 1 (dC [p]) hx (dC_len [p])
    (fun j u hu => ?_) (fun u hu => ?_) (by unfold maxLen; omega) (by omega) (by rw [World.size_alloc]; omega) fun v' w' hown' hg _ => ?_
  · have hj : j < 2 := (List.getElem?_eq_some_iff.1 hu).1
    have e : (⟨w0.heap.size, 0, none⟩ : Addr).add j = ⟨w0.heap.size, j, none⟩ := by unfold Addr.add; split <;> simp_all
    rw [e]
    refine (World.cell?_alloc_new w0 _ _ j).trans ?_
    rw [← hu]
    exact List.getElem?_toArray ..
  · have : u = .string p.1.name ∨ u = .slice p.2.1 p.1.imps.length p.2.2 := by
      have h' : u ∈ [Value.string p.1.name, .slice p.2.1 p.1.imps.length p.2.2] := hu
      simpa using h'
    rcases this with rfl | rfl <;> rfl
  · have hd : dC (l ++ [p]) = dC l ++ dC [p] := by unfold dC; rw [List.flatMap_append]
    rw [← hd] at hown'
    obtain ⟨o', cap', rfl⟩ : ∃ o' cap', v' = .slice o' (l.length + 1) cap' := by
      rcases hown'.2 with ⟨_, h0⟩ | ⟨g, cap', cur, rfl, _⟩
      · omega
      · exact ⟨_, _, rfl⟩
    have hk : Below base (w0.alloc (.cells #[.string p.1.name, .slice p.2.1 p.1.imps.length p.2.2] 36)) w' := by
      refine (Below.refl base _).grown hg (by rw [World.size_alloc]; omega) fun k hk => ?_
      rcases hown.2 with ⟨rfl, _⟩ | ⟨g, cap, cur, rfl, hb, _⟩
      · cases hk
      · simp only [Value.ownBlock, Option.some.injEq] at hk
        omega
    exact h o' cap' w' hown' (((Below.refl base w0).alloc hb _).trans hk)

end Go.Proofs.Ytgnhcaepkgbieaa
