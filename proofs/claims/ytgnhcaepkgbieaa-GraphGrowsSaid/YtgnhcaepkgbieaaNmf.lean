/-
  Two rows of the call's own beside each other: an append to the one leaves the other. Condition: at most a million.
-/
import Derived.Test.YtgnhcaepkgbieaaNme
namespace Go.Proofs.Ytgnhcaepkgbieaa
open Go.RowKit

/-- An append onto a row of the call's own, and where the row lies behind it. -/
theorem run_append_tells {P : Program} (w : World) (base : Nat) (t ty e : TypeId) (i : TypeInfo) (z : Value) (size bytes : Nat) (ht : P.underlying t = some (.slice e)) (hi : P.info? e = some i) (hz : i.zero = some z)
    (hsize : i.size = size) (hby : i.bytes = bytes) (hzs : z.cells.size = size) (hsz : 0 < size)
    (v : Value) (n : Nat) (xs : List Value) (hown : w.ownsRow base e size v n xs)
    (a : Addr) (m c : Nat) (news : List Value) (hl : news.length = m * size) (hnews : ∀ j u, news[j]? = some u → w.cell? (a.add j) = some u) (h1 : ∀ u ∈ news, u.oneCell' = true)
    (h63 : n + m ≤ maxLen) (hbytes : (n + m) * bytes ≤ 140737488355328) (hbase : base ≤ w.heap.size) (hm : 0 < m) :
    ∃ v' w', (Builtin.append_ #[t, t] ty #[v, .slice (some a) m c]).run P w = .ok v' w' ∧ w'.ownsRow base e size v' (n + m) (xs ++ news) ∧
      ((∃ cap, v' = .slice (some ⟨w.heap.size, 0, none⟩) (n + m) cap ∧ w.grownBy w' none) ∨ ∃ g cap, v = .slice (some ⟨g, 0, none⟩) n cap ∧ v' = .slice (some ⟨g, 0, none⟩) (n + m) cap ∧ w.grownBy w' (some g)) := by
  obtain ⟨v', w', hrun, r1, r2, _⟩ := run_append_own (P := P) w base t ty e i z size bytes ht hi hz hsize hby hzs hsz v n xs hown a m c news hl hnews h1 h63 hbytes hbase
  refine ⟨v', w', hrun, r1, ?_⟩
  have hlim : n + m ≤ 9223372036854775807 := by simp only [maxLen] at h63; omega
  have fresh : ∀ o : Obj, w.grownBy (w.drew.alloc o) none := fun o => ⟨rfl, rfl, rfl, by simp, fun k hk _ => Below.heap_alloc w.drew _ k hk⟩
  rcases hown.2 with ⟨rfl, rfl⟩ | ⟨g, cap, cur, rfl, hbg, hg, hnc, hcm, hcs, htake⟩
  · have hr := run_append_nil (P := P) w t ty e i z ht hi hz a m c news (by rw [hsize]; exact hl) hnews hm (by omega) (by rw [hby]; have hb := hbytes; simp only [Nat.zero_add] at hb; omega)
    have hh := hrun.symm.trans hr
    injection hh with hv hw
    subst hw
    exact .inl ⟨_, by rw [hv, Nat.zero_add], fresh _⟩
  · by_cases hroom : n + m ≤ cap
    · obtain ⟨w2, hr, _, _⟩ := run_append_fits (P := P) w base t ty e i size ht hi hsize g n cap xs hown a m c news hl hnews h1 hroom
      have hh := hrun.symm.trans hr
      injection hh with hv hw
      exact .inr ⟨g, cap, rfl, hv, r2⟩
    · have hr := run_append_grow (P := P) w t ty e i z ht hi hz ⟨g, 0, none⟩ n cap xs (by rw [hsize]; exact hown.1) (hown.cells (g := g) rfl) a m c news (by rw [hsize]; exact hl) hnews (by omega) (by omega) (by rw [hby]; exact growslice_fits (by omega) hbytes)
      have hh := hrun.symm.trans hr
      injection hh with hv hw
      subst hw
      exact .inl ⟨_, hv, fresh _⟩
/-- Rows beside each other. -/
def Apart (a b : Value) : Prop := a.ownBlock = none ∨ a.ownBlock ≠ b.ownBlock
theorem apart_step {w0 w' : World} {obj : Obj} {base : Nat} {v v' : Value} {n m : Nat}
    (h : (∃ cap, v' = .slice (some ⟨(w0.alloc obj).heap.size, 0, none⟩) (n + m) cap ∧ (w0.alloc obj).grownBy w' none) ∨ ∃ g cap, v = .slice (some ⟨g, 0, none⟩) n cap ∧ v' = .slice (some ⟨g, 0, none⟩) (n + m) cap ∧ (w0.alloc obj).grownBy w' (some g))
    {e2 : TypeId} {size2 : Nat} {v2 : Value} {n2 : Nat} {xs2 : List Value} (h2 : w0.ownsRow base e2 size2 v2 n2 xs2) (ha : Apart v2 v) : w'.ownsRow base e2 size2 v2 n2 xs2 ∧ Apart v2 v' := by
  have h3 := h2.alloc obj
  rcases h with ⟨cap, rfl, hg⟩ | ⟨g, cap, rfl, rfl, hg⟩
  · refine ⟨h3.kept hg ?_, ?_⟩
    · cases hv : v2.ownBlock with
      | none => exact .inl rfl
      | some k => exact .inr (by simp)
    · unfold Apart
      cases hv : v2.ownBlock with
      | none => exact .inl rfl
      | some k =>
        right
        have := (h2.lt k hv).2
        simp only [Value.ownBlock, ne_eq, Option.some.injEq, World.size_alloc]
        omega
  · refine ⟨h3.kept hg ?_, ?_⟩
    · rcases ha with ha | ha
      · exact .inl ha
      · exact .inr ha
    · rcases ha with ha | ha
      · exact .inl ha
      · exact .inr ha
theorem below_step {w0 w' : World} {obj : Obj} {base : Nat} {e size : Nat} {v v' : Value} {n m : Nat} {xs : List Value} (hb : base ≤ w0.heap.size) (hown : w0.ownsRow base e size v n xs)
    (h : (∃ cap, v' = .slice (some ⟨(w0.alloc obj).heap.size, 0, none⟩) (n + m) cap ∧ (w0.alloc obj).grownBy w' none) ∨ ∃ g cap, v = .slice (some ⟨g, 0, none⟩) n cap ∧ v' = .slice (some ⟨g, 0, none⟩) (n + m) cap ∧ (w0.alloc obj).grownBy w' (some g)) : Below base w0 w' := by
  refine ((Below.refl base w0).alloc hb obj).trans ?_
  rcases h with ⟨cap, rfl, hg⟩ | ⟨g, cap, rfl, rfl, hg⟩
  · exact (Below.refl base _).grown hg (by rw [World.size_alloc]; omega) fun k hk => by cases hk
  · refine (Below.refl base _).grown hg (by rw [World.size_alloc]; omega) fun k hk => ?_
    injection hk with hk
    subst hk
    exact (hown.lt g rfl).1

/-- An append of one, laid just ahead; what it leaves. -/
theorem wpList_append_apart {ops : Array Oper} {rest : List Oper} {op : Oper} {a : Act} {w0 : World} {Q : Exit → Act → World → Prop} (hgd : op.guard = none) (s x : Operand) (t e : TypeId)
    (ho : op.op = .call { callee := .builtin .append, args := #[s, x], argTypes := #[t, t] }) (z : Value) (size bytes : Nat) (ht : Try.prog.underlying t = some (.slice e)) (hinf : (Try.prog.info? e).map (fun i => (i.zero, i.size, i.bytes)) = some (some z, size, bytes)) (hzs : z.cells.size = size) (hsz : 0 < size) (base : Nat)
    (v : Value) (n : Nat) (xs ys : List Value) (hs : a.eval s = v) (hown : w0.ownsRow base e size v n xs) (hx : a.eval x = .slice (some ⟨w0.heap.size, 0, none⟩) 1 1) (hy : ys.length = size) (h1 : ∀ u ∈ ys, u.oneCell' = true)
    (hb : base ≤ w0.heap.size) (hn : (n + 1) * bytes ≤ 140737488355328) (hn2 : n + 1 ≤ maxLen)
    (h : ∀ o cap w', w'.ownsRow base e size (.slice o (n + 1) cap) (n + 1) (xs ++ ys) → Below base w0 w' → (∀ (e2 : TypeId) (size2 : Nat) (v2 : Value) (n2 : Nat) (xs2 : List Value), w0.ownsRow base e2 size2 v2 n2 xs2 → Apart v2 v → w'.ownsRow base e2 size2 v2 n2 xs2 ∧ Apart v2 (.slice o (n + 1) cap)) → wpList Try.prog ops Q rest (a.put op.dst (.slice o (n + 1) cap)) w') :
    wpList Try.prog ops Q (op :: rest) a (w0.alloc (.cells ys.toArray e)) := by
  obtain ⟨i0, hi, hi'⟩ := Option.map_eq_some_iff.1 hinf
  simp only [Prod.mk.injEq] at hi'
  obtain ⟨hz0, hz1, hz2⟩ := hi'
  refine wpList_plain hgd fun K hK => ?_
  obtain ⟨v', w', hrun, r1, hcase⟩ := run_append_tells (P := Try.prog) (w0.alloc (.cells ys.toArray e)) base t op.type e i0 z size bytes ht hi hz0 hz1 hz2 hzs hsz v n xs (hown.alloc _) ⟨w0.heap.size, 0, none⟩ 1 1 ys (by rw [hy]; omega)
    (fun j u hu => by
      have e : (⟨w0.heap.size, 0, none⟩ : Addr).add j = ⟨w0.heap.size, j, none⟩ := by unfold Addr.add; split <;> simp_all
      rw [e]
      refine (World.cell?_alloc_new w0 _ _ j).trans ?_
      rw [← hu]
      exact List.getElem?_toArray ..) h1 hn2 hn (by rw [World.size_alloc]; omega) (by decide)
  have hbel := below_step hb hown hcase
  obtain ⟨o, cap, rfl⟩ : ∃ o cap, v' = .slice o (n + 1) cap := by
    rcases hcase with ⟨cap, rfl, _⟩ | ⟨g, cap, _, rfl, _⟩
    · exact ⟨_, _, rfl⟩
    · exact ⟨_, _, rfl⟩
  unfold Oper.wp
  simp [execOp, ho, resolve, invoke, builtin, hs, hx, hrun, Result.andThen]
  exact hK _ _ (h o cap w' r1 hbel fun e2 size2 v2 n2 xs2 h2 ha => apart_step hcase h2 ha)

end Go.Proofs.Ytgnhcaepkgbieaa
