/-
  Lists of names in memory; a row of the call's own that holds names, an append of names. Condition: at most 2^47 bytes.
-/
import Derived.Test.YtgnhcaepkgbieaaChecked
import Derived.ProofKit
import Derived.WalkKit
import Derived.Laws.OwnMore
import Derived.Below
namespace Go.Proofs.Ytgnhcaepkgbieaa
open Go.RowKit

/-- A list of names lies there. -/
def AtS (w : World) (o : Option Addr) (xs : List ByteArray) : Prop := ∀ (i : Nat) (s : ByteArray), xs[i]? = some s → ∃ a, o = some a ∧ w.cell? (a.add i) = some (.string s)
theorem AtS.below {w w' : World} {o : Option Addr} {xs : List ByteArray} (h : AtS w o xs) (hb : Below w.heap.size w w') : AtS w' o xs := fun i s hs => by
  obtain ⟨a, ho, hc⟩ := h i s hs
  exact ⟨a, ho, (hb.cell (World.block_lt_of_cell? _ _ hc)).trans hc⟩
theorem AtS.nil (w : World) (o : Option Addr) : AtS w o [] := fun i s h => by simp at h
theorem AtS.take {w : World} {o : Option Addr} {xs : List ByteArray} (h : AtS w o xs) (k : Nat) : AtS w o (xs.take k) := fun i s hs => by
  rw [List.getElem?_take] at hs
  split at hs
  · exact h i s hs
  · cases hs
def sC (l : List ByteArray) : List Value := l.map Value.string
theorem sC_len (l : List ByteArray) : (sC l).length = l.length * 1 := by unfold sC; simp
theorem sC_one (l : List ByteArray) : ∀ u ∈ sC l, u.oneCell' = true := by
  intro u hu
  unfold sC at hu
  obtain ⟨s, _, rfl⟩ := List.mem_map.1 hu
  rfl
theorem sC_cell {w : World} {a : Addr} {l : List ByteArray} (h : AtS w (some a) l) (j : Nat) (u : Value) (hu : (sC l)[j]? = some u) : w.cell? (a.add j) = some u := by
  unfold sC at hu
  rw [List.getElem?_map] at hu
  obtain ⟨s, hs, rfl⟩ := Option.map_eq_some_iff.1 hu
  obtain ⟨a', ha, hc⟩ := h j s hs
  cases ha
  exact hc
/-- Fresh: a list in a row that was made since. -/
theorem own_names {w : World} {base : Nat} {v : Value} {l : List ByteArray} (h : w.ownsRow base 9 1 v l.length (sC l)) : ∃ o cap, v = .slice o l.length cap ∧ AtS w o l ∧ l.length ≤ cap ∧ cap ≤ maxLen ∧ (o = none → l = [] ∧ cap = 0) := by
  rcases h.2 with ⟨rfl, h0⟩ | ⟨g, cap, cur, rfl, _, hg, hnc, hmx, _, htake⟩
  · have : l = [] := List.length_eq_zero_iff.1 h0
    subst this
    exact ⟨none, 0, rfl, AtS.nil _ _, Nat.le_refl _, Nat.zero_le _, fun _ => ⟨rfl, rfl⟩⟩
  · refine ⟨some ⟨g, 0, none⟩, cap, rfl, fun k s hk => ⟨_, rfl, ?_⟩, hnc, hmx, fun h => (by cases h)⟩
    have hkl : k < l.length := (List.getElem?_eq_some_iff.1 hk).1
    have e : (⟨g, 0, none⟩ : Addr).add k = ⟨g, k, none⟩ := by unfold Addr.add; split <;> simp_all
    rw [e, h.cellAt k (by omega)]
    unfold sC
    rw [List.getElem?_map, hk]
    rfl
theorem info9s : (Try.prog.info? 9).map (fun i => (i.zero, i.size, i.bytes)) = some (some (.string ⟨#[]⟩), 1, 16) := by kernel_rfl
theorem info9 : ∃ i, Try.prog.info? 9 = some i ∧ i.zero = some (.string ⟨#[]⟩) ∧ i.size = 1 ∧ i.bytes = 16 := by
  obtain ⟨i0, hi, hi'⟩ := Option.map_eq_some_iff.1 info9s
  simp only [Prod.mk.injEq] at hi'
  exact ⟨i0, hi, hi'.1, hi'.2.1, hi'.2.2⟩
/-- An append of names, onto a row of the call's own. -/
theorem wpList_append_names {ops : Array Oper} {rest : List Oper} {o : Oper} {a : Act} {w : World} {Q : Exit → Act → World → Prop} (hgd : o.guard = none) (s x : Operand)
    (ho : o.op = .call { callee := .builtin .append, args := #[s, x], argTypes := #[25, 25] }) (base : Nat)
    (v : Value) (l m : List ByteArray) (hs : a.eval s = v) (hown : w.ownsRow base 9 1 v l.length (sC l)) (ad : Option Addr) (c : Nat) (hx : a.eval x = .slice ad m.length c) (hm : AtS w ad m) (hnil : ad = none → m = [] ∧ c = 0)
    (hbytes : (l.length + m.length) * 16 ≤ 140737488355328) (hbase : base ≤ w.heap.size)
    (h : ∀ v' w', w'.ownsRow base 9 1 v' (l ++ m).length (sC (l ++ m)) → Below base w w' → wpList Try.prog ops Q rest (a.put o.dst v') w') : wpList Try.prog ops Q (o :: rest) a w := by
  obtain ⟨i0, hi, hz0, hz1, hz2⟩ := info9
  cases ad with
  | none =>
    obtain ⟨rfl, rfl⟩ := hnil rfl
    refine wpList_plain hgd fun K hK => ?_
    have hrun := run_append_owned_none (P := Try.prog) w base 25 o.type 9 i0 1 Try.underlying25 hi v l.length (sC l) hown
    unfold Oper.wp
    rw [List.length_nil] at hx
    simp [execOp, ho, resolve, invoke, builtin, hs, hx, hrun, Result.andThen]
    exact hK _ _ (h v w (by simpa using hown) (Below.refl _ _))
  | some ad =>
    refine wpList_append_own w hgd s x 25 ho base 9 i0 (.string ⟨#[]⟩) 1 16 Try.underlying25 hi hz0 hz1 hz2 rfl (by decide) v l.length (sC l) hs hown ad m.length c (sC m) hx (sC_len m)
      (fun j u hu => sC_cell hm j u hu) (sC_one m) (by unfold maxLen; omega) hbytes hbase fun v' w' hown' hg _ => ?_
    refine h v' w' (by rw [List.length_append]; simpa [sC] using hown') ?_
    refine (Below.refl base w).grown hg hbase fun k hk => ?_
    rcases hown.2 with ⟨rfl, _⟩ | ⟨g, cap, cur, rfl, hb, _⟩
    · cases hk
    · simp only [Value.ownBlock, Option.some.injEq] at hk
      omega

end Go.Proofs.Ytgnhcaepkgbieaa
