/-
  Types of the call's own in memory; a copy of a name; stores into a row of types. No condition.
-/
import Derived.Test.YtlakmniaocpaaaaM03
import Derived.Test.YtlakmniaocpaaaaM04
import Derived.Deep.RegionHeld
import Derived.Deep.DeepCutAuto
namespace Go.Proofs.Ytlakmniaocpaaaa
open Go.RowKit
open Go.Lib hiding intOf
mutual
/-- A value is such a type, all of its parts in blocks from B on. -/
def IsYF (w : World) (B : Nat) : GY → Value → Prop
  | .mk k p m n args, v => ∃ (o : Option Addr) (c : Nat), v = .agg #[.int .i64 k, .string p, .string m, .int .i64 n, .slice o args.length c] ∧ args.length ≤ c ∧ c ≤ maxLen ∧ IsYFs w B o 0 args
def IsYFs (w : World) (B : Nat) (o : Option Addr) : Nat → List GY → Prop
  | _, [] => True
  | i, y :: r => (∃ (a : Addr) (c0 c1 c2 c3 c4 : Value), o = some a ∧ B ≤ a.block ∧ w.cell? (a.add (i * 5)) = some c0 ∧ w.cell? (a.add (i * 5 + 1)) = some c1 ∧ w.cell? (a.add (i * 5 + 2)) = some c2 ∧ w.cell? (a.add (i * 5 + 3)) = some c3 ∧ w.cell? (a.add (i * 5 + 4)) = some c4 ∧
      IsYF w B y (.agg #[c0, c1, c2, c3, c4])) ∧ IsYFs w B o (i + 1) r
end
mutual
theorem IsYF.keep {w w' : World} {B B' : Nat} (hB : B' ≤ B) (hk : ∀ (a : Addr) (u : Value), B ≤ a.block → w.cell? a = some u → w'.cell? a = some u) : ∀ {x : GY} {v : Value}, IsYF w B x v → IsYF w' B' x v
  | .mk .., _, h => by
    unfold IsYF at h ⊢
    obtain ⟨o, c, hv, hl, hc, ha⟩ := h
    exact ⟨o, c, hv, hl, hc, IsYFs.keep hB hk ha⟩
theorem IsYFs.keep {w w' : World} {B B' : Nat} (hB : B' ≤ B) (hk : ∀ (a : Addr) (u : Value), B ≤ a.block → w.cell? a = some u → w'.cell? a = some u) : ∀ {i : Nat} {xs : List GY} {o : Option Addr}, IsYFs w B o i xs → IsYFs w' B' o i xs
  | _, [], _, _ => by unfold IsYFs; trivial
  | i, y :: r, _, h => by
    unfold IsYFs at h ⊢
    obtain ⟨⟨a, c0, c1, c2, c3, c4, ho, hb, h0, h1, h2, h3, h4, hy⟩, hr⟩ := h
    have key : ∀ (j : Nat) (u : Value), w.cell? (a.add j) = some u → w'.cell? (a.add j) = some u := fun j u h => hk _ _ (by rw [show (a.add j).block = a.block by unfold Addr.add; split <;> rfl]; exact hb) h
    exact ⟨⟨a, c0, c1, c2, c3, c4, ho, Nat.le_trans hB hb, key _ _ h0, key _ _ h1, key _ _ h2, key _ _ h3, key _ _ h4, IsYF.keep hB hk hy⟩, IsYFs.keep hB hk hr⟩
end
mutual
theorem IsYF.toY {w : World} {B : Nat} : ∀ {x : GY} {v : Value}, IsYF w B x v → IsY w x v
  | .mk .., _, h => by
    unfold IsYF at h
    unfold IsY
    obtain ⟨o, c, hv, hl, hc, ha⟩ := h
    exact ⟨o, c, hv, hl, hc, IsYFs.toYs ha⟩
theorem IsYFs.toYs {w : World} {B : Nat} : ∀ {i : Nat} {xs : List GY} {o : Option Addr}, IsYFs w B o i xs → IsYs w o i xs
  | _, [], _, _ => by unfold IsYs; trivial
  | i, y :: r, _, h => by
    unfold IsYFs at h
    unfold IsYs
    obtain ⟨⟨a, c0, c1, c2, c3, c4, ho, _, h0, h1, h2, h3, h4, hy⟩, hr⟩ := h
    exact ⟨⟨a, c0, c1, c2, c3, c4, ho, h0, h1, h2, h3, h4, IsYF.toY hy⟩, IsYFs.toYs hr⟩
end
theorem IsYF.below {w w' : World} {B : Nat} {x : GY} {v : Value} (h : IsYF w B x v) (hb : Below w.heap.size w w') : IsYF w' B x v :=
  h.keep (Nat.le_refl _) fun _ _ _ hc => (hb.cell (World.block_lt_of_cell? _ _ hc)).trans hc
theorem IsYF.mono {w : World} {B B' : Nat} {x : GY} {v : Value} (h : IsYF w B x v) (hB : B' ≤ B) : IsYF w B' x v := h.keep hB fun _ _ _ hc => hc
theorem IsYF.of {w : World} {B : Nat} {k n : Int} {p m : ByteArray} {args : List GY} {o : Option Addr} {c N : Nat} (hN : args.length = N) (h1 : N ≤ c) (h2 : c ≤ maxLen) (h3 : IsYFs w B o 0 args) : IsYF w B (.mk k p m n args) (.agg #[.int .i64 k, .string p, .string m, .int .i64 n, .slice o N c]) := by
  subst hN
  unfold IsYF; exact ⟨o, c, rfl, h1, h2, h3⟩
theorem IsYFs.nil (w : World) (B : Nat) (o : Option Addr) (i : Nat) : IsYFs w B o i [] := by unfold IsYFs; trivial
/-- A list out of its elements. -/
theorem IsYFs.mk' {w : World} {B g : Nat} (hg : B ≤ g) : ∀ {xs : List GY} {i : Nat}, (∀ (k : Nat) (y : GY), xs[k]? = some y → ∃ c0 c1 c2 c3 c4 : Value, (∀ (j : Nat) (v : Value), [c0, c1, c2, c3, c4][j]? = some v → w.cell? ⟨g, (i + k) * 5 + j, none⟩ = some v) ∧ IsYF w B y (.agg #[c0, c1, c2, c3, c4])) → IsYFs w B (some ⟨g, 0, none⟩) i xs
  | [], i, _ => IsYFs.nil _ _ _ _
  | y :: r, i, h => by
    unfold IsYFs
    obtain ⟨c0, c1, c2, c3, c4, hc, hy⟩ := h 0 y rfl
    rw [Nat.add_zero] at hc
    have e : ∀ j, (⟨g, 0, none⟩ : Addr).add j = ⟨g, j, none⟩ := fun j => by unfold Addr.add; split <;> simp_all
    refine ⟨⟨⟨g, 0, none⟩, c0, c1, c2, c3, c4, rfl, hg, by rw [e]; exact hc 0 _ rfl, by rw [e]; exact hc 1 _ rfl, by rw [e]; exact hc 2 _ rfl, by rw [e]; exact hc 3 _ rfl, by rw [e]; exact hc 4 _ rfl, hy⟩, IsYFs.mk' hg fun k z hz => ?_⟩
    have := h (k + 1) z (by simpa using hz)
    rwa [show i + (k + 1) = i + 1 + k by omega] at this
theorem IsYF.cells {w : World} {B : Nat} {x : GY} {v : Value} (h : IsYF w B x v) : ∃ c0 c1 c2 c3 c4 : Value, v = .agg #[c0, c1, c2, c3, c4] ∧ ([c0, c1, c2, c3, c4] : List Value).all (·.oneCell') = true := by
  obtain ⟨k, p, m, n, args⟩ := x
  unfold IsYF at h
  obtain ⟨o, c, rfl, _⟩ := h
  exact ⟨_, _, _, _, _, rfl, rfl⟩
/-- A copy of a name. -/
theorem cloneS_any (s : ByteArray) (w : World) (h : s.size ≤ 281474976710656) :
    Calls Try.prog 39 #[.string s] w fun e w' => e = .returned (.string s) ∧ Below w.heap.size w w' := by
  have HC := Lib.hid (Try.stringslite_Clone s w h)
  clear h
  go_enter Try.func39, Try.ntmps39
  go_wp2_with fail
  refine HC.out.mono ?_
  rintro e w1 ⟨rfl, hB⟩
  have HB := Lib.hid hB
  clear HC hB
  go_wp2
  go_ret
  exact ⟨rfl, HB.out⟩
/-- What 'putL' puts, and what it leaves. -/
theorem putL_len : ∀ (vs cur : List Value) (o : Nat), (putL cur o vs).length = cur.length
  | [], cur, o => rfl
  | v :: r, cur, o => by rw [putL, putL_len r, List.length_set]
theorem putL_out : ∀ (vs cur : List Value) (o j : Nat), j < o ∨ o + vs.length ≤ j → (putL cur o vs)[j]? = cur[j]?
  | [], cur, o, j, _ => rfl
  | v :: r, cur, o, j, h => by
    rw [putL, putL_out r _ (o + 1) j (by rw [List.length_cons] at h; omega), List.getElem?_set_ne (by rw [List.length_cons] at h; omega)]
theorem putL_in : ∀ (vs cur : List Value) (o j : Nat) (v : Value), o + vs.length ≤ cur.length → vs[j]? = some v → (putL cur o vs)[o + j]? = some v
  | [], _, _, _, _, _, h => by simp at h
  | u :: r, cur, o, 0, v, hl, h => by
    rw [List.length_cons] at hl
    rw [putL, putL_out r _ (o + 1) (o + 0) (by omega), Nat.add_zero, List.getElem?_set_self (by omega)]
    simpa using h
  | u :: r, cur, o, j + 1, v, hl, h => by
    rw [List.length_cons] at hl
    rw [putL, show o + (j + 1) = o + 1 + j by omega]
    exact putL_in r _ (o + 1) j v (by rw [List.length_set]; omega) (by simpa using h)
end Go.Proofs.Ytlakmniaocpaaaa
