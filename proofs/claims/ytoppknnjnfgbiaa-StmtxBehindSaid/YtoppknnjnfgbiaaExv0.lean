/-
  Expressions in memory. Condition: the expression lies in memory as said.
-/
import Derived.Test.YtoppknnjnfgbiaaParse
import Derived.Test.YtoppknnjnfgbiaaExm
namespace Go.Proofs.Ytoppknnjnfgbiaa
open Go.RowKit
open Go.Lib hiding intOf

mutual
/-- A value is such an expression, with its parts in blocks of which P holds. -/
def IsEP (P : Nat → Prop) (w : World) : EX → Value → Prop
  | .mk k p s n nm t args, v => ∃ (tk tp : Int) (tg tn : ByteArray) (tz : Option Addr) (ta : Nat) (o : Option Addr) (c : Nat),
      v = .agg #[.int .i64 k, .int .i64 p, .int .i64 s, .string nm, .int .i64 n, .int .i64 tk, .int .i64 tp, .string tg, .string tn, .slice tz ta ta, .slice o args.length c] ∧
      IsTP P w t (.agg #[.int .i64 tk, .int .i64 tp, .string tg, .string tn, .slice tz ta ta]) ∧ IsEPs P w o 0 args
def IsEPs (P : Nat → Prop) (w : World) (o : Option Addr) : Nat → List EX → Prop
  | _, [] => True
  | i, y :: r => (∃ (b : Nat) (c0 c1 c2 c3 c4 c5 c6 c7 c8 c9 c10 : Value), o = some ⟨b, 0, none⟩ ∧ P b ∧
      w.cell? ⟨b, i * 11, none⟩ = some c0 ∧ w.cell? ⟨b, i * 11 + 1, none⟩ = some c1 ∧ w.cell? ⟨b, i * 11 + 2, none⟩ = some c2 ∧ w.cell? ⟨b, i * 11 + 3, none⟩ = some c3 ∧ w.cell? ⟨b, i * 11 + 4, none⟩ = some c4 ∧ w.cell? ⟨b, i * 11 + 5, none⟩ = some c5 ∧
      w.cell? ⟨b, i * 11 + 6, none⟩ = some c6 ∧ w.cell? ⟨b, i * 11 + 7, none⟩ = some c7 ∧ w.cell? ⟨b, i * 11 + 8, none⟩ = some c8 ∧ w.cell? ⟨b, i * 11 + 9, none⟩ = some c9 ∧ w.cell? ⟨b, i * 11 + 10, none⟩ = some c10 ∧
      IsEP P w y (.agg #[c0, c1, c2, c3, c4, c5, c6, c7, c8, c9, c10])) ∧ IsEPs P w o (i + 1) r
end

mutual
theorem IsEP.keep {P P' : Nat → Prop} {w w' : World} (hP : ∀ (b i : Nat) (u : Value), P b → w.cell? ⟨b, i, none⟩ = some u → P' b) (hk : ∀ (b i : Nat) (u : Value), P b → w.cell? ⟨b, i, none⟩ = some u → w'.cell? ⟨b, i, none⟩ = some u) : ∀ {x : EX} {v : Value}, IsEP P w x v → IsEP P' w' x v
  | .mk .., _, h => by
    unfold IsEP at h ⊢
    obtain ⟨tk, tp, tg, tn, tz, ta, o, c, hv, ht, ha⟩ := h
    exact ⟨tk, tp, tg, tn, tz, ta, o, c, hv, ht.keep hP hk, IsEPs.keep hP hk ha⟩
theorem IsEPs.keep {P P' : Nat → Prop} {w w' : World} (hP : ∀ (b i : Nat) (u : Value), P b → w.cell? ⟨b, i, none⟩ = some u → P' b) (hk : ∀ (b i : Nat) (u : Value), P b → w.cell? ⟨b, i, none⟩ = some u → w'.cell? ⟨b, i, none⟩ = some u) : ∀ {i : Nat} {xs : List EX} {o : Option Addr}, IsEPs P w o i xs → IsEPs P' w' o i xs
  | _, [], _, _ => by unfold IsEPs; trivial
  | i, y :: r, _, h => by
    unfold IsEPs at h ⊢
    obtain ⟨⟨b, c0, c1, c2, c3, c4, c5, c6, c7, c8, c9, c10, ho, hb, h0, h1, h2, h3, h4, h5, h6, h7, h8, h9, h10, hy⟩, hr⟩ := h
    exact ⟨⟨b, c0, c1, c2, c3, c4, c5, c6, c7, c8, c9, c10, ho, hP _ _ _ hb h0, hk _ _ _ hb h0, hk _ _ _ hb h1, hk _ _ _ hb h2, hk _ _ _ hb h3, hk _ _ _ hb h4, hk _ _ _ hb h5, hk _ _ _ hb h6, hk _ _ _ hb h7, hk _ _ _ hb h8, hk _ _ _ hb h9, hk _ _ _ hb h10, IsEP.keep hP hk hy⟩, IsEPs.keep hP hk hr⟩
end
theorem IsEP.below {P : Nat → Prop} {w w' : World} {x : EX} {v : Value} (h : IsEP P w x v) (hb : Below w.heap.size w w') : IsEP P w' x v :=
  h.keep (fun _ _ _ h _ => h) fun _ _ _ _ hc => (hb.cell (World.block_lt_of_cell? _ _ hc)).trans hc
theorem IsEPs.below {P : Nat → Prop} {w w' : World} {o : Option Addr} {i : Nat} {xs : List EX} (h : IsEPs P w o i xs) (hb : Below w.heap.size w w') : IsEPs P w' o i xs :=
  h.keep (fun _ _ _ h _ => h) fun _ _ _ _ hc => (hb.cell (World.block_lt_of_cell? _ _ hc)).trans hc

/-- One element. -/
theorem IsEPs.at_ {P : Nat → Prop} {w : World} {o : Option Addr} : ∀ {xs : List EX} {i : Nat} (k : Nat) {y : EX}, IsEPs P w o i xs → xs[k]? = some y → IsEPs P w o (i + k) [y]
  | [], _, _, _, _, h => by simp at h
  | x :: r, i, 0, y, h, hy => by
    simp at hy; subst hy
    unfold IsEPs at h ⊢
    exact ⟨h.1, by unfold IsEPs; trivial⟩
  | x :: r, i, k + 1, y, h, hy => by
    unfold IsEPs at h
    have := IsEPs.at_ (i := i + 1) k h.2 (by simpa using hy)
    rwa [show i + 1 + k = i + (k + 1) by omega] at this

theorem IsEP.parts {P : Nat → Prop} {w : World} {x : EX} {v : Value} (h : IsEP P w x v) : ∃ (n : Int) (nm : ByteArray) (tk tp : Int) (tg tn : ByteArray) (tz : Option Addr) (ta : Nat) (o : Option Addr) (c : Nat),
    v = .agg #[.int .i64 x.kind, .int .i64 x.pos, .int .i64 x.stop, .string nm, .int .i64 n, .int .i64 tk, .int .i64 tp, .string tg, .string tn, .slice tz ta ta, .slice o x.args.length c] ∧ IsEPs P w o 0 x.args := by
  cases x with
  | mk k p s n nm t args =>
    unfold IsEP at h
    obtain ⟨tk, tp, tg, tn, tz, ta, o, c, hv, ht, ha⟩ := h
    exact ⟨n, nm, tk, tp, tg, tn, tz, ta, o, c, hv, ha⟩

theorem chain_drop {a b : Int} : ∀ {ys : List EX} {k : Nat} {y : EX}, chain a b (ys.drop k) → ys[k]? = some y → a ≤ y.pos ∧ y.pos < y.stop ∧ y.stop ≤ b ∧ lies y ∧ chain y.stop b (ys.drop (k + 1)) := by
  intro ys k y h hy
  obtain ⟨hk, rfl⟩ := List.getElem?_eq_some_iff.1 hy
  rw [List.drop_eq_getElem_cons hk] at h
  unfold chain at h
  exact ⟨h.1, lies_wide h.2.1, chain_le h.2.2, h.2.1, h.2.2⟩

theorem args_lt {x y : EX} {k : Nat} (h : x.args[k]? = some y) : SizeOf.sizeOf y < SizeOf.sizeOf x := by
  cases x with
  | mk a b c d e f g =>
    have hm : y ∈ g := List.mem_of_getElem? h
    have := List.sizeOf_lt_of_mem hm
    simp only [EX.mk.sizeOf_spec]
    omega

theorem lies_chain {x : EX} (h : lies x) : chain x.pos x.stop x.args := by
  cases x
  unfold lies at h
  exact h.2

end Go.Proofs.Ytoppknnjnfgbiaa
