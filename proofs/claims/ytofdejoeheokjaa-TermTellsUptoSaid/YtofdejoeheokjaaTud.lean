/-
  What is put in: the document's answer. Condition: at most a million parts in a list.
-/
import Derived.Test.YtofdejoeheokjaaTuc
namespace Go.Proofs.Ytofdejoeheokjaa
open Go.RowKit
open Go.Lib hiding intOf

mutual
/-- A value is such a type, all of its parts in blocks of which P holds. -/
def IsYP (P : Nat → Prop) (w : World) : GY → Value → Prop
  | .mk k p m n args, v => ∃ (o : Option Addr) (c : Nat), v = .agg #[.int .i64 k, .string p, .string m, .int .i64 n, .slice o args.length c] ∧ args.length ≤ c ∧ c ≤ maxLen ∧ IsYPs P w o 0 args
def IsYPs (P : Nat → Prop) (w : World) (o : Option Addr) : Nat → List GY → Prop
  | _, [] => True
  | i, y :: r => (∃ (a : Addr) (c0 c1 c2 c3 c4 : Value), o = some a ∧ P a.block ∧ w.cell? (a.add (i * 5)) = some c0 ∧ w.cell? (a.add (i * 5 + 1)) = some c1 ∧ w.cell? (a.add (i * 5 + 2)) = some c2 ∧ w.cell? (a.add (i * 5 + 3)) = some c3 ∧ w.cell? (a.add (i * 5 + 4)) = some c4 ∧
      IsYP P w y (.agg #[c0, c1, c2, c3, c4])) ∧ IsYPs P w o (i + 1) r
end
mutual
theorem IsYP.keep {w w' : World} {P P' : Nat → Prop} (hP : ∀ (a : Addr) (u : Value), P a.block → w.cell? a = some u → P' a.block) (hk : ∀ (a : Addr) (u : Value), P a.block → w.cell? a = some u → w'.cell? a = some u) : ∀ {x : GY} {v : Value}, IsYP P w x v → IsYP P' w' x v
  | .mk .., _, h => by
    unfold IsYP at h ⊢
    obtain ⟨o, c, hv, hl, hc, ha⟩ := h
    exact ⟨o, c, hv, hl, hc, IsYPs.keep hP hk ha⟩
theorem IsYPs.keep {w w' : World} {P P' : Nat → Prop} (hP : ∀ (a : Addr) (u : Value), P a.block → w.cell? a = some u → P' a.block) (hk : ∀ (a : Addr) (u : Value), P a.block → w.cell? a = some u → w'.cell? a = some u) : ∀ {i : Nat} {xs : List GY} {o : Option Addr}, IsYPs P w o i xs → IsYPs P' w' o i xs
  | _, [], _, _ => by unfold IsYPs; trivial
  | i, y :: r, _, h => by
    unfold IsYPs at h ⊢
    obtain ⟨⟨a, c0, c1, c2, c3, c4, ho, hb, h0, h1, h2, h3, h4, hy⟩, hr⟩ := h
    have hbl : ∀ j, (a.add j).block = a.block := fun j => by unfold Addr.add; split <;> rfl
    have key : ∀ (j : Nat) (u : Value), w.cell? (a.add j) = some u → w'.cell? (a.add j) = some u := fun j u h => hk _ _ (by rw [hbl]; exact hb) h
    exact ⟨⟨a, c0, c1, c2, c3, c4, ho, by have := hP _ _ (by rw [hbl]; exact hb) h0; rwa [hbl] at this, key _ _ h0, key _ _ h1, key _ _ h2, key _ _ h3, key _ _ h4, IsYP.keep hP hk hy⟩, IsYPs.keep hP hk hr⟩
end
mutual
theorem IsYP.toY {w : World} {P : Nat → Prop} : ∀ {x : GY} {v : Value}, IsYP P w x v → IsY w x v
  | .mk .., _, h => by
    unfold IsYP at h
    unfold IsY
    obtain ⟨o, c, hv, hl, hc, ha⟩ := h
    exact ⟨o, c, hv, hl, hc, IsYPs.toYs ha⟩
theorem IsYPs.toYs {w : World} {P : Nat → Prop} : ∀ {i : Nat} {xs : List GY} {o : Option Addr}, IsYPs P w o i xs → IsYs w o i xs
  | _, [], _, _ => by unfold IsYs; trivial
  | i, y :: r, _, h => by
    unfold IsYPs at h
    unfold IsYs
    obtain ⟨⟨a, c0, c1, c2, c3, c4, ho, _, h0, h1, h2, h3, h4, hy⟩, hr⟩ := h
    exact ⟨⟨a, c0, c1, c2, c3, c4, ho, h0, h1, h2, h3, h4, IsYP.toY hy⟩, IsYPs.toYs hr⟩
end
mutual
/-- All that lies there lies below the heap's size. -/
theorem IsY.toP {w : World} {q : Nat} (hq : w.heap.size ≤ q) : ∀ {x : GY} {v : Value}, IsY w x v → IsYP (fun k => k < q) w x v
  | .mk .., _, h => by
    unfold IsY at h
    unfold IsYP
    obtain ⟨o, c, hv, hl, hc, ha⟩ := h
    exact ⟨o, c, hv, hl, hc, IsYs.toPs hq ha⟩
theorem IsYs.toPs {w : World} {q : Nat} (hq : w.heap.size ≤ q) : ∀ {i : Nat} {xs : List GY} {o : Option Addr}, IsYs w o i xs → IsYPs (fun k => k < q) w o i xs
  | _, [], _, _ => by unfold IsYPs; trivial
  | i, y :: r, _, h => by
    unfold IsYs at h
    unfold IsYPs
    obtain ⟨⟨a, c0, c1, c2, c3, c4, ho, h0, h1, h2, h3, h4, hy⟩, hr⟩ := h
    have hb := World.block_lt_of_cell? _ _ h0
    rw [show (a.add (i * 5)).block = a.block by unfold Addr.add; split <;> rfl] at hb
    exact ⟨⟨a, c0, c1, c2, c3, c4, ho, by omega, h0, h1, h2, h3, h4, IsY.toP hq hy⟩, IsYs.toPs hq hr⟩
end
theorem IsYP.below {P : Nat → Prop} {w w' : World} {x : GY} {v : Value} (h : IsYP P w x v) (hb : Below w.heap.size w w') : IsYP P w' x v :=
  h.keep (fun _ _ h _ => h) fun _ _ _ hc => (hb.cell (World.block_lt_of_cell? _ _ hc)).trans hc
theorem IsYPs.below {P : Nat → Prop} {w w' : World} {o : Option Addr} {i : Nat} {xs : List GY} (h : IsYPs P w o i xs) (hb : Below w.heap.size w w') : IsYPs P w' o i xs :=
  h.keep (fun _ _ h _ => h) fun _ _ _ hc => (hb.cell (World.block_lt_of_cell? _ _ hc)).trans hc
theorem IsYP.parts {P : Nat → Prop} {w : World} {k n : Int} {p m : ByteArray} {args : List GY} {v : Value} (h : IsYP P w (.mk k p m n args) v) : ∃ (o : Option Addr) (c : Nat), v = .agg #[.int .i64 k, .string p, .string m, .int .i64 n, .slice o args.length c] ∧ args.length ≤ c ∧ c ≤ maxLen ∧ IsYPs P w o 0 args := by
  unfold IsYP at h; exact h
theorem IsYP.cells {P : Nat → Prop} {w : World} {x : GY} {v : Value} (h : IsYP P w x v) : ∃ c0 c1 c2 c3 c4 : Value, v = .agg #[c0, c1, c2, c3, c4] ∧ ([c0, c1, c2, c3, c4] : List Value).all (·.oneCell') = true := by
  obtain ⟨k, p, m, n, args⟩ := x
  obtain ⟨o, c, rfl, _⟩ := h.parts
  exact ⟨_, _, _, _, _, rfl, rfl⟩
theorem IsYPs.at_ {P : Nat → Prop} {w : World} {o : Option Addr} : ∀ {xs : List GY} {i : Nat} (k : Nat) {y : GY}, IsYPs P w o i xs → xs[k]? = some y →
    ∃ (a : Addr) (c0 c1 c2 c3 c4 : Value), o = some a ∧ (∀ (j : Nat) (v : Value), [c0, c1, c2, c3, c4][j]? = some v → w.cell? ((a.add ((i + k) * 5)).add j) = some v) ∧ IsYP P w y (.agg #[c0, c1, c2, c3, c4])
  | [], _, _, _, _, h => by simp at h
  | x :: r, i, 0, y, h, hy => by
    simp at hy; subst hy
    unfold IsYPs at h
    obtain ⟨⟨a, c0, c1, c2, c3, c4, ho, _, h0, h1, h2, h3, h4, hy⟩, _⟩ := h
    exact ⟨a, c0, c1, c2, c3, c4, ho, row5 h0 h1 h2 h3 h4, hy⟩
  | x :: r, i, k + 1, y, h, hy => by
    unfold IsYPs at h
    have := IsYPs.at_ (i := i + 1) k h.2 (by simpa using hy)
    rwa [show i + 1 + k = i + (k + 1) by omega] at this
theorem IsYPs.mk' {P : Nat → Prop} {w : World} {g : Nat} (hg : P g) : ∀ {xs : List GY} {i : Nat}, (∀ (k : Nat) (y : GY), xs[k]? = some y → ∃ c0 c1 c2 c3 c4 : Value, (∀ (j : Nat) (v : Value), [c0, c1, c2, c3, c4][j]? = some v → w.cell? ⟨g, (i + k) * 5 + j, none⟩ = some v) ∧ IsYP P w y (.agg #[c0, c1, c2, c3, c4])) → IsYPs P w (some ⟨g, 0, none⟩) i xs
  | [], i, _ => by unfold IsYPs; trivial
  | y :: r, i, h => by
    unfold IsYPs
    obtain ⟨c0, c1, c2, c3, c4, hc, hy⟩ := h 0 y rfl
    rw [Nat.add_zero] at hc
    have e : ∀ j, (⟨g, 0, none⟩ : Addr).add j = ⟨g, j, none⟩ := fun j => by unfold Addr.add; split <;> simp_all
    refine ⟨⟨⟨g, 0, none⟩, c0, c1, c2, c3, c4, rfl, hg, by rw [e]; exact hc 0 _ rfl, by rw [e]; exact hc 1 _ rfl, by rw [e]; exact hc 2 _ rfl, by rw [e]; exact hc 3 _ rfl, by rw [e]; exact hc 4 _ rfl, hy⟩, IsYPs.mk' hg fun k z hz => ?_⟩
    have := h (k + 1) z (by simpa using hz)
    rwa [show i + (k + 1) = i + 1 + k by omega] at this

/-- An append onto a row of the call's own: where it lies, what has turned. -/
theorem run_append_tells {P : Program} (w : World) (base : Nat) (t ty e : TypeId) (i : TypeInfo) (z : Value) (size bytes : Nat) (ht : P.underlying t = some (.slice e)) (hi : P.info? e = some i) (hz : i.zero = some z)
    (hsize : i.size = size) (hby : i.bytes = bytes) (hzs : z.cells.size = size) (hsz : 0 < size)
    (v : Value) (n : Nat) (xs : List Value) (hown : w.ownsRow base e size v n xs)
    (a : Addr) (m c : Nat) (news : List Value) (hl : news.length = m * size) (hnews : ∀ j u, news[j]? = some u → w.cell? (a.add j) = some u) (h1 : ∀ u ∈ news, u.oneCell' = true)
    (h63 : n + m ≤ maxLen) (hbytes : (n + m) * bytes ≤ 140737488355328) (hbase : base ≤ w.heap.size) (hm : 0 < m) :
    ∃ v' w', (Builtin.append_ #[t, t] ty #[v, .slice (some a) m c]).run P w = .ok v' w' ∧ w'.ownsRow base e size v' (n + m) (xs ++ news) ∧
      ((∃ cap, v' = .slice (some ⟨w.heap.size, 0, none⟩) (n + m) cap ∧ w.grownBy w' none) ∨ ∃ g cap, v = .slice (some ⟨g, 0, none⟩) n cap ∧ v' = .slice (some ⟨g, 0, none⟩) (n + m) cap ∧ w.grownBy w' (some g)) := by
  obtain ⟨v', w', hrun, r1, r2, _⟩ := run_append_own (P := P) w base t ty e i z size bytes ht hi hz hsize hby hzs hsz v n xs hown a m c news hl hnews h1 h63 hbytes hbase
  refine ⟨v', w', hrun, r1, ?_⟩
  have hlim : n + m ≤ 9223372036854775807 := by simp only [maxLen] at h63; omega
  have fresh : ∀ o : Obj, w.grownBy (w.drew.alloc o) none := fun o => ⟨rfl, rfl, rfl, by simp, fun k hk _ => Below.heap_alloc w.drew _ k hk⟩
  rcases hown.2 with ⟨rfl, rfl⟩ | ⟨g, cap, cur, rfl, hbg, hg, hnc, hcm, hcs, htake⟩
  · have hr := run_append_nil (P := P) w t ty e i z ht hi hz a m c news (by rw [hsize]; exact hl) hnews hm (by omega) (by rw [hby]; have hb := hbytes; simp only [Nat.zero_add] at hb; omega)
    have hh := hrun.symm.trans hr
    injection hh with hv hw
    subst hw
    exact .inl ⟨_, by rw [hv, Nat.zero_add], fresh _⟩
  · by_cases hroom : n + m ≤ cap
    · obtain ⟨w2, hr, _, _⟩ := run_append_fits (P := P) w base t ty e i size ht hi hsize g n cap xs hown a m c news hl hnews h1 hroom
      have hh := hrun.symm.trans hr
      injection hh with hv hw
      exact .inr ⟨g, cap, rfl, hv, r2⟩
    · have hr := run_append_grow (P := P) w t ty e i z ht hi hz ⟨g, 0, none⟩ n cap xs (by rw [hsize]; exact hown.1) (hown.cells (g := g) rfl) a m c news (by rw [hsize]; exact hl) hnews (by omega) (by omega) (by rw [hby]; exact growslice_fits (by omega) hbytes)
      have hh := hrun.symm.trans hr
      injection hh with hv hw
      subst hw
      exact .inl ⟨_, hv, fresh _⟩
theorem wpList_append_tells (w : World) {ops : Array Oper} {rest : List Oper} {o : Oper} {a : Act} {Q : Exit → Act → World → Prop}
    (hg : o.guard = none) (s x : Operand) (t : TypeId) (hop : o.op = Op.call { callee := Callee.builtin Builtin.append, args := #[s, x], argTypes := #[t, t] })
    (base : Nat) (e : TypeId) (i : TypeInfo) (z : Value) (size bytes : Nat) (h1 : Try.prog.underlying t = some (.slice e)) (h2 : Try.prog.info? e = some i) (h3 : i.zero = some z) (h4 : i.size = size) (h5 : i.bytes = bytes) (h6 : z.cells.size = size) (h7 : 0 < size)
    (v : Value) (k : Nat) (xs : List Value) (hs : a.eval s = v) (hown : w.ownsRow base e size v k xs) (ob : Obj) (news : List Value) (hx : a.eval x = .slice (some ⟨w.heap.size, 0, none⟩) 1 1) (hn : news.length = size)
    (hc : ∀ j u, news[j]? = some u → (w.alloc ob).cell? ((⟨w.heap.size, 0, none⟩ : Addr).add j) = some u) (h1c : ∀ u ∈ news, u.oneCell' = true) (b1 : k + 1 ≤ maxLen) (b2 : (k + 1) * bytes ≤ 140737488355328) (b3 : base ≤ w.heap.size)
    (hK : ∀ o' c' w', w'.ownsRow base e size (.slice o' (k + 1) c') (k + 1) (xs ++ news) → Turn (fun k => v.ownBlock = some k) w w' → (∀ j, (Value.slice o' (k + 1) c').ownBlock = some j → v.ownBlock = some j ∨ w.heap.size ≤ j) → wpList Try.prog ops Q rest (a.put o.dst (.slice o' (k + 1) c')) w') :
    wpList Try.prog ops Q (o :: rest) a (w.alloc ob) := by
  refine wpList_plain hg fun K hK' => ?_
  obtain ⟨v', w', hrun, r1, r2⟩ := run_append_tells (P := Try.prog) (w.alloc ob) base t o.type e i z size bytes h1 h2 h3 h4 h5 h6 h7 v k xs (hown.alloc _) ⟨w.heap.size, 0, none⟩ 1 1 news (by rw [hn]; omega) hc h1c b1 b2 (by rw [World.size_alloc]; omega) (by decide)
  have h0 : Turn (fun k => v.ownBlock = some k) w (w.alloc ob) := (Turn.refl _ w).alloc _
  obtain ⟨o', c', rfl, hT, hfr⟩ : ∃ o' c', v' = .slice o' (k + 1) c' ∧ Turn (fun k => v.ownBlock = some k) w w' ∧ ∀ j, (Value.slice o' (k + 1) c').ownBlock = some j → v.ownBlock = some j ∨ w.heap.size ≤ j := by
    rcases r2 with ⟨cap, rfl, hg⟩ | ⟨g, cap, rfl, rfl, hg⟩
    · refine ⟨_, _, rfl, h0.trans ((Turn.of_grown hg).mono fun k _ hk => by cases hk), fun j hj => .inr ?_⟩
      simp only [Value.ownBlock, Option.some.injEq] at hj
      subst hj
      simp
    · exact ⟨_, _, rfl, h0.trans ((Turn.of_grown hg).mono fun k _ hk => by rw [hk]; rfl), fun j hj => .inl hj⟩
  unfold Oper.wp
  simp [execOp, hop, resolve, invoke, builtin, hs, hx, hrun, Result.andThen]
  exact hK' _ _ (hK o' c' w' r1 hT hfr)

/-! ### a row of types of the call's own -/
def dY (L : List (List Value)) : List Value := L.flatten
/-- Types in a row of the call's own: each one's cells, and what they say; their parts lie elsewhere. -/
structure RowY (w0 wr : World) (B q : Nat) (o : Option Addr) (n c : Nat) (ys : List GY) : Prop where
  row : ∃ L : List (List Value), wr.ownsRow B 25 5 (.slice o n c) n (dY L) ∧ L.length = n ∧ (∀ x ∈ L, x.length = 5) ∧ ∀ (i : Nat) (y : GY) (x : List Value), ys[i]? = some y → L[i]? = some x → IsYP (fun k => (k < q ∨ B ≤ k) ∧ (Value.slice o n c).ownBlock ≠ some k) wr y (.agg x.toArray)
  len : ys.length = n
theorem dY_at : ∀ {L : List (List Value)} {i j : Nat} {x : List Value} {v : Value}, (∀ x ∈ L, x.length = 5) → L[i]? = some x → x[j]? = some v → (dY L)[i * 5 + j]? = some v
  | [], _, _, _, _, _, h, _ => by simp at h
  | y :: r, 0, j, x, v, hl, h, hv => by
    simp at h; subst h
    have hj : j < y.length := (List.getElem?_eq_some_iff.1 hv).1
    rw [Nat.zero_mul, Nat.zero_add]
    show (List.flatten (y :: r))[j]? = _
    rw [List.flatten_cons, List.getElem?_append_left hj]
    exact hv
  | y :: r, i + 1, j, x, v, hl, h, hv => by
    have h5 : y.length = 5 := hl y (by simp)
    show (List.flatten (y :: r))[(i + 1) * 5 + j]? = _
    rw [List.flatten_cons, List.getElem?_append_right (by omega), h5, show (i + 1) * 5 + j - 5 = i * 5 + j by omega]
    exact dY_at (L := r) (fun x hx => hl x (List.mem_cons_of_mem _ hx)) (by simpa using h) hv
theorem dY_len : ∀ {L : List (List Value)}, (∀ x ∈ L, x.length = 5) → (dY L).length = L.length * 5
  | [], _ => rfl
  | y :: r, h => by
    show (List.flatten (y :: r)).length = _
    rw [List.flatten_cons, List.length_append, h y (by simp)]
    have := dY_len (L := r) fun x hx => h x (List.mem_cons_of_mem _ hx)
    unfold dY at this
    rw [this, List.length_cons]
    omega
theorem RowY.start (w0 wr : World) (B q : Nat) : RowY w0 wr B q none 0 0 [] := by
  refine ⟨⟨[], World.ownsRow_nil _ _ _ _, rfl, ?_, ?_⟩, rfl⟩
  · intro x h; simp at h
  · intro i y x h; simp at h
theorem RowY.below {w0 wr w' : World} {B q : Nat} {o : Option Addr} {n c : Nat} {ys : List GY} (h : RowY w0 wr B q o n c ys) (hb : Below wr.heap.size wr w') : RowY w0 w' B q o n c ys := by
  obtain ⟨⟨L, h1, h2, h3, h4⟩, h5⟩ := h
  exact ⟨⟨L, (Turn.of_below hb).row h1 (fun k hk => by have := (h1.lt k hk).2; omega), h2, h3, fun i y x hy hx => (h4 i y x hy hx).below hb⟩, h5⟩
/-- One more. -/
theorem RowY.next {w0 wr w' : World} {B q : Nat} {o o' : Option Addr} {n c c' : Nat} {ys : List GY} {y : GY} {c0 c1 c2 c3 c4 : Value} {L : List (List Value)}
    (h1 : wr.ownsRow B 25 5 (.slice o n c) n (dY L)) (h2 : L.length = n) (h3 : ∀ x ∈ L, x.length = 5) (h4 : ∀ (i : Nat) (y : GY) (x : List Value), ys[i]? = some y → L[i]? = some x → IsYP (fun k => (k < q ∨ B ≤ k) ∧ (Value.slice o n c).ownBlock ≠ some k) wr y (.agg x.toArray)) (h5 : ys.length = n)
    (hy : IsYP (fun k => (k < q ∨ B ≤ k) ∧ (Value.slice o n c).ownBlock ≠ some k) wr y (.agg #[c0, c1, c2, c3, c4]))
    (hrow : w'.ownsRow B 25 5 (.slice o' (n + 1) c') (n + 1) (dY L ++ [c0, c1, c2, c3, c4]))
    (hT : Turn (fun k => (Value.slice o n c).ownBlock = some k) wr w')
    (hfr : ∀ k, (Value.slice o' (n + 1) c').ownBlock = some k → (Value.slice o n c).ownBlock = some k ∨ wr.heap.size ≤ k) :
    RowY w0 w' B q o' (n + 1) c' (ys ++ [y]) := by
  have hkeep : ∀ {z : GY} {v : Value}, IsYP (fun k => (k < q ∨ B ≤ k) ∧ (Value.slice o n c).ownBlock ≠ some k) wr z v → IsYP (fun k => (k < q ∨ B ≤ k) ∧ (Value.slice o' (n + 1) c').ownBlock ≠ some k) w' z v := fun h =>
    h.keep (fun a u ha hc => ⟨ha.1, fun e => by
      rcases hfr _ e with h | h
      · exact ha.2 h
      · have := World.block_lt_of_cell? _ _ hc; omega⟩) fun a u ha hc => hT.cell hc ha.2
  refine ⟨⟨L ++ [[c0, c1, c2, c3, c4]], ?_, by simp [h2], fun x hx => ?_, fun i z x hz hx => ?_⟩, by simp [h5]⟩
  · show World.ownsRow _ _ _ _ _ _ (List.flatten (L ++ [[c0, c1, c2, c3, c4]]))
    rw [List.flatten_append]
    simpa [dY] using hrow
  · rcases List.mem_append.1 hx with hx | hx
    · exact h3 x hx
    · rw [List.mem_singleton.1 hx]; rfl
  · by_cases hi : i < n
    · rw [List.getElem?_append_left (by omega)] at hz hx
      exact hkeep (h4 i z x hz hx)
    · have hi' : i = n := by have := (List.getElem?_eq_some_iff.1 hz).1; simp [h5] at this; omega
      subst hi'
      rw [List.getElem?_append_right (by omega), h5, Nat.sub_self] at hz
      rw [List.getElem?_append_right (by omega), h2, Nat.sub_self] at hx
      simp at hz hx
      subst hz; subst hx
      exact hkeep hy
/-- The whole. -/
theorem RowY.done {w0 wr w' : World} {B q : Nat} {o : Option Addr} {n c : Nat} {ys : List GY} (h : RowY w0 wr B q o n c ys) (hk : ∀ (a : Addr) (u : Value), (a.block < q ∨ B ≤ a.block) → wr.cell? a = some u → w'.cell? a = some u) : IsYPs (fun k => k < q ∨ B ≤ k) w' o 0 ys := by
  obtain ⟨⟨L, h1, h2, h3, h4⟩, h5⟩ := h
  rcases h1.2 with ⟨e, h0⟩ | ⟨g, cap, cur, e, hg, _⟩
  · obtain rfl : ys = [] := List.length_eq_zero_iff.1 (by omega)
    unfold IsYPs; trivial
  · simp only [Value.slice.injEq] at e
    obtain ⟨rfl, _, rfl⟩ := e
    refine IsYPs.mk' (.inr hg) fun i y hy => ?_
    have hi : i < n := by rw [← h5]; exact (List.getElem?_eq_some_iff.1 hy).1
    obtain ⟨x, hx⟩ : ∃ x, L[i]? = some x := ⟨_, List.getElem?_eq_getElem (by omega)⟩
    have hx5 := h3 x (List.mem_of_getElem? hx)
    have hiy := h4 i y x hy hx
    match x, hx5, hx, hiy with
    | [c0, c1, c2, c3, c4], _, hx, hiy =>
      refine ⟨c0, c1, c2, c3, c4, fun j v hv => ?_, hiy.keep (fun _ _ h _ => h.1) fun a u ha hc => hk a u ha.1 hc⟩
      refine hk ⟨g, (0 + i) * 5 + j, none⟩ v (.inr hg) ?_
      have hj : j < 5 := (List.getElem?_eq_some_iff.1 hv).1
      rw [Nat.zero_add, h1.cellAt (i * 5 + j) (by omega)]
      exact dY_at h3 hx hv

theorem cnt_pos : ∀ y : GY, 1 ≤ cntY y
  | .mk .. => by rw [cntY]; omega
theorem cnt_len : ∀ l : List GY, l.length ≤ cntYs l
  | [] => by rw [cntYs]; exact Nat.le_refl _
  | y :: r => by
    have := cnt_len r
    have := cnt_pos y
    rw [cntYs, List.length_cons]
    omega
theorem cnt_mem (z : GY) : ∀ l : List GY, z ∈ l → cntY z ≤ cntYs l
  | [], h => by cases h
  | y :: r, h => by
    rw [cntYs]
    rcases List.mem_cons.1 h with rfl | h
    · omega
    · have := cnt_mem z r h; omega
theorem one_cells (w : World) (b0 b1 b2 b3 b4 : Value) : ∀ (j : Nat) (u : Value), [b0, b1, b2, b3, b4][j]? = some u → (w.alloc (.cells #[b0, b1, b2, b3, b4] 25)).cell? ((⟨w.heap.size, 0, none⟩ : Addr).add j) = some u := fun j u hu => by
  have e : (⟨w.heap.size, 0, none⟩ : Addr).add j = ⟨w.heap.size, j, none⟩ := by unfold Addr.add; split <;> simp_all
  rw [e, (Blk.new w 25 #[b0, b1, b2, b3, b4]).cell]
  simpa using hu
/-! ### the document's -/
def SubQ (us : List GY) (q : Nat) (t : GY) (w : World) (e : Ending) (w' : World) : Prop := ∃ u, e = .returned u ∧ IsYP (fun k => k < q ∨ w.heap.size ≤ k) w' (subY us t) u ∧ Below w.heap.size w w'

set_option maxRecDepth 100000 in
set_option maxHeartbeats 8000000 in
theorem subR_any (us : List GY) (ou : Option Addr) (nu cu : Nat) (hnu : us.length = nu) (q : Nat) :
    ∀ (s : Nat) (t : GY) (v : Value) (w : World), SizeOf.sizeOf t < s → cntY t ≤ 1000000 → q ≤ w.heap.size → IsYP (fun k => k < q) w t v → IsYPs (fun k => k < q) w ou 0 us → Calls Try.prog 23 #[v, .slice ou nu cu] w fun e w' => SubQ us q t w e w' := by
  intro s
  induction s with
  | zero => intro t v w h; omega
  | succ s ih =>
  rintro ⟨k, p, m, n, l⟩ v w hs hcn hqw hv hus
  obtain ⟨o, c, rfl, hl, hc, ha⟩ := hv.parts
  rw [cntY] at hcn
  obtain ⟨N, hN⟩ : ∃ N, l.length = N := ⟨_, rfl⟩
  have hN1 : N ≤ 1000000 := by
    have : l.length ≤ cntYs l := cnt_len l
    omega
  have HI : Hid (∀ z ∈ l, ∀ (v : Value) (W : World), IsYP (fun k => k < q) W z v → Below w.heap.size w W → Calls Try.prog 23 #[v, .slice ou nu cu] W fun e w' => SubQ us q z W e w') :=
    fun z hz v W hv hb => ih z v W (by have := List.sizeOf_lt_of_mem hz; simp at hs; omega) (by have := cnt_mem z l hz; omega) (Nat.le_trans hqw hb.size) hv (hus.below hb)
  rw [hN] at hl ⊢
  have HN := Lib.hid hN
  have HX := Lib.hid ha
  have HUS := Lib.hid hus
  have HNU := Lib.hid hnu
  have HQ := Lib.hid hqw
  have hbx := box2 w #[.int .i64 k, .string p, .string m, .int .i64 n, .slice o N c] #[.int .i64 0, .string ⟨#[]⟩, .string ⟨#[]⟩, .int .i64 0, .slice none 0 0]
  obtain ⟨W2, hW2⟩ : ∃ W2, ((w.alloc (.cells #[.int .i64 k, .string p, .string m, .int .i64 n, .slice o N c] 25)).alloc (.cells #[.int .i64 0, .string ⟨#[]⟩, .string ⟨#[]⟩, .int .i64 0, .slice none 0 0] 25)) = W2 := ⟨_, rfl⟩
  rw [hW2] at hbx
  have HBX := Lib.hid hbx
  have HW2 := Lib.hid hW2
  clear hv ha hus hs ih hN hnu hbx hW2 hcn hqw
  by_cases hin : k = 6 ∧ 0 ≤ n ∧ n < nu
  · obtain ⟨rfl, hn0, hn1⟩ := hin
    obtain ⟨i, rfl⟩ : ∃ i : Nat, n = (i : Int) := ⟨n.toNat, by omega⟩
    have hi : i < nu := by omega
    obtain ⟨y, hy⟩ : ∃ y, us[i]? = some y := ⟨_, List.getElem?_eq_getElem (by rw [HNU.out]; exact hi)⟩
    have hsub : subY us (.mk 6 p m (i : Int) l) = y := by
      rw [subY, if_pos ⟨rfl, hn0, by rw [HNU.out]; exact hn1⟩, List.getD_eq_getElem?_getD]
      simp [hy]
    obtain ⟨a, a0, a1, a2, a3, a4, rfl, hca, hya⟩ := HUS.out.at_ i hy
    rw [Nat.zero_add] at hca
    have hww : Below w.heap.size w W2 := HBX.out.below
    have HC : Hid (∀ (j : Nat) (v : Value), [a0, a1, a2, a3, a4][j]? = some v → W2.cell? ((a.add (i * 5)).add j) = some v) := fun j v h => (hww.cell (World.block_lt_of_cell? _ _ (hca j v h))).trans (hca j v h)
    have HO := Lib.hid hya.toY.ones
    have HY := Lib.hid hya
    have HSUB := Lib.hid hsub
    have HWW := Lib.hid hww
    have c0 : W2.cell? ⟨w.heap.size, 0, none⟩ = some (.int .i64 6) := HBX.out.one.cell 0
    have c3 : W2.cell? ⟨w.heap.size, 3, none⟩ = some (.int .i64 (i : Int)) := HBX.out.one.cell 3
    clear hca hya hww hsub hy
    go_enter Try.func23, Try.ntmps23
    go_upto_if 21 with fail
    change Code.wp Try.prog _ _ _ ((w.alloc (.cells #[.int .i64 6, .string p, .string m, .int .i64 (i : Int), .slice o N c] 25)).alloc (.cells #[.int .i64 0, .string ⟨#[]⟩, .string ⟨#[]⟩, .int .i64 0, .slice none 0 0] 25))
    rw [HW2.out]
    go_wp2_with (first
      | (refine boxLoadG 25 5 size5 Try.underlying25 rfl _ rfl _ rfl (cs := [a0, a1, a2, a3, a4]) HC.out rfl ?_)
      | (refine boxStore 25 5 size5 rfl _ _ rfl (w.heap.size + 1) rfl [a0, a1, a2, a3, a4] rfl HBX.out.two rfl rfl HO.out ?_))
    refine bodyPost_ret (v := .agg #[a0, a1, a2, a3, a4]) ?_ rfl ⟨_, rfl, ?_, below_setRow HWW.out (Nat.le_succ _) _⟩
    · exact boxRes 25 5 size5 Try.underlying25 Try.results23 _ (w.heap.size + 1) rfl (HBX.out.two.row _) rfl
    · rw [HSUB.out]
      exact HY.out.keep (fun a u h _ => .inl h) fun x u hx hc => ((below_setRow HWW.out (Nat.le_succ _) _).cell (by have := HQ.out; omega)).trans hc
  · have c0 : W2.cell? ⟨w.heap.size, 0, none⟩ = some (.int .i64 k) := HBX.out.one.cell 0
    go_enter Try.func23, Try.ntmps23
    go_upto_region 1 with fail
    change Code.wp Try.prog _ _ _ ((w.alloc (.cells #[.int .i64 k, .string p, .string m, .int .i64 n, .slice o N c] 25)).alloc (.cells #[.int .i64 0, .string ⟨#[]⟩, .string ⟨#[]⟩, .int .i64 0, .slice none 0 0] 25))
    rw [HW2.out]
    go_cut [1, 2, 4, 21] from 7 to 20 (fun v1 v2 v4 v21 wx => v1 = .slice ou nu cu ∧ v2 = .pointer (some ⟨w.heap.size, 0, none⟩) ∧ v4 = .pointer (some ⟨w.heap.size + 1, 0, none⟩) ∧ v21 = .bool false ∧ wx = W2)
    case first =>
      have c3 : W2.cell? ⟨w.heap.size, 3, none⟩ = some (.int .i64 n) := HBX.out.one.cell 3
      by_cases h6 : k = 6
      · subst h6
        by_cases hn0 : 0 ≤ n
        · have hn1 : ¬ n < nu := fun h => hin ⟨rfl, hn0, h⟩
          have e0 := decide_eq_true hn0
          have e1 := decide_eq_false hn1
          clear hin
          go_wp2
          go_meet
          exact ⟨rfl, rfl, rfl, rfl, rfl⟩
        · have e0 := decide_eq_false hn0
          clear hin
          go_wp2
          go_meet
          exact ⟨rfl, rfl, rfl, rfl, rfl⟩
      · have e0 : (k == 6) = false := beq_eq_false_iff_ne.2 h6
        clear hin
        go_wp2
        go_meet
        exact ⟨rfl, rfl, rfl, rfl, rfl⟩
    case rest =>
      obtain ⟨rfl, rfl, rfl, rfl, rfl⟩ := hcut
      clear c0
      have hsub : subY us (.mk k p m n l) = .mk k p m n (subYs us l) := by rw [subY, if_neg (by rw [HNU.out]; exact hin)]
      have HSUB := Lib.hid hsub
      clear hsub hin
      go_wp2
      go_loopw [5, 6] (fun v i wr => ∃ (j : Nat) (o' : Option Addr) (c' : Nat), v = .slice o' j c' ∧ i = .int .i64 (j : Nat) ∧ Hid (j ≤ N) ∧ Hid (In2 wc wr w.heap.size #[.int .i64 k, .string p, .string m, .int .i64 n, .slice o N c] #[.int .i64 0, .string ⟨#[]⟩, .string ⟨#[]⟩, .int .i64 0, .slice none 0 0]) ∧ Hid (RowY w wr (w.heap.size + 1 + 1) q o' j c' ((subYs us l).take j))) (fun _ i _ => N - (RowKit.intOf i).toNat)
      case atStart => exact ⟨0, none, 0, rfl, rfl, Nat.zero_le _, HBX.out.start, by show RowY _ _ _ _ _ _ _ (List.take 0 _); rw [List.take_zero]; exact RowY.start _ _ _ _⟩
      case round =>
        obtain ⟨j, o', c', rfl, rfl, HJ, HR, HRY⟩ := hrel
        have c4 : wr.cell? ⟨w.heap.size, 4, none⟩ = some (.slice o N c) := HR.out.one.cell 4
        have hsz : w.heap.size + 1 + 1 ≤ wr.heap.size := by have := HR.out.two.lt; omega
        by_cases hj : j < N
        · have hj' : ((j : Int) < (N : Int)) := by omega
          have hj0 : (0 : Int) ≤ (j : Int) := by omega
          have hwj := IntWalk.i64_in ((j : Int) + 1) ⟨by omega, by omega⟩
          obtain ⟨x, hx⟩ : ∃ x, l[j]? = some x := ⟨_, List.getElem?_eq_getElem (by rw [HN.out]; exact hj)⟩
          have hmem := List.mem_of_getElem? hx
          obtain ⟨a', d0, d1, d2, d3, d4, rfl, hcx, hyx⟩ := HX.out.at_ j hx
          rw [Nat.zero_add] at hcx
          have hwr : Below w.heap.size w wr := HBX.out.below.trans (HR.out.below.mono (by omega))
          have HC : Hid (∀ (i : Nat) (v : Value), [d0, d1, d2, d3, d4][i]? = some v → wr.cell? ((a'.add (j * 5)).add i) = some v) := fun i v h => (hwr.cell (World.block_lt_of_cell? _ _ (hcx i v h))).trans (hcx i v h)
          have HF := Lib.hid (HI.out x hmem _ wr (hyx.below hwr) hwr)
          have HT : Hid ((subYs us l).take (j + 1) = (subYs us l).take j ++ [subY us x]) := by
            show _ = _
            rw [List.take_add_one, subs_map, List.getElem?_map, hx]
            rfl
          obtain ⟨i0, hi, hz0, hz1, hz2⟩ := info_parts infoTT
          have HJN := Lib.hid hj
          clear hcx hmem hyx hwr hx
          go_wp2_with (first
            | (refine boxLoadG 25 5 size5 Try.underlying25 rfl _ rfl _ rfl (cs := [d0, d1, d2, d3, d4]) HC.out rfl ?_)
            | (refine HF.out.mono ?_; rintro e w8 ⟨u, rfl, hu, hb⟩; obtain ⟨b0, b1, b2, b3, b4, rfl, ho⟩ := hu.cells; have HO8 := Lib.hid ho; have HU8 := Lib.hid hu; have HR8 := Lib.hid (HR.out.step HBX.out.size hb); have HRY8 := Lib.hid (HRY.out.below hb); have HSZ8 : Hid (wr.heap.size ≤ w8.heap.size) := hb.size; obtain ⟨⟨L, hL1, hL2, hL3, hL4⟩, hL5⟩ := HRY8.out; have HL1 := Lib.hid hL1; have HL2 := Lib.hid hL2; have HL3 := Lib.hid hL3; have HL4 := Lib.hid hL4; have HL5 := Lib.hid hL5; clear ho hu hb hL1 hL2 hL3 hL4 hL5)
            | (refine boxRow1 23 25 5 (.agg #[.int .i64 0, .string ⟨#[]⟩, .string ⟨#[]⟩, .int .i64 0, .slice none 0 0]) Try.underlying23 (by kernel_rfl) rfl (by decide) rfl _ rfl [b0, b1, b2, b3, b4] rfl rfl ?_)
            | (refine wpList_append_tells w8 rfl _ _ 23 rfl (w.heap.size + 1 + 1) 25 i0 (.agg #[.int .i64 0, .string ⟨#[]⟩, .string ⟨#[]⟩, .int .i64 0, .slice none 0 0]) 5 72 Try.underlying23 hi hz0 hz1 hz2 rfl (by decide) (.slice o' j c') j (dY L) rfl HL1.out _ [b0, b1, b2, b3, b4] rfl rfl (one_cells w8 b0 b1 b2 b3 b4) (by simpa using HO8.out) (by unfold maxLen; omega) (by omega) (by have := HSZ8.out; omega) ?_; intro o9 c9 w9 hrow hT9 hfr; have HROW := Lib.hid hrow; have HT9 := Lib.hid hT9; have HFR := Lib.hid hfr; clear hrow hT9 hfr))
          case roundEnd =>
            have hu8 : IsYP (fun k => (k < q ∨ w.heap.size + 1 + 1 ≤ k) ∧ (Value.slice o' j c').ownBlock ≠ some k) w8 (subY us x) (.agg #[b0, b1, b2, b3, b4]) := HU8.out.keep (fun a u h _ => by
              have hrow := HRY.out.row
              obtain ⟨L', hL', _⟩ := hrow
              refine ⟨h.imp id fun h => by omega, fun e => ?_⟩
              have := hL'.lt _ e
              have := HQ.out
              omega) fun _ _ _ h => h
            have hN := RowY.next (w0 := w) HL1.out HL2.out HL3.out HL4.out HL5.out hu8 HROW.out HT9.out HFR.out
            have hT := HT9.out
            refine ⟨⟨j + 1, o9, c9, rfl, by push_cast; rfl, hj, ⟨?_, ?_, ?_⟩, by show RowY _ _ _ _ _ _ _ _; rw [HT.out]; exact hN⟩, by simp [RowKit.intOf]; omega⟩
            · exact HR8.out.below.trans (hT.below (by have := HSZ8.out; omega) fun k hk => by have := (HL1.out.lt k hk).1; omega)
            · exact (hT.block _ HR8.out.one.lt fun hk => by have := (HL1.out.lt _ hk).1; omega).trans HR8.out.one
            · exact (hT.block _ HR8.out.two.lt fun hk => by have := (HL1.out.lt _ hk).1; omega).trans HR8.out.two
        · have hj' : ¬ ((j : Int) < (N : Int)) := by omega
          have hjN := HJ.out
          obtain rfl : j = N := by omega
          have hfull : (subYs us l).take j = subYs us l := List.take_of_length_le (by rw [subs_map, List.length_map, HN.out]; exact Nat.le_refl _)
          have hRY := HRY.out
          rw [hfull] at hRY
          have f4 : wr.frozen? ⟨w.heap.size, 4, none⟩ = false := HR.out.one.frozen 4
          obtain ⟨w9, hw9⟩ : ∃ w9, wr.setCell ⟨w.heap.size, 4, none⟩ (.slice o' j c') = w9 := ⟨_, rfl⟩
          have hk9 : Blk w9 w.heap.size 25 #[.int .i64 k, .string p, .string m, .int .i64 n, .slice o' j c'] := by rw [← hw9]; exact HR.out.one.set_ 4 _
          have hk9' : Blk w9 (w.heap.size + 1) 25 #[.int .i64 0, .string ⟨#[]⟩, .string ⟨#[]⟩, .int .i64 0, .slice none 0 0] := by rw [← hw9]; exact HR.out.two.far (by show w.heap.size + 1 ≠ w.heap.size; omega) _
          have hb9 : Below w.heap.size w w9 := by
            have h0 : Below w.heap.size w wr := HBX.out.below.trans (HR.out.below.mono (by omega))
            rw [← hw9]
            exact h0.setCell (p := ⟨w.heap.size, 4, none⟩) (Nat.le_refl _) _
          have hkc : ∀ (x : Addr) (u : Value), (x.block < q ∨ w.heap.size + 1 + 1 ≤ x.block) → wr.cell? x = some u → (w9.setRow (w.heap.size + 1) #[.int .i64 k, .string p, .string m, .int .i64 n, .slice o' j c']).cell? x = some u := fun x u hx hc => by
            have := HQ.out
            refine (World.cell?_of_block (setRow_other w9 (w.heap.size + 1) x.block _ (by omega))).trans ?_
            rw [← hw9]
            exact (World.cell?_of_block (Below.heap_setCell wr ⟨w.heap.size, 4, none⟩ _ x.block (by show x.block ≠ w.heap.size; omega))).trans hc
          have HFIN := Lib.hid (hRY.done hkc)
          obtain ⟨L, hL1, _⟩ := hRY.row
          have hcap : j ≤ c' ∧ c' ≤ maxLen := by
            rcases hL1.2 with ⟨e, h0⟩ | ⟨g, cap, cur, e, _, _, h1, h2, _⟩
            · simp only [Value.slice.injEq] at e
              obtain ⟨_, h1, h2⟩ := e
              rw [h1, h2]
              exact ⟨Nat.le_refl _, Nat.zero_le _⟩
            · simp only [Value.slice.injEq] at e
              obtain ⟨_, _, rfl⟩ := e
              exact ⟨h1, h2⟩
          have HCAP := Lib.hid hcap
          have HLEN : Hid ((subYs us l).length = j) := by show _ = _; rw [subs_map, List.length_map]; exact HN.out
          have HK9 := Lib.hid hk9
          have HK9' := Lib.hid hk9'
          have HB9 := Lib.hid hb9
          have HW9 := Lib.hid hw9
          clear hk9 hk9' hb9 hw9 hkc hfull hRY hL1 hcap
          go_wp2_with (first
            | (change wpList _ _ _ _ _ (wr.setCell ⟨w.heap.size, 4, none⟩ (.slice o' j c')); rw [HW9.out])
            | (refine boxLoad 25 5 size5 Try.underlying25 rfl _ rfl (w.heap.size) rfl (cs := [.int .i64 k, .string p, .string m, .int .i64 n, .slice o' j c']) HK9.out rfl ?_)
            | (refine boxStore 25 5 size5 rfl _ _ rfl (w.heap.size + 1) rfl [.int .i64 k, .string p, .string m, .int .i64 n, .slice o' j c'] rfl HK9'.out rfl rfl rfl ?_))
          refine bodyPost_ret (v := .agg #[.int .i64 k, .string p, .string m, .int .i64 n, .slice o' j c']) ?_ rfl ⟨_, rfl, ?_, below_setRow HB9.out (Nat.le_succ _) _⟩
          · exact boxRes 25 5 size5 Try.underlying25 Try.results23 _ (w.heap.size + 1) rfl (HK9'.out.row _) rfl
          · rw [HSUB.out]
            unfold IsYP
            refine ⟨o', c', by rw [HLEN.out], by rw [HLEN.out]; exact HCAP.out.1, HCAP.out.2, HFIN.out.keep (fun a u h _ => h.imp id fun h => by omega) fun _ _ _ h => h⟩

end Go.Proofs.Ytofdejoeheokjaa
