/-
  Types whose parts lie in blocks of a kind; an append, told. No condition.
-/
import Derived.Test.YtmnhilgifjaocaaTuc
import Derived.Test.YtmnhilgifjaocaaSma
namespace Go.Proofs.Ytmnhilgifjaocaa
open Go.RowKit
open Go.Lib hiding intOf

mutual
/-- A value is such a type, all of its parts in blocks of which P holds. -/
def IsYP (P : Nat → Prop) (w : World) : GY → Value → Prop
  | .mk k p m n args, v => ∃ (o : Option Addr) (c : Nat), v = .agg #[.int .i64 k, .string p, .string m, .int .i64 n, .slice o args.length c] ∧ args.length ≤ c ∧ c ≤ maxLen ∧ IsYPs P w o 0 args
def IsYPs (P : Nat → Prop) (w : World) (o : Option Addr) : Nat → List GY → Prop
  | _, [] => True
  | i, y :: r => (∃ (a : Addr) (c0 c1 c2 c3 c4 : Value), o = some a ∧ P a.block ∧ w.cell? (a.add (i * 5)) = some c0 ∧ w.cell? (a.add (i * 5 + 1)) = some c1 ∧ w.cell? (a.add (i * 5 + 2)) = some c2 ∧ w.cell? (a.add (i * 5 + 3)) = some c3 ∧ w.cell? (a.add (i * 5 + 4)) = some c4 ∧
      IsYP P w y (.agg #[c0, c1, c2, c3, c4])) ∧ IsYPs P w o (i + 1) r
end
mutual
theorem IsYP.keep {w w' : World} {P P' : Nat → Prop} (hP : ∀ (a : Addr) (u : Value), P a.block → w.cell? a = some u → P' a.block) (hk : ∀ (a : Addr) (u : Value), P a.block → w.cell? a = some u → w'.cell? a = some u) : ∀ {x : GY} {v : Value}, IsYP P w x v → IsYP P' w' x v
  | .mk .., _, h => by
    unfold IsYP at h ⊢
    obtain ⟨o, c, hv, hl, hc, ha⟩ := h
    exact ⟨o, c, hv, hl, hc, IsYPs.keep hP hk ha⟩
theorem IsYPs.keep {w w' : World} {P P' : Nat → Prop} (hP : ∀ (a : Addr) (u : Value), P a.block → w.cell? a = some u → P' a.block) (hk : ∀ (a : Addr) (u : Value), P a.block → w.cell? a = some u → w'.cell? a = some u) : ∀ {i : Nat} {xs : List GY} {o : Option Addr}, IsYPs P w o i xs → IsYPs P' w' o i xs
  | _, [], _, _ => by unfold IsYPs; trivial
  | i, y :: r, _, h => by
    unfold IsYPs at h ⊢
    obtain ⟨⟨a, c0, c1, c2, c3, c4, ho, hb, h0, h1, h2, h3, h4, hy⟩, hr⟩ := h
    have hbl : ∀ j, (a.add j).block = a.block := fun j => by unfold Addr.add; split <;> rfl
    have key : ∀ (j : Nat) (u : Value), w.cell? (a.add j) = some u → w'.cell? (a.add j) = some u := fun j u h => hk _ _ (by rw [hbl]; exact hb) h
    exact ⟨⟨a, c0, c1, c2, c3, c4, ho, by have := hP _ _ (by rw [hbl]; exact hb) h0; rwa [hbl] at this, key _ _ h0, key _ _ h1, key _ _ h2, key _ _ h3, key _ _ h4, IsYP.keep hP hk hy⟩, IsYPs.keep hP hk hr⟩
end
mutual
theorem IsYP.toY {w : World} {P : Nat → Prop} : ∀ {x : GY} {v : Value}, IsYP P w x v → IsY w x v
  | .mk .., _, h => by
    unfold IsYP at h
    unfold IsY
    obtain ⟨o, c, hv, hl, hc, ha⟩ := h
    exact ⟨o, c, hv, hl, hc, IsYPs.toYs ha⟩
theorem IsYPs.toYs {w : World} {P : Nat → Prop} : ∀ {i : Nat} {xs : List GY} {o : Option Addr}, IsYPs P w o i xs → IsYs w o i xs
  | _, [], _, _ => by unfold IsYs; trivial
  | i, y :: r, _, h => by
    unfold IsYPs at h
    unfold IsYs
    obtain ⟨⟨a, c0, c1, c2, c3, c4, ho, _, h0, h1, h2, h3, h4, hy⟩, hr⟩ := h
    exact ⟨⟨a, c0, c1, c2, c3, c4, ho, h0, h1, h2, h3, h4, IsYP.toY hy⟩, IsYPs.toYs hr⟩
end
mutual
/-- All that lies there lies below the heap's size. -/
theorem IsY.toP {w : World} {q : Nat} (hq : w.heap.size ≤ q) : ∀ {x : GY} {v : Value}, IsY w x v → IsYP (fun k => k < q) w x v
  | .mk .., _, h => by
    unfold IsY at h
    unfold IsYP
    obtain ⟨o, c, hv, hl, hc, ha⟩ := h
    exact ⟨o, c, hv, hl, hc, IsYs.toPs hq ha⟩
theorem IsYs.toPs {w : World} {q : Nat} (hq : w.heap.size ≤ q) : ∀ {i : Nat} {xs : List GY} {o : Option Addr}, IsYs w o i xs → IsYPs (fun k => k < q) w o i xs
  | _, [], _, _ => by unfold IsYPs; trivial
  | i, y :: r, _, h => by
    unfold IsYs at h
    unfold IsYPs
    obtain ⟨⟨a, c0, c1, c2, c3, c4, ho, h0, h1, h2, h3, h4, hy⟩, hr⟩ := h
    have hb := World.block_lt_of_cell? _ _ h0
    rw [show (a.add (i * 5)).block = a.block by unfold Addr.add; split <;> rfl] at hb
    exact ⟨⟨a, c0, c1, c2, c3, c4, ho, by omega, h0, h1, h2, h3, h4, IsY.toP hq hy⟩, IsYs.toPs hq hr⟩
end
theorem IsYP.below {P : Nat → Prop} {w w' : World} {x : GY} {v : Value} (h : IsYP P w x v) (hb : Below w.heap.size w w') : IsYP P w' x v :=
  h.keep (fun _ _ h _ => h) fun _ _ _ hc => (hb.cell (World.block_lt_of_cell? _ _ hc)).trans hc
theorem IsYPs.below {P : Nat → Prop} {w w' : World} {o : Option Addr} {i : Nat} {xs : List GY} (h : IsYPs P w o i xs) (hb : Below w.heap.size w w') : IsYPs P w' o i xs :=
  h.keep (fun _ _ h _ => h) fun _ _ _ hc => (hb.cell (World.block_lt_of_cell? _ _ hc)).trans hc
theorem IsYP.parts {P : Nat → Prop} {w : World} {k n : Int} {p m : ByteArray} {args : List GY} {v : Value} (h : IsYP P w (.mk k p m n args) v) : ∃ (o : Option Addr) (c : Nat), v = .agg #[.int .i64 k, .string p, .string m, .int .i64 n, .slice o args.length c] ∧ args.length ≤ c ∧ c ≤ maxLen ∧ IsYPs P w o 0 args := by
  unfold IsYP at h; exact h
theorem IsYP.cells {P : Nat → Prop} {w : World} {x : GY} {v : Value} (h : IsYP P w x v) : ∃ c0 c1 c2 c3 c4 : Value, v = .agg #[c0, c1, c2, c3, c4] ∧ ([c0, c1, c2, c3, c4] : List Value).all (·.oneCell') = true := by
  obtain ⟨k, p, m, n, args⟩ := x
  obtain ⟨o, c, rfl, _⟩ := h.parts
  exact ⟨_, _, _, _, _, rfl, rfl⟩
theorem IsYPs.at_ {P : Nat → Prop} {w : World} {o : Option Addr} : ∀ {xs : List GY} {i : Nat} (k : Nat) {y : GY}, IsYPs P w o i xs → xs[k]? = some y →
    ∃ (a : Addr) (c0 c1 c2 c3 c4 : Value), o = some a ∧ (∀ (j : Nat) (v : Value), [c0, c1, c2, c3, c4][j]? = some v → w.cell? ((a.add ((i + k) * 5)).add j) = some v) ∧ IsYP P w y (.agg #[c0, c1, c2, c3, c4])
  | [], _, _, _, _, h => by simp at h
  | x :: r, i, 0, y, h, hy => by
    simp at hy; subst hy
    unfold IsYPs at h
    obtain ⟨⟨a, c0, c1, c2, c3, c4, ho, _, h0, h1, h2, h3, h4, hy⟩, _⟩ := h
    exact ⟨a, c0, c1, c2, c3, c4, ho, row5 h0 h1 h2 h3 h4, hy⟩
  | x :: r, i, k + 1, y, h, hy => by
    unfold IsYPs at h
    have := IsYPs.at_ (i := i + 1) k h.2 (by simpa using hy)
    rwa [show i + 1 + k = i + (k + 1) by omega] at this
theorem IsYPs.mk' {P : Nat → Prop} {w : World} {g : Nat} (hg : P g) : ∀ {xs : List GY} {i : Nat}, (∀ (k : Nat) (y : GY), xs[k]? = some y → ∃ c0 c1 c2 c3 c4 : Value, (∀ (j : Nat) (v : Value), [c0, c1, c2, c3, c4][j]? = some v → w.cell? ⟨g, (i + k) * 5 + j, none⟩ = some v) ∧ IsYP P w y (.agg #[c0, c1, c2, c3, c4])) → IsYPs P w (some ⟨g, 0, none⟩) i xs
  | [], i, _ => by unfold IsYPs; trivial
  | y :: r, i, h => by
    unfold IsYPs
    obtain ⟨c0, c1, c2, c3, c4, hc, hy⟩ := h 0 y rfl
    rw [Nat.add_zero] at hc
    have e : ∀ j, (⟨g, 0, none⟩ : Addr).add j = ⟨g, j, none⟩ := fun j => by unfold Addr.add; split <;> simp_all
    refine ⟨⟨⟨g, 0, none⟩, c0, c1, c2, c3, c4, rfl, hg, by rw [e]; exact hc 0 _ rfl, by rw [e]; exact hc 1 _ rfl, by rw [e]; exact hc 2 _ rfl, by rw [e]; exact hc 3 _ rfl, by rw [e]; exact hc 4 _ rfl, hy⟩, IsYPs.mk' hg fun k z hz => ?_⟩
    have := h (k + 1) z (by simpa using hz)
    rwa [show i + (k + 1) = i + 1 + k by omega] at this

/-- An append onto a row of the call's own: where it lies, what has turned. -/
theorem run_append_tells {P : Program} (w : World) (base : Nat) (t ty e : TypeId) (i : TypeInfo) (z : Value) (size bytes : Nat) (ht : P.underlying t = some (.slice e)) (hi : P.info? e = some i) (hz : i.zero = some z)
    (hsize : i.size = size) (hby : i.bytes = bytes) (hzs : z.cells.size = size) (hsz : 0 < size)
    (v : Value) (n : Nat) (xs : List Value) (hown : w.ownsRow base e size v n xs)
    (a : Addr) (m c : Nat) (news : List Value) (hl : news.length = m * size) (hnews : ∀ j u, news[j]? = some u → w.cell? (a.add j) = some u) (h1 : ∀ u ∈ news, u.oneCell' = true)
    (h63 : n + m ≤ maxLen) (hbytes : (n + m) * bytes ≤ 140737488355328) (hbase : base ≤ w.heap.size) (hm : 0 < m) :
    ∃ v' w', (Builtin.append_ #[t, t] ty #[v, .slice (some a) m c]).run P w = .ok v' w' ∧ w'.ownsRow base e size v' (n + m) (xs ++ news) ∧
      ((∃ cap, v' = .slice (some ⟨w.heap.size, 0, none⟩) (n + m) cap ∧ w.grownBy w' none) ∨ ∃ g cap, v = .slice (some ⟨g, 0, none⟩) n cap ∧ v' = .slice (some ⟨g, 0, none⟩) (n + m) cap ∧ w.grownBy w' (some g)) := by
  obtain ⟨v', w', hrun, r1, r2, _⟩ := run_append_own (P := P) w base t ty e i z size bytes ht hi hz hsize hby hzs hsz v n xs hown a m c news hl hnews h1 h63 hbytes hbase
  refine ⟨v', w', hrun, r1, ?_⟩
  have hlim : n + m ≤ 9223372036854775807 := by simp only [maxLen] at h63; omega
  have fresh : ∀ o : Obj, w.grownBy (w.drew.alloc o) none := fun o => ⟨rfl, rfl, rfl, by simp, fun k hk _ => Below.heap_alloc w.drew _ k hk⟩
  rcases hown.2 with ⟨rfl, rfl⟩ | ⟨g, cap, cur, rfl, hbg, hg, hnc, hcm, hcs, htake⟩
  · have hr := run_append_nil (P := P) w t ty e i z ht hi hz a m c news (by rw [hsize]; exact hl) hnews hm (by omega) (by rw [hby]; have hb := hbytes; simp only [Nat.zero_add] at hb; omega)
    have hh := hrun.symm.trans hr
    injection hh with hv hw
    subst hw
    exact .inl ⟨_, by rw [hv, Nat.zero_add], fresh _⟩
  · by_cases hroom : n + m ≤ cap
    · obtain ⟨w2, hr, _, _⟩ := run_append_fits (P := P) w base t ty e i size ht hi hsize g n cap xs hown a m c news hl hnews h1 hroom
      have hh := hrun.symm.trans hr
      injection hh with hv hw
      exact .inr ⟨g, cap, rfl, hv, r2⟩
    · have hr := run_append_grow (P := P) w t ty e i z ht hi hz ⟨g, 0, none⟩ n cap xs (by rw [hsize]; exact hown.1) (hown.cells (g := g) rfl) a m c news (by rw [hsize]; exact hl) hnews (by omega) (by omega) (by rw [hby]; exact growslice_fits (by omega) hbytes)
      have hh := hrun.symm.trans hr
      injection hh with hv hw
      subst hw
      exact .inl ⟨_, hv, fresh _⟩
theorem wpList_append_tells (w : World) {ops : Array Oper} {rest : List Oper} {o : Oper} {a : Act} {Q : Exit → Act → World → Prop}
    (hg : o.guard = none) (s x : Operand) (t : TypeId) (hop : o.op = Op.call { callee := Callee.builtin Builtin.append, args := #[s, x], argTypes := #[t, t] })
    (base : Nat) (e : TypeId) (i : TypeInfo) (z : Value) (size bytes : Nat) (h1 : Try.prog.underlying t = some (.slice e)) (h2 : Try.prog.info? e = some i) (h3 : i.zero = some z) (h4 : i.size = size) (h5 : i.bytes = bytes) (h6 : z.cells.size = size) (h7 : 0 < size)
    (v : Value) (k : Nat) (xs : List Value) (hs : a.eval s = v) (hown : w.ownsRow base e size v k xs) (ob : Obj) (news : List Value) (hx : a.eval x = .slice (some ⟨w.heap.size, 0, none⟩) 1 1) (hn : news.length = size)
    (hc : ∀ j u, news[j]? = some u → (w.alloc ob).cell? ((⟨w.heap.size, 0, none⟩ : Addr).add j) = some u) (h1c : ∀ u ∈ news, u.oneCell' = true) (b1 : k + 1 ≤ maxLen) (b2 : (k + 1) * bytes ≤ 140737488355328) (b3 : base ≤ w.heap.size)
    (hK : ∀ o' c' w', w'.ownsRow base e size (.slice o' (k + 1) c') (k + 1) (xs ++ news) → Turn (fun k => v.ownBlock = some k) w w' → (∀ j, (Value.slice o' (k + 1) c').ownBlock = some j → v.ownBlock = some j ∨ w.heap.size ≤ j) → wpList Try.prog ops Q rest (a.put o.dst (.slice o' (k + 1) c')) w') :
    wpList Try.prog ops Q (o :: rest) a (w.alloc ob) := by
  refine wpList_plain hg fun K hK' => ?_
  obtain ⟨v', w', hrun, r1, r2⟩ := run_append_tells (P := Try.prog) (w.alloc ob) base t o.type e i z size bytes h1 h2 h3 h4 h5 h6 h7 v k xs (hown.alloc _) ⟨w.heap.size, 0, none⟩ 1 1 news (by rw [hn]; omega) hc h1c b1 b2 (by rw [World.size_alloc]; omega) (by decide)
  have h0 : Turn (fun k => v.ownBlock = some k) w (w.alloc ob) := (Turn.refl _ w).alloc _
  obtain ⟨o', c', rfl, hT, hfr⟩ : ∃ o' c', v' = .slice o' (k + 1) c' ∧ Turn (fun k => v.ownBlock = some k) w w' ∧ ∀ j, (Value.slice o' (k + 1) c').ownBlock = some j → v.ownBlock = some j ∨ w.heap.size ≤ j := by
    rcases r2 with ⟨cap, rfl, hg⟩ | ⟨g, cap, rfl, rfl, hg⟩
    · refine ⟨_, _, rfl, h0.trans ((Turn.of_grown hg).mono fun k _ hk => by cases hk), fun j hj => .inr ?_⟩
      simp only [Value.ownBlock, Option.some.injEq] at hj
      subst hj
      simp
    · exact ⟨_, _, rfl, h0.trans ((Turn.of_grown hg).mono fun k _ hk => by rw [hk]; rfl), fun j hj => .inl hj⟩
  unfold Oper.wp
  simp [execOp, hop, resolve, invoke, builtin, hs, hx, hrun, Result.andThen]
  exact hK' _ _ (hK o' c' w' r1 hT hfr)

mutual
theorem IsYF.toP {w : World} {B : Nat} : ∀ {x : GY} {v : Value}, IsYF w B x v → IsYP (fun k => B ≤ k) w x v
  | .mk .., _, h => by
    unfold IsYF at h
    unfold IsYP
    obtain ⟨o, c, hv, hl, hc, ha⟩ := h
    exact ⟨o, c, hv, hl, hc, IsYFs.toPs ha⟩
theorem IsYFs.toPs {w : World} {B : Nat} : ∀ {i : Nat} {xs : List GY} {o : Option Addr}, IsYFs w B o i xs → IsYPs (fun k => B ≤ k) w o i xs
  | _, [], _, _ => by unfold IsYPs; trivial
  | i, y :: r, _, h => by
    unfold IsYFs at h
    unfold IsYPs
    obtain ⟨⟨a, c0, c1, c2, c3, c4, ho, hb, h0, h1, h2, h3, h4, hy⟩, hr⟩ := h
    exact ⟨⟨a, c0, c1, c2, c3, c4, ho, hb, h0, h1, h2, h3, h4, IsYF.toP hy⟩, IsYFs.toPs hr⟩
end

/-! ### rows of any elements, their parts in blocks of a kind -/
/-- A row of elements of n cells each, in blocks of which P holds. -/
def IsRowP {α : Type} (n : Nat) (E : (Nat → Prop) → World → α → List Value → Prop) (P : Nat → Prop) (w : World) (o : Option Addr) (xs : List α) : Prop :=
  ∀ (i : Nat) (x : α), xs[i]? = some x → ∃ (a : Addr) (c : List Value), o = some a ∧ P a.block ∧ c.length = n ∧ (∀ (j : Nat) (u : Value), c[j]? = some u → w.cell? ((a.add (i * n)).add j) = some u) ∧ E P w x c
/-- What an element's fact stands. -/
def KeepsP {α : Type} (E : (Nat → Prop) → World → α → List Value → Prop) : Prop :=
  ∀ (w w' : World) (P P' : Nat → Prop) (x : α) (c : List Value), (∀ (a : Addr) (u : Value), P a.block → w.cell? a = some u → P' a.block) → (∀ (a : Addr) (u : Value), P a.block → w.cell? a = some u → w'.cell? a = some u) → E P w x c → E P' w' x c
theorem add_block (a : Addr) (j : Nat) : (a.add j).block = a.block := by unfold Addr.add; split <;> rfl
theorem IsRowP.keep {α : Type} {n : Nat} {E : (Nat → Prop) → World → α → List Value → Prop} (hE : KeepsP E) {w w' : World} {P P' : Nat → Prop} {o : Option Addr} {xs : List α} (hn : 0 < n) (hP : ∀ (a : Addr) (u : Value), P a.block → w.cell? a = some u → P' a.block) (hk : ∀ (a : Addr) (u : Value), P a.block → w.cell? a = some u → w'.cell? a = some u) (h : IsRowP n E P w o xs) : IsRowP n E P' w' o xs := fun i x hx => by
  obtain ⟨a, c, h1, h2, h3, h4, h5⟩ := h i x hx
  refine ⟨a, c, h1, ?_, h3, fun j u hu => hk _ _ (by rw [add_block, add_block]; exact h2) (h4 j u hu), hE _ _ _ _ _ _ hP hk h5⟩
  obtain ⟨u, hu⟩ : ∃ u, c[0]? = some u := ⟨_, List.getElem?_eq_getElem (by omega)⟩
  have := hP _ _ (by rw [add_block, add_block]; exact h2) (h4 0 u hu)
  rwa [add_block, add_block] at this
/-- Elements in a row of the call's own; their parts lie elsewhere. -/
def RowQ {α : Type} (T : TypeId) (n : Nat) (E : (Nat → Prop) → World → α → List Value → Prop) (w : World) (B : Nat) (o : Option Addr) (m c : Nat) (xs : List α) : Prop :=
  xs.length = m ∧ ∃ L : List (List Value), w.ownsRow B T n (.slice o m c) m L.flatten ∧ L.length = m ∧ (∀ x ∈ L, x.length = n) ∧ ∀ (i : Nat) (y : α) (x : List Value), xs[i]? = some y → L[i]? = some x → E (fun k => B ≤ k ∧ (Value.slice o m c).ownBlock ≠ some k) w y x
theorem flat_len {n : Nat} : ∀ {L : List (List Value)}, (∀ x ∈ L, x.length = n) → L.flatten.length = L.length * n
  | [], _ => by simp
  | y :: r, h => by
    rw [List.flatten_cons, List.length_append, h y (by simp), flat_len (L := r) fun x hx => h x (List.mem_cons_of_mem _ hx), List.length_cons, Nat.succ_mul]
    omega
theorem flat_at {n : Nat} : ∀ {L : List (List Value)} {i j : Nat} {x : List Value} {v : Value}, (∀ x ∈ L, x.length = n) → L[i]? = some x → x[j]? = some v → L.flatten[i * n + j]? = some v
  | [], _, _, _, _, _, h, _ => by simp at h
  | y :: r, 0, j, x, v, hl, h, hv => by
    simp at h; subst h
    have hj : j < y.length := (List.getElem?_eq_some_iff.1 hv).1
    rw [Nat.zero_mul, Nat.zero_add, List.flatten_cons, List.getElem?_append_left hj]
    exact hv
  | y :: r, i + 1, j, x, v, hl, h, hv => by
    have h5 : y.length = n := hl y (by simp)
    rw [List.flatten_cons, List.getElem?_append_right (by rw [h5, Nat.succ_mul]; omega), h5, show (i + 1) * n + j - n = i * n + j by rw [Nat.succ_mul]; omega]
    exact flat_at (L := r) (fun x hx => hl x (List.mem_cons_of_mem _ hx)) (by simpa using h) hv
section
variable {α : Type} {T : TypeId} {n : Nat} {E : (Nat → Prop) → World → α → List Value → Prop}
theorem RowQ.start (w : World) (B : Nat) : RowQ T n E w B none 0 0 [] :=
  ⟨rfl, [], World.ownsRow_nil _ _ _ _, rfl, fun x h => by simp at h, fun i y x h => by simp at h⟩
theorem RowQ.below (hE : KeepsP E) {w w' : World} {B : Nat} {o : Option Addr} {m c : Nat} {xs : List α} (h : RowQ T n E w B o m c xs) (hb : Below w.heap.size w w') : RowQ T n E w' B o m c xs := by
  obtain ⟨h5, L, h1, h2, h3, h4⟩ := h
  exact ⟨h5, L, (Turn.of_below hb).row h1 (fun k hk => by have := (h1.lt k hk).2; omega), h2, h3, fun i y x hy hx => hE _ _ _ _ _ _ (fun _ _ h _ => h) (fun _ _ _ hc => (hb.cell (World.block_lt_of_cell? _ _ hc)).trans hc) (h4 i y x hy hx)⟩
/-- One more. -/
theorem RowQ.next (hE : KeepsP E) {wr w' : World} {B : Nat} {o o' : Option Addr} {m c c' : Nat} {ys : List α} {y : α} {d : List Value} {L : List (List Value)}
    (h1 : wr.ownsRow B T n (.slice o m c) m L.flatten) (h2 : L.length = m) (h3 : ∀ x ∈ L, x.length = n) (h4 : ∀ (i : Nat) (y : α) (x : List Value), ys[i]? = some y → L[i]? = some x → E (fun k => B ≤ k ∧ (Value.slice o m c).ownBlock ≠ some k) wr y x) (h5 : ys.length = m)
    (hd : d.length = n) (hy : E (fun k => B ≤ k ∧ (Value.slice o m c).ownBlock ≠ some k) wr y d)
    (hrow : w'.ownsRow B T n (.slice o' (m + 1) c') (m + 1) (L.flatten ++ d))
    (hT : Turn (fun k => (Value.slice o m c).ownBlock = some k) wr w')
    (hfr : ∀ k, (Value.slice o' (m + 1) c').ownBlock = some k → (Value.slice o m c).ownBlock = some k ∨ wr.heap.size ≤ k) :
    RowQ T n E w' B o' (m + 1) c' (ys ++ [y]) := by
  have hkeep : ∀ {z : α} {x : List Value}, E (fun k => B ≤ k ∧ (Value.slice o m c).ownBlock ≠ some k) wr z x → E (fun k => B ≤ k ∧ (Value.slice o' (m + 1) c').ownBlock ≠ some k) w' z x := fun h =>
    hE _ _ _ _ _ _ (fun a u ha hc => ⟨ha.1, fun e => by
      rcases hfr _ e with h | h
      · exact ha.2 h
      · have := World.block_lt_of_cell? _ _ hc; omega⟩) (fun a u ha hc => hT.cell hc ha.2) h
  refine ⟨by simp [h5], L ++ [d], ?_, by simp [h2], fun x hx => ?_, fun i z x hz hx => ?_⟩
  · rw [List.flatten_append]
    simpa using hrow
  · rcases List.mem_append.1 hx with hx | hx
    · exact h3 x hx
    · rw [List.mem_singleton.1 hx]; exact hd
  · by_cases hi : i < m
    · rw [List.getElem?_append_left (by omega)] at hz hx
      exact hkeep (h4 i z x hz hx)
    · have hi' : i = m := by have := (List.getElem?_eq_some_iff.1 hz).1; simp [h5] at this; omega
      subst hi'
      rw [List.getElem?_append_right (by omega), h5, Nat.sub_self] at hz
      rw [List.getElem?_append_right (by omega), h2, Nat.sub_self] at hx
      simp at hz hx
      subst hz; subst hx
      exact hkeep hy
/-- The whole. -/
theorem RowQ.done (hE : KeepsP E) {w : World} {B : Nat} {o : Option Addr} {m c : Nat} {ys : List α} (h : RowQ T n E w B o m c ys) : m ≤ c ∧ c ≤ maxLen ∧ IsRowP n E (fun k => B ≤ k) w o ys := by
  obtain ⟨h5, L, h1, h2, h3, h4⟩ := h
  rcases h1.2 with ⟨e, h0⟩ | ⟨g, cap, cur, e, hg, _, g1, g2, _⟩
  · simp only [Value.slice.injEq] at e
    obtain ⟨rfl, rfl, rfl⟩ := e
    obtain rfl : ys = [] := List.length_eq_zero_iff.1 (by omega)
    exact ⟨Nat.le_refl _, Nat.zero_le _, fun i x h => by simp at h⟩
  · simp only [Value.slice.injEq] at e
    obtain ⟨rfl, _, rfl⟩ := e
    refine ⟨g1, g2, fun i y hy => ?_⟩
    have hi : i < m := by rw [← h5]; exact (List.getElem?_eq_some_iff.1 hy).1
    obtain ⟨x, hx⟩ : ∃ x, L[i]? = some x := ⟨_, List.getElem?_eq_getElem (by omega)⟩
    have hx5 := h3 x (List.mem_of_getElem? hx)
    refine ⟨_, x, rfl, hg, hx5, fun j v hv => ?_, hE _ _ _ _ _ _ (fun _ _ h _ => h.1) (fun _ _ _ hc => hc) (h4 i y x hy hx)⟩
    have hj : j < n := by rw [← hx5]; exact (List.getElem?_eq_some_iff.1 hv).1
    have e2 : ((⟨g, 0, none⟩ : Addr).add (i * n)).add j = ⟨g, i * n + j, none⟩ := by rw [add_more']; unfold Addr.add; split <;> simp_all
    have hlt : i * n + j < m * n := by have := Nat.mul_le_mul_right n (show i + 1 ≤ m by omega); rw [Nat.succ_mul] at this; omega
    rw [e2, h1.cellAt (i * n + j) hlt]
    exact flat_at h3 hx hv
end

/-! ### what was copied -/
def IsYPc (P : Nat → Prop) (w : World) (y : GY) (c : List Value) : Prop := c.length = 5 ∧ c.all (·.oneCell') = true ∧ IsYP P w y (.agg c.toArray)
theorem keepY : KeepsP IsYPc := fun _ _ _ _ _ _ hP hk h => ⟨h.1, h.2.1, h.2.2.keep hP hk⟩
def IsMdP (P : Nat → Prop) (w : World) (m : MD) (c : List Value) : Prop := ∃ (o : Option Addr) (k : Nat) (r0 r1 r2 r3 r4 : Value), c = [.string m.name, .slice o m.params.length k, r0, r1, r2, r3, r4] ∧ m.params.length ≤ k ∧ k ≤ maxLen ∧ IsRowP 5 IsYPc P w o m.params ∧ IsYP P w m.result (.agg #[r0, r1, r2, r3, r4])
theorem keepM : KeepsP IsMdP := fun _ _ _ _ _ _ hP hk ⟨o, k, r0, r1, r2, r3, r4, h1, h2, h3, h4, h5⟩ => ⟨o, k, r0, r1, r2, r3, r4, h1, h2, h3, IsRowP.keep (n := 5) keepY (by decide) hP hk h4, h5.keep hP hk⟩
def IsFdP (P : Nat → Prop) (w : World) (f : ByteArray × GY) (c : List Value) : Prop := ∃ (r0 r1 r2 r3 r4 : Value), c = [.string f.1, r0, r1, r2, r3, r4] ∧ IsYP P w f.2 (.agg #[r0, r1, r2, r3, r4])
theorem keepF : KeepsP IsFdP := fun _ _ _ _ _ _ hP hk ⟨r0, r1, r2, r3, r4, h1, h5⟩ => ⟨r0, r1, r2, r3, r4, h1, h5.keep hP hk⟩
def IsTdP (P : Nat → Prop) (w : World) (d : TD) (c : List Value) : Prop := ∃ (o1 o2 : Option Addr) (k1 k2 : Nat), c = [.string d.name, .bool d.strct, .slice o1 d.fields.length k1, .slice o2 d.meths.length k2] ∧ d.fields.length ≤ k1 ∧ k1 ≤ maxLen ∧ d.meths.length ≤ k2 ∧ k2 ≤ maxLen ∧ IsRowP 6 IsFdP P w o1 d.fields ∧ IsRowP 7 IsMdP P w o2 d.meths
theorem keepT : KeepsP IsTdP := fun _ _ _ _ _ _ hP hk ⟨o1, o2, k1, k2, h1, h2, h3, h4, h5, h6, h7⟩ => ⟨o1, o2, k1, k2, h1, h2, h3, h4, h5, IsRowP.keep (n := 6) keepF (by decide) hP hk h6, IsRowP.keep (n := 7) keepM (by decide) hP hk h7⟩
theorem IsRowP.toYs {P : Nat → Prop} {w : World} {o : Option Addr} {xs : List GY} (h : IsRowP 5 IsYPc P w o xs) : IsYs w o 0 xs := by
  cases o with
  | none =>
    cases xs with
    | nil => exact IsYs.nil _ _ _
    | cons y r => obtain ⟨_, _, e, _⟩ := h 0 y rfl; cases e
  | some a =>
    refine IsYs.mk' fun k y hy => ?_
    obtain ⟨a', c, e, _, h3, h4, h5, h6, h7⟩ := h k y hy
    cases e
    match c, h3, h4, h7 with
    | [c0, c1, c2, c3, c4], _, h4, h7 =>
      refine ⟨c0, c1, c2, c3, c4, fun j v hv => ?_, h7.toY⟩
      rw [Nat.zero_add, ← add_more']
      exact h4 j v hv
theorem IsMdP.toM {P : Nat → Prop} {w : World} {m : MD} {c : List Value} (h : IsMdP P w m c) : IsMd w m c := by
  obtain ⟨o, k, r0, r1, r2, r3, r4, h1, h2, h3, h4, h5⟩ := h
  exact ⟨o, k, r0, r1, r2, r3, r4, h1, h2, h3, h4.toYs, h5.toY⟩
theorem IsFdP.toF {P : Nat → Prop} {w : World} {m : ByteArray × GY} {c : List Value} (h : IsFdP P w m c) : IsFd w m c := by
  obtain ⟨r0, r1, r2, r3, r4, h1, h5⟩ := h
  exact ⟨r0, r1, r2, r3, r4, h1, h5.toY⟩
theorem IsRowP.toR {α : Type} {n : Nat} {E : (Nat → Prop) → World → α → List Value → Prop} {F : World → α → List Value → Prop} {P : Nat → Prop} {w : World} {o : Option Addr} {xs : List α} (hF : ∀ x c, E P w x c → F w x c) (h : IsRowP n E P w o xs) : IsRow n F w o xs := fun i x hx => by
  obtain ⟨a, c, h1, _, h3, h4, h5⟩ := h i x hx
  exact ⟨a, c, h1, h3, h4, hF _ _ h5⟩
theorem IsTdP.toT {P : Nat → Prop} {w : World} {d : TD} {c : List Value} (h : IsTdP P w d c) : IsTd w d c := by
  obtain ⟨o1, o2, k1, k2, h1, h2, h3, h4, h5, h6, h7⟩ := h
  exact ⟨o1, o2, k1, k2, h1, h2, h3, h4, h5, h6.toR fun _ _ h => h.toF, h7.toR fun _ _ h => h.toM⟩
theorem IsMdP.ones {P : Nat → Prop} {w : World} {m : MD} {c : List Value} (h : IsMdP P w m c) : c.length = 7 ∧ c.all (·.oneCell') = true := h.toM.ones
theorem IsFdP.ones {P : Nat → Prop} {w : World} {m : ByteArray × GY} {c : List Value} (h : IsFdP P w m c) : c.length = 6 ∧ c.all (·.oneCell') = true := by
  obtain ⟨r0, r1, r2, r3, r4, rfl, h5⟩ := h
  have := h5.toY.ones
  simp only [List.all_cons, List.all_nil, Bool.and_true, Bool.and_eq_true] at this ⊢
  exact ⟨rfl, rfl, this⟩
theorem IsYPc.ones {P : Nat → Prop} {w : World} {m : GY} {c : List Value} (h : IsYPc P w m c) : c.length = 5 ∧ c.all (·.oneCell') = true := ⟨h.1, h.2.1⟩
end Go.Proofs.Ytmnhilgifjaocaa
