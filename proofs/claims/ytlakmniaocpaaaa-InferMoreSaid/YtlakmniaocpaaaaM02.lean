/-
  Types in memory (any form, hand-made ones too); an argument that is a type or a list of types, opened. No condition.
  Methods, fields, declared types, packages, scopes in memory; arguments of these types opened. No condition.
  Sameness: the program's answer. No condition.
-/
import Derived.Test.YtlakmniaocpaaaaM00
import Derived.Test.YtlakmniaocpaaaaM01
namespace Go.Proofs.Ytlakmniaocpaaaa
open Go.RowKit
open Go.ChangeShapes Go.WideShapes Go.Deep
mutual
/-- A value is such a type. -/
def IsY (w : World) : GY → Value → Prop
  | .mk k p m n args, v => ∃ (o : Option Addr) (c : Nat), v = .agg #[.int .i64 k, .string p, .string m, .int .i64 n, .slice o args.length c] ∧ args.length ≤ c ∧ c ≤ maxLen ∧ IsYs w o 0 args
def IsYs (w : World) (o : Option Addr) : Nat → List GY → Prop
  | _, [] => True
  | i, y :: r => (∃ (a : Addr) (c0 c1 c2 c3 c4 : Value), o = some a ∧ w.cell? (a.add (i * 5)) = some c0 ∧ w.cell? (a.add (i * 5 + 1)) = some c1 ∧ w.cell? (a.add (i * 5 + 2)) = some c2 ∧ w.cell? (a.add (i * 5 + 3)) = some c3 ∧ w.cell? (a.add (i * 5 + 4)) = some c4 ∧
      IsY w y (.agg #[c0, c1, c2, c3, c4])) ∧ IsYs w o (i + 1) r
end
mutual
theorem IsY.keep {w w' : World} (hk : ∀ (a : Addr) (u : Value), w.cell? a = some u → w'.cell? a = some u) : ∀ {x : GY} {v : Value}, IsY w x v → IsY w' x v
  | .mk .., _, h => by
    unfold IsY at h ⊢
    obtain ⟨o, c, hv, hl, hc, ha⟩ := h
    exact ⟨o, c, hv, hl, hc, IsYs.keep hk ha⟩
theorem IsYs.keep {w w' : World} (hk : ∀ (a : Addr) (u : Value), w.cell? a = some u → w'.cell? a = some u) : ∀ {i : Nat} {xs : List GY} {o : Option Addr}, IsYs w o i xs → IsYs w' o i xs
  | _, [], _, _ => by unfold IsYs; trivial
  | i, y :: r, _, h => by
    unfold IsYs at h ⊢
    obtain ⟨⟨a, c0, c1, c2, c3, c4, ho, h0, h1, h2, h3, h4, hy⟩, hr⟩ := h
    exact ⟨⟨a, c0, c1, c2, c3, c4, ho, hk _ _ h0, hk _ _ h1, hk _ _ h2, hk _ _ h3, hk _ _ h4, IsY.keep hk hy⟩, IsYs.keep hk hr⟩
end
theorem IsY.below {w w' : World} {x : GY} {v : Value} (h : IsY w x v) (hb : Below w.heap.size w w') : IsY w' x v :=
  h.keep fun _ _ hc => (hb.cell (World.block_lt_of_cell? _ _ hc)).trans hc
theorem IsYs.below {w w' : World} {o : Option Addr} {i : Nat} {xs : List GY} (h : IsYs w o i xs) (hb : Below w.heap.size w w') : IsYs w' o i xs :=
  h.keep fun _ _ hc => (hb.cell (World.block_lt_of_cell? _ _ hc)).trans hc
theorem IsY.parts {w : World} {k n : Int} {p m : ByteArray} {args : List GY} {v : Value} (h : IsY w (.mk k p m n args) v) : ∃ (o : Option Addr) (c : Nat), v = .agg #[.int .i64 k, .string p, .string m, .int .i64 n, .slice o args.length c] ∧ args.length ≤ c ∧ c ≤ maxLen ∧ IsYs w o 0 args := by
  unfold IsY at h; exact h
theorem IsY.of {w : World} {k n : Int} {p m : ByteArray} {args : List GY} {o : Option Addr} {c : Nat} (h1 : args.length ≤ c) (h2 : c ≤ maxLen) (h3 : IsYs w o 0 args) : IsY w (.mk k p m n args) (.agg #[.int .i64 k, .string p, .string m, .int .i64 n, .slice o args.length c]) := by
  unfold IsY; exact ⟨o, c, rfl, h1, h2, h3⟩
theorem IsYs.nil (w : World) (o : Option Addr) (i : Nat) : IsYs w o i [] := by unfold IsYs; trivial
/-- The cells of an element, by its place. -/
theorem row5 {w : World} {a : Addr} {b : Nat} {c0 c1 c2 c3 c4 : Value} (h0 : w.cell? (a.add b) = some c0) (h1 : w.cell? (a.add (b + 1)) = some c1) (h2 : w.cell? (a.add (b + 2)) = some c2) (h3 : w.cell? (a.add (b + 3)) = some c3) (h4 : w.cell? (a.add (b + 4)) = some c4) :
    ∀ (j : Nat) (v : Value), [c0, c1, c2, c3, c4][j]? = some v → w.cell? ((a.add b).add j) = some v := by
  intro j v h
  rw [add_more']
  match j, h with
  | 0, h => cases h; exact h0
  | 1, h => cases h; exact h1
  | 2, h => cases h; exact h2
  | 3, h => cases h; exact h3
  | 4, h => cases h; exact h4
  | j + 5, h => simp at h
/-- One element. -/
theorem IsYs.at_ {w : World} {o : Option Addr} : ∀ {xs : List GY} {i : Nat} (k : Nat) {y : GY}, IsYs w o i xs → xs[k]? = some y →
    ∃ (a : Addr) (c0 c1 c2 c3 c4 : Value), o = some a ∧ (∀ (j : Nat) (v : Value), [c0, c1, c2, c3, c4][j]? = some v → w.cell? ((a.add ((i + k) * 5)).add j) = some v) ∧ IsY w y (.agg #[c0, c1, c2, c3, c4])
  | [], _, _, _, _, h => by simp at h
  | x :: r, i, 0, y, h, hy => by
    simp at hy; subst hy
    unfold IsYs at h
    obtain ⟨⟨a, c0, c1, c2, c3, c4, ho, h0, h1, h2, h3, h4, hy⟩, _⟩ := h
    exact ⟨a, c0, c1, c2, c3, c4, ho, row5 h0 h1 h2 h3 h4, hy⟩
  | x :: r, i, k + 1, y, h, hy => by
    unfold IsYs at h
    have := IsYs.at_ (i := i + 1) k h.2 (by simpa using hy)
    rwa [show i + 1 + k = i + (k + 1) by omega] at this
/-- A list out of its elements. -/
theorem IsYs.mk' {w : World} {a : Addr} : ∀ {xs : List GY} {i : Nat}, (∀ (k : Nat) (y : GY), xs[k]? = some y → ∃ c0 c1 c2 c3 c4 : Value, (∀ (j : Nat) (v : Value), [c0, c1, c2, c3, c4][j]? = some v → w.cell? (a.add ((i + k) * 5 + j)) = some v) ∧ IsY w y (.agg #[c0, c1, c2, c3, c4])) → IsYs w (some a) i xs
  | [], i, _ => IsYs.nil _ _ _
  | y :: r, i, h => by
    unfold IsYs
    obtain ⟨c0, c1, c2, c3, c4, hc, hy⟩ := h 0 y rfl
    rw [Nat.add_zero] at hc
    refine ⟨⟨a, c0, c1, c2, c3, c4, rfl, hc 0 _ rfl, hc 1 _ rfl, hc 2 _ rfl, hc 3 _ rfl, hc 4 _ rfl, hy⟩, IsYs.mk' fun k z hz => ?_⟩
    have := h (k + 1) z (by simpa using hz)
    rwa [show i + (k + 1) = i + 1 + k by omega] at this
/-- The cells of a type. -/
theorem IsY.cells {w : World} {x : GY} {v : Value} (h : IsY w x v) : ∃ cs : List Value, v = .agg cs.toArray ∧ cs.length = 5 ∧ cs.all (·.oneCell') = true := by
  obtain ⟨k, p, m, n, args⟩ := x
  obtain ⟨o, c, rfl, _⟩ := h.parts
  exact ⟨_, rfl, rfl, rfl⟩
theorem IsY.ones {w : World} {x : GY} {c0 c1 c2 c3 c4 : Value} (h : IsY w x (.agg #[c0, c1, c2, c3, c4])) : ([c0, c1, c2, c3, c4] : List Value).all (·.oneCell') = true := by
  obtain ⟨k, p, m, n, args⟩ := x
  obtain ⟨o, c, hv, _⟩ := h.parts
  simp only [Value.agg.injEq, Array.mk.injEq, List.cons.injEq, and_true] at hv
  obtain ⟨rfl, rfl, rfl, rfl, rfl⟩ := hv
  rfl
theorem size5 : (Try.prog.info? 34).map (·.size) = some 5 := by kernel_rfl
/-- A box that was made last, stored whole. -/
theorem boxNewAt {ops : Array Oper} {rest : List Oper} {o : Oper} {a : Act} {w : World} {Q : Exit → Act → World → Prop} (T : TypeId) (n : Nat) (hi : (Try.prog.info? T).map (·.size) = some n) (hgd : o.guard = none) (x y : Operand) (ho : o.op = .store T x y) {t : TypeId} {old : Array Value} (g : Nat) (hgw : w.heap.size = g) (hx : a.eval x = .pointer (some ⟨g, 0, none⟩)) (cs : List Value) (hy : a.eval y = .agg cs.toArray) (hold : old.size = n) (hs : cs.length = n) (h1 : cs.all (·.oneCell') = true)
    (h : wpList Try.prog ops Q rest (a.put o.dst undef) (w.alloc (.cells cs.toArray t))) : wpList Try.prog ops Q (o :: rest) a (w.alloc (.cells old t)) := by
  subst hgw
  exact boxNew T n hi hgd x y ho hx cs hy hold hs h1 h
mutual
/-- No name is longer than so, no list has more elements. -/
def FitY (q : Nat) : GY → Prop
  | .mk _ p m _ args => p.size ≤ q ∧ m.size ≤ q ∧ args.length * 72 ≤ q ∧ FitYs q args
def FitYs (q : Nat) : List GY → Prop
  | [] => True
  | y :: r => FitY q y ∧ FitYs q r
end
theorem FitYs.mem {q : Nat} : ∀ {l : List GY}, FitYs q l → ∀ y ∈ l, FitY q y
  | [], _, _, h => by cases h
  | x :: r, h, y, hy => by
    unfold FitYs at h
    rcases List.mem_cons.1 hy with rfl | hy
    · exact h.1
    · exact FitYs.mem h.2 y hy
/-- The elements of a list, one by one. -/
theorem ys_of {w : World} {a : Addr} {Q : Nat → Prop} : ∀ (n i : Nat), (∀ j, i ≤ j → j < i + n → ∃ (c0 c1 c2 c3 c4 : Value) (y : GY), w.cell? (a.add (j * 5)) = some c0 ∧ w.cell? (a.add (j * 5 + 1)) = some c1 ∧ w.cell? (a.add (j * 5 + 2)) = some c2 ∧ w.cell? (a.add (j * 5 + 3)) = some c3 ∧ w.cell? (a.add (j * 5 + 4)) = some c4 ∧
      IsY w y (.agg #[c0, c1, c2, c3, c4]) ∧ ∀ q, Q q → FitY q y) → ∃ xs : List GY, xs.length = n ∧ IsYs w (some a) i xs ∧ ∀ q, Q q → FitYs q xs
  | 0, i, _ => ⟨[], rfl, IsYs.nil _ _ _, fun _ _ => by unfold FitYs; trivial⟩
  | n + 1, i, h => by
    obtain ⟨c0, c1, c2, c3, c4, y, h0, h1, h2, h3, h4, hy, hf⟩ := h i (Nat.le_refl _) (by omega)
    obtain ⟨xs, hl, hx, hg⟩ := ys_of (Q := Q) n (i + 1) fun j h1 h2 => h j (by omega) (by omega)
    refine ⟨y :: xs, by simp [hl], ?_, fun m hm => ?_⟩
    · unfold IsYs
      exact ⟨⟨a, c0, c1, c2, c3, c4, rfl, h0, h1, h2, h3, h4, hy⟩, hx⟩
    · unfold FitYs
      exact ⟨hf m hm, hg m hm⟩
set_option maxRecDepth 100000 in
set_option maxHeartbeats 4000000 in
/-- A type that came in, whatever it is. -/
theorem open_y {H : Type} {enc : TypeId × Value → H} {W : World} {base : Nat} : ∀ (fuel : Nat) (cs : List Value) (x : DataW H × List MemPlace), DataW.trod enc Try.prog W base (fun _ => true) true fuel 34 cs = some x →
    ∃ g : GY, IsY W g (.agg cs.toArray) ∧ ∀ m, (∀ n ∈ x.1.weights Try.prog 34, n ≤ m) → FitY m g := by
  intro fuel
  induction fuel using Nat.strongRecOn with
  | _ fuel ih =>
  intro cs x h
  have hT : Try.prog.cellsOf 34 = 5 := by kernel_rfl
  have h3 : Try.prog.cellsOf 3 = 1 := by kernel_rfl
  have h9 : Try.prog.cellsOf 9 = 1 := by kernel_rfl
  have hS : Try.prog.cellsOf 23 = 1 := by kernel_rfl
  have hB : Try.prog.bytesOf 34 = 72 := by kernel_rfl
  have hu := Try.underlying34
  have hv := Try.underlying23
  obtain ⟨ys, n, hfu, rfl, hlen, hyl, hfld⟩ := DataW.trod_struct hu h
  rw [hT] at hlen
  match cs, hlen, ys, hyl with
  | [u0, u1, u2, u3, u4], _, [y0, y1, y2, y3, y4], _ =>
  have t0 : DataW.trod enc Try.prog W base (fun _ => true) true n 3 [u0] = some y0 := by simpa [h3] using hfld 0 _ rfl
  have t1 : DataW.trod enc Try.prog W base (fun _ => true) true n 9 [u1] = some y1 := by simpa [h9] using hfld 1 _ rfl
  have t2 : DataW.trod enc Try.prog W base (fun _ => true) true n 9 [u2] = some y2 := by simpa [h9] using hfld 2 _ rfl
  have t3 : DataW.trod enc Try.prog W base (fun _ => true) true n 3 [u3] = some y3 := by simpa [h3] using hfld 3 _ rfl
  have t4 : DataW.trod enc Try.prog W base (fun _ => true) true n 23 [u4] = some y4 := by simpa [hS] using hfld 4 _ rfl
  obtain ⟨n0, f0, g0, _⟩ := DataW.trod_int Try.underlying3 t0
  obtain ⟨s1, f1, g1, _⟩ := DataW.trod_string Try.underlying9 t1
  obtain ⟨s2, f2, g2, _⟩ := DataW.trod_string Try.underlying9 t2
  obtain ⟨n3, f3, g3, _⟩ := DataW.trod_int Try.underlying3 t3
  simp only [List.cons.injEq, and_true] at f0 f1 f2 f3
  subst f0; subst f1; subst f2; subst f3; subst g0; subst g1; subst g2; subst g3
  have e1 : s1.data.toList.length = s1.size := by rw [Array.length_toList]; rfl
  have e2 : s2.data.toList.length = s2.size := by rw [Array.length_toList]; rfl
  rcases open_fuel hv t4 with ⟨f4, rfl⟩ | ⟨a, cap, n', ds, rest, hn', f4, hx, hcl, hcm, hel⟩
  · simp only [List.cons.injEq, and_true] at f4
    subst f4
    refine ⟨.mk n0 s1 s2 n3 [], IsY.of (by simp) (by simp) (IsYs.nil _ _ _), fun m hm => ?_⟩
    unfold FitY
    simp only [DataW.weights, hu, List.map_cons, List.map_nil, DataW.weightsEach, List.mem_append] at hm
    refine ⟨?_, ?_, by simp, by unfold FitYs; trivial⟩
    · exact e1 ▸ hm _ (by simp)
    · exact e2 ▸ hm _ (by simp)
  · simp only [List.cons.injEq, and_true] at f4
    subst f4
    obtain ⟨d4, p4⟩ := y4
    subst hx
    have key := ys_of (w := W) (a := a) (Q := fun m => ∀ n ∈ DataW.weightsAll Try.prog 34 ds, n ≤ m) ds.length 0 (by
      intro j _ hj
      obtain ⟨d, hd⟩ : ∃ d, ds[j]? = some d := ⟨_, List.getElem?_eq_getElem (by omega)⟩
      obtain ⟨cs', pl, hc, ht⟩ := hel j d hd
      rw [hT] at hc
      obtain ⟨_, hlen', hat⟩ := World.cells?_some hc
      obtain ⟨y, hy, hf⟩ := ih n' (by omega) cs' _ ht
      match cs', hlen', hat, hy with
      | [v0, v1, v2, v3, v4], _, hat, hy =>
        have c0 := hat 0 (by decide)
        have c1 := hat 1 (by decide)
        have c2 := hat 2 (by decide)
        have c3 := hat 3 (by decide)
        have c4 := hat 4 (by decide)
        rw [add_more'] at c0 c1 c2 c3 c4
        simp only [List.getElem?_cons_zero, List.getElem?_cons_succ] at c0 c1 c2 c3 c4
        exact ⟨v0, v1, v2, v3, v4, y, c0, c1, c2, c3, c4, hy, fun m hm => hf m fun n hn => hm n (weightsAll_mem' (List.mem_of_getElem? hd) hn)⟩)
    obtain ⟨xs, hl, hx, hg⟩ := key
    refine ⟨.mk n0 s1 s2 n3 xs, ?_, fun m hm => ?_⟩
    · have := IsY.of (k := n0) (p := s1) (m := s2) (n := n3) (args := xs) (o := some a) (c := cap) (by omega) hcm hx
      rwa [hl] at this
    · unfold FitY
      simp only [DataW.weights, hu, hv, List.map_cons, List.map_nil, DataW.weightsEach, List.mem_append] at hm
      refine ⟨?_, ?_, ?_, hg m fun n hn => hm n (by simp [hn])⟩
      · exact e1 ▸ hm _ (by simp)
      · exact e2 ▸ hm _ (by simp)
      · have := hm ((ds.length + rest.length) * Try.prog.bytesOf 34) (by simp)
        rw [hB] at this
        omega
set_option maxRecDepth 100000 in
set_option maxHeartbeats 4000000 in
/-- A list of types that came in. -/
theorem open_ys {H : Type} {enc : TypeId × Value → H} {W : World} {base : Nat} {fuel : Nat} {cs : List Value} {d : DataW H} {pl : List MemPlace} (h : DataW.trod enc Try.prog W base (fun _ => true) true fuel 23 cs = some (d, pl)) :
    ∃ (o : Option Addr) (l : List GY) (c : Nat), cs = [.slice o l.length c] ∧ l.length ≤ c ∧ c ≤ maxLen ∧ IsYs W o 0 l ∧ ∀ m, (∀ n ∈ d.weights Try.prog 23, n ≤ m) → FitYs m l ∧ l.length * 72 ≤ m := by
  have hT : Try.prog.cellsOf 34 = 5 := by kernel_rfl
  have hB : Try.prog.bytesOf 34 = 72 := by kernel_rfl
  have hv := Try.underlying23
  rcases open_fuel hv h with ⟨f4, hx⟩ | ⟨a, cap, n', ds, rest, hn', f4, hx, hcl, hcm, hel⟩
  · subst f4
    exact ⟨none, [], 0, rfl, by simp, by simp, IsYs.nil _ _ _, fun m _ => ⟨by unfold FitYs; trivial, by simp⟩⟩
  · subst f4
    simp only at hx
    subst hx
    have key := ys_of (w := W) (a := a) (Q := fun m => ∀ n ∈ DataW.weightsAll Try.prog 34 ds, n ≤ m) ds.length 0 (by
      intro j _ hj
      obtain ⟨d, hd⟩ : ∃ d, ds[j]? = some d := ⟨_, List.getElem?_eq_getElem (by omega)⟩
      obtain ⟨cs', pl, hc, ht⟩ := hel j d hd
      rw [hT] at hc
      obtain ⟨_, hlen', hat⟩ := World.cells?_some hc
      obtain ⟨y, hy, hf⟩ := open_y n' cs' _ ht
      match cs', hlen', hat, hy with
      | [v0, v1, v2, v3, v4], _, hat, hy =>
        have c0 := hat 0 (by decide)
        have c1 := hat 1 (by decide)
        have c2 := hat 2 (by decide)
        have c3 := hat 3 (by decide)
        have c4 := hat 4 (by decide)
        rw [add_more'] at c0 c1 c2 c3 c4
        simp only [List.getElem?_cons_zero, List.getElem?_cons_succ] at c0 c1 c2 c3 c4
        exact ⟨v0, v1, v2, v3, v4, y, c0, c1, c2, c3, c4, hy, fun m hm => hf m fun n hn => hm n (weightsAll_mem' (List.mem_of_getElem? hd) hn)⟩)
    obtain ⟨xs, hl, hx, hg⟩ := key
    refine ⟨some a, xs, cap, by rw [hl], by omega, hcm, hx, fun m hm => ?_⟩
    simp only [DataW.weights, hv] at hm
    refine ⟨hg m fun n hn => hm n (by simp [hn]), ?_⟩
    have := hm ((ds.length + rest.length) * Try.prog.bytesOf 34) (by simp)
    rw [hB] at this
    omega
end Go.Proofs.Ytlakmniaocpaaaa
namespace Go.Proofs.Ytlakmniaocpaaaa
open Go.RowKit
open Go.ChangeShapes Go.WideShapes Go.Deep
/-- A row of elements of n cells each. -/
def IsRow {α : Type} (n : Nat) (P : World → α → List Value → Prop) (w : World) (o : Option Addr) (xs : List α) : Prop :=
  ∀ (i : Nat) (x : α), xs[i]? = some x → ∃ (a : Addr) (c : List Value), o = some a ∧ c.length = n ∧ (∀ (j : Nat) (u : Value), c[j]? = some u → w.cell? ((a.add (i * n)).add j) = some u) ∧ P w x c
def IsMd (w : World) (m : MD) (c : List Value) : Prop := ∃ (o : Option Addr) (k : Nat) (r0 r1 r2 r3 r4 : Value), c = [.string m.name, .slice o m.params.length k, r0, r1, r2, r3, r4] ∧ m.params.length ≤ k ∧ k ≤ maxLen ∧ IsYs w o 0 m.params ∧ IsY w m.result (.agg #[r0, r1, r2, r3, r4])
def IsFd (w : World) (f : ByteArray × GY) (c : List Value) : Prop := ∃ (r0 r1 r2 r3 r4 : Value), c = [.string f.1, r0, r1, r2, r3, r4] ∧ IsY w f.2 (.agg #[r0, r1, r2, r3, r4])
def IsTd (w : World) (d : TD) (c : List Value) : Prop := ∃ (o1 o2 : Option Addr) (k1 k2 : Nat), c = [.string d.name, .bool d.strct, .slice o1 d.fields.length k1, .slice o2 d.meths.length k2] ∧ d.fields.length ≤ k1 ∧ k1 ≤ maxLen ∧ d.meths.length ≤ k2 ∧ k2 ≤ maxLen ∧ IsRow 6 IsFd w o1 d.fields ∧ IsRow 7 IsMd w o2 d.meths
def IsIf (w : World) (p : IF) (c : List Value) : Prop := ∃ (o o2 : Option Addr) (k n2 k2 : Nat), c = [.string p.pkg, .slice o p.types.length k, .slice o2 n2 k2] ∧ p.types.length ≤ k ∧ k ≤ maxLen ∧ IsRow 4 IsTd w o p.types
def IsSc (w : World) (s : SCP) (c : List Value) : Prop := ∃ (o o1 o2 o3 o4 : Option Addr) (k n1 k1 n2 k2 k3 n4 k4 : Nat), c = [.slice o s.W.length k, .slice o1 n1 k1, .slice o2 n2 k2, .slice o3 s.bounds.length k3, .slice o4 n4 k4] ∧ s.W.length ≤ k ∧ k ≤ maxLen ∧ s.bounds.length ≤ k3 ∧ k3 ≤ maxLen ∧ IsRow 3 IsIf w o s.W ∧ IsYs w o3 0 s.bounds ∧ (o = none → k = 0)
/-- A list of methods. -/
def IsMs (w : World) (l : List MD) (v : Value) : Prop := ∃ (o : Option Addr) (k : Nat), v = .slice o l.length k ∧ l.length ≤ k ∧ k ≤ maxLen ∧ IsRow 7 IsMd w o l
section
variable {w w' : World} (hk : ∀ (a : Addr) (u : Value), w.cell? a = some u → w'.cell? a = some u)
include hk
theorem IsRow.keep {α : Type} {n : Nat} {P : World → α → List Value → Prop} {o : Option Addr} {xs : List α} (h : IsRow n P w o xs) (hP : ∀ x c, P w x c → P w' x c) : IsRow n P w' o xs := fun i x hx => by
  obtain ⟨a, c, h1, h2, h3, h4⟩ := h i x hx
  exact ⟨a, c, h1, h2, fun j u hu => hk _ _ (h3 j u hu), hP _ _ h4⟩
theorem IsMd.keep {m : MD} {c : List Value} (h : IsMd w m c) : IsMd w' m c := by
  obtain ⟨o, k, r0, r1, r2, r3, r4, h1, h2, h3, h4, h5⟩ := h
  exact ⟨o, k, r0, r1, r2, r3, r4, h1, h2, h3, h4.keep hk, h5.keep hk⟩
theorem IsFd.keep {m : ByteArray × GY} {c : List Value} (h : IsFd w m c) : IsFd w' m c := by
  obtain ⟨r0, r1, r2, r3, r4, h1, h5⟩ := h
  exact ⟨r0, r1, r2, r3, r4, h1, h5.keep hk⟩
theorem IsTd.keep {m : TD} {c : List Value} (h : IsTd w m c) : IsTd w' m c := by
  obtain ⟨o1, o2, k1, k2, h1, h2, h3, h4, h5, h6, h7⟩ := h
  exact ⟨o1, o2, k1, k2, h1, h2, h3, h4, h5, h6.keep hk fun _ _ h => h.keep hk, h7.keep hk fun _ _ h => h.keep hk⟩
theorem IsIf.keep {m : IF} {c : List Value} (h : IsIf w m c) : IsIf w' m c := by
  obtain ⟨o1, o2, k1, k2, k3, h1, h2, h3, h4⟩ := h
  exact ⟨o1, o2, k1, k2, k3, h1, h2, h3, h4.keep hk fun _ _ h => h.keep hk⟩
theorem IsSc.keep {m : SCP} {c : List Value} (h : IsSc w m c) : IsSc w' m c := by
  obtain ⟨o, o1, o2, o3, o4, k, n1, k1, n2, k2, k3, n4, k4, h1, h2, h3, h4, h5, h6, h7, h8⟩ := h
  exact ⟨o, o1, o2, o3, o4, k, n1, k1, n2, k2, k3, n4, k4, h1, h2, h3, h4, h5, h6.keep hk fun _ _ h => h.keep hk, h7.keep hk, h8⟩
theorem IsMs.keep {l : List MD} {v : Value} (h : IsMs w l v) : IsMs w' l v := by
  obtain ⟨o, k, h1, h2, h3, h4⟩ := h
  exact ⟨o, k, h1, h2, h3, h4.keep hk fun _ _ h => h.keep hk⟩
end
theorem cells_below {w w' : World} (hb : Below w.heap.size w w') (a : Addr) (u : Value) (hc : w.cell? a = some u) : w'.cell? a = some u := (hb.cell (World.block_lt_of_cell? _ _ hc)).trans hc
section
variable {w w' : World}
theorem IsMd.below {m : MD} {c : List Value} (h : IsMd w m c) (hb : Below w.heap.size w w') : IsMd w' m c := h.keep (cells_below hb)
theorem IsFd.below {m : ByteArray × GY} {c : List Value} (h : IsFd w m c) (hb : Below w.heap.size w w') : IsFd w' m c := h.keep (cells_below hb)
theorem IsTd.below {m : TD} {c : List Value} (h : IsTd w m c) (hb : Below w.heap.size w w') : IsTd w' m c := h.keep (cells_below hb)
theorem IsIf.below {m : IF} {c : List Value} (h : IsIf w m c) (hb : Below w.heap.size w w') : IsIf w' m c := h.keep (cells_below hb)
theorem IsSc.below {m : SCP} {c : List Value} (h : IsSc w m c) (hb : Below w.heap.size w w') : IsSc w' m c := h.keep (cells_below hb)
theorem IsMs.below {m : List MD} {v : Value} (h : IsMs w m v) (hb : Below w.heap.size w w') : IsMs w' m v := h.keep (cells_below hb)
theorem rowMs_below {o : Option Addr} {m : List MD} (h : IsRow 7 IsMd w o m) (hb : Below w.heap.size w w') : IsRow 7 IsMd w' o m := h.keep (cells_below hb) fun _ _ h => h.below hb
theorem rowFs_below {o : Option Addr} {m : List (ByteArray × GY)} (h : IsRow 6 IsFd w o m) (hb : Below w.heap.size w w') : IsRow 6 IsFd w' o m := h.keep (cells_below hb) fun _ _ h => h.below hb
theorem rowTs_below {o : Option Addr} {m : List TD} (h : IsRow 4 IsTd w o m) (hb : Below w.heap.size w w') : IsRow 4 IsTd w' o m := h.keep (cells_below hb) fun _ _ h => h.below hb
theorem rowIs_below {o : Option Addr} {m : List IF} (h : IsRow 3 IsIf w o m) (hb : Below w.heap.size w w') : IsRow 3 IsIf w' o m := h.keep (cells_below hb) fun _ _ h => h.below hb
theorem IsRow.nil {α : Type} {n : Nat} {P : World → α → List Value → Prop} {o : Option Addr} : IsRow n P w o [] := fun i x h => by simp at h
theorem IsTd.zero : IsTd w zeroD [.string noB, .bool false, .slice none 0 0, .slice none 0 0] := ⟨none, none, 0, 0, rfl, Nat.le_refl _, Nat.zero_le _, Nat.le_refl _, Nat.zero_le _, IsRow.nil, IsRow.nil⟩
theorem IsY.zero : IsY w zeroY (.agg #[.int .i64 0, .string noB, .string noB, .int .i64 0, .slice none 0 0]) := IsY.of (args := []) (Nat.le_refl _) (Nat.zero_le _) (IsYs.nil _ _ _)
theorem IsMd.ones {m : MD} {c : List Value} (h : IsMd w m c) : c.length = 7 ∧ c.all (·.oneCell') = true := by
  obtain ⟨o, k, r0, r1, r2, r3, r4, rfl, _, _, _, h⟩ := h
  have := h.ones
  simp only [List.all_cons, List.all_nil, Bool.and_true, Bool.and_eq_true] at this ⊢
  exact ⟨rfl, rfl, rfl, this⟩
theorem IsTd.ones {m : TD} {c : List Value} (h : IsTd w m c) : c.length = 4 ∧ c.all (·.oneCell') = true := by
  obtain ⟨_, _, _, _, rfl, _⟩ := h
  exact ⟨rfl, rfl⟩
theorem IsIf.ones {m : IF} {c : List Value} (h : IsIf w m c) : c.length = 3 ∧ c.all (·.oneCell') = true := by
  obtain ⟨_, _, _, _, _, rfl, _⟩ := h
  exact ⟨rfl, rfl⟩
end
/-! ### how long names and lists are -/
def FitM (q : Nat) (m : MD) : Prop := m.name.size ≤ q ∧ FitYs q m.params ∧ m.params.length * 72 ≤ q ∧ FitY q m.result
def FitF (q : Nat) (f : ByteArray × GY) : Prop := f.1.size ≤ q ∧ FitY q f.2
def FitT (q : Nat) (d : TD) : Prop := d.name.size ≤ q ∧ (∀ f ∈ d.fields, FitF q f) ∧ d.fields.length * 88 ≤ q ∧ (∀ m ∈ d.meths, FitM q m) ∧ d.meths.length * 112 ≤ q
def FitI (q : Nat) (p : IF) : Prop := ∀ d ∈ p.types, FitT q d
def FitS (q : Nat) (s : SCP) : Prop := (∀ p ∈ s.W, FitI q p) ∧ FitYs q s.bounds
/-! ### opened -/
theorem rows_of {α β : Type} {P : Nat → α → β → Prop} : ∀ (ds : List α) (i : Nat), (∀ (j : Nat) (d : α), ds[j]? = some d → ∃ y, P (i + j) d y) → ∃ ys : List β, ys.length = ds.length ∧ ∀ (j : Nat) (y : β), ys[j]? = some y → ∃ d, ds[j]? = some d ∧ P (i + j) d y
  | [], i, _ => ⟨[], rfl, fun j y h => by simp at h⟩
  | d :: r, i, h => by
    obtain ⟨y, hy⟩ := h 0 d rfl
    obtain ⟨ys, hl, hx⟩ := rows_of (P := P) r (i + 1) fun j d hd => by
      have := h (j + 1) d (by simpa using hd)
      rwa [show i + (j + 1) = i + 1 + j by omega] at this
    refine ⟨y :: ys, by simp [hl], fun j z hz => ?_⟩
    cases j with
    | zero =>
      simp only [List.getElem?_cons_zero, Option.some.injEq] at hz
      subst hz
      exact ⟨d, rfl, hy⟩
    | succ j =>
      obtain ⟨d', h1, h2⟩ := hx j z (by simpa using hz)
      exact ⟨d', by simpa using h1, by rwa [show i + (j + 1) = i + 1 + j by omega]⟩
theorem open_row {α H : Type} {enc : TypeId × Value → H} {W : World} {base : Nat} {n sz : Nat} {P : World → α → List Value → Prop} {F : Nat → α → Prop} {t e : TypeId} (ht : Try.prog.underlying t = some (.slice e)) (hn : Try.prog.cellsOf e = n) (hz : Try.prog.bytesOf e = sz)
    (hP : ∀ (fuel : Nat) (cs : List Value) (x : DataW H × List MemPlace), DataW.trod enc Try.prog W base (fun _ => true) true fuel e cs = some x → ∃ y, P W y cs ∧ ∀ q, (∀ k ∈ x.1.weights Try.prog e, k ≤ q) → F q y)
    {fuel : Nat} {cs : List Value} {x : DataW H × List MemPlace} (h : DataW.trod enc Try.prog W base (fun _ => true) true fuel t cs = some x) :
    ∃ (o : Option Addr) (l : List α) (c : Nat), cs = [.slice o l.length c] ∧ l.length ≤ c ∧ c ≤ maxLen ∧ IsRow n P W o l ∧ (o = none → c = 0) ∧ ∀ q, (∀ k ∈ x.1.weights Try.prog t, k ≤ q) → (∀ y ∈ l, F q y) ∧ l.length * sz ≤ q := by
  rcases open_fuel ht h with ⟨rfl, rfl⟩ | ⟨a, cap, k, ds, rest, _, rfl, hx, hcl, hcm, hel⟩
  · exact ⟨none, [], 0, rfl, Nat.le_refl _, by simp, IsRow.nil, fun _ => rfl, fun q _ => ⟨fun y h => (by cases h), by simp⟩⟩
  · obtain ⟨ys, hl, hy⟩ := rows_of (P := fun (j : Nat) (d : DataW H) (y : α) => ∃ c : List Value, c.length = n ∧ (∀ (i : Nat) (u : Value), c[i]? = some u → W.cell? ((a.add (j * n)).add i) = some u) ∧ P W y c ∧ ∀ q, (∀ k ∈ d.weights Try.prog e, k ≤ q) → F q y) ds 0 (by
      intro j d hd
      rw [Nat.zero_add]
      obtain ⟨cs', pl, hc, ht⟩ := hel j d hd
      rw [hn] at hc
      obtain ⟨_, hlen, hat⟩ := World.cells?_some hc
      obtain ⟨y, hy, hf⟩ := hP _ _ _ ht
      refine ⟨y, cs', hlen, fun i u hu => ?_, hy, hf⟩
      have hi := (List.getElem?_eq_some_iff.1 hu).1
      rw [hat i (by omega), hu])
    obtain ⟨d4, p4⟩ := x
    simp only at hx
    subst hx
    refine ⟨some a, ys, cap, by rw [hl], by omega, hcm, fun i y hi => ?_, (fun h => by cases h), fun q hq => ⟨fun y hyy => ?_, ?_⟩⟩
    · obtain ⟨d, _, c, g1, g2, g3, _⟩ := hy i y hi
      rw [Nat.zero_add] at g2
      exact ⟨a, c, rfl, g1, g2, g3⟩
    · obtain ⟨i, hi⟩ := List.getElem?_of_mem hyy
      obtain ⟨d, hd, c, _, _, _, g4⟩ := hy i y hi
      simp only [DataW.weights, ht] at hq
      exact g4 q fun k hk => hq k (by simp [weightsAll_mem' (List.mem_of_getElem? hd) hk])
    · simp only [DataW.weights, ht] at hq
      have := hq ((ds.length + rest.length) * Try.prog.bytesOf e) (by simp)
      rw [hz] at this
      rw [hl]
      exact Nat.le_trans (Nat.mul_le_mul_right _ (Nat.le_add_right _ _)) this
/-- A struct's weights are those of its fields. -/
theorem weights3 {H : Type} {T : TypeId} {fs : Array Field} {xs : List (DataW H)} {q : Nat} (hu : Try.prog.underlying T = some (.struct fs)) (hq : ∀ k ∈ (DataW.agg xs).weights Try.prog T, k ≤ q) (i : Nat) (f : TypeId) (x : DataW H) (hf : (fs.toList.map (·.type))[i]? = some f) (hx : xs[i]? = some x) : ∀ k ∈ x.weights Try.prog f, k ≤ q := by
  intro k hk
  refine hq k ?_
  simp only [DataW.weights, hu]
  exact DataW.weights_mem_each hf hx k hk
theorem size_of {H : Type} {s : ByteArray} {q : Nat} (h : ∀ k ∈ (DataW.lit (.string s.data.toList) : DataW H).weights Try.prog 9, k ≤ q) : s.size ≤ q := by
  have e1 : s.data.toList.length = s.size := by rw [Array.length_toList]; rfl
  exact e1 ▸ h _ (by simp [DataW.weights])
/-- A slice, whatever is in it. -/
theorem open_any {H : Type} {enc : TypeId × Value → H} {W : World} {base : Nat} {t e : TypeId} (ht : Try.prog.underlying t = some (.slice e)) {fuel : Nat} {cs : List Value} {x : DataW H × List MemPlace} (h : DataW.trod enc Try.prog W base (fun _ => true) true fuel t cs = some x) :
    ∃ (o : Option Addr) (n c : Nat), cs = [.slice o n c] := by
  rcases open_fuel ht h with ⟨rfl, rfl⟩ | ⟨a, cap, k, ds, rest, _, rfl, hx, hcl, hcm, hel⟩
  · exact ⟨_, _, _, rfl⟩
  · exact ⟨_, _, _, rfl⟩
section
variable {H : Type} {enc : TypeId × Value → H} {W : World} {base : Nat}
set_option maxRecDepth 100000
theorem open_md (fuel : Nat) (cs : List Value) (x : DataW H × List MemPlace) (h : DataW.trod enc Try.prog W base (fun _ => true) true fuel 54 cs = some x) : ∃ m, IsMd W m cs ∧ ∀ q, (∀ k ∈ x.1.weights Try.prog 54, k ≤ q) → FitM q m := by
  have hT : Try.prog.cellsOf 54 = 7 := by kernel_rfl
  have h9 : Try.prog.cellsOf 9 = 1 := by kernel_rfl
  have hS : Try.prog.cellsOf 23 = 1 := by kernel_rfl
  have hY : Try.prog.cellsOf 34 = 5 := by kernel_rfl
  obtain ⟨ys, n, hfu, rfl, hlen, hyl, hfld⟩ := DataW.trod_struct Try.underlying54 h
  rw [hT] at hlen
  match cs, hlen, ys, hyl with
  | [u0, u1, u2, u3, u4, u5, u6], _, [y0, y1, y2], _ =>
  have t0 : DataW.trod enc Try.prog W base (fun _ => true) true n 9 [u0] = some y0 := by simpa [h9] using hfld 0 _ rfl
  have t1 : DataW.trod enc Try.prog W base (fun _ => true) true n 23 [u1] = some y1 := by simpa [h9, hS] using hfld 1 _ rfl
  have t2 : DataW.trod enc Try.prog W base (fun _ => true) true n 34 [u2, u3, u4, u5, u6] = some y2 := by simpa [h9, hS, hY] using hfld 2 _ rfl
  obtain ⟨s, f0, g0, _⟩ := DataW.trod_string Try.underlying9 t0
  obtain ⟨d1, p1⟩ := y1
  obtain ⟨o, l, c, f1, hlc, hcm, hl, wl⟩ := open_ys t1
  obtain ⟨y, hy, wy⟩ := open_y n _ _ t2
  simp only [List.cons.injEq, and_true] at f0 f1
  subst f0; subst f1
  refine ⟨⟨s, l, y⟩, ⟨o, c, u2, u3, u4, u5, u6, rfl, hlc, hcm, hl, hy⟩, fun q hq => ?_⟩
  have hq2 := weights3 Try.underlying54 hq
  have w0 := hq2 0 _ _ rfl rfl
  rw [g0] at w0
  obtain ⟨a1, a2⟩ := wl q (hq2 1 _ _ rfl rfl)
  exact ⟨size_of w0, a1, a2, wy q (hq2 2 _ _ rfl rfl)⟩
theorem open_fd (fuel : Nat) (cs : List Value) (x : DataW H × List MemPlace) (h : DataW.trod enc Try.prog W base (fun _ => true) true fuel 151 cs = some x) : ∃ m, IsFd W m cs ∧ ∀ q, (∀ k ∈ x.1.weights Try.prog 151, k ≤ q) → FitF q m := by
  have hT : Try.prog.cellsOf 151 = 6 := by kernel_rfl
  have h9 : Try.prog.cellsOf 9 = 1 := by kernel_rfl
  have hY : Try.prog.cellsOf 34 = 5 := by kernel_rfl
  obtain ⟨ys, n, hfu, rfl, hlen, hyl, hfld⟩ := DataW.trod_struct Try.underlying151 h
  rw [hT] at hlen
  match cs, hlen, ys, hyl with
  | [u0, u2, u3, u4, u5, u6], _, [y0, y2], _ =>
  have t0 : DataW.trod enc Try.prog W base (fun _ => true) true n 9 [u0] = some y0 := by simpa [h9] using hfld 0 _ rfl
  have t2 : DataW.trod enc Try.prog W base (fun _ => true) true n 34 [u2, u3, u4, u5, u6] = some y2 := by simpa [h9, hY] using hfld 1 _ rfl
  obtain ⟨s, f0, g0, _⟩ := DataW.trod_string Try.underlying9 t0
  obtain ⟨y, hy, wy⟩ := open_y n _ _ t2
  simp only [List.cons.injEq, and_true] at f0
  subst f0
  refine ⟨(s, y), ⟨u2, u3, u4, u5, u6, rfl, hy⟩, fun q hq => ?_⟩
  have hq2 := weights3 Try.underlying151 hq
  have w0 := hq2 0 _ _ rfl rfl
  rw [g0] at w0
  exact ⟨size_of w0, wy q (hq2 1 _ _ rfl rfl)⟩
theorem open_td (fuel : Nat) (cs : List Value) (x : DataW H × List MemPlace) (h : DataW.trod enc Try.prog W base (fun _ => true) true fuel 58 cs = some x) : ∃ m, IsTd W m cs ∧ ∀ q, (∀ k ∈ x.1.weights Try.prog 58, k ≤ q) → FitT q m := by
  have hT : Try.prog.cellsOf 58 = 4 := by kernel_rfl
  have h9 : Try.prog.cellsOf 9 = 1 := by kernel_rfl
  have h4 : Try.prog.cellsOf 4 = 1 := by kernel_rfl
  have hF : Try.prog.cellsOf 56 = 1 := by kernel_rfl
  have hM : Try.prog.cellsOf 55 = 1 := by kernel_rfl
  obtain ⟨ys, n, hfu, rfl, hlen, hyl, hfld⟩ := DataW.trod_struct Try.underlying58 h
  rw [hT] at hlen
  match cs, hlen, ys, hyl with
  | [u0, u1, u2, u3], _, [y0, y1, y2, y3], _ =>
  have t0 : DataW.trod enc Try.prog W base (fun _ => true) true n 9 [u0] = some y0 := by simpa [h9] using hfld 0 _ rfl
  have t1 : DataW.trod enc Try.prog W base (fun _ => true) true n 4 [u1] = some y1 := by simpa [h9, h4] using hfld 1 _ rfl
  have t2 : DataW.trod enc Try.prog W base (fun _ => true) true n 56 [u2] = some y2 := by simpa [h9, h4, hF] using hfld 2 _ rfl
  have t3 : DataW.trod enc Try.prog W base (fun _ => true) true n 55 [u3] = some y3 := by simpa [h9, h4, hF, hM] using hfld 3 _ rfl
  obtain ⟨s, f0, g0, _⟩ := DataW.trod_string Try.underlying9 t0
  obtain ⟨b, f1, _⟩ := DataW.trod_bool Try.underlying4 t1
  obtain ⟨o1, l1, c1, f2, a1, b1, r1, _, w1⟩ := open_row (n := 6) (P := IsFd) (F := FitF) Try.underlying56 (by kernel_rfl) (sz := 88) (by kernel_rfl) open_fd t2
  obtain ⟨o2, l2, c2, f3, a2, b2, r2, _, w2⟩ := open_row (n := 7) (P := IsMd) (F := FitM) Try.underlying55 (by kernel_rfl) (sz := 112) (by kernel_rfl) open_md t3
  simp only [List.cons.injEq, and_true] at f0 f1 f2 f3
  subst f0; subst f1; subst f2; subst f3
  refine ⟨⟨s, b, l1, l2⟩, ⟨o1, o2, c1, c2, rfl, a1, b1, a2, b2, r1, r2⟩, fun q hq => ?_⟩
  have hq2 := weights3 Try.underlying58 hq
  have w0 := hq2 0 _ _ rfl rfl
  rw [g0] at w0
  obtain ⟨m1, m2⟩ := w1 q (hq2 2 _ _ rfl rfl)
  obtain ⟨m3, m4⟩ := w2 q (hq2 3 _ _ rfl rfl)
  exact ⟨size_of w0, m1, m2, m3, m4⟩
theorem open_if (fuel : Nat) (cs : List Value) (x : DataW H × List MemPlace) (h : DataW.trod enc Try.prog W base (fun _ => true) true fuel 62 cs = some x) : ∃ m, IsIf W m cs ∧ ∀ q, (∀ k ∈ x.1.weights Try.prog 62, k ≤ q) → FitI q m := by
  have hT : Try.prog.cellsOf 62 = 3 := by kernel_rfl
  have h9 : Try.prog.cellsOf 9 = 1 := by kernel_rfl
  have hF : Try.prog.cellsOf 59 = 1 := by kernel_rfl
  have hM : Try.prog.cellsOf 60 = 1 := by kernel_rfl
  obtain ⟨ys, n, hfu, rfl, hlen, hyl, hfld⟩ := DataW.trod_struct Try.underlying62 h
  rw [hT] at hlen
  match cs, hlen, ys, hyl with
  | [u0, u1, u2], _, [y0, y1, y2], _ =>
  have t0 : DataW.trod enc Try.prog W base (fun _ => true) true n 9 [u0] = some y0 := by simpa [h9] using hfld 0 _ rfl
  have t1 : DataW.trod enc Try.prog W base (fun _ => true) true n 59 [u1] = some y1 := by simpa [h9, hF] using hfld 1 _ rfl
  have t2 : DataW.trod enc Try.prog W base (fun _ => true) true n 60 [u2] = some y2 := by simpa [h9, hF, hM] using hfld 2 _ rfl
  obtain ⟨s, f0, g0, _⟩ := DataW.trod_string Try.underlying9 t0
  obtain ⟨o1, l1, c1, f1, a1, b1, r1, _, w1⟩ := open_row (n := 4) (P := IsTd) (F := FitT) Try.underlying59 (by kernel_rfl) (sz := 72) (by kernel_rfl) open_td t1
  obtain ⟨o2, n2, c2, f2⟩ := open_any Try.underlying60 t2
  simp only [List.cons.injEq, and_true] at f0 f1 f2
  subst f0; subst f1; subst f2
  refine ⟨⟨s, l1⟩, ⟨o1, o2, c1, n2, c2, rfl, a1, b1, r1⟩, fun q hq => ?_⟩
  exact (w1 q (weights3 Try.underlying62 hq 1 _ _ rfl rfl)).1
theorem open_ifs {fuel : Nat} {cs : List Value} {x : DataW H × List MemPlace} (h : DataW.trod enc Try.prog W base (fun _ => true) true fuel 28 cs = some x) :
    ∃ (o : Option Addr) (l : List IF) (c : Nat), cs = [.slice o l.length c] ∧ l.length ≤ c ∧ c ≤ maxLen ∧ IsRow 3 IsIf W o l ∧ (o = none → c = 0) ∧ ∀ q, (∀ k ∈ x.1.weights Try.prog 28, k ≤ q) → (∀ y ∈ l, FitI q y) ∧ l.length * 64 ≤ q := open_row (n := 3) (P := IsIf) (F := FitI) Try.underlying28 (by kernel_rfl) (sz := 64) (by kernel_rfl) open_if h
theorem open_sc (fuel : Nat) (cs : List Value) (x : DataW H × List MemPlace) (h : DataW.trod enc Try.prog W base (fun _ => true) true fuel 32 cs = some x) : ∃ m, IsSc W m cs ∧ ∀ q, (∀ k ∈ x.1.weights Try.prog 32, k ≤ q) → FitS q m := by
  have hT : Try.prog.cellsOf 32 = 5 := by kernel_rfl
  have hI : Try.prog.cellsOf 28 = 1 := by kernel_rfl
  have hS : Try.prog.cellsOf 29 = 1 := by kernel_rfl
  have hY : Try.prog.cellsOf 23 = 1 := by kernel_rfl
  have hV : Try.prog.cellsOf 30 = 1 := by kernel_rfl
  obtain ⟨ys, n, hfu, rfl, hlen, hyl, hfld⟩ := DataW.trod_struct Try.underlying32 h
  rw [hT] at hlen
  match cs, hlen, ys, hyl with
  | [u0, u1, u2, u3, u4], _, [y0, y1, y2, y3, y4], _ =>
  have t0 : DataW.trod enc Try.prog W base (fun _ => true) true n 28 [u0] = some y0 := by simpa [hI] using hfld 0 _ rfl
  have t1 : DataW.trod enc Try.prog W base (fun _ => true) true n 29 [u1] = some y1 := by simpa [hI, hS] using hfld 1 _ rfl
  have t2 : DataW.trod enc Try.prog W base (fun _ => true) true n 29 [u2] = some y2 := by simpa [hI, hS] using hfld 2 _ rfl
  have t3 : DataW.trod enc Try.prog W base (fun _ => true) true n 23 [u3] = some y3 := by simpa [hI, hS, hY] using hfld 3 _ rfl
  have t4 : DataW.trod enc Try.prog W base (fun _ => true) true n 30 [u4] = some y4 := by simpa [hI, hS, hY, hV] using hfld 4 _ rfl
  obtain ⟨o, l, c, f0, a0, b0, r0, z0, w0⟩ := open_ifs t0
  obtain ⟨o1, n1, c1, f1⟩ := open_any Try.underlying29 t1
  obtain ⟨o2, n2, c2, f2⟩ := open_any Try.underlying29 t2
  obtain ⟨d3, p3⟩ := y3
  obtain ⟨o3, l3, c3, f3, a3, b3, r3, w3⟩ := open_ys t3
  obtain ⟨o4, n4, c4, f4⟩ := open_any Try.underlying30 t4
  simp only [List.cons.injEq, and_true] at f0 f1 f2 f3 f4
  subst f0; subst f1; subst f2; subst f3; subst f4
  refine ⟨⟨l, l3⟩, ⟨o, o1, o2, o3, o4, c, n1, c1, n2, c2, c3, n4, c4, rfl, a0, b0, a3, b3, r0, r3, z0⟩, fun q hq => ?_⟩
  have hq2 := weights3 Try.underlying32 hq
  exact ⟨(w0 q (hq2 0 _ _ rfl rfl)).1, (w3 q (hq2 3 _ _ rfl rfl)).1⟩
end
end Go.Proofs.Ytlakmniaocpaaaa
namespace Go.Proofs.Ytlakmniaocpaaaa
open Go.RowKit
open Go.Lib hiding intOf
theorem sames_len : ∀ {l q : List GY}, l.length ≠ q.length → sameYs l q = false
  | [], [], h => absurd rfl h
  | [], _ :: _, _ => by rw [sameYs] <;> simp
  | _ :: _, [], _ => by rw [sameYs] <;> simp
  | a :: r, b :: q, h => by rw [sameYs, sames_len (l := r) (q := q) (fun e => h (by simp [e])), Bool.and_false]
theorem sames_drop {l q : List GY} {j : Nat} {x y : GY} (hx : l[j]? = some x) (hy : q[j]? = some y) : sameYs (l.drop j) (q.drop j) = (sameY x y && sameYs (l.drop (j + 1)) (q.drop (j + 1))) := by
  obtain ⟨h1, rfl⟩ := List.getElem?_eq_some_iff.1 hx
  obtain ⟨h2, rfl⟩ := List.getElem?_eq_some_iff.1 hy
  rw [List.drop_eq_getElem_cons h1, List.drop_eq_getElem_cons h2, sameYs]
set_option maxRecDepth 100000 in
set_option maxHeartbeats 4000000 in
theorem eqf_any (l q : List GY) (o o' : Option Addr) (n m c c' : Nat) (w : World) (hn : l.length = n) (hm : q.length = m) (hn2 : n ≤ 9223372036854775807) (hm2 : m ≤ 9223372036854775807) (h : IsYs w o 0 l) (h' : IsYs w o' 0 q)
    (H : ∀ x ∈ l, ∀ (y : GY) (v u : Value) (W : World), IsY W x v → IsY W y u → Calls Try.prog 53 #[v, u] W fun e W' => e = .returned (.bool (sameY x y)) ∧ Below W.heap.size W W') :
    Calls Try.prog 52 #[.slice o n c, .slice o' m c', .func (.func 53) #[] #[]] w fun e w' => e = .returned (.bool (sameYs l q)) ∧ Below w.heap.size w w' := by
  by_cases hnm : n = m
  · subst hnm
    obtain ⟨B, hB⟩ : ∃ B, sameYs l q = B := ⟨_, rfl⟩
    rw [hB]
    have HB : Hid (sameYs (l.drop 0) (q.drop 0) = B) := by show _ = _; rw [List.drop_zero, List.drop_zero]; exact hB
    have HX := Lib.hid h
    have HY := Lib.hid h'
    have HN := Lib.hid hn
    have HM := Lib.hid hm
    have HH := Lib.hid H
    clear hB h h' H hn hm
    go_enter Try.func52, Try.ntmps52
    go_wp2
    go_loopw [17] (fun i wr => ∃ j : Nat, i = .int .i64 (j : Nat) ∧ Hid (j ≤ n) ∧ Hid (sameYs (l.drop j) (q.drop j) = B) ∧ Hid (Below w.heap.size w wr)) (fun i _ => n - (RowKit.intOf i).toNat)
    case atStart => exact ⟨0, rfl, Nat.zero_le _, HB, Below.refl _ _⟩
    case round =>
      obtain ⟨j, rfl, HJ, HA, HW⟩ := hrel
      clear HB
      by_cases hj : j < n
      · have hj' : ((j : Int) < (n : Int)) := by omega
        have hj0 : (0 : Int) ≤ (j : Int) := by omega
        have hwj := IntWalk.i64_in ((j : Int) + 1) ⟨by omega, by omega⟩
        obtain ⟨x, hx⟩ : ∃ x, l[j]? = some x := ⟨_, List.getElem?_eq_getElem (by rw [HN.out]; exact hj)⟩
        obtain ⟨y, hy⟩ : ∃ y, q[j]? = some y := ⟨_, List.getElem?_eq_getElem (by rw [HM.out]; exact hj)⟩
        have HD := Lib.hid (sames_drop hx hy)
        have hmem := List.mem_of_getElem? hx
        obtain ⟨a, c0, c1, c2, c3, c4, rfl, hc, hyx⟩ := HX.out.at_ j hx
        obtain ⟨b, d0, d1, d2, d3, d4, rfl, hd, hyy⟩ := HY.out.at_ j hy
        rw [Nat.zero_add] at hc hd
        have ho1 := hyx.ones
        have ho2 := hyy.ones
        have HC := Lib.hid hc
        have HDD := Lib.hid hd
        have HO1 := Lib.hid ho1
        have HO2 := Lib.hid ho2
        have HF := Lib.hid (fun W (hb : Below w.heap.size w W) => HH.out _ hmem y _ _ W (hyx.below hb) (hyy.below hb))
        have hbs := HW.out.size
        clear hc hd ho1 ho2 hyx hyy hmem hx hy
        have HW1 : Hid (Below w.heap.size w (wr.alloc (.cells #[c0, c1, c2, c3, c4] 34))) := HW.out.alloc hbs _
        have HW2 : Hid (Below w.heap.size w ((wr.alloc (.cells #[c0, c1, c2, c3, c4] 34)).alloc (.cells #[d0, d1, d2, d3, d4] 34))) := HW1.out.alloc (by simp; omega) _
        have K1 : Hid (Blk ((wr.alloc (.cells #[c0, c1, c2, c3, c4] 34)).alloc (.cells #[d0, d1, d2, d3, d4] 34)) wr.heap.size 34 #[c0, c1, c2, c3, c4]) := (Blk.new wr _ _).kept (World.grownBy_alloc _ _ none) (by simp)
        have K2 : Hid (Blk ((wr.alloc (.cells #[c0, c1, c2, c3, c4] 34)).alloc (.cells #[d0, d1, d2, d3, d4] 34)) (wr.heap.size + 1) 34 #[d0, d1, d2, d3, d4]) := by
          have := Blk.new (wr.alloc (.cells #[c0, c1, c2, c3, c4] 34)) 34 #[d0, d1, d2, d3, d4]
          rw [World.size_alloc] at this
          exact this
        obtain ⟨Z, hZ⟩ : ∃ Z, sameY x y = Z := ⟨_, rfl⟩
        rw [hZ] at HD HF
        clear hZ
        cases Z
        · have HBF : Hid (false = B) := by have h1 := HA.out; rw [HD.out, Bool.false_and] at h1; exact h1
          clear HA HD
          go_wp2_with (first
            | (refine boxLoad 34 5 size5 Try.underlying34 rfl _ rfl (wr.heap.size) rfl (cs := [c0, c1, c2, c3, c4]) K1.out rfl ?_)
            | (refine boxLoad 34 5 size5 Try.underlying34 rfl _ rfl (wr.heap.size + 1) rfl (cs := [d0, d1, d2, d3, d4]) K2.out rfl ?_)
            | (refine boxLoadG 34 5 size5 Try.underlying34 rfl _ rfl _ rfl (cs := [c0, c1, c2, c3, c4]) (fun i v h => (HW.out.cell (World.block_lt_of_cell? _ _ (HC.out i v h))).trans (HC.out i v h)) rfl ?_)
            | (refine boxLoadG 34 5 size5 Try.underlying34 rfl _ rfl _ rfl (cs := [d0, d1, d2, d3, d4]) (fun i v h => (HW1.out.cell (World.block_lt_of_cell? _ _ (HDD.out i v h))).trans (HDD.out i v h)) rfl ?_)
            | (refine boxNew 34 5 size5 rfl _ _ rfl rfl [c0, c1, c2, c3, c4] rfl rfl rfl HO1.out ?_)
            | (refine boxNewAt 34 5 size5 rfl _ _ rfl (wr.heap.size + 1) (World.size_alloc _ _) rfl [d0, d1, d2, d3, d4] rfl rfl rfl HO2.out ?_)
            | (refine (HF.out _ HW2.out).mono ?_; rintro e w5 ⟨rfl, hb⟩; have HB5 : Hid (Below w.heap.size w w5) := HW2.out.trans (hb.mono HW2.out.size); clear hb))
          go_ret
          exact ⟨by rw [← HBF.out]; rfl, HB5.out⟩
        · have HBT : Hid (sameYs (l.drop (j + 1)) (q.drop (j + 1)) = B) := by have h1 := HA.out; rw [HD.out, Bool.true_and] at h1; exact h1
          clear HA HD
          go_wp2_with (first
            | (refine boxLoad 34 5 size5 Try.underlying34 rfl _ rfl (wr.heap.size) rfl (cs := [c0, c1, c2, c3, c4]) K1.out rfl ?_)
            | (refine boxLoad 34 5 size5 Try.underlying34 rfl _ rfl (wr.heap.size + 1) rfl (cs := [d0, d1, d2, d3, d4]) K2.out rfl ?_)
            | (refine boxLoadG 34 5 size5 Try.underlying34 rfl _ rfl _ rfl (cs := [c0, c1, c2, c3, c4]) (fun i v h => (HW.out.cell (World.block_lt_of_cell? _ _ (HC.out i v h))).trans (HC.out i v h)) rfl ?_)
            | (refine boxLoadG 34 5 size5 Try.underlying34 rfl _ rfl _ rfl (cs := [d0, d1, d2, d3, d4]) (fun i v h => (HW1.out.cell (World.block_lt_of_cell? _ _ (HDD.out i v h))).trans (HDD.out i v h)) rfl ?_)
            | (refine boxNew 34 5 size5 rfl _ _ rfl rfl [c0, c1, c2, c3, c4] rfl rfl rfl HO1.out ?_)
            | (refine boxNewAt 34 5 size5 rfl _ _ rfl (wr.heap.size + 1) (World.size_alloc _ _) rfl [d0, d1, d2, d3, d4] rfl rfl rfl HO2.out ?_)
            | (refine (HF.out _ HW2.out).mono ?_; rintro e w5 ⟨rfl, hb⟩; have HB5 : Hid (Below w.heap.size w w5) := HW2.out.trans (hb.mono HW2.out.size); clear hb))
          case roundEnd => exact ⟨⟨j + 1, by push_cast; rfl, hj, HBT, HB5⟩, by simp [RowKit.intOf]; omega⟩
      · have hj' : ¬ ((j : Int) < (n : Int)) := by omega
        have hA := HA.out
        rw [List.drop_of_length_le (by rw [HN.out]; omega), List.drop_of_length_le (by rw [HM.out]; omega), sameYs] at hA
        subst hA
        go_wp2
        go_ret
        exact ⟨rfl, HW.out⟩
  · have hB : sameYs l q = false := sames_len (by omega)
    rw [hB]
    have hne : ¬ ((n : Int) = (m : Int)) := by omega
    clear hB h h' H hn hm
    go_enter Try.func52, Try.ntmps52
    go_wp2
    go_ret
    exact ⟨rfl, Below.refl _ _⟩
end Go.Proofs.Ytlakmniaocpaaaa
