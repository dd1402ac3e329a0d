/-
  Types in memory (any form, hand-made ones too); an argument that is a type or a list of types, opened. No condition.
-/
import Derived.Test.YtmnhilgifjaocaaTma
import Derived.Test.YtmnhilgifjaocaaTyb
namespace Go.Proofs.Ytmnhilgifjaocaa
open Go.RowKit
open Go.ChangeShapes Go.WideShapes Go.Deep

mutual
/-- A value is such a type. -/
def IsY (w : World) : GY → Value → Prop
  | .mk k p m n args, v => ∃ (o : Option Addr) (c : Nat), v = .agg #[.int .i64 k, .string p, .string m, .int .i64 n, .slice o args.length c] ∧ args.length ≤ c ∧ c ≤ maxLen ∧ IsYs w o 0 args
def IsYs (w : World) (o : Option Addr) : Nat → List GY → Prop
  | _, [] => True
  | i, y :: r => (∃ (a : Addr) (c0 c1 c2 c3 c4 : Value), o = some a ∧ w.cell? (a.add (i * 5)) = some c0 ∧ w.cell? (a.add (i * 5 + 1)) = some c1 ∧ w.cell? (a.add (i * 5 + 2)) = some c2 ∧ w.cell? (a.add (i * 5 + 3)) = some c3 ∧ w.cell? (a.add (i * 5 + 4)) = some c4 ∧
      IsY w y (.agg #[c0, c1, c2, c3, c4])) ∧ IsYs w o (i + 1) r
end

mutual
theorem IsY.keep {w w' : World} (hk : ∀ (a : Addr) (u : Value), w.cell? a = some u → w'.cell? a = some u) : ∀ {x : GY} {v : Value}, IsY w x v → IsY w' x v
  | .mk .., _, h => by
    unfold IsY at h ⊢
    obtain ⟨o, c, hv, hl, hc, ha⟩ := h
    exact ⟨o, c, hv, hl, hc, IsYs.keep hk ha⟩
theorem IsYs.keep {w w' : World} (hk : ∀ (a : Addr) (u : Value), w.cell? a = some u → w'.cell? a = some u) : ∀ {i : Nat} {xs : List GY} {o : Option Addr}, IsYs w o i xs → IsYs w' o i xs
  | _, [], _, _ => by unfold IsYs; trivial
  | i, y :: r, _, h => by
    unfold IsYs at h ⊢
    obtain ⟨⟨a, c0, c1, c2, c3, c4, ho, h0, h1, h2, h3, h4, hy⟩, hr⟩ := h
    exact ⟨⟨a, c0, c1, c2, c3, c4, ho, hk _ _ h0, hk _ _ h1, hk _ _ h2, hk _ _ h3, hk _ _ h4, IsY.keep hk hy⟩, IsYs.keep hk hr⟩
end
theorem IsY.below {w w' : World} {x : GY} {v : Value} (h : IsY w x v) (hb : Below w.heap.size w w') : IsY w' x v :=
  h.keep fun _ _ hc => (hb.cell (World.block_lt_of_cell? _ _ hc)).trans hc
theorem IsYs.below {w w' : World} {o : Option Addr} {i : Nat} {xs : List GY} (h : IsYs w o i xs) (hb : Below w.heap.size w w') : IsYs w' o i xs :=
  h.keep fun _ _ hc => (hb.cell (World.block_lt_of_cell? _ _ hc)).trans hc
theorem IsY.parts {w : World} {k n : Int} {p m : ByteArray} {args : List GY} {v : Value} (h : IsY w (.mk k p m n args) v) : ∃ (o : Option Addr) (c : Nat), v = .agg #[.int .i64 k, .string p, .string m, .int .i64 n, .slice o args.length c] ∧ args.length ≤ c ∧ c ≤ maxLen ∧ IsYs w o 0 args := by
  unfold IsY at h; exact h
theorem IsY.of {w : World} {k n : Int} {p m : ByteArray} {args : List GY} {o : Option Addr} {c : Nat} (h1 : args.length ≤ c) (h2 : c ≤ maxLen) (h3 : IsYs w o 0 args) : IsY w (.mk k p m n args) (.agg #[.int .i64 k, .string p, .string m, .int .i64 n, .slice o args.length c]) := by
  unfold IsY; exact ⟨o, c, rfl, h1, h2, h3⟩
theorem IsYs.nil (w : World) (o : Option Addr) (i : Nat) : IsYs w o i [] := by unfold IsYs; trivial
/-- The cells of an element, by its place. -/
theorem row5 {w : World} {a : Addr} {b : Nat} {c0 c1 c2 c3 c4 : Value} (h0 : w.cell? (a.add b) = some c0) (h1 : w.cell? (a.add (b + 1)) = some c1) (h2 : w.cell? (a.add (b + 2)) = some c2) (h3 : w.cell? (a.add (b + 3)) = some c3) (h4 : w.cell? (a.add (b + 4)) = some c4) :
    ∀ (j : Nat) (v : Value), [c0, c1, c2, c3, c4][j]? = some v → w.cell? ((a.add b).add j) = some v := by
  intro j v h
  rw [add_more']
  match j, h with
  | 0, h => cases h; exact h0
  | 1, h => cases h; exact h1
  | 2, h => cases h; exact h2
  | 3, h => cases h; exact h3
  | 4, h => cases h; exact h4
  | j + 5, h => simp at h
/-- One element. -/
theorem IsYs.at_ {w : World} {o : Option Addr} : ∀ {xs : List GY} {i : Nat} (k : Nat) {y : GY}, IsYs w o i xs → xs[k]? = some y →
    ∃ (a : Addr) (c0 c1 c2 c3 c4 : Value), o = some a ∧ (∀ (j : Nat) (v : Value), [c0, c1, c2, c3, c4][j]? = some v → w.cell? ((a.add ((i + k) * 5)).add j) = some v) ∧ IsY w y (.agg #[c0, c1, c2, c3, c4])
  | [], _, _, _, _, h => by simp at h
  | x :: r, i, 0, y, h, hy => by
    simp at hy; subst hy
    unfold IsYs at h
    obtain ⟨⟨a, c0, c1, c2, c3, c4, ho, h0, h1, h2, h3, h4, hy⟩, _⟩ := h
    exact ⟨a, c0, c1, c2, c3, c4, ho, row5 h0 h1 h2 h3 h4, hy⟩
  | x :: r, i, k + 1, y, h, hy => by
    unfold IsYs at h
    have := IsYs.at_ (i := i + 1) k h.2 (by simpa using hy)
    rwa [show i + 1 + k = i + (k + 1) by omega] at this
/-- A list out of its elements. -/
theorem IsYs.mk' {w : World} {a : Addr} : ∀ {xs : List GY} {i : Nat}, (∀ (k : Nat) (y : GY), xs[k]? = some y → ∃ c0 c1 c2 c3 c4 : Value, (∀ (j : Nat) (v : Value), [c0, c1, c2, c3, c4][j]? = some v → w.cell? (a.add ((i + k) * 5 + j)) = some v) ∧ IsY w y (.agg #[c0, c1, c2, c3, c4])) → IsYs w (some a) i xs
  | [], i, _ => IsYs.nil _ _ _
  | y :: r, i, h => by
    unfold IsYs
    obtain ⟨c0, c1, c2, c3, c4, hc, hy⟩ := h 0 y rfl
    rw [Nat.add_zero] at hc
    refine ⟨⟨a, c0, c1, c2, c3, c4, rfl, hc 0 _ rfl, hc 1 _ rfl, hc 2 _ rfl, hc 3 _ rfl, hc 4 _ rfl, hy⟩, IsYs.mk' fun k z hz => ?_⟩
    have := h (k + 1) z (by simpa using hz)
    rwa [show i + (k + 1) = i + 1 + k by omega] at this
/-- The cells of a type. -/
theorem IsY.cells {w : World} {x : GY} {v : Value} (h : IsY w x v) : ∃ cs : List Value, v = .agg cs.toArray ∧ cs.length = 5 ∧ cs.all (·.oneCell') = true := by
  obtain ⟨k, p, m, n, args⟩ := x
  obtain ⟨o, c, rfl, _⟩ := h.parts
  exact ⟨_, rfl, rfl, rfl⟩
theorem IsY.ones {w : World} {x : GY} {c0 c1 c2 c3 c4 : Value} (h : IsY w x (.agg #[c0, c1, c2, c3, c4])) : ([c0, c1, c2, c3, c4] : List Value).all (·.oneCell') = true := by
  obtain ⟨k, p, m, n, args⟩ := x
  obtain ⟨o, c, hv, _⟩ := h.parts
  simp only [Value.agg.injEq, Array.mk.injEq, List.cons.injEq, and_true] at hv
  obtain ⟨rfl, rfl, rfl, rfl, rfl⟩ := hv
  rfl
theorem size5 : (Try.prog.info? 29).map (·.size) = some 5 := by kernel_rfl

/-- A box that was made last, stored whole. -/
theorem boxNewAt {ops : Array Oper} {rest : List Oper} {o : Oper} {a : Act} {w : World} {Q : Exit → Act → World → Prop} (T : TypeId) (n : Nat) (hi : (Try.prog.info? T).map (·.size) = some n) (hgd : o.guard = none) (x y : Operand) (ho : o.op = .store T x y) {t : TypeId} {old : Array Value} (g : Nat) (hgw : w.heap.size = g) (hx : a.eval x = .pointer (some ⟨g, 0, none⟩)) (cs : List Value) (hy : a.eval y = .agg cs.toArray) (hold : old.size = n) (hs : cs.length = n) (h1 : cs.all (·.oneCell') = true)
    (h : wpList Try.prog ops Q rest (a.put o.dst undef) (w.alloc (.cells cs.toArray t))) : wpList Try.prog ops Q (o :: rest) a (w.alloc (.cells old t)) := by
  subst hgw
  exact boxNew T n hi hgd x y ho hx cs hy hold hs h1 h

mutual
/-- No name is longer than so, no list has more elements. -/
def FitY (q : Nat) : GY → Prop
  | .mk _ p m _ args => p.size ≤ q ∧ m.size ≤ q ∧ args.length * 72 ≤ q ∧ FitYs q args
def FitYs (q : Nat) : List GY → Prop
  | [] => True
  | y :: r => FitY q y ∧ FitYs q r
end
theorem FitYs.mem {q : Nat} : ∀ {l : List GY}, FitYs q l → ∀ y ∈ l, FitY q y
  | [], _, _, h => by cases h
  | x :: r, h, y, hy => by
    unfold FitYs at h
    rcases List.mem_cons.1 hy with rfl | hy
    · exact h.1
    · exact FitYs.mem h.2 y hy

/-- The elements of a list, one by one. -/
theorem ys_of {w : World} {a : Addr} {Q : Nat → Prop} : ∀ (n i : Nat), (∀ j, i ≤ j → j < i + n → ∃ (c0 c1 c2 c3 c4 : Value) (y : GY), w.cell? (a.add (j * 5)) = some c0 ∧ w.cell? (a.add (j * 5 + 1)) = some c1 ∧ w.cell? (a.add (j * 5 + 2)) = some c2 ∧ w.cell? (a.add (j * 5 + 3)) = some c3 ∧ w.cell? (a.add (j * 5 + 4)) = some c4 ∧
      IsY w y (.agg #[c0, c1, c2, c3, c4]) ∧ ∀ q, Q q → FitY q y) → ∃ xs : List GY, xs.length = n ∧ IsYs w (some a) i xs ∧ ∀ q, Q q → FitYs q xs
  | 0, i, _ => ⟨[], rfl, IsYs.nil _ _ _, fun _ _ => by unfold FitYs; trivial⟩
  | n + 1, i, h => by
    obtain ⟨c0, c1, c2, c3, c4, y, h0, h1, h2, h3, h4, hy, hf⟩ := h i (Nat.le_refl _) (by omega)
    obtain ⟨xs, hl, hx, hg⟩ := ys_of (Q := Q) n (i + 1) fun j h1 h2 => h j (by omega) (by omega)
    refine ⟨y :: xs, by simp [hl], ?_, fun m hm => ?_⟩
    · unfold IsYs
      exact ⟨⟨a, c0, c1, c2, c3, c4, rfl, h0, h1, h2, h3, h4, hy⟩, hx⟩
    · unfold FitYs
      exact ⟨hf m hm, hg m hm⟩

set_option maxRecDepth 100000 in
set_option maxHeartbeats 4000000 in
/-- A type that came in, whatever it is. -/
theorem open_y {H : Type} {enc : TypeId × Value → H} {W : World} {base : Nat} : ∀ (fuel : Nat) (cs : List Value) (x : DataW H × List MemPlace), DataW.trod enc Try.prog W base (fun _ => true) true fuel 29 cs = some x →
    ∃ g : GY, IsY W g (.agg cs.toArray) ∧ ∀ m, (∀ n ∈ x.1.weights Try.prog 29, n ≤ m) → FitY m g := by
  intro fuel
  induction fuel using Nat.strongRecOn with
  | _ fuel ih =>
  intro cs x h
  have hT : Try.prog.cellsOf 29 = 5 := by kernel_rfl
  have h3 : Try.prog.cellsOf 3 = 1 := by kernel_rfl
  have h9 : Try.prog.cellsOf 9 = 1 := by kernel_rfl
  have hS : Try.prog.cellsOf 24 = 1 := by kernel_rfl
  have hB : Try.prog.bytesOf 29 = 72 := by kernel_rfl
  have hu := Try.underlying29
  have hv := Try.underlying24
  obtain ⟨ys, n, hfu, rfl, hlen, hyl, hfld⟩ := DataW.trod_struct hu h
  rw [hT] at hlen
  match cs, hlen, ys, hyl with
  | [u0, u1, u2, u3, u4], _, [y0, y1, y2, y3, y4], _ =>
  have t0 : DataW.trod enc Try.prog W base (fun _ => true) true n 3 [u0] = some y0 := by simpa [h3] using hfld 0 _ rfl
  have t1 : DataW.trod enc Try.prog W base (fun _ => true) true n 9 [u1] = some y1 := by simpa [h9] using hfld 1 _ rfl
  have t2 : DataW.trod enc Try.prog W base (fun _ => true) true n 9 [u2] = some y2 := by simpa [h9] using hfld 2 _ rfl
  have t3 : DataW.trod enc Try.prog W base (fun _ => true) true n 3 [u3] = some y3 := by simpa [h3] using hfld 3 _ rfl
  have t4 : DataW.trod enc Try.prog W base (fun _ => true) true n 24 [u4] = some y4 := by simpa [hS] using hfld 4 _ rfl
  obtain ⟨n0, f0, g0, _⟩ := DataW.trod_int Try.underlying3 t0
  obtain ⟨s1, f1, g1, _⟩ := DataW.trod_string Try.underlying9 t1
  obtain ⟨s2, f2, g2, _⟩ := DataW.trod_string Try.underlying9 t2
  obtain ⟨n3, f3, g3, _⟩ := DataW.trod_int Try.underlying3 t3
  simp only [List.cons.injEq, and_true] at f0 f1 f2 f3
  subst f0; subst f1; subst f2; subst f3; subst g0; subst g1; subst g2; subst g3
  have e1 : s1.data.toList.length = s1.size := by rw [Array.length_toList]; rfl
  have e2 : s2.data.toList.length = s2.size := by rw [Array.length_toList]; rfl
  rcases open_fuel hv t4 with ⟨f4, rfl⟩ | ⟨a, cap, n', ds, rest, hn', f4, hx, hcl, hcm, hel⟩
  · simp only [List.cons.injEq, and_true] at f4
    subst f4
    refine ⟨.mk n0 s1 s2 n3 [], IsY.of (by simp) (by simp) (IsYs.nil _ _ _), fun m hm => ?_⟩
    unfold FitY
    simp only [DataW.weights, hu, List.map_cons, List.map_nil, DataW.weightsEach, List.mem_append] at hm
    refine ⟨?_, ?_, by simp, by unfold FitYs; trivial⟩
    · exact e1 ▸ hm _ (by simp)
    · exact e2 ▸ hm _ (by simp)
  · simp only [List.cons.injEq, and_true] at f4
    subst f4
    obtain ⟨d4, p4⟩ := y4
    subst hx
    have key := ys_of (w := W) (a := a) (Q := fun m => ∀ n ∈ DataW.weightsAll Try.prog 29 ds, n ≤ m) ds.length 0 (by
      intro j _ hj
      obtain ⟨d, hd⟩ : ∃ d, ds[j]? = some d := ⟨_, List.getElem?_eq_getElem (by omega)⟩
      obtain ⟨cs', pl, hc, ht⟩ := hel j d hd
      rw [hT] at hc
      obtain ⟨_, hlen', hat⟩ := World.cells?_some hc
      obtain ⟨y, hy, hf⟩ := ih n' (by omega) cs' _ ht
      match cs', hlen', hat, hy with
      | [v0, v1, v2, v3, v4], _, hat, hy =>
        have c0 := hat 0 (by decide)
        have c1 := hat 1 (by decide)
        have c2 := hat 2 (by decide)
        have c3 := hat 3 (by decide)
        have c4 := hat 4 (by decide)
        rw [add_more'] at c0 c1 c2 c3 c4
        simp only [List.getElem?_cons_zero, List.getElem?_cons_succ] at c0 c1 c2 c3 c4
        exact ⟨v0, v1, v2, v3, v4, y, c0, c1, c2, c3, c4, hy, fun m hm => hf m fun n hn => hm n (weightsAll_mem' (List.mem_of_getElem? hd) hn)⟩)
    obtain ⟨xs, hl, hx, hg⟩ := key
    refine ⟨.mk n0 s1 s2 n3 xs, ?_, fun m hm => ?_⟩
    · have := IsY.of (k := n0) (p := s1) (m := s2) (n := n3) (args := xs) (o := some a) (c := cap) (by omega) hcm hx
      rwa [hl] at this
    · unfold FitY
      simp only [DataW.weights, hu, hv, List.map_cons, List.map_nil, DataW.weightsEach, List.mem_append] at hm
      refine ⟨?_, ?_, ?_, hg m fun n hn => hm n (by simp [hn])⟩
      · exact e1 ▸ hm _ (by simp)
      · exact e2 ▸ hm _ (by simp)
      · have := hm ((ds.length + rest.length) * Try.prog.bytesOf 29) (by simp)
        rw [hB] at this
        omega

set_option maxRecDepth 100000 in
set_option maxHeartbeats 4000000 in
/-- A list of types that came in. -/
theorem open_ys {H : Type} {enc : TypeId × Value → H} {W : World} {base : Nat} {fuel : Nat} {cs : List Value} {d : DataW H} {pl : List MemPlace} (h : DataW.trod enc Try.prog W base (fun _ => true) true fuel 24 cs = some (d, pl)) :
    ∃ (o : Option Addr) (l : List GY) (c : Nat), cs = [.slice o l.length c] ∧ l.length ≤ c ∧ c ≤ maxLen ∧ IsYs W o 0 l ∧ ∀ m, (∀ n ∈ d.weights Try.prog 24, n ≤ m) → FitYs m l ∧ l.length * 72 ≤ m := by
  have hT : Try.prog.cellsOf 29 = 5 := by kernel_rfl
  have hB : Try.prog.bytesOf 29 = 72 := by kernel_rfl
  have hv := Try.underlying24
  rcases open_fuel hv h with ⟨f4, hx⟩ | ⟨a, cap, n', ds, rest, hn', f4, hx, hcl, hcm, hel⟩
  · subst f4
    exact ⟨none, [], 0, rfl, by simp, by simp, IsYs.nil _ _ _, fun m _ => ⟨by unfold FitYs; trivial, by simp⟩⟩
  · subst f4
    simp only at hx
    subst hx
    have key := ys_of (w := W) (a := a) (Q := fun m => ∀ n ∈ DataW.weightsAll Try.prog 29 ds, n ≤ m) ds.length 0 (by
      intro j _ hj
      obtain ⟨d, hd⟩ : ∃ d, ds[j]? = some d := ⟨_, List.getElem?_eq_getElem (by omega)⟩
      obtain ⟨cs', pl, hc, ht⟩ := hel j d hd
      rw [hT] at hc
      obtain ⟨_, hlen', hat⟩ := World.cells?_some hc
      obtain ⟨y, hy, hf⟩ := open_y n' cs' _ ht
      match cs', hlen', hat, hy with
      | [v0, v1, v2, v3, v4], _, hat, hy =>
        have c0 := hat 0 (by decide)
        have c1 := hat 1 (by decide)
        have c2 := hat 2 (by decide)
        have c3 := hat 3 (by decide)
        have c4 := hat 4 (by decide)
        rw [add_more'] at c0 c1 c2 c3 c4
        simp only [List.getElem?_cons_zero, List.getElem?_cons_succ] at c0 c1 c2 c3 c4
        exact ⟨v0, v1, v2, v3, v4, y, c0, c1, c2, c3, c4, hy, fun m hm => hf m fun n hn => hm n (weightsAll_mem' (List.mem_of_getElem? hd) hn)⟩)
    obtain ⟨xs, hl, hx, hg⟩ := key
    refine ⟨some a, xs, cap, by rw [hl], by omega, hcm, hx, fun m hm => ?_⟩
    simp only [DataW.weights, hv] at hm
    refine ⟨hg m fun n hn => hm n (by simp [hn]), ?_⟩
    have := hm ((ds.length + rest.length) * Try.prog.bytesOf 29) (by simp)
    rw [hB] at this
    omega

end Go.Proofs.Ytmnhilgifjaocaa
