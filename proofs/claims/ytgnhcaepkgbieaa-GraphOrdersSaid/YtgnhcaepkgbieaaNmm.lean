/-
  The document's own look at what a package reaches; who is cyclic. Condition: at most a thousand packages.
-/
import Derived.Test.YtgnhcaepkgbieaaNml
import Derived.ArgAppend
import Derived.Laws.IdiomCopy
namespace Go.Proofs.Ytgnhcaepkgbieaa
open Go.RowKit

/-! ### a row that begins somewhere in a block of the call's own -/
structure Off (w : World) (base g k n cap : Nat) (xs : List ByteArray) : Prop where
  ge : base ≤ g
  len : xs.length = n
  le : n ≤ cap
  at_ : ∀ (i : Nat) (s : ByteArray), xs[i]? = some s → w.cell? ⟨g, k + i, none⟩ = some (.string s)
  there : ∀ j, j < cap → (w.cell? ⟨g, k + j, none⟩).isSome = true ∧ w.frozen? ⟨g, k + j, none⟩ = false
def OffV (w : World) (base : Nat) (v : Value) (n : Nat) (xs : List ByteArray) : Prop := (v = .slice none 0 0 ∧ n = 0 ∧ xs = []) ∨ ∃ g k cap, v = .slice (some ⟨g, k, none⟩) n cap ∧ Off w base g k n cap xs
theorem Off.below {w w' : World} {base g k n cap : Nat} {xs : List ByteArray} (h : Off w base g k n cap xs) (hb : Below w.heap.size w w') : Off w' base g k n cap xs :=
  ⟨h.ge, h.len, h.le, fun i s hs => by
    have := h.at_ i s hs
    exact (hb.cell (World.block_lt_of_cell? _ _ this)).trans this, fun j hj => by
    obtain ⟨h1, h2⟩ := h.there j hj
    obtain ⟨u, hu⟩ := Option.isSome_iff_exists.1 h1
    have hl := World.block_lt_of_cell? _ _ hu
    refine ⟨by rw [hb.cell hl]; exact h1, ?_⟩
    exact (World.frozen?_of_block (a := ⟨g, k + j, none⟩) (hb.block g hl)).trans h2⟩
theorem Off.lt {w : World} {base g k n cap : Nat} {xs : List ByteArray} (h : Off w base g k n cap xs) (hc : 0 < cap) : g < w.heap.size := by
  obtain ⟨u, hu⟩ := Option.isSome_iff_exists.1 (h.there 0 hc).1
  exact World.block_lt_of_cell? _ _ hu
theorem OffV.below {w w' : World} {base n : Nat} {v : Value} {xs : List ByteArray} (h : OffV w base v n xs) (hb : Below w.heap.size w w') : OffV w' base v n xs := by
  rcases h with h | ⟨g, k, cap, e, h⟩
  · exact .inl h
  · exact .inr ⟨g, k, cap, e, h.below hb⟩
theorem Off.names {w : World} {base g k n cap : Nat} {xs : List ByteArray} (h : Off w base g k n cap xs) : AtS w (some ⟨g, k, none⟩) xs := fun i s hs => by
  refine ⟨_, rfl, ?_⟩
  have e : (⟨g, k, none⟩ : Addr).add i = ⟨g, k + i, none⟩ := by unfold Addr.add; split <;> simp_all
  rw [e]
  exact h.at_ i s hs
theorem Off.tail {w : World} {base g k n cap : Nat} {x : ByteArray} {xs : List ByteArray} (h : Off w base g k (n + 1) cap (x :: xs)) : Off w base g (k + 1) n (cap - 1) xs := by
  have hle := h.le
  refine ⟨h.ge, by have := h.len; simpa using this, by omega, fun i s hs => ?_, fun j hj => ?_⟩
  · have := h.at_ (i + 1) s (by simpa using hs)
    rwa [show k + (i + 1) = k + 1 + i by omega] at this
  · have := h.there (j + 1) (by omega)
    rwa [show k + (j + 1) = k + 1 + j by omega] at this
theorem OffV.of_own {w : World} {base n : Nat} {v : Value} {xs : List ByteArray} (h : w.ownsRow base 9 1 v n (sC xs)) (hn : xs.length = n) : OffV w base v n xs := by
  rcases h.2 with ⟨hv, h0⟩ | ⟨g, cap, cur, hv, hg, hb, hnc, hcm, hcs, htk⟩
  · subst h0
    exact .inl ⟨hv, rfl, List.length_eq_zero_iff.1 hn⟩
  · subst hv
    refine .inr ⟨g, 0, cap, rfl, hg, hn, hnc, fun i s hs => ?_, fun j hj => ?_⟩
    · rw [Nat.zero_add, h.cellAt i (by have := (List.getElem?_eq_some_iff.1 hs).1; omega)]
      unfold sC
      rw [List.getElem?_map, hs]
      rfl
    · rw [Nat.zero_add]
      refine ⟨?_, by simp [World.frozen?, hb]⟩
      simp only [World.cell?, hb]
      have : j < cur.size := by omega
      simp [this]
/-- An append of names onto such a row. -/
theorem run_append_off (w : World) (base : Nat) (ty : TypeId) (v : Value) (n : Nat) (xs : List ByteArray) (hv : OffV w base v n xs) (o : Option Addr) (m c b2 : Nat) (ys : List ByteArray) (hy : w.ownsRow b2 9 1 (.slice o m c) m (sC ys)) (hl : ys.length = m) (hb : base ≤ w.heap.size) (hn : n + m ≤ 100000000) :
    ∃ o' c' w', (Builtin.append_ #[25, 25] ty #[v, .slice o m c]).run Try.prog w = .ok (.slice o' (n + m) c') w' ∧ OffV w' base (.slice o' (n + m) c') (n + m) (xs ++ ys) ∧
      Turn (fun i => v.ownBlock = some i) w w' ∧ (∀ i, (Value.slice o' (n + m) c').ownBlock = some i → v.ownBlock = some i ∨ (w.heap.size ≤ i ∧ i < w'.heap.size)) := by
  obtain ⟨i0, hi, hz0, hz1, hz2⟩ := info9
  rcases hv with ⟨rfl, rfl, rfl⟩ | ⟨g, k, cap, rfl, hO⟩
  · by_cases h0 : o = none
    · subst h0
      have hm0 : m = 0 ∧ c = 0 := by
        rcases hy.2 with ⟨e, _⟩ | ⟨g, _, _, e, _⟩
        · simp only [Value.slice.injEq] at e; exact ⟨e.2.1, e.2.2⟩
        · simp at e
      obtain ⟨rfl, rfl⟩ := hm0
      obtain rfl : ys = [] := List.length_eq_zero_iff.1 hl
      exact ⟨none, 0, w, run_append_owned_none (P := Try.prog) w base 25 ty 9 i0 1 Try.underlying25 hi (.slice none 0 0) 0 [] (World.ownsRow_nil _ _ _ _), .inl ⟨rfl, rfl, rfl⟩, Turn.refl _ _, fun i hi => (by cases hi)⟩
    · obtain ⟨a, ha⟩ := Option.ne_none_iff_exists'.1 h0
      subst ha
      obtain ⟨g2, hg2⟩ : ∃ g2, a = ⟨g2, 0, none⟩ := by
        rcases hy.2 with ⟨e, _⟩ | ⟨g, _, _, e, _⟩
        · simp at e
        · simp only [Value.slice.injEq, Option.some.injEq] at e; exact ⟨g, e.1⟩
      subst hg2
      obtain ⟨v', w', hrun, r1, hg, _⟩ := run_append_own (P := Try.prog) w w.heap.size 25 ty 9 i0 (.string ⟨#[]⟩) 1 16 Try.underlying25 hi hz0 hz1 hz2 rfl (by decide) (.slice none 0 0) 0 [] (World.ownsRow_nil _ _ _ _) ⟨g2, 0, none⟩ m c (sC ys) (by rw [sC_len, hl])
        (fun j u hu => sC_cell (own_names_n hy hl) j u hu) (sC_one ys) (by unfold maxLen; omega) (by omega) (Nat.le_refl _)
      rw [Nat.zero_add, List.nil_append] at r1
      have hsl : ∃ o' c', v' = .slice o' m c' := by
        rcases r1.2 with ⟨e, h0⟩ | ⟨g, cap, _, e, _⟩
        · exact ⟨none, 0, by rw [e, h0]⟩
        · exact ⟨_, _, e⟩
      obtain ⟨o', c', rfl⟩ := hsl
      refine ⟨o', c', w', by rw [Nat.zero_add]; exact hrun, ?_, (Turn.of_grown hg).mono fun i _ h => (by cases h), fun i hi => .inr ?_⟩
      · rw [Nat.zero_add, List.nil_append]
        exact OffV.of_own (row_low r1 hb) hl
      · rw [Nat.zero_add] at hi
        exact r1.lt i hi
  · by_cases h0 : o = none
    · subst h0
      have hm0 : m = 0 ∧ c = 0 := by
        rcases hy.2 with ⟨e, _⟩ | ⟨g, _, _, e, _⟩
        · simp only [Value.slice.injEq] at e; exact ⟨e.2.1, e.2.2⟩
        · simp at e
      obtain ⟨rfl, rfl⟩ := hm0
      obtain rfl : ys = [] := List.length_eq_zero_iff.1 hl
      refine ⟨some ⟨g, k, none⟩, cap, w, ?_, by rw [List.append_nil]; exact .inr ⟨g, k, cap, rfl, hO⟩, Turn.refl _ _, fun i hi => .inl hi⟩
      have hle := hO.le
      simp [Builtin.append_, run_underlying Try.underlying25, sizeOf, typeInfo, hi, Builtin.lenOf, Builtin.firstCells, hle, storeCells]
    · obtain ⟨a, ha⟩ := Option.ne_none_iff_exists'.1 h0
      subst ha
      obtain ⟨g2, hg2⟩ : ∃ g2, a = ⟨g2, 0, none⟩ := by
        rcases hy.2 with ⟨e, _⟩ | ⟨g, _, _, e, _⟩
        · simp at e
        · simp only [Value.slice.injEq, Option.some.injEq] at e; exact ⟨g, e.1⟩
      subst hg2
      have hnews : ∀ j u, (sC ys)[j]? = some u → w.cell? ((⟨g2, 0, none⟩ : Addr).add j) = some u := fun j u hu => sC_cell (own_names_n hy hl) j u hu
      by_cases hroom : n + m ≤ cap
      · have hsl : (sC ys).length = m := by rw [sC_len, hl]; omega
        have hrun := run_append_room_cells (P := Try.prog) w 25 ty 9 i0 Try.underlying25 hi g k n cap ⟨g2, 0, none⟩ m c (sC ys) (by rw [hz1, hsl]; omega) hnews (sC_one ys) hroom
          (fun j hj => by rw [hz1, Nat.mul_one, Nat.add_assoc]; exact (hO.there (n + j) (by omega)).1) (fun j hj => by rw [hz1, Nat.mul_one, Nat.add_assoc]; exact (hO.there (n + j) (by omega)).2)
        rw [hz1, Nat.mul_one] at hrun
        have hIn : ∀ j, j < (sC ys).length → (w.cell? ⟨g, k + n + j, none⟩).isSome = true := fun j hj => by rw [Nat.add_assoc]; exact (hO.there (n + j) (by omega)).1
        refine ⟨some ⟨g, k, none⟩, cap, _, hrun, .inr ⟨g, k, cap, rfl, hO.ge, by rw [List.length_append, hO.len, hl], hroom, fun i s hs => ?_, fun j hj => ?_⟩, ?_, fun i hi => .inl hi⟩
        · by_cases hi' : i < n
          · rw [List.getElem?_append_left (by rw [hO.len]; exact hi')] at hs
            rw [World.cell?_setCells_out g (sC ys) (k + n) w ⟨g, k + i, none⟩ (fun _ _ => .inl (by show k + i < k + n; omega))]
            exact hO.at_ i s hs
          · rw [List.getElem?_append_right (by rw [hO.len]; omega), hO.len] at hs
            have hlt : i - n < ys.length := (List.getElem?_eq_some_iff.1 hs).1
            have := World.cell?_setCells_in g (sC ys) (k + n) w hIn (i - n) (by rw [hsl]; omega)
            rw [show k + n + (i - n) = k + i by omega] at this
            rw [this]
            have h2 : (sC ys)[i - n]? = some (.string s) := by unfold sC; rw [List.getElem?_map, hs]; rfl
            rw [List.getElem?_eq_getElem (by rw [hsl]; omega)] at h2
            exact h2
        · obtain ⟨t1, t2⟩ := hO.there j hj
          refine ⟨?_, by rw [World.frozen?_setCells]; exact t2⟩
          by_cases hin : n ≤ j ∧ j < n + m
          · have := World.cell?_setCells_in g (sC ys) (k + n) w hIn (j - n) (by rw [hsl]; omega)
            rw [show k + n + (j - n) = k + j by omega] at this
            rw [this]
            rfl
          · rw [World.cell?_setCells_out g (sC ys) (k + n) w ⟨g, k + j, none⟩ (fun _ _ => by show k + j < k + n ∨ k + n + (sC ys).length ≤ k + j; rw [hsl]; omega)]
            exact t1
        · have go : ∀ (vs : List Value) (q : Nat) (w : World), Turn (fun i => i = g) w (w.setCells g q vs) := by
            intro vs
            induction vs with
            | nil => intro q w; exact Turn.refl _ _
            | cons u r ih => intro q w; exact (Turn.setCell (S := fun i => i = g) (p := ⟨g, q, none⟩) (Turn.refl _ w) (fun _ => rfl) u).trans (ih (q + 1) _)
          exact (go _ _ _).mono fun i _ h => by rw [h]; rfl
      · obtain ⟨v', w', hrun, r1, hg⟩ := run_append_arg_grows (P := Try.prog) w 25 ty 9 i0 (.string ⟨#[]⟩) 1 16 Try.underlying25 hi hz0 hz1 hz2 rfl (by decide) ⟨g, k, none⟩ n cap (sC xs) (by rw [sC_len, hO.len])
          (fun j u hu => sC_cell hO.names j u hu) ⟨g2, 0, none⟩ m c (sC ys) (by rw [sC_len, hl]) hnews (by omega) (by unfold maxLen; omega) (by omega)
        have e : sC xs ++ sC ys = sC (xs ++ ys) := by unfold sC; rw [List.map_append]
        rw [e] at r1
        have hsl : ∃ o' c', v' = .slice o' (n + m) c' := by
          rcases r1.2 with ⟨e, h0⟩ | ⟨g, cap, _, e, _⟩
          · exact ⟨none, 0, by rw [e, h0]⟩
          · exact ⟨_, _, e⟩
        obtain ⟨o', c', rfl⟩ := hsl
        exact ⟨o', c', w', hrun, OffV.of_own (row_low r1 hb) (by rw [List.length_append, hO.len, hl]), (Turn.of_grown hg).mono fun i _ h => (by cases h), fun i hi => .inr (r1.lt i hi)⟩
theorem wpList_append_off {ops : Array Oper} {rest : List Oper} {op : Oper} {a : Act} {w : World} {Q : Exit → Act → World → Prop} (hgd : op.guard = none) (s x : Operand)
    (ho : op.op = .call { callee := .builtin .append, args := #[s, x], argTypes := #[25, 25] }) (base : Nat) (v : Value) (n : Nat) (xs : List ByteArray) (hs : a.eval s = v) (hv : OffV w base v n xs) (o : Option Addr) (m c b2 : Nat) (ys : List ByteArray) (hx : a.eval x = .slice o m c) (hy : w.ownsRow b2 9 1 (.slice o m c) m (sC ys)) (hl : ys.length = m)
    (hb : base ≤ w.heap.size) (hn : n + m ≤ 100000000)
    (h : ∀ o' c' w', OffV w' base (.slice o' (n + m) c') (n + m) (xs ++ ys) → Turn (fun i => v.ownBlock = some i) w w' → (∀ i, (Value.slice o' (n + m) c').ownBlock = some i → v.ownBlock = some i ∨ (w.heap.size ≤ i ∧ i < w'.heap.size)) → wpList Try.prog ops Q rest (a.put op.dst (.slice o' (n + m) c')) w') : wpList Try.prog ops Q (op :: rest) a w := by
  refine wpList_plain hgd fun K hK => ?_
  obtain ⟨o', c', w', hrun, r1, r2, r3⟩ := run_append_off w base op.type v n xs hv o m c b2 ys hy hl hb hn
  unfold Oper.wp
  simp [execOp, ho, resolve, invoke, builtin, hs, hx, hrun, Result.andThen]
  exact hK _ _ (h o' c' w' r1 r2 r3)

end Go.Proofs.Ytgnhcaepkgbieaa
