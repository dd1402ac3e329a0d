/-
  Rows of expressions; an append that tells where the row lies. Condition: at most 2^47 bytes.
-/
import Derived.Test.YtoppknnjnfgbiaaPsi
import Derived.Laws.OwnMore
namespace Go.Proofs.Ytoppknnjnfgbiaa
open Go.RowKit
open Go.Lib hiding intOf

theorem add_none' (g off n : Nat) : (⟨g, off, none⟩ : Addr).add n = ⟨g, off + n, none⟩ := by
  unfold Addr.add
  split
  · next h => rw [h]; rfl
  · rfl
/-- An append onto a row of the call's own, and where the row lies behind it. -/
theorem run_append_tells {P : Program} (w : World) (base : Nat) (t ty e : TypeId) (i : TypeInfo) (z : Value) (size bytes : Nat) (ht : P.underlying t = some (.slice e)) (hi : P.info? e = some i) (hz : i.zero = some z)
    (hsize : i.size = size) (hby : i.bytes = bytes) (hzs : z.cells.size = size) (hsz : 0 < size)
    (v : Value) (n : Nat) (xs : List Value) (hown : w.ownsRow base e size v n xs)
    (a : Addr) (m c : Nat) (news : List Value) (hl : news.length = m * size) (hnews : ∀ j u, news[j]? = some u → w.cell? (a.add j) = some u) (h1 : ∀ u ∈ news, u.oneCell' = true)
    (h63 : n + m ≤ maxLen) (hbytes : (n + m) * bytes ≤ 140737488355328) (hbase : base ≤ w.heap.size) (hm : 0 < m) :
    ∃ v' w', (Builtin.append_ #[t, t] ty #[v, .slice (some a) m c]).run P w = .ok v' w' ∧ w'.ownsRow base e size v' (n + m) (xs ++ news) ∧
      ((∃ cap, v' = .slice (some ⟨w.heap.size, 0, none⟩) (n + m) cap ∧ w.grownBy w' none) ∨ ∃ g cap, v = .slice (some ⟨g, 0, none⟩) n cap ∧ v' = .slice (some ⟨g, 0, none⟩) (n + m) cap ∧ w.grownBy w' (some g)) := by
  obtain ⟨v', w', hrun, r1, r2, _⟩ := run_append_own (P := P) w base t ty e i z size bytes ht hi hz hsize hby hzs hsz v n xs hown a m c news hl hnews h1 h63 hbytes hbase
  refine ⟨v', w', hrun, r1, ?_⟩
  have hlim : n + m ≤ 9223372036854775807 := by simp only [maxLen] at h63; omega
  have fresh : ∀ o : Obj, w.grownBy (w.drew.alloc o) none := fun o => ⟨rfl, rfl, rfl, by simp, fun k hk _ => Below.heap_alloc w.drew _ k hk⟩
  rcases hown.2 with ⟨rfl, rfl⟩ | ⟨g, cap, cur, rfl, hbg, hg, hnc, hcm, hcs, htake⟩
  · have hr := run_append_nil (P := P) w t ty e i z ht hi hz a m c news (by rw [hsize]; exact hl) hnews hm (by omega) (by rw [hby]; have hb := hbytes; simp only [Nat.zero_add] at hb; omega)
    have hh := hrun.symm.trans hr
    injection hh with hv hw
    subst hw
    exact .inl ⟨_, by rw [hv, Nat.zero_add], fresh _⟩
  · by_cases hroom : n + m ≤ cap
    · obtain ⟨w2, hr, _, _⟩ := run_append_fits (P := P) w base t ty e i size ht hi hsize g n cap xs hown a m c news hl hnews h1 hroom
      have hh := hrun.symm.trans hr
      injection hh with hv hw
      exact .inr ⟨g, cap, rfl, hv, r2⟩
    · have hr := run_append_grow (P := P) w t ty e i z ht hi hz ⟨g, 0, none⟩ n cap xs (by rw [hsize]; exact hown.1) (hown.cells (g := g) rfl) a m c news (by rw [hsize]; exact hl) hnews (by omega) (by omega) (by rw [hby]; exact growslice_fits (by omega) hbytes)
      have hh := hrun.symm.trans hr
      injection hh with hv hw
      subst hw
      exact .inl ⟨_, hv, fresh _⟩

/-- Expressions in a row: eleven cells each. -/
def Ch (P : Nat → Prop) (w : World) : List EX → List (List Value) → Prop
  | [], [] => True
  | x :: xs, c :: cs => c.length = 11 ∧ IsEP P w x (.agg c.toArray) ∧ Ch P w xs cs
  | _, _ => False

theorem Ch.len {P : Nat → Prop} {w : World} : ∀ {xs : List EX} {cs : List (List Value)}, Ch P w xs cs → cs.flatten.length = xs.length * 11
  | [], [], _ => rfl
  | x :: xs, c :: cs, h => by
    unfold Ch at h
    rw [List.flatten_cons, List.length_append, h.1, Ch.len h.2.2, List.length_cons]; omega
  | [], _ :: _, h => by unfold Ch at h; exact h.elim
  | _ :: _, [], h => by unfold Ch at h; exact h.elim
theorem Ch.keep {P P' : Nat → Prop} {w w' : World} (hP : ∀ (b i : Nat) (u : Value), P b → w.cell? ⟨b, i, none⟩ = some u → P' b) (hk : ∀ (b i : Nat) (u : Value), P b → w.cell? ⟨b, i, none⟩ = some u → w'.cell? ⟨b, i, none⟩ = some u) : ∀ {xs : List EX} {cs : List (List Value)}, Ch P w xs cs → Ch P' w' xs cs
  | [], [], _ => by unfold Ch; trivial
  | x :: xs, c :: cs, h => by
    unfold Ch at h ⊢
    exact ⟨h.1, h.2.1.keep hP hk, Ch.keep hP hk h.2.2⟩
  | [], _ :: _, h => by unfold Ch at h; exact h.elim
  | _ :: _, [], h => by unfold Ch at h; exact h.elim
theorem Ch.below {P : Nat → Prop} {w w' : World} {xs : List EX} {cs : List (List Value)} (h : Ch P w xs cs) (hb : Below w.heap.size w w') : Ch P w' xs cs :=
  h.keep (fun _ _ _ h _ => h) fun _ _ _ _ hc => (hb.cell (World.block_lt_of_cell? _ _ hc)).trans hc
theorem Ch.mono {P P' : Nat → Prop} {w : World} {xs : List EX} {cs : List (List Value)} (hP : ∀ k, k < w.heap.size → P k → P' k) (h : Ch P w xs cs) : Ch P' w xs cs :=
  h.keep (fun b i _ hb hc => hP b (World.block_lt_of_cell? w ⟨b, i, none⟩ hc) hb) fun _ _ _ _ hc => hc
theorem Ch.kp {P : Nat → Prop} {b : Nat} {w w' : World} {xs : List EX} {cs : List (List Value)} (h : Ch P w xs cs) (hk : Kp b w w') (hb : ¬ P b) : Ch P w' xs cs :=
  h.keep (fun _ _ _ h _ => h) fun k i u hP hc => by
    have e : w'.heap[k]? = w.heap[k]? := hk.block k (World.block_lt_of_cell? w ⟨k, i, none⟩ hc) (fun e => hb (e ▸ hP))
    exact (World.cell?_of_block (w := w) (a := ⟨k, i, none⟩) e).trans hc
theorem Ch.grown {P : Nat → Prop} {w w' : World} {row : Option Nat} {xs : List EX} {cs : List (List Value)} (h : Ch P w xs cs) (hg : w.grownBy w' row) (hr : ∀ k, row = some k → ¬ P k) : Ch P w' xs cs :=
  h.keep (fun _ _ _ h _ => h) fun k i u hP hc => by
    have e : w'.heap[k]? = w.heap[k]? := hg.block k (World.block_lt_of_cell? w ⟨k, i, none⟩ hc) (fun e => hr k e.symm hP)
    exact (World.cell?_of_block (w := w) (a := ⟨k, i, none⟩) e).trans hc
theorem Ch.snoc {P : Nat → Prop} {w : World} {y : EX} {d : List Value} (hd : d.length = 11) (hy : IsEP P w y (.agg d.toArray)) : ∀ {xs : List EX} {cs : List (List Value)}, Ch P w xs cs → Ch P w (xs ++ [y]) (cs ++ [d])
  | [], [], _ => by unfold Ch; exact ⟨hd, hy, by unfold Ch; trivial⟩
  | x :: xs, c :: cs, h => by
    unfold Ch at h
    show Ch P w (x :: (xs ++ [y])) (c :: (cs ++ [d]))
    unfold Ch
    exact ⟨h.1, h.2.1, Ch.snoc hd hy h.2.2⟩
  | [], _ :: _, h => by unfold Ch at h; exact h.elim
  | _ :: _, [], h => by unfold Ch at h; exact h.elim
theorem agg_one {P : Nat → Prop} {w : World} {x : EX} {c : List Value} (h : IsEP P w x (.agg c.toArray)) : ∀ u ∈ c, u.oneCell' = true := by
  obtain ⟨n, nm, tk, tp, tg, tn, tz, ta, o, c', e, _⟩ := h.parts
  injection e with e
  have e2 : c = [.int .i64 x.kind, .int .i64 x.pos, .int .i64 x.stop, .string nm, .int .i64 n, .int .i64 tk, .int .i64 tp, .string tg, .string tn, .slice tz ta ta, .slice o x.args.length c'] := by
    have := congrArg Array.toList e
    simpa using this
  subst e2
  intro u hu
  simp only [List.mem_cons, List.not_mem_nil, or_false] at hu
  rcases hu with rfl | rfl | rfl | rfl | rfl | rfl | rfl | rfl | rfl | rfl | rfl <;> rfl
theorem Ch.one {P : Nat → Prop} {w : World} : ∀ {xs : List EX} {cs : List (List Value)}, Ch P w xs cs → ∀ u ∈ cs.flatten, u.oneCell' = true
  | [], [], _, u, hu => by simp at hu
  | x :: xs, c :: cs, h, u, hu => by
    unfold Ch at h
    rw [List.flatten_cons, List.mem_append] at hu
    rcases hu with hu | hu
    · exact agg_one h.2.1 u hu
    · exact Ch.one h.2.2 u hu
  | [], _ :: _, h, _, _ => by unfold Ch at h; exact h.elim
  | _ :: _, [], h, _, _ => by unfold Ch at h; exact h.elim

/-- Out of a row: where it lies. -/
theorem Ch.eps {P : Nat → Prop} {w : World} {g : Nat} (hg : P g) : ∀ {xs : List EX} {cs : List (List Value)} {i : Nat}, Ch P w xs cs → (∀ j u, cs.flatten[j]? = some u → w.cell? ⟨g, i * 11 + j, none⟩ = some u) → IsEPs P w (some ⟨g, 0, none⟩) i xs
  | [], [], _, _, _ => by unfold IsEPs; trivial
  | x :: xs, c :: cs, i, h, hc => by
    unfold Ch at h
    unfold IsEPs
    obtain ⟨h1, h2, h3⟩ := h
    match c, h1, h2, hc with
    | [c0, c1, c2, c3, c4, c5, c6, c7, c8, c9, c10], _, h2, hc =>
      refine ⟨⟨g, c0, c1, c2, c3, c4, c5, c6, c7, c8, c9, c10, rfl, hg, hc 0 _ rfl, hc 1 _ rfl, hc 2 _ rfl, hc 3 _ rfl, hc 4 _ rfl, hc 5 _ rfl, hc 6 _ rfl, hc 7 _ rfl, hc 8 _ rfl, hc 9 _ rfl, hc 10 _ rfl, h2⟩, Ch.eps hg h3 fun j u hj => ?_⟩
      have h4 := hc (11 + j) u (by rw [List.flatten_cons, List.getElem?_append_right (by simp)]; simpa using hj)
      rw [show (i + 1) * 11 + j = i * 11 + (11 + j) by omega]
      exact h4
  | [], _ :: _, _, h, _ => by unfold Ch at h; exact h.elim
  | _ :: _, [], _, h, _ => by unfold Ch at h; exact h.elim

/-- A list of expressions in a row of the call's own, apart from what they hold. -/
def RowE (base : Nat) (w : World) (v : Value) (xs : List EX) : Prop :=
  ∃ cs : List (List Value), w.ownsRow base 41 11 v xs.length cs.flatten ∧ Ch (fun q => base ≤ q ∧ some q ≠ v.ownBlock) w xs cs

theorem RowE.nil (base : Nat) (w : World) : RowE base w (.slice none 0 0) [] := ⟨[], World.ownsRow_nil _ _ _ _, by unfold Ch; trivial⟩
theorem RowE.slice {base : Nat} {w : World} {v : Value} {xs : List EX} (h : RowE base w v xs) : ∃ o cap, v = .slice o xs.length cap := by
  obtain ⟨cs, h, _⟩ := h
  rcases h.2 with ⟨h, h0⟩ | ⟨g, cap, cur, h, _⟩
  · exact ⟨none, 0, by rw [h, h0]⟩
  · exact ⟨_, cap, h⟩
theorem RowE.kp {base b : Nat} {w w' : World} {v : Value} {xs : List EX} (h : RowE base w v xs) (hk : Kp b w w') (hb : b < base) : RowE base w' v xs := by
  obtain ⟨cs, h1, h2⟩ := h
  refine ⟨cs, ?_, h2.kp hk (fun h => by have := h.1; omega)⟩
  refine ⟨h1.1, ?_⟩
  rcases h1.2 with h | ⟨g, cap, cur, h, hbg, hg, r⟩
  · exact .inl h
  · refine .inr ⟨g, cap, cur, h, hbg, ?_, r⟩
    rw [hk.block g (Array.getElem?_eq_some_iff.1 hg).1 (by omega)]; exact hg
theorem RowE.alloc {base : Nat} {w : World} {v : Value} {xs : List EX} (h : RowE base w v xs) (o : Obj) : RowE base (w.alloc o) v xs := by
  obtain ⟨cs, h1, h2⟩ := h
  exact ⟨cs, h1.alloc o, h2.below ((Below.refl _ _).alloc (Nat.le_refl _) o)⟩
/-- What is in the row, where it lies. -/
theorem RowE.eps {base : Nat} {w : World} {v : Value} {xs : List EX} (h : RowE base w v xs) : ∃ o cap, v = .slice o xs.length cap ∧ IsEPs (fun q => base ≤ q) w o 0 xs := by
  obtain ⟨cs, h1, h2⟩ := h
  rcases h1.2 with ⟨rfl, h0⟩ | ⟨g, cap, cur, rfl, hbg, hg, r⟩
  · have : xs = [] := List.length_eq_zero_iff.1 h0
    subst this
    exact ⟨none, 0, rfl, by unfold IsEPs; trivial⟩
  · refine ⟨_, cap, rfl, Ch.eps (P := fun q => base ≤ q) (w := w) hbg (h2.keep (fun _ _ _ h _ => h.1) fun _ _ _ _ h => h) fun j u hj => ?_⟩
    rw [Nat.zero_mul, Nat.zero_add, h1.cellAt j (by have := (List.getElem?_eq_some_iff.1 hj).1; have := h2.len; omega)]
    exact hj

theorem Try.infoE : (Try.prog.info? 41).map (fun i => (i.zero, i.size, i.bytes)) = some (some (.agg zeroE), 11, 144) := by kernel_rfl

theorem below_grown' {base : Nat} {w w' : World} {row : Option Nat} (hg : w.grownBy w' row) (hb : base ≤ w.heap.size) (hr : ∀ k, row = some k → base ≤ k) : Below base w w' := (Below.refl _ _).grown hg hb hr

/-- One expression more. -/
theorem append_one (base : Nat) (ty : TypeId) (W : World) (v : Value) (xs : List EX) (hv : RowE base W v xs) (B : Nat) (hbase : base ≤ B) (hB : ∀ g, v.ownBlock = some g → g < B) (y : EX) (y0 y1 y2 y3 y4 y5 y6 y7 y8 y9 y10 : Value) (hy : IsEX B W y (.agg #[y0, y1, y2, y3, y4, y5, y6, y7, y8, y9, y10])) (hBW : B ≤ W.heap.size) (hn : xs.length + 1 ≤ 1073741824) :
    ∃ v' w', (Builtin.append_ #[39, 39] ty #[v, .slice (some ⟨W.heap.size, 0, none⟩) 1 1]).run Try.prog (W.alloc (.cells #[y0, y1, y2, y3, y4, y5, y6, y7, y8, y9, y10] 41)) = .ok v' w' ∧ RowE base w' v' (xs ++ [y]) ∧ Below base (W.alloc (.cells #[y0, y1, y2, y3, y4, y5, y6, y7, y8, y9, y10] 41)) w' := by
  obtain ⟨i0, hi, hi'⟩ := Option.map_eq_some_iff.1 Try.infoE
  simp only [Prod.mk.injEq] at hi'
  obtain ⟨hz0, hz1, hz2⟩ := hi'
  obtain ⟨cs, hown, hch⟩ := hv
  have hown1 := hown.alloc (.cells #[y0, y1, y2, y3, y4, y5, y6, y7, y8, y9, y10] 41)
  have hch1 := hch.below ((Below.refl _ _).alloc (Nat.le_refl _) (.cells #[y0, y1, y2, y3, y4, y5, y6, y7, y8, y9, y10] 41))
  have hy1 := IsEP.alloc hy (.cells #[y0, y1, y2, y3, y4, y5, y6, y7, y8, y9, y10] 41)
  have hnew := (Blk.new W 41 #[y0, y1, y2, y3, y4, y5, y6, y7, y8, y9, y10]).cell
  have h1c : ∀ u ∈ [y0, y1, y2, y3, y4, y5, y6, y7, y8, y9, y10], u.oneCell' = true := agg_one (c := [y0, y1, y2, y3, y4, y5, y6, y7, y8, y9, y10]) hy
  obtain ⟨v', w', hrun, hown', hcase⟩ := run_append_tells (P := Try.prog) (W.alloc (.cells #[y0, y1, y2, y3, y4, y5, y6, y7, y8, y9, y10] 41)) base 39 ty 41 i0 (.agg zeroE) 11 144 Try.underlying39 hi hz0 hz1 hz2 rfl (by decide) v xs.length cs.flatten hown1
    ⟨W.heap.size, 0, none⟩ 1 1 [y0, y1, y2, y3, y4, y5, y6, y7, y8, y9, y10] rfl (fun j u hu => by rw [add_none', Nat.zero_add, hnew j]; simpa using hu) h1c (by unfold maxLen; omega) (by omega) (by simp; omega) (by decide)
  refine ⟨v', w', hrun, ⟨cs ++ [[y0, y1, y2, y3, y4, y5, y6, y7, y8, y9, y10]], ?_, ?_⟩, ?_⟩
  · rw [List.length_append, List.flatten_append]; simpa using hown'
  · rcases hcase with ⟨cap, rfl, hg⟩ | ⟨g, cap, rfl, rfl, hg⟩
    · refine Ch.snoc rfl ?_ (Ch.mono (fun k hk hp => ⟨hp.1, by intro e; simp only [Value.ownBlock, Option.some.injEq, World.size_alloc] at e hk; omega⟩) (hch1) |>.grown hg (fun k e => by cases e))
      exact (IsEP.mono (fun k hk (hp : B ≤ k) => ⟨by omega, by intro e; simp only [Value.ownBlock, Option.some.injEq, World.size_alloc] at e hk; omega⟩) hy1).keep (fun _ _ _ h _ => h) fun k i u hP hc => by
        have e : w'.heap[k]? = _ := hg.block k (World.block_lt_of_cell? _ ⟨k, i, none⟩ hc) (by simp)
        exact (World.cell?_of_block (a := ⟨k, i, none⟩) e).trans hc
    · have hgB := hB g rfl
      refine Ch.snoc rfl ?_ (hch1.grown hg (fun k e hp => by cases e; exact hp.2 rfl))
      exact (IsEP.mono (P' := fun q => base ≤ q ∧ some q ≠ (Value.slice (some ⟨g, 0, none⟩) (xs.length + 1) cap).ownBlock) (fun k hk (hp : B ≤ k) => ⟨by omega, by intro e; simp only [Value.ownBlock, Option.some.injEq] at e; omega⟩) hy1).keep (fun _ _ _ h _ => h) fun k i u hP hc => by
        have e : w'.heap[k]? = _ := hg.block k (World.block_lt_of_cell? _ ⟨k, i, none⟩ hc) (fun e => hP.2 (by simp only [Value.ownBlock, Option.some.injEq] at e ⊢; exact e))
        exact (World.cell?_of_block (a := ⟨k, i, none⟩) e).trans hc
  · rcases hcase with ⟨cap, rfl, hg⟩ | ⟨g, cap, rfl, rfl, hg⟩
    · exact below_grown' hg (by simp; omega) (fun k e => by cases e)
    · refine below_grown' hg (by simp; omega) (fun k e => ?_)
      cases e
      rcases hown.2 with ⟨h, _⟩ | ⟨g', cap', cur, h, hbg, _⟩
      · cases h
      · injection h with h
        injection h with h
        injection h with h
        omega

theorem wpList_append_one {ops : Array Oper} {rest : List Oper} {o : Oper} {a : Act} {Q : Exit → Act → World → Prop} (hgd : o.guard = none) (s x : Operand)
    (ho : o.op = .call { callee := .builtin .append, args := #[s, x], argTypes := #[39, 39] }) (base : Nat) (W : World) (v : Value) (xs : List EX) (hs : a.eval s = v) (hx : a.eval x = .slice (some ⟨W.heap.size, 0, none⟩) 1 1)
    (hv : RowE base W v xs) (B : Nat) (hbase : base ≤ B) (hB : ∀ g, v.ownBlock = some g → g < B) (y : EX) (y0 y1 y2 y3 y4 y5 y6 y7 y8 y9 y10 : Value) (hy : IsEX B W y (.agg #[y0, y1, y2, y3, y4, y5, y6, y7, y8, y9, y10])) (hBW : B ≤ W.heap.size) (hn : xs.length + 1 ≤ 1073741824)
    (h : ∀ v' w', RowE base w' v' (xs ++ [y]) → Below base (W.alloc (.cells #[y0, y1, y2, y3, y4, y5, y6, y7, y8, y9, y10] 41)) w' → wpList Try.prog ops Q rest (a.put o.dst v') w') :
    wpList Try.prog ops Q (o :: rest) a (W.alloc (.cells #[y0, y1, y2, y3, y4, y5, y6, y7, y8, y9, y10] 41)) := by
  obtain ⟨v', w', hrun, h1, h2⟩ := append_one base o.type W v xs hv B hbase hB y y0 y1 y2 y3 y4 y5 y6 y7 y8 y9 y10 hy hBW hn
  refine wpList_plain hgd fun K hK => ?_
  unfold Oper.wp
  simp [execOp, ho, resolve, invoke, builtin, hs, hx, hrun, Result.andThen]
  exact hK _ _ (h v' w' h1 h2)

end Go.Proofs.Ytoppknnjnfgbiaa
