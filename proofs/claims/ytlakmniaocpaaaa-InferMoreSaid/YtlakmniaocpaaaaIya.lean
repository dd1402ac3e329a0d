/-
  Types appended to an empty row, and one more; the codes of what is wrong with a call. Condition: at most 2^40 types.
-/
import Derived.Test.YtlakmniaocpaaaaIxn
namespace Go.Proofs.Ytlakmniaocpaaaa
open Go.RowKit
open Go.Lib hiding intOf

/-- A list of types, as rows of five values each. -/
theorem ys_flat {w : World} {o : Option Addr} : ∀ {A : List GY} {i : Nat}, IsYs w o i A → ∃ D : List (List Value), D.length = A.length ∧ (∀ d ∈ D, d.length = 5 ∧ d.all (·.oneCell') = true) ∧ (∀ (k : Nat) (y : GY) (d : List Value), A[k]? = some y → D[k]? = some d → IsY w y (.agg d.toArray)) ∧ (A = [] ∨ ∃ a, o = some a) ∧
    ∀ a, o = some a → ∀ (j : Nat) (u : Value), D.flatten[j]? = some u → w.cell? (a.add (i * 5 + j)) = some u
  | [], i, _ => ⟨[], rfl, by simp, by simp, .inl rfl, by simp⟩
  | y :: r, i, h => by
    obtain ⟨D, h1, h2, h3, _, h4⟩ := ys_flat (A := r) (i := i + 1) (by unfold IsYs at h; exact h.2)
    obtain ⟨a, c0, c1, c2, c3, c4, rfl, hc, hy⟩ := IsYs.at_ 0 h (y := y) rfl
    rw [Nat.add_zero] at hc
    refine ⟨[c0, c1, c2, c3, c4] :: D, by simp [h1], fun d hd => ?_, fun k z d hz hd => ?_, .inr ⟨_, rfl⟩, fun b hb j u hu => ?_⟩
    · rcases List.mem_cons.1 hd with rfl | hd
      · exact ⟨rfl, hy.ones⟩
      · exact h2 d hd
    · cases k with
      | zero => simp at hz hd; subst hz; subst hd; exact hy
      | succ k => exact h3 k z d (by simpa using hz) (by simpa using hd)
    · cases hb
      rw [List.flatten_cons] at hu
      by_cases hj : j < 5
      · rw [List.getElem?_append_left (by simpa using hj)] at hu
        have := hc j u hu
        rwa [add_more'] at this
      · rw [List.getElem?_append_right (by simp; omega)] at hu
        have := h4 a rfl (j - 5) u (by simpa using hu)
        rwa [show (i + 1) * 5 + (j - 5) = i * 5 + j by omega] at this
theorem blk_ne {W : World} {k g : Nat} {t : TypeId} {cs ds : Array Value} (h : Blk W k t cs) (h' : Blk W g t ds) (hs : cs.size ≠ ds.size) : k ≠ g := fun e => by
  subst e
  unfold Blk at h h'
  rw [h] at h'
  simp only [Option.some.injEq, Obj.cells.injEq] at h'
  exact hs (by rw [h'.1])
theorem empty_ys {W : World} {b0 B : Nat} {t : TypeId} (h : Blk W b0 t #[]) (hB : B ≤ b0) : W.ownsRow B t 5 (.slice (some ⟨b0, 0, none⟩) 0 0) 0 [] :=
  ⟨rfl, .inr ⟨b0, 0, #[], rfl, hB, h, Nat.le_refl _, Nat.zero_le _, rfl, rfl⟩⟩
theorem run_append_noneC {P : Program} (w : World) (t ty e : TypeId) (i : TypeInfo) (ht : P.underlying t = some (.slice e)) (hi : P.info? e = some i) (b0 c : Nat) {cs : Array Value} {e' : TypeId} (_h : Blk w b0 e' cs) :
    (Builtin.append_ #[t, t] ty #[.slice (some ⟨b0, 0, none⟩) 0 0, .slice none 0 c]).run P w = .ok (.slice (some ⟨b0, 0, none⟩) 0 0) w := by
  simp [Builtin.append_, run_underlying ht, Go.sizeOf, typeInfo, hi, Builtin.lenOf, Builtin.firstCells, storeCells]
/-- What an append of all of a list to an empty row leaves. -/
structure CopyT (B m : Nat) (D : List (List Value)) (W : World) (v : Value) (X : World) : Prop where
  is : ∃ o c, v = .slice o m c ∧ X.ownsRow B 34 5 (.slice o m c) m D.flatten ∧ ∀ (k : Nat) (cs : Array Value), cs.size = 5 → Blk W k 34 cs → Blk X k 34 cs ∧ (Value.slice o m c).ownBlock ≠ some k
  below : Below B W X
theorem run_copy_ys (W : World) (B b0 : Nat) (hE : Blk W b0 34 #[]) (hB : B ≤ b0) (o : Option Addr) (m c : Nat) (D : List (List Value)) (hl : D.length = m) (h5 : ∀ d ∈ D, d.length = 5 ∧ d.all (·.oneCell') = true) (h0 : m = 0 ∨ ∃ a, o = some a) (hc : ∀ a, o = some a → ∀ (j : Nat) (u : Value), D.flatten[j]? = some u → W.cell? (a.add j) = some u) (hn : m ≤ 1000000) (ty : TypeId) :
    ∃ v X, (Builtin.append_ #[23, 23] ty #[.slice (some ⟨b0, 0, none⟩) 0 0, .slice o m c]).run Try.prog W = .ok v X ∧ CopyT B m D W v X := by
  obtain ⟨i0, hi, hz0, hz1, hz2⟩ := info_parts infoTT
  have hrow := empty_ys hE hB
  have hb : B ≤ W.heap.size := Nat.le_trans hB (Nat.le_of_lt hE.lt)
  have hne : ∀ (k : Nat) (cs : Array Value), cs.size = 5 → Blk W k 34 cs → k ≠ b0 := fun k cs hs hk => blk_ne hk hE (by rw [hs]; decide)
  have hfl : D.flatten.length = m * 5 := by rw [flat_len (n := 5) fun d hd => (h5 d hd).1, hl]
  cases o with
  | none =>
    obtain rfl : m = 0 := by rcases h0 with h | ⟨a, h⟩; exact h; cases h
    obtain rfl : D = [] := List.length_eq_zero_iff.1 hl
    exact ⟨_, W, run_append_noneC (P := Try.prog) W 23 ty 34 i0 Try.underlying23 hi b0 c hE, ⟨_, _, rfl, hrow, fun k cs hs hk => ⟨hk, fun e => hne k cs hs hk (by simp [Value.ownBlock] at e; exact e.symm)⟩⟩, Below.refl _ _⟩
  | some a =>
    have h1 : ∀ u ∈ D.flatten, u.oneCell' = true := fun u hu => by
      obtain ⟨d, hd, hu⟩ := List.mem_flatten.1 hu
      exact List.all_eq_true.1 (h5 d hd).2 u hu
    by_cases hm : 0 < m
    · obtain ⟨v', X, hrun, r1, r2⟩ := run_append_tells (P := Try.prog) W B 23 ty 34 i0 (.agg #[.int .i64 0, .string ⟨#[]⟩, .string ⟨#[]⟩, .int .i64 0, .slice none 0 0]) 5 72 Try.underlying23 hi hz0 hz1 hz2 rfl (by decide) _ 0 [] hrow a m c D.flatten hfl (hc a rfl) h1 (by unfold maxLen; omega) (by omega) hb hm
      rw [Nat.zero_add, List.nil_append] at r1
      rw [Nat.zero_add] at r2
      refine ⟨v', X, hrun, ?_, ?_⟩
      · rcases r2 with ⟨cap, rfl, hg⟩ | ⟨g, cap, e, rfl, hg⟩
        · refine ⟨_, _, rfl, r1, fun k cs hs hk => ⟨hk.kept hg (by simp), fun e => ?_⟩⟩
          simp only [Value.ownBlock, Option.some.injEq] at e
          have := hk.lt
          omega
        · simp only [Value.slice.injEq, Option.some.injEq, Addr.mk.injEq, and_true] at e
          obtain ⟨rfl, _⟩ := e
          refine ⟨_, _, rfl, r1, fun k cs hs hk => ⟨hk.kept hg (by simp only [ne_eq, Option.some.injEq]; exact hne k cs hs hk), fun e => hne k cs hs hk ?_⟩⟩
          simp only [Value.ownBlock, Option.some.injEq] at e
          exact e.symm
      · rcases r2 with ⟨cap, _, hg⟩ | ⟨g, cap, e, _, hg⟩
        · exact (Below.refl B W).grown hg hb fun k hk => by cases hk
        · simp only [Value.slice.injEq, Option.some.injEq, Addr.mk.injEq, and_true] at e
          obtain ⟨rfl, _⟩ := e
          exact (Below.refl B W).grown hg hb fun k hk => by cases hk; exact hB
    · obtain rfl : m = 0 := by omega
      obtain rfl : D = [] := List.length_eq_zero_iff.1 hl
      obtain ⟨v', X, hrun, r1, hgr, _⟩ := run_append_own (P := Try.prog) W B 23 ty 34 i0 (.agg #[.int .i64 0, .string ⟨#[]⟩, .string ⟨#[]⟩, .int .i64 0, .slice none 0 0]) 5 72 Try.underlying23 hi hz0 hz1 hz2 rfl (by decide) _ 0 [] hrow a 0 c [] rfl (by simp) (by simp) (by decide) (by decide) hb
      obtain ⟨W2, hr, _, _⟩ := run_append_fits (P := Try.prog) W B 23 ty 34 i0 5 Try.underlying23 hi hz1 b0 0 0 [] hrow a 0 c [] rfl (by simp) (by simp) (Nat.le_refl _)
      have hh := hrun.symm.trans hr
      injection hh with hv hw
      subst hv
      refine ⟨_, X, hrun, ⟨_, _, rfl, r1, fun k cs hs hk => ⟨hk.kept hgr (by simp only [Value.ownBlock, ne_eq, Option.some.injEq]; exact hne k cs hs hk), fun e => hne k cs hs hk (by simp [Value.ownBlock] at e; exact e.symm)⟩⟩, ?_⟩
      exact (Below.refl B W).grown hgr hb fun k hk => by simp [Value.ownBlock] at hk; omega
/-- What an append of one more leaves. -/
structure MoreT (B m : Nat) (v0 : Value) (D : List (List Value)) (d : List Value) (W : World) (v : Value) (X : World) : Prop where
  is : ∃ o c, v = .slice o (m + 1) c ∧ X.ownsRow B 34 5 (.slice o (m + 1) c) (m + 1) (D ++ [d]).flatten
  keep : ∀ (k : Nat) (cs : Array Value), Blk W k 34 cs → v0.ownBlock ≠ some k → Blk X k 34 cs
  below : Below B W X
theorem run_more_ys (W : World) (B m : Nat) (v : Value) (D : List (List Value)) (hrow : W.ownsRow B 34 5 v m D.flatten) (hB : B ≤ W.heap.size) (g : Nat) (d : List Value) (hg : Blk W g 34 d.toArray) (hd : d.length = 5 ∧ d.all (·.oneCell') = true) (hn : m ≤ 1000000) (ty : TypeId) :
    ∃ v' X, (Builtin.append_ #[23, 23] ty #[v, .slice (some ⟨g, 0, none⟩) 1 1]).run Try.prog W = .ok v' X ∧ MoreT B m v D d W v' X := by
  obtain ⟨i0, hi, hz0, hz1, hz2⟩ := info_parts infoTT
  obtain ⟨v', X, hrun, r1, r2⟩ := run_append_tells (P := Try.prog) W B 23 ty 34 i0 (.agg #[.int .i64 0, .string ⟨#[]⟩, .string ⟨#[]⟩, .int .i64 0, .slice none 0 0]) 5 72 Try.underlying23 hi hz0 hz1 hz2 rfl (by decide) v m D.flatten hrow ⟨g, 0, none⟩ 1 1 d (by rw [hd.1]) (bk0 hg) (List.all_eq_true.1 hd.2) (by unfold maxLen; omega) (by omega) hB (by decide)
  have e : D.flatten ++ d = (D ++ [d]).flatten := by rw [List.flatten_append]; simp
  rw [e] at r1
  refine ⟨v', X, hrun, ?_, fun k cs hk hne => ?_, ?_⟩
  · rcases r2 with ⟨cap, rfl, _⟩ | ⟨_, cap, _, rfl, _⟩
    · exact ⟨_, _, rfl, r1⟩
    · exact ⟨_, _, rfl, r1⟩
  · rcases r2 with ⟨cap, _, hgr⟩ | ⟨g', cap, rfl, _, hgr⟩
    · exact hk.kept hgr (by simp)
    · exact hk.kept hgr fun e => hne (by rw [e]; rfl)
  · rcases r2 with ⟨cap, _, hgr⟩ | ⟨g', cap, rfl, _, hgr⟩
    · exact (Below.refl B W).grown hgr hB fun k hk => by cases hk
    · exact (Below.refl B W).grown hgr hB fun k hk => by cases hk; exact (hrow.lt g' rfl).1
/-- A row of the call's own is a list of types. -/
theorem row_ys {X : World} {B m c : Nat} {o : Option Addr} {L : List (List Value)} {ys : List GY} (h : X.ownsRow B 34 5 (.slice o m c) m L.flatten) (hL : L.length = m) (h5 : ∀ d ∈ L, d.length = 5 ∧ d.all (·.oneCell') = true) (hy : ys.length = m) (hx : ∀ (i : Nat) (y : GY) (d : List Value), ys[i]? = some y → L[i]? = some d → IsY X y (.agg d.toArray)) : m ≤ c ∧ c ≤ maxLen ∧ IsYs X o 0 ys := by
  rcases h.2 with ⟨e, h0⟩ | ⟨g, cap, cur, e, hg, _, g1, g2, _⟩
  · simp only [Value.slice.injEq] at e
    obtain ⟨rfl, rfl, rfl⟩ := e
    obtain rfl : ys = [] := List.length_eq_zero_iff.1 hy
    exact ⟨Nat.le_refl _, Nat.zero_le _, IsYs.nil _ _ _⟩
  · simp only [Value.slice.injEq] at e
    obtain ⟨rfl, _, rfl⟩ := e
    refine ⟨g1, g2, IsYs.mk' fun k y hk => ?_⟩
    have hi : k < m := by rw [← hy]; exact (List.getElem?_eq_some_iff.1 hk).1
    obtain ⟨d, hd⟩ : ∃ d, L[k]? = some d := ⟨_, List.getElem?_eq_getElem (by omega)⟩
    have hd5 := h5 d (List.mem_of_getElem? hd)
    have hyx := hx k y d hk hd
    match d, hd5, hd, hyx with
    | [c0, c1, c2, c3, c4], _, hd, hyx =>
      refine ⟨c0, c1, c2, c3, c4, fun j u hu => ?_, hyx⟩
      have hj : j < 5 := (List.getElem?_eq_some_iff.1 hu).1
      have hlt : k * 5 + j < m * 5 := by omega
      have e2 : (⟨g, 0, none⟩ : Addr).add (k * 5 + j) = ⟨g, k * 5 + j, none⟩ := by unfold Addr.add; split <;> simp_all
      rw [Nat.zero_add, e2, h.cellAt (k * 5 + j) hlt]
      exact flat_at (n := 5) (fun x hx => (h5 x hx).1) hd hu
theorem row_below {W X : World} {B m : Nat} {t : TypeId} {v : Value} {l : List Value} (h : W.ownsRow B t 5 v m l) (hb : Below W.heap.size W X) : X.ownsRow B t 5 v m l :=
  (Turn.of_below hb).row h fun k hk => by have := (h.lt k hk).2; omega
theorem step_append {P : Program} {ops : Array Oper} {o : Oper} {a : Act} {w : World} {K : Act → World → Prop} {Q : Exit → Act → World → Prop} {E : Prop}
    (hg : o.guard = none) (s x : Operand) (t : TypeId) (hop : o.op = Op.call { callee := Callee.builtin Builtin.append, args := #[s, x], argTypes := #[t, t] }) (v1 v2 : Value) (hs : a.eval s = v1) (hx : a.eval x = v2)
    (v' : Value) (w' : World) (hrun : (Builtin.append_ #[t, t] o.type #[v1, v2]).run P w = .ok v' w') (hK : K (a.put o.dst v') w') :
    if Region.wanted o (yielded ops a.tmps) = true then Oper.wp P o a w K Q else E := by
  have hw : Region.wanted o (yielded ops a.tmps) = true := by simp [Region.wanted, hg]
  rw [if_pos hw]
  unfold Oper.wp
  simp [execOp, hop, resolve, invoke, builtin, hs, hx, hrun, Result.andThen]
  exact hK
theorem step_append_ex {P : Program} {ops : Array Oper} {o : Oper} {a : Act} {w : World} {K : Act → World → Prop} {Q : Exit → Act → World → Prop} {E : Prop} {R : Value → World → Prop}
    (hg : o.guard = none) (s x : Operand) (t : TypeId) (hop : o.op = Op.call { callee := Callee.builtin Builtin.append, args := #[s, x], argTypes := #[t, t] }) (v1 v2 : Value) (hs : a.eval s = v1) (hx : a.eval x = v2)
    (hrun : ∀ ty, ∃ v' w', (Builtin.append_ #[t, t] ty #[v1, v2]).run P w = .ok v' w' ∧ R v' w') (hK : ∀ v' w', R v' w' → K (a.put o.dst v') w') :
    if Region.wanted o (yielded ops a.tmps) = true then Oper.wp P o a w K Q else E := by
  obtain ⟨v', w', h1, h2⟩ := hrun o.type
  exact step_append hg s x t hop v1 v2 hs hx v' w' h1 (hK v' w' h2)
theorem fits_app {q : Nat} : ∀ {a b : List GY}, FitYs q a → FitYs q b → FitYs q (a ++ b)
  | [], _, _, h => h
  | x :: r, b, h, g => by
    unfold FitYs at h
    rw [List.cons_append]
    unfold FitYs
    exact ⟨h.1, fits_app h.2 g⟩
theorem errB_codes {s : SCP} : ∀ {B ts : List GY}, ∀ e ∈ errB s B ts, e.2 ≠ 0
  | [], ts, e, h => by rw [errB_none] at h; cases h
  | _ :: _, [], e, h => by rw [errB] at h; cases h; simp
  | b :: r, t :: q, e, h => by
    rw [errB] at h
    split at h
    · rcases List.mem_cons.1 h with rfl | h
      · simp
      · exact errB_codes e h
    · exact errB_codes e h
theorem errA_codes {s : SCP} {ts : List GY} : ∀ {i : Nat} {a P : List GY}, ∀ e ∈ errA s ts i a P, e.2 ≠ 0
  | i, [], P, e, h => by cases P <;> simp [errA] at h
  | i, _ :: _, [], e, h => by simp [errA] at h
  | i, a :: r, p :: q, e, h => by
    rw [errA] at h
    split at h
    · rcases List.mem_cons.1 h with rfl | h
      · simp
      · exact errA_codes e h
    · exact errA_codes e h
theorem call_codes {s : SCP} {B P args : List GY} : ∀ e ∈ callE s B P args, e.2 ≠ 0 := fun e h => by
  unfold callE errC at h
  rcases List.mem_append.1 h with h | h
  · rcases List.mem_append.1 h with h | h
    · split at h
      · cases h
      · rw [List.mem_singleton.1 h]; simp
    · exact errB_codes e h
  · exact errA_codes e h
/-- What is wrong stands still where a zero type's box is written. -/
theorem es_row2 {W : World} {l : List (Int × Int)} {v : Value} {g : Nat} (h : IsEs W l v) (hl : ∀ x ∈ l, x.2 ≠ 0) (hg : Blk W g 34 #[.int .i64 0, .string ⟨#[]⟩, .string ⟨#[]⟩, .int .i64 0, .slice none 0 0]) (ds : Array Value) : IsEs (W.setRow g ds) l v := by
  obtain ⟨o, c, h1, h2, h3, h4⟩ := h
  refine ⟨o, c, h1, h2, h3, fun i x hx => ?_⟩
  obtain ⟨a, d, e1, e2, e3, rfl⟩ := h4 i x hx
  have hn := hl x (List.mem_of_getElem? hx)
  have hc := e3 1 (.int .i64 x.2) rfl
  have hne : ((a.add (i * 2)).add 1).block ≠ g := fun e => by
    unfold World.cell? at hc
    unfold Blk at hg
    rw [e, hg] at hc
    simp only at hc
    split at hc
    · cases hc
    · match ((a.add (i * 2)).add 1).off, hc with
      | 0, hp => simp at hp; exact hn hp.symm
      | 1, hp => simp at hp
      | 2, hp => simp at hp
      | 3, hp => simp at hp; exact hn hp.symm
      | 4, hp => simp at hp
      | k + 5, hp => simp at hp
  refine ⟨a, _, e1, e2, fun j u hu => ?_, rfl⟩
  refine (World.cell?_of_block (setRow_other W g _ ds ?_)).trans (e3 j u hu)
  rw [add_block] at hne ⊢
  exact hne
theorem isY_row {W : World} {B g : Nat} {y : GY} {v : Value} (h : IsYF W B y v) (hg : g < B) (ds : Array Value) : IsY (W.setRow g ds) y v :=
  (h.keep (Nat.le_refl _) fun a u ha hc => set_far hg a u ha hc).toY
end Go.Proofs.Ytlakmniaocpaaaa
