/-
  A type's parts, one by one: the iterator. Condition: at most a thousand parts.
-/
import Derived.Test.YtofdejoeheokjaaTsc
import Derived.Sort.LoopGhostIn
import Derived.Shelf.RegionOpen
import Derived.Shelf.Abstract
import Derived.LoopNIn
import Derived.LoopIn
namespace Go.Proofs.Ytofdejoeheokjaa
open Go.RowKit Go.Shelf
open Go.Lib hiding intOf

/-! ### a struct read, and stored into a new box, within a fence -/
section
variable {F : Fence} {fn : Nat} {ops : Array Oper} {rest : List Oper} {o : Oper} {a : Act} {w : World} {Q : Exit → Act → World → Prop}
theorem boxLoadIn (T : TypeId) (n : Nat) (hi : (Try.prog.info? T).map (·.size) = some n) {fs : _} (hu : Try.prog.underlying T = some (.struct fs)) (hgd : o.guard = none) (x : Operand) (ho : o.op = .load T x) (g : Addr) (hx : a.eval x = .pointer (some g)) {cs : List Value} (hc : ∀ (j : Nat) (v : Value), cs[j]? = some v → w.cell? (g.add j) = some v) (hs : cs.length = n)
    (h : wpListIn F fn Try.prog ops Q rest (a.put o.dst (.agg cs.toArray)) w) : wpListIn F fn Try.prog ops Q (o :: rest) a w := by
  have hr := run_loadG T n hi hu x ho g hx hc hs
  refine wpListIn_plain hgd fun K hK => ?_
  unfold Oper.wpIn
  refine ⟨?_, ?_⟩
  · simp [Oper.about, ho]
  · rw [Oper.semAt_plain F _ _ (by rw [ho]; intro c hc'; cases hc'), hr]
    exact hK _ _ h
theorem boxNewIn (T : TypeId) (n : Nat) (hi : (Try.prog.info? T).map (·.size) = some n) (hgd : o.guard = none) (x y : Operand) (ho : o.op = .store T x y) {t : TypeId} {old : Array Value} (g : Nat) (hgw : w.heap.size = g) (hx : a.eval x = .pointer (some ⟨g, 0, none⟩)) (cs : List Value) (hy : a.eval y = .agg cs.toArray) (hold : old.size = n) (hs : cs.length = n) (h1 : cs.all (·.oneCell') = true)
    (h : wpListIn F fn Try.prog ops Q rest (a.put o.dst undef) (w.alloc (.cells cs.toArray t))) : wpListIn F fn Try.prog ops Q (o :: rest) a (w.alloc (.cells old t)) := by
  subst hgw
  have hg : Blk (w.alloc (.cells old t)) w.heap.size t old := Blk.new w t old
  have hst := run_storeCells_cells (P := Try.prog) w.heap.size 0 cs 0 (w.alloc (.cells old t)) (fun j hj => by
      rw [hg.cell, Array.getElem?_eq_getElem (by omega)]; rfl)
    (fun j _ => hg.frozen _) (by simpa using h1)
  have hold' : old = old.toList.toArray := by simp
  have hg' : Blk (w.alloc (.cells old t)) w.heap.size t old.toList.toArray := by rw [← hold']; exact hg
  rw [Nat.add_zero, setCells_row _ _ _ _ hg'] at hst
  have hp : ∀ (vs cur pre : List Value) (i : Nat), pre.length = i → (pre ++ cur).length = i + vs.length → putL (pre ++ cur) i vs = pre ++ vs := by
    intro vs
    induction vs with
    | nil => intro cur pre i hi hl; simp only [putL]; have : cur = [] := List.length_eq_zero_iff.1 (by simp at hl; omega); rw [this]
    | cons v r ih =>
      intro cur pre i hi hl
      cases cur with
      | nil => simp at hl; omega
      | cons z q =>
        have e : (pre ++ z :: q).set i v = (pre ++ [v]) ++ q := by
          rw [List.set_append_right _ _ (by omega), hi, Nat.sub_self]; simp
        simp only [putL]
        rw [e, ih q (pre ++ [v]) (i + 1) (by simp [hi]) (by simp at hl ⊢; omega)]
        simp
  have hpl := hp cs old.toList [] 0 rfl (by simp; omega)
  simp only [List.nil_append] at hpl
  rw [hpl, World.setRow_alloc_new] at hst
  have hsv := run_storeVar_at (P := Try.prog) (w.alloc (.cells old t)) _ ⟨w.heap.size, 0, none⟩ T cs.toArray (by rw [hi, List.size_toArray, hs]) (by simpa using hst)
  refine wpListIn_plain hgd fun K hK => ?_
  unfold Oper.wpIn
  refine ⟨?_, ?_⟩
  · simp [Oper.about, ho]
  · rw [Oper.semAt_plain F _ _ (by rw [ho]; intro c hc'; cases hc')]
    unfold execOp
    simp only [ho, hx, hy, Instr.storeAt, Instr.sureAddr, Sem.run_bind, Sem.run_pure, Result.andThen_ok, hsv]
    exact hK _ _ h
end

/-! ### the parts, plainly -/
mutual
def preY : GY → List GY
  | .mk k p m n l => .mk k p m n l :: preYs l
def preYs : List GY → List GY
  | [] => []
  | y :: r => preY y ++ preYs r
end
theorem preY_eq (y : GY) : preY y = y :: preYs y.args := by
  cases y
  rw [preY]
  rfl
mutual
theorem pre_len : ∀ y : GY, (preY y).length = cntY y
  | .mk k p m n l => by rw [preY, cntY, List.length_cons, pres_len l]; omega
theorem pres_len : ∀ l : List GY, (preYs l).length = cntYs l
  | [] => by rw [preYs, cntYs]; rfl
  | y :: r => by rw [preYs, cntYs, List.length_append, pre_len y, pres_len r]
end

/-! ### what is still open -/
abbrev Ent := List GY × Option Addr × Nat
def Ent.val (e : Ent) : Value := .slice e.2.1 e.1.length e.2.2
def remS : List Ent → List GY
  | [] => []
  | e :: S => preYs e.1 ++ remS S
def eC (S : List Ent) : List Value := S.reverse.map Ent.val
def tyIs (W : World) (t : TypeId) (k : Nat) : Prop := ∃ cs f, W.heap[k]? = some (.cells cs t f)
abbrev TS := 23
abbrev TT := 25
/-- What a round's body leaves: blocks of types, and of rows of types, and what was there at first. -/
abbrev KB (B : Nat) (W W' : World) : Prop := Turn (fun k => B ≤ k ∧ ¬ tyIs W TS k ∧ ¬ tyIs W TT k) W W'
/-- What the iterator leaves: all but blocks of rows. -/
abbrev KI (B : Nat) (W W' : World) : Prop := Turn (fun k => B ≤ k ∧ tyIs W TS k) W W'
theorem tyIs.lt {W : World} {t : TypeId} {k : Nat} (h : tyIs W t k) : k < W.heap.size := by
  obtain ⟨cs, f, h⟩ := h
  exact (Array.getElem?_eq_some_iff.1 h).1
theorem tyIs.turn {S : Nat → Prop} {W W' : World} (hT : Turn S W W') {t : TypeId} {k : Nat} (h : tyIs W t k) (hn : ¬ S k) : tyIs W' t k := by
  have hl := h.lt
  obtain ⟨cs, f, h⟩ := h
  exact ⟨cs, f, (hT.block k hl hn).trans h⟩
/-- One open list. -/
structure EntOk (w0 W : World) (B : Nat) (e : Ent) : Prop where
  le : e.1.length ≤ e.2.2
  cap : e.2.2 ≤ maxLen
  at_ : ∀ (i : Nat) (y : GY), e.1[i]? = some y → ∃ (a : Addr) (c0 c1 c2 c3 c4 : Value), e.2.1 = some a ∧ (a.block < B ∨ tyIs W TT a.block) ∧ (∀ (j : Nat) (v : Value), [c0, c1, c2, c3, c4][j]? = some v → W.cell? ((a.add (i * 5)).add j) = some v) ∧ IsY w0 y (.agg #[c0, c1, c2, c3, c4])
theorem add_block (a : Addr) (i : Nat) : (a.add i).block = a.block := by unfold Addr.add; split <;> rfl
theorem EntOk.turn {S : Nat → Prop} {w0 W W' : World} {B : Nat} {e : Ent} (h : EntOk w0 W B e) (hT : Turn S W W') (h1 : ∀ k, k < B → ¬ S k) (h2 : ∀ k, tyIs W TT k → ¬ S k) : EntOk w0 W' B e :=
  ⟨h.le, h.cap, fun i y hy => by
    obtain ⟨a, c0, c1, c2, c3, c4, ha, hb, hc, hi⟩ := h.at_ i y hy
    have hn : ¬ S a.block := hb.elim (h1 _) (h2 _)
    refine ⟨a, c0, c1, c2, c3, c4, ha, hb.imp id fun h => h.turn hT hn, fun j v hv => hT.cell (hc j v hv) ?_, hi⟩
    rw [add_block, add_block]
    exact hn⟩
theorem EntOk.old {w0 W : World} {o : Option Addr} {l : List GY} {c : Nat} (h1 : l.length ≤ c) (h2 : c ≤ maxLen) (h : IsYs w0 o 0 l) (hb : Below w0.heap.size w0 W) : EntOk w0 W w0.heap.size (l, o, c) :=
  ⟨h1, h2, fun i y hy => by
    obtain ⟨a, c0, c1, c2, c3, c4, ho, hc, hy⟩ := h.at_ i hy
    rw [Nat.zero_add] at hc
    refine ⟨a, c0, c1, c2, c3, c4, ho, .inl ?_, fun j v hv => (hb.cell (World.block_lt_of_cell? _ _ (hc j v hv))).trans (hc j v hv), hy⟩
    have := World.block_lt_of_cell? _ _ (hc 0 _ rfl)
    rwa [add_block, add_block] at this⟩
/-- What is left behind its first one. -/
theorem EntOk.tail {w0 W : World} {B : Nat} {y : GY} {r : List GY} {a : Addr} {c : Nat} (h : EntOk w0 W B (y :: r, some a, c)) : EntOk w0 W B (r, some (if c = 1 then a else a.add 5), c - 1) := by
  have hle : r.length + 1 ≤ c := h.le
  have hcm : c ≤ maxLen := h.cap
  refine ⟨by show r.length ≤ c - 1; omega, by show c - 1 ≤ maxLen; omega, fun i z hz => ?_⟩
  obtain ⟨a', c0, c1, c2, c3, c4, ha, hb, hc, hi⟩ := h.at_ (i + 1) z hz
  obtain rfl : a = a' := by injection ha
  have hlt : i < r.length := (List.getElem?_eq_some_iff.1 hz).1
  rw [if_neg (by omega)]
  refine ⟨a.add 5, c0, c1, c2, c3, c4, rfl, hb.imp (fun h => by rwa [add_block]) (fun h => by rwa [add_block]), fun j v hv => ?_, hi⟩
  have := hc j v hv
  rw [add_more'] at this ⊢
  rw [add_more']
  rwa [show 5 + (i * 5 + j) = (i + 1) * 5 + j by omega]

/-- All of them, in a row. -/
structure Stk (w0 W : World) (B : Nat) (o : Option Addr) (n c : Nat) (S : List Ent) : Prop where
  row : W.ownsRow B TS 1 (.slice o n c) n (eC S)
  len : S.length = n
  ents : ∀ e ∈ S, EntOk w0 W B e
theorem row_tyIs {W : World} {B : Nat} {e : TypeId} {o : Option Addr} {n c : Nat} {xs : List Value} (h : W.ownsRow B e 1 (.slice o n c) n xs) : ∀ k, (Value.slice o n c).ownBlock = some k → tyIs W e k := by
  intro k hk
  rcases h.2 with ⟨h1, _⟩ | ⟨g, cap, cur, h1, _, hg, _⟩
  · rw [h1] at hk; cases hk
  · rw [h1] at hk
    simp only [Value.ownBlock, Option.some.injEq] at hk
    subst hk
    exact ⟨cur, _, hg⟩
theorem tyIs.ne {W : World} {k : Nat} (h : tyIs W TS k) (h' : tyIs W TT k) : False := by
  obtain ⟨cs, f, h⟩ := h
  obtain ⟨cs', f', h'⟩ := h'
  rw [h] at h'
  injection h' with h'
  injection h' with _ h1
  revert h1
  decide
theorem Stk.body {w0 W W' : World} {B : Nat} {o : Option Addr} {n c : Nat} {S : List Ent} (h : Stk w0 W B o n c S) (hT : KB B W W') : Stk w0 W' B o n c S :=
  ⟨hT.row h.row fun k hk hn => hn.2.1 (row_tyIs h.row k hk), h.len, fun e he => (h.ents e he).turn hT (fun k hk hn => by omega) (fun k hk hn => hn.2.2 hk)⟩
theorem Stk.alloc {w0 W : World} {B : Nat} {o : Option Addr} {n c : Nat} {S : List Ent} (h : Stk w0 W B o n c S) (ob : Obj) : Stk w0 (W.alloc ob) B o n c S :=
  h.body ((Turn.refl _ W).alloc ob)
theorem Stk.some_ {w0 W : World} {B : Nat} {o : Option Addr} {n c : Nat} {S : List Ent} (h : Stk w0 W B o n c S) (hn : 0 < n) : ∃ g, o = some ⟨g, 0, none⟩ ∧ B ≤ g ∧ n ≤ c ∧ c ≤ maxLen ∧ tyIs W TS g := by
  rcases h.row.2 with ⟨_, h0⟩ | ⟨g, cap, cur, h1, hb, hg, h2, h3, _⟩
  · omega
  · simp only [Value.slice.injEq] at h1
    obtain ⟨rfl, _, rfl⟩ := h1
    exact ⟨g, rfl, hb, h2, h3, ⟨cur, _, hg⟩⟩
theorem eC_cons (e : Ent) (S : List Ent) : eC (e :: S) = eC S ++ [e.val] := by unfold eC; simp
theorem eC_len (S : List Ent) : (eC S).length = S.length := by unfold eC; simp
theorem Stk.top {w0 W : World} {B g n c : Nat} {e : Ent} {S : List Ent} (h : Stk w0 W B (some ⟨g, 0, none⟩) (n + 1) c (e :: S)) : W.cell? ⟨g, n, none⟩ = some e.val ∧ W.frozen? ⟨g, n, none⟩ = false := by
  have hl : S.length = n := by have := h.len; simpa using this
  refine ⟨?_, h.row.frozenAt n⟩
  rw [h.row.cellAt n (by omega), eC_cons, List.getElem?_append_right (by rw [eC_len, hl]; exact Nat.le_refl _), eC_len, hl, Nat.sub_self]
  rfl
/-- The last one closed. -/
theorem Stk.pop {w0 W : World} {B g n c : Nat} {e : Ent} {S : List Ent} (h : Stk w0 W B (some ⟨g, 0, none⟩) (n + 1) c (e :: S)) : Stk w0 W B (some ⟨g, 0, none⟩) n c S := by
  have hl : S.length = n := by have := h.len; simpa using this
  refine ⟨⟨by rw [eC_len, hl]; omega, ?_⟩, hl, fun e he => h.ents e (List.mem_cons_of_mem _ he)⟩
  rcases h.row.2 with ⟨h1, _⟩ | ⟨g', cap, cur, h1, hb, hg, h2, h3, h4, h5⟩
  · simp at h1
  · simp only [Value.slice.injEq, Option.some.injEq, Addr.mk.injEq, true_and, and_true] at h1
    obtain ⟨rfl, rfl⟩ := h1
    refine .inr ⟨g, c, cur, rfl, hb, hg, by omega, h3, h4, ?_⟩
    rw [eC_cons] at h5
    have h6 : (List.take ((n + 1) * 1) cur.toList).take n = eC S := by
      rw [h5, List.take_append_of_le_length (by rw [eC_len]; omega), List.take_of_length_le (by rw [eC_len]; omega)]
    rw [List.take_take, show min n ((n + 1) * 1) = n * 1 by omega] at h6
    exact h6
/-- The last one's first one taken. -/
theorem Stk.put {w0 W : World} {B g n c : Nat} {e e' : Ent} {S : List Ent} (h : Stk w0 W B (some ⟨g, 0, none⟩) (n + 1) c (e :: S)) (he : EntOk w0 W B e') :
    Stk w0 (W.setCell ⟨g, n, none⟩ e'.val) B (some ⟨g, 0, none⟩) (n + 1) c (e' :: S) ∧ KI B W (W.setCell ⟨g, n, none⟩ e'.val) := by
  have hl : S.length = n := by have := h.len; simpa using this
  have hg : tyIs W TS g := row_tyIs h.row g rfl
  have hB : B ≤ g := (h.row.lt g rfl).1
  have hT : KI B W (W.setCell ⟨g, n, none⟩ e'.val) := Turn.setCell (p := ⟨g, n, none⟩) (Turn.refl _ W) (fun _ => ⟨hB, hg⟩) _
  have hk : ∀ x, EntOk w0 W B x → EntOk w0 (W.setCell ⟨g, n, none⟩ e'.val) B x := fun x hx => hx.turn hT (fun k hk hn => by omega) (fun k hk hn => hn.2.ne hk)
  refine ⟨⟨?_, by simp [hl], fun x hx => ?_⟩, hT⟩
  · have h1 := (h.row.stored n e'.val).1
    have e1 : (eC (e :: S)).set n e'.val = eC (e' :: S) := by
      rw [eC_cons, eC_cons, List.set_append_right _ _ (by rw [eC_len]; omega), eC_len, hl, Nat.sub_self]
      rfl
    rwa [e1] at h1
  · rcases List.mem_cons.1 hx with rfl | hx
    · exact hk _ he
    · exact hk _ (h.ents x (List.mem_cons_of_mem _ hx))
theorem infoTS : (Try.prog.info? TS).map (fun i => (i.zero, i.size, i.bytes)) = some (some (.slice none 0 0), 1, 24) := by kernel_rfl

end Go.Proofs.Ytofdejoeheokjaa
