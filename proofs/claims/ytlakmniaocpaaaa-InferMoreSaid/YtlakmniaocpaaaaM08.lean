/-
  A type's parts, one by one: the iterator. Condition: at most a thousand parts.
  A type's parts, one by one: the iterator's walk. Condition: at most a thousand parts.
  The range over a type's parts, its body told what has come. Condition: at most a thousand parts.
-/
import Derived.Test.YtlakmniaocpaaaaM03
import Derived.Sort.LoopGhostIn
import Derived.Shelf.RegionOpen
import Derived.Shelf.Abstract
import Derived.LoopNIn
import Derived.LoopIn
namespace Go.Proofs.Ytlakmniaocpaaaa
open Go.RowKit Go.Shelf
open Go.Lib hiding intOf
/-! ### a struct read, and stored into a new box, within a fence -/
section
variable {F : Fence} {fn : Nat} {ops : Array Oper} {rest : List Oper} {o : Oper} {a : Act} {w : World} {Q : Exit → Act → World → Prop}
theorem boxLoadIn (T : TypeId) (n : Nat) (hi : (Try.prog.info? T).map (·.size) = some n) {fs : _} (hu : Try.prog.underlying T = some (.struct fs)) (hgd : o.guard = none) (x : Operand) (ho : o.op = .load T x) (g : Addr) (hx : a.eval x = .pointer (some g)) {cs : List Value} (hc : ∀ (j : Nat) (v : Value), cs[j]? = some v → w.cell? (g.add j) = some v) (hs : cs.length = n)
    (h : wpListIn F fn Try.prog ops Q rest (a.put o.dst (.agg cs.toArray)) w) : wpListIn F fn Try.prog ops Q (o :: rest) a w := by
  have hr := run_loadG T n hi hu x ho g hx hc hs
  refine wpListIn_plain hgd fun K hK => ?_
  unfold Oper.wpIn
  refine ⟨?_, ?_⟩
  · simp [Oper.about, ho]
  · rw [Oper.semAt_plain F _ _ (by rw [ho]; intro c hc'; cases hc'), hr]
    exact hK _ _ h
theorem boxNewIn (T : TypeId) (n : Nat) (hi : (Try.prog.info? T).map (·.size) = some n) (hgd : o.guard = none) (x y : Operand) (ho : o.op = .store T x y) {t : TypeId} {old : Array Value} (g : Nat) (hgw : w.heap.size = g) (hx : a.eval x = .pointer (some ⟨g, 0, none⟩)) (cs : List Value) (hy : a.eval y = .agg cs.toArray) (hold : old.size = n) (hs : cs.length = n) (h1 : cs.all (·.oneCell') = true)
    (h : wpListIn F fn Try.prog ops Q rest (a.put o.dst undef) (w.alloc (.cells cs.toArray t))) : wpListIn F fn Try.prog ops Q (o :: rest) a (w.alloc (.cells old t)) := by
  subst hgw
  have hg : Blk (w.alloc (.cells old t)) w.heap.size t old := Blk.new w t old
  have hst := run_storeCells_cells (P := Try.prog) w.heap.size 0 cs 0 (w.alloc (.cells old t)) (fun j hj => by
      rw [hg.cell, Array.getElem?_eq_getElem (by omega)]; rfl)
    (fun j _ => hg.frozen _) (by simpa using h1)
  have hold' : old = old.toList.toArray := by simp
  have hg' : Blk (w.alloc (.cells old t)) w.heap.size t old.toList.toArray := by rw [← hold']; exact hg
  rw [Nat.add_zero, setCells_row _ _ _ _ hg'] at hst
  have hp : ∀ (vs cur pre : List Value) (i : Nat), pre.length = i → (pre ++ cur).length = i + vs.length → putL (pre ++ cur) i vs = pre ++ vs := by
    intro vs
    induction vs with
    | nil => intro cur pre i hi hl; simp only [putL]; have : cur = [] := List.length_eq_zero_iff.1 (by simp at hl; omega); rw [this]
    | cons v r ih =>
      intro cur pre i hi hl
      cases cur with
      | nil => simp at hl; omega
      | cons z q =>
        have e : (pre ++ z :: q).set i v = (pre ++ [v]) ++ q := by
          rw [List.set_append_right _ _ (by omega), hi, Nat.sub_self]; simp
        simp only [putL]
        rw [e, ih q (pre ++ [v]) (i + 1) (by simp [hi]) (by simp at hl ⊢; omega)]
        simp
  have hpl := hp cs old.toList [] 0 rfl (by simp; omega)
  simp only [List.nil_append] at hpl
  rw [hpl, World.setRow_alloc_new] at hst
  have hsv := run_storeVar_at (P := Try.prog) (w.alloc (.cells old t)) _ ⟨w.heap.size, 0, none⟩ T cs.toArray (by rw [hi, List.size_toArray, hs]) (by simpa using hst)
  refine wpListIn_plain hgd fun K hK => ?_
  unfold Oper.wpIn
  refine ⟨?_, ?_⟩
  · simp [Oper.about, ho]
  · rw [Oper.semAt_plain F _ _ (by rw [ho]; intro c hc'; cases hc')]
    unfold execOp
    simp only [ho, hx, hy, Instr.storeAt, Instr.sureAddr, Sem.run_bind, Sem.run_pure, Result.andThen_ok, hsv]
    exact hK _ _ h
end
/-! ### the parts, plainly -/
mutual
def preY : GY → List GY
  | .mk k p m n l => .mk k p m n l :: preYs l
def preYs : List GY → List GY
  | [] => []
  | y :: r => preY y ++ preYs r
end
theorem preY_eq (y : GY) : preY y = y :: preYs y.args := by
  cases y
  rw [preY]
  rfl
mutual
theorem pre_len : ∀ y : GY, (preY y).length = cntY y
  | .mk k p m n l => by rw [preY, cntY, List.length_cons, pres_len l]; omega
theorem pres_len : ∀ l : List GY, (preYs l).length = cntYs l
  | [] => by rw [preYs, cntYs]; rfl
  | y :: r => by rw [preYs, cntYs, List.length_append, pre_len y, pres_len r]
end
/-! ### what is still open -/
abbrev Ent := List GY × Option Addr × Nat
def Ent.val (e : Ent) : Value := .slice e.2.1 e.1.length e.2.2
def remS : List Ent → List GY
  | [] => []
  | e :: S => preYs e.1 ++ remS S
def eC (S : List Ent) : List Value := S.reverse.map Ent.val
def tyIs (W : World) (t : TypeId) (k : Nat) : Prop := ∃ cs f, W.heap[k]? = some (.cells cs t f)
abbrev TS := 23
abbrev TT := 34
/-- What a round's body leaves: blocks of types, and of rows of types, and what was there at first. -/
abbrev KB (B : Nat) (W W' : World) : Prop := Turn (fun k => B ≤ k ∧ ¬ tyIs W TS k ∧ ¬ tyIs W TT k) W W'
/-- What the iterator leaves: all but blocks of rows. -/
abbrev KI (B : Nat) (W W' : World) : Prop := Turn (fun k => B ≤ k ∧ tyIs W TS k) W W'
theorem tyIs.lt {W : World} {t : TypeId} {k : Nat} (h : tyIs W t k) : k < W.heap.size := by
  obtain ⟨cs, f, h⟩ := h
  exact (Array.getElem?_eq_some_iff.1 h).1
theorem tyIs.turn {S : Nat → Prop} {W W' : World} (hT : Turn S W W') {t : TypeId} {k : Nat} (h : tyIs W t k) (hn : ¬ S k) : tyIs W' t k := by
  have hl := h.lt
  obtain ⟨cs, f, h⟩ := h
  exact ⟨cs, f, (hT.block k hl hn).trans h⟩
/-- One open list. -/
structure EntOk (w0 W : World) (B : Nat) (e : Ent) : Prop where
  le : e.1.length ≤ e.2.2
  cap : e.2.2 ≤ maxLen
  at_ : ∀ (i : Nat) (y : GY), e.1[i]? = some y → ∃ (a : Addr) (c0 c1 c2 c3 c4 : Value), e.2.1 = some a ∧ (a.block < B ∨ tyIs W TT a.block) ∧ (∀ (j : Nat) (v : Value), [c0, c1, c2, c3, c4][j]? = some v → W.cell? ((a.add (i * 5)).add j) = some v) ∧ IsY w0 y (.agg #[c0, c1, c2, c3, c4])
theorem add_block (a : Addr) (i : Nat) : (a.add i).block = a.block := by unfold Addr.add; split <;> rfl
theorem EntOk.turn {S : Nat → Prop} {w0 W W' : World} {B : Nat} {e : Ent} (h : EntOk w0 W B e) (hT : Turn S W W') (h1 : ∀ k, k < B → ¬ S k) (h2 : ∀ k, tyIs W TT k → ¬ S k) : EntOk w0 W' B e :=
  ⟨h.le, h.cap, fun i y hy => by
    obtain ⟨a, c0, c1, c2, c3, c4, ha, hb, hc, hi⟩ := h.at_ i y hy
    have hn : ¬ S a.block := hb.elim (h1 _) (h2 _)
    refine ⟨a, c0, c1, c2, c3, c4, ha, hb.imp id fun h => h.turn hT hn, fun j v hv => hT.cell (hc j v hv) ?_, hi⟩
    rw [add_block, add_block]
    exact hn⟩
theorem EntOk.old {w0 W : World} {o : Option Addr} {l : List GY} {c : Nat} (h1 : l.length ≤ c) (h2 : c ≤ maxLen) (h : IsYs w0 o 0 l) (hb : Below w0.heap.size w0 W) : EntOk w0 W w0.heap.size (l, o, c) :=
  ⟨h1, h2, fun i y hy => by
    obtain ⟨a, c0, c1, c2, c3, c4, ho, hc, hy⟩ := h.at_ i hy
    rw [Nat.zero_add] at hc
    refine ⟨a, c0, c1, c2, c3, c4, ho, .inl ?_, fun j v hv => (hb.cell (World.block_lt_of_cell? _ _ (hc j v hv))).trans (hc j v hv), hy⟩
    have := World.block_lt_of_cell? _ _ (hc 0 _ rfl)
    rwa [add_block, add_block] at this⟩
/-- What is left behind its first one. -/
theorem EntOk.tail {w0 W : World} {B : Nat} {y : GY} {r : List GY} {a : Addr} {c : Nat} (h : EntOk w0 W B (y :: r, some a, c)) : EntOk w0 W B (r, some (if c = 1 then a else a.add 5), c - 1) := by
  have hle : r.length + 1 ≤ c := h.le
  have hcm : c ≤ maxLen := h.cap
  refine ⟨by show r.length ≤ c - 1; omega, by show c - 1 ≤ maxLen; omega, fun i z hz => ?_⟩
  obtain ⟨a', c0, c1, c2, c3, c4, ha, hb, hc, hi⟩ := h.at_ (i + 1) z hz
  obtain rfl : a = a' := by injection ha
  have hlt : i < r.length := (List.getElem?_eq_some_iff.1 hz).1
  rw [if_neg (by omega)]
  refine ⟨a.add 5, c0, c1, c2, c3, c4, rfl, hb.imp (fun h => by rwa [add_block]) (fun h => by rwa [add_block]), fun j v hv => ?_, hi⟩
  have := hc j v hv
  rw [add_more'] at this ⊢
  rw [add_more']
  rwa [show 5 + (i * 5 + j) = (i + 1) * 5 + j by omega]
/-- All of them, in a row. -/
structure Stk (w0 W : World) (B : Nat) (o : Option Addr) (n c : Nat) (S : List Ent) : Prop where
  row : W.ownsRow B TS 1 (.slice o n c) n (eC S)
  len : S.length = n
  ents : ∀ e ∈ S, EntOk w0 W B e
theorem row_tyIs {W : World} {B : Nat} {e : TypeId} {o : Option Addr} {n c : Nat} {xs : List Value} (h : W.ownsRow B e 1 (.slice o n c) n xs) : ∀ k, (Value.slice o n c).ownBlock = some k → tyIs W e k := by
  intro k hk
  rcases h.2 with ⟨h1, _⟩ | ⟨g, cap, cur, h1, _, hg, _⟩
  · rw [h1] at hk; cases hk
  · rw [h1] at hk
    simp only [Value.ownBlock, Option.some.injEq] at hk
    subst hk
    exact ⟨cur, _, hg⟩
theorem tyIs.ne {W : World} {k : Nat} (h : tyIs W TS k) (h' : tyIs W TT k) : False := by
  obtain ⟨cs, f, h⟩ := h
  obtain ⟨cs', f', h'⟩ := h'
  rw [h] at h'
  injection h' with h'
  injection h' with _ h1
  revert h1
  decide
theorem Stk.body {w0 W W' : World} {B : Nat} {o : Option Addr} {n c : Nat} {S : List Ent} (h : Stk w0 W B o n c S) (hT : KB B W W') : Stk w0 W' B o n c S :=
  ⟨hT.row h.row fun k hk hn => hn.2.1 (row_tyIs h.row k hk), h.len, fun e he => (h.ents e he).turn hT (fun k hk hn => by omega) (fun k hk hn => hn.2.2 hk)⟩
theorem Stk.alloc {w0 W : World} {B : Nat} {o : Option Addr} {n c : Nat} {S : List Ent} (h : Stk w0 W B o n c S) (ob : Obj) : Stk w0 (W.alloc ob) B o n c S :=
  h.body ((Turn.refl _ W).alloc ob)
theorem Stk.some_ {w0 W : World} {B : Nat} {o : Option Addr} {n c : Nat} {S : List Ent} (h : Stk w0 W B o n c S) (hn : 0 < n) : ∃ g, o = some ⟨g, 0, none⟩ ∧ B ≤ g ∧ n ≤ c ∧ c ≤ maxLen ∧ tyIs W TS g := by
  rcases h.row.2 with ⟨_, h0⟩ | ⟨g, cap, cur, h1, hb, hg, h2, h3, _⟩
  · omega
  · simp only [Value.slice.injEq] at h1
    obtain ⟨rfl, _, rfl⟩ := h1
    exact ⟨g, rfl, hb, h2, h3, ⟨cur, _, hg⟩⟩
theorem eC_cons (e : Ent) (S : List Ent) : eC (e :: S) = eC S ++ [e.val] := by unfold eC; simp
theorem eC_len (S : List Ent) : (eC S).length = S.length := by unfold eC; simp
theorem Stk.top {w0 W : World} {B g n c : Nat} {e : Ent} {S : List Ent} (h : Stk w0 W B (some ⟨g, 0, none⟩) (n + 1) c (e :: S)) : W.cell? ⟨g, n, none⟩ = some e.val ∧ W.frozen? ⟨g, n, none⟩ = false := by
  have hl : S.length = n := by have := h.len; simpa using this
  refine ⟨?_, h.row.frozenAt n⟩
  rw [h.row.cellAt n (by omega), eC_cons, List.getElem?_append_right (by rw [eC_len, hl]; exact Nat.le_refl _), eC_len, hl, Nat.sub_self]
  rfl
/-- The last one closed. -/
theorem Stk.pop {w0 W : World} {B g n c : Nat} {e : Ent} {S : List Ent} (h : Stk w0 W B (some ⟨g, 0, none⟩) (n + 1) c (e :: S)) : Stk w0 W B (some ⟨g, 0, none⟩) n c S := by
  have hl : S.length = n := by have := h.len; simpa using this
  refine ⟨⟨by rw [eC_len, hl]; omega, ?_⟩, hl, fun e he => h.ents e (List.mem_cons_of_mem _ he)⟩
  rcases h.row.2 with ⟨h1, _⟩ | ⟨g', cap, cur, h1, hb, hg, h2, h3, h4, h5⟩
  · simp at h1
  · simp only [Value.slice.injEq, Option.some.injEq, Addr.mk.injEq, true_and, and_true] at h1
    obtain ⟨rfl, rfl⟩ := h1
    refine .inr ⟨g, c, cur, rfl, hb, hg, by omega, h3, h4, ?_⟩
    rw [eC_cons] at h5
    have h6 : (List.take ((n + 1) * 1) cur.toList).take n = eC S := by
      rw [h5, List.take_append_of_le_length (by rw [eC_len]; omega), List.take_of_length_le (by rw [eC_len]; omega)]
    rw [List.take_take, show min n ((n + 1) * 1) = n * 1 by omega] at h6
    exact h6
/-- The last one's first one taken. -/
theorem Stk.put {w0 W : World} {B g n c : Nat} {e e' : Ent} {S : List Ent} (h : Stk w0 W B (some ⟨g, 0, none⟩) (n + 1) c (e :: S)) (he : EntOk w0 W B e') :
    Stk w0 (W.setCell ⟨g, n, none⟩ e'.val) B (some ⟨g, 0, none⟩) (n + 1) c (e' :: S) ∧ KI B W (W.setCell ⟨g, n, none⟩ e'.val) := by
  have hl : S.length = n := by have := h.len; simpa using this
  have hg : tyIs W TS g := row_tyIs h.row g rfl
  have hB : B ≤ g := (h.row.lt g rfl).1
  have hT : KI B W (W.setCell ⟨g, n, none⟩ e'.val) := Turn.setCell (p := ⟨g, n, none⟩) (Turn.refl _ W) (fun _ => ⟨hB, hg⟩) _
  have hk : ∀ x, EntOk w0 W B x → EntOk w0 (W.setCell ⟨g, n, none⟩ e'.val) B x := fun x hx => hx.turn hT (fun k hk hn => by omega) (fun k hk hn => hn.2.ne hk)
  refine ⟨⟨?_, by simp [hl], fun x hx => ?_⟩, hT⟩
  · have h1 := (h.row.stored n e'.val).1
    have e1 : (eC (e :: S)).set n e'.val = eC (e' :: S) := by
      rw [eC_cons, eC_cons, List.set_append_right _ _ (by rw [eC_len]; omega), eC_len, hl, Nat.sub_self]
      rfl
    rwa [e1] at h1
  · rcases List.mem_cons.1 hx with rfl | hx
    · exact hk _ he
    · exact hk _ (h.ents x (List.mem_cons_of_mem _ hx))
theorem infoTS : (Try.prog.info? TS).map (fun i => (i.zero, i.size, i.bytes)) = some (some (.slice none 0 0), 1, 24) := by kernel_rfl
end Go.Proofs.Ytlakmniaocpaaaa
namespace Go.Proofs.Ytlakmniaocpaaaa
open Go.RowKit Go.Shelf
open Go.Lib hiding intOf
attribute [local go_sem] Oper.semAt_some
theorem fresh_row (W : World) (B : Nat) (hB : B ≤ W.heap.size) (e : TypeId) (v : Value) : (W.alloc (.cells #[v] e)).ownsRow B e 1 (.slice (some ⟨W.heap.size, 0, none⟩) 1 1) 1 [v] :=
  ⟨rfl, .inr ⟨W.heap.size, 1, #[v], rfl, hB, World.alloc_heap_new W _, Nat.le_refl _, by decide, rfl, rfl⟩⟩
theorem row_val {W : World} {B : Nat} {e : TypeId} {v : Value} {n : Nat} {xs : List Value} (h : W.ownsRow B e 1 v n xs) : ∃ o c, v = .slice o n c := by
  rcases h.2 with ⟨h1, h2⟩ | ⟨g, cap, cur, h1, _⟩
  · exact ⟨none, 0, by rw [h1, h2]⟩
  · exact ⟨_, cap, h1⟩
/-- An append leaves all but the row. -/
theorem ki_moves {W W' : World} {B n k : Nat} {v : Value} {xs : List Value} (h : W.grownBy W' none ∨ ∃ g cap cur, v = .slice (some ⟨g, 0, none⟩) n cap ∧ W.grownBy W' (some g) ∧ Blk W g TS cur ∧ cur.size = cap * 1 ∧ n + k ≤ cap) (hrow : W.ownsRow B TS 1 v n xs) : KI B W W' := by
  rcases h with h | ⟨g, cap, cur, rfl, h, hb, _⟩
  · exact (Turn.of_grown h).mono fun k _ hk => by cases hk
  · exact (Turn.of_grown h).mono fun k _ hk => by
      obtain rfl : k = g := by injection hk
      exact ⟨(hrow.lt k rfl).1, _, _, hb⟩
set_option maxRecDepth 100000 in
set_option maxHeartbeats 8000000 in
theorem parts1_in (n : Nat) (hn : 1 ≤ n) (l bx : Nat) (w0 : World) (t : GY) (hcnt : cntY t ≤ 1000) (c0 c1 c2 c3 c4 : Value) (ht : IsY w0 t (.agg #[c0, c1, c2, c3, c4])) (J Jx : List GY → World → Prop)
    (hJ : ∀ pre W W', J pre W → KI w0.heap.size W W' → J pre W') (hJB : ∀ pre W, J pre W → Below w0.heap.size w0 W)
    (hY : ∀ pre x v W, J pre W → IsY w0 x v → pre ++ [x] <+: preY t → YieldAt Fence.wide (n - 1) Try.prog l #[v] W fun e W' =>
      (e = .returned (.bool true) ∧ J (pre ++ [x]) W' ∧ KB w0.heap.size W W') ∨ (e = .returned (.bool false) ∧ Jx (pre ++ [x]) W'))
    (W : World) (hT : Blk W bx TT #[c0, c1, c2, c3, c4]) (h0 : J [] W) :
    CallsIn Fence.wide n Try.prog 47 #[.func (.yield l) #[] #[], .pointer (some ⟨bx, 0, none⟩)] W fun e W' => (∃ v, e = .returned v) ∧ (J (preY t) W' ∨ ∃ pre, pre <+: preY t ∧ Jx pre W') := by
  refine callsIn_of_wp Try.func47 rfl trivial ?_ rfl
  simp only [Try.ntmps47, List.size_toArray, List.length_cons, List.length_nil, Nat.reduceAdd, Nat.reduceSub, Array.replicate_succ, Array.replicate_zero, List.push_toArray, List.append_toArray, List.nil_append, List.cons_append]
  have HY := Lib.hid hY
  have HJ := Lib.hid hJ
  have HJB := Lib.hid hJB
  have HT := Lib.hid ht
  have HC := Lib.hid hcnt
  have HBX : Hid (∀ (j : Nat) (v : Value), [c0, c1, c2, c3, c4][j]? = some v → W.cell? ((⟨bx, 0, none⟩ : Addr).add j) = some v) := fun j v h => by
    have e : (⟨bx, 0, none⟩ : Addr).add j = ⟨bx, j, none⟩ := by unfold Addr.add; split <;> simp_all
    rw [e, hT.cell]
    simpa using h
  have HB0 := Lib.hid (hJB _ _ h0).size
  obtain ⟨W1, hW1⟩ : ∃ W1, (W.alloc (.cells #[c0, c1, c2, c3, c4] 34)).alloc (.cells #[.slice (some ⟨W.heap.size, 0, none⟩) 1 1] 23) = W1 := ⟨_, rfl⟩
  have hKI : KI w0.heap.size W W1 := by rw [← hW1]; exact ((Turn.refl _ W).alloc _).alloc _
  have hS1 : Stk w0 W1 w0.heap.size (some ⟨W.heap.size + 1, 0, none⟩) 1 1 [([t], some ⟨W.heap.size, 0, none⟩, 1)] := by
    refine ⟨?_, rfl, fun e he => ?_⟩
    · rw [← hW1]
      have := fresh_row (W.alloc (.cells #[c0, c1, c2, c3, c4] 34)) w0.heap.size (by rw [World.size_alloc]; have := HB0.out; omega) TS (.slice (some ⟨W.heap.size, 0, none⟩) 1 1)
      rw [World.size_alloc] at this
      exact this
    · rw [List.mem_singleton.1 he]
      have hb : Blk W1 W.heap.size TT #[c0, c1, c2, c3, c4] := by rw [← hW1]; exact (Blk.new W _ _).kept (World.grownBy_alloc _ _ none) (by simp)
      refine ⟨Nat.le_refl _, by show 1 ≤ maxLen; decide, fun i y hy => ?_⟩
      have hi : i = 0 := by have := (List.getElem?_eq_some_iff.1 hy).1; simpa using this
      subst hi
      obtain rfl : t = y := by simpa using hy
      refine ⟨⟨W.heap.size, 0, none⟩, c0, c1, c2, c3, c4, rfl, .inr ⟨_, _, hb⟩, fun j v h => ?_, ht⟩
      have e : ((⟨W.heap.size, 0, none⟩ : Addr).add (0 * 5)).add j = ⟨W.heap.size, j, none⟩ := by unfold Addr.add; split <;> split <;> simp_all
      rw [e, hb.cell]
      simpa using h
  have H0 := Lib.hid (hJ _ _ _ h0 hKI)
  have HS1 := Lib.hid hS1
  have HW1 := Lib.hid hW1
  clear hY hJ hJB ht hcnt hT h0 hW1 hKI hS1
  gi_wp2_with (refine boxLoadIn 34 5 size5 Try.underlying34 rfl _ rfl ⟨bx, 0, none⟩ rfl HBX.out rfl ?_)
  change Code.wpIn Fence.wide n Try.prog _ _ _ ((W.alloc (.cells #[c0, c1, c2, c3, c4] 34)).alloc (.cells #[.slice (some ⟨W.heap.size, 0, none⟩) 1 1] 23))
  rw [HW1.out]
  clear HW1 HBX HB0
  gi_loopg [3] 3000 (fun gg a wr => ∃ (pre : List GY) (S : List Ent) (o : Option Addr) (m c : Nat), a = .slice o m c ∧ Hid (pre ++ remS S = preY t) ∧ Hid (J pre wr) ∧ Hid (Stk w0 wr w0.heap.size o m c S) ∧ Hid (m ≤ pre.length + 1) ∧ Hid (2 * (remS S).length + m ≤ gg))
  case atStart =>
    refine ⟨[], [([t], some ⟨W.heap.size, 0, none⟩, 1)], _, 1, 1, rfl, ?_, H0, HS1, by show _ ≤ _; simp, ?_⟩
    · show _ = _
      simp only [remS, preYs, List.append_nil, List.nil_append]
    · show _ ≤ _
      simp only [remS, preYs, List.append_nil]
      rw [pre_len]
      have := HC.out
      omega
  case round =>
    obtain ⟨pre, S, o, m, c, rfl, HP, HJP, HS, HM, HG⟩ := hrel
    clear H0 HS1
    have HPL : Hid (pre.length ≤ 1000) := by
      have h1 := congrArg List.length HP.out
      rw [List.length_append, pre_len] at h1
      have := HC.out
      show _ ≤ _
      omega
    cases S with
    | nil =>
      obtain rfl : 0 = m := HS.out.len
      have hp := HP.out
      simp only [remS, List.append_nil] at hp
      have HPP := Lib.hid hp
      clear hp
      gi_wp2
      go_end0
      exact ⟨⟨_, rfl⟩, .inl (HPP.out ▸ HJP.out)⟩
    | cons e S =>
      obtain ⟨m, rfl⟩ : ∃ m', m = m' + 1 := ⟨m - 1, by have := HS.out.len; simp at this; omega⟩
      obtain ⟨g, rfl, hgB, hmc, hcm, hgt⟩ := HS.out.some_ (Nat.succ_pos m)
      obtain ⟨hct, hft⟩ := HS.out.top
      have hm3 : m ≤ 2000 := by have := HM.out; have := HPL.out; omega
      have hmc' : (m : Int) ≤ (c : Int) := by omega
      obtain ⟨l', o', c'⟩ := e
      have hent := HS.out.ents _ (List.mem_cons_self ..)
      have HE := Lib.hid hent
      have hle := HE.out.le
      cases l' with
      | nil =>
        simp only [Ent.val, List.length_nil] at hct
        obtain ⟨gg, rfl⟩ : ∃ g', gk = g' + 1 := ⟨gk - 1, by have := HG.out; omega⟩
        have HS2 := Lib.hid HS.out.pop
        have HP2 : Hid (pre ++ remS S = preY t) := by have := HP.out; simp only [remS, preYs, List.nil_append] at this; exact this
        have HG2 : Hid (2 * (remS S).length + m ≤ gg) := by have := HG.out; simp only [remS, preYs, List.nil_append] at this; show _ ≤ _; omega
        have HM2 : Hid (m ≤ pre.length + 1) := by have := HM.out; show _ ≤ _; omega
        clear hent hle HE HS HP HG HM hgt
        gi_wp2
        gi_roundg gg
        case measure => omega
        case rel => exact ⟨pre, S, _, m, c, rfl, HP2, HJP, HS2, HM2, HG2⟩
      | cons y r =>
        obtain ⟨a, d0, d1, d2, d3, d4, ho, hab, hcy, hy⟩ := hent.at_ 0 y rfl
        obtain rfl : o' = some a := ho
        have HCY : Hid (∀ (j : Nat) (v : Value), [d0, d1, d2, d3, d4][j]? = some v → wr.cell? (a.add j) = some v) := hcy
        obtain ⟨yk, yp, ym, yn, yl⟩ := y
        obtain ⟨oy, cy, hyv, hyl, hyc, hys⟩ := hy.parts
        simp only [Value.agg.injEq, Array.mk.injEq, List.cons.injEq, and_true] at hyv
        obtain ⟨rfl, rfl, rfl, rfl, rfl⟩ := hyv
        have HYY := Lib.hid hy
        have HYL := Lib.hid hyl
        have HYC := Lib.hid hyc
        have HYS := Lib.hid hys
        obtain ⟨w2, hw2⟩ : ∃ w2, wr.alloc (.cells #[.int .i64 yk, .string yp, .string ym, .int .i64 yn, .slice oy yl.length cy] 34) = w2 := ⟨_, rfl⟩
        have hS2 : Stk w0 w2 w0.heap.size (some ⟨g, 0, none⟩) (m + 1) c (((GY.mk yk yp ym yn yl) :: r, some a, c') :: S) := by rw [← hw2]; exact HS.out.alloc _
        have HK2 : Hid (Blk w2 wr.heap.size 34 #[.int .i64 yk, .string yp, .string ym, .int .i64 yn, .slice oy yl.length cy]) := by rw [← hw2]; exact Blk.new wr _ _
        have HJ2 : Hid (J pre w2) := by rw [← hw2]; exact HJ.out _ _ _ HJP.out ((Turn.refl _ wr).alloc _)
        obtain ⟨hct2, hft2⟩ := hS2.top
        have HW2 := Lib.hid hw2
        have HS2 := Lib.hid hS2
        have hgs : g < wr.heap.size := hgt.lt
        simp only [Ent.val, List.length_cons] at hct hct2
        have hl1 : r.length + 1 ≤ c' := hle
        have hcc : c' ≤ maxLen := HE.out.cap
        have hcc2 : (c' : Int) ≤ 9223372036854775807 := by unfold maxLen at hcc; omega
        have hlc : ((r.length : Int) + 1) ≤ (c' : Int) := by omega
        clear hent hle HE hcy hy hyl hyc hys hw2 hab hcc hgt
        obtain ⟨i0, hi, hz0, hz1, hz2⟩ := info_parts infoTS
        by_cases hc1 : c' = 1
        · subst hc1
          obtain rfl : r = [] := List.length_eq_zero_iff.1 (by omega)
          simp only [List.length_nil, Nat.zero_add] at hct hct2
          clear hl1 hlc hcc2
          have hS3 := hS2.put (e' := ([], some a, 0)) (by have := (hS2.ents _ (List.mem_cons_self ..)).tail; rw [if_pos rfl] at this; exact this)
          obtain ⟨hS3, hK3⟩ := hS3
          obtain ⟨w3, hw3⟩ : ∃ w3, w2.setCell ⟨g, m, none⟩ (.slice (some a) 0 0) = w3 := ⟨_, rfl⟩
          have hew : w2.setCell ⟨g, m, none⟩ (Ent.val ([], some a, 0)) = w3 := hw3
          rw [hew] at hS3 hK3
          have HJ3 : Hid (J pre w3) := HJ.out _ _ _ HJ2.out hK3
          have HK3 : Hid (Blk w3 wr.heap.size 34 #[.int .i64 yk, .string yp, .string ym, .int .i64 yn, .slice oy yl.length cy]) := by rw [← hw3]; exact HK2.out.far (by show wr.heap.size ≠ g; omega) _
          have HC3 : Hid (∀ (j : Nat) (v : Value), [Value.int .i64 yk, .string yp, .string ym, .int .i64 yn, .slice oy yl.length cy][j]? = some v → w3.cell? ((⟨wr.heap.size, 0, none⟩ : Addr).add j) = some v) := fun j v h => by
            have e : (⟨wr.heap.size, 0, none⟩ : Addr).add j = ⟨wr.heap.size, j, none⟩ := by unfold Addr.add; split <;> simp_all
            rw [e, HK3.out.cell]
            simpa using h
          have hpre : pre ++ [GY.mk yk yp ym yn yl] <+: preY t := ⟨preYs yl ++ (remS S), by rw [← HP.out]; simp [remS, preYs, preY]⟩
          obtain ⟨fn, tmps, assign, body, hyr, hR⟩ := HY.out pre (GY.mk yk yp ym yn yl) _ w3 HJ3.out HYY.out hpre
          have HRR := Lib.hid hR
          have HPre := Lib.hid hpre
          have HS3 := Lib.hid hS3
          have HW3 := Lib.hid hw3
          clear hS3 hK3 hw3 hew hR hpre hS2
          gi_wp2_with (first
            | (refine boxLoadIn 34 5 size5 Try.underlying34 rfl _ rfl _ rfl (cs := [.int .i64 yk, .string yp, .string ym, .int .i64 yn, .slice oy yl.length cy]) HCY.out rfl ?_) | (refine boxNewIn 34 5 size5 rfl _ _ rfl _ rfl rfl [.int .i64 yk, .string yp, .string ym, .int .i64 yn, .slice oy yl.length cy] rfl rfl rfl rfl ?_; change wpListIn _ _ _ _ _ _ _ (wr.alloc (.cells #[.int .i64 yk, .string yp, .string ym, .int .i64 yn, .slice oy yl.length cy] 34)); rw [HW2.out])
            | (change wpListIn _ _ _ _ _ _ _ (w2.setCell ⟨g, m, none⟩ (.slice (some a) 0 0)); rw [HW3.out]; refine boxLoadIn 34 5 size5 Try.underlying34 rfl _ rfl ⟨wr.heap.size, 0, none⟩ rfl (cs := [.int .i64 yk, .string yp, .string ym, .int .i64 yn, .slice oy yl.length cy]) HC3.out rfl ?_))
          refine HRR.out.mono ?_
          clear hct hct2 hft hft2
          rintro e w4 (⟨rfl, hJ4, hk4⟩ | ⟨rfl, hJx4⟩)
          · have HJ4 := Lib.hid hJ4
            have HS4 := Lib.hid (HS3.out.body hk4)
            have hkt : tyIs w3 TT wr.heap.size := ⟨_, _, HK3.out⟩
            have K4 : Blk w4 wr.heap.size 34 #[.int .i64 yk, .string yp, .string ym, .int .i64 yn, .slice oy yl.length cy] := (hk4.block _ hkt.lt fun h => h.2.2 hkt).trans HK3.out
            have c44 : w4.cell? ⟨wr.heap.size, 4, none⟩ = some (.slice oy yl.length cy) := K4.cell 4
            have HE4 : Hid (EntOk w0 w4 w0.heap.size (yl, oy, cy)) := EntOk.old HYL.out HYC.out HYS.out (HJB.out _ _ hJ4)
            have hB4 := (HJB.out _ _ hJ4).size
            have hnew : ∀ (j : Nat) (u : Value), [Value.slice oy yl.length cy][j]? = some u → (w4.alloc (.cells #[.slice oy yl.length cy] 23)).cell? ((⟨w4.heap.size, 0, none⟩ : Addr).add j) = some u := fun j u hu => by
              have e : (⟨w4.heap.size, 0, none⟩ : Addr).add j = ⟨w4.heap.size, j, none⟩ := by unfold Addr.add; split <;> simp_all
              rw [e, (Blk.new w4 23 #[.slice oy yl.length cy]).cell]
              simpa using hu
            have HN := Lib.hid hnew
            clear hJ4 hk4 hkt K4 hyr HRR hnew
            obtain ⟨gg, rfl⟩ : ∃ g', gk = g' + 1 := ⟨gk - 1, by have := HG.out; simp only [remS, preYs, List.length_append] at this; omega⟩
            gi_wp2_with (gi_at_builtin; refine wpListIn_append_moves _ rfl _ _ 86 rfl w0.heap.size 23 i0 (.slice none 0 0) 1 24 Try.underlying86 hi hz0 hz1 hz2 rfl (by decide) _ _ _ rfl (HS4.out.row.alloc _) ⟨w4.heap.size, 0, none⟩ 1 1 [.slice oy yl.length cy] rfl rfl HN.out (by simp [Value.oneCell']) (by unfold maxLen; omega) (by omega) (by simp; omega) (by decide) ?_; intro v5 w5 hown5 hmv; obtain ⟨o5, c5, rfl⟩ := row_val hown5; have HROW := Lib.hid hown5; have HMV := Lib.hid hmv; clear hown5 hmv)
            gi_roundg gg
            case measure => omega
            case rel =>
              have hK5 := ki_moves HMV.out (HS4.out.row.alloc _)
              have hK5' : KI w0.heap.size w4 w5 := ⟨hK5.os, hK5.tape, hK5.output, Nat.le_trans (by simp) hK5.size, fun k hk hn => (hK5.block k (by rw [World.size_alloc]; omega) fun h => hn ⟨h.1, by obtain ⟨_, cs, f, h⟩ := h; rw [heap_alloc_old w4 _ k hk] at h; exact ⟨cs, f, h⟩⟩).trans (heap_alloc_old w4 _ k hk)⟩
              refine ⟨pre ++ [GY.mk yk yp ym yn yl], (yl, oy, cy) :: ([], some a, 0) :: S, o5, m + 1 + 1, c5, rfl, ?_, HJ.out _ _ _ HJ4.out hK5', ?_, ?_, ?_⟩
              · show _ = _
                rw [← HP.out]
                simp [remS, preYs, preY]
              · refine ⟨by rw [eC_cons]; exact HROW.out, by have := HS4.out.len; simp at this ⊢; omega, fun e he => ?_⟩
                have hk : ∀ e, EntOk w0 w4 w0.heap.size e → EntOk w0 w5 w0.heap.size e := fun e h => h.turn hK5' (fun k hk hn => by omega) (fun k hk hn => hn.2.ne hk)
                rcases List.mem_cons.1 he with rfl | he
                · exact hk _ HE4.out
                · exact hk _ (HS4.out.ents e he)
              · have := HM.out
                show _ ≤ _
                simp only [List.length_append, List.length_singleton]
                omega
              · have := HG.out
                show _ ≤ _
                simp only [remS, preYs, preY, List.length_append, List.length_cons] at this ⊢
                omega
          · have HJ3 := Lib.hid hJx4
            clear hJx4 hyr
            gi_wp2
            refine bodyPost_ret (results_none rfl _ _ _) rfl ?_
            exact ⟨⟨_, rfl⟩, .inr ⟨_, HPre.out, HJ3.out⟩⟩
        · have hc1' : ¬ ((c' : Int) = 1) := by omega
          have hS3 := hS2.put (e' := (r, some (a.add 5), c' - 1)) (by have := (hS2.ents _ (List.mem_cons_self ..)).tail; rw [if_neg hc1] at this; exact this)
          obtain ⟨hS3, hK3⟩ := hS3
          obtain ⟨w3, hw3⟩ : ∃ w3, w2.setCell ⟨g, m, none⟩ (.slice (some (a.add 5)) r.length (c' - 1)) = w3 := ⟨_, rfl⟩
          have hew : w2.setCell ⟨g, m, none⟩ (Ent.val (r, some (a.add 5), c' - 1)) = w3 := hw3
          rw [hew] at hS3 hK3
          have HJ3 : Hid (J pre w3) := HJ.out _ _ _ HJ2.out hK3
          have HK3 : Hid (Blk w3 wr.heap.size 34 #[.int .i64 yk, .string yp, .string ym, .int .i64 yn, .slice oy yl.length cy]) := by rw [← hw3]; exact HK2.out.far (by show wr.heap.size ≠ g; omega) _
          have HC3 : Hid (∀ (j : Nat) (v : Value), [Value.int .i64 yk, .string yp, .string ym, .int .i64 yn, .slice oy yl.length cy][j]? = some v → w3.cell? ((⟨wr.heap.size, 0, none⟩ : Addr).add j) = some v) := fun j v h => by
            have e : (⟨wr.heap.size, 0, none⟩ : Addr).add j = ⟨wr.heap.size, j, none⟩ := by unfold Addr.add; split <;> simp_all
            rw [e, HK3.out.cell]
            simpa using h
          have hpre : pre ++ [GY.mk yk yp ym yn yl] <+: preY t := ⟨preYs yl ++ (preYs r ++ remS S), by rw [← HP.out]; simp [remS, preYs, preY]⟩
          obtain ⟨fn, tmps, assign, body, hyr, hR⟩ := HY.out pre (GY.mk yk yp ym yn yl) _ w3 HJ3.out HYY.out hpre
          have HRR := Lib.hid hR
          have HPre := Lib.hid hpre
          have HS3 := Lib.hid hS3
          have HW3 := Lib.hid hw3
          clear hS3 hK3 hw3 hew hR hpre hS2
          gi_wp2_with (first
            | (refine boxLoadIn 34 5 size5 Try.underlying34 rfl _ rfl _ rfl (cs := [.int .i64 yk, .string yp, .string ym, .int .i64 yn, .slice oy yl.length cy]) HCY.out rfl ?_) | (refine boxNewIn 34 5 size5 rfl _ _ rfl _ rfl rfl [.int .i64 yk, .string yp, .string ym, .int .i64 yn, .slice oy yl.length cy] rfl rfl rfl rfl ?_; change wpListIn _ _ _ _ _ _ _ (wr.alloc (.cells #[.int .i64 yk, .string yp, .string ym, .int .i64 yn, .slice oy yl.length cy] 34)); rw [HW2.out])
            | (change wpListIn _ _ _ _ _ _ _ (w2.setCell ⟨g, m, none⟩ (.slice (some (a.add 5)) r.length (c' - 1))); rw [HW3.out]; refine boxLoadIn 34 5 size5 Try.underlying34 rfl _ rfl ⟨wr.heap.size, 0, none⟩ rfl (cs := [.int .i64 yk, .string yp, .string ym, .int .i64 yn, .slice oy yl.length cy]) HC3.out rfl ?_))
          refine HRR.out.mono ?_
          clear hct hct2 hft hft2
          rintro e w4 (⟨rfl, hJ4, hk4⟩ | ⟨rfl, hJx4⟩)
          · have HJ4 := Lib.hid hJ4
            have HS4 := Lib.hid (HS3.out.body hk4)
            have hkt : tyIs w3 TT wr.heap.size := ⟨_, _, HK3.out⟩
            have K4 : Blk w4 wr.heap.size 34 #[.int .i64 yk, .string yp, .string ym, .int .i64 yn, .slice oy yl.length cy] := (hk4.block _ hkt.lt fun h => h.2.2 hkt).trans HK3.out
            have c44 : w4.cell? ⟨wr.heap.size, 4, none⟩ = some (.slice oy yl.length cy) := K4.cell 4
            have HE4 : Hid (EntOk w0 w4 w0.heap.size (yl, oy, cy)) := EntOk.old HYL.out HYC.out HYS.out (HJB.out _ _ hJ4)
            have hB4 := (HJB.out _ _ hJ4).size
            have hnew : ∀ (j : Nat) (u : Value), [Value.slice oy yl.length cy][j]? = some u → (w4.alloc (.cells #[.slice oy yl.length cy] 23)).cell? ((⟨w4.heap.size, 0, none⟩ : Addr).add j) = some u := fun j u hu => by
              have e : (⟨w4.heap.size, 0, none⟩ : Addr).add j = ⟨w4.heap.size, j, none⟩ := by unfold Addr.add; split <;> simp_all
              rw [e, (Blk.new w4 23 #[.slice oy yl.length cy]).cell]
              simpa using hu
            have HN := Lib.hid hnew
            clear hJ4 hk4 hkt K4 hyr HRR hnew
            obtain ⟨gg, rfl⟩ : ∃ g', gk = g' + 1 := ⟨gk - 1, by have := HG.out; simp only [remS, preYs, List.length_append] at this; omega⟩
            gi_wp2_with (gi_at_builtin; refine wpListIn_append_moves _ rfl _ _ 86 rfl w0.heap.size 23 i0 (.slice none 0 0) 1 24 Try.underlying86 hi hz0 hz1 hz2 rfl (by decide) _ _ _ rfl (HS4.out.row.alloc _) ⟨w4.heap.size, 0, none⟩ 1 1 [.slice oy yl.length cy] rfl rfl HN.out (by simp [Value.oneCell']) (by unfold maxLen; omega) (by omega) (by simp; omega) (by decide) ?_; intro v5 w5 hown5 hmv; obtain ⟨o5, c5, rfl⟩ := row_val hown5; have HROW := Lib.hid hown5; have HMV := Lib.hid hmv; clear hown5 hmv)
            gi_roundg gg
            case measure => omega
            case rel =>
              have hK5 := ki_moves HMV.out (HS4.out.row.alloc _)
              have hK5' : KI w0.heap.size w4 w5 := ⟨hK5.os, hK5.tape, hK5.output, Nat.le_trans (by simp) hK5.size, fun k hk hn => (hK5.block k (by rw [World.size_alloc]; omega) fun h => hn ⟨h.1, by obtain ⟨_, cs, f, h⟩ := h; rw [heap_alloc_old w4 _ k hk] at h; exact ⟨cs, f, h⟩⟩).trans (heap_alloc_old w4 _ k hk)⟩
              refine ⟨pre ++ [GY.mk yk yp ym yn yl], (yl, oy, cy) :: (r, some (a.add 5), c' - 1) :: S, o5, m + 1 + 1, c5, rfl, ?_, HJ.out _ _ _ HJ4.out hK5', ?_, ?_, ?_⟩
              · show _ = _
                rw [← HP.out]
                simp [remS, preYs, preY]
              · refine ⟨by rw [eC_cons]; exact HROW.out, by have := HS4.out.len; simp at this ⊢; omega, fun e he => ?_⟩
                have hk : ∀ e, EntOk w0 w4 w0.heap.size e → EntOk w0 w5 w0.heap.size e := fun e h => h.turn hK5' (fun k hk hn => by omega) (fun k hk hn => hn.2.ne hk)
                rcases List.mem_cons.1 he with rfl | he
                · exact hk _ HE4.out
                · exact hk _ (HS4.out.ents e he)
              · have := HM.out
                show _ ≤ _
                simp only [List.length_append, List.length_singleton]
                omega
              · have := HG.out
                show _ ≤ _
                simp only [remS, preYs, preY, List.length_append, List.length_cons] at this ⊢
                omega
          · have HJ3 := Lib.hid hJx4
            clear hJx4 hyr
            gi_wp2
            refine bodyPost_ret (results_none rfl _ _ _) rfl ?_
            exact ⟨⟨_, rfl⟩, .inr ⟨_, HPre.out, HJ3.out⟩⟩
end Go.Proofs.Ytlakmniaocpaaaa
namespace Go.Proofs.Ytlakmniaocpaaaa
open Go.RowKit Go.Shelf
open Go.Lib hiding intOf
/-- The loop's record. -/
def recT (fn : FuncId) (a : Act) (ps : Array Tmp) (assign body : Code) (D : Nat) (st : LoopState) (pe : Option Code) : Loop :=
  { state := st, pending := pe, fn := fn, tmps := a.tmps, params := ps, assign := assign, body := body, defers := D }
/-- What the loop keeps for itself. -/
structure Books (D : Nat) (r : Loop) (W : World) : Prop where
  calls : W.heap[D]? = some (.deferred (some []))
  own : W.heap[D + 1]? = some (.loop r)
theorem Books.lt {D : Nat} {r : Loop} {W : World} (h : Books D r W) : D + 1 < W.heap.size := (Array.getElem?_eq_some_iff.1 h.own).1
theorem Books.keep {D : Nat} {r : Loop} {A B : World} (h : Books D r A) (hk : KeepsFrom D A B) : Books D r B :=
  ⟨hk.same _ _ (Nat.le_refl _) h.calls rfl, hk.same _ _ (Nat.le_succ _) h.own rfl⟩
theorem Books.write {D : Nat} {r : Loop} {A : World} (h : Books D r A) (r' : Loop) : Books D r' (A.putObj (D + 1) (.loop r')) :=
  ⟨(World.putObj_heap_other (by omega)).trans h.calls, World.putObj_heap_same h.lt⟩
theorem Books.made (w : World) (r : Loop) : Books w.heap.size r ((w.alloc (.deferred (some []))).alloc (.loop r)) := by
  refine ⟨(Below.heap_alloc _ _ _ (by simp)).trans (World.alloc_heap_new w _), ?_⟩
  have h := World.alloc_heap_new (w.alloc (.deferred (some []))) (.loop r)
  rwa [World.size_alloc] at h
theorem Books.turn {D B : Nat} {r : Loop} {A Z : World} (h : Books D r A) (hT : KI B A Z) : Books D r Z :=
  ⟨(hT.block _ (Array.getElem?_eq_some_iff.1 h.calls).1 (fun hn => by obtain ⟨_, cs, f, hc⟩ := hn; rw [h.calls] at hc; cases hc)).trans h.calls,
   (hT.block _ (Array.getElem?_eq_some_iff.1 h.own).1 (fun hn => by obtain ⟨_, cs, f, hc⟩ := hn; rw [h.own] at hc; cases hc)).trans h.own⟩
theorem own_books {β : Type} {D : Nat} {r r' : Loop} {I : β → World → Prop} {b : β} {A : World} (hI : OwnFrom D I) (h : I b A) (hb : Books D r A) : I b (A.putObj (D + 1) (.loop r')) :=
  hI.putObj _ h (Nat.le_succ _) hb.own rfl
theorem kb_books {D B : Nat} {r : Loop} {A : World} (hb : Books D r A) (hB : B ≤ D) (r' : Loop) : KB B A (A.putObj (D + 1) (.loop r')) :=
  (Turn.of_grown (grownBy_putObj' A (D + 1) (.loop r'))).mono fun k _ hk => by
    obtain rfl : k = D + 1 := by injection hk
    refine ⟨by omega, fun h => ?_, fun h => ?_⟩ <;> (obtain ⟨cs, f, h⟩ := h; rw [hb.own] at h; cases h)
theorem KB.trans' {B : Nat} {a b c : World} (h : KB B a b) (k : KB B b c) : KB B a c :=
  ⟨k.os.trans h.os, k.tape.trans h.tape, k.output.trans h.output, Nat.le_trans h.size k.size, fun i hi hn => by
    have e := h.block i hi hn
    refine (k.block i (Nat.lt_of_lt_of_le hi h.size) fun hq => hn ⟨hq.1, fun h2 => hq.2.1 ?_, fun h2 => hq.2.2 ?_⟩).trans e
    · obtain ⟨cs, f, h2⟩ := h2; exact ⟨cs, f, e.trans h2⟩
    · obtain ⟨cs, f, h2⟩ := h2; exact ⟨cs, f, e.trans h2⟩⟩
theorem KB.alloc {B : Nat} (W : World) (o : Obj) : KB B W (W.alloc o) := (Turn.refl _ W).alloc o
theorem KB.of_below {B : Nat} {W W' : World} (h : Below W.heap.size W W') : KB B W W' := (Turn.of_below h).mono fun k hk hn => by omega
theorem round_shut {fn : FuncId} {a : Act} {ps : Array Tmp} {assign body : Code} {D : Nat} {W : World} (hb : Books D (recT fn a ps assign body D .busy none) W) (jump : Option Code) :
    (Instr.endRound (D + 1) jump).run Try.prog W = .ok (.bool jump.isNone) (W.putObj (D + 1) (.loop (recT fn a ps assign body D (if jump.isNone then .ready else .done) jump))) :=
  run_endRound jump hb.own
theorem round_told {B : Nat} {fn : FuncId} {a : Act} {ps : Array Tmp} {assign body : Code} {D : Nat} (hBD : B ≤ D) (hps : ps.size = 1)
    (I : List GY → World → Prop) (Ix : Code → List GY → World → Prop) (hI : OwnFrom D I) (hIx : ∀ c, OwnFrom D (Ix c)) (Ax : Value → Act → World → Prop) (hAx : ∀ x a', OwnFrom D (fun (_ : Unit) W => Ax x a' W)) (pre : List GY) (x : GY) (v : Value)
    (hassign : ∀ (W : World) (K : Act → World → Prop), I pre W → (∀ a' W', KeepsFrom D W W' → KB B W W' → I pre W' → Ax v a' W' → K a' W') →
      assign.wpIn (Fence.wide.inRound (D + 1)) 4 Try.prog (Exit.then K (fun _ _ _ => False)) { tmps := (ps.zip #[v]).foldl (fun t (p, v) => t.setIfInBounds p v) a.tmps, defers := [] } W)
    (hbody : ∀ (a' : Act) (W : World), I pre W → Ax v a' W → body.wpIn (Fence.wide.inRound (D + 1)) 4 Try.prog (ownPostG D (KB B) I Ix (pre ++ [x]) W) a' W)
    (W : World) (h : I pre W ∧ Books D (recT fn a ps assign body D .ready none) W) :
    YieldAt Fence.wide 4 Try.prog (D + 1) #[v] W fun e W' =>
      (e = .returned (.bool true) ∧ (I (pre ++ [x]) W' ∧ Books D (recT fn a ps assign body D .ready none) W') ∧ KB B W W') ∨
      (e = .returned (.bool false) ∧ ∃ c, Ix c (pre ++ [x]) W' ∧ Books D (recT fn a ps assign body D .done (some c)) W') := by
  refine ⟨fn, _, assign, body, run_yield h.2.own (by rw [show (#[v] : Array Value).size = 1 from rfl]; exact hps.symm), roundIn_of_wpIn trivial (hassign W _ h.1 ?_)⟩
  intro a' A hka hra hia hax
  have hA := h.2.keep hka
  have hW := hA.write (recT fn a ps assign body D .busy none)
  have hr := kb_books hA hBD (recT fn a ps assign body D .busy none)
  refine ⟨_, run_beginRound hA.own rfl, wpIn_mono (hbody a' _ (own_books hI hia hA) ((hAx v a').putObj (s := ()) _ hax (Nat.le_succ _) hA.own rfl)) ?_⟩
  intro e a3 Z hz
  have gone : ∀ c, KeepsFrom D (A.putObj (D + 1) (.loop (recT fn a ps assign body D .busy none))) Z ∧ Ix c (pre ++ [x]) Z →
      ∃ v w', (Instr.endRound (D + 1) (some c)).run Try.prog Z = .ok v w' ∧ ((Ending.returned v = .returned (.bool true) ∧ (I (pre ++ [x]) w' ∧ Books D (recT fn a ps assign body D .ready none) w') ∧ KB B W w') ∨
        (Ending.returned v = .returned (.bool false) ∧ ∃ c, Ix c (pre ++ [x]) w' ∧ Books D (recT fn a ps assign body D .done (some c)) w')) := fun c hc =>
    have hZ := hW.keep hc.1
    ⟨_, _, round_shut hZ (some c), .inr ⟨rfl, c, own_books (hIx c) hc.2 hZ, hZ.write _⟩⟩
  cases e with
  | normal =>
    have hZ := hW.keep hz.1
    exact ⟨_, _, round_shut hZ none, .inl ⟨rfl, ⟨own_books hI hz.2.2 hZ, hZ.write _⟩, hra.trans' (hr.trans' (KB.trans' hz.2.1 (kb_books hZ hBD _)))⟩⟩
  | ret => exact gone .ret hz
  | exit id => exact gone (.exit id) hz
  | goto t => exact gone (.goto t) hz
  | panic ch => exact hz.elim
  | outgrown => exact hz.elim
theorem range_parts {bx : Nat} {g : Operand} {ps : Array Tmp} {assign body : Code} {Q : Exit → Act → World → Prop} {a : Act} {w : World} (w0 : World) (t : GY) (hcnt : cntY t ≤ 1000) {c0 c1 c2 c3 c4 : Value} (ht : IsY w0 t (.agg #[c0, c1, c2, c3, c4]))
    (hT : Blk w bx TT #[c0, c1, c2, c3, c4]) (hg : a.eval g = .func (.func 47) #[] #[.pointer (some ⟨bx, 0, none⟩)]) (hps : ps.size = 1)
    (I : List GY → World → Prop) (Ix : Code → List GY → World → Prop) (hI : OwnFrom w.heap.size I) (hIx : ∀ c, OwnFrom w.heap.size (Ix c)) (hIB : ∀ pre W, I pre W → Below w0.heap.size w0 W) (hIK : ∀ pre W W', I pre W → KI w0.heap.size W W' → I pre W') (h0 : I [] w)
    (Ax : Value → Act → World → Prop) (hAx : ∀ x a', OwnFrom w.heap.size (fun (_ : Unit) W => Ax x a' W))
    (hassign : ∀ (l : Nat) (pre : List GY) (x : GY) (v : Value) (W : World) (K : Act → World → Prop), I pre W → IsY w0 x v → (∀ a' W', KeepsFrom w.heap.size W W' → KB w0.heap.size W W' → I pre W' → Ax v a' W' → K a' W') →
      assign.wpIn (Fence.wide.inRound l) 4 Try.prog (Exit.then K (fun _ _ _ => False)) { tmps := (ps.zip #[v]).foldl (fun t (p, v) => t.setIfInBounds p v) a.tmps, defers := [] } W)
    (hbody : ∀ (l : Nat) (pre : List GY) (x : GY) (v : Value) (a' : Act) (W : World), I pre W → IsY w0 x v → Ax v a' W → pre ++ [x] <+: preY t → body.wpIn (Fence.wide.inRound l) 4 Try.prog (ownPostG w.heap.size (KB w0.heap.size) I Ix (pre ++ [x]) W) a' W)
    (hdone : ∀ (D : Nat) (W : World), w.heap.size ≤ D → I (preY t) W → W.heap[D]? = some (.deferred (some [])) → Q .normal { a with defers := { target := .collected D, args := #[] } :: a.defers } W)
    (hstop : ∀ (D : Nat) (c : Code) (pre : List GY) (W : World), w.heap.size ≤ D → pre <+: preY t → Ix c pre W → W.heap[D]? = some (.deferred (some [])) → c.wpIn Fence.wide 6 Try.prog Q { a with defers := { target := .collected D, args := #[] } :: a.defers } W) :
    (Code.rangeFunc g ps assign body).wpIn Fence.wide 6 Try.prog Q a w := by
  have eg : ∀ args w, (callFunc 47 args).run Try.prog w = .ok (.enter 47 args) w := enters_of Try.func47 (by kernel_rfl) rfl
  refine wpIn_rangeFunc fun fn _ => ?_
  have hBw := (hIB _ _ h0).size
  have hM := Books.made w (recT fn a ps assign body w.heap.size .ready none)
  have h1 : I [] ((w.alloc (.deferred (some []))).alloc (.loop (recT fn a ps assign body w.heap.size .ready none))) := hI.alloc _ (hI.alloc _ h0)
  have hT1 : Blk ((w.alloc (.deferred (some []))).alloc (.loop (recT fn a ps assign body w.heap.size .ready none))) bx TT #[c0, c1, c2, c3, c4] :=
    (hT.kept (World.grownBy_alloc _ _ none) (by simp)).kept (World.grownBy_alloc _ _ none) (by simp)
  obtain ⟨W1, hW1⟩ : ∃ W1, (w.alloc (.deferred (some []))).alloc (.loop (recT fn a ps assign body w.heap.size .ready none)) = W1 := ⟨_, rfl⟩
  rw [hW1] at hM h1 hT1
  have hE : (Instr.enterLoop fn a.tmps ps assign body Fence.wide.round).run Try.prog w = .ok (w.heap.size + 1, [{ target := .collected w.heap.size, args := #[] }]) W1 := by
    rw [← hW1]; exact run_enterLoop_outer _ _ _ _ _
  refine ⟨w.heap.size + 1, [{ target := .collected w.heap.size, args := #[] }], W1, { target := .fn (.func 47) #[.pointer (some ⟨bx, 0, none⟩)], args := #[.func (.yield (w.heap.size + 1)) #[] #[]] }, W1, 47,
    #[.func (.yield (w.heap.size + 1)) #[] #[]] ++ #[.pointer (some ⟨bx, 0, none⟩)], W1, hE, ?_, fun _ _ => trivial, ?_, (fun h => absurd h (by decide)), ?_⟩
  · simp only [resolve, hg]
    simp [go_sem]
  · simp [invoke, go_sem, eg]
  · refine (parts1_in 5 (by omega) (w.heap.size + 1) bx w0 t hcnt c0 c1 c2 c3 c4 ht (fun pre W => I pre W ∧ Books w.heap.size (recT fn a ps assign body w.heap.size .ready none) W) (fun pre W => ∃ c, Ix c pre W ∧ Books w.heap.size (recT fn a ps assign body w.heap.size .done (some c)) W)
      (fun pre W W' h hk => ⟨hIK pre W W' h.1 hk, h.2.turn hk⟩) (fun pre W h => hIB pre W h.1)
      (fun pre x v W hJ hx hpre => round_told hBw hps I Ix hI hIx Ax hAx pre x v (fun W K hi => hassign _ pre x v W K hi hx) (fun a' W hi ha => hbody _ pre x v a' W hi hx ha hpre) W hJ) _ hT1 ⟨h1, hM⟩).mono ?_
    rintro e Z ⟨⟨v, rfl⟩, (⟨hi, hb⟩ | ⟨pre, hS, c, hi, hb⟩)⟩
    · exact ⟨none, _, run_endLoop hb.own (by simp [recT]), hdone _ _ (Nat.le_refl _) (own_books hI hi hb) (hb.write _).calls⟩
    · exact ⟨some c, _, run_endLoop hb.own (by simp [recT]), hstop _ c pre _ (Nat.le_refl _) hS (own_books (hIx c) hi hb) (hb.write _).calls⟩
/-- The iterator made. -/
theorem parts_any (c0 c1 c2 c3 c4 : Value) (w : World) (t : GY) (w0 : World) (ht : IsY w0 t (.agg #[c0, c1, c2, c3, c4])) : Calls Try.prog 35 #[.agg #[c0, c1, c2, c3, c4]] w fun e w' =>
    e = .returned (.func (.func 47) #[] #[.pointer (some ⟨w.heap.size, 0, none⟩)]) ∧ w' = w.alloc (.cells #[c0, c1, c2, c3, c4] 34) := by
  obtain ⟨k, p, m, n, args⟩ := t
  obtain ⟨o, c, hv, _⟩ := ht.parts
  simp only [Value.agg.injEq, Array.mk.injEq, List.cons.injEq, and_true] at hv
  obtain ⟨rfl, rfl, rfl, rfl, rfl⟩ := hv
  go_enter Try.func35, Try.ntmps35
  go_wp2
  go_ret
  exact ⟨rfl, rfl⟩
end Go.Proofs.Ytlakmniaocpaaaa
