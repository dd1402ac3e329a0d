/-
  Blocks, rows, boxes of any struct; what has turned. No condition.
-/
import Derived.Test.YtlakmniaocpaaaaRows
import Derived.RangeFuncNested
import Derived.RangeFuncBound
import Derived.RangeFuncLeaves
import Derived.Maps.AppendAt
import Derived.Laws.OwnMore
import Derived.WalkKit
import Derived.ProofKit
import Derived.OwnWalkIn
import Derived.TacticsInMore
import Derived.Laws.Rows
import Derived.Laws.CopyRow
import Derived.Laws.CopyOwn
import Derived.Laws.IdiomCopy
import Derived.Deep.WholeRow
import Derived.Great.BuildSlice
import Derived.OpenShut
import Derived.SizedLaws
import Derived.Deep.Slices
import Derived.Deep.Fields
import Derived.ChangeSame
import Derived.Carry
import Derived.Lib.Hide
import Derived.Lib.Walk
namespace Go.Proofs.Ytlakmniaocpaaaa
open Go.RowKit
open Go.Lib hiding intOf
def Blk (W : World) (k : Nat) (t : TypeId) (cs : Array Value) : Prop := W.heap[k]? = some (.cells cs t (0, 0))
theorem Blk.lt {W : World} {k : Nat} {t : TypeId} {cs : Array Value} (h : Blk W k t cs) : k < W.heap.size := (Array.getElem?_eq_some_iff.1 h).1
theorem Blk.kept {W W' : World} {row : Option Nat} {k : Nat} {t : TypeId} {cs : Array Value} (h : Blk W k t cs) (hg : W.grownBy W' row) (hne : some k ≠ row) : Blk W' k t cs := (hg.block k h.lt hne).trans h
theorem Blk.cell {W : World} {k : Nat} {t : TypeId} {cs : Array Value} (h : Blk W k t cs) (i : Nat) : W.cell? ⟨k, i, none⟩ = cs[i]? := by
  unfold Blk at h; simp [World.cell?, h]
theorem Blk.frozen {W : World} {k : Nat} {t : TypeId} {cs : Array Value} (h : Blk W k t cs) (i : Nat) : W.frozen? ⟨k, i, none⟩ = false := by
  unfold Blk at h; simp [World.frozen?, h]
theorem Blk.new (W : World) (t : TypeId) (cs : Array Value) : Blk (W.alloc (.cells cs t)) W.heap.size t cs := World.alloc_heap_new W _
theorem Blk.set_ {W : World} {k : Nat} {t : TypeId} {cs : Array Value} (h : Blk W k t cs) (i : Nat) (u : Value) : Blk (W.setCell ⟨k, i, none⟩ u) k t (cs.setIfInBounds i u) := by
  unfold Blk at h ⊢
  simp [World.setCell, Array.getElem?_modify, h]
theorem Blk.far {W : World} {k : Nat} {t : TypeId} {cs : Array Value} (h : Blk W k t cs) {p : Addr} (hp : k ≠ p.block) (u : Value) : Blk (W.setCell p u) k t cs := (Below.heap_setCell W p u k hp).trans h
theorem Blk.ne_ {W : World} {k k' : Nat} {t t' : TypeId} {cs cs' : Array Value} (h : Blk W k t cs) (h' : Blk W k' t' cs') (hne : t ≠ t') : k ≠ k' := by
  rintro rfl
  unfold Blk at h h'
  rw [h] at h'
  injection h' with h'
  injection h' with _ ht
  exact hne ht
theorem grown_of_below {W W' : World} (h : Below W.heap.size W W') : W.grownBy W' none := ⟨h.os, h.tape, h.output, h.size, fun k hk _ => h.block k hk⟩
/-- A store of what lies there already turns nothing. -/
theorem setCell_same {W : World} {b i : Nat} {t : TypeId} {cs : Array Value} {v : Value} (h : Blk W b t cs) (hi : cs[i]? = some v) : W.setCell ⟨b, i, none⟩ v = W := by
  have hs : cs.setIfInBounds i v = cs := by
    obtain ⟨hl, hv⟩ := Array.getElem?_eq_some_iff.1 hi
    rw [Array.setIfInBounds, dif_pos hl, ← hv]
    exact Array.set_getElem_self hl
  unfold Blk at h
  have e : (W.setCell ⟨b, i, none⟩ v).heap = W.heap := by
    apply Array.ext_getElem?
    intro k
    show (W.heap.modify b _)[k]? = _
    rw [Array.getElem?_modify]
    split
    · subst b; rw [h]; simp [hs]
    · rfl
  cases W
  simp only [World.setCell] at e ⊢
  rw [e]
/-- An append onto a row of the call's own: whether it moved. -/
theorem run_append_moves {P : Program} (w : World) (base : Nat) (t ty e : TypeId) (i : TypeInfo) (z : Value) (size bytes : Nat) (ht : P.underlying t = some (.slice e)) (hi : P.info? e = some i) (hz : i.zero = some z)
    (hsize : i.size = size) (hby : i.bytes = bytes) (hzs : z.cells.size = size) (hsz : 0 < size)
    (v : Value) (n : Nat) (xs : List Value) (hown : w.ownsRow base e size v n xs)
    (a : Addr) (m c : Nat) (news : List Value) (hl : news.length = m * size) (hnews : ∀ j u, news[j]? = some u → w.cell? (a.add j) = some u) (h1 : ∀ u ∈ news, u.oneCell' = true)
    (h63 : n + m ≤ maxLen) (hbytes : (n + m) * bytes ≤ 140737488355328) (hbase : base ≤ w.heap.size) (hm : 0 < m) :
    ∃ v' w', (Builtin.append_ #[t, t] ty #[v, .slice (some a) m c]).run P w = .ok v' w' ∧ w'.ownsRow base e size v' (n + m) (xs ++ news) ∧
      (w.grownBy w' none ∨ ∃ g cap cur, v = .slice (some ⟨g, 0, none⟩) n cap ∧ w.grownBy w' (some g) ∧ Blk w g e cur ∧ cur.size = cap * size ∧ n + m ≤ cap) := by
  obtain ⟨v', w', hrun, r1, r2, _⟩ := run_append_own (P := P) w base t ty e i z size bytes ht hi hz hsize hby hzs hsz v n xs hown a m c news hl hnews h1 h63 hbytes hbase
  refine ⟨v', w', hrun, r1, ?_⟩
  have hlim : n + m ≤ 9223372036854775807 := by simp only [maxLen] at h63; omega
  have fresh : ∀ o : Obj, w.grownBy (w.drew.alloc o) none := fun o => ⟨rfl, rfl, rfl, by simp, fun k hk _ => heap_alloc_old w.drew _ k hk⟩
  rcases hown.2 with ⟨rfl, rfl⟩ | ⟨g, cap, cur, rfl, hbg, hg, hnc, hcm, hcs, htake⟩
  · have hr := run_append_nil (P := P) w t ty e i z ht hi hz a m c news (by rw [hsize]; exact hl) hnews hm (by omega) (by rw [hby]; have hb := hbytes; simp only [Nat.zero_add] at hb; omega)
    have hh := hrun.symm.trans hr
    injection hh with _ hw
    subst hw
    exact .inl (fresh _)
  · by_cases hroom : n + m ≤ cap
    · exact .inr ⟨g, cap, cur, rfl, r2, hg, hcs, hroom⟩
    · have hr := run_append_grow (P := P) w t ty e i z ht hi hz ⟨g, 0, none⟩ n cap xs (by rw [hsize]; exact hown.1) (hown.cells (g := g) rfl) a m c news (by rw [hsize]; exact hl) hnews (by omega) (by omega) (by rw [hby]; exact growslice_fits (by omega) hbytes)
      have hh := hrun.symm.trans hr
      injection hh with _ hw
      subst hw
      exact .inl (fresh _)
theorem wpListIn_append_moves {F : Fence} {n : Nat} {P : Program} (w : World) {ops : Array Oper} {rest : List Oper} {o : Oper} {a : Act} {Q : Exit → Act → World → Prop}
    (hg : o.guard = none) (s x : Operand) (t : TypeId) (hop : o.op = Op.call { callee := Callee.builtin Builtin.append, args := #[s, x], argTypes := #[t, t] })
    (base : Nat) (e : TypeId) (i : TypeInfo) (z : Value) (size bytes : Nat) (h1 : P.underlying t = some (.slice e)) (h2 : P.info? e = some i) (h3 : i.zero = some z) (h4 : i.size = size) (h5 : i.bytes = bytes) (h6 : z.cells.size = size) (h7 : 0 < size)
    (v : Value) (k : Nat) (xs : List Value) (hs : a.eval s = v) (hown : w.ownsRow base e size v k xs) (ad : Addr) (m c : Nat) (news : List Value) (hx : a.eval x = .slice (some ad) m c) (hn : news.length = m * size)
    (hc : ∀ j u, news[j]? = some u → w.cell? (ad.add j) = some u) (h1c : ∀ u ∈ news, u.oneCell' = true) (b1 : k + m ≤ maxLen) (b2 : (k + m) * bytes ≤ 140737488355328) (b3 : base ≤ w.heap.size) (b4 : 0 < m)
    (hK : ∀ v' w', w'.ownsRow base e size v' (k + m) (xs ++ news) →
      (w.grownBy w' none ∨ ∃ g cap cur, v = .slice (some ⟨g, 0, none⟩) k cap ∧ w.grownBy w' (some g) ∧ Blk w g e cur ∧ cur.size = cap * size ∧ k + m ≤ cap) → wpListIn F n P ops Q rest (a.put o.dst v') w') :
    wpListIn F n P ops Q (o :: rest) a w := by
  refine wpListIn_plain hg fun K hK' => ?_
  obtain ⟨v', w', hrun, r1, r2⟩ := run_append_moves (P := P) w base t o.type e i z size bytes h1 h2 h3 h4 h5 h6 h7 v k xs hown ad m c news hn hc h1c b1 b2 b3 b4
  unfold Oper.wpIn
  refine ⟨?_, ?_⟩
  · simp [Oper.about, hop, resolve, Target.leads, Sem.run_pure]
  · rw [Oper.semAt_plain F _ _ (by rw [hop]; intro c hc'; cases hc')]
    simp [execOp, hop, resolve, invoke, builtin, hs, hx, hrun, Result.andThen]
    exact hK' _ _ (hK v' w' r1 r2)
theorem Blk.row {W : World} {g : Nat} {t : TypeId} {old : Array Value} (h : Blk W g t old) (cs : Array Value) : Blk (W.setRow g cs) g t cs := setRow_heap W g old cs t (0, 0) h
theorem Blk.rowFar {W : World} {g k : Nat} {t : TypeId} {old : Array Value} (h : Blk W k t old) (hk : k ≠ g) (cs : Array Value) : Blk (W.setRow g cs) k t old := (setRow_other W g k cs hk).trans h
/-- Cells put into a row. -/
def putL : List Value → Nat → List Value → List Value
  | cur, _, [] => cur
  | cur, o, v :: r => putL (cur.set o v) (o + 1) r
theorem setCells_row {g : Nat} {t : TypeId} : ∀ (vs : List Value) (o : Nat) (cur : List Value) (W : World), Blk W g t cur.toArray → W.setCells g o vs = W.setRow g (putL cur o vs).toArray
  | [], _, cur, W, h => (setRow_self W g cur.toArray t (0, 0) h).symm
  | v :: r, o, cur, W, h => by
    have h2 := h.row (cur.set o v).toArray
    rw [World.setCells, setCell_eq_setRow W g o cur.toArray t (0, 0) v h, List.setIfInBounds_toArray, setCells_row r (o + 1) _ _ h2, setRow_setRow]
    rfl
theorem run_storeVar_at {P : Program} (w w' : World) (p : Addr) (ty : TypeId) (cells : Array Value) (hi : (P.info? ty).map (·.size) = some cells.size) (hst : (storeCells p cells.toList).run P w = .ok () w') : (storeVar ty p (.agg cells)).run P w = .ok () w' := by
  cases hq : P.info? ty with
  | none => simp [hq] at hi
  | some i =>
    have hs : cells.size = i.size := by simp [hq] at hi; omega
    simp [storeVar, sizeOf, typeInfo, hq, Value.cells, hs, hst]
/-- Cells of a box stored. -/
theorem wpList_store_at {P : Program} {ops : Array Oper} {rest : List Oper} {o : Oper} {a : Act} {w : World} {Q : Exit → Act → World → Prop} (hgd : o.guard = none) (ty : TypeId) (x y : Operand) (ho : o.op = .store ty x y)
    (g off : Nat) (cells : Array Value) (hx : a.eval x = .pointer (some ⟨g, off, none⟩)) (hy : a.eval y = .agg cells) (t : TypeId) (cur : List Value) (hg : Blk w g t cur.toArray) (hi : (P.info? ty).map (·.size) = some cells.size) (hsz : off + cells.size ≤ cur.length)
    (h1 : ∀ v ∈ cells.toList, v.oneCell' = true) (h : wpList P ops Q rest (a.put o.dst undef) (w.setRow g (putL cur off cells.toList).toArray)) : wpList P ops Q (o :: rest) a w := by
  refine wpList_plain hgd fun _ hK => ?_
  have hst := run_storeCells_cells (P := P) g off cells.toList 0 w (fun j hj => by
      rw [hg.cell, Array.getElem?_eq_getElem (by rw [Array.length_toList] at hj; rw [List.size_toArray]; omega)]; rfl)
    (fun j _ => hg.frozen _) h1
  rw [Nat.add_zero, setCells_row _ _ _ _ hg] at hst
  have hsv := run_storeVar_at w _ ⟨g, off, none⟩ ty cells hi hst
  unfold Oper.wp execOp
  simp only [ho, hx, hy, Instr.storeAt, Instr.sureAddr, Sem.run_bind, Sem.run_pure, Result.andThen_ok, hsv]
  exact hK _ _ h
/-- Nothing that was there has turned but what is in S. -/
structure Turn (S : Nat → Prop) (w w' : World) : Prop where
  os : w'.os = w.os
  tape : w'.tape = w.tape
  output : w'.output = w.output
  size : w.heap.size ≤ w'.heap.size
  block : ∀ k, k < w.heap.size → ¬ S k → w'.heap[k]? = w.heap[k]?
theorem Turn.refl (S : Nat → Prop) (w : World) : Turn S w w := ⟨rfl, rfl, rfl, Nat.le_refl _, fun _ _ _ => rfl⟩
theorem Turn.trans {S : Nat → Prop} {a b c : World} (h : Turn S a b) (k : Turn S b c) : Turn S a c :=
  ⟨k.os.trans h.os, k.tape.trans h.tape, k.output.trans h.output, Nat.le_trans h.size k.size, fun i hi hn => (k.block i (Nat.lt_of_lt_of_le hi h.size) hn).trans (h.block i hi hn)⟩
theorem Turn.mono {S S' : Nat → Prop} {a b : World} (h : Turn S a b) (hs : ∀ k, k < a.heap.size → S k → S' k) : Turn S' a b :=
  ⟨h.os, h.tape, h.output, h.size, fun k hk hn => h.block k hk fun hk2 => hn (hs k hk hk2)⟩
theorem Turn.of_grown {w w' : World} {row : Option Nat} (h : w.grownBy w' row) : Turn (fun k => some k = row) w w' := ⟨h.os, h.tape, h.output, h.size, fun k hk hn => h.block k hk hn⟩
theorem Turn.of_below {w w' : World} {B : Nat} (h : Below B w w') : Turn (fun k => B ≤ k) w w' := ⟨h.os, h.tape, h.output, h.size, fun k _ hn => h.block k (by omega)⟩
theorem Turn.below {S : Nat → Prop} {w w' : World} {B : Nat} (h : Turn S w w') (hB : B ≤ w.heap.size) (hs : ∀ k, S k → B ≤ k) : Below B w w' :=
  ⟨h.os, h.tape, h.output, h.size, fun k hk => h.block k (by omega) fun hk2 => by have := hs k hk2; omega⟩
theorem Turn.drew {S : Nat → Prop} {a w : World} (h : Turn S a w) : Turn S a w.drew := ⟨h.os, h.tape, h.output, h.size, h.block⟩
theorem Turn.alloc {S : Nat → Prop} {a w : World} (h : Turn S a w) (o : Obj) : Turn S a (w.alloc o) :=
  h.trans (Turn.of_grown (World.grownBy_alloc w o none) |>.mono fun k _ hk => by cases hk)
theorem Turn.setCell {S : Nat → Prop} {a w : World} (h : Turn S a w) {p : Addr} (hp : p.block < a.heap.size → S p.block) (u : Value) : Turn S a (w.setCell p u) := by
  refine ⟨h.os, h.tape, h.output, by have := h.size; simpa using this, fun k hk hn => ?_⟩
  have hne : k ≠ p.block := fun e => hn (e ▸ hp (e ▸ hk))
  exact (Below.heap_setCell w p u k hne).trans (h.block k hk hn)
theorem Turn.cell {S : Nat → Prop} {w w' : World} (h : Turn S w w') {p : Addr} {u : Value} (hc : w.cell? p = some u) (hn : ¬ S p.block) : w'.cell? p = some u :=
  (World.cell?_of_block (h.block p.block (World.block_lt_of_cell? _ _ hc) hn)).trans hc
theorem Turn.row {S : Nat → Prop} {w w' : World} (h : Turn S w w') {base size n : Nat} {e : TypeId} {v : Value} {xs : List Value} (hr : w.ownsRow base e size v n xs) (hn : ∀ k, v.ownBlock = some k → ¬ S k) : w'.ownsRow base e size v n xs := by
  obtain ⟨h0, h1 | ⟨g, cap, cur, rfl, hb, hg, h2⟩⟩ := hr
  · exact ⟨h0, .inl h1⟩
  · exact ⟨h0, .inr ⟨g, cap, cur, rfl, hb, (h.block g (Array.getElem?_eq_some_iff.1 hg).1 (hn g rfl)).trans hg, h2⟩⟩
theorem below_row {w w' : World} (h : Below w.heap.size w w') {base size n : Nat} {e : TypeId} {v : Value} {xs : List Value} (hr : w.ownsRow base e size v n xs) : w'.ownsRow base e size v n xs :=
  (Turn.of_below h).row hr fun k hk => by have := (hr.lt k hk).2; omega
section
variable {ops : Array Oper} {rest : List Oper} {o : Oper} {a : Act} {w : World} {Q : Exit → Act → World → Prop}
/-- A box stored whole; into the block that was made last; read whole; put into a row of one. -/
theorem boxStore (T : TypeId) (n : Nat) (hi : (Try.prog.info? T).map (·.size) = some n) (hgd : o.guard = none) (x y : Operand) (ho : o.op = .store T x y) (g : Nat) (hx : a.eval x = .pointer (some ⟨g, 0, none⟩)) (cs : List Value) (hy : a.eval y = .agg cs.toArray) {t : TypeId} {old : Array Value} (hg : Blk w g t old) (hold : old.size = n) (hs : cs.length = n) (h1 : cs.all (·.oneCell') = true)
    (h : wpList Try.prog ops Q rest (a.put o.dst undef) (w.setRow g cs.toArray)) : wpList Try.prog ops Q (o :: rest) a w :=
  wpList_store_row hgd T x y ho g cs.toArray hx hy t old hg (by rw [hi, List.size_toArray, hs]) (by rw [hold, List.size_toArray, hs]) (by simpa only [List.all_toArray] using h1) h
theorem boxNew (T : TypeId) (n : Nat) (hi : (Try.prog.info? T).map (·.size) = some n) (hgd : o.guard = none) (x y : Operand) (ho : o.op = .store T x y) {t : TypeId} {old : Array Value} (hx : a.eval x = .pointer (some ⟨w.heap.size, 0, none⟩)) (cs : List Value) (hy : a.eval y = .agg cs.toArray) (hold : old.size = n) (hs : cs.length = n) (h1 : cs.all (·.oneCell') = true)
    (h : wpList Try.prog ops Q rest (a.put o.dst undef) (w.alloc (.cells cs.toArray t))) : wpList Try.prog ops Q (o :: rest) a (w.alloc (.cells old t)) := by
  refine boxStore T n hi hgd x y ho w.heap.size hx cs hy (Blk.new w t old) hold hs h1 ?_
  rw [World.setRow_alloc_new]
  exact h
theorem boxLoad (T : TypeId) (n : Nat) (hi : (Try.prog.info? T).map (·.size) = some n) {fs : _} (hu : Try.prog.underlying T = some (.struct fs)) (hgd : o.guard = none) (x : Operand) (ho : o.op = .load T x) (g : Nat) (hx : a.eval x = .pointer (some ⟨g, 0, none⟩)) {t : TypeId} {cs : List Value} (hg : Blk w g t cs.toArray) (hs : cs.length = n)
    (h : wpList Try.prog ops Q rest (a.put o.dst (.agg cs.toArray)) w) : wpList Try.prog ops Q (o :: rest) a w :=
  wpList_load_row hgd T x ho g hx t cs.toArray (0, 0) _ hg hu rfl (by rw [hi, List.size_toArray, hs]) h
theorem boxRes (T : TypeId) (n : Nat) (hi : (Try.prog.info? T).map (·.size) = some n) {fs : _} (hu : Try.prog.underlying T = some (.struct fs)) {fn : Func} {p : Tmp} (hr : fn.results = #[.cell p T]) (tmps : Array Value) (g : Nat) (hp : tmps.getD p undef = .pointer (some ⟨g, 0, none⟩)) {t : TypeId} {cs : List Value} (hg : Blk w g t cs.toArray) (hs : cs.length = n) :
    (results fn tmps).run Try.prog w = .ok (.agg cs.toArray) w :=
  results_cell_row hr tmps w g t cs.toArray (0, 0) _ hp hg hu rfl (by rw [hi, List.size_toArray, hs])
/-- A part of a box stored. -/
theorem boxPart (T : TypeId) (n : Nat) (hi : (Try.prog.info? T).map (·.size) = some n) (hgd : o.guard = none) (x y : Operand) (ho : o.op = .store T x y) (g off : Nat) (hx : a.eval x = .pointer (some ⟨g, off, none⟩)) (cs : List Value) (hy : a.eval y = .agg cs.toArray) {t : TypeId} {cur : List Value} (hg : Blk w g t cur.toArray) (hs : cs.length = n) (hsz : off + n ≤ cur.length) (h1 : cs.all (·.oneCell') = true)
    (h : wpList Try.prog ops Q rest (a.put o.dst undef) (w.setRow g (putL cur off cs).toArray)) : wpList Try.prog ops Q (o :: rest) a w :=
  wpList_store_at hgd T x y ho g off cs.toArray hx hy t cur hg (by rw [hi, List.size_toArray, hs]) (by rw [List.size_toArray, hs]; exact hsz) (by simpa using h1) (by simpa using h)
/-- One cell of a box stored. -/
theorem boxCell {t : TypeId} {cur : List Value} {g : Nat} (hg : Blk w g t cur.toArray) (k : Nat) (v : Value) : w.setCell ⟨g, k, none⟩ v = w.setRow g (cur.set k v).toArray := by
  rw [setCell_eq_setRow w g k cur.toArray t (0, 0) v hg, List.setIfInBounds_toArray]
theorem boxRow1 (ts T : TypeId) (n : Nat) (z : Value) (hu : Try.prog.underlying ts = some (.slice T)) (hi : (Try.prog.info? T).map (fun i => (i.zero, i.size)) = some (some z, n)) (_hz : z.cells.size = n) (hn : 0 < n ∧ n ≤ 1000) (hgd : o.guard = none) (x : Operand) (ho : o.op = .buildSlice ts 1 #[(0, x)]) (cs : List Value) (hx : a.eval x = .agg cs.toArray) (hs : cs.length = n)
    (h : wpList Try.prog ops Q rest (a.put o.dst (.slice (some ⟨w.heap.size, 0, none⟩) 1 1)) (w.alloc (.cells cs.toArray T))) : wpList Try.prog ops Q (o :: rest) a w := by
  obtain ⟨i, hi1, hi2⟩ := Option.map_eq_some_iff.1 hi
  simp only [Prod.mk.injEq] at hi2
  obtain ⟨h0, h2⟩ := hi2
  refine wpList_buildSlice hgd ts T 1 _ ho cs.toArray i z hu hi1 h0 (by rw [h2]; omega) (by rw [h2]; omega) ?_ h
  rw [h2, Nat.one_mul]
  obtain ⟨r, hr, hsz, hk⟩ := Great.fill_dense hn.1 [.agg cs.toArray] 0 ((Array.range n).map (z.cells[· % z.cells.size]!)) (fun v hv => by simp only [List.mem_singleton] at hv; subst hv; show cs.toArray.size = n; rw [List.size_toArray, hs]) (by simp)
  have e : (#[(0, x)].map fun (q : Nat × Operand) => (q.1, a.eval q.2)).toList = (([Value.agg cs.toArray] : List Value).zipIdx 0).map fun x => (x.2, x.1) := by simp [hx]
  have er : r = cs.toArray := by
    refine Array.ext' ?_
    refine List.ext_getElem? fun k => ?_
    have := hk k
    rw [Array.getElem?_toList, this]
    simp only [List.length_singleton, Nat.zero_mul, Nat.zero_add, Nat.one_mul, Nat.zero_le, true_and]
    by_cases hkn : k < n
    · rw [if_pos hkn, Nat.div_eq_of_lt hkn, Nat.mod_eq_of_lt hkn]
      show (cs.toArray)[k]? = _
      simp
    · rw [if_neg hkn]
      rw [List.getElem?_eq_none (l := cs.toArray.toList) (by simp; omega)]
      rw [Array.getElem?_eq_none (by simp; omega)]
  rw [← er, ← hr]
  exact congrArg _ e
end
/-- A box at any place read whole. -/
theorem boxLoadG (T : TypeId) (n : Nat) (hi : (Try.prog.info? T).map (·.size) = some n) {fs : _} (hu : Try.prog.underlying T = some (.struct fs)) {ops : Array Oper} {rest : List Oper} {o : Oper} {a : Act} {w : World} {Q : Exit → Act → World → Prop} (hgd : o.guard = none) (x : Operand) (ho : o.op = .load T x) (g : Addr) (hx : a.eval x = .pointer (some g)) {cs : List Value} (hc : ∀ (j : Nat) (v : Value), cs[j]? = some v → w.cell? (g.add j) = some v) (hs : cs.length = n)
    (h : wpList Try.prog ops Q rest (a.put o.dst (.agg cs.toArray)) w) : wpList Try.prog ops Q (o :: rest) a w := by
  refine wpList_plain hgd fun _ hK => ?_
  have hl : (loadCells g cs.length).run Try.prog w = .ok cs.toArray w := run_loadCells_list (P := Try.prog) w g cs hc
  have hsv : (loadVar T g).run Try.prog w = .ok (.agg cs.toArray) w := by
    obtain ⟨i, hi, hi'⟩ := Option.map_eq_some_iff.1 hi
    have hagg : (isAgg T).run Try.prog w = .ok true w := by
      unfold isAgg
      rw [Sem.run_bind, run_underlying hu w]
      rfl
    rw [hs] at hl
    generalize cs.toArray = cs at *
    simp [loadVar, Sem.run_bind, hagg, sizeOf, typeInfo, hi, hi', hl]
  have hr : (execOp a.eval o).run Try.prog w = .ok (.value (.agg cs.toArray)) w := by
    unfold execOp
    simp only [ho, hx, Instr.loadAt, Instr.sureAddr, Sem.run_bind, Sem.run_pure, Result.andThen_ok, hsv]
  unfold Oper.wp
  rw [hr]
  exact hK _ _ h
section
open Go.ChangeShapes Go.WideShapes Go.Deep
/-- A slice opened, with the reading's fuel: each element of its length. -/
theorem open_fuel {H : Type} {enc : TypeId × Value → H} {P : Program} {w : World} {base : Nat} {spare : Nat → Bool} {held : Bool} {t e : TypeId} {fuel : Nat} {cs : List Value} {x : DataW H × List MemPlace} (ht : P.underlying t = some (.slice e)) (h : DataW.trod enc P w base spare held fuel t cs = some x) :
    (cs = [.slice none 0 0] ∧ x = (.nil, [])) ∨
    ∃ (a : Addr) (cap n : Nat) (ds rest : List (DataW H)), fuel = n + 1 ∧ cs = [.slice (some a) ds.length cap] ∧ x.1 = .slice ds rest ∧ ds.length ≤ cap ∧ cap ≤ maxLen ∧
      ∀ (i : Nat) (d : DataW H), ds[i]? = some d → ∃ cs' pl, w.cells? base (a.add (i * P.cellsOf e)) (P.cellsOf e) = some cs' ∧ DataW.trod enc P w base spare held n e cs' = some (d, pl) := by
  rcases DataW.trod_slice ht h with h0 | ⟨a, len, cap, elems, rest, n, hf, rfl, rfl, hb, hl, hm, rfl, hel, _⟩
  · exact .inl h0
  · refine .inr ⟨a, cap, n, elems.map (·.1), rest.map (·.1), hf, by simp, rfl, by simpa using hl, hm, fun i d hd => ?_⟩
    rw [List.getElem?_map] at hd
    obtain ⟨q, hq, rfl⟩ := Option.map_eq_some_iff.1 hd
    have := hel i (List.getElem?_eq_some_iff.1 hq).1
    rw [hq] at this
    obtain ⟨cs', h1, h2⟩ := Option.bind_eq_some_iff.1 this
    exact ⟨cs', q.2, h1, h2⟩
theorem weightsAll_mem' {H : Type} {P : Program} {e : TypeId} : ∀ {ds : List (DataW H)} {d : DataW H} {n : Nat}, d ∈ ds → n ∈ d.weights P e → n ∈ DataW.weightsAll P e ds
  | [], _, _, h, _ => by cases h
  | x :: r, d, n, h, hn => by
    simp only [DataW.weightsAll, List.mem_append]
    cases List.mem_cons.1 h with
    | inl e => subst e; exact .inl hn
    | inr e => exact .inr (weightsAll_mem' e hn)
theorem add_more' (a : Addr) (i j : Nat) : (a.add i).add j = a.add (i + j) := by
  by_cases hi : i = 0 <;> by_cases hj : j = 0 <;> simp [Addr.add, hi, hj, Nat.add_assoc]
end
end Go.Proofs.Ytlakmniaocpaaaa
