/-
  A row from its end on: the library's iterator at methods, and the range over it, its body told what has come. Condition: at most 2^62 elements.
  The program's own map of names to the first method of each. Condition: names that the model's reader reads, at most 2^62 elements.
-/
import Derived.Test.YtlakmniaocpaaaaM09
import Derived.RangeFuncNested
import Derived.RangeFuncBound
import Derived.RangeFuncLeaves
import Derived.Shelf.Abstract
import Derived.Shelf.RegionOpen
import Derived.WalkKit
import Derived.OwnWalkIn
import Derived.TacticsInMore
import Derived.LoopNIn
import Derived.LoopIn
import Derived.Carry
namespace Go.Proofs.Ytlakmniaocpaaaa.sg
open Go.RowKit Go.Shelf
open Go.Lib hiding intOf
/-! ### structs read whole -/
theorem run_loadG (T : TypeId) (n : Nat) (hi : (Try.prog.info? T).map (·.size) = some n) {fs : _} (hu : Try.prog.underlying T = some (.struct fs)) {o : Oper} {a : Act} {w : World} (x : Operand) (ho : o.op = .load T x) (g : Addr) (hx : a.eval x = .pointer (some g)) {cs : List Value} (hc : ∀ (j : Nat) (v : Value), cs[j]? = some v → w.cell? (g.add j) = some v) (hs : cs.length = n) :
    (execOp a.eval o).run Try.prog w = .ok (.value (.agg cs.toArray)) w := by
  have hl : (loadCells g cs.length).run Try.prog w = .ok cs.toArray w := run_loadCells_list (P := Try.prog) w g cs hc
  have hsv : (loadVar T g).run Try.prog w = .ok (.agg cs.toArray) w := by
    obtain ⟨i, hi, hi'⟩ := Option.map_eq_some_iff.1 hi
    have hagg : (isAgg T).run Try.prog w = .ok true w := by
      unfold isAgg
      rw [Sem.run_bind, run_underlying hu w]
      rfl
    rw [hs] at hl
    generalize cs.toArray = cs at *
    simp [loadVar, Sem.run_bind, hagg, sizeOf, typeInfo, hi, hi', hl]
  unfold execOp
  simp only [ho, hx, Instr.loadAt, Instr.sureAddr, Sem.run_bind, Sem.run_pure, Result.andThen_ok, hsv]
theorem boxLoadG (T : TypeId) (n : Nat) (hi : (Try.prog.info? T).map (·.size) = some n) {fs : _} (hu : Try.prog.underlying T = some (.struct fs)) {ops : Array Oper} {rest : List Oper} {o : Oper} {a : Act} {w : World} {Q : Exit → Act → World → Prop} (hgd : o.guard = none) (x : Operand) (ho : o.op = .load T x) (g : Addr) (hx : a.eval x = .pointer (some g)) {cs : List Value} (hc : ∀ (j : Nat) (v : Value), cs[j]? = some v → w.cell? (g.add j) = some v) (hs : cs.length = n)
    (h : wpList Try.prog ops Q rest (a.put o.dst (.agg cs.toArray)) w) : wpList Try.prog ops Q (o :: rest) a w := by
  refine wpList_plain hgd fun _ hK => ?_
  have hr := run_loadG T n hi hu x ho g hx hc hs
  unfold Oper.wp
  rw [hr]
  exact hK _ _ h
theorem boxLoadGIn {F : Fence} {nF : Nat} (T : TypeId) (n : Nat) (hi : (Try.prog.info? T).map (·.size) = some n) {fs : _} (hu : Try.prog.underlying T = some (.struct fs)) {ops : Array Oper} {rest : List Oper} {o : Oper} {a : Act} {w : World} {Q : Exit → Act → World → Prop} (hgd : o.guard = none) (x : Operand) (ho : o.op = .load T x) (g : Addr) (hx : a.eval x = .pointer (some g)) {cs : List Value} (hc : ∀ (j : Nat) (v : Value), cs[j]? = some v → w.cell? (g.add j) = some v) (hs : cs.length = n)
    (h : wpListIn F nF Try.prog ops Q rest (a.put o.dst (.agg cs.toArray)) w) : wpListIn F nF Try.prog ops Q (o :: rest) a w := by
  refine wpListIn_plain hgd fun K hK => ?_
  have hr := run_loadG T n hi hu x ho g hx hc hs
  unfold Oper.wpIn
  refine ⟨by simp [Oper.about, ho], ?_⟩
  rw [Oper.semAt_plain F _ _ (by rw [ho]; intro c hc'; cases hc')]
  rw [hr]
  exact hK _ _ h
/-! ### from the end on -/
section
variable {β : Type}
def bks (L : List β) : Nat → List (Nat × β)
  | 0 => []
  | i + 1 => match L[i]? with | some x => (i, x) :: bks L i | none => bks L i
theorem bks_succ {L : List β} {i : Nat} {x : β} (h : L[i]? = some x) : bks L (i + 1) = (i, x) :: bks L i := by
  show (match L[i]? with | some x => (i, x) :: bks L i | none => bks L i) = _
  rw [h]
theorem bks_len {L : List β} : ∀ {i : Nat}, i ≤ L.length → (bks L i).length = i
  | 0, _ => rfl
  | i + 1, h => by rw [bks_succ (List.getElem?_eq_getElem h), List.length_cons, bks_len (by omega)]
/-- What has come tells where one stands. -/
theorem bks_next {L : List β} {pre : List (Nat × β)} {i : Nat} {x : Nat × β} (hi : i ≤ L.length) (hp : pre ++ bks L i = bks L L.length) (h : pre ++ [x] <+: bks L L.length) : ∃ k, i = k + 1 ∧ x.1 = k ∧ L[k]? = some x.2 ∧ (pre ++ [x]) ++ bks L k = bks L L.length := by
  rw [← hp, List.prefix_append_right_inj] at h
  cases i with
  | zero => obtain ⟨r, hr⟩ := h; simp [bks] at hr
  | succ k =>
    have hk := List.getElem?_eq_getElem (show k < L.length by omega)
    rw [bks_succ hk] at h hp
    obtain ⟨r, hr⟩ := h
    injection hr with h1 h2
    subst h1
    exact ⟨k, rfl, rfl, hk, by rw [← hp]; simp⟩
theorem bks_end {L : List β} {i : Nat} (hi : i ≤ L.length) (hp : bks L L.length ++ bks L i = bks L L.length) : i = 0 := by
  have := congrArg List.length hp
  rw [List.length_append, bks_len (Nat.le_refl _), bks_len hi] at this
  omega
def encB (enc : β → Value) (x : Nat × β) : Array Value := #[.int .i64 (x.1 : Int), enc x.2]
/-- What the iterator does. -/
def IterOK (FN bx : Nat) (enc : β → Value) (L : List β) (KB : World → Prop) : Prop :=
  ∀ (n : Nat), 1 ≤ n → ∀ (l : Nat) (J Jx : List (Nat × β) → World → Prop),
    (∀ pre x W, J pre W → pre ++ [x] <+: bks L L.length → YieldAt Fence.wide (n - 1) Try.prog l (encB enc x) W fun e W' =>
      (e = .returned (.bool true) ∧ J (pre ++ [x]) W' ∧ (KB W → KB W')) ∨ (e = .returned (.bool false) ∧ Jx (pre ++ [x]) W')) →
    ∀ W, KB W → J [] W → CallsIn Fence.wide n Try.prog FN #[.func (.yield l) #[] #[], .pointer (some ⟨bx, 0, none⟩)] W fun e W' => (∃ v, e = .returned v) ∧ (J (bks L L.length) W' ∨ ∃ pre, Jx pre W')
def recB (fn : FuncId) (a : Act) (ps : Array Tmp) (assign body : Code) (D : Nat) (st : LoopState) (pe : Option Code) : Loop :=
  { state := st, pending := pe, fn := fn, tmps := a.tmps, params := ps, assign := assign, body := body, defers := D }
structure BooksB (D : Nat) (r : Loop) (W : World) : Prop where
  calls : W.heap[D]? = some (.deferred (some []))
  own : W.heap[D + 1]? = some (.loop r)
theorem BooksB.lt {D : Nat} {r : Loop} {W : World} (h : BooksB D r W) : D + 1 < W.heap.size := lt_of_some h.own
theorem BooksB.keep {D : Nat} {r : Loop} {A B : World} (h : BooksB D r A) (hk : KeepsFrom D A B) : BooksB D r B :=
  ⟨hk.same _ _ (Nat.le_refl _) h.calls rfl, hk.same _ _ (Nat.le_succ _) h.own rfl⟩
theorem BooksB.write {D : Nat} {r : Loop} {A : World} (h : BooksB D r A) (r' : Loop) : BooksB D r' (A.putObj (D + 1) (.loop r')) :=
  ⟨(World.putObj_heap_other (by omega)).trans h.calls, World.putObj_heap_same h.lt⟩
theorem BooksB.made (w : World) (r : Loop) : BooksB w.heap.size r ((w.alloc (.deferred (some []))).alloc (.loop r)) := by
  refine ⟨(Below.heap_alloc _ _ _ (by simp)).trans (World.alloc_heap_new w _), ?_⟩
  have h := World.alloc_heap_new (w.alloc (.deferred (some []))) (.loop r)
  rwa [World.size_alloc] at h
theorem own_booksB {γ : Type} {D : Nat} {r r' : Loop} {I : γ → World → Prop} {b : γ} {A : World} (hI : OwnFrom D I) (h : I b A) (hb : BooksB D r A) : I b (A.putObj (D + 1) (.loop r')) :=
  hI.putObj _ h (Nat.le_succ _) hb.own rfl
theorem round_shutB {fn : FuncId} {a : Act} {ps : Array Tmp} {assign body : Code} {D : Nat} {W : World} (hb : BooksB D (recB fn a ps assign body D .busy none) W) (jump : Option Code) :
    (Instr.endRound (D + 1) jump).run Try.prog W = .ok (.bool jump.isNone) (W.putObj (D + 1) (.loop (recB fn a ps assign body D (if jump.isNone then .ready else .done) jump))) :=
  run_endRound jump hb.own
def noX : Code → List (Nat × β) → World → Prop := fun _ _ _ => False
theorem round_back {enc : β → Value} {KB : World → Prop} {fn : FuncId} {a : Act} {ps : Array Tmp} {assign body : Code} {D : Nat} (hps : ps.size = 2) (hKB : OwnFrom D (fun (_ : Unit) W => KB W))
    (I : List (Nat × β) → World → Prop) (hI : OwnFrom D I) (Ax : Nat × β → Act → World → Prop) (hAx : ∀ x a', OwnFrom D (fun (_ : Unit) W => Ax x a' W)) (pre : List (Nat × β)) (x : Nat × β)
    (hassign : ∀ (W : World) (K : Act → World → Prop), I pre W → (∀ a' W', KeepsFrom D W W' → (KB W → KB W') → I pre W' → Ax x a' W' → K a' W') → assign.wpIn (Fence.wide.inRound (D + 1)) 4 Try.prog (Exit.then K (fun _ _ _ => False)) { tmps := (ps.zip (encB enc x)).foldl (fun t (p, v) => t.setIfInBounds p v) a.tmps, defers := [] } W)
    (hbody : ∀ (a' : Act) (W : World), I pre W → Ax x a' W → body.wpIn (Fence.wide.inRound (D + 1)) 4 Try.prog (ownPostG D (fun A B => KB A → KB B) I noX (pre ++ [x]) W) a' W)
    (W : World) (h : I pre W ∧ BooksB D (recB fn a ps assign body D .ready none) W) :
    YieldAt Fence.wide 4 Try.prog (D + 1) (encB enc x) W fun e W' =>
      (e = .returned (.bool true) ∧ (I (pre ++ [x]) W' ∧ BooksB D (recB fn a ps assign body D .ready none) W') ∧ (KB W → KB W')) ∨ (e = .returned (.bool false) ∧ False) := by
  refine ⟨fn, _, assign, body, run_yield h.2.own (by rw [show (encB enc x).size = 2 from rfl]; exact hps.symm), roundIn_of_wpIn trivial (hassign W _ h.1 ?_)⟩
  intro a' A hka hra hia hax
  have hA := h.2.keep hka
  have hW := hA.write (recB fn a ps assign body D .busy none)
  refine ⟨_, run_beginRound hA.own rfl, wpIn_mono (hbody a' _ (own_booksB hI hia hA) (own_booksB (b := ()) (hAx x a') hax hA)) ?_⟩
  intro e a3 Z hz
  cases e with
  | normal =>
    have hZ := hW.keep hz.1
    exact ⟨_, _, round_shutB hZ none, .inl ⟨rfl, ⟨own_booksB hI hz.2.2 hZ, hZ.write _⟩, fun hB => own_booksB (b := ()) hKB (hz.2.1 (own_booksB (b := ()) hKB (hra hB) hA)) hZ⟩⟩
  | ret => exact hz.2.elim
  | exit id => exact hz.2.elim
  | goto t => exact hz.2.elim
  | panic ch => exact hz.elim
  | outgrown => exact hz.elim
theorem range_back {FN bx : Nat} {enc : β → Value} {L : List β} {KB : World → Prop} (hIT : IterOK FN bx enc L KB) (hfe : ∀ args w, (callFunc FN args).run Try.prog w = .ok (.enter FN args) w) {g : Operand} {ps : Array Tmp} {assign body : Code} {Q : Exit → Act → World → Prop} {a : Act} {w : World}
    (hKB : OwnFrom w.heap.size (fun (_ : Unit) W => KB W)) (hT : KB w) (hg : a.eval g = .func (.func FN) #[] #[.pointer (some ⟨bx, 0, none⟩)]) (hps : ps.size = 2)
    (I : List (Nat × β) → World → Prop) (hI : OwnFrom w.heap.size I) (h0 : I [] w) (Ax : Nat × β → Act → World → Prop) (hAx : ∀ x a', OwnFrom w.heap.size (fun (_ : Unit) W => Ax x a' W))
    (hassign : ∀ (l : Nat) (pre : List (Nat × β)) (x : Nat × β) (W : World) (K : Act → World → Prop), I pre W → pre ++ [x] <+: bks L L.length → (∀ a' W', KeepsFrom w.heap.size W W' → (KB W → KB W') → I pre W' → Ax x a' W' → K a' W') → assign.wpIn (Fence.wide.inRound l) 4 Try.prog (Exit.then K (fun _ _ _ => False)) { tmps := (ps.zip (encB enc x)).foldl (fun t (p, v) => t.setIfInBounds p v) a.tmps, defers := [] } W)
    (hbody : ∀ (l : Nat) (pre : List (Nat × β)) (x : Nat × β) (a' : Act) (W : World), I pre W → Ax x a' W → pre ++ [x] <+: bks L L.length → body.wpIn (Fence.wide.inRound l) 4 Try.prog (ownPostG w.heap.size (fun A B => KB A → KB B) I noX (pre ++ [x]) W) a' W)
    (hdone : ∀ (D : Nat) (W : World), w.heap.size ≤ D → I (bks L L.length) W → W.heap[D]? = some (.deferred (some [])) → Q .normal { a with defers := { target := .collected D, args := #[] } :: a.defers } W) :
    (Code.rangeFunc g ps assign body).wpIn Fence.wide 6 Try.prog Q a w := by
  refine wpIn_rangeFunc fun fn _ => ?_
  have hM := BooksB.made w (recB fn a ps assign body w.heap.size .ready none)
  have h1 : I [] ((w.alloc (.deferred (some []))).alloc (.loop (recB fn a ps assign body w.heap.size .ready none))) := hI.alloc _ (hI.alloc _ h0)
  have hT1 : KB ((w.alloc (.deferred (some []))).alloc (.loop (recB fn a ps assign body w.heap.size .ready none))) := hKB.alloc (s := ()) _ (hKB.alloc (s := ()) _ hT)
  obtain ⟨W1, hW1⟩ : ∃ W1, (w.alloc (.deferred (some []))).alloc (.loop (recB fn a ps assign body w.heap.size .ready none)) = W1 := ⟨_, rfl⟩
  rw [hW1] at hM h1 hT1
  have hE : (Instr.enterLoop fn a.tmps ps assign body Fence.wide.round).run Try.prog w = .ok (w.heap.size + 1, [{ target := .collected w.heap.size, args := #[] }]) W1 := by
    rw [← hW1]; exact run_enterLoop_outer _ _ _ _ _
  refine ⟨w.heap.size + 1, [{ target := .collected w.heap.size, args := #[] }], W1, { target := .fn (.func FN) #[.pointer (some ⟨bx, 0, none⟩)], args := #[.func (.yield (w.heap.size + 1)) #[] #[]] }, W1, FN,
    #[.func (.yield (w.heap.size + 1)) #[] #[]] ++ #[.pointer (some ⟨bx, 0, none⟩)], W1, hE, ?_, fun _ _ => trivial, ?_, (fun h => absurd h (by decide)), ?_⟩
  · simp only [resolve, hg]
    simp [go_sem]
  · simp [invoke, go_sem, hfe]
  · refine (hIT 5 (by omega) (w.heap.size + 1) (fun pre W => I pre W ∧ BooksB w.heap.size (recB fn a ps assign body w.heap.size .ready none) W) (fun _ _ => False)
      (fun pre x W hJ hpre => round_back hps hKB I hI Ax hAx pre x (fun W K hi => hassign _ pre x W K hi hpre) (fun a' W hi hx => hbody _ pre x a' W hi hx hpre) W hJ) _ hT1 ⟨h1, hM⟩).mono ?_
    rintro e Z ⟨⟨v, rfl⟩, (⟨hi, hb⟩ | ⟨pre, hf⟩)⟩
    · exact ⟨none, _, run_endLoop hb.own (by simp [recB]), hdone _ _ (Nat.le_refl _) (own_booksB hI hi hb) (hb.write _).calls⟩
    · exact hf.elim
end
/-! ### rows of strings, of structs -/
/-- Strings in a row; structs of n cells in a row. -/
def RowS (W : World) (o : Option Addr) (L : List ByteArray) : Prop := ∀ (i : Nat) (x : ByteArray), L[i]? = some x → ∃ a, o = some a ∧ W.cell? (a.add i) = some (.string x)
def RowN (n : Nat) (W : World) (o : Option Addr) (L : List (List Value)) : Prop := ∀ (i : Nat) (x : List Value), L[i]? = some x → ∃ a, o = some a ∧ x.length = n ∧ ∀ (j : Nat) (u : Value), x[j]? = some u → W.cell? ((a.add (i * n)).add j) = some u
theorem RowS.keep {W W' : World} {o : Option Addr} {L : List ByteArray} (h : RowS W o L) (hk : ∀ (a : Addr) (u : Value), W.cell? a = some u → W'.cell? a = some u) : RowS W' o L := fun i x hx => by
  obtain ⟨a, h1, h2⟩ := h i x hx
  exact ⟨a, h1, hk _ _ h2⟩
theorem RowN.keep {n : Nat} {W W' : World} {o : Option Addr} {L : List (List Value)} (h : RowN n W o L) (hk : ∀ (a : Addr) (u : Value), W.cell? a = some u → W'.cell? a = some u) : RowN n W' o L := fun i x hx => by
  obtain ⟨a, h1, h2, h3⟩ := h i x hx
  exact ⟨a, h1, h2, fun j u hu => hk _ _ (h3 j u hu)⟩
/-- A box, and what hangs on cells alone. -/
structure Bk (R : World → Prop) (T : TypeId) (bx : Nat) (v : Value) (W : World) : Prop where
  box : Blk W bx T #[v]
  row : R W
def CellsKept (R : World → Prop) : Prop := ∀ W W', (∀ (a : Addr) (u : Value), W.cell? a = some u → W'.cell? a = some u) → R W → R W'
theorem cell_kept {B : Nat} {W W' : World} {row : Option Nat} (hg : W.grownBy W' row) (hr : ∀ r, row = some r → B ≤ r ∧ ∃ o : Obj, W.heap[r]? = some o ∧ o.isCells = false) (a : Addr) (u : Value) (h : W.cell? a = some u) : W'.cell? a = some u := by
  refine (World.cell?_of_block (hg.block a.block (World.block_lt_of_cell? _ _ h) fun e => ?_)).trans h
  obtain ⟨_, o, ho, hc⟩ := hr a.block e.symm
  unfold World.cell? at h
  rw [ho] at h
  cases o <;> simp_all [Obj.isCells]
theorem Bk.own {R : World → Prop} (hR : CellsKept R) (T : TypeId) (bx : Nat) (v : Value) (D : Nat) : OwnFrom D (fun (_ : Unit) W => Bk R T bx v W) := by
  rintro _ W W' row ⟨h1, h2⟩ hg hr
  refine ⟨h1.kept hg fun e => ?_, hR W W' (cell_kept hg hr) h2⟩
  obtain ⟨_, o, ho, hc⟩ := hr bx e.symm
  unfold Blk at h1
  rw [h1] at ho
  cases ho
  cases hc
theorem Bk.below {R : World → Prop} (hR : CellsKept R) {T : TypeId} {bx : Nat} {v : Value} {W W' : World} (h : Bk R T bx v W) (hb : Below W.heap.size W W') : Bk R T bx v W' :=
  ⟨(hb.block bx h.box.lt).trans h.box, hR W W' (fun _ _ hc => (hb.cell (World.block_lt_of_cell? _ _ hc)).trans hc) h.row⟩
theorem rowS_kept (o : Option Addr) (L : List ByteArray) : CellsKept (fun W => RowS W o L) := fun _ _ hk h => h.keep hk
theorem rowN_kept (n : Nat) (o : Option Addr) (L : List (List Value)) : CellsKept (fun W => RowN n W o L) := fun _ _ hk h => h.keep hk
attribute [local go_sem] Oper.semAt_some
theorem sizeM : (Try.prog.info? 54).map (·.size) = some 7 := by kernel_rfl
theorem backwardM_any (o : Option Addr) (m cap : Nat) (w : World) : Calls Try.prog 77 #[.slice o m cap] w fun e w' =>
    e = .returned (.func (.func 88) #[] #[.pointer (some ⟨w.heap.size, 0, none⟩)]) ∧ w' = w.alloc (.cells #[.slice o m cap] 55) := by
  go_enter Try.func77, Try.ntmps77
  go_wp2
  go_ret
  exact ⟨rfl, rfl⟩
theorem entersM : ∀ args w, (callFunc 88 args).run Try.prog w = .ok (.enter 88 args) w := enters_of Try.func88 (by kernel_rfl) rfl
set_option maxRecDepth 100000 in
set_option maxHeartbeats 2000000 in
theorem iterM_ok (bx : Nat) (o : Option Addr) (m cap : Nat) (L : List (List Value)) (hL : L.length = m) (hm : m ≤ 4611686018427387904) : IterOK 88 bx (fun c => Value.agg c.toArray) L (Bk (fun W => RowN 7 W o L) 55 bx (.slice o m cap)) := by
  intro n hn l J Jx hY W hT h0
  refine callsIn_of_wp Try.func88 rfl trivial ?_ rfl
  simp only [Try.ntmps88, List.size_toArray, List.length_cons, List.length_nil, Nat.reduceAdd, Nat.reduceSub, Array.replicate_succ, Array.replicate_zero, List.push_toArray, List.append_toArray, List.nil_append, List.cons_append]
  have HY := Lib.hid hY
  have HT := Lib.hid hT
  have H0 := Lib.hid h0
  have HL := Lib.hid hL
  have HM := Lib.hid hm
  have c0 := hT.box.cell 0
  have hw0 := IntWalk.i64_in ((m : Int) - 1) ⟨by omega, by omega⟩
  clear hY hT h0 hL hm
  gi_wp2
  gi_loopw [3] (fun a wr => ∃ (pre : List (Nat × (List Value))) (i : Nat), a = .int .i64 ((i : Int) - 1) ∧ Hid (i ≤ m) ∧ Hid (pre ++ bks L i = bks L L.length) ∧ Hid (J pre wr) ∧ Hid (Bk (fun W => RowN 7 W o L) 55 bx (.slice o m cap) wr)) (fun a _ => (RowKit.intOf a + 1).toNat)
  case atStart => exact ⟨[], m, rfl, Nat.le_refl _, (by show _ = _; rw [HL.out]; rfl), H0, HT⟩
  case round =>
    obtain ⟨pre, i, rfl, HI, HP, HJ, HB⟩ := hrel
    clear c0 hw0
    have c0 := HB.out.box.cell 0
    cases i with
    | zero =>
      have hneg : ¬ ((0 : Int) ≤ ((0 : Nat) : Int) - 1) := by decide
      have hp := HP.out
      simp only [bks, List.append_nil] at hp
      subst hp
      gi_wp2
      go_end0
      exact ⟨⟨_, rfl⟩, .inl HJ.out⟩
    | succ i =>
      have hie : (((i + 1 : Nat)) : Int) - 1 = (i : Int) := by omega
      rw [hie]
      have hin := HI.out
      have hnn : (0 : Int) ≤ (i : Int) := by omega
      have him : (i : Int) < (m : Int) := by omega
      have hwi := IntWalk.i64_in ((i : Int) - 1) ⟨by omega, by have := HM.out; omega⟩
      obtain ⟨x, hx⟩ : ∃ x, L[i]? = some x := ⟨_, List.getElem?_eq_getElem (by rw [HL.out]; omega)⟩
      obtain ⟨ad, rfl, hxl, hcx⟩ := HB.out.row i x hx
      have HCX := Lib.hid hcx
      have HXL := Lib.hid hxl
      clear hcx hxl
      have hpre : pre ++ [(i, x)] <+: bks L L.length := ⟨bks L i, by rw [← HP.out, bks_succ hx]; simp⟩
      obtain ⟨fn, tmps, assign, body, hy, hR⟩ := HY.out pre (i, x) wr HJ.out hpre
      unfold encB at hy
      dsimp only at hy
      have HRR := Lib.hid hR
      have HPre := Lib.hid (show (pre ++ [(i, x)]) ++ bks L i = bks L L.length by rw [← HP.out, bks_succ hx]; simp)
      clear hR hpre hin hie hx
      gi_wp2_with (refine boxLoadGIn 54 7 sizeM Try.underlying54 rfl _ rfl _ rfl (cs := x) HCX.out HXL.out ?_)
      refine HRR.out.mono ?_
      rintro e W3 (⟨rfl, hJ3, hk3⟩ | ⟨rfl, hJx3⟩)
      · have HJ3 := Lib.hid hJ3
        have HB3 := Lib.hid (hk3 HB.out)
        clear hJ3 hk3 c0 hy
        gi_wp2
        go_roundw
        case rel => exact ⟨pre ++ [(i, x)], i, rfl, by have := HI.out; show _ ≤ _; omega, HPre, HJ3, HB3⟩
        case measure => simp [RowKit.intOf]
      · have HJ3 := Lib.hid hJx3
        clear hJx3 c0 hy
        gi_wp2
        refine bodyPost_ret (results_none rfl _ _ _) rfl ?_
        exact ⟨⟨_, rfl⟩, .inr ⟨_, HJ3.out⟩⟩
end Go.Proofs.Ytlakmniaocpaaaa.sg
namespace Go.Proofs.Ytlakmniaocpaaaa.sg
open Go.RowKit Go.Shelf
open Go.Lib hiding intOf
attribute [local go_sem] Oper.semAt_some
/-- The place of the first one of a name, counted from k on. -/
def firstN : List Nm → Nat → Nm → Option Nat
  | [], _, _ => none
  | a :: r, k, x => if x = a then some k else firstN r (k + 1) x
theorem firstN_drop {l : List Nm} {k : Nat} {a : Nm} (h : l[k]? = some a) : firstN (l.drop k) k = putF (firstN (l.drop (k + 1)) (k + 1)) a k := by
  obtain ⟨hk, e⟩ := List.getElem?_eq_some_iff.1 h
  rw [List.drop_eq_getElem_cons hk, e]
  rfl
theorem le_maxLen {k : Nat} (h : k ≤ 281474976710656) : k ≤ maxLen := Nat.le_trans h (by decide)
theorem makeMap_len (n : Nat) (hn : n ≤ 4611686018427387904) (W : World) : (Instr.makeMap 117 (some (.int .i64 (n : Int)))).run Try.prog W = .ok (.map (some W.heap.size)) (W.alloc (.map #[] 0)) := by
  have h1 : ¬ ((n : Int) < 0) := by omega
  have h2 : (n : Int) ≤ 9223372036854775807 := by omega
  simp [Instr.makeMap, go_sem]
  try omega
theorem run_putI (w : World) (b n : Nat) (F : Nm → Option Nat) (h : IsM mkI w b n F) (hn : n < maxLen) (s : ByteArray) (hs : s.size ≤ maxLen) (j : Nat) :
    ∃ w', (Instr.mapUpdate 117 (.map (some b)) (.string s) (.int .i64 (j : Int))).run Try.prog w = .ok () w' ∧ IsM mkI w' b (n + 1) (putF F (nm s) j) ∧ w.grownBy w' (some b) := run_put mkI w b n F h hn s hs j trivial
/-- The cells of a method. -/
def IsHd (c : List Value) : Prop := ∃ (s : ByteArray) (o : Option Addr) (l k : Nat) (a : Int) (p q : ByteArray) (n : Int) (o' : Option Addr) (e k' : Nat), c = [.string s, .slice o l k, .int .i64 a, .string p, .string q, .int .i64 n, .slice o' e k'] ∧ s.size ≤ 281474976710656
/-- A method's name. -/
def nmD : List Value → Nm
  | .string s :: _ => nm s
  | _ => []
/-- Behind some rounds. -/
def FirstD (w : World) (m : Nat) (o : Option Addr) (cap : Nat) (L : List (List Value)) (pre : List (Nat × (List Value))) (W : World) : Prop :=
  ∃ i, i ≤ m ∧ pre ++ bks L i = bks L L.length ∧ IsM mkI W (w.heap.size + 1) (m - i) (firstN ((L.map nmD).drop i) i) ∧ Blk W (w.heap.size + 1 + 1) 117 #[.map (some (w.heap.size + 1))] ∧ Blk W w.heap.size 55 #[.slice o m cap] ∧ Below w.heap.size w W
theorem firstD_own (w : World) (m : Nat) (o : Option Addr) (cap : Nat) (L : List (List Value)) (D : Nat) (hD : w.heap.size + 1 + 1 ≤ D) : OwnFrom D (FirstD w m o cap L) := by
  rintro pre W W' row ⟨i, h1, h2, h3, h4, h5, h6⟩ hg hr
  have hne : ∀ k, k < D → some k ≠ row := fun k hk e => by have := (hr k e.symm).1; omega
  exact ⟨i, h1, h2, h3.same (hg.block _ h3.lt (hne _ (by omega))), h4.kept hg (fun e => by
      obtain ⟨_, o, ho, hc⟩ := hr _ e.symm
      unfold Blk at h4
      rw [h4] at ho
      cases ho
      cases hc), h5.kept hg (hne _ (by omega)), h6.trans ⟨hg.os, hg.tape, hg.output, hg.size, fun k hk => hg.block k (by have := h6.size; omega) (hne k (by omega))⟩⟩
theorem firstD_step {w W Z w9 : World} {m n1 D : Nat} {L : List (List Value)} {pre : List (Nat × (List Value))} {x : Nat × (List Value)} {o : Option Addr} {cap : Nat} {v : Value} (hD : w.heap.size + 1 + 1 + 1 ≤ D) (h3 : ∃ es c, W.heap[w.heap.size + 1]? = some (.map es c)) (hx : L[x.1]? = some x.2) (h1 : x.1 + 1 ≤ m) (hp : (pre ++ [x]) ++ bks L x.1 = bks L L.length)
    (h4 : Blk W (w.heap.size + 1 + 1) 117 #[.map (some (w.heap.size + 1))]) (h5 : Blk W w.heap.size 55 #[.slice o m cap]) (h6 : Below w.heap.size w W) (hZ : Below W.heap.size W Z) (hg : Z.grownBy w9 (some (w.heap.size + 1))) (hM : IsM mkI w9 (w.heap.size + 1) n1 (putF (firstN ((L.map nmD).drop (x.1 + 1)) (x.1 + 1)) (nmD x.2) x.1)) (hn : n1 = m - (x.1 + 1) + 1) :
    KeepsFrom D W w9 ∧ (Bk (fun W => RowN 7 W o L) 55 (w.heap.size + 1 + 1 + 1) v W → Bk (fun W => RowN 7 W o L) 55 (w.heap.size + 1 + 1 + 1) v w9) ∧ FirstD w m o cap L (pre ++ [x]) w9 := by
  have hT : Turn (fun i => i = w.heap.size + 1) W w9 := ⟨hg.os.trans hZ.os, hg.tape.trans hZ.tape, hg.output.trans hZ.output, Nat.le_trans hZ.size hg.size, fun i hi hn => (hg.block i (Nat.lt_of_lt_of_le hi hZ.size) (fun e => hn (Option.some.inj e))).trans (hZ.block i hi)⟩
  refine ⟨⟨hT.size, fun i ob hi hob _ => (hT.block i (lt_of_some hob) (by omega)).trans hob⟩, fun hB => ⟨?_, rowN_kept 7 o L W w9 ?_ hB.row⟩, x.1, by omega, hp, ?_, ?_, ?_, ?_⟩
  · exact (hT.block _ hB.box.lt (by omega)).trans hB.box
  · intro a u hc
    refine (World.cell?_of_block (hT.block a.block (World.block_lt_of_cell? _ _ hc) ?_)).trans hc
    intro e
    obtain ⟨es, c, he⟩ := h3
    unfold World.cell? at hc
    rw [e, he] at hc
    cases hc
  · rw [firstN_drop (a := nmD x.2) (by rw [List.getElem?_map, hx]; rfl)]
    exact hM.mono (by omega)
  · exact (hT.block _ h4.lt (by omega)).trans h4
  · exact (hT.block _ h5.lt (by omega)).trans h5
  · exact h6.trans ⟨hT.os, hT.tape, hT.output, hT.size, fun i hi => hT.block i (by have := h6.size; omega) (by omega)⟩
theorem blk_b {W W' : World} {k : Nat} {t : TypeId} {cs : Array Value} (h : Blk W k t cs) (hb : Below W.heap.size W W') : Blk W' k t cs := (hb.block k h.lt).trans h
/-- What the map's making leaves. -/
def Srch (w : World) (o : Option Addr) (m cap : Nat) (L : List (List Value)) (w' : World) : Prop := IsM mkI w' (w.heap.size + 1) m (firstN (L.map nmD) 0) ∧ Blk w' (w.heap.size + 1 + 1) 117 #[.map (some (w.heap.size + 1))] ∧ Blk w' w.heap.size 55 #[.slice o m cap]
set_option maxRecDepth 100000 in
set_option maxHeartbeats 4000000 in
/-- The first of each name. -/
theorem searching_any (L : List (List Value)) (o : Option Addr) (m cap : Nat) (w : World) (hL : L.length = m) (hm : m ≤ 4611686018427387904) (hs : ∀ c ∈ L, IsHd c) (hR : (fun W => RowN 7 W o L) w) :
    Calls Try.prog 55 #[.slice o m cap] w fun e w' => e = .returned (.func (.func 78) #[] #[.pointer (some ⟨w.heap.size + 1 + 1, 0, none⟩), .pointer (some ⟨w.heap.size, 0, none⟩)]) ∧ Srch w o m cap L w' ∧ Below w.heap.size w w' := by
  have hmm := makeMap_len m (by omega)
  have hB1 : Below w.heap.size w (((w.alloc (.cells #[.slice o m cap] 55)).alloc (.map #[] 0)).alloc (.cells #[.map (some (w.heap.size + 1))] 117)) := (((Below.refl _ w).alloc (Nat.le_refl _) _).alloc (by simp) _).alloc (by simp; omega) _
  have k1 : Below (w.alloc (.cells #[.slice o m cap] 55)).heap.size (w.alloc (.cells #[.slice o m cap] 55)) (((w.alloc (.cells #[.slice o m cap] 55)).alloc (.map #[] 0)).alloc (.cells #[.map (some (w.heap.size + 1))] 117)) := ((Below.refl _ _).alloc (Nat.le_refl _) _).alloc (by simp) _
  have b1 : Blk (((w.alloc (.cells #[.slice o m cap] 55)).alloc (.map #[] 0)).alloc (.cells #[.map (some (w.heap.size + 1))] 117)) w.heap.size 55 #[.slice o m cap] := blk_b (Blk.new w _ _) k1
  have b2 : Blk (((w.alloc (.cells #[.slice o m cap] 55)).alloc (.map #[] 0)).alloc (.cells #[.map (some (w.heap.size + 1))] 117)) (w.heap.size + 1 + 1) 117 #[.map (some (w.heap.size + 1))] := by
    have := Blk.new ((w.alloc (.cells #[.slice o m cap] 55)).alloc (.map #[] 0)) 117 #[.map (some (w.heap.size + 1))]
    rwa [World.size_alloc, World.size_alloc] at this
  have m1 : IsM mkI (((w.alloc (.cells #[.slice o m cap] 55)).alloc (.map #[] 0)).alloc (.cells #[.map (some (w.heap.size + 1))] 117)) (w.heap.size + 1) 0 (fun _ => none) := by
    have := (IsM.made mkI (w.alloc (.cells #[.slice o m cap] 55))).below ((Below.refl _ _).alloc (Nat.le_refl _) (.cells #[.map (some (w.heap.size + 1))] 117))
    rwa [World.size_alloc] at this
  have hz1 : (((w.alloc (.cells #[.slice o m cap] 55)).alloc (.map #[] 0)).alloc (.cells #[.map (some (w.heap.size + 1))] 117)).heap.size = w.heap.size + 1 + 1 + 1 := by simp
  have HB1 := Lib.hid hB1
  have H1 := Lib.hid b1
  have H2 := Lib.hid b2
  have HM1 := Lib.hid m1
  have HZ1 := Lib.hid hz1
  have HL := Lib.hid hL
  have HM := Lib.hid hm
  have HS := Lib.hid hs
  have HR := Lib.hid hR
  clear hB1 b1 b2 m1 hz1 hL hm hs hR k1
  refine (callsIn_wide (n := 6)).1 ?_
  refine callsIn_of_wp_marks Try.func55 rfl trivial ?_ rfl
  simp only [Try.ntmps55, List.size_toArray, List.length_cons, List.length_nil, Nat.reduceAdd, Nat.reduceSub, Array.replicate_succ, Array.replicate_zero, List.push_toArray, List.append_toArray, List.nil_append, List.cons_append]
  refine wpIn_wide.2 ?_
  go_wp2_with fail
  generalize (((w.alloc (.cells #[.slice o m cap] 55)).alloc (.map #[] 0)).alloc (.cells #[.map (some (w.heap.size + 1))] 117)) = w1 at *
  refine (backwardM_any o m cap _).mono ?_
  rintro e w2 ⟨rfl, rfl⟩
  have hk2 : Below w1.heap.size w1 (w1.alloc (.cells #[.slice o m cap] 55)) := (Below.refl _ _).alloc (Nat.le_refl _) _
  have HX2 : Hid (Bk (fun W => RowN 7 W o L) 55 (w.heap.size + 1 + 1 + 1) (.slice o m cap) (w1.alloc (.cells #[.slice o m cap] 55))) :=
    ⟨by have := Blk.new w1 55 #[.slice o m cap]; rwa [HZ1.out] at this, rowN_kept 7 o L _ _ (fun _ _ hc => ((HB1.out.trans (hk2.mono HB1.out.size)).cell (World.block_lt_of_cell? _ _ hc)).trans hc) HR.out⟩
  have HI0 : Hid (FirstD w m o cap L [] (w1.alloc (.cells #[.slice o m cap] 55))) := ⟨m, Nat.le_refl _, by rw [HL.out]; rfl, by
      rw [Nat.sub_self, List.drop_of_length_le (by rw [List.length_map, HL.out]; exact Nat.le_refl _)]
      exact HM1.out.below hk2, blk_b H2.out hk2, blk_b H1.out hk2, HB1.out.trans (hk2.mono HB1.out.size)⟩
  have HZ2 : Hid ((w1.alloc (.cells #[.slice o m cap] 55)).heap.size = w.heap.size + 1 + 1 + 1 + 1) := by show _ = _; rw [World.size_alloc, HZ1.out]
  clear hk2 HB1 H1 H2 HM1
  rw [HZ1.out]
  clear HZ1
  generalize w1.alloc (.cells #[.slice o m cap] 55) = w2 at *
  go_wp2_with fail
  refine wpIn_wide.1 (range_back (iterM_ok (w.heap.size + 1 + 1 + 1) o m cap L HL.out HM.out) entersM (Bk.own (rowN_kept 7 o L) _ _ _ _) HX2.out rfl rfl (FirstD w m o cap L) (firstD_own w m o cap L _ (by rw [HZ2.out]; omega)) HI0.out (fun x a' W => ∃ Bx, w.heap.size + 1 + 1 < Bx ∧ Blk W Bx 54 x.2.toArray ∧ a' = { tmps := #[.slice o m cap, .pointer (some ⟨w.heap.size, 0, none⟩), .nilFunc, .pointer (some ⟨w.heap.size + 1 + 1, 0, none⟩), .int .i64 (x.1 : Int), .pointer (some ⟨Bx, 0, none⟩), .slice o m cap, .int .i64 (m : Int), .map (some (w.heap.size + 1)), .slice o m cap, .func (.func 88) #[] #[.pointer (some ⟨w.heap.size + 1 + 1 + 1, 0, none⟩)], .int .i64 (x.1 : Int), .agg x.2.toArray, undef, undef, undef, undef, undef], defers := [] }) ?hAx ?assign ?body ?done)
  case hAx =>
    rintro x a' _ X Y row ⟨Bx, h1, h2, h3⟩ hg hr
    refine ⟨Bx, h1, h2.kept hg fun e => ?_, h3⟩
    obtain ⟨_, ob, ho, hc⟩ := hr Bx e.symm
    unfold Blk at h2
    rw [h2] at ho
    cases ho
    cases hc
  case assign =>
    intro l pre x W K hi hpre hK
    obtain ⟨x1, x2⟩ := x
    obtain ⟨hlt, s, o1, n1, k1, ia, p1, q1, ib, o2, n2, k2, rfl, hsz⟩ : w.heap.size + 1 + 1 < W.heap.size ∧ IsHd x2 := by
      obtain ⟨i, h1, h2, h3, h4, h5, h6⟩ := hi
      obtain ⟨k, rfl, hk, hLk, hp2⟩ := bks_next (by rw [HL.out]; exact h1) h2 hpre
      exact ⟨h4.lt, HS.out _ (List.mem_of_getElem? hLk)⟩
    have HK := Lib.hid (hK _ (W.alloc (.cells #[.string s, .slice o1 n1 k1, .int .i64 ia, .string p1, .string q1, .int .i64 ib, .slice o2 n2 k2] 54)) ((KeepsOthers.alloc _ _).from _) (fun h => h.below (rowN_kept 7 o L) ((Below.refl _ _).alloc (Nat.le_refl _) _))
      ((firstD_own w m o cap L w2.heap.size (by rw [HZ2.out]; omega)).alloc _ hi) ⟨W.heap.size, hlt, Blk.new W _ _, rfl⟩)
    clear hK hi hpre hsz hlt
    unfold encB
    gi_wp2
    exact HK.out
  case body =>
    intro l pre x a' W hi hax hpre
    obtain ⟨i, h1, h2, h3, h4, h5, h6⟩ := hi
    obtain ⟨k, rfl, hk, hLk, hp2⟩ := bks_next (by rw [HL.out]; exact h1) h2 hpre
    obtain ⟨x1, x2⟩ := x
    obtain ⟨Bx, hBx, bX, rfl⟩ := hax
    simp only at hk hLk bX
    subst hk
    obtain ⟨s, o1, n1, k1, ia, p1, q1, ib, o2, n2, k2, rfl, hs9⟩ := HS.out x2 (List.mem_of_getElem? hLk)
    have hsz := le_maxLen hs9
    have c5 := h4.cell 0
    have cX := bX.cell
    obtain ⟨w9, hrun, hM9, hg9⟩ := run_putI W (w.heap.size + 1) (m - (x1 + 1)) _ h3 (by have := HM.out; unfold maxLen; omega) s hsz x1
    have HSTEP := Lib.hid (firstD_step (x := (x1, [.string s, .slice o1 n1 k1, .int .i64 ia, .string p1, .string q1, .int .i64 ib, .slice o2 n2 k2])) (o := o) (D := w2.heap.size) (v := .slice o m cap) (n1 := m - (x1 + 1) + 1) (by rw [HZ2.out]; omega) h3.blk hLk h1 hp2 h4 h5 h6 (Z := W) (Below.refl _ _) hg9 hM9 rfl)
    clear h1 h2 h3 h4 h5 h6 hp2 hpre hLk hsz hs9 bX hBx hg9 hM9
    gi_wp2
    exact HSTEP.out
  case done =>
    intro D W hD hI hdef
    obtain ⟨i, h1, h2, h3, h4, h5, h6⟩ := hI
    obtain rfl := bks_end (by rw [HL.out]; exact h1) h2
    rw [Nat.sub_zero, List.drop_zero] at h3
    have HDW := Lib.hid hdef
    have H3 := Lib.hid h3
    have H4 := Lib.hid h4
    have H5 := Lib.hid h5
    have H6 := Lib.hid h6
    have HDD := Lib.hid hD
    clear h1 h2 h3 h4 h5 h6 hdef hD
    go_wp2_with fail
    refine ⟨by simp, .inl ⟨_, _, rfl, run_takeDeferred HDW.out, ?_⟩⟩
    have hne : ∀ k, k ≤ w.heap.size + 1 + 1 → k ≠ D := fun k hk => by have := HDD.out; have := HZ2.out; omega
    refine ⟨.func (.func 78) #[] #[.pointer (some ⟨w.heap.size + 1 + 1, 0, none⟩), .pointer (some ⟨w.heap.size, 0, none⟩)], by simp [results, Try.results55, go_sem], rfl, ⟨?_, ?_, ?_⟩, ?_⟩
    · exact H3.out.same (World.putObj_heap_other (by have := HDD.out; have := HZ2.out; omega))
    · exact (World.putObj_heap_other (by have := HDD.out; have := HZ2.out; omega)).trans H4.out
    · exact (World.putObj_heap_other (by have := HDD.out; have := HZ2.out; omega)).trans H5.out
    · have hT : Turn (fun i => some i = some D) W (W.putObj D (.deferred none)) := Turn.of_grown (grownBy_putObj' W D (.deferred none))
      exact H6.out.trans ⟨hT.os, hT.tape, hT.output, hT.size, fun i hi => hT.block i (by have := H6.out.size; omega) (fun e => by have := Option.some.inj e; have := HDD.out; have := HZ2.out; omega)⟩
end Go.Proofs.Ytlakmniaocpaaaa.sg
