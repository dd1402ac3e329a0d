/-
  A row from its end on: the library's iterator at methods, and the range over it, its body told what has come. Condition: at most 2^62 elements.
-/
import Derived.Test.YtmnhilgifjaocaaSna
import Derived.RangeFuncNested
import Derived.RangeFuncBound
import Derived.RangeFuncLeaves
import Derived.Shelf.Abstract
import Derived.Shelf.RegionOpen
import Derived.WalkKit
import Derived.OwnWalkIn
import Derived.TacticsInMore
import Derived.LoopNIn
import Derived.LoopIn
namespace Go.Proofs.Ytmnhilgifjaocaa.sg
open Go.RowKit Go.Shelf
open Go.Lib hiding intOf

/-! ### structs read whole -/
theorem run_loadG (T : TypeId) (n : Nat) (hi : (Try.prog.info? T).map (·.size) = some n) {fs : _} (hu : Try.prog.underlying T = some (.struct fs)) {o : Oper} {a : Act} {w : World} (x : Operand) (ho : o.op = .load T x) (g : Addr) (hx : a.eval x = .pointer (some g)) {cs : List Value} (hc : ∀ (j : Nat) (v : Value), cs[j]? = some v → w.cell? (g.add j) = some v) (hs : cs.length = n) :
    (execOp a.eval o).run Try.prog w = .ok (.value (.agg cs.toArray)) w := by
  have hl : (loadCells g cs.length).run Try.prog w = .ok cs.toArray w := run_loadCells_list (P := Try.prog) w g cs hc
  have hsv : (loadVar T g).run Try.prog w = .ok (.agg cs.toArray) w := by
    obtain ⟨i, hi, hi'⟩ := Option.map_eq_some_iff.1 hi
    have hagg : (isAgg T).run Try.prog w = .ok true w := by
      unfold isAgg
      rw [Sem.run_bind, run_underlying hu w]
      rfl
    rw [hs] at hl
    generalize cs.toArray = cs at *
    simp [loadVar, Sem.run_bind, hagg, sizeOf, typeInfo, hi, hi', hl]
  unfold execOp
  simp only [ho, hx, Instr.loadAt, Instr.sureAddr, Sem.run_bind, Sem.run_pure, Result.andThen_ok, hsv]
theorem boxLoadG (T : TypeId) (n : Nat) (hi : (Try.prog.info? T).map (·.size) = some n) {fs : _} (hu : Try.prog.underlying T = some (.struct fs)) {ops : Array Oper} {rest : List Oper} {o : Oper} {a : Act} {w : World} {Q : Exit → Act → World → Prop} (hgd : o.guard = none) (x : Operand) (ho : o.op = .load T x) (g : Addr) (hx : a.eval x = .pointer (some g)) {cs : List Value} (hc : ∀ (j : Nat) (v : Value), cs[j]? = some v → w.cell? (g.add j) = some v) (hs : cs.length = n)
    (h : wpList Try.prog ops Q rest (a.put o.dst (.agg cs.toArray)) w) : wpList Try.prog ops Q (o :: rest) a w := by
  refine wpList_plain hgd fun _ hK => ?_
  have hr := run_loadG T n hi hu x ho g hx hc hs
  unfold Oper.wp
  rw [hr]
  exact hK _ _ h
theorem boxLoadGIn {F : Fence} {nF : Nat} (T : TypeId) (n : Nat) (hi : (Try.prog.info? T).map (·.size) = some n) {fs : _} (hu : Try.prog.underlying T = some (.struct fs)) {ops : Array Oper} {rest : List Oper} {o : Oper} {a : Act} {w : World} {Q : Exit → Act → World → Prop} (hgd : o.guard = none) (x : Operand) (ho : o.op = .load T x) (g : Addr) (hx : a.eval x = .pointer (some g)) {cs : List Value} (hc : ∀ (j : Nat) (v : Value), cs[j]? = some v → w.cell? (g.add j) = some v) (hs : cs.length = n)
    (h : wpListIn F nF Try.prog ops Q rest (a.put o.dst (.agg cs.toArray)) w) : wpListIn F nF Try.prog ops Q (o :: rest) a w := by
  refine wpListIn_plain hgd fun K hK => ?_
  have hr := run_loadG T n hi hu x ho g hx hc hs
  unfold Oper.wpIn
  refine ⟨by simp [Oper.about, ho], ?_⟩
  rw [Oper.semAt_plain F _ _ (by rw [ho]; intro c hc'; cases hc')]
  rw [hr]
  exact hK _ _ h

/-! ### from the end on -/
section
variable {β : Type}
def bks (L : List β) : Nat → List (Nat × β)
  | 0 => []
  | i + 1 => match L[i]? with | some x => (i, x) :: bks L i | none => bks L i
theorem bks_succ {L : List β} {i : Nat} {x : β} (h : L[i]? = some x) : bks L (i + 1) = (i, x) :: bks L i := by
  show (match L[i]? with | some x => (i, x) :: bks L i | none => bks L i) = _
  rw [h]
theorem bks_len {L : List β} : ∀ {i : Nat}, i ≤ L.length → (bks L i).length = i
  | 0, _ => rfl
  | i + 1, h => by rw [bks_succ (List.getElem?_eq_getElem h), List.length_cons, bks_len (by omega)]
/-- What has come tells where one stands. -/
theorem bks_next {L : List β} {pre : List (Nat × β)} {i : Nat} {x : Nat × β} (hi : i ≤ L.length) (hp : pre ++ bks L i = bks L L.length) (h : pre ++ [x] <+: bks L L.length) : ∃ k, i = k + 1 ∧ x.1 = k ∧ L[k]? = some x.2 ∧ (pre ++ [x]) ++ bks L k = bks L L.length := by
  rw [← hp, List.prefix_append_right_inj] at h
  cases i with
  | zero => obtain ⟨r, hr⟩ := h; simp [bks] at hr
  | succ k =>
    have hk := List.getElem?_eq_getElem (show k < L.length by omega)
    rw [bks_succ hk] at h hp
    obtain ⟨r, hr⟩ := h
    injection hr with h1 h2
    subst h1
    exact ⟨k, rfl, rfl, hk, by rw [← hp]; simp⟩
theorem bks_end {L : List β} {i : Nat} (hi : i ≤ L.length) (hp : bks L L.length ++ bks L i = bks L L.length) : i = 0 := by
  have := congrArg List.length hp
  rw [List.length_append, bks_len (Nat.le_refl _), bks_len hi] at this
  omega

def encB (enc : β → Value) (x : Nat × β) : Array Value := #[.int .i64 (x.1 : Int), enc x.2]
/-- What the iterator does. -/
def IterOK (FN bx : Nat) (enc : β → Value) (L : List β) (KB : World → Prop) : Prop :=
  ∀ (n : Nat), 1 ≤ n → ∀ (l : Nat) (J Jx : List (Nat × β) → World → Prop),
    (∀ pre x W, J pre W → pre ++ [x] <+: bks L L.length → YieldAt Fence.wide (n - 1) Try.prog l (encB enc x) W fun e W' =>
      (e = .returned (.bool true) ∧ J (pre ++ [x]) W' ∧ (KB W → KB W')) ∨ (e = .returned (.bool false) ∧ Jx (pre ++ [x]) W')) →
    ∀ W, KB W → J [] W → CallsIn Fence.wide n Try.prog FN #[.func (.yield l) #[] #[], .pointer (some ⟨bx, 0, none⟩)] W fun e W' => (∃ v, e = .returned v) ∧ (J (bks L L.length) W' ∨ ∃ pre, Jx pre W')

def recB (fn : FuncId) (a : Act) (ps : Array Tmp) (assign body : Code) (D : Nat) (st : LoopState) (pe : Option Code) : Loop :=
  { state := st, pending := pe, fn := fn, tmps := a.tmps, params := ps, assign := assign, body := body, defers := D }
structure BooksB (D : Nat) (r : Loop) (W : World) : Prop where
  calls : W.heap[D]? = some (.deferred (some []))
  own : W.heap[D + 1]? = some (.loop r)
theorem BooksB.lt {D : Nat} {r : Loop} {W : World} (h : BooksB D r W) : D + 1 < W.heap.size := lt_of_some h.own
theorem BooksB.keep {D : Nat} {r : Loop} {A B : World} (h : BooksB D r A) (hk : KeepsFrom D A B) : BooksB D r B :=
  ⟨hk.same _ _ (Nat.le_refl _) h.calls rfl, hk.same _ _ (Nat.le_succ _) h.own rfl⟩
theorem BooksB.write {D : Nat} {r : Loop} {A : World} (h : BooksB D r A) (r' : Loop) : BooksB D r' (A.putObj (D + 1) (.loop r')) :=
  ⟨(World.putObj_heap_other (by omega)).trans h.calls, World.putObj_heap_same h.lt⟩
theorem BooksB.made (w : World) (r : Loop) : BooksB w.heap.size r ((w.alloc (.deferred (some []))).alloc (.loop r)) := by
  refine ⟨(Below.heap_alloc _ _ _ (by simp)).trans (World.alloc_heap_new w _), ?_⟩
  have h := World.alloc_heap_new (w.alloc (.deferred (some []))) (.loop r)
  rwa [World.size_alloc] at h
theorem own_booksB {γ : Type} {D : Nat} {r r' : Loop} {I : γ → World → Prop} {b : γ} {A : World} (hI : OwnFrom D I) (h : I b A) (hb : BooksB D r A) : I b (A.putObj (D + 1) (.loop r')) :=
  hI.putObj _ h (Nat.le_succ _) hb.own rfl
theorem round_shutB {fn : FuncId} {a : Act} {ps : Array Tmp} {assign body : Code} {D : Nat} {W : World} (hb : BooksB D (recB fn a ps assign body D .busy none) W) (jump : Option Code) :
    (Instr.endRound (D + 1) jump).run Try.prog W = .ok (.bool jump.isNone) (W.putObj (D + 1) (.loop (recB fn a ps assign body D (if jump.isNone then .ready else .done) jump))) :=
  run_endRound jump hb.own
def noX : Code → List (Nat × β) → World → Prop := fun _ _ _ => False

theorem round_back {enc : β → Value} {KB : World → Prop} {fn : FuncId} {a : Act} {ps : Array Tmp} {assign body : Code} {D : Nat} (hps : ps.size = 2) (hKB : OwnFrom D (fun (_ : Unit) W => KB W))
    (I : List (Nat × β) → World → Prop) (hI : OwnFrom D I) (Ax : Nat × β → Act → World → Prop) (hAx : ∀ x a', OwnFrom D (fun (_ : Unit) W => Ax x a' W)) (pre : List (Nat × β)) (x : Nat × β)
    (hassign : ∀ (W : World) (K : Act → World → Prop), I pre W → (∀ a' W', KeepsFrom D W W' → (KB W → KB W') → I pre W' → Ax x a' W' → K a' W') → assign.wpIn (Fence.wide.inRound (D + 1)) 4 Try.prog (Exit.then K (fun _ _ _ => False)) { tmps := (ps.zip (encB enc x)).foldl (fun t (p, v) => t.setIfInBounds p v) a.tmps, defers := [] } W)
    (hbody : ∀ (a' : Act) (W : World), I pre W → Ax x a' W → body.wpIn (Fence.wide.inRound (D + 1)) 4 Try.prog (ownPostG D (fun A B => KB A → KB B) I noX (pre ++ [x]) W) a' W)
    (W : World) (h : I pre W ∧ BooksB D (recB fn a ps assign body D .ready none) W) :
    YieldAt Fence.wide 4 Try.prog (D + 1) (encB enc x) W fun e W' =>
      (e = .returned (.bool true) ∧ (I (pre ++ [x]) W' ∧ BooksB D (recB fn a ps assign body D .ready none) W') ∧ (KB W → KB W')) ∨ (e = .returned (.bool false) ∧ False) := by
  refine ⟨fn, _, assign, body, run_yield h.2.own (by rw [show (encB enc x).size = 2 from rfl]; exact hps.symm), roundIn_of_wpIn trivial (hassign W _ h.1 ?_)⟩
  intro a' A hka hra hia hax
  have hA := h.2.keep hka
  have hW := hA.write (recB fn a ps assign body D .busy none)
  refine ⟨_, run_beginRound hA.own rfl, wpIn_mono (hbody a' _ (own_booksB hI hia hA) (own_booksB (b := ()) (hAx x a') hax hA)) ?_⟩
  intro e a3 Z hz
  cases e with
  | normal =>
    have hZ := hW.keep hz.1
    exact ⟨_, _, round_shutB hZ none, .inl ⟨rfl, ⟨own_booksB hI hz.2.2 hZ, hZ.write _⟩, fun hB => own_booksB (b := ()) hKB (hz.2.1 (own_booksB (b := ()) hKB (hra hB) hA)) hZ⟩⟩
  | ret => exact hz.2.elim
  | exit id => exact hz.2.elim
  | goto t => exact hz.2.elim
  | panic ch => exact hz.elim
  | outgrown => exact hz.elim

theorem range_back {FN bx : Nat} {enc : β → Value} {L : List β} {KB : World → Prop} (hIT : IterOK FN bx enc L KB) (hfe : ∀ args w, (callFunc FN args).run Try.prog w = .ok (.enter FN args) w) {g : Operand} {ps : Array Tmp} {assign body : Code} {Q : Exit → Act → World → Prop} {a : Act} {w : World}
    (hKB : OwnFrom w.heap.size (fun (_ : Unit) W => KB W)) (hT : KB w) (hg : a.eval g = .func (.func FN) #[] #[.pointer (some ⟨bx, 0, none⟩)]) (hps : ps.size = 2)
    (I : List (Nat × β) → World → Prop) (hI : OwnFrom w.heap.size I) (h0 : I [] w) (Ax : Nat × β → Act → World → Prop) (hAx : ∀ x a', OwnFrom w.heap.size (fun (_ : Unit) W => Ax x a' W))
    (hassign : ∀ (l : Nat) (pre : List (Nat × β)) (x : Nat × β) (W : World) (K : Act → World → Prop), I pre W → pre ++ [x] <+: bks L L.length → (∀ a' W', KeepsFrom w.heap.size W W' → (KB W → KB W') → I pre W' → Ax x a' W' → K a' W') → assign.wpIn (Fence.wide.inRound l) 4 Try.prog (Exit.then K (fun _ _ _ => False)) { tmps := (ps.zip (encB enc x)).foldl (fun t (p, v) => t.setIfInBounds p v) a.tmps, defers := [] } W)
    (hbody : ∀ (l : Nat) (pre : List (Nat × β)) (x : Nat × β) (a' : Act) (W : World), I pre W → Ax x a' W → pre ++ [x] <+: bks L L.length → body.wpIn (Fence.wide.inRound l) 4 Try.prog (ownPostG w.heap.size (fun A B => KB A → KB B) I noX (pre ++ [x]) W) a' W)
    (hdone : ∀ (D : Nat) (W : World), w.heap.size ≤ D → I (bks L L.length) W → W.heap[D]? = some (.deferred (some [])) → Q .normal { a with defers := { target := .collected D, args := #[] } :: a.defers } W) :
    (Code.rangeFunc g ps assign body).wpIn Fence.wide 6 Try.prog Q a w := by
  refine wpIn_rangeFunc fun fn _ => ?_
  have hM := BooksB.made w (recB fn a ps assign body w.heap.size .ready none)
  have h1 : I [] ((w.alloc (.deferred (some []))).alloc (.loop (recB fn a ps assign body w.heap.size .ready none))) := hI.alloc _ (hI.alloc _ h0)
  have hT1 : KB ((w.alloc (.deferred (some []))).alloc (.loop (recB fn a ps assign body w.heap.size .ready none))) := hKB.alloc (s := ()) _ (hKB.alloc (s := ()) _ hT)
  obtain ⟨W1, hW1⟩ : ∃ W1, (w.alloc (.deferred (some []))).alloc (.loop (recB fn a ps assign body w.heap.size .ready none)) = W1 := ⟨_, rfl⟩
  rw [hW1] at hM h1 hT1
  have hE : (Instr.enterLoop fn a.tmps ps assign body Fence.wide.round).run Try.prog w = .ok (w.heap.size + 1, [{ target := .collected w.heap.size, args := #[] }]) W1 := by
    rw [← hW1]; exact run_enterLoop_outer _ _ _ _ _
  refine ⟨w.heap.size + 1, [{ target := .collected w.heap.size, args := #[] }], W1, { target := .fn (.func FN) #[.pointer (some ⟨bx, 0, none⟩)], args := #[.func (.yield (w.heap.size + 1)) #[] #[]] }, W1, FN,
    #[.func (.yield (w.heap.size + 1)) #[] #[]] ++ #[.pointer (some ⟨bx, 0, none⟩)], W1, hE, ?_, fun _ _ => trivial, ?_, (fun h => absurd h (by decide)), ?_⟩
  · simp only [resolve, hg]
    simp [go_sem]
  · simp [invoke, go_sem, hfe]
  · refine (hIT 5 (by omega) (w.heap.size + 1) (fun pre W => I pre W ∧ BooksB w.heap.size (recB fn a ps assign body w.heap.size .ready none) W) (fun _ _ => False)
      (fun pre x W hJ hpre => round_back hps hKB I hI Ax hAx pre x (fun W K hi => hassign _ pre x W K hi hpre) (fun a' W hi hx => hbody _ pre x a' W hi hx hpre) W hJ) _ hT1 ⟨h1, hM⟩).mono ?_
    rintro e Z ⟨⟨v, rfl⟩, (⟨hi, hb⟩ | ⟨pre, hf⟩)⟩
    · exact ⟨none, _, run_endLoop hb.own (by simp [recB]), hdone _ _ (Nat.le_refl _) (own_booksB hI hi hb) (hb.write _).calls⟩
    · exact hf.elim
end

/-! ### rows of strings, of structs -/
/-- Strings in a row; structs of n cells in a row. -/
def RowS (W : World) (o : Option Addr) (L : List ByteArray) : Prop := ∀ (i : Nat) (x : ByteArray), L[i]? = some x → ∃ a, o = some a ∧ W.cell? (a.add i) = some (.string x)
def RowN (n : Nat) (W : World) (o : Option Addr) (L : List (List Value)) : Prop := ∀ (i : Nat) (x : List Value), L[i]? = some x → ∃ a, o = some a ∧ x.length = n ∧ ∀ (j : Nat) (u : Value), x[j]? = some u → W.cell? ((a.add (i * n)).add j) = some u
theorem RowS.keep {W W' : World} {o : Option Addr} {L : List ByteArray} (h : RowS W o L) (hk : ∀ (a : Addr) (u : Value), W.cell? a = some u → W'.cell? a = some u) : RowS W' o L := fun i x hx => by
  obtain ⟨a, h1, h2⟩ := h i x hx
  exact ⟨a, h1, hk _ _ h2⟩
theorem RowN.keep {n : Nat} {W W' : World} {o : Option Addr} {L : List (List Value)} (h : RowN n W o L) (hk : ∀ (a : Addr) (u : Value), W.cell? a = some u → W'.cell? a = some u) : RowN n W' o L := fun i x hx => by
  obtain ⟨a, h1, h2, h3⟩ := h i x hx
  exact ⟨a, h1, h2, fun j u hu => hk _ _ (h3 j u hu)⟩
/-- A box, and what hangs on cells alone. -/
structure Bk (R : World → Prop) (T : TypeId) (bx : Nat) (v : Value) (W : World) : Prop where
  box : Blk W bx T #[v]
  row : R W
def CellsKept (R : World → Prop) : Prop := ∀ W W', (∀ (a : Addr) (u : Value), W.cell? a = some u → W'.cell? a = some u) → R W → R W'
theorem cell_kept {B : Nat} {W W' : World} {row : Option Nat} (hg : W.grownBy W' row) (hr : ∀ r, row = some r → B ≤ r ∧ ∃ o : Obj, W.heap[r]? = some o ∧ o.isCells = false) (a : Addr) (u : Value) (h : W.cell? a = some u) : W'.cell? a = some u := by
  refine (World.cell?_of_block (hg.block a.block (World.block_lt_of_cell? _ _ h) fun e => ?_)).trans h
  obtain ⟨_, o, ho, hc⟩ := hr a.block e.symm
  unfold World.cell? at h
  rw [ho] at h
  cases o <;> simp_all [Obj.isCells]
theorem Bk.own {R : World → Prop} (hR : CellsKept R) (T : TypeId) (bx : Nat) (v : Value) (D : Nat) : OwnFrom D (fun (_ : Unit) W => Bk R T bx v W) := by
  rintro _ W W' row ⟨h1, h2⟩ hg hr
  refine ⟨h1.kept hg fun e => ?_, hR W W' (cell_kept hg hr) h2⟩
  obtain ⟨_, o, ho, hc⟩ := hr bx e.symm
  unfold Blk at h1
  rw [h1] at ho
  cases ho
  cases hc
theorem Bk.below {R : World → Prop} (hR : CellsKept R) {T : TypeId} {bx : Nat} {v : Value} {W W' : World} (h : Bk R T bx v W) (hb : Below W.heap.size W W') : Bk R T bx v W' :=
  ⟨(hb.block bx h.box.lt).trans h.box, hR W W' (fun _ _ hc => (hb.cell (World.block_lt_of_cell? _ _ hc)).trans hc) h.row⟩
theorem rowS_kept (o : Option Addr) (L : List ByteArray) : CellsKept (fun W => RowS W o L) := fun _ _ hk h => h.keep hk
theorem rowN_kept (n : Nat) (o : Option Addr) (L : List (List Value)) : CellsKept (fun W => RowN n W o L) := fun _ _ hk h => h.keep hk

attribute [local go_sem] Oper.semAt_some

theorem sizeM : (Try.prog.info? 50).map (·.size) = some 7 := by kernel_rfl

theorem backwardM_any (o : Option Addr) (m cap : Nat) (w : World) : Calls Try.prog 58 #[.slice o m cap] w fun e w' =>
    e = .returned (.func (.func 61) #[] #[.pointer (some ⟨w.heap.size, 0, none⟩)]) ∧ w' = w.alloc (.cells #[.slice o m cap] 33) := by
  go_enter Try.func58, Try.ntmps58
  go_wp2
  go_ret
  exact ⟨rfl, rfl⟩
theorem entersM : ∀ args w, (callFunc 61 args).run Try.prog w = .ok (.enter 61 args) w := enters_of Try.func61 (by kernel_rfl) rfl

set_option maxRecDepth 100000 in
set_option maxHeartbeats 2000000 in
theorem iterM_ok (bx : Nat) (o : Option Addr) (m cap : Nat) (L : List (List Value)) (hL : L.length = m) (hm : m ≤ 4611686018427387904) : IterOK 61 bx (fun c => Value.agg c.toArray) L (Bk (fun W => RowN 7 W o L) 33 bx (.slice o m cap)) := by
  intro n hn l J Jx hY W hT h0
  refine callsIn_of_wp Try.func61 rfl trivial ?_ rfl
  simp only [Try.ntmps61, List.size_toArray, List.length_cons, List.length_nil, Nat.reduceAdd, Nat.reduceSub, Array.replicate_succ, Array.replicate_zero, List.push_toArray, List.append_toArray, List.nil_append, List.cons_append]
  have HY := Lib.hid hY
  have HT := Lib.hid hT
  have H0 := Lib.hid h0
  have HL := Lib.hid hL
  have HM := Lib.hid hm
  have c0 := hT.box.cell 0
  have hw0 := IntWalk.i64_in ((m : Int) - 1) ⟨by omega, by omega⟩
  clear hY hT h0 hL hm
  gi_wp2
  gi_loopw [3] (fun a wr => ∃ (pre : List (Nat × (List Value))) (i : Nat), a = .int .i64 ((i : Int) - 1) ∧ Hid (i ≤ m) ∧ Hid (pre ++ bks L i = bks L L.length) ∧ Hid (J pre wr) ∧ Hid (Bk (fun W => RowN 7 W o L) 33 bx (.slice o m cap) wr)) (fun a _ => (RowKit.intOf a + 1).toNat)
  case atStart => exact ⟨[], m, rfl, Nat.le_refl _, (by show _ = _; rw [HL.out]; rfl), H0, HT⟩
  case round =>
    obtain ⟨pre, i, rfl, HI, HP, HJ, HB⟩ := hrel
    clear c0 hw0
    have c0 := HB.out.box.cell 0
    cases i with
    | zero =>
      have hneg : ¬ ((0 : Int) ≤ ((0 : Nat) : Int) - 1) := by decide
      have hp := HP.out
      simp only [bks, List.append_nil] at hp
      subst hp
      gi_wp2
      go_end0
      exact ⟨⟨_, rfl⟩, .inl HJ.out⟩
    | succ i =>
      have hie : (((i + 1 : Nat)) : Int) - 1 = (i : Int) := by omega
      rw [hie]
      have hin := HI.out
      have hnn : (0 : Int) ≤ (i : Int) := by omega
      have him : (i : Int) < (m : Int) := by omega
      have hwi := IntWalk.i64_in ((i : Int) - 1) ⟨by omega, by have := HM.out; omega⟩
      obtain ⟨x, hx⟩ : ∃ x, L[i]? = some x := ⟨_, List.getElem?_eq_getElem (by rw [HL.out]; omega)⟩
      obtain ⟨ad, rfl, hxl, hcx⟩ := HB.out.row i x hx
      have HCX := Lib.hid hcx
      have HXL := Lib.hid hxl
      clear hcx hxl
      have hpre : pre ++ [(i, x)] <+: bks L L.length := ⟨bks L i, by rw [← HP.out, bks_succ hx]; simp⟩
      obtain ⟨fn, tmps, assign, body, hy, hR⟩ := HY.out pre (i, x) wr HJ.out hpre
      unfold encB at hy
      dsimp only at hy
      have HRR := Lib.hid hR
      have HPre := Lib.hid (show (pre ++ [(i, x)]) ++ bks L i = bks L L.length by rw [← HP.out, bks_succ hx]; simp)
      clear hR hpre hin hie hx
      gi_wp2_with (refine boxLoadGIn 50 7 sizeM Try.underlying50 rfl _ rfl _ rfl (cs := x) HCX.out HXL.out ?_)
      refine HRR.out.mono ?_
      rintro e W3 (⟨rfl, hJ3, hk3⟩ | ⟨rfl, hJx3⟩)
      · have HJ3 := Lib.hid hJ3
        have HB3 := Lib.hid (hk3 HB.out)
        clear hJ3 hk3 c0 hy
        gi_wp2
        go_roundw
        case rel => exact ⟨pre ++ [(i, x)], i, rfl, by have := HI.out; show _ ≤ _; omega, HPre, HJ3, HB3⟩
        case measure => simp [RowKit.intOf]
      · have HJ3 := Lib.hid hJx3
        clear hJx3 c0 hy
        gi_wp2
        refine bodyPost_ret (results_none rfl _ _ _) rfl ?_
        exact ⟨⟨_, rfl⟩, .inr ⟨_, HJ3.out⟩⟩

end Go.Proofs.Ytmnhilgifjaocaa.sg
