/-
  The loop over the pieces, where its body knows that what has come, with the piece at hand, is a beginning of the text's tokens. Condition: none beside the text's length.
-/
import Derived.Test.YtoppknnjnfgbiaaIter
namespace Go.Proofs.Ytoppknnjnfgbiaa
open Go.RowKit Go.Shelf
open Go.Lib hiding intOf

/-- The loop's record. -/
def recT (fn : FuncId) (a : Act) (ps : Array Tmp) (assign body : Code) (D : Nat) (st : LoopState) (pe : Option Code) : Loop :=
  { state := st, pending := pe, fn := fn, tmps := a.tmps, params := ps, assign := assign, body := body, defers := D }

/-- What the loop keeps for itself: the calls put off at D, its record behind them. -/
structure Books (D : Nat) (r : Loop) (W : World) : Prop where
  calls : W.heap[D]? = some (.deferred (some []))
  own : W.heap[D + 1]? = some (.loop r)

theorem Books.lt {D : Nat} {r : Loop} {W : World} (h : Books D r W) : D + 1 < W.heap.size := (Array.getElem?_eq_some_iff.1 h.own).1

theorem Books.walk {D : Nat} {r : Loop} {A B : World} {row : Option Nat} (h : Books D r A) (hg : A.grownBy B row) (hr : ∀ k, row = some k → ∃ o : Obj, A.heap[k]? = some o ∧ o.isWalk = true) : Books D r B :=
  ⟨(grownBy_keeps hg hr h.calls rfl).trans h.calls, (grownBy_keeps hg hr h.own rfl).trans h.own⟩

theorem Books.keep {D : Nat} {r : Loop} {A B : World} (h : Books D r A) (hk : KeepsFrom D A B) : Books D r B :=
  ⟨hk.same _ _ (Nat.le_refl _) h.calls rfl, hk.same _ _ (Nat.le_succ _) h.own rfl⟩

theorem Books.write {D : Nat} {r : Loop} {A : World} (h : Books D r A) (r' : Loop) : Books D r' (A.putObj (D + 1) (.loop r')) :=
  ⟨(World.putObj_heap_other (by omega)).trans h.calls, World.putObj_heap_same h.lt⟩

theorem Books.made (w : World) (r : Loop) : Books w.heap.size r ((w.alloc (.deferred (some []))).alloc (.loop r)) := by
  refine ⟨(Below.heap_alloc _ _ _ (by simp)).trans (World.alloc_heap_new w _), ?_⟩
  have h := World.alloc_heap_new (w.alloc (.deferred (some []))) (.loop r)
  rwa [World.size_alloc] at h

/-- What abides where cells may not be written abides where the record is. -/
theorem own_books {β : Type} {D : Nat} {r r' : Loop} {I : β → World → Prop} {b : β} {A : World} (hI : OwnFrom D I) (h : I b A) (hb : Books D r A) : I b (A.putObj (D + 1) (.loop r')) :=
  hI.putObj _ h (Nat.le_succ _) hb.own rfl

theorem abides_books {β : Type} {D B : Nat} {I : β → World → Prop} {r : Loop} (hI : OwnFrom D I) (hB : D ≤ B) : AbidesFrom B (fun b W => I b W ∧ Books D r W) := fun b A C row hs hg hr =>
  ⟨hI b A C row hs.1 hg (fun k e => by obtain ⟨h1, o, ho, hw⟩ := hr k e; exact ⟨Nat.le_trans hB h1, o, ho, Obj.not_cells_of_walk hw⟩), hs.2.walk hg (fun k e => (hr k e).2)⟩

theorem keepR_books {D : Nat} {r : Loop} {A : World} (hb : Books D r A) (r' : Loop) : KeepR A (A.putObj (D + 1) (.loop r')) :=
  KeepR.bookkeep (w := { A with heap := #[] }) A (D + 1) _ _ (Nat.zero_le _) hb.own rfl rfl

/-- How a round ends: the record is ready again, or done with what is to come. -/
theorem round_shut {fn : FuncId} {a : Act} {ps : Array Tmp} {assign body : Code} {D : Nat} {W : World} (hb : Books D (recT fn a ps assign body D .busy none) W) (jump : Option Code) :
    (Instr.endRound (D + 1) jump).run Try.prog W = .ok (.bool jump.isNone) (W.putObj (D + 1) (.loop (recT fn a ps assign body D (if jump.isNone then .ready else .done) jump))) :=
  run_endRound jump hb.own

theorem round_told {l : List UInt8} {fn : FuncId} {a : Act} {ps : Array Tmp} {assign body : Code} {D : Nat} (hps : ps.size = 1)
    (I : List (PTok l) → World → Prop) (Ix : Code → List (PTok l) → World → Prop) (hI : OwnFrom D I) (hIx : ∀ c, OwnFrom D (Ix c)) (Ax : PTok l → Act → World → Prop) (hAx : ∀ x a', OwnFrom D (fun (_ : Unit) W => Ax x a' W)) (pre : List (PTok l)) (x : PTok l)
    (hassign : ∀ (W : World) (K : Act → World → Prop), I pre W → (∀ a' W', KeepsFrom D W W' → KeepR W W' → I pre W' → Ax x a' W' → K a' W') →
      assign.wpIn (Fence.wide.inRound (D + 1)) 4 Try.prog (Exit.then K (fun _ _ _ => False)) { tmps := (ps.zip (encT x)).foldl (fun t (p, v) => t.setIfInBounds p v) a.tmps, defers := [] } W)
    (hbody : ∀ (a' : Act) (W : World), I pre W → Ax x a' W → body.wpIn (Fence.wide.inRound (D + 1)) 4 Try.prog (ownPostG D KeepR I Ix (pre ++ [x]) W) a' W)
    (W : World) (h : I pre W ∧ Books D (recT fn a ps assign body D .ready none) W) :
    YieldAt Fence.wide 4 Try.prog (D + 1) (encT x) W fun e W' =>
      (e = .returned (.bool true) ∧ (I (pre ++ [x]) W' ∧ Books D (recT fn a ps assign body D .ready none) W') ∧ KeepR W W') ∨
      (e = .returned (.bool false) ∧ ∃ c, Ix c (pre ++ [x]) W' ∧ Books D (recT fn a ps assign body D .done (some c)) W') := by
  refine ⟨fn, _, assign, body, run_yield h.2.own (by rw [show (encT x).size = 1 from rfl]; exact hps.symm), roundIn_of_wpIn trivial (hassign W _ h.1 ?_)⟩
  intro a' A hka hra hia hax
  have hA := h.2.keep hka
  have hW := hA.write (recT fn a ps assign body D .busy none)
  have hr := keepR_books hA (recT fn a ps assign body D .busy none)
  refine ⟨_, run_beginRound hA.own rfl, wpIn_mono (hbody a' _ (own_books hI hia hA) ((hAx x a').putObj (s := ()) _ hax (Nat.le_succ _) hA.own rfl)) ?_⟩
  intro e a3 Z hz
  have gone : ∀ c, KeepsFrom D (A.putObj (D + 1) (.loop (recT fn a ps assign body D .busy none))) Z ∧ Ix c (pre ++ [x]) Z →
      ∃ v w', (Instr.endRound (D + 1) (some c)).run Try.prog Z = .ok v w' ∧ ((Ending.returned v = .returned (.bool true) ∧ (I (pre ++ [x]) w' ∧ Books D (recT fn a ps assign body D .ready none) w') ∧ KeepR W w') ∨
        (Ending.returned v = .returned (.bool false) ∧ ∃ c, Ix c (pre ++ [x]) w' ∧ Books D (recT fn a ps assign body D .done (some c)) w')) := fun c hc =>
    have hZ := hW.keep hc.1
    ⟨_, _, round_shut hZ (some c), .inr ⟨rfl, c, own_books (hIx c) hc.2 hZ, hZ.write _⟩⟩
  cases e with
  | normal =>
    have hZ := hW.keep hz.1
    exact ⟨_, _, round_shut hZ none, .inl ⟨rfl, ⟨own_books hI hz.2.2 hZ, hZ.write _⟩, hra.trans (hr.trans (hz.2.1.trans (keepR_books hZ _)))⟩⟩
  | ret => exact gone .ret hz
  | exit id => exact gone (.exit id) hz
  | goto t => exact gone (.goto t) hz
  | panic ch => exact hz.elim
  | outgrown => exact hz.elim

theorem range_told {s : ByteArray} {Bt : Nat} {g : Operand} {ps : Array Tmp} {assign body : Code} {Q : Exit → Act → World → Prop} {a : Act} {w : World}
    (hs : s.size ≤ 9223372036854775807) (hT : Blk w Bt 9 #[.string s]) (hg : a.eval g = .func (.func 24) #[] #[.pointer (some ⟨Bt, 0, none⟩)]) (hps : ps.size = 1)
    (I : List (PTok s.data.toList) → World → Prop) (Ix : Code → List (PTok s.data.toList) → World → Prop) (hI : OwnFrom w.heap.size I) (hIx : ∀ c, OwnFrom w.heap.size (Ix c)) (h0 : I [] w)
    (Ax : PTok s.data.toList → Act → World → Prop) (hAx : ∀ x a', OwnFrom w.heap.size (fun (_ : Unit) W => Ax x a' W))
    (hassign : ∀ (l : Nat) (pre : List (PTok s.data.toList)) (x : PTok s.data.toList) (W : World) (K : Act → World → Prop), I pre W → (∀ a' W', KeepsFrom w.heap.size W W' → KeepR W W' → I pre W' → Ax x a' W' → K a' W') →
      assign.wpIn (Fence.wide.inRound l) 4 Try.prog (Exit.then K (fun _ _ _ => False)) { tmps := (ps.zip (encT x)).foldl (fun t (p, v) => t.setIfInBounds p v) a.tmps, defers := [] } W)
    (hbody : ∀ (l : Nat) (pre : List (PTok s.data.toList)) (x : PTok s.data.toList) (a' : Act) (W : World), I pre W → Ax x a' W → (pre ++ [x]).map (·.1) <+: toks s.data.toList → body.wpIn (Fence.wide.inRound l) 4 Try.prog (ownPostG w.heap.size KeepR I Ix (pre ++ [x]) W) a' W)
    (hdone : ∀ (D : Nat) (xs : List (PTok s.data.toList)) (W : World), w.heap.size ≤ D → xs.map (·.1) = toks s.data.toList → I xs W → W.heap[D]? = some (.deferred (some [])) → Q .normal { a with defers := { target := .collected D, args := #[] } :: a.defers } W)
    (hstop : ∀ (D : Nat) (c : Code) (pre : List (PTok s.data.toList)) (W : World), w.heap.size ≤ D → pre.map (·.1) <+: toks s.data.toList → Ix c pre W → W.heap[D]? = some (.deferred (some [])) → c.wpIn Fence.wide 6 Try.prog Q { a with defers := { target := .collected D, args := #[] } :: a.defers } W) :
    (Code.rangeFunc g ps assign body).wpIn Fence.wide 6 Try.prog Q a w := by
  have eg : ∀ args w, (callFunc 24 args).run Try.prog w = .ok (.enter 24 args) w := enters_of Try.func24 (by kernel_rfl) rfl
  refine wpIn_rangeFunc fun fn _ => ?_
  have hM := Books.made w (recT fn a ps assign body w.heap.size .ready none)
  have h1 : I [] ((w.alloc (.deferred (some []))).alloc (.loop (recT fn a ps assign body w.heap.size .ready none))) := hI.alloc _ (hI.alloc _ h0)
  have hT1 : Blk ((w.alloc (.deferred (some []))).alloc (.loop (recT fn a ps assign body w.heap.size .ready none))) Bt 9 #[.string s] :=
    (hT.kept (World.grownBy_alloc _ _ none) (by simp)).kept (World.grownBy_alloc _ _ none) (by simp)
  have hB : w.heap.size ≤ ((w.alloc (.deferred (some []))).alloc (.loop (recT fn a ps assign body w.heap.size .ready none))).heap.size := by simp; omega
  obtain ⟨W1, hW1⟩ : ∃ W1, (w.alloc (.deferred (some []))).alloc (.loop (recT fn a ps assign body w.heap.size .ready none)) = W1 := ⟨_, rfl⟩
  rw [hW1] at hM h1 hT1 hB
  have hE : (Instr.enterLoop fn a.tmps ps assign body Fence.wide.round).run Try.prog w = .ok (w.heap.size + 1, [{ target := .collected w.heap.size, args := #[] }]) W1 := by
    rw [← hW1]; exact run_enterLoop_outer _ _ _ _ _
  refine ⟨w.heap.size + 1, [{ target := .collected w.heap.size, args := #[] }], W1, { target := .fn (.func 24) #[.pointer (some ⟨Bt, 0, none⟩)], args := #[.func (.yield (w.heap.size + 1)) #[] #[]] }, W1, 24,
    #[.func (.yield (w.heap.size + 1)) #[] #[]] ++ #[.pointer (some ⟨Bt, 0, none⟩)], W1, hE, ?_, fun _ _ => trivial, ?_, (fun h => absurd h (by decide)), ?_⟩
  · simp only [resolve, hg]
    simp [go_sem]
  · simp [invoke, go_sem, eg]
  · refine (pieces1_in 5 (by omega) (w.heap.size + 1) Bt _ s hs _ (fun pre W => ∃ c, Ix c pre W ∧ Books w.heap.size (recT fn a ps assign body w.heap.size .done (some c)) W) (abides_books hI hB)
      (fun pre x W hJ hpre => round_told hps I Ix hI hIx Ax hAx pre x (fun W K => hassign _ pre x W K) (fun a' W hi hx => hbody _ pre x a' W hi hx hpre) W hJ) _ (Nat.le_refl _) hT1 ⟨h1, hM⟩).mono ?_
    rintro e Z ⟨⟨v, rfl⟩, (⟨xs, hS, hi, hb⟩ | ⟨pre, hS, c, hi, hb⟩)⟩
    · exact ⟨none, _, run_endLoop hb.own (by simp [recT]), hdone _ xs _ (Nat.le_refl _) hS (own_books hI hi hb) (hb.write _).calls⟩
    · exact ⟨some c, _, run_endLoop hb.own (by simp [recT]), hstop _ c pre _ (Nat.le_refl _) hS (own_books (hIx c) hi hb) (hb.write _).calls⟩

end Go.Proofs.Ytoppknnjnfgbiaa
