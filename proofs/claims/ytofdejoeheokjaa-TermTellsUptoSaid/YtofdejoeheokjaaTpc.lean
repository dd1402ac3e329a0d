/-
  The range over a type's parts, its body told what has come. Condition: at most a thousand parts.
-/
import Derived.Test.YtofdejoeheokjaaTpb
namespace Go.Proofs.Ytofdejoeheokjaa
open Go.RowKit Go.Shelf
open Go.Lib hiding intOf

/-- The loop's record. -/
def recT (fn : FuncId) (a : Act) (ps : Array Tmp) (assign body : Code) (D : Nat) (st : LoopState) (pe : Option Code) : Loop :=
  { state := st, pending := pe, fn := fn, tmps := a.tmps, params := ps, assign := assign, body := body, defers := D }
/-- What the loop keeps for itself. -/
structure Books (D : Nat) (r : Loop) (W : World) : Prop where
  calls : W.heap[D]? = some (.deferred (some []))
  own : W.heap[D + 1]? = some (.loop r)
theorem Books.lt {D : Nat} {r : Loop} {W : World} (h : Books D r W) : D + 1 < W.heap.size := (Array.getElem?_eq_some_iff.1 h.own).1
theorem Books.keep {D : Nat} {r : Loop} {A B : World} (h : Books D r A) (hk : KeepsFrom D A B) : Books D r B :=
  ⟨hk.same _ _ (Nat.le_refl _) h.calls rfl, hk.same _ _ (Nat.le_succ _) h.own rfl⟩
theorem Books.write {D : Nat} {r : Loop} {A : World} (h : Books D r A) (r' : Loop) : Books D r' (A.putObj (D + 1) (.loop r')) :=
  ⟨(World.putObj_heap_other (by omega)).trans h.calls, World.putObj_heap_same h.lt⟩
theorem Books.made (w : World) (r : Loop) : Books w.heap.size r ((w.alloc (.deferred (some []))).alloc (.loop r)) := by
  refine ⟨(Below.heap_alloc _ _ _ (by simp)).trans (World.alloc_heap_new w _), ?_⟩
  have h := World.alloc_heap_new (w.alloc (.deferred (some []))) (.loop r)
  rwa [World.size_alloc] at h
theorem Books.turn {D B : Nat} {r : Loop} {A Z : World} (h : Books D r A) (hT : KI B A Z) : Books D r Z :=
  ⟨(hT.block _ (Array.getElem?_eq_some_iff.1 h.calls).1 (fun hn => by obtain ⟨_, cs, f, hc⟩ := hn; rw [h.calls] at hc; cases hc)).trans h.calls,
   (hT.block _ (Array.getElem?_eq_some_iff.1 h.own).1 (fun hn => by obtain ⟨_, cs, f, hc⟩ := hn; rw [h.own] at hc; cases hc)).trans h.own⟩
theorem own_books {β : Type} {D : Nat} {r r' : Loop} {I : β → World → Prop} {b : β} {A : World} (hI : OwnFrom D I) (h : I b A) (hb : Books D r A) : I b (A.putObj (D + 1) (.loop r')) :=
  hI.putObj _ h (Nat.le_succ _) hb.own rfl
theorem kb_books {D B : Nat} {r : Loop} {A : World} (hb : Books D r A) (hB : B ≤ D) (r' : Loop) : KB B A (A.putObj (D + 1) (.loop r')) :=
  (Turn.of_grown (grownBy_putObj' A (D + 1) (.loop r'))).mono fun k _ hk => by
    obtain rfl : k = D + 1 := by injection hk
    refine ⟨by omega, fun h => ?_, fun h => ?_⟩ <;> (obtain ⟨cs, f, h⟩ := h; rw [hb.own] at h; cases h)
theorem KB.trans' {B : Nat} {a b c : World} (h : KB B a b) (k : KB B b c) : KB B a c :=
  ⟨k.os.trans h.os, k.tape.trans h.tape, k.output.trans h.output, Nat.le_trans h.size k.size, fun i hi hn => by
    have e := h.block i hi hn
    refine (k.block i (Nat.lt_of_lt_of_le hi h.size) fun hq => hn ⟨hq.1, fun h2 => hq.2.1 ?_, fun h2 => hq.2.2 ?_⟩).trans e
    · obtain ⟨cs, f, h2⟩ := h2; exact ⟨cs, f, e.trans h2⟩
    · obtain ⟨cs, f, h2⟩ := h2; exact ⟨cs, f, e.trans h2⟩⟩
theorem KB.alloc {B : Nat} (W : World) (o : Obj) : KB B W (W.alloc o) := (Turn.refl _ W).alloc o
theorem KB.of_below {B : Nat} {W W' : World} (h : Below W.heap.size W W') : KB B W W' := (Turn.of_below h).mono fun k hk hn => by omega
theorem round_shut {fn : FuncId} {a : Act} {ps : Array Tmp} {assign body : Code} {D : Nat} {W : World} (hb : Books D (recT fn a ps assign body D .busy none) W) (jump : Option Code) :
    (Instr.endRound (D + 1) jump).run Try.prog W = .ok (.bool jump.isNone) (W.putObj (D + 1) (.loop (recT fn a ps assign body D (if jump.isNone then .ready else .done) jump))) :=
  run_endRound jump hb.own

theorem round_told {B : Nat} {fn : FuncId} {a : Act} {ps : Array Tmp} {assign body : Code} {D : Nat} (hBD : B ≤ D) (hps : ps.size = 1)
    (I : List GY → World → Prop) (Ix : Code → List GY → World → Prop) (hI : OwnFrom D I) (hIx : ∀ c, OwnFrom D (Ix c)) (Ax : Value → Act → World → Prop) (hAx : ∀ x a', OwnFrom D (fun (_ : Unit) W => Ax x a' W)) (pre : List GY) (x : GY) (v : Value)
    (hassign : ∀ (W : World) (K : Act → World → Prop), I pre W → (∀ a' W', KeepsFrom D W W' → KB B W W' → I pre W' → Ax v a' W' → K a' W') →
      assign.wpIn (Fence.wide.inRound (D + 1)) 4 Try.prog (Exit.then K (fun _ _ _ => False)) { tmps := (ps.zip #[v]).foldl (fun t (p, v) => t.setIfInBounds p v) a.tmps, defers := [] } W)
    (hbody : ∀ (a' : Act) (W : World), I pre W → Ax v a' W → body.wpIn (Fence.wide.inRound (D + 1)) 4 Try.prog (ownPostG D (KB B) I Ix (pre ++ [x]) W) a' W)
    (W : World) (h : I pre W ∧ Books D (recT fn a ps assign body D .ready none) W) :
    YieldAt Fence.wide 4 Try.prog (D + 1) #[v] W fun e W' =>
      (e = .returned (.bool true) ∧ (I (pre ++ [x]) W' ∧ Books D (recT fn a ps assign body D .ready none) W') ∧ KB B W W') ∨
      (e = .returned (.bool false) ∧ ∃ c, Ix c (pre ++ [x]) W' ∧ Books D (recT fn a ps assign body D .done (some c)) W') := by
  refine ⟨fn, _, assign, body, run_yield h.2.own (by rw [show (#[v] : Array Value).size = 1 from rfl]; exact hps.symm), roundIn_of_wpIn trivial (hassign W _ h.1 ?_)⟩
  intro a' A hka hra hia hax
  have hA := h.2.keep hka
  have hW := hA.write (recT fn a ps assign body D .busy none)
  have hr := kb_books hA hBD (recT fn a ps assign body D .busy none)
  refine ⟨_, run_beginRound hA.own rfl, wpIn_mono (hbody a' _ (own_books hI hia hA) ((hAx v a').putObj (s := ()) _ hax (Nat.le_succ _) hA.own rfl)) ?_⟩
  intro e a3 Z hz
  have gone : ∀ c, KeepsFrom D (A.putObj (D + 1) (.loop (recT fn a ps assign body D .busy none))) Z ∧ Ix c (pre ++ [x]) Z →
      ∃ v w', (Instr.endRound (D + 1) (some c)).run Try.prog Z = .ok v w' ∧ ((Ending.returned v = .returned (.bool true) ∧ (I (pre ++ [x]) w' ∧ Books D (recT fn a ps assign body D .ready none) w') ∧ KB B W w') ∨
        (Ending.returned v = .returned (.bool false) ∧ ∃ c, Ix c (pre ++ [x]) w' ∧ Books D (recT fn a ps assign body D .done (some c)) w')) := fun c hc =>
    have hZ := hW.keep hc.1
    ⟨_, _, round_shut hZ (some c), .inr ⟨rfl, c, own_books (hIx c) hc.2 hZ, hZ.write _⟩⟩
  cases e with
  | normal =>
    have hZ := hW.keep hz.1
    exact ⟨_, _, round_shut hZ none, .inl ⟨rfl, ⟨own_books hI hz.2.2 hZ, hZ.write _⟩, hra.trans' (hr.trans' (KB.trans' hz.2.1 (kb_books hZ hBD _)))⟩⟩
  | ret => exact gone .ret hz
  | exit id => exact gone (.exit id) hz
  | goto t => exact gone (.goto t) hz
  | panic ch => exact hz.elim
  | outgrown => exact hz.elim

theorem range_parts {bx : Nat} {g : Operand} {ps : Array Tmp} {assign body : Code} {Q : Exit → Act → World → Prop} {a : Act} {w : World} (w0 : World) (t : GY) (hcnt : cntY t ≤ 1000) {c0 c1 c2 c3 c4 : Value} (ht : IsY w0 t (.agg #[c0, c1, c2, c3, c4]))
    (hT : Blk w bx TT #[c0, c1, c2, c3, c4]) (hg : a.eval g = .func (.func 45) #[] #[.pointer (some ⟨bx, 0, none⟩)]) (hps : ps.size = 1)
    (I : List GY → World → Prop) (Ix : Code → List GY → World → Prop) (hI : OwnFrom w.heap.size I) (hIx : ∀ c, OwnFrom w.heap.size (Ix c)) (hIB : ∀ pre W, I pre W → Below w0.heap.size w0 W) (hIK : ∀ pre W W', I pre W → KI w0.heap.size W W' → I pre W') (h0 : I [] w)
    (Ax : Value → Act → World → Prop) (hAx : ∀ x a', OwnFrom w.heap.size (fun (_ : Unit) W => Ax x a' W))
    (hassign : ∀ (l : Nat) (pre : List GY) (x : GY) (v : Value) (W : World) (K : Act → World → Prop), I pre W → IsY w0 x v → (∀ a' W', KeepsFrom w.heap.size W W' → KB w0.heap.size W W' → I pre W' → Ax v a' W' → K a' W') →
      assign.wpIn (Fence.wide.inRound l) 4 Try.prog (Exit.then K (fun _ _ _ => False)) { tmps := (ps.zip #[v]).foldl (fun t (p, v) => t.setIfInBounds p v) a.tmps, defers := [] } W)
    (hbody : ∀ (l : Nat) (pre : List GY) (x : GY) (v : Value) (a' : Act) (W : World), I pre W → IsY w0 x v → Ax v a' W → pre ++ [x] <+: preY t → body.wpIn (Fence.wide.inRound l) 4 Try.prog (ownPostG w.heap.size (KB w0.heap.size) I Ix (pre ++ [x]) W) a' W)
    (hdone : ∀ (D : Nat) (W : World), w.heap.size ≤ D → I (preY t) W → W.heap[D]? = some (.deferred (some [])) → Q .normal { a with defers := { target := .collected D, args := #[] } :: a.defers } W)
    (hstop : ∀ (D : Nat) (c : Code) (pre : List GY) (W : World), w.heap.size ≤ D → pre <+: preY t → Ix c pre W → W.heap[D]? = some (.deferred (some [])) → c.wpIn Fence.wide 6 Try.prog Q { a with defers := { target := .collected D, args := #[] } :: a.defers } W) :
    (Code.rangeFunc g ps assign body).wpIn Fence.wide 6 Try.prog Q a w := by
  have eg : ∀ args w, (callFunc 45 args).run Try.prog w = .ok (.enter 45 args) w := enters_of Try.func45 (by kernel_rfl) rfl
  refine wpIn_rangeFunc fun fn _ => ?_
  have hBw := (hIB _ _ h0).size
  have hM := Books.made w (recT fn a ps assign body w.heap.size .ready none)
  have h1 : I [] ((w.alloc (.deferred (some []))).alloc (.loop (recT fn a ps assign body w.heap.size .ready none))) := hI.alloc _ (hI.alloc _ h0)
  have hT1 : Blk ((w.alloc (.deferred (some []))).alloc (.loop (recT fn a ps assign body w.heap.size .ready none))) bx TT #[c0, c1, c2, c3, c4] :=
    (hT.kept (World.grownBy_alloc _ _ none) (by simp)).kept (World.grownBy_alloc _ _ none) (by simp)
  obtain ⟨W1, hW1⟩ : ∃ W1, (w.alloc (.deferred (some []))).alloc (.loop (recT fn a ps assign body w.heap.size .ready none)) = W1 := ⟨_, rfl⟩
  rw [hW1] at hM h1 hT1
  have hE : (Instr.enterLoop fn a.tmps ps assign body Fence.wide.round).run Try.prog w = .ok (w.heap.size + 1, [{ target := .collected w.heap.size, args := #[] }]) W1 := by
    rw [← hW1]; exact run_enterLoop_outer _ _ _ _ _
  refine ⟨w.heap.size + 1, [{ target := .collected w.heap.size, args := #[] }], W1, { target := .fn (.func 45) #[.pointer (some ⟨bx, 0, none⟩)], args := #[.func (.yield (w.heap.size + 1)) #[] #[]] }, W1, 45,
    #[.func (.yield (w.heap.size + 1)) #[] #[]] ++ #[.pointer (some ⟨bx, 0, none⟩)], W1, hE, ?_, fun _ _ => trivial, ?_, (fun h => absurd h (by decide)), ?_⟩
  · simp only [resolve, hg]
    simp [go_sem]
  · simp [invoke, go_sem, eg]
  · refine (parts1_in 5 (by omega) (w.heap.size + 1) bx w0 t hcnt c0 c1 c2 c3 c4 ht (fun pre W => I pre W ∧ Books w.heap.size (recT fn a ps assign body w.heap.size .ready none) W) (fun pre W => ∃ c, Ix c pre W ∧ Books w.heap.size (recT fn a ps assign body w.heap.size .done (some c)) W)
      (fun pre W W' h hk => ⟨hIK pre W W' h.1 hk, h.2.turn hk⟩) (fun pre W h => hIB pre W h.1)
      (fun pre x v W hJ hx hpre => round_told hBw hps I Ix hI hIx Ax hAx pre x v (fun W K hi => hassign _ pre x v W K hi hx) (fun a' W hi ha => hbody _ pre x v a' W hi hx ha hpre) W hJ) _ hT1 ⟨h1, hM⟩).mono ?_
    rintro e Z ⟨⟨v, rfl⟩, (⟨hi, hb⟩ | ⟨pre, hS, c, hi, hb⟩)⟩
    · exact ⟨none, _, run_endLoop hb.own (by simp [recT]), hdone _ _ (Nat.le_refl _) (own_books hI hi hb) (hb.write _).calls⟩
    · exact ⟨some c, _, run_endLoop hb.own (by simp [recT]), hstop _ c pre _ (Nat.le_refl _) hS (own_books (hIx c) hi hb) (hb.write _).calls⟩

/-- The iterator made. -/
theorem parts_any (c0 c1 c2 c3 c4 : Value) (w : World) (t : GY) (w0 : World) (ht : IsY w0 t (.agg #[c0, c1, c2, c3, c4])) : Calls Try.prog 28 #[.agg #[c0, c1, c2, c3, c4]] w fun e w' =>
    e = .returned (.func (.func 45) #[] #[.pointer (some ⟨w.heap.size, 0, none⟩)]) ∧ w' = w.alloc (.cells #[c0, c1, c2, c3, c4] 25) := by
  obtain ⟨k, p, m, n, args⟩ := t
  obtain ⟨o, c, hv, _⟩ := ht.parts
  simp only [Value.agg.injEq, Array.mk.injEq, List.cons.injEq, and_true] at hv
  obtain ⟨rfl, rfl, rfl, rfl, rfl⟩ := hv
  go_enter Try.func28, Try.ntmps28
  go_wp2
  go_ret
  exact ⟨rfl, rfl⟩

end Go.Proofs.Ytofdejoeheokjaa
