/-
  The range over a row from its end on, its body told what has come. Condition: at most a million numbers.
-/
import Derived.Test.YtgnhcaepkgbieaaCyd
import Derived.Test.YtgnhcaepkgbieaaShl
namespace Go.Proofs.Ytgnhcaepkgbieaa
open Go.RowKit Go.Shelf
open Go.Lib hiding intOf

/-- The loop's record. -/
def recB (fn : FuncId) (a : Act) (ps : Array Tmp) (assign body : Code) (D : Nat) (st : LoopState) (pe : Option Code) : Loop :=
  { state := st, pending := pe, fn := fn, tmps := a.tmps, params := ps, assign := assign, body := body, defers := D }
/-- What the loop keeps for itself. -/
structure Books (D : Nat) (r : Loop) (W : World) : Prop where
  calls : W.heap[D]? = some (.deferred (some []))
  own : W.heap[D + 1]? = some (.loop r)
theorem Books.lt {D : Nat} {r : Loop} {W : World} (h : Books D r W) : D + 1 < W.heap.size := (Array.getElem?_eq_some_iff.1 h.own).1
theorem Books.walk {D : Nat} {r : Loop} {A B : World} {row : Option Nat} (h : Books D r A) (hg : A.grownBy B row) (hr : ∀ k, row = some k → ∃ o : Obj, A.heap[k]? = some o ∧ o.isWalk = true) : Books D r B :=
  ⟨(grownBy_keeps hg hr h.calls rfl).trans h.calls, (grownBy_keeps hg hr h.own rfl).trans h.own⟩
theorem Books.keep {D : Nat} {r : Loop} {A B : World} (h : Books D r A) (hk : KeepsFrom D A B) : Books D r B :=
  ⟨hk.same _ _ (Nat.le_refl _) h.calls rfl, hk.same _ _ (Nat.le_succ _) h.own rfl⟩
theorem Books.write {D : Nat} {r : Loop} {A : World} (h : Books D r A) (r' : Loop) : Books D r' (A.putObj (D + 1) (.loop r')) :=
  ⟨(World.putObj_heap_other (by omega)).trans h.calls, World.putObj_heap_same h.lt⟩
theorem Books.made (w : World) (r : Loop) : Books w.heap.size r ((w.alloc (.deferred (some []))).alloc (.loop r)) := by
  refine ⟨(Below.heap_alloc _ _ _ (by simp)).trans (World.alloc_heap_new w _), ?_⟩
  have h := World.alloc_heap_new (w.alloc (.deferred (some []))) (.loop r)
  rwa [World.size_alloc] at h
theorem own_books {β : Type} {D : Nat} {r r' : Loop} {I : β → World → Prop} {b : β} {A : World} (hI : OwnFrom D I) (h : I b A) (hb : Books D r A) : I b (A.putObj (D + 1) (.loop r')) :=
  hI.putObj _ h (Nat.le_succ _) hb.own rfl
theorem round_shutB {fn : FuncId} {a : Act} {ps : Array Tmp} {assign body : Code} {D : Nat} {W : World} (hb : Books D (recB fn a ps assign body D .busy none) W) (jump : Option Code) :
    (Instr.endRound (D + 1) jump).run Try.prog W = .ok (.bool jump.isNone) (W.putObj (D + 1) (.loop (recB fn a ps assign body D (if jump.isNone then .ready else .done) jump))) :=
  run_endRound jump hb.own
def encB (x : Nat × Nat) : Array Value := #[.int .i64 (x.1 : Int), .int .i64 (x.2 : Int)]
def noX : Code → List (Nat × Nat) → World → Prop := fun _ _ _ => False

theorem round_back {bx m cap : Nat} {o : Option Addr} {L : List Nat} {fn : FuncId} {a : Act} {ps : Array Tmp} {assign body : Code} {D : Nat} (hps : ps.size = 2)
    (I : List (Nat × Nat) → World → Prop) (hI : OwnFrom D I) (a1 : Nat × Nat → Act) (pre : List (Nat × Nat)) (x : Nat × Nat)
    (hassign : ∀ (W : World) (K : Act → World → Prop), K (a1 x) W → assign.wpIn (Fence.wide.inRound (D + 1)) 4 Try.prog (Exit.then K (fun _ _ _ => False)) { tmps := (ps.zip (encB x)).foldl (fun t (p, v) => t.setIfInBounds p v) a.tmps, defers := [] } W)
    (hbody : ∀ (W : World), I pre W → body.wpIn (Fence.wide.inRound (D + 1)) 4 Try.prog (ownPostG D (fun A B => IsBk A bx o m cap L → IsBk B bx o m cap L) I noX (pre ++ [x]) W) (a1 x) W)
    (W : World) (h : I pre W ∧ Books D (recB fn a ps assign body D .ready none) W) :
    YieldAt Fence.wide 4 Try.prog (D + 1) (encB x) W fun e W' =>
      (e = .returned (.bool true) ∧ (I (pre ++ [x]) W' ∧ Books D (recB fn a ps assign body D .ready none) W') ∧ (IsBk W bx o m cap L → IsBk W' bx o m cap L)) ∨ (e = .returned (.bool false) ∧ False) := by
  refine ⟨fn, _, assign, body, run_yield h.2.own (by rw [show (encB x).size = 2 from rfl]; exact hps.symm), roundIn_of_wpIn trivial (hassign W _ ?_)⟩
  have hW := h.2.write (recB fn a ps assign body D .busy none)
  refine ⟨_, run_beginRound h.2.own rfl, wpIn_mono (hbody _ (own_books hI h.1 h.2)) ?_⟩
  intro e a3 Z hz
  cases e with
  | normal =>
    have hZ := hW.keep hz.1
    exact ⟨_, _, round_shutB hZ none, .inl ⟨rfl, ⟨own_books hI hz.2.2 hZ, hZ.write _⟩, fun hB => (hz.2.1 (hB.put h.2.own rfl _)).put hZ.own rfl _⟩⟩
  | ret => exact hz.2.elim
  | exit id => exact hz.2.elim
  | goto t => exact hz.2.elim
  | panic ch => exact hz.elim
  | outgrown => exact hz.elim

theorem range_back {bx m cap : Nat} {o : Option Addr} {L : List Nat} {g : Operand} {ps : Array Tmp} {assign body : Code} {Q : Exit → Act → World → Prop} {a : Act} {w : World}
    (hL : L.length = m) (hm : m ≤ 1000000) (hT : IsBk w bx o m cap L) (hg : a.eval g = .func (.func 43) #[] #[.pointer (some ⟨bx, 0, none⟩)]) (hps : ps.size = 2)
    (I : List (Nat × Nat) → World → Prop) (hI : OwnFrom w.heap.size I) (h0 : I [] w) (a1 : Nat × Nat → Act)
    (hassign : ∀ (l : Nat) (x : Nat × Nat) (W : World) (K : Act → World → Prop), K (a1 x) W → assign.wpIn (Fence.wide.inRound l) 4 Try.prog (Exit.then K (fun _ _ _ => False)) { tmps := (ps.zip (encB x)).foldl (fun t (p, v) => t.setIfInBounds p v) a.tmps, defers := [] } W)
    (hbody : ∀ (l : Nat) (pre : List (Nat × Nat)) (x : Nat × Nat) (W : World), I pre W → pre ++ [x] <+: bks L m → body.wpIn (Fence.wide.inRound l) 4 Try.prog (ownPostG w.heap.size (fun A B => IsBk A bx o m cap L → IsBk B bx o m cap L) I noX (pre ++ [x]) W) (a1 x) W)
    (hdone : ∀ (D : Nat) (W : World), w.heap.size ≤ D → I (bks L m) W → W.heap[D]? = some (.deferred (some [])) → Q .normal { a with defers := { target := .collected D, args := #[] } :: a.defers } W) :
    (Code.rangeFunc g ps assign body).wpIn Fence.wide 6 Try.prog Q a w := by
  have eg : ∀ args w, (callFunc 43 args).run Try.prog w = .ok (.enter 43 args) w := enters_of Try.func43 (by kernel_rfl) rfl
  refine wpIn_rangeFunc fun fn _ => ?_
  have hM := Books.made w (recB fn a ps assign body w.heap.size .ready none)
  have h1 : I [] ((w.alloc (.deferred (some []))).alloc (.loop (recB fn a ps assign body w.heap.size .ready none))) := hI.alloc _ (hI.alloc _ h0)
  have hT1 : IsBk ((w.alloc (.deferred (some []))).alloc (.loop (recB fn a ps assign body w.heap.size .ready none))) bx o m cap L :=
    hT.turn (S := fun _ => False) (((Turn.refl _ w).alloc _).alloc _) (fun h => h) (fun _ _ h => h)
  obtain ⟨W1, hW1⟩ : ∃ W1, (w.alloc (.deferred (some []))).alloc (.loop (recB fn a ps assign body w.heap.size .ready none)) = W1 := ⟨_, rfl⟩
  rw [hW1] at hM h1 hT1
  have hE : (Instr.enterLoop fn a.tmps ps assign body Fence.wide.round).run Try.prog w = .ok (w.heap.size + 1, [{ target := .collected w.heap.size, args := #[] }]) W1 := by
    rw [← hW1]; exact run_enterLoop_outer _ _ _ _ _
  refine ⟨w.heap.size + 1, [{ target := .collected w.heap.size, args := #[] }], W1, { target := .fn (.func 43) #[.pointer (some ⟨bx, 0, none⟩)], args := #[.func (.yield (w.heap.size + 1)) #[] #[]] }, W1, 43,
    #[.func (.yield (w.heap.size + 1)) #[] #[]] ++ #[.pointer (some ⟨bx, 0, none⟩)], W1, hE, ?_, fun _ _ => trivial, ?_, (fun h => absurd h (by decide)), ?_⟩
  · simp only [resolve, hg]
    simp [go_sem]
  · simp [invoke, go_sem, eg]
  · refine (backward1_in 5 (by omega) (w.heap.size + 1) bx o m cap L hL hm (fun pre W => I pre W ∧ Books w.heap.size (recB fn a ps assign body w.heap.size .ready none) W) (fun _ _ => False)
      (fun pre x W hJ hpre => round_back hps I hI a1 pre x (fun W K => hassign _ x W K) (fun W hi => hbody _ pre x W hi hpre) W hJ) _ hT1 ⟨h1, hM⟩).mono ?_
    rintro e Z ⟨⟨v, rfl⟩, (⟨hi, hb⟩ | ⟨pre, hf⟩)⟩
    · exact ⟨none, _, run_endLoop hb.own (by simp [recB]), hdone _ _ (Nat.le_refl _) (own_books hI hi hb) (hb.write _).calls⟩
    · exact hf.elim

theorem containsI_any (L : List Nat) (o : Option Addr) (c x : Nat) (w : World) (h : AtI w o L) (hl : L.length ≤ 1000000) :
    Calls Try.prog 33 #[.slice o L.length c, .int .i64 (x : Int)] w fun e w' => e = .returned (.bool (decide (x ∈ L))) ∧ w' = w := by
  by_cases h0 : L = []
  · subst h0
    refine (Try.slices_Contains_int_empty o c (x : Int) w).mono ?_
    rintro e w' ⟨rfl, rfl⟩
    exact ⟨by simp, rfl⟩
  · have hp := List.length_pos_iff.2 h0
    obtain ⟨g, rfl, _⟩ := h 0 _ (List.getElem?_eq_getElem hp)
    refine (Try.slices_Contains_int g 0 L.length c (L.map fun (x : Nat) => (x : Int)) (x : Int) w (by simp) (by omega) fun j hj => ?_).mono ?_
    · rw [List.length_map] at hj
      obtain ⟨g', e, hc⟩ := h j _ (List.getElem?_eq_getElem hj)
      obtain rfl : g = g' := by simpa using e
      rw [Nat.zero_add, hc]
      simp [List.getD_eq_getElem?_getD, List.getElem?_eq_getElem hj]
    · rintro e w' ⟨rfl, rfl⟩
      refine ⟨?_, rfl⟩
      congr 2
      rw [List.take_of_length_le (by simp), List.contains_eq_mem]
      simp
      exact ⟨fun ⟨a, ha, e⟩ => by obtain rfl : a = x := by omega
                                  exact ha, fun h => ⟨x, h, rfl⟩⟩

end Go.Proofs.Ytgnhcaepkgbieaa
