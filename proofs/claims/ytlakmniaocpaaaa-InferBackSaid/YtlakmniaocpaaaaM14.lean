/-
  Which types may be: plainly, by the parts. No condition.
  Which types may be: the program's answer. Condition: at most a thousand parts, names of at most 2^63 - 1 bytes.
-/
import Derived.Test.YtlakmniaocpaaaaM13
import Derived.Test.YtlakmniaocpaaaaM08
namespace Go.Proofs.Ytlakmniaocpaaaa
/-- A part's own fields may be. -/
def fitG : GY → Bool
  | .mk k p m n l => fitY k n p m l.length
def is5 : GY → Bool
  | .mk k _ _ _ _ => decide (k = 5)
def cnt5 (l : List GY) : Nat := (l.filter is5).length
theorem cnt5_app (a b : List GY) : cnt5 (a ++ b) = cnt5 a + cnt5 b := by unfold cnt5; rw [List.filter_append, List.length_append]
theorem cnt5_cons (x : GY) (b : List GY) : cnt5 (x :: b) = (if is5 x then 1 else 0) + cnt5 b := by
  unfold cnt5
  by_cases h : is5 x
  · rw [List.filter_cons_of_pos h, if_pos h, List.length_cons]; omega
  · rw [List.filter_cons_of_neg h, if_neg h]; omega
/-- Those that may be, told by the parts. -/
theorem chk_pre : ∀ (t : GY) (d : Nat), d ≤ 30 → chkY okN d t = ((preY t).all fitG && decide (d + cnt5 (preY t) ≤ 30))
  | .mk k p m n l, d, hd => by
    rw [preY, List.all_cons, cnt5_cons]
    by_cases h5 : k = 5
    · subst h5
      have e5 : is5 (.mk 5 p m n l) = true := rfl
      have ef : fitG (.mk 5 p m n l) = (decide (p = ⟨#[]⟩) && decide (m = ⟨#[]⟩) && decide (n = 0) && decide (l.length = 1)) := by simp [fitG, fitY]
      rw [e5, ef, if_pos rfl]
      match l with
      | [] => simp [chkY, chkYs, knownK]
      | [y] =>
        have ih : d < 30 → chkY okN (d + 1) y = ((preY y).all fitG && decide (d + 1 + cnt5 (preY y) ≤ 30)) := fun h => chk_pre y (d + 1) (by omega)
        have e1 : preYs [y] = preY y := by rw [preYs, preYs, List.append_nil]
        rw [e1]
        by_cases hd' : d < 30
        · rw [show d + (1 + cnt5 (preY y)) = d + 1 + cnt5 (preY y) by omega]
          have := ih hd'
          rw [Bool.eq_iff_iff, chk_iff]
          simp only [Bool.and_eq_true, decide_eq_true_eq, List.length_singleton]
          rw [Bool.eq_iff_iff] at this
          simp only [Bool.and_eq_true, decide_eq_true_eq] at this
          constructor
          · rintro (⟨h, _⟩ | ⟨h, _⟩ | ⟨h, _⟩ | ⟨_, h1, h2, h3, _, z, hz, h4⟩)
            · omega
            · omega
            · omega
            · obtain rfl : y = z := by simpa using hz
              exact ⟨⟨⟨⟨⟨h1, h2⟩, h3⟩, trivial⟩, (this.1 h4).1⟩, (this.1 h4).2⟩
          · rintro ⟨⟨⟨⟨⟨h1, h2⟩, h3⟩, _⟩, h4⟩, h5⟩
            exact .inr (.inr (.inr ⟨trivial, h1, h2, h3, hd', y, rfl, this.2 ⟨h4, h5⟩⟩))
        · have e2 : decide (d + (1 + cnt5 (preY y)) ≤ 30) = false := decide_eq_false (by omega)
          rw [e2, Bool.and_false]
          cases hc : chkY okN d (.mk 5 p m n [y]) with
          | false => rfl
          | true =>
            rcases (chk_iff okN).1 hc with ⟨h, _⟩ | ⟨h, _⟩ | ⟨h, _⟩ | ⟨_, _, _, _, h, _⟩ <;> omega
      | _ :: _ :: _ =>
        simp [chkY, knownK]
    · have e5 : is5 (.mk k p m n l) = false := decide_eq_false h5
      rw [e5, if_neg (by decide), Nat.zero_add]
      rw [Bool.eq_iff_iff, chk_iff]
      simp only [Bool.and_eq_true, decide_eq_true_eq]
      have hl : l = [] → (preYs l).all fitG = true ∧ d + cnt5 (preYs l) ≤ 30 := by
        rintro rfl
        rw [preYs]
        exact ⟨by simp, by simp [cnt5]; omega⟩
      have ef : fitG (.mk k p m n l) = fitY k n p m l.length := rfl
      rw [ef]
      unfold fitY
      by_cases h0 : k = 0 ∨ k = 1 ∨ k = 2 ∨ k = 3 ∨ k = 7
      · rw [if_pos h0]
        simp only [Bool.and_eq_true, decide_eq_true_eq]
        constructor
        · rintro (⟨_, h1, h2, h3, h4⟩ | ⟨h, _⟩ | ⟨h, _⟩ | ⟨h, _⟩)
          · exact ⟨⟨⟨⟨⟨h1, h2⟩, h3⟩, by rw [h4]; rfl⟩, (hl h4).1⟩, (hl h4).2⟩
          · omega
          · omega
          · exact absurd h h5
        · rintro ⟨⟨⟨⟨⟨h1, h2⟩, h3⟩, h4⟩, _⟩, _⟩
          exact .inl ⟨h0, h1, h2, h3, List.length_eq_zero_iff.1 h4⟩
      · rw [if_neg h0]
        by_cases h4 : k = 4
        · rw [if_pos h4]
          simp only [Bool.and_eq_true, decide_eq_true_eq]
          constructor
          · rintro (⟨h, _⟩ | ⟨_, h1, h2, h3, h4⟩ | ⟨h, _⟩ | ⟨h, _⟩)
            · exact absurd h h0
            · exact ⟨⟨⟨⟨⟨h1, h2⟩, h3⟩, by rw [h4]; rfl⟩, (hl h4).1⟩, (hl h4).2⟩
            · omega
            · exact absurd h h5
          · rintro ⟨⟨⟨⟨⟨h1, h2⟩, h3⟩, h6⟩, _⟩, _⟩
            exact .inr (.inl ⟨h4, h1, h2, h3, List.length_eq_zero_iff.1 h6⟩)
        · rw [if_neg h4, if_neg h5]
          by_cases h6 : k = 6
          · rw [if_pos h6]
            simp only [Bool.and_eq_true, decide_eq_true_eq]
            constructor
            · rintro (⟨h, _⟩ | ⟨h, _⟩ | ⟨_, h1, h2, h3, h7, h8⟩ | ⟨h, _⟩)
              · exact absurd h h0
              · exact absurd h h4
              · exact ⟨⟨⟨⟨⟨⟨h1, h2⟩, h3⟩, h7⟩, by rw [h8]; rfl⟩, (hl h8).1⟩, (hl h8).2⟩
              · exact absurd h h5
            · rintro ⟨⟨⟨⟨⟨⟨h1, h2⟩, h3⟩, h7⟩, h8⟩, _⟩, _⟩
              exact .inr (.inr (.inl ⟨h6, h1, h2, h3, h7, List.length_eq_zero_iff.1 h8⟩))
          · rw [if_neg h6]
            constructor
            · rintro (⟨h, _⟩ | ⟨h, _⟩ | ⟨h, _⟩ | ⟨h, _⟩)
              · exact absurd h h0
              · exact absurd h h4
              · exact absurd h h6
              · exact absurd h h5
            · rintro ⟨⟨h, _⟩, _⟩
              cases h
theorem chk_stop {t : GY} {pre : List GY} (h : pre <+: preY t) (hb : pre.all fitG = false ∨ 30 < cnt5 pre) : chkY okN 0 t = false := by
  obtain ⟨r, hr⟩ := h
  rw [chk_pre t 0 (by omega), ← hr, List.all_append, cnt5_app]
  rcases hb with hb | hb
  · rw [hb]; rfl
  · rw [decide_eq_false (by omega), Bool.and_false]
theorem chk_done {t : GY} (h1 : (preY t).all fitG = true) (h2 : cnt5 (preY t) ≤ 30) : chkY okN 0 t = true := by
  rw [chk_pre t 0 (by omega), h1, decide_eq_true (by omega)]; rfl
/-! What is next behind a part: its own first one. -/
mutual
theorem suc_pre : ∀ (t : GY) (pre : List GY) (x : GY) (rest : List GY), preY t = pre ++ x :: rest → ∃ s, rest = preYs x.args ++ s
  | .mk k p m n l, [], x, rest, h => by
    rw [preY, List.nil_append, List.cons.injEq] at h
    obtain ⟨rfl, rfl⟩ := h
    exact ⟨[], by rw [List.append_nil]; rfl⟩
  | .mk k p m n l, z :: pre, x, rest, h => by
    rw [preY, List.cons_append, List.cons.injEq] at h
    exact suc_pres l pre x rest h.2
theorem suc_pres : ∀ (l : List GY) (pre : List GY) (x : GY) (rest : List GY), preYs l = pre ++ x :: rest → ∃ s, rest = preYs x.args ++ s
  | [], pre, x, rest, h => by rw [preYs] at h; simp at h
  | y :: r, pre, x, rest, h => by
    rw [preYs] at h
    rcases List.append_eq_append_iff.1 h with ⟨q, h1, h2⟩ | ⟨q, h1, h2⟩
    · exact suc_pres r q x rest h2
    · cases q with
      | nil =>
        rw [List.append_nil] at h1
        exact suc_pres r [] x rest h2.symm
      | cons z q =>
        rw [List.cons_append, List.cons.injEq] at h2
        obtain ⟨rfl, rfl⟩ := h2
        obtain ⟨s, hs⟩ := suc_pre y pre x q h1
        exact ⟨s ++ preYs r, by rw [hs, List.append_assoc]⟩
end
end Go.Proofs.Ytlakmniaocpaaaa
namespace Go.Proofs.Ytlakmniaocpaaaa
open Go.RowKit Go.Shelf
open Go.Lib hiding intOf
attribute [local go_sem] Oper.semAt_some
/-! ### what a round's state must bear -/
def Soft (W : World) (k : Nat) : Prop := ∀ cs t f, W.heap[k]? = some (.cells cs t f) → t = TS
def Steady {β : Type} (B : Nat) (I : β → World → Prop) : Prop := ∀ s W W', I s W → Turn (fun k => B ≤ k ∧ Soft W k) W W' → I s W'
theorem Steady.own {β : Type} {B D : Nat} {I : β → World → Prop} (h : Steady B I) (hB : B ≤ D) : OwnFrom D I := fun s W W' row hs hg hr =>
  h s W W' hs ((Turn.of_grown hg).mono fun k _ hk => by
    obtain ⟨h1, o, ho, hc⟩ := hr k hk.symm
    refine ⟨by omega, fun cs t f e => ?_⟩
    rw [ho] at e
    cases e
    cases hc)
theorem Steady.ki {β : Type} {B : Nat} {I : β → World → Prop} (h : Steady B I) : ∀ s W W', I s W → KI B W W' → I s W' := fun s W W' hs hk =>
  h s W W' hs (hk.mono fun k _ hn => ⟨hn.1, fun cs t f e => by obtain ⟨cs', f', e'⟩ := hn.2; rw [e'] at e; injection e with e; injection e with _ e; exact e.symm⟩)
theorem Blk.hard {W : World} {k : Nat} {t : TypeId} {cs : Array Value} (h : Blk W k t cs) (ht : t ≠ TS) : ¬ Soft W k := fun hs => ht (hs _ _ _ h)
theorem Blk.turn {S : Nat → Prop} {W W' : World} {k : Nat} {t : TypeId} {cs : Array Value} (h : Blk W k t cs) (hT : Turn S W W') (hn : ¬ S k) : Blk W' k t cs := (hT.block k h.lt hn).trans h
theorem Blk.steady (B k : Nat) {β : Type} (t : TypeId) (ht : t ≠ TS) (cs : β → Array Value) : Steady B (fun s W => Blk W k t (cs s)) := fun _ _ _ h hT => h.turn hT fun hn => h.hard ht hn.2
theorem keepsFrom_turn {S : Nat → Prop} {W Wf : World} {D : Nat} (hT : Turn S W Wf) (h : ∀ k, S k → D ≤ k → ∃ c t f, W.heap[k]? = some (.cells c t f)) : KeepsFrom D W Wf := by
  refine ⟨hT.size, fun k o hk ho hc => (hT.block k (Array.getElem?_eq_some_iff.1 ho).1 fun hs => ?_).trans ho⟩
  obtain ⟨c, t, f, e⟩ := h k hs hk
  rw [e] at ho
  cases ho
  cases hc
theorem wpIn_scope_wide {n : Nat} {P : Program} {c : Code} {Q : Exit → Act → World → Prop} {a : Act} {w : World} (h : c.wpIn Fence.wide n P (Exit.noGoto Q) a w) : (Code.scope c).wpIn Fence.wide n P Q a w :=
  wpIn_wide.2 (wp_scope_straight (wpIn_wide.1 h))
structure ChI (w : World) (pre : List GY) (W : World) : Prop where
  res : Blk W (w.heap.size + 1) 4 #[.bool false]
  cnt : Blk W (w.heap.size + 1 + 1) 3 #[.int .i64 (cnt5 pre : Int)]
  below : Below w.heap.size w W
  ok : pre.all fitG = true ∧ cnt5 pre ≤ 30
theorem ChI.steady (w : World) : Steady w.heap.size (ChI w) := fun s W W' h hT =>
  ⟨h.res.turn hT fun hn => h.res.hard (by decide) hn.2, h.cnt.turn hT fun hn => h.cnt.hard (by decide) hn.2, h.below.trans (hT.below h.below.size fun k hk => hk.1), h.ok⟩
structure ChX (w : World) (c : Code) (pre : List GY) (W : World) : Prop where
  ret : c = .ret
  res : Blk W (w.heap.size + 1) 4 #[.bool false]
  below : Below w.heap.size w W
  bad : pre.all fitG = false ∨ 30 < cnt5 pre
theorem ChX.steady (w : World) (c : Code) : Steady w.heap.size (ChX w c) := fun s W W' h hT =>
  ⟨h.ret, h.res.turn hT fun hn => h.res.hard (by decide) hn.2, h.below.trans (hT.below h.below.size fun k hk => hk.1), h.bad⟩
theorem Turn.blkN {W W' : World} {B k : Nat} {t : TypeId} {cs : Array Value} (hT : Turn (fun k => B ≤ k) W W') (h : Blk W k t cs) (hk : W.heap.size = B := by rfl) : Blk W' k t cs := h.turn hT (by have := h.lt; omega)
mutual
theorem fit_pre {q : Nat} : ∀ {t : GY}, FitY q t → ∀ x ∈ preY t, FitY q x
  | .mk k p m n l, h, x, hx => by
    rw [preY] at hx
    rcases List.mem_cons.1 hx with rfl | hx
    · exact h
    · unfold FitY at h
      exact fit_pres h.2.2.2 x hx
theorem fit_pres {q : Nat} : ∀ {l : List GY}, FitYs q l → ∀ x ∈ preYs l, FitY q x
  | [], _, x, hx => by rw [preYs] at hx; cases hx
  | y :: r, h, x, hx => by
    rw [preYs] at hx
    unfold FitYs at h
    rcases List.mem_append.1 hx with hx | hx
    · exact fit_pre h.1 x hx
    · exact fit_pres h.2 x hx
end
/-- The end: the answer stored, the range's own list of calls taken. -/
theorem leave_check {w W : World} {b D : Nat} {u : Value} (hr : Blk W b 4 #[u]) (hB : Below w.heap.size w W) (hd : W.heap[D]? = some (.deferred (some []))) (hbD : b + 1 < D) (v : Bool) (hwb : w.heap.size ≤ b := by omega) :
    ∃ X Y : World, W.setCell ⟨b, 0, none⟩ (.bool v) = X ∧ X.heap[D]? = some (.deferred (some [])) ∧ X.putObj D (.deferred none) = Y ∧ Y.cell? ⟨b, 0, none⟩ = some (.bool v) ∧ Below w.heap.size w Y := by
  have hX := hr.set_ 0 (.bool v)
  have hd2 : (W.setCell ⟨b, 0, none⟩ (.bool v)).heap[D]? = some (.deferred (some [])) := (Below.heap_setCell W ⟨b, 0, none⟩ (.bool v) D (by show D ≠ b; omega)).trans hd
  refine ⟨_, _, rfl, hd2, rfl, (hX.kept (grownBy_putObj' _ D (.deferred none)) (by simp; omega)).cell 0, ?_⟩
  have h1 : Below w.heap.size w (W.setCell ⟨b, 0, none⟩ (.bool v)) := hB.setCell (p := ⟨b, 0, none⟩) hwb _
  have hDs := (Array.getElem?_eq_some_iff.1 hd2).1
  exact h1.trans ((Turn.of_grown (grownBy_putObj' _ D (.deferred none))).below h1.size fun k hk => by injection hk with hk; omega)
/-- A round's end: the part may be. -/
theorem ChI.next {w W W2 W3 : World} {pre : List GY} {x : GY} {D : Nat} (h : ChI w pre W) (hT : Turn (fun k => k = w.heap.size + 1 + 1) W W2) (hc : Blk W2 (w.heap.size + 1 + 1) 3 #[.int .i64 (cnt5 (pre ++ [x]) : Int)]) (hB : Below W2.heap.size W2 W3) (hf : fitG x = true) (h30 : cnt5 (pre ++ [x]) ≤ 30) (hD : w.heap.size + 1 + 1 < D) :
    KeepsFrom D W W3 ∧ KB w.heap.size W W3 ∧ ChI w (pre ++ [x]) W3 := by
  have hT3 : Turn (fun k => k = w.heap.size + 1 + 1) W W3 := ⟨hB.os.trans hT.os, hB.tape.trans hT.tape, hB.output.trans hT.output, Nat.le_trans hT.size hB.size, fun k hk hn => (hB.block k (Nat.lt_of_lt_of_le hk hT.size)).trans (hT.block k hk hn)⟩
  refine ⟨keepsFrom_turn hT3 fun k hk hd => by omega, hT3.mono fun k _ hk => ?_, ⟨h.res.turn hT3 (by omega), ?_, h.below.trans (hT3.below h.below.size fun k hk => by omega), by rw [List.all_append, h.ok.1]; simp [hf], h30⟩⟩
  · subst hk
    refine ⟨by omega, fun hn => ?_, fun hn => ?_⟩ <;> (obtain ⟨cs, f, e⟩ := hn; have := h.cnt; unfold Blk at this; rw [this] at e; injection e with e; injection e with _ e; revert e; decide)
  · exact (hB.block _ hc.lt).trans hc
/-- A round's end: the part may not be. -/
theorem ChI.stop {w W W2 W3 : World} {pre : List GY} {x : GY} {D : Nat} (h : ChI w pre W) (hT : Turn (fun k => k = w.heap.size + 1 + 1) W W2) (hB : Below W2.heap.size W2 W3) (hbad : (pre ++ [x]).all fitG = false ∨ 30 < cnt5 (pre ++ [x])) (hD : w.heap.size + 1 + 1 < D) :
    KeepsFrom D W (W3.setCell ⟨w.heap.size + 1, 0, none⟩ (.bool false)) ∧ ChX w .ret (pre ++ [x]) (W3.setCell ⟨w.heap.size + 1, 0, none⟩ (.bool false)) := by
  have hT3 : Turn (fun k => k = w.heap.size + 1 + 1) W W3 := ⟨hB.os.trans hT.os, hB.tape.trans hT.tape, hB.output.trans hT.output, Nat.le_trans hT.size hB.size, fun k hk hn => (hB.block k (Nat.lt_of_lt_of_le hk hT.size)).trans (hT.block k hk hn)⟩
  have hT4 : Turn (fun k => k = w.heap.size + 1 + 1 ∨ k = w.heap.size + 1) W (W3.setCell ⟨w.heap.size + 1, 0, none⟩ (.bool false)) := Turn.setCell (S := fun k => k = w.heap.size + 1 + 1 ∨ k = w.heap.size + 1) (hT3.mono fun k _ h => .inl h) (p := ⟨w.heap.size + 1, 0, none⟩) (fun _ => .inr rfl) _
  exact ⟨keepsFrom_turn hT4 fun k hk hd => by omega, rfl, (h.res.turn hT3 (by omega)).set_ 0 _, h.below.trans (hT4.below h.below.size fun k hk => by omega), hbad⟩
set_option maxRecDepth 100000 in
set_option maxHeartbeats 8000000 in
theorem checkP_any (t : GY) (hcnt : cntY t ≤ 1000) (q : Nat) (hq : q ≤ 9223372036854775807) (hfit : FitY q t) (v : Value) (w : World) (hv : IsY w t v) :
    Calls Try.prog 21 #[v] w fun e w' => e = .returned (.bool (chkY okN 0 t)) ∧ Below w.heap.size w w' := by
  obtain ⟨k, p, m, n, l⟩ := t
  obtain ⟨o, c, rfl, hl, hc, ha⟩ := hv.parts
  refine (callsIn_wide (n := 6)).1 ?_
  refine callsIn_of_wp_marks Try.func21 rfl trivial ?_ rfl
  simp only [Try.ntmps21, List.size_toArray, List.length_cons, List.length_nil, Nat.reduceAdd, Nat.reduceSub, Array.replicate_succ, Array.replicate_zero, List.push_toArray, List.append_toArray, List.nil_append, List.cons_append]
  gi_wp2_with fail
  refine ⟨trivial, ?_⟩
  refine (callsIn_wide.2 (parts_any _ _ _ _ _ _ _ w hv)).mono ?_
  rintro e w1 ⟨rfl, hw1⟩
  have HI0 : Hid (ChI w [] w1) := by
    subst hw1
    refine ⟨?_, ?_, ?_, by simp [cnt5]⟩
    · have h := ((Blk.new (w.alloc (.cells #[.int .i64 k, .string p, .string m, .int .i64 n, .slice o l.length c] 34)) 4 #[.bool false]).kept (World.grownBy_alloc _ (.cells #[.int .i64 0] 3) none) (by simp)).kept (World.grownBy_alloc _ (.cells #[.int .i64 k, .string p, .string m, .int .i64 n, .slice o l.length c] 34) none) (by simp)
      rwa [World.size_alloc] at h
    · have h := (Blk.new ((w.alloc (.cells #[.int .i64 k, .string p, .string m, .int .i64 n, .slice o l.length c] 34)).alloc (.cells #[.bool false] 4)) 3 #[.int .i64 0]).kept (World.grownBy_alloc _ (.cells #[.int .i64 k, .string p, .string m, .int .i64 n, .slice o l.length c] 34) none) (by simp)
      rwa [World.size_alloc, World.size_alloc] at h
    · exact ((((Below.refl _ w).alloc (Nat.le_refl _) _).alloc (by simp) _).alloc (by simp; omega) _).alloc (by simp; omega) _
  have HBX : Hid (Blk w1 (w.heap.size + 1 + 1 + 1) TT #[.int .i64 k, .string p, .string m, .int .i64 n, .slice o l.length c]) := by
    subst hw1
    have h := Blk.new (((w.alloc (.cells #[.int .i64 k, .string p, .string m, .int .i64 n, .slice o l.length c] 34)).alloc (.cells #[.bool false] 4)).alloc (.cells #[.int .i64 0] 3)) 34 #[.int .i64 k, .string p, .string m, .int .i64 n, .slice o l.length c]
    rwa [World.size_alloc, World.size_alloc, World.size_alloc] at h
  have HZ : Hid (w1.heap.size = w.heap.size + 1 + 1 + 1 + 1) := by subst hw1; show _ = _; simp
  have HV := Lib.hid hv
  clear hw1 hv ha
  gi_wp2
  refine range_parts w (.mk k p m n l) hcnt HV.out HBX.out rfl rfl (ChI w) (ChX w) ((ChI.steady w).own (by have := HZ.out; omega)) (fun c => (ChX.steady w c).own (by have := HZ.out; omega)) (fun _ _ h => h.below) (ChI.steady w).ki HI0.out
    (fun v a' W => ∃ (Bx : Nat) (c0 c1 c2 c3 c4 : Value), v = .agg #[c0, c1, c2, c3, c4] ∧ Blk W Bx TT #[c0, c1, c2, c3, c4] ∧ a' = { tmps := #[.agg #[.int .i64 k, .string p, .string m, .int .i64 n, .slice o l.length c], .pointer (some ⟨w.heap.size, 0, none⟩), .pointer (some ⟨w.heap.size + 1, 0, none⟩), .pointer (some ⟨w.heap.size + 1 + 1, 0, none⟩), .pointer (some ⟨Bx, 0, none⟩), .agg #[.int .i64 k, .string p, .string m, .int .i64 n, .slice o l.length c], .func (.func 47) #[] #[.pointer (some ⟨w.heap.size + 1 + 1 + 1, 0, none⟩)], .agg #[c0, c1, c2, c3, c4], undef, undef, undef, undef, undef, undef, undef, undef, undef, undef, undef, undef], defers := [] })
    (fun v a' => Steady.own (B := 0) (fun _ X Y h hT => by obtain ⟨Bx, c0, c1, c2, c3, c4, h1, h2, h3⟩ := h; exact ⟨Bx, c0, c1, c2, c3, c4, h1, h2.turn hT fun hn => h2.hard (by decide) hn.2, h3⟩) (Nat.zero_le _))
    ?assign ?body ?done ?stop
  case assign =>
    rintro l' pre ⟨k', p', m', n', q'⟩ v W K hi hx hK
    obtain ⟨o', c', rfl, _⟩ := hx.parts
    have HK := Lib.hid (hK _ _ (keepsFrom_turn ((Turn.refl (fun _ => False) W).alloc _) (fun _ h => h.elim)) (KB.alloc W _) ((ChI.steady w) _ _ _ hi ((Turn.refl _ W).alloc _)) ⟨W.heap.size, _, _, _, _, _, rfl, Blk.new W _ _, rfl⟩)
    clear hK hi hx
    gi_wp2
    exact HK.out
  case body =>
    rintro l' pre ⟨k', p', m', n', q'⟩ v a' W hi hx ⟨Bx, x0, x1, x2, x3, x4, hv, hb, rfl⟩ hpre
    obtain ⟨o', c', hv', hql, hqc, _⟩ := hx.parts
    rw [hv] at hv'
    simp only [Value.agg.injEq, Array.mk.injEq, List.cons.injEq, and_true] at hv'
    obtain ⟨rfl, rfl, rfl, rfl, rfl⟩ := hv'
    have hBx := hb.lt
    obtain ⟨hp1, hm1, hl1, _⟩ : p'.size ≤ q ∧ m'.size ≤ q ∧ q'.length * 72 ≤ q ∧ FitYs q q' := by
      have := fit_pre hfit _ ((List.IsPrefix.subset hpre) (by simp : GY.mk k' p' m' n' q' ∈ pre ++ [GY.mk k' p' m' n' q']))
      unfold FitY at this
      exact this
    have HF := Lib.hid (fun W => fits_any k' n' p' m' o' q'.length c' W (by omega) (by omega) (by omega))
    have HEF : Hid (fitG (.mk k' p' m' n' q') = fitY k' n' p' m' q'.length) := rfl
    have HD : Hid (w.heap.size + 1 + 1 < w1.heap.size) := by have := HZ.out; show _ < _; omega
    have HI := Lib.hid hi
    have HB := Lib.hid hb
    have h30 := hi.ok.2
    have c0 : W.cell? ⟨Bx, 0, none⟩ = some (.int .i64 k') := hb.cell 0
    have q0 : W.cell? ⟨w.heap.size + 1 + 1, 0, none⟩ = some (.int .i64 (cnt5 pre : Int)) := hi.cnt.cell 0
    have f0 : W.frozen? ⟨w.heap.size + 1 + 1, 0, none⟩ = false := hi.cnt.frozen 0
    have hne : Bx ≠ w.heap.size + 1 + 1 := hb.ne_ hi.cnt (by decide)
    by_cases h5 : k' = 5
    · subst h5
      obtain ⟨W2, hW2⟩ : ∃ W2, W.setCell ⟨w.heap.size + 1 + 1, 0, none⟩ (.int .i64 ((cnt5 pre : Int) + 1)) = W2 := ⟨_, rfl⟩
      have hT2 : Turn (fun k => k = w.heap.size + 1 + 1) W W2 := by rw [← hW2]; exact Turn.setCell (S := fun k => k = w.heap.size + 1 + 1) (p := ⟨w.heap.size + 1 + 1, 0, none⟩) (Turn.refl _ W) (fun _ => rfl) _
      have hc5 : cnt5 (pre ++ [GY.mk 5 p' m' n' q']) = cnt5 pre + 1 := by rw [cnt5_app]; rfl
      have hcb : Blk W2 (w.heap.size + 1 + 1) 3 #[.int .i64 ((cnt5 pre : Int) + 1)] := by rw [← hW2]; exact hi.cnt.set_ 0 _
      have hb2 : Blk W2 Bx TT #[.int .i64 5, .string p', .string m', .int .i64 n', .slice o' q'.length c'] := hb.turn hT2 hne
      have HC5 := Lib.hid hc5
      have HT2 := Lib.hid hT2
      have HCB : Hid (Blk W2 (w.heap.size + 1 + 1) 3 #[.int .i64 (cnt5 (pre ++ [GY.mk 5 p' m' n' q']) : Int)]) := by rw [hc5]; push_cast; exact hcb
      have x0 : W2.cell? ⟨Bx, 0, none⟩ = some (.int .i64 5) := hb2.cell 0
      have x1 : W2.cell? ⟨Bx, 1, none⟩ = some (.string p') := hb2.cell 1
      have x2 : W2.cell? ⟨Bx, 2, none⟩ = some (.string m') := hb2.cell 2
      have x3 : W2.cell? ⟨Bx, 3, none⟩ = some (.int .i64 n') := hb2.cell 3
      have x4 : W2.cell? ⟨Bx, 4, none⟩ = some (.slice o' q'.length c') := hb2.cell 4
      have qq : W2.cell? ⟨w.heap.size + 1 + 1, 0, none⟩ = some (.int .i64 ((cnt5 pre : Int) + 1)) := hcb.cell 0
      have hr2 : W2.frozen? ⟨w.heap.size + 1, 0, none⟩ = false := (hi.res.turn hT2 (by omega)).frozen 0
      have hrc2 : W2.cell? ⟨w.heap.size + 1, 0, none⟩ = some (.bool false) := (hi.res.turn hT2 (by omega)).cell 0
      have HR2 := Lib.hid (hi.res.turn hT2 (by omega))
      have HW2 := Lib.hid hW2
      clear hW2 hT2 hc5 hcb hb2 hi hb hx hpre
      generalize cnt5 pre = C at *
      by_cases hgt : 30 < C + 1
      · have hgt' : (30 : Int) < (C : Int) + 1 := by omega
        have hgd : decide ((30 : Int) < (C : Int) + 1) = true := decide_eq_true hgt'
        have hge : (30 : Int) ≤ (C : Int) := by omega
        have HBAD : Hid ((pre ++ [GY.mk 5 p' m' n' q']).all fitG = false ∨ 30 < cnt5 (pre ++ [GY.mk 5 p' m' n' q'])) := .inr (by rw [HC5.out]; exact hgt)
        gi_wp2_with (change wpListIn _ _ _ _ _ _ _ (W.setCell ⟨w.heap.size + 1 + 1, 0, none⟩ (.int .i64 ((C : Int) + 1))); rw [HW2.out])
        refine ⟨trivial, ?_⟩
        gi_wp2_with fail
        exact HI.out.stop HT2.out (Below.refl _ _) HBAD.out HD.out
      · have hgt' : ¬ ((30 : Int) < (C : Int) + 1) := by omega
        have hgd : decide ((30 : Int) < (C : Int) + 1) = false := decide_eq_false hgt'
        have hge : ¬ (30 : Int) ≤ (C : Int) := by omega
        obtain ⟨Z, hZ⟩ : ∃ Z, fitY 5 n' p' m' q'.length = Z := ⟨_, rfl⟩
        rw [hZ] at HF HEF
        clear hZ
        cases Z
        · have HBAD : Hid ((pre ++ [GY.mk 5 p' m' n' q']).all fitG = false ∨ 30 < cnt5 (pre ++ [GY.mk 5 p' m' n' q'])) := .inl (by rw [List.all_append]; simp [HEF.out])
          gi_wp2_with (change wpListIn _ _ _ _ _ _ _ (W.setCell ⟨w.heap.size + 1 + 1, 0, none⟩ (.int .i64 ((C : Int) + 1))); rw [HW2.out])
          refine ⟨trivial, ?_⟩
          refine (CallsIn.inRound l' (callsIn_wide.2 (HF.out _))).mono ?_
          rintro e W3 ⟨rfl, hB3⟩
          have hr3 : W3.frozen? ⟨w.heap.size + 1, 0, none⟩ = false := ((Turn.of_below hB3).blkN HR2.out).frozen 0
          have hrc3 : W3.cell? ⟨w.heap.size + 1, 0, none⟩ = some (.bool false) := ((Turn.of_below hB3).blkN HR2.out).cell 0
          have HB3 := Lib.hid hB3
          clear hB3 c0 q0 f0 qq hr2 hrc2 x0 x1 x2 x3 x4
          gi_wp2
          exact HI.out.stop HT2.out HB3.out HBAD.out HD.out
        · have HG : Hid (cnt5 (pre ++ [GY.mk 5 p' m' n' q']) ≤ 30) := by rw [HC5.out]; show _ ≤ _; omega
          gi_wp2_with (change wpListIn _ _ _ _ _ _ _ (W.setCell ⟨w.heap.size + 1 + 1, 0, none⟩ (.int .i64 ((C : Int) + 1))); rw [HW2.out])
          refine ⟨trivial, ?_⟩
          refine (CallsIn.inRound l' (callsIn_wide.2 (HF.out _))).mono ?_
          rintro e W3 ⟨rfl, hB3⟩
          have HB3 := Lib.hid hB3
          clear hB3 c0 q0 f0 qq hr2 hrc2 x0 x1 x2 x3 x4
          gi_wp2
          exact HI.out.next HT2.out HCB.out HB3.out HEF.out HG.out HD.out
    · have h5' : (k' == 5) = false := beq_eq_false_iff_ne.2 h5
      have hc5 : cnt5 (pre ++ [GY.mk k' p' m' n' q']) = cnt5 pre := by rw [cnt5_app, cnt5_cons]; simp [is5, h5, cnt5]
      have x0 : W.cell? ⟨Bx, 0, none⟩ = some (.int .i64 k') := hb.cell 0
      have x1 : W.cell? ⟨Bx, 1, none⟩ = some (.string p') := hb.cell 1
      have x2 : W.cell? ⟨Bx, 2, none⟩ = some (.string m') := hb.cell 2
      have x3 : W.cell? ⟨Bx, 3, none⟩ = some (.int .i64 n') := hb.cell 3
      have x4 : W.cell? ⟨Bx, 4, none⟩ = some (.slice o' q'.length c') := hb.cell 4
      have HCB : Hid (Blk W (w.heap.size + 1 + 1) 3 #[.int .i64 (cnt5 (pre ++ [GY.mk k' p' m' n' q']) : Int)]) := by rw [hc5]; exact hi.cnt
      have HG : Hid (cnt5 (pre ++ [GY.mk k' p' m' n' q']) ≤ 30) := by rw [hc5]; exact h30
      have HR2 := Lib.hid hi.res
      clear hc5 hi hb hx hpre
      generalize cnt5 pre = C at *
      have hgt' : ¬ ((30 : Int) < (C : Int)) := by omega
      obtain ⟨Z, hZ⟩ : ∃ Z, fitY k' n' p' m' q'.length = Z := ⟨_, rfl⟩
      rw [hZ] at HF HEF
      clear hZ
      cases Z
      · have HBAD : Hid ((pre ++ [GY.mk k' p' m' n' q']).all fitG = false ∨ 30 < cnt5 (pre ++ [GY.mk k' p' m' n' q'])) := .inl (by rw [List.all_append]; simp [HEF.out])
        gi_wp2_with fail
        refine ⟨trivial, ?_⟩
        refine (CallsIn.inRound l' (callsIn_wide.2 (HF.out _))).mono ?_
        rintro e W3 ⟨rfl, hB3⟩
        have hr3 : W3.frozen? ⟨w.heap.size + 1, 0, none⟩ = false := ((Turn.of_below hB3).blkN HR2.out).frozen 0
        have hrc3 : W3.cell? ⟨w.heap.size + 1, 0, none⟩ = some (.bool false) := ((Turn.of_below hB3).blkN HR2.out).cell 0
        have HB3 := Lib.hid hB3
        clear hB3 c0 q0 f0 x0 x1 x2 x3 x4
        gi_wp2
        exact HI.out.stop (Turn.refl _ _) HB3.out HBAD.out HD.out
      · gi_wp2_with fail
        refine ⟨trivial, ?_⟩
        refine (CallsIn.inRound l' (callsIn_wide.2 (HF.out _))).mono ?_
        rintro e W3 ⟨rfl, hB3⟩
        have HB3 := Lib.hid hB3
        clear hB3 c0 q0 f0 x0 x1 x2 x3 x4
        gi_wp2
        exact HI.out.next (Turn.refl _ _) HCB.out HB3.out HEF.out HG.out HD.out
  case done =>
    rintro D W hD hi hd
    have hr := hi.res.cell 0
    have hf := hi.res.frozen 0
    have hDn : w.heap.size + 1 + 1 < D := by have := HZ.out; omega
    have hch : chkY okN 0 (.mk k p m n l) = true := chk_done hi.ok.1 hi.ok.2
    have HCH := Lib.hid hch
    obtain ⟨X, Y, hX, hXD, hY, hYr, hYB⟩ := leave_check hi.res hi.below hd hDn true
    have HX := Lib.hid hX
    have HXD := Lib.hid hXD
    have HY := Lib.hid hY
    have HYB := Lib.hid hYB
    have HYR := Lib.hid hYr
    clear hX hXD hY hYB hYr hi hd hch
    gi_wp2
    rw [HX.out]
    refine ⟨by simp, .inl ⟨_, _, rfl, run_takeDeferred HXD.out, ?_⟩⟩
    rw [HY.out]
    have hYr := HYR.out
    refine ⟨.bool true, by simp [results, Try.results21, go_sem, hYr], by rw [HCH.out], HYB.out⟩
  case stop =>
    rintro D c pre W hD hS ⟨rfl, hr, hB, hbad⟩ hd
    have hDn : w.heap.size + 1 + 1 < D := by have := HZ.out; omega
    have hch : chkY okN 0 (.mk k p m n l) = false := chk_stop hS hbad
    have HCH := Lib.hid hch
    have hne : w.heap.size + 1 ≠ D := by omega
    have hYr : (W.putObj D (.deferred none)).cell? ⟨w.heap.size + 1, 0, none⟩ = some (.bool false) := (hr.kept (grownBy_putObj' _ D (.deferred none)) (by simpa using hne)).cell 0
    have HYR := Lib.hid hYr
    have HD := Lib.hid hd
    have HYB : Hid (Below w.heap.size w (W.putObj D (.deferred none))) := hB.trans ((Turn.of_grown (grownBy_putObj' W D (.deferred none))).below hB.size fun k hk => by injection hk with hk; omega)
    clear hYr hd hB hr hch
    gi_wp2
    refine ⟨by simp, .inl ⟨_, _, rfl, run_takeDeferred HD.out, ?_⟩⟩
    have hYr := HYR.out
    refine ⟨.bool false, by simp [results, Try.results21, go_sem, hYr], by rw [HCH.out], HYB.out⟩
end Go.Proofs.Ytlakmniaocpaaaa
