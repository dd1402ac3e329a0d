/-
  Rows of rows of numbers in memory: made, one more behind one of them; read. Condition: at most a million.
-/
import Derived.Test.YtgnhcaepkgbieaaHpf
import Derived.Test.YtgnhcaepkgbieaaWbd
namespace Go.Proofs.Ytgnhcaepkgbieaa
open Go.RowKit

theorem make_all (t e : TypeId) (z : Value) (bytes : Nat) (ht : Try.prog.underlying t = some (.slice e)) (hinf : (Try.prog.info? e).map (fun i => (i.zero, i.size, i.bytes)) = some (some z, 1, bytes)) (hz : z.cells = #[z]) (hb : bytes ≤ 100) (n : Nat) (hn : n ≤ 1000000) (W : World) :
    (Instr.makeSlice t (.int .i64 (n : Int)) (.int .i64 (n : Int))).run Try.prog W = .ok (.slice (some ⟨W.heap.size, 0, none⟩) n n) (W.alloc (.cells (Array.replicate n z) e)) := by
  obtain ⟨i0, hi, hi'⟩ := Option.map_eq_some_iff.1 hinf
  simp only [Prod.mk.injEq] at hi'
  obtain ⟨hz0, hz1, hz2⟩ := hi'
  have hbb : i0.bytes * n ≤ 100 * 1000000 := Nat.mul_le_mul (by omega) hn
  have hr := run_make (P := Try.prog) W t e i0 z ht hi hz0 .i64 .i64 n n (by omega) (Int.le_refl _) (by
    have h : ((i0.bytes * n : Nat) : Int) ≤ 281474976710656 := by omega
    rwa [Int.natCast_mul] at h) (by omega)
  simp only [Int.toNat_natCast] at hr
  have e1 : madeCells #[z] n = Array.replicate n z := by
    apply Array.ext'
    rw [toList_madeCells_one z n, Array.toList_replicate]
  rw [hr, hz1, hz, Nat.mul_one, e1]
theorem info42s : (Try.prog.info? 42).map (fun i => (i.zero, i.size, i.bytes)) = some (some (.slice none 0 0), 1, 24) := by kernel_rfl
theorem info4s : (Try.prog.info? 4).map (fun i => (i.zero, i.size, i.bytes)) = some (some (.bool false), 1, 1) := by kernel_rfl

/-! ### read -/
def AtI (w : World) (o : Option Addr) (xs : List Nat) : Prop := ∀ (i x : Nat), xs[i]? = some x → ∃ g : Nat, o = some ⟨g, 0, none⟩ ∧ w.cell? ⟨g, i, none⟩ = some (.int .i64 (x : Int))
def AtR (w : World) (o : Option Addr) (rows : List (List Nat)) : Prop := ∀ (i : Nat) (r : List Nat), rows[i]? = some r → ∃ (g : Nat) (o' : Option Addr) (c : Nat), o = some ⟨g, 0, none⟩ ∧ w.cell? ⟨g, i, none⟩ = some (.slice o' r.length c) ∧ AtI w o' r
theorem AtI.below {w w' : World} {o : Option Addr} {xs : List Nat} (h : AtI w o xs) (hb : Below w.heap.size w w') : AtI w' o xs := fun i x hx => by
  obtain ⟨g, ho, hc⟩ := h i x hx
  exact ⟨g, ho, (hb.cell (World.block_lt_of_cell? _ _ hc)).trans hc⟩
theorem AtR.below {w w' : World} {o : Option Addr} {rows : List (List Nat)} (h : AtR w o rows) (hb : Below w.heap.size w w') : AtR w' o rows := fun i r hr => by
  obtain ⟨g, o', c, ho, hc, hi⟩ := h i r hr
  exact ⟨g, o', c, ho, (hb.cell (World.block_lt_of_cell? _ _ hc)).trans hc, hi.below hb⟩
theorem own_ints {w : World} {base n cap : Nat} {o : Option Addr} {l : List Nat} (h : w.ownsRow base 3 1 (.slice o n cap) n (iC l)) (hl : l.length = n) : AtI w o l := fun i x hx => by
  have hi : i < l.length := (List.getElem?_eq_some_iff.1 hx).1
  rcases h.2 with ⟨hv, h0⟩ | ⟨g, cap', cur, hv, _⟩
  · omega
  · obtain ⟨rfl, rfl⟩ : o = some ⟨g, 0, none⟩ ∧ cap = cap' := by simpa using hv
    have := RowI.cell h hl (i := i) (by omega)
    rw [getH_at hi] at hx
    injection hx with hx
    rw [hx] at this
    exact ⟨g, rfl, this⟩

/-! ### written -/
/-- Three blocks, one behind the other. -/
theorem three_blocks (w : World) (a b c : Obj) : let W := (((w.alloc a).alloc b).alloc c).drew
    W.heap[w.heap.size]? = some a ∧ W.heap[w.heap.size + 1]? = some b ∧ W.heap[w.heap.size + 1 + 1]? = some c ∧ Below w.heap.size w W ∧ W.heap.size = w.heap.size + 1 + 1 + 1 := by
  intro W
  have s1 : (w.alloc a).heap.size = w.heap.size + 1 := World.size_alloc ..
  have s2 : ((w.alloc a).alloc b).heap.size = w.heap.size + 1 + 1 := by rw [World.size_alloc, s1]
  have h1 : (w.alloc a).heap[w.heap.size]? = some a := heap_alloc_new w a
  have h2 : ((w.alloc a).alloc b).heap[w.heap.size + 1]? = some b := by have := heap_alloc_new (w.alloc a) b; rwa [s1] at this
  have h3 : (((w.alloc a).alloc b).alloc c).heap[w.heap.size + 1 + 1]? = some c := by have := heap_alloc_new ((w.alloc a).alloc b) c; rwa [s2] at this
  have g1 : ((w.alloc a).alloc b).heap[w.heap.size]? = some a := (Below.heap_alloc _ _ _ (by omega)).trans h1
  refine ⟨(Below.heap_alloc _ _ _ (by omega)).trans g1, (Below.heap_alloc _ _ _ (by omega)).trans h2, h3, ?_, by show (((w.alloc a).alloc b).alloc c).heap.size = _; rw [World.size_alloc, s2]⟩
  exact ((((Below.refl _ w).alloc (Nat.le_refl _) a).alloc (by omega) b).alloc (by omega) c).drew
structure RR (w : World) (base B : Nat) (s : Bool) (φ : Nat → Option (Bool × Nat)) (rows : List (List Nat)) (vs : List Value) : Prop where
  box : w.heap[B]? = some (.cells vs.toArray 42)
  len : vs.length = rows.length
  row : ∀ (i : Nat) (r : List Nat), rows[i]? = some r → ∃ o cap, vs[i]? = some (.slice o r.length cap) ∧ w.ownsRow base 3 1 (.slice o r.length cap) r.length (iC r) ∧ ∀ g, (Value.slice o r.length cap).ownBlock = some g → φ g = some (s, i)
  lt : B < base
theorem RR.lt_ {w : World} {base B : Nat} {s : Bool} {φ : Nat → Option (Bool × Nat)} {rows : List (List Nat)} {vs : List Value} (h : RR w base B s φ rows vs) : B < w.heap.size := (Array.getElem?_eq_some_iff.1 h.box).1
theorem RR.start {w : World} {base B n : Nat} (s : Bool) (φ : Nat → Option (Bool × Nat)) (h : w.heap[B]? = some (.cells (Array.replicate n (.slice none 0 0)) 42)) (hb : B < base) : RR w base B s φ (List.replicate n []) (List.replicate n (.slice none 0 0)) := by
  refine ⟨by rw [h, List.toArray_replicate], by simp, fun i r hr => ?_, hb⟩
  rw [List.getElem?_replicate] at hr
  split at hr
  · next hi =>
    injection hr with hr
    subst hr
    refine ⟨none, 0, ?_, World.ownsRow_nil _ _ _ _, fun g hg => by cases hg⟩
    rw [List.getElem?_replicate, if_pos hi]
    rfl
  · cases hr
theorem RR.cell {w : World} {base B : Nat} {s : Bool} {φ : Nat → Option (Bool × Nat)} {rows : List (List Nat)} {vs : List Value} (h : RR w base B s φ rows vs) {i : Nat} (hi : i < rows.length) :
    ∃ o cap, w.cell? ⟨B, i, none⟩ = some (.slice o (waysAt rows i).length cap) ∧ w.frozen? ⟨B, i, none⟩ = false ∧ vs[i]? = some (.slice o (waysAt rows i).length cap) ∧ w.ownsRow base 3 1 (.slice o (waysAt rows i).length cap) (waysAt rows i).length (iC (waysAt rows i)) ∧
      ∀ g, (Value.slice o (waysAt rows i).length cap).ownBlock = some g → φ g = some (s, i) := by
  obtain ⟨o, cap, h1, h2, h3⟩ := h.row i _ (ways_get hi)
  refine ⟨o, cap, ?_, by simp [World.frozen?, h.box], h1, h2, h3⟩
  simp only [World.cell?, h.box]
  rw [← h1]
  exact List.getElem?_toArray ..
theorem RR.turn {w w' : World} {S : Nat → Prop} {base B : Nat} {s : Bool} {φ φ' : Nat → Option (Bool × Nat)} {rows : List (List Nat)} {vs : List Value} (h : RR w base B s φ rows vs) (hT : Turn S w w') (hB : ¬ S B) (hS : ∀ g i, base ≤ g → g < w.heap.size → φ g = some (s, i) → ¬ S g) (hφ : ∀ g, g < w.heap.size → φ' g = φ g) : RR w' base B s φ' rows vs := by
  refine ⟨(hT.block B h.lt_ hB).trans h.box, h.len, fun i r hr => ?_, h.lt⟩
  obtain ⟨o, cap, h1, h2, h3⟩ := h.row i r hr
  exact ⟨o, cap, h1, hT.row h2 fun k hk => hS k i (h2.lt k hk).1 (h2.lt k hk).2 (h3 k hk), fun g hg => by rw [hφ g (h2.lt g hg).2]; exact h3 g hg⟩
/-- One more behind one of the rows: behind the append, stored. -/
theorem RR.put {w w1 : World} {base B : Nat} {s : Bool} {φ : Nat → Option (Bool × Nat)} {rows : List (List Nat)} {vs : List Value} (h : RR w base B s φ rows vs) {i x : Nat} (hi : i < rows.length) {o o1 : Option Addr} {cap cap1 : Nat}
    (hv : vs[i]? = some (.slice o (waysAt rows i).length cap)) (hφ : ∀ g, (Value.slice o (waysAt rows i).length cap).ownBlock = some g → φ g = some (s, i)) (hrow : w1.ownsRow base 3 1 (.slice o1 ((waysAt rows i).length + 1) cap1) ((waysAt rows i).length + 1) (iC (waysAt rows i) ++ [.int .i64 (x : Int)]))
    (hT : Turn (fun k => (Value.slice o (waysAt rows i).length cap).ownBlock = some k) w w1) (hw : ∀ k, (Value.slice o1 ((waysAt rows i).length + 1) cap1).ownBlock = some k → (Value.slice o (waysAt rows i).length cap).ownBlock = some k ∨ w.heap.size ≤ k) (hor : ∀ g, (Value.slice o (waysAt rows i).length cap).ownBlock = some g → base ≤ g) :
    RR (w1.setCell ⟨B, i, none⟩ (.slice o1 ((waysAt rows i).length + 1) cap1)) base B s (fun g => if w.heap.size ≤ g then some (s, i) else φ g) (rows.set i (waysAt rows i ++ [x])) (vs.set i (.slice o1 ((waysAt rows i).length + 1) cap1)) ∧
      Turn (fun k => k = B ∨ (Value.slice o (waysAt rows i).length cap).ownBlock = some k) w (w1.setCell ⟨B, i, none⟩ (.slice o1 ((waysAt rows i).length + 1) cap1)) := by
  have hlt := h.lt_
  have hbx := (hT.block B hlt (fun e => by have := hor B e; have := h.lt; omega)).trans h.box
  have hS : Turn (fun k => k = B) w1 (w1.setCell ⟨B, i, none⟩ (.slice o1 ((waysAt rows i).length + 1) cap1)) := Turn.setCell (S := fun k => k = B) (p := ⟨B, i, none⟩) (Turn.refl _ w1) (fun _ => rfl) _
  have hT2 : Turn (fun k => k = B ∨ (Value.slice o (waysAt rows i).length cap).ownBlock = some k) w (w1.setCell ⟨B, i, none⟩ (.slice o1 ((waysAt rows i).length + 1) cap1)) :=
    (hT.mono fun k _ hk => Or.inr hk).trans (hS.mono fun k _ hk => Or.inl hk)
  refine ⟨⟨?_, by rw [List.length_set, List.length_set]; exact h.len, fun j r hr => ?_, h.lt⟩, hT2⟩
  · have := heap_setCell_same w1 B i vs.toArray 42 (.slice o1 ((waysAt rows i).length + 1) cap1) hbx
    rw [this]
    simp
  · by_cases hji : j = i
    · subst hji
      rw [List.getElem?_set, if_pos rfl, if_pos hi] at hr
      injection hr with hr
      subst hr
      have hl : (waysAt rows j ++ [x]).length = (waysAt rows j).length + 1 := by simp
      rw [hl]
      refine ⟨o1, cap1, ?_, ?_, fun g hg => ?_⟩
      · rw [List.getElem?_set, if_pos rfl, if_pos (by rw [h.len]; exact hi)]
      · rw [iC_app]
        exact hS.row hrow fun k hk hkB => by subst hkB; have := (hrow.lt k hk).1; have := h.lt; omega
      · rcases hw g hg with h1 | h1
        · rw [if_neg (fun h2 => by
            obtain ⟨o', cap', g1, g2, _⟩ := h.row j _ (ways_get hi)
            rw [hv] at g1
            injection g1 with g1
            rw [← g1] at g2
            have := (g2.lt g h1).2
            omega)]
          exact hφ g h1
        · rw [if_pos h1]
    · rw [List.getElem?_set, if_neg (fun e => hji e.symm)] at hr
      obtain ⟨o', cap', g1, g2, g3⟩ := h.row j r hr
      refine ⟨o', cap', by rw [List.getElem?_set, if_neg (fun e => hji e.symm)]; exact g1, hT2.row g2 fun k hk hS => ?_, fun g hg => ?_⟩
      · rcases hS with hS | hS
        · subst hS; have := (g2.lt k hk).1; have := h.lt; omega
        · have e1 := g3 k hk
          rw [hφ k hS] at e1
          injection e1 with e1
          injection e1 with _ e1
          exact hji e1.symm
      · rw [if_neg (by have := (g2.lt g hg).2; omega)]
        exact g3 g hg
theorem cells3 {w : World} {B : Nat} {a b c : Value} {t : TypeId} (h : w.heap[B]? = some (.cells #[a, b, c] t)) : w.cell? ⟨B, 0, none⟩ = some a ∧ w.cell? ⟨B, 1, none⟩ = some b ∧ w.cell? ⟨B, 2, none⟩ = some c := by
  simp [World.cell?, h]
/-- One more behind a row, ahead of its store: what the walk asks. -/
theorem RR.ahead {w : World} {base B : Nat} {s : Bool} {φ : Nat → Option (Bool × Nat)} {rows : List (List Nat)} {vs : List Value} (h : RR w base B s φ rows vs) {i : Nat} (hi : i < rows.length) (x : Nat) (hb : base ≤ w.heap.size) (hn : (waysAt rows i).length + 1 ≤ 2000000) :
    ∃ o cap o1 cap1 w1, w.cell? ⟨B, i, none⟩ = some (.slice o (waysAt rows i).length cap) ∧ w.frozen? ⟨B, i, none⟩ = false ∧
      (Builtin.append_ #[42, 42] 42 #[.slice o (waysAt rows i).length cap, .slice (some ⟨w.heap.size, 0, none⟩) 1 1]).run Try.prog ((w.alloc (.cells #[.int .i64 (x : Int)] 3)).drew) = .ok (.slice o1 ((waysAt rows i).length + 1) cap1) w1 ∧
      w1.cell? ⟨B, i, none⟩ = some (.slice o (waysAt rows i).length cap) ∧ w1.frozen? ⟨B, i, none⟩ = false ∧ (∀ k, k < base → w1.heap[k]? = w.heap[k]?) ∧
      RR (w1.setCell ⟨B, i, none⟩ (.slice o1 ((waysAt rows i).length + 1) cap1)) base B s (fun g => if w.heap.size ≤ g then some (s, i) else φ g) (rows.set i (waysAt rows i ++ [x])) (vs.set i (.slice o1 ((waysAt rows i).length + 1) cap1)) ∧
      Turn (fun k => k = B ∨ (base ≤ k ∧ φ k = some (s, i))) w (w1.setCell ⟨B, i, none⟩ (.slice o1 ((waysAt rows i).length + 1) cap1)) := by
  obtain ⟨o, cap, h1, h2, h3, h4, h5⟩ := h.cell hi
  obtain ⟨o1, cap1, w1, hrun, hrow, hT, hwh⟩ := run_append_one w.drew base 42 42 3 (.int .i64 0) (.int .i64 (x : Int)) 8 Try.underlying42 info3s rfl _ _ _ h4.drew rfl hb (by omega) (by unfold maxLen; omega)
  have hT' : Turn (fun k => (Value.slice o (waysAt rows i).length cap).ownBlock = some k) w w1 := hT.undrew
  have hor : ∀ g, (Value.slice o (waysAt rows i).length cap).ownBlock = some g → base ≤ g := fun g hg => (h4.lt g hg).1
  have hblk : ∀ k, k < base → w1.heap[k]? = w.heap[k]? := fun k hk => hT'.block k (by omega) fun e => by have := hor k e; omega
  have hlt := h.lt
  obtain ⟨g1, g2⟩ := h.put (x := x) hi h3 h5 hrow hT' hwh hor
  refine ⟨o, cap, o1, cap1, w1, h1, h2, hrun, (World.cell?_of_block (w := w) (hblk B hlt)).trans h1, (World.frozen?_of_block (w := w) (hblk B hlt)).trans h2, hblk, g1, g2.mono fun k _ hk => ?_⟩
  rcases hk with hk | hk
  · exact .inl hk
  · exact .inr ⟨hor k hk, h5 k hk⟩
theorem RR.read {w : World} {base B : Nat} {s : Bool} {φ : Nat → Option (Bool × Nat)} {rows : List (List Nat)} {vs : List Value} (h : RR w base B s φ rows vs) : AtR w (some ⟨B, 0, none⟩) rows := fun i r hr => by
  have hi : i < rows.length := (List.getElem?_eq_some_iff.1 hr).1
  obtain ⟨o, cap, h1, _, _, h4, _⟩ := h.cell hi
  rw [ways_get hi] at hr
  injection hr with hr
  rw [hr] at h1 h4
  exact ⟨B, o, cap, rfl, h1, own_ints h4 rfl⟩

end Go.Proofs.Ytgnhcaepkgbieaa
