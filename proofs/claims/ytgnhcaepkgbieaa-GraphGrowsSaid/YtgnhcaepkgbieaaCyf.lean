/-
  Those that import themselves, in memory: Cyclic. Condition: few packages.
-/
import Derived.Test.YtgnhcaepkgbieaaCye
import Derived.Deep.RegionHeld3
import Derived.Sort.OwnSortedInts
namespace Go.Proofs.Ytgnhcaepkgbieaa
open Go.RowKit Go.Shelf Go.Sort
open Go.Lib hiding intOf

/-! ### sorted -/
theorem ints_map (C : List Nat) : (C.map fun (x : Nat) => (x : Int)).mergeSort (fun x y => decide (x ≤ y)) = (C.mergeSort fun x y => decide (x ≤ y)).map fun (x : Nat) => (x : Int) := by
  refine (List.map_mergeSort fun a _ b _ => ?_).symm
  simp
theorem iC_ints (C : List Nat) : iC C = (C.map fun (x : Nat) => (x : Int)).map (Value.int .i64) := by
  unfold iC
  rw [List.map_map]
  rfl
theorem sortI_any (C : List Nat) (o : Option Addr) (n cap base : Nat) (w : World) (hn : C.length = n) (hrow : w.ownsRow base 3 1 (.slice o n cap) n (iC C)) (hnd : C.Nodup) (hs : n ≤ 1000000) :
    Calls Try.prog 34 #[.slice o n cap] w fun e w' => e = .returned (.tuple #[]) ∧ ∃ D : List Nat, D.Pairwise (· < ·) ∧ (∀ x, x ∈ D ↔ x ∈ C) ∧ D.length = n ∧ w'.ownsRow base 3 1 (.slice o n cap) n (iC D) ∧
      Turn (fun k => (Value.slice o n cap).ownBlock = some k) w w' := by
  have hr := hrow
  have hp := List.mergeSort_perm C (fun x y => decide (x ≤ y))
  have hlt : (C.mergeSort fun x y => decide (x ≤ y)).Pairwise (· < ·) := by
    have h1 := List.pairwise_mergeSort (le := fun (x y : Nat) => decide (x ≤ y)) (fun a b c h1 h2 => by simp at *; omega) (fun a b => by simp; omega) C
    have h2 := hp.nodup_iff.2 hnd
    refine (h1.and h2).imp fun {a b} h => ?_
    have := of_decide_eq_true h.1
    have := h.2
    omega
  rcases hrow.2 with ⟨hv, h0⟩ | ⟨g, cap', cur, hv, hbase, hb, h1, h2, h3, h4⟩
  · obtain ⟨rfl, rfl, rfl⟩ : o = none ∧ n = 0 ∧ cap = 0 := by simpa using hv
    refine (Try.slices_Sort_int_none none 0 w).mono ?_
    rintro e w' ⟨rfl, rfl⟩
    obtain rfl : C = [] := List.length_eq_zero_iff.1 hn
    exact ⟨rfl, [], List.Pairwise.nil, fun x => Iff.rfl, rfl, hr, Turn.refl _ _⟩
  · obtain ⟨rfl, rfl⟩ : o = some ⟨g, 0, none⟩ ∧ cap = cap' := by simpa using hv
    rw [Nat.mul_one, iC_ints] at h4
    have hl : (C.map fun (x : Nat) => (x : Int)).length = n := by rw [List.length_map]; exact hn
    have hH : Holds (Value.int .i64) w g 0 (C.map fun (x : Nat) => (x : Int)).toArray := Go.holds_of_blockI hb (by rw [hl]; exact h4)
    have hgl : g < w.heap.size := (Array.getElem?_eq_some_iff.1 hb).1
    have hc := Try.slices_Sort_int g 0 cap (C.map fun (x : Nat) => (x : Int)) w hH hgl (by omega)
    rw [hl] at hc
    refine hc.mono ?_
    rintro e w' ⟨rfl, m, os, rfl⟩
    refine ⟨rfl, C.mergeSort fun x y => decide (x ≤ y), hlt, fun x => hp.mem_iff, by rw [hp.length_eq]; exact hn, ?_, (Turn.of_grown (grownBy_sortedI _)).mono fun k _ hk => by simpa [Value.ownBlock] using hk.symm⟩
    have hml : ((C.map fun (x : Nat) => (x : Int)).mergeSort fun x y => decide (x ≤ y)).length = (C.map fun (x : Nat) => (x : Int)).length := by simp
    have := ownsRow_sortedI (cap := cap) (n := m) (os := os) (base := base) hml hbase hb (by rw [hl]; exact h1) h2 (by simpa using h3)
    rw [iC_ints, ← ints_map]
    rw [hl] at this
    exact this

theorem wpList_append_noints {ops : Array Oper} {rest : List Oper} {op : Oper} {a : Act} {w : World} {Q : Exit → Act → World → Prop} (hgd : op.guard = none) (s x : Operand)
    (ho : op.op = .call { callee := .builtin .append, args := #[s, x], argTypes := #[42, 42] }) (base : Nat) (v : Value) (n : Nat) (xs : List Value) (hs : a.eval s = v) (hown : w.ownsRow base 3 1 v n xs) (hx : a.eval x = .slice none 0 0)
    (h : wpList Try.prog ops Q rest (a.put op.dst v) w) : wpList Try.prog ops Q (op :: rest) a w := by
  obtain ⟨i0, hi, _⟩ := Option.map_eq_some_iff.1 info3s
  refine wpList_plain hgd fun K hK => ?_
  have hrun := run_append_owned_none (P := Try.prog) w base 42 op.type 3 i0 1 Try.underlying42 hi v n xs hown
  unfold Oper.wp
  simp [execOp, ho, resolve, invoke, builtin, hs, hx, hrun, Result.andThen]
  exact hK _ _ h
theorem wpListIn_append_noints {F : Fence} {fn : Nat} {ops : Array Oper} {rest : List Oper} {op : Oper} {a : Act} {w : World} {Q : Exit → Act → World → Prop} (hgd : op.guard = none) (s x : Operand)
    (ho : op.op = .call { callee := .builtin .append, args := #[s, x], argTypes := #[42, 42] }) (base : Nat) (v : Value) (n : Nat) (xs : List Value) (hs : a.eval s = v) (hown : w.ownsRow base 3 1 v n xs) (hx : a.eval x = .slice none 0 0)
    (h : wpListIn F fn Try.prog ops Q rest (a.put op.dst v) w) : wpListIn F fn Try.prog ops Q (op :: rest) a w := by
  obtain ⟨i0, hi, _⟩ := Option.map_eq_some_iff.1 info3s
  refine wpListIn_plain hgd fun K hK => ?_
  have hrun := run_append_owned_none (P := Try.prog) w base 42 op.type 3 i0 1 Try.underlying42 hi v n xs hown
  unfold Oper.wpIn
  refine ⟨?_, ?_⟩
  · simp [Oper.about, ho, resolve, Target.leads, Sem.run_pure]
  · rw [Oper.semAt_plain F _ _ (by rw [ho]; intro c hc'; cases hc')]
    simp [execOp, ho, resolve, invoke, builtin, hs, hx, hrun, Result.andThen]
    exact hK _ _ h

/-! ### plainly: what has come tells where one stands -/
theorem bks_snd (L : List Nat) : ∀ m, m ≤ L.length → (bks L m).map (·.2) = (L.take m).reverse
  | 0, _ => rfl
  | i + 1, h => by
    have hi : i < L.length := h
    rw [bks, List.map_cons, bks_snd L i (by omega), List.take_add_one, getH_at hi]
    simp
theorem bks_split {L : List Nat} {m : Nat} (hL : L.length = m) {pre : List (Nat × Nat)} {x : Nat × Nat} (h : pre ++ [x] <+: bks L m) : ∃ A, L = A ++ x.2 :: (pre.map (·.2)).reverse := by
  obtain ⟨r, hr⟩ := h
  have h1 := bks_snd L m (by omega)
  rw [← hr, List.take_of_length_le (by omega)] at h1
  refine ⟨(r.map (·.2)).reverse, ?_⟩
  have h2 := congrArg List.reverse h1
  rw [List.reverse_reverse] at h2
  rw [← h2]
  simp
theorem bks_all {L : List Nat} {m : Nat} (hL : L.length = m) : ((bks L m).map (·.2)).reverse = L := by
  rw [bks_snd L m (by omega), List.take_of_length_le (by omega), List.reverse_reverse]

/-! ### in memory -/
structure CyM (w1 w : World) (WB b bt bm bb n cn : Nat) (on oi ou : Option Addr) (tried : List Nat) (met : List Bool) : Prop where
  web : w.heap[WB]? = some (.cells #[.slice on n cn, .slice oi n n, .slice ou n n] 40)
  wk : IsWk w b bt bm n ou tried met
  box : w.heap[bb]? = some (.cells #[.pointer (some ⟨b, 0, none⟩)] 49)
  below : Below w1.heap.size w1 w
  ge : w1.heap.size ≤ WB ∧ WB < b ∧ WB < bt ∧ WB < bm ∧ WB < bb
  ne : bb ≠ bt ∧ bb ≠ bm
theorem CyM.turn {S : Nat → Prop} {w1 w w' : World} {WB b bt bm bb n cn : Nat} {on oi ou : Option Addr} {tried : List Nat} {met : List Bool} (h : CyM w1 w WB b bt bm bb n cn on oi ou tried met) (hT : Turn S w w') (h1 : ¬ S WB) (h2 : ¬ S b) (h3 : ¬ S bt) (h4 : ¬ S bm) (h5 : ¬ S bb)
    (h6 : ∀ k, S k → w1.heap.size ≤ k) : CyM w1 w' WB b bt bm bb n cn on oi ou tried met :=
  ⟨(hT.block WB (Array.getElem?_eq_some_iff.1 h.web).1 h1).trans h.web, h.wk.turn hT h2 h3 h4, (hT.block bb (Array.getElem?_eq_some_iff.1 h.box).1 h5).trans h.box, h.below.trans (hT.below h.below.size h6), h.ge, h.ne⟩
theorem CyM.lts {w1 w : World} {WB b bt bm bb n cn : Nat} {on oi ou : Option Addr} {tried : List Nat} {met : List Bool} (h : CyM w1 w WB b bt bm bb n cn on oi ou tried met) : b < w.heap.size ∧ bt < w.heap.size ∧ bm < w.heap.size ∧ bb < w.heap.size ∧ WB < w.heap.size :=
  ⟨h.wk.lts.1, h.wk.lts.2.1, h.wk.lts.2.2, (Array.getElem?_eq_some_iff.1 h.box).1, (Array.getElem?_eq_some_iff.1 h.web).1⟩

theorem belowStep {B : Nat} {a W b : World} (h : Below B a W) (k : Below W.heap.size W b) (hB : B ≤ a.heap.size := by exact Nat.le_refl _) : Below B a b := h.trans (k.mono (Nat.le_trans hB h.size))
theorem undrewB {B : Nat} {w w' : World} (h : Below B w.drew w') : Below B w w' := ⟨h.os, h.tape, h.output, h.size, h.block⟩
/-- The box that was made ahead. -/
structure MidB (w : World) (B WB : Nat) : Prop where
  blk : w.heap[B]? = some (.cells #[.pointer none] 49)
  lt : WB < B
theorem MidB.made {B' WB : Nat} {W b : World} (h : Below B' (W.alloc (.cells #[.pointer none] 49)) b) (hB : B' = W.heap.size + 1) (hW : WB < W.heap.size) : MidB b W.heap.size WB :=
  ⟨(h.block W.heap.size (by omega)).trans (heap_alloc_new W _), hW⟩
theorem MidB.step {WB B : Nat} {W b : World} (h : MidB W B WB) (k : Below W.heap.size W b) : MidB b B WB := ⟨(k.block B (Array.getElem?_eq_some_iff.1 h.blk).1).trans h.blk, h.lt⟩
theorem MidB.cell {w : World} {B WB : Nat} (h : MidB w B WB) : w.cell? ⟨B, 0, none⟩ = some (.pointer none) ∧ w.frozen? ⟨B, 0, none⟩ = false := by
  have := h.blk
  exact ⟨by simp [World.cell?, this], by simp [World.frozen?, this]⟩
theorem IsWk.under {w w' : World} {b bt bm n : Nat} {ow : Option Addr} {tried : List Nat} {met : List Bool} (h : IsWk w b bt bm n ow tried met) (hT : Below w.heap.size w w') : IsWk w' b bt bm n ow tried met :=
  h.turn (Turn.of_below hT) (by have := h.lts; omega) (by have := h.lts; omega) (by have := h.lts; omega)
/-- Behind some of the walks back. -/
def BkI (w1 : World) (WB b bt bm bb n cn : Nat) (on oi ou : Option Addr) (I U : List (List Nat)) (M : List Nat) (BC base : Nat) (pre : List (Nat × Nat)) (W : World) : Prop :=
  ∃ (S C : List Nat) (oc : Option Addr) (nc cc : Nat) (tried : List Nat) (met : List Bool), CyM w1 W WB b bt bm bb n cn on oi ou tried met ∧ BtwI U n S met tried ∧ BackI I U n M ((pre.map (·.2)).reverse) S C ∧
    W.heap[BC]? = some (.cells #[.slice oc nc cc] 42) ∧ C.length = nc ∧ W.ownsRow base 3 1 (.slice oc nc cc) nc (iC C) ∧ base ≤ W.heap.size
theorem not_cells {W : World} {row : Option Nat} {B : Nat} (hr : ∀ r, row = some r → B ≤ r ∧ ∃ o : Obj, W.heap[r]? = some o ∧ o.isCells = false) {k : Nat} {c : Array Value} {t : TypeId} {f : Nat × Nat} (hk : W.heap[k]? = some (.cells c t f)) : ¬ (some k = row) := fun e => by
  obtain ⟨_, o, ho, hc⟩ := hr k e.symm
  rw [hk] at ho
  cases ho
  cases hc
theorem IsWk.blks {w : World} {b bt bm n : Nat} {ow : Option Addr} {tried : List Nat} {met : List Bool} (h : IsWk w b bt bm n ow tried met) : (∃ c t f, w.heap[bt]? = some (.cells c t f)) ∧ (∃ c t f, w.heap[bm]? = some (.cells c t f)) := by
  have h1 := h.tr.2
  have h2 := h.me.2
  rcases h1 with ⟨e, _⟩ | ⟨g, _, _, e, _, hg, _⟩
  · cases e
  rcases h2 with ⟨e', _⟩ | ⟨g', _, _, e', _, hg', _⟩
  · cases e'
  obtain rfl : bt = g := by simp at e; exact e.1
  obtain rfl : bm = g' := by simp at e'; exact e'.1
  exact ⟨⟨_, _, _, hg⟩, ⟨_, _, _, hg'⟩⟩
theorem BkI.own (w1 : World) (WB b bt bm bb n cn : Nat) (on oi ou : Option Addr) (I U : List (List Nat)) (M : List Nat) (BC base D : Nat) (hD : w1.heap.size ≤ D) : OwnFrom D (BkI w1 WB b bt bm bb n cn on oi ou I U M BC base) := by
  rintro pre W W' row ⟨S, C, oc, nc, cc, tried, met, h1, h2, h3, h4, h5, h6, h7⟩ hg hr
  have hT := Turn.of_grown hg
  obtain ⟨⟨_, _, _, hb⟩, ⟨_, _, _, hm⟩⟩ := h1.wk.blks
  refine ⟨S, C, oc, nc, cc, tried, met, h1.turn hT (not_cells hr h1.web) (not_cells hr h1.wk.box) (not_cells hr hb) (not_cells hr hm) (not_cells hr h1.box) (fun k hk => by have := (hr k hk.symm).1; omega), h2, h3,
    (hT.block BC (Array.getElem?_eq_some_iff.1 h4).1 (not_cells hr h4)).trans h4, h5, hT.row h6 fun k hk => ?_, Nat.le_trans h7 hT.size⟩
  rcases h6.2 with ⟨e, _⟩ | ⟨g, _, _, e, _, hgg, _⟩
  · rw [e] at hk; cases hk
  · rw [e] at hk
    simp only [Value.ownBlock, Option.some.injEq] at hk
    subst hk
    exact not_cells hr hgg
abbrev CyR (w1 wx : World) (WB n cn : Nat) (on oi ou : Option Addr) (v4 v5 : Value) : Prop := ∃ b1 t1 m1 b2 t2 m2 bb : Nat, v4 = .pointer (some ⟨b1, 0, none⟩) ∧ v5 = .pointer (some ⟨bb, 0, none⟩) ∧ Hid (CyM w1 wx WB b2 t2 m2 bb n cn on oi ou (List.replicate n 0) (List.replicate n false)) ∧ Hid (IsWk wx b1 t1 m1 n oi (List.replicate n 0) (List.replicate n false)) ∧
    Hid (WB < b1 ∧ WB < t1 ∧ WB < m1 ∧ (t1 ≠ b2 ∧ t1 ≠ t2 ∧ t1 ≠ m2 ∧ t1 ≠ bb) ∧ (m1 ≠ b2 ∧ m1 ≠ t2 ∧ m1 ≠ m2 ∧ m1 ≠ bb))
theorem cy_meet {w1 w2 wa wf : World} {WB b1 t1 m1 b2 t2 m2 bb n cn : Nat} {on oi ou : Option Addr} (HX2 : w2.heap[WB]? = some (.cells #[.slice on n cn, .slice oi n n, .slice ou n n] 40)) (HB2 : Below WB w1 w2) (hWB : w1.heap.size = WB) (hS2 : w2.heap.size = WB + 1)
    (KB : Below w2.heap.size w2 wa) (HK1 : IsWk wa b1 t1 m1 n oi (List.replicate n 0) (List.replicate n false)) (HK2 : IsWk wa b2 t2 m2 n ou (List.replicate n 0) (List.replicate n false)) (T : Turn (fun k => k = bb) wa wf) (box : wf.heap[bb]? = some (.cells #[.pointer (some ⟨b2, 0, none⟩)] 49))
    (hb : WB < bb) (h1 : WB < b1 ∧ WB < t1 ∧ WB < m1) (h2 : WB < b2 ∧ WB < t2 ∧ WB < m2) (h3 : b1 ≠ bb ∧ t1 ≠ bb ∧ m1 ≠ bb) (h4 : b2 ≠ bb ∧ t2 ≠ bb ∧ m2 ≠ bb) (h5 : (t1 < b2 ∧ t1 < t2 ∧ t1 < m2) ∧ (m1 < b2 ∧ m1 < t2 ∧ m1 < m2)) :
    CyR w1 wf WB n cn on oi ou (.pointer (some ⟨b1, 0, none⟩)) (.pointer (some ⟨bb, 0, none⟩)) := by
  refine ⟨b1, t1, m1, b2, t2, m2, bb, rfl, rfl, ⟨?_, HK2.turn T h4.1 h4.2.1 h4.2.2, box, ?_, ⟨by omega, h2.1, h2.2.1, h2.2.2, hb⟩, ⟨fun e => h4.2.1 e.symm, fun e => h4.2.2 e.symm⟩⟩, HK1.turn T h3.1 h3.2.1 h3.2.2,
    ⟨h1.1, h1.2.1, h1.2.2, ⟨by omega, by omega, by omega, by omega⟩, by omega, by omega, by omega, by omega⟩⟩
  · have e1 := (KB.block WB (by omega)).trans HX2
    exact (T.block WB (Array.getElem?_eq_some_iff.1 e1).1 (by omega)).trans e1
  · have e2 : Below w1.heap.size w1 wa := by rw [hWB]; exact HB2.trans (KB.mono (by omega))
    exact e2.trans (T.below e2.size fun k hk => by subst hk; omega)
theorem MidB.put {w : World} {B WB : Nat} (h : MidB w B WB) (v : Value) : Turn (fun k => k = B) w (w.setCell ⟨B, 0, none⟩ v) ∧ (w.setCell ⟨B, 0, none⟩ v).heap[B]? = some (.cells #[v] 49) := by
  refine ⟨Turn.setCell (S := fun k => k = B) (p := ⟨B, 0, none⟩) (Turn.refl _ w) (fun _ => rfl) _, ?_⟩
  have := heap_setCell_same w B 0 _ _ v h.blk
  rw [this]
  rfl

theorem keepsFrom_turn {S : Nat → Prop} {W Wf : World} {D : Nat} (hT : Turn S W Wf) (h : ∀ k, S k → D ≤ k → ∃ c t f, W.heap[k]? = some (.cells c t f)) : KeepsFrom D W Wf := by
  refine ⟨hT.size, fun k o hk ho hc => (hT.block k (Array.getElem?_eq_some_iff.1 ho).1 fun hs => ?_).trans ho⟩
  obtain ⟨c, t, f, e⟩ := h k hs hk
  rw [e] at ho
  cases ho
  cases hc
theorem bk_end {w1 W Wf : World} {WB b2 t2 m2 bb n cn m cap BC D nc cc nc' cc' : Nat} {on oi ou o oc oc' : Option Addr} {I U : List (List Nat)} {M C S' C' : List Nat} {tried tried' : List Nat} {met met' : List Bool} {pre : List (Nat × Nat)} {x : Nat × Nat}
    (hc : CyM w1 W WB b2 t2 m2 bb n cn on oi ou tried met) (hcr : W.ownsRow (BC + 1 + 1) 3 1 (.slice oc nc cc) nc (iC C)) (hsz : BC + 1 + 1 ≤ W.heap.size) (hlt : WB < BC ∧ b2 < BC ∧ t2 < BC ∧ m2 < BC ∧ bb < BC) (hol : ∀ g, (Value.slice o m cap).ownBlock = some g → g < BC ∧ g ≠ t2 ∧ g ≠ m2) (hD : D = BC + 1 + 1)
    (hT : Turn (fun k => k = t2 ∨ k = m2 ∨ k = BC ∨ (Value.slice oc nc cc).ownBlock = some k) W Wf) (h1 : IsWk Wf b2 t2 m2 n ou tried' met') (h2 : BtwI U n S' met' tried') (h3 : BackI I U n M (x.2 :: (pre.map (·.2)).reverse) S' C')
    (h4 : Wf.heap[BC]? = some (.cells #[.slice oc' nc' cc'] 42)) (h5 : C'.length = nc') (h6 : Wf.ownsRow (BC + 1 + 1) 3 1 (.slice oc' nc' cc') nc' (iC C')) :
    KeepsFrom D W Wf ∧ (IsBk W (BC + 1) o m cap M → IsBk Wf (BC + 1) o m cap M) ∧ BkI w1 WB b2 t2 m2 bb n cn on oi ou I U M BC (BC + 1 + 1) (pre ++ [x]) Wf := by
  have hrow : ∀ k, (Value.slice oc nc cc).ownBlock = some k → BC + 1 + 1 ≤ k := fun k hk => (hcr.lt k hk).1
  have hnS : ∀ k, k < BC → k ≠ t2 → k ≠ m2 → ¬ (k = t2 ∨ k = m2 ∨ k = BC ∨ (Value.slice oc nc cc).ownBlock = some k) := fun k h0 ha hb h => by
    rcases h with h | h | h | h
    · exact ha h
    · exact hb h
    · omega
    · have := hrow k h; omega
  have hge := hc.ge
  have hne := hc.ne
  refine ⟨keepsFrom_turn hT fun k hk hDk => ?_, fun h => h.turn hT ?_ fun g e => ?_, S', C', oc', nc', cc', tried', met', ⟨(hT.block WB (Array.getElem?_eq_some_iff.1 hc.web).1 (hnS _ hlt.1 (by omega) (by omega))).trans hc.web, h1,
    (hT.block bb (Array.getElem?_eq_some_iff.1 hc.box).1 (hnS _ hlt.2.2.2.2 hne.1 hne.2)).trans hc.box, hc.below.trans (hT.below hc.below.size fun k hk => ?_), hge, hne⟩, h2, ?_, h4, h5, h6, Nat.le_trans hsz hT.size⟩
  · rcases hk with h | h | h | h
    · omega
    · omega
    · omega
    · rcases hcr.2 with ⟨e, _⟩ | ⟨g, _, _, e, _, hgg, _⟩
      · rw [e] at h; cases h
      · rw [e] at h
        simp only [Value.ownBlock, Option.some.injEq] at h
        subst h
        exact ⟨_, _, _, hgg⟩
  · intro h
    rcases h with h | h | h | h
    · omega
    · omega
    · omega
    · have := hrow _ h; omega
  · have h9 := hol g (by rw [e]; rfl)
    exact hnS g h9.1 h9.2.1 h9.2.2
  · rcases hk with h | h | h | h
    · omega
    · omega
    · omega
    · have := hrow k h; omega
  · rw [List.map_append, List.reverse_append]
    exact h3

/-- .. where the row is stored anew. -/
theorem bk_put {w1 W W3 : World} {WB b2 t2 m2 bb n cn m cap BC D nc cc nc' cc' : Nat} {on oi ou o oc oc' : Option Addr} {I U : List (List Nat)} {M C S' C' : List Nat} {tried tried' : List Nat} {met met' : List Bool} {pre : List (Nat × Nat)} {x : Nat × Nat}
    (hc : CyM w1 W WB b2 t2 m2 bb n cn on oi ou tried met) (hcr : W.ownsRow (BC + 1 + 1) 3 1 (.slice oc nc cc) nc (iC C)) (hsz : BC + 1 + 1 ≤ W.heap.size) (hlt : WB < BC ∧ b2 < BC ∧ t2 < BC ∧ m2 < BC ∧ bb < BC) (hol : ∀ g, (Value.slice o m cap).ownBlock = some g → g < BC ∧ g ≠ t2 ∧ g ≠ m2) (hD : D = BC + 1 + 1)
    (hcb : W.heap[BC]? = some (.cells #[.slice oc nc cc] 42)) (hT : Turn (fun k => k = t2 ∨ k = m2 ∨ (Value.slice oc nc cc).ownBlock = some k) W W3) (h1 : IsWk W3 b2 t2 m2 n ou tried' met') (h2 : BtwI U n S' met' tried') (h3 : BackI I U n M (x.2 :: (pre.map (·.2)).reverse) S' C')
    (h5 : C'.length = nc') (h6 : W3.ownsRow (BC + 1 + 1) 3 1 (.slice oc' nc' cc') nc' (iC C')) :
    KeepsFrom D W (W3.setCell ⟨BC, 0, none⟩ (.slice oc' nc' cc')) ∧ (IsBk W (BC + 1) o m cap M → IsBk (W3.setCell ⟨BC, 0, none⟩ (.slice oc' nc' cc')) (BC + 1) o m cap M) ∧ BkI w1 WB b2 t2 m2 bb n cn on oi ou I U M BC (BC + 1 + 1) (pre ++ [x]) (W3.setCell ⟨BC, 0, none⟩ (.slice oc' nc' cc')) := by
  have hB3 : W3.heap[BC]? = some (.cells #[.slice oc nc cc] 42) := (hT.block BC (by omega) fun h => by
    rcases h with h | h | h
    · omega
    · omega
    · have := (hcr.lt _ h).1; omega).trans hcb
  have hS : Turn (fun k => k = BC) W3 (W3.setCell ⟨BC, 0, none⟩ (.slice oc' nc' cc')) := Turn.setCell (S := fun k => k = BC) (p := ⟨BC, 0, none⟩) (Turn.refl _ W3) (fun _ => rfl) _
  refine bk_end hc hcr hsz hlt hol hD ((hT.mono fun k _ hk => ?_).trans (hS.mono fun k _ hk => .inr (.inr (.inl hk)))) (h1.turn hS (by omega) (by omega) (by omega)) h2 h3 ?_ h5 (hS.row h6 fun k hk e => ?_)
  · rcases hk with h | h | h
    · exact .inl h
    · exact .inr (.inl h)
    · exact .inr (.inr (.inr h))
  · have := heap_setCell_same W3 BC 0 _ _ (.slice oc' nc' cc') hB3
    rw [this]
    rfl
  · have := (h6.lt k hk).1
    omega

attribute [local go_sem] Oper.semAt_some

set_option maxRecDepth 100000 in
set_option maxHeartbeats 8000000 in
set_option linter.unusedSimpArgs false in
theorem cyclicP_any (xs : List ND) (o : Option Addr) (c : Nat) (w : World) (h : AtD w o xs) (hf : Few xs) :
    Calls Try.prog 15 #[.slice o xs.length c] w fun e w' => ∃ (Y : List ByteArray) (o1 : Option Addr) (n1 c1 : Nat), e = .returned (.slice o1 n1 c1) ∧ Y.length = n1 ∧ n1 ≤ 1000 ∧ CycIs (xs.map toNd) (nms Y) ∧ AtS w' o1 Y ∧ Below w.heap.size w w' := by
  have HL := Lib.hid (laidP_any xs o c w h hf)
  clear h hf
  refine (callsIn_wide (n := 6)).1 ?_
  refine callsIn_of_wp_marks Try.func15 rfl trivial ?_ rfl
  simp only [Try.ntmps15, List.size_toArray, List.length_cons, List.length_nil, Nat.reduceAdd, Nat.reduceSub, Array.replicate_succ, Array.replicate_zero, List.push_toArray, List.append_toArray, List.nil_append, List.cons_append]
  refine wpIn_wide.2 ?_
  go_wp2_with fail
  refine HL.out.mono ?_
  rintro e w1 ⟨N, I, U, on, oi, ou, n, cn, rfl, hN, hn, hW, hsz, hfi, hfu, hAN, hAI, hAU, hB⟩
  have HNL := Lib.hid hN
  have HN := Lib.hid hn
  have HW := Lib.hid hW
  have HSZ := Lib.hid hsz
  have HFI := Lib.hid hfi
  have HFU := Lib.hid hfu
  have HAN := Lib.hid hAN
  have HAI := Lib.hid hAI
  have HAU := Lib.hid hAU
  have HB := Lib.hid hB
  clear hN hn hW hsz hfi hfu hAN hAI hAU hB HL
  go_upto_region 2 with fail
  have HX2 : Hid ((w1.alloc (.cells #[.slice on n cn, .slice oi n n, .slice ou n n] 40)).heap[w1.heap.size]? = some (.cells #[.slice on n cn, .slice oi n n, .slice ou n n] 40)) := heap_alloc_new w1 _
  have HB2 : Hid (Below w1.heap.size w1 (w1.alloc (.cells #[.slice on n cn, .slice oi n n, .slice ou n n] 40))) := (Below.refl _ w1).alloc (Nat.le_refl _) _
  have HS2 : Hid ((w1.alloc (.cells #[.slice on n cn, .slice oi n n, .slice ou n n] 40)).heap.size = w1.heap.size + 1) := World.size_alloc ..
  generalize w1.alloc (.cells #[.slice on n cn, .slice oi n n, .slice ou n n] 40) = w2 at *
  generalize hWB : w1.heap.size = WB at *
  have HWB := Lib.hid hWB
  clear hWB
  go_cut [4, 5] from 17 to 22 (fun v4 v5 wx => CyR w1 wx WB n cn on oi ou v4 v5)
  case first =>
    obtain ⟨x0, x1, x2⟩ := cells3 HX2.out
    have HC1 := Lib.hid (fun W => walkerP_any oi n W HN.out)
    have HC2 := Lib.hid (fun W => walkerP_any ou n W HN.out)
    go_region_held3 (fun w' => w'.cell? ⟨WB, 1, none⟩ = some (.slice oi n n) ∧ w'.cell? ⟨WB, 2, none⟩ = some (.slice ou n n))
      (refine ⟨?_, ?_⟩ <;> (first | with_reducible assumption | (simp [q1, q2, nn, World.cell?_alloc_some, World.cell?_setCell_far]; done) | (simp [q1, q2, nx, World.cell?_setCell_far]; done) | (simp [x1, x2, World.cell?_alloc_some]; done) | (trace_state; fail)))
      ((go_at_call 30;
        (first
        | (with_reducible refine (HC1.out _).mono ?_; rintro e wa ⟨b1, t1, m1, rfl, hWk, g1, g2, g3, hB⟩; have HG1 := Lib.hid (show _ ∧ _ ∧ _ ∧ _ ∧ _ from ⟨g1, g2, g3, hWk.lts, hB.size⟩);
           (first | (have HKN := Lib.hid (HK2.out.under (belowStep (by first | exact (Below.refl _ _) | exact (Below.refl _ _).drew | exact ((Below.refl _ _).alloc (Nat.le_refl _) _) | exact ((Below.refl _ _).alloc (Nat.le_refl _) _).drew) hB)); clear HK2; have HK2 := HKN; clear HKN) | skip); have HK1 := Lib.hid hWk; clear hWk g1 g2 g3)
        | (with_reducible refine (HC2.out _).mono ?_; rintro e wa ⟨b2, t2, m2, rfl, hWk, g1, g2, g3, hB⟩; have HG2 := Lib.hid (show _ ∧ _ ∧ _ ∧ _ ∧ _ from ⟨g1, g2, g3, hWk.lts, hB.size⟩);
           (first | (have HKN := Lib.hid (HK1.out.under (belowStep (by first | exact (Below.refl _ _) | exact (Below.refl _ _).drew | exact ((Below.refl _ _).alloc (Nat.le_refl _) _) | exact ((Below.refl _ _).alloc (Nat.le_refl _) _).drew) hB)); clear HK1; have HK1 := HKN; clear HKN) | skip); have HK2 := Lib.hid hWk; clear hWk g1 g2 g3));
        (first
        | (have X := Lib.hid (MidB.made (WB := WB) (undrewB hB) (World.size_alloc ..) (by have := HS2.out; (try have := KB.out.size); omega)); have xc := X.out.cell.1; have xf := X.out.cell.2; have nx := Nat.ne_of_gt X.out.lt)
        | (have X := Lib.hid (MidB.made (WB := WB) hB (World.size_alloc ..) (by have := HS2.out; (try have := KB.out.size); omega)); have xc := X.out.cell.1; have xf := X.out.cell.2; have nx := Nat.ne_of_gt X.out.lt)
        | (have X2 := Lib.hid (X.out.step (undrewB hB)); clear X xc xf; have X := X2; clear X2; have xc := X.out.cell.1; have xf := X.out.cell.2)
        | (have X2 := Lib.hid (X.out.step hB); clear X xc xf; have X := X2; clear X2; have xc := X.out.cell.1; have xf := X.out.cell.2)
        | skip);
        have KC : Hid (Below w2.heap.size w2 wa) := belowStep (by first | exact KB.out.drew | exact KB.out | exact KB.out.alloc KB.out.size _ | exact (Below.refl _ w2).drew | exact ((Below.refl _ w2).alloc (Nat.le_refl _) _).drew | exact (KB.out.alloc KB.out.size _).drew) hB;
        (try clear KB); have KB := KC; clear KC hB;
        (try clear q1 q2 nn);
        have nn : ¬ wa.heap.size = WB := (by have := KB.out.size; have := HS2.out; omega);
        have q1 : wa.cell? ⟨WB, 1, none⟩ = some (.slice oi n n) := (KB.out.cell (World.block_lt_of_cell? _ _ x1)).trans x1;
        have q2 : wa.cell? ⟨WB, 2, none⟩ = some (.slice ou n n) := (KB.out.cell (World.block_lt_of_cell? _ _ x2)).trans x2))
    all_goals go_wp2_with fail
    all_goals go_meet
    all_goals (have s1 : w2.drew.heap.size = w2.heap.size := rfl; have s2 : (w2.alloc (.cells #[.pointer none] 49)).drew.heap.size = w2.heap.size + 1 := World.size_alloc ..; have s3 := KB.out.size; have s4 := HS2.out; have s5 := HG1.out; have s6 := HG2.out; try simp only [World.size_alloc, s1, s2] at s5 s6)
    · exact cy_meet HX2.out HB2.out HWB.out HS2.out KB.out HK1.out HK2.out ((Turn.refl _ _).alloc _) (heap_alloc_new _ _) (by omega) (by omega) (by omega) (by omega) (by omega) (by omega)
    · exact cy_meet HX2.out HB2.out HWB.out HS2.out KB.out HK1.out HK2.out (X.out.put _).1 (X.out.put _).2 X.out.lt (by omega) (by omega) (by omega) (by omega) (by omega)
    · exact cy_meet HX2.out HB2.out HWB.out HS2.out KB.out HK1.out HK2.out (X.out.put _).1 (X.out.put _).2 X.out.lt (by omega) (by omega) (by omega) (by omega) (by omega)
  case rest =>
    obtain ⟨b1, t1, m1, b2, t2, m2, bb, rfl, rfl, HC, HK, HD⟩ := hcut
    have HLT := Lib.hid HC.out.lts
    have HLK := Lib.hid HK.out.lts
    generalize hSZ : wc.heap.size = SZ at *
    have HSC : Hid (SZ ≤ wc.heap.size) := Nat.le_of_eq hSZ.symm
    have HBI := Lib.hid (BtwI.start_ (ways := I) (n := n) (by rw [HW.out.li]; exact HNL.out ▸ (by simp [nms])) (fun u v h => by have := HW.out.rng u v h; rw [← HNL.out]; simpa [nms] using this))
    obtain ⟨x0, x1, x2⟩ := cells3 HC.out.web
    clear hSZ HX2 HB2 HS2
    go_wp2_with fail
    clear x0 x1 x2
    go_loopw [26, 6] (fun v u wr => ∃ (j : Nat) (M : List Nat) (o : Option Addr) (m cap : Nat) (tried : List Nat) (met : List Bool), v = .int .i64 (j : Int) ∧ u = .slice o m cap ∧ Hid (j ≤ n) ∧ Hid (M.length = m) ∧ Hid (BtwI I n M met tried) ∧ Hid (∀ i, i < j → i ∈ M) ∧
      Hid (IsWk wr b1 t1 m1 n oi tried met) ∧ Hid (CyM w1 wr WB b2 t2 m2 bb n cn on oi ou (List.replicate n 0) (List.replicate n false)) ∧ Hid (wr.ownsRow SZ 3 1 (.slice o m cap) m (iC M)) ∧ Hid (SZ ≤ wr.heap.size)) (fun v _ _ => n - (RowKit.intOf v).toNat)
    case atStart => exact ⟨0, [], none, 0, 0, _, _, rfl, rfl, Nat.zero_le _, rfl, HBI, (by show ∀ i, _; intro i hi; omega), HK, HC, World.ownsRow_nil _ _ _ _, HSC⟩
    case round =>
      clear HK HC HSC HBI
      obtain ⟨j, M, o, m, cap, tried, met, rfl, rfl, HJ, HML, HBT, HIN, HK, HC, HR, HS⟩ := hrel
      by_cases hj : j < n
      · have hj' : ((j : Int) < (n : Int)) := by omega
        have hwj := IntWalk.i64_in ((j : Int) + 1) ⟨by omega, by have := HN.out; omega⟩
        have HJN := Lib.hid hj
        have HF := Lib.hid (fromP_any I b1 t1 m1 n j oi tried met M w1 wr HAI.out HC.out.below (by have := HD.out; have := HWB.out; omega) (by have := HD.out; have := HWB.out; omega) HK.out HBT.out hj HN.out (fun i => by have := HFI.out i; omega))
        clear hj
        go_wp2_with fail
        refine HF.out.mono ?_
        rintro e w3 (⟨hjM, rfl, rfl⟩ | ⟨hjM, G, o3, g, c3, met3, tried3, rfl, hGL, hB3, hjG, _, hK3, hRG, hT3⟩)
        · have HJM := Lib.hid hjM
          clear hjM HF
          go_wp2_with (refine wpList_append_noints rfl _ _ rfl SZ (.slice o m cap) m (iC M) rfl HR.out rfl ?_)
          case roundEnd => exact ⟨⟨j + 1, M, o, m, cap, tried, met, by push_cast; rfl, rfl, by have := HJN.out; show _ ≤ _; omega, HML, HBT, fun i hi => (by
            by_cases h : i = j
            · subst h; exact HJM.out
            · exact HIN.out i (by omega)), HK, HC, HR, HS⟩, by have := HJN.out; simp [RowKit.intOf]; omega⟩
        · have HGL := Lib.hid hGL
          have HB3 := Lib.hid hB3
          have HJG := Lib.hid hjG
          have HK3 := Lib.hid hK3
          have HRG := Lib.hid hRG
          have HG0 : Hid (0 < g) := by have := List.length_pos_of_mem hjG; show _ < _; omega
          have HR3 := Lib.hid (hT3.row HR.out fun k hk => by have := (HR.out.lt k hk).1; have := HLK.out; omega)
          have HC3 := Lib.hid (HC.out.turn hT3 (by have := HD.out; omega) (by have := HD.out; omega) (by have := HD.out; omega) (by have := HD.out; omega) (by have := HD.out; omega) (fun k hk => by have := HD.out; have := HWB.out; omega))
          have HS3 := Lib.hid (Nat.le_trans HS.out hT3.size)
          have HMG : Hid (m + g ≤ n) := by
            have := few_below hB3.nd hB3.mlt
            rw [List.length_append, HML.out, hGL] at this
            exact this
          clear hjM hGL hB3 hjG hK3 hRG hT3 HK HC HR HS HF
          go_wp2_with (refine wpList_append_ints rfl _ _ rfl SZ (.slice o m cap) m (iC M) rfl HR3.out o3 g c3 _ G rfl HRG.out HGL.out HG0.out HS3.out (by have := HMG.out; have := HN.out; omega) ?_; intro o5 c5 w5 hrow hT5 hwh; have HRW5 := Lib.hid hrow; have HT5 := Lib.hid hT5; clear hrow hT5 hwh)
          case roundEnd =>
            have hin : ∀ k, (Value.slice o m cap).ownBlock = some k → SZ ≤ k := fun k hk => (HR3.out.lt k hk).1
            refine ⟨⟨j + 1, M ++ G, o5, m + g, c5, tried3, met3, by push_cast; rfl, rfl, by have := HJN.out; show _ ≤ _; omega, by show _ = _; rw [List.length_append, HML.out, HGL.out], HB3, fun i hi => ?_,
              HK3.out.turn HT5.out (fun h => by have := hin _ h; have := HLK.out; omega) (fun h => by have := hin _ h; have := HLK.out; omega) (fun h => by have := hin _ h; have := HLK.out; omega),
              HC3.out.turn HT5.out (fun h => by have := hin _ h; have := HLT.out; omega) (fun h => by have := hin _ h; have := HLT.out; omega) (fun h => by have := hin _ h; have := HLT.out; omega) (fun h => by have := hin _ h; have := HLT.out; omega) (fun h => by have := hin _ h; have := HLT.out; omega) (fun k h => by have := hin _ h; have := HLT.out; have := HWB.out; omega),
              by show World.ownsRow _ _ _ _ _ _ _; rw [iC_app]; exact HRW5.out, Nat.le_trans HS3.out HT5.out.size⟩, by have := HJN.out; simp [RowKit.intOf]; omega⟩
            by_cases h : i = j
            · subst h; exact List.mem_append_right _ HJG.out
            · exact List.mem_append_left _ (HIN.out i (by omega))
      · have hj' : ¬ ((j : Int) < (n : Int)) := by omega
        have hjn := HJ.out
        obtain rfl : j = n := by omega
        clear hj hjn
        go_wp2_with fail
        refine (backwardP_any o m cap _).mono ?_
        rintro e w4 ⟨rfl, rfl⟩
        have hz1 : (wr.alloc (.cells #[.slice none 0 0] 42)).heap.size = wr.heap.size + 1 := World.size_alloc ..
        have hz2 : ((wr.alloc (.cells #[.slice none 0 0] 42)).alloc (.cells #[.slice o m cap] 42)).heap.size = wr.heap.size + 1 + 1 := by rw [World.size_alloc, hz1]
        have hT4 : Turn (fun _ => False) wr ((wr.alloc (.cells #[.slice none 0 0] 42)).alloc (.cells #[.slice o m cap] 42)) := ((Turn.refl _ wr).alloc _).alloc _
        have hbx : ((wr.alloc (.cells #[.slice none 0 0] 42)).alloc (.cells #[.slice o m cap] 42)).heap[wr.heap.size + 1]? = some (.cells #[.slice o m cap] 42) := by
          have := heap_alloc_new (wr.alloc (.cells #[.slice none 0 0] 42)) (.cells #[.slice o m cap] 42)
          rwa [hz1] at this
        have hbc : ((wr.alloc (.cells #[.slice none 0 0] 42)).alloc (.cells #[.slice o m cap] 42)).heap[wr.heap.size]? = some (.cells #[.slice none 0 0] 42) :=
          (Below.heap_alloc _ _ _ (by omega)).trans (heap_alloc_new wr _)
        have HC4 := Lib.hid (HC.out.turn hT4 (fun h => h) (fun h => h) (fun h => h) (fun h => h) (fun h => h) (fun _ h => h.elim))
        have HR4 := Lib.hid (hT4.row HR.out fun _ _ h => h)
        rw [hz1]
        have HOL : Hid (∀ g, (Value.slice o m cap).ownBlock = some g → SZ ≤ g ∧ g < wr.heap.size) := fun g hg => HR.out.lt g hg
        generalize ((wr.alloc (.cells #[.slice none 0 0] 42)).alloc (.cells #[.slice o m cap] 42)) = w4 at *
        generalize hBC : wr.heap.size = BC at *
        have HBX := Lib.hid (show IsBk w4 (BC + 1) o m cap M from ⟨hbx, own_ints HR4.out HML.out⟩)
        have HBC := Lib.hid hbc
        have HZ4 := Lib.hid hz2
        have HSB : Hid (SZ ≤ BC) := HS.out
        clear hz1 hz2 hT4 hbx hbc hBC HR HC HK HS HJ
        go_wp2_with fail
        have HI0 := Lib.hid (show BkI w1 WB b2 t2 m2 bb j cn on oi ou I U M BC (BC + 1 + 1) [] w4 from ⟨[], [], none, 0, 0, _, _, HC4.out, BtwI.start_ (by rw [HW.out.lu]; exact HNL.out ▸ (by simp [nms])) (fun u v h => by have := HW.out.rngU (u := v) (v := u) h; rw [← HNL.out]; simpa [nms] using this), BackI.start _ _, HBC.out, rfl, World.ownsRow_nil _ _ _ _, Nat.le_of_eq HZ4.out.symm⟩)
        refine wpIn_wide.1 (range_back (a1 := ?a1) HML.out ?hm HBX.out rfl rfl (BkI w1 WB b2 t2 m2 bb j cn on oi ou I U M BC (BC + 1 + 1)) (BkI.own _ _ _ _ _ _ _ _ _ _ _ _ _ _ _ _ _ HC4.out.below.size) HI0.out ?assign ?body ?done)
        case hm =>
          have := few_below HBT.out.nd HBT.out.mlt
          have := HML.out
          have := HN.out
          omega
        case assign =>
          intro l x W K hK
          have HK := Lib.hid hK
          clear hK
          unfold encB
          gi_wp2
          exact HK.out
        case body =>
          intro l pre x W hi hpre
          obtain ⟨S, C, oc, nc, cc, tried2, met2, hc, hbt, hbk, hcb, hcl, hcr, hsz⟩ := hi
          obtain ⟨A, hA⟩ := bks_split HML.out hpre
          obtain ⟨x1, x2⟩ := x
          simp only at hA
          have hxm : x2 ∈ M := by rw [hA]; simp
          have hxj := HBT.out.mlt x2 hxm
          have HC := Lib.hid hc
          have HBB := Lib.hid hbt
          have HBK := Lib.hid hbk
          have HCB := Lib.hid hcb
          have HCL := Lib.hid hcl
          have HCR := Lib.hid hcr
          have HSW := Lib.hid hsz
          have HA := Lib.hid hA
          have HXJ := Lib.hid hxj
          obtain ⟨gi, oi2, ci2, hoi, hci, hai⟩ := HAI.out x2 _ (ways_get (by rw [HW.out.li, show (nms N).length = N.length by simp [nms], HNL.out]; exact hxj))
          subst hoi
          have HCI := Lib.hid hci
          have HAI2 := Lib.hid hai
          have cbb : W.cell? ⟨bb, 0, none⟩ = some (.pointer (some ⟨b2, 0, none⟩)) := by simp [World.cell?, hc.box]
          have HF := Lib.hid (fromP_any U b2 t2 m2 j x2 ou tried2 met2 S w1 W HAU.out hc.below (by have := hc.ge; omega) (by have := hc.ge; omega) hc.wk hbt hxj HN.out HFU.out)
          have HCO := Lib.hid (fun (W' : World) (hb : Below w1.heap.size w1 W') => containsI_any (waysAt I x2) oi2 ci2 x2 W' (hai.below hb) (by have := HFI.out x2; omega))
          have HNUM : Hid (WB < BC ∧ b2 < BC ∧ t2 < BC ∧ m2 < BC ∧ bb < BC) := by have := HLT.out; have := HSB.out; refine ⟨?_, ?_, ?_, ?_, ?_⟩ <;> omega
          have HOL2 : Hid (∀ g, (Value.slice o m cap).ownBlock = some g → g < BC ∧ g ≠ t2 ∧ g ≠ m2) := fun g hg => by have := HOL.out g hg; have := HLT.out; omega
          have HD4 : Hid (w4.heap.size = BC + 1 + 1) := HZ4.out
          have hxj' : ((x2 : Int) < (j : Int)) := by omega
          have hx0 : (0 : Int) ≤ (x2 : Int) := by omega
          clear hc hbt hbk hcb hcl hcr hsz hA hxm hxj hci hai hpre HI0 HBX HBC HZ4 HC4 HR4
          gi_wp2_with fail
          refine ⟨trivial, ?_⟩
          refine (CallsIn.inRound l (callsIn_wide.2 HF.out)).mono ?_
          rintro e w5 (⟨hxS, rfl, rfl⟩ | ⟨hxS, G, o3, g, c3, met3, tried3, rfl, hGL, hB3, hxG, hAv, hK3, hRG, hT3⟩)
          · have HXS := Lib.hid hxS
            clear hxS HF cbb
            obtain ⟨y0, y1, y2⟩ := cells3 HC.out.web
            have cq := (HC.out.below.cell (World.block_lt_of_cell? _ _ HCI.out)).trans HCI.out
            have c8 : w5.cell? ⟨BC, 0, none⟩ = some (.slice oc nc cc) := by simp [World.cell?, HCB.out]
            have f8 : w5.frozen? ⟨BC, 0, none⟩ = false := by simp [World.frozen?, HCB.out]
            gi_wp2_with fail
            refine ⟨trivial, ?_⟩
            refine (CallsIn.inRound l (callsIn_wide.2 (HCO.out _ HC.out.below))).mono ?_
            rintro e w6 ⟨rfl, rfl⟩
            clear y0 y1 y2 cq hxj' hx0
            by_cases hd : x2 ∈ waysAt I x2
            · rw [decide_eq_true hd]
              clear hd
              gi_wp2_with (gi_at_builtin; refine wpListIn_append_noints rfl _ _ rfl (BC + 1 + 1) (.slice oc nc cc) nc (iC C) rfl HCR.out rfl ?_)
              exact bk_put (x := (x1, x2)) HC.out HCR.out HSW.out HNUM.out HOL2.out HD4.out HCB.out (Turn.refl _ _) HC.out.wk HBB.out (HBK.out.skip HXS.out) HCL.out HCR.out
            · rw [decide_eq_false hd]
              clear hd
              gi_wp2_with fail
              exact bk_end (x := (x1, x2)) HC.out HCR.out HSW.out HNUM.out HOL2.out HD4.out (Turn.refl _ _) HC.out.wk HBB.out (HBK.out.skip HXS.out) HCB.out HCL.out HCR.out
          · have hgrp := BackI.group (fun u v => HW.out.back) HBK.out HA.out HBT.out.nd (fun i hi => HIN.out i hi) HBT.out.fin HBB.out.shut hB3.shut hB3.nd hB3.mlt HBB.out.rng hxS hxG hAv
            rw [hGL] at hgrp
            have HG := Lib.hid hgrp
            have hg0 : 0 < g := by have := List.length_pos_of_mem hxG; omega
            have HG0 := Lib.hid hg0
            have HNG : Hid (nc + g ≤ 1000000) := by
              have h1 := few_below hB3.nd hB3.mlt
              have h2 := few_below HBK.out.nd (n := j) fun z hz => HBB.out.mlt z ((HBK.out.is z).1 hz).1
              rw [List.length_append] at h1
              have := HCL.out
              have := HN.out
              show _ ≤ _
              omega
            have HB3 := Lib.hid hB3
            have HGL := Lib.hid hGL
            have HK3 := Lib.hid hK3
            have HRG := Lib.hid hRG
            have HT3 := Lib.hid hT3
            have HBL : Hid (Below w1.heap.size w1 w5) := HC.out.below.trans (hT3.below HC.out.below.size fun k hk => by have := HC.out.ge; omega)
            have hnum := HNUM.out
            have hne := HC.out.ne
            have hge := HC.out.ge
            have hcb5 : w5.heap[BC]? = some (.cells #[.slice oc nc cc] 42) := (hT3.block BC (by have := HSW.out; omega) (by omega)).trans HCB.out
            have HCR5 := Lib.hid (hT3.row HCR.out fun k hk => by have := (HCR.out.lt k hk).1; omega)
            obtain ⟨y0, y1, y2⟩ := cells3 ((hT3.block WB (Array.getElem?_eq_some_iff.1 HC.out.web).1 (by omega)).trans HC.out.web)
            have cq := (HBL.out.cell (World.block_lt_of_cell? _ _ HCI.out)).trans HCI.out
            have c8 : w5.cell? ⟨BC, 0, none⟩ = some (.slice oc nc cc) := by simp [World.cell?, hcb5]
            have HCB5 := Lib.hid hcb5
            have HS5 : Hid (BC + 1 + 1 ≤ w5.heap.size) := Nat.le_trans HSW.out hT3.size
            clear hxS hB3 hxG hAv hK3 hRG hT3 hgrp hGL hnum hne hge hcb5 hg0 HF cbb
            by_cases hg1 : 1 < g
            · have hg1' : ((1 : Int) < (g : Int)) := by omega
              have HGG := Lib.hid (HG.out.1 (.inl hg1))
              clear hg1 y0 y1 y2 cq
              gi_wp2_with fail
              refine ⟨trivial, ?_⟩
              gi_wp2_with (gi_at_builtin; refine wpListIn_append_ints rfl _ _ rfl (BC + 1 + 1) (.slice oc nc cc) nc (iC C) rfl HCR5.out o3 g c3 _ G rfl HRG.out HGL.out HG0.out HS5.out HNG.out ?_; intro o5 c5 w6 hrow hT5 hwh; have HRW5 := Lib.hid hrow; have HT5 := Lib.hid hT5; have hcb6 := (hT5.block BC (by have := HS5.out; omega) (fun h => by have := (HCR5.out.lt _ h).1; omega)).trans HCB5.out; have c9 : w6.cell? ⟨BC, 0, none⟩ = some (.slice oc nc cc) := (by simp [World.cell?, hcb6]); have f9 : w6.frozen? ⟨BC, 0, none⟩ = false := (by simp [World.frozen?, hcb6]); clear hrow hT5 hwh hcb6)
              exact bk_put (x := (x1, x2)) HC.out HCR.out HSW.out HNUM.out HOL2.out HD4.out HCB.out ((HT3.out.mono fun k _ hk => hk.elim .inl fun h => .inr (.inl h)).trans (HT5.out.mono fun k _ hk => .inr (.inr hk)))
                (HK3.out.turn HT5.out (fun h => by have := (HCR5.out.lt _ h).1; have := HNUM.out; omega) (fun h => by have := (HCR5.out.lt _ h).1; have := HNUM.out; omega) (fun h => by have := (HCR5.out.lt _ h).1; have := HNUM.out; omega)) HB3.out HGG.out (by rw [List.length_append, HCL.out, HGL.out]) (by rw [iC_app]; exact HRW5.out)
            · have hg1' : ¬ ((1 : Int) < (g : Int)) := by omega
              have HG1 := Lib.hid hg1
              clear hg1 c8
              gi_wp2_with fail
              refine ⟨trivial, ?_⟩
              refine (CallsIn.inRound l (callsIn_wide.2 (HCO.out _ HBL.out))).mono ?_
              rintro e w6 ⟨rfl, rfl⟩
              have c8 : w6.cell? ⟨BC, 0, none⟩ = some (.slice oc nc cc) := by simp [World.cell?, HCB5.out]
              clear y0 y1 y2 cq hxj' hx0
              by_cases hd : x2 ∈ waysAt I x2
              · have HGG := Lib.hid (HG.out.1 (.inr hd))
                rw [decide_eq_true hd]
                clear hd
                gi_wp2_with (gi_at_builtin; refine wpListIn_append_ints rfl _ _ rfl (BC + 1 + 1) (.slice oc nc cc) nc (iC C) rfl HCR5.out o3 g c3 _ G rfl HRG.out HGL.out HG0.out HS5.out HNG.out ?_; intro o5 c5 w6 hrow hT5 hwh; have HRW5 := Lib.hid hrow; have HT5 := Lib.hid hT5; have hcb6 := (hT5.block BC (by have := HS5.out; omega) (fun h => by have := (HCR5.out.lt _ h).1; omega)).trans HCB5.out; have c9 : w6.cell? ⟨BC, 0, none⟩ = some (.slice oc nc cc) := (by simp [World.cell?, hcb6]); have f9 : w6.frozen? ⟨BC, 0, none⟩ = false := (by simp [World.frozen?, hcb6]); clear hrow hT5 hwh hcb6)
                exact bk_put (x := (x1, x2)) HC.out HCR.out HSW.out HNUM.out HOL2.out HD4.out HCB.out ((HT3.out.mono fun k _ hk => hk.elim .inl fun h => .inr (.inl h)).trans (HT5.out.mono fun k _ hk => .inr (.inr hk)))
                  (HK3.out.turn HT5.out (fun h => by have := (HCR5.out.lt _ h).1; have := HNUM.out; omega) (fun h => by have := (HCR5.out.lt _ h).1; have := HNUM.out; omega) (fun h => by have := (HCR5.out.lt _ h).1; have := HNUM.out; omega)) HB3.out HGG.out (by rw [List.length_append, HCL.out, HGL.out]) (by rw [iC_app]; exact HRW5.out)
              · have HGG := Lib.hid (HG.out.2 (fun h => h.elim HG1.out hd))
                rw [decide_eq_false hd]
                clear hd
                gi_wp2_with fail
                exact bk_end (x := (x1, x2)) HC.out HCR.out HSW.out HNUM.out HOL2.out HD4.out (HT3.out.mono fun k _ hk => hk.elim .inl fun h => .inr (.inl h)) HK3.out HB3.out HGG.out HCB5.out HCL.out HCR5.out
        case done =>
          intro D W hD hi hd
          obtain ⟨S, C, oc, nc, cc, tried2, met2, hc, hbt, hbk, hcb, hcl, hcr, hsz⟩ := hi
          rw [bks_all HML.out] at hbk
          have HCY : Hid (∀ x, x ∈ C ↔ x < (nms N).length ∧ CycW I x) := fun x => by
            rw [hbk.is, show (nms N).length = N.length by simp [nms], HNL.out]
            exact ⟨fun h => ⟨hbt.mlt x h.1, h.2⟩, fun h => ⟨hbk.done x (HIN.out x h.1), h.2⟩⟩
          have HC := Lib.hid hc
          have HCR := Lib.hid hcr
          have HCB := Lib.hid hcb
          have HDD := Lib.hid hd
          have HD4 : Hid (BC + 1 + 1 ≤ D) := by have := HZ4.out; show _ ≤ _; omega
          have HNC : Hid (nc ≤ j) := by
            have := few_below hbk.nd (n := j) fun z hz => hbt.mlt z ((hbk.is z).1 hz).1
            rw [hcl] at this
            exact this
          have HSO := Lib.hid (sortI_any C oc nc cc (BC + 1 + 1) W hcl hcr hbk.nd (by have := HNC.out; have := HN.out; omega))
          have HNUM : Hid (WB < BC ∧ bb < BC) := by have := HLT.out; have := HSB.out; refine ⟨?_, ?_⟩ <;> omega
          have c8 : W.cell? ⟨BC, 0, none⟩ = some (.slice oc nc cc) := by simp [World.cell?, hcb]
          clear hc hbt hbk hcb hcl hcr hsz hd hD HI0 HBX HBC HZ4 HC4 HR4 HOL HIN HBT HML
          go_wp2_with fail
          refine HSO.out.mono ?_
          rintro e w5 ⟨rfl, Dl, hpw, hmem, hlen, hrow, hT⟩
          have hin : ∀ k, (Value.slice oc nc cc).ownBlock = some k → BC + 1 + 1 ≤ k := fun k hk => (HCR.out.lt k hk).1
          have HPW := Lib.hid hpw
          have HMEM := Lib.hid hmem
          have HLEN := Lib.hid hlen
          have HROW := Lib.hid hrow
          have HWEB := Lib.hid ((hT.block WB (Array.getElem?_eq_some_iff.1 HC.out.web).1 (fun h => by have := hin _ h; have := HNUM.out; omega)).trans HC.out.web)
          have hcb5 := (hT.block BC (Array.getElem?_eq_some_iff.1 HCB.out).1 (fun h => by have := hin _ h; omega)).trans HCB.out
          have c8 : w5.cell? ⟨BC, 0, none⟩ = some (.slice oc nc cc) := by simp [World.cell?, hcb5]
          have HDD5 := Lib.hid ((hT.block D (Array.getElem?_eq_some_iff.1 HDD.out).1 (fun h => by
            rcases HCR.out.2 with ⟨e, _⟩ | ⟨g, _, _, e, _, hgg, _⟩
            · rw [e] at h; cases h
            · rw [e] at h
              simp only [Value.ownBlock, Option.some.injEq] at h
              subst h
              rw [HDD.out] at hgg
              cases hgg)).trans HDD.out)
          have HBL : Hid (Below w1.heap.size w1 w5) := HC.out.below.trans (hT.below HC.out.below.size fun k hk => by have := hin k hk; have := HC.out.ge; have := HNUM.out; omega)
          clear hpw hmem hlen hrow hT hin hcb5 HSO HC HCR HCB HDD
          go_wp2_with fail
          clear c8
          go_loopw [61, 12] (fun v u wr => ∃ (k : Nat) (Y : List ByteArray) (o' : Option Addr) (n' c' : Nat), v = .int .i64 (k : Int) ∧ u = .slice o' n' c' ∧ Hid (k ≤ nc) ∧ Hid (Y.length = n') ∧ Hid (n' = k) ∧ Hid (nms Y = (Dl.take k).map fun i => (nms N).getD i []) ∧
            Hid (wr.ownsRow w5.heap.size 9 1 (.slice o' n' c') n' (sC Y)) ∧ Hid (Below w5.heap.size w5 wr)) (fun v _ _ => nc - (RowKit.intOf v).toNat)
          case atStart => exact ⟨0, [], none, 0, 0, rfl, rfl, Nat.zero_le _, rfl, rfl, rfl, World.ownsRow_nil _ _ _ _, Below.refl _ _⟩
          case round =>
            obtain ⟨k, Y, o', n', c', rfl, rfl, HKN, HYL, HNK, HNS, HRS, HBW⟩ := hrel
            by_cases hk : k < nc
            · have hk' : ((k : Int) < (nc : Int)) := by omega
              have hk0 : (0 : Int) ≤ (k : Int) := by omega
              have hwk := IntWalk.i64_in ((k : Int) + 1) ⟨by omega, by have := HNC.out; have := HN.out; omega⟩
              obtain ⟨gd, rfl, _, _⟩ := row_some HROW.out (by omega)
              have cd := (HBW.out.cell (World.block_lt_of_cell? _ _ (RowI.cell HROW.out HLEN.out hk))).trans (RowI.cell HROW.out HLEN.out hk)
              have hdk : Dl[k]? = some (getH Dl k) := getH_at (by rw [HLEN.out]; exact hk)
              have hdj : getH Dl k < j := by
                have h1 := ((HCY.out _).1 ((HMEM.out _).1 (List.mem_of_getElem? hdk))).1
                rw [show (nms N).length = N.length by simp [nms], HNL.out] at h1
                exact h1
              have HTK : Hid (Dl.take (k + 1) = Dl.take k ++ [getH Dl k]) := by show _ = _; rw [List.take_add_one, hdk]; rfl
              obtain ⟨x0, x1, x2⟩ := cells3 ((HBW.out.block WB (Array.getElem?_eq_some_iff.1 HWEB.out).1).trans HWEB.out)
              have HNM := Lib.hid (namedP_any N on oi ou j cn j j (getH Dl k) j j wr (HAN.out.below (HBL.out.trans (HBW.out.mono HBL.out.size))) HNL.out hdj HSZ.out)
              have HKJ := Lib.hid hk
              have HDJ := Lib.hid hdj
              clear hk hdk hdj
              generalize getH Dl k = x at *
              go_wp2_with fail
              refine HNM.out.mono ?_
              rintro e w6 ⟨s, hs, rfl, hB6⟩
              have HB6 := Lib.hid (HBW.out.trans (hB6.mono HBW.out.size))
              have HRS6 := Lib.hid (below_row hB6 HRS.out)
              have HSE : Hid ((nms N).getD x [] = nm s) := by show _ = _; unfold nms; rw [List.getD_eq_getElem?_getD, List.getElem?_map, hs]; rfl
              clear hB6 hs x0 x1 x2 cd HNM HBW HRS
              go_wp2_with (refine wpList_append_name rfl _ _ rfl w5.heap.size (.slice o' n' c') n' Y s rfl HYL.out HRS6.out rfl HB6.out.size (by have := HNK.out; have := HKJ.out; have := HNC.out; have := HN.out; omega) ?_; intro o7 c7 w7 hrow hbel; have HRW7 := Lib.hid hrow; have HB7 := Lib.hid (HB6.out.trans hbel); clear hrow hbel)
              case roundEnd => exact ⟨⟨k + 1, Y ++ [s], o7, n' + 1, c7, by push_cast; rfl, rfl, by have := HKJ.out; show _ ≤ _; omega, by show _ = _; rw [List.length_append, HYL.out]; rfl, by have := HNK.out; show _ = _; omega, by show _ = _; rw [nms_app, HNS.out, HTK.out, List.map_append, List.map_singleton, HSE.out]; rfl, HRW7, HB7⟩, by have := HKJ.out; simp [RowKit.intOf]; omega⟩
            · have hk' : ¬ ((k : Int) < (nc : Int)) := by omega
              have hkn := HKN.out
              obtain rfl : k = nc := by omega
              have hns := HNS.out
              rw [List.take_of_length_le (by rw [HLEN.out]; omega)] at hns
              have HNS2 := Lib.hid hns
              have HDW := Lib.hid ((HBW.out.block D (Array.getElem?_eq_some_iff.1 HDD5.out).1).trans HDD5.out)
              clear hk hkn hns
              go_wp2_with fail
              refine ⟨by simp, .inl ⟨_, _, rfl, run_takeDeferred HDW.out, ?_⟩⟩
              refine ⟨.slice o' n' c', by simp [results, Try.results15, go_sem], Y, o', n', ⟨c', rfl⟩, HYL.out, by have := HNK.out; have := HNC.out; have := HN.out; omega, ?_, ?_, ?_⟩
              · rw [HNS2.out]
                exact cyc_done HW.out HPW.out HMEM.out HCY.out
              · have hT : Turn (fun i => i = D) wr (wr.putObj D (.deferred none)) := (Turn.of_grown (grownBy_putObj' wr D (.deferred none))).mono fun i _ h => by injection h
                exact own_names_n (hT.row HRS.out fun i hi e => by have := (HRS.out.lt i hi).1; have := (Array.getElem?_eq_some_iff.1 HDD5.out).1; omega) HYL.out
              · have hT : Turn (fun i => i = D) wr (wr.putObj D (.deferred none)) := (Turn.of_grown (grownBy_putObj' wr D (.deferred none))).mono fun i _ h => by injection h
                have hb : Below w1.heap.size w1 wr := HBL.out.trans (HBW.out.mono HBL.out.size)
                exact HB.out.trans ((hb.trans (hT.below hb.size fun i hi => by subst hi; have := HD4.out; have := HNUM.out; have := HLT.out; have := HWB.out; omega)).mono HB.out.size)

end Go.Proofs.Ytgnhcaepkgbieaa
