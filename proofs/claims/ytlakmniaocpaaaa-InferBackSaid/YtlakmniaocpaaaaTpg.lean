/-
  A type's parameters: their numbers in order, each once, plainly; the library's sort and its Compact of a row of the call's own. Condition: at most a million numbers.
-/
import Derived.Test.YtlakmniaocpaaaaM24
import Derived.Test.YtlakmniaocpaaaaM25
import Derived.Test.YtlakmniaocpaaaaTso
import Derived.Sort.OwnSortedInts
namespace Go.Proofs.Ytlakmniaocpaaaa
open Go.RowKit Go.Shelf Go.Sort
open Go.Lib hiding intOf

/-! ### plainly -/
def numsY (l : List GY) : List Int := l.filterMap fun | .mk k _ _ n _ => if k = 6 then some n else none
theorem nums_app (a b : List GY) : numsY (a ++ b) = numsY a ++ numsY b := by unfold numsY; rw [List.filterMap_append]
theorem nums_len (l : List GY) : (numsY l).length ≤ l.length := List.length_filterMap_le _ _
mutual
theorem has_nums : ∀ (t : GY) (x : Int), x ∈ numsY (preY t) ↔ hasY x t
  | .mk k p m n l, x => by
    have := has_numss l x
    rw [preY, show GY.mk k p m n l :: preYs l = [GY.mk k p m n l] ++ preYs l from rfl, nums_app, List.mem_append, this]
    unfold hasY
    by_cases h : k = 6
    · simp [numsY, h, eq_comm]
    · simp [numsY, h]
theorem has_numss : ∀ (l : List GY) (x : Int), x ∈ numsY (preYs l) ↔ hasYs x l
  | [], x => by rw [preYs]; unfold hasYs; simp [numsY]
  | y :: r, x => by
    have h1 := has_nums y x
    have h2 := has_numss r x
    rw [preYs, nums_app, List.mem_append, h1, h2]
    conv => rhs; unfold hasYs
end
/-- The numbers of a type's parameters. -/
structure ParIs (t : GY) (L : List Int) : Prop where
  up : L.Pairwise (· < ·)
  is : ∀ x, x ∈ L ↔ hasY x t
theorem up_one : ∀ {a b : List Int}, a.Pairwise (· < ·) → b.Pairwise (· < ·) → (∀ x, x ∈ a ↔ x ∈ b) → a = b
  | [], [], _, _, _ => rfl
  | [], y :: s, _, _, h => by have := (h y).2 (by simp); simp at this
  | x :: r, [], _, _, h => by have := (h x).1 (by simp); simp at this
  | x :: r, y :: s, ha, hb, h => by
    rw [List.pairwise_cons] at ha hb
    have h1 := (h x).1 (by simp)
    have h2 := (h y).2 (by simp)
    have e : x = y := by
      rcases List.mem_cons.1 h1 with h1 | h1
      · exact h1
      · rcases List.mem_cons.1 h2 with h2 | h2
        · exact h2.symm
        · have a1 := hb.1 x h1
          have a2 := ha.1 y h2
          omega
    subst e
    rw [up_one ha.2 hb.2 fun z => ?_]
    constructor
    · intro hz
      rcases List.mem_cons.1 ((h z).1 (List.mem_cons_of_mem _ hz)) with e | hz'
      · subst e; have := ha.1 z hz; omega
      · exact hz'
    · intro hz
      rcases List.mem_cons.1 ((h z).2 (List.mem_cons_of_mem _ hz)) with e | hz'
      · subst e; have := hb.1 z hz; omega
      · exact hz'
theorem par_one {t : GY} {a b : List Int} (ha : ParIs t a) (hb : ParIs t b) : a = b := up_one ha.up hb.up fun x => (ha.is x).trans (hb.is x).symm
/-- Of a row in order, each once. -/
theorem compact_up (d : Array Int) (hs : ∀ i j, i ≤ j → j < d.size → d[i]! ≤ d[j]!) : ∀ m, m ≤ d.size → (compactUpTo d m).Pairwise (· < ·) ∧ ∀ x, x ∈ compactUpTo d m ↔ ∃ j, j < m ∧ d[j]! = x
  | 0, _ => ⟨by simp [compactUpTo], fun x => by simp [compactUpTo]⟩
  | m + 1, h => by
    obtain ⟨ih1, ih2⟩ := compact_up d hs m (by omega)
    rw [compactUpTo_succ]
    by_cases hk : keeps d m = true
    · rw [hk, if_pos rfl]
      refine ⟨List.pairwise_append.2 ⟨ih1, by simp, fun a ha b hb => ?_⟩, fun x => ?_⟩
      · rw [List.mem_singleton.1 hb]
        obtain ⟨j, hj, rfl⟩ := (ih2 a).1 ha
        have hm0 : m ≠ 0 := by omega
        have hne : d[m]! ≠ d[m - 1]! := by
          unfold keeps at hk
          have := of_decide_eq_true hk
          exact this.resolve_left hm0
        have h1 := hs j (m - 1) (by omega) (by omega)
        have h2 := hs (m - 1) m (by omega) (by omega)
        omega
      · rw [List.mem_append, ih2, List.mem_singleton]
        constructor
        · rintro (⟨j, hj, e⟩ | e)
          · exact ⟨j, by omega, e⟩
          · exact ⟨m, by omega, e.symm⟩
        · rintro ⟨j, hj, e⟩
          by_cases h : j = m
          · subst h; exact .inr e.symm
          · exact .inl ⟨j, by omega, e⟩
    · have hk' : keeps d m = false := by simpa using hk
      rw [hk', if_neg (by decide), List.append_nil]
      refine ⟨ih1, fun x => ?_⟩
      rw [ih2]
      have he : ¬ (m = 0 ∨ d[m]! ≠ d[m - 1]!) := by
        unfold keeps at hk'
        exact of_decide_eq_false hk'
      have hm0 : m ≠ 0 := fun e => he (.inl e)
      have hd : d[m]! = d[m - 1]! := Classical.byContradiction fun e => he (.inr e)
      constructor
      · rintro ⟨j, hj, e⟩
        exact ⟨j, by omega, e⟩
      · rintro ⟨j, hj, e⟩
        by_cases h : j = m
        · subst h; exact ⟨j - 1, by omega, by rw [← hd]; exact e⟩
        · exact ⟨j, by omega, e⟩
def srtZ (ns : List Int) : List Int := ns.mergeSort fun x y => decide (x ≤ y)
theorem compact_par (ns : List Int) : (compact (srtZ ns)).Pairwise (· < ·) ∧ ∀ x, x ∈ compact (srtZ ns) ↔ x ∈ ns := by
  have hp := List.mergeSort_perm ns (fun x y => decide (x ≤ y))
  have hs : (srtZ ns).Pairwise fun a b => decide (a ≤ b) = true := List.pairwise_mergeSort (le := fun (x y : Int) => decide (x ≤ y)) (fun a b c h1 h2 => by simp at *; omega) (fun a b => by simp; omega) ns
  have hm : ∀ x, x ∈ srtZ ns ↔ x ∈ ns := fun x => hp.mem_iff
  generalize srtZ ns = zs at *
  have hg : ∀ j, j < zs.length → zs.toArray[j]! = zs.getD j 0 := fun j hj => by simp [List.getD, hj]
  obtain ⟨h1, h2⟩ := compact_up zs.toArray (fun i j hij hj => by
    have hj' : j < zs.length := by simpa using hj
    rw [hg i (by omega), hg j hj']
    rcases Nat.eq_or_lt_of_le hij with rfl | hlt
    · exact Int.le_refl _
    · have := (List.pairwise_iff_getElem.1 hs) i j (by omega) hj' hlt
      simpa [List.getD, List.getElem?_eq_getElem hj', List.getElem?_eq_getElem (show i < zs.length by omega)] using this) zs.length (by simp)
  refine ⟨h1, fun x => ?_⟩
  rw [← hm x]
  unfold compact
  rw [h2]
  constructor
  · rintro ⟨j, hj, rfl⟩
    rw [hg j hj]
    simp [List.getD, List.getElem?_eq_getElem hj]
  · intro hx
    obtain ⟨j, hj, e⟩ := List.getElem_of_mem hx
    exact ⟨j, hj, by rw [hg j hj]; simp [List.getD, List.getElem?_eq_getElem hj, e]⟩

/-! ### in memory -/
def zC (L : List Int) : List Value := L.map (Value.int .i64)
theorem zC_len (L : List Int) : (zC L).length = L.length := List.length_map ..
/-- Numbers lie there. -/
def IsZ (W : World) (o : Option Addr) (L : List Int) : Prop := ∀ (i : Nat) (x : Int), L[i]? = some x → ∃ a, o = some a ∧ W.cell? (a.add i) = some (.int .i64 x)
theorem IsZ.below {W W' : World} {o : Option Addr} {L : List Int} (h : IsZ W o L) (hb : Below W.heap.size W W') : IsZ W' o L := fun i x hx => by
  obtain ⟨a, ho, hc⟩ := h i x hx
  exact ⟨a, ho, (hb.cell (World.block_lt_of_cell? _ _ hc)).trans hc⟩
theorem IsZ.turn {S : Nat → Prop} {W W' : World} {o : Option Addr} {L : List Int} (h : IsZ W o L) (hT : Turn S W W') (hn : ∀ a, o = some a → ¬ S a.block) : IsZ W' o L := fun i x hx => by
  obtain ⟨a, ho, hc⟩ := h i x hx
  exact ⟨a, ho, hT.cell hc (by rw [add_block]; exact hn a ho)⟩
theorem IsZ.of_row {W : World} {B : Nat} {o : Option Addr} {n c : Nat} {L : List Int} (h : W.ownsRow B 3 1 (.slice o n c) n (zC L)) (hl : L.length = n) : IsZ W o L := fun i x hx => by
  have hi := (List.getElem?_eq_some_iff.1 hx).1
  rcases h.2 with ⟨e, h0⟩ | ⟨g, cap, cur, e, _⟩
  · omega
  · simp only [Value.slice.injEq] at e
    obtain ⟨rfl, _, rfl⟩ := e
    refine ⟨⟨g, 0, none⟩, rfl, ?_⟩
    have e : (⟨g, 0, none⟩ : Addr).add i = ⟨g, i, none⟩ := by unfold Addr.add; split <;> simp_all
    rw [e, h.cellAt i (by omega)]
    unfold zC
    rw [List.getElem?_map, hx]
    rfl

theorem sortZ_any (L : List Int) (o : Option Addr) (n cap base : Nat) (w : World) (hn : L.length = n) (hrow : w.ownsRow base 3 1 (.slice o n cap) n (zC L)) (hs : n ≤ 1000000) :
    Calls Try.prog 37 #[.slice o n cap] w fun e w' => e = .returned (.tuple #[]) ∧ w'.ownsRow base 3 1 (.slice o n cap) n (zC (srtZ L)) ∧ Turn (fun k => (Value.slice o n cap).ownBlock = some k) w w' := by
  have hr := hrow
  have hp := List.mergeSort_perm L (fun x y => decide (x ≤ y))
  rcases hrow.2 with ⟨hv, h0⟩ | ⟨g, cap', cur, hv, hbase, hb, h1, h2, h3, h4⟩
  · obtain ⟨rfl, rfl, rfl⟩ : o = none ∧ n = 0 ∧ cap = 0 := by simpa using hv
    refine (Try.slices_Sort_int_none none 0 w).mono ?_
    rintro e w' ⟨rfl, rfl⟩
    obtain rfl : L = [] := List.length_eq_zero_iff.1 hn
    exact ⟨rfl, by have : srtZ [] = [] := by simp [srtZ]
                   rw [this]; exact hr, Turn.refl _ _⟩
  · obtain ⟨rfl, rfl⟩ : o = some ⟨g, 0, none⟩ ∧ cap = cap' := by simpa using hv
    subst hn
    rw [Nat.mul_one] at h4
    have hH : Holds (Value.int .i64) w g 0 L.toArray := Go.holds_of_blockI hb h4
    have hgl : g < w.heap.size := (Array.getElem?_eq_some_iff.1 hb).1
    refine (Try.slices_Sort_int g 0 cap L w hH hgl (by omega)).mono ?_
    rintro e w' ⟨rfl, m, os, rfl⟩
    refine ⟨rfl, ?_, (Turn.of_grown (grownBy_sortedI _)).mono fun k _ hk => by simpa [Value.ownBlock] using hk.symm⟩
    exact ownsRow_sortedI (cap := cap) (n := m) (os := os) (base := base) (by simp) hbase hb h1 h2 (by simpa using h3)

theorem compactZ_any (L : List Int) (o : Option Addr) (n cap base : Nat) (w : World) (hn : L.length = n) (hrow : w.ownsRow base 3 1 (.slice o n cap) n (zC L)) (hs : n ≤ 1000000) :
    Calls Try.prog 38 #[.slice o n cap] w fun e w' => e = .returned (.slice o (compact L).length cap) ∧ IsZ w' o (compact L) ∧ Turn (fun k => (Value.slice o n cap).ownBlock = some k) w w' := by
  rcases hrow.2 with ⟨hv, h0⟩ | ⟨g, cap', cur, hv, hbase, hb, h1, h2, h3, h4⟩
  · obtain ⟨rfl, rfl, rfl⟩ : o = none ∧ n = 0 ∧ cap = 0 := by simpa using hv
    obtain rfl : L = [] := List.length_eq_zero_iff.1 hn
    refine (Try.slices_Compact_int_empty none 0 w).mono ?_
    rintro e w' ⟨rfl, rfl⟩
    exact ⟨rfl, fun i x hx => by simp [compact, compactUpTo] at hx, Turn.refl _ _⟩
  · obtain ⟨rfl, rfl⟩ : o = some ⟨g, 0, none⟩ ∧ cap = cap' := by simpa using hv
    subst hn
    rw [Nat.mul_one] at h4
    have hH : Holds (Value.int .i64) w g 0 L.toArray := Go.holds_of_blockI hb h4
    have hlen : (compact L).length ≤ L.length := by
      unfold compact compactUpTo
      rw [List.length_map]
      exact Nat.le_trans (List.length_filter_le _ _) (by simp)
    refine (Try.slices_Compact_int g 0 cap L w hH (by omega) h1).mono ?_
    rintro e w' ⟨rfl, q, rfl⟩
    refine ⟨rfl, fun i x hx => ⟨⟨g, 0, none⟩, rfl, ?_⟩, ?_⟩
    · have hi := (List.getElem?_eq_some_iff.1 hx).1
      have e : (⟨g, 0, none⟩ : Addr).add i = ⟨g, 0 + i, none⟩ := by unfold Addr.add; split <;> simp_all
      have hH2 : Holds (Value.int .i64) (Sort.ahead w q) g 0 L.toArray := hH
      rw [e, cell?_putRow (Value.int .i64) (Sort.ahead w q) g 0 L.toArray _ hH2 (by simp; omega) i (by simp; omega)]
      have hx' := (List.getElem?_eq_some_iff.1 hx).2
      simp
      rw [List.getElem?_append_left hi, List.getElem?_eq_getElem hi, hx']
      rfl
    · have := grownBy_sortedI (w := w) (g := g) (n := q) (os := #[]) (compact L ++ List.replicate (L.length - (compact L).length) 0).toArray
      rw [grow_empty] at this
      exact (Turn.of_grown this).mono fun k _ hk => by simpa [Value.ownBlock] using hk.symm

end Go.Proofs.Ytlakmniaocpaaaa
