/-
  Heaps of numbers, plainly: where one rises, where one sinks, what is taken is the least. No condition.
-/
import Derived.Test.YtgnhcaepkgbieaaProg
namespace Go.Proofs.Ytgnhcaepkgbieaa

def parH (i : Nat) : Nat := (i - 1) / 2
def getH (l : List Nat) (i : Nat) : Nat := l.getD i 0
def swapH (l : List Nat) (i j : Nat) : List Nat := (l.set i (getH l j)).set j (getH l i)
theorem swapH_len (l : List Nat) (i j : Nat) : (swapH l i j).length = l.length := by unfold swapH; simp
theorem getH_at {l : List Nat} {i : Nat} (h : i < l.length) : l[i]? = some (getH l i) := by
  unfold getH
  rw [List.getD_eq_getElem?_getD, List.getElem?_eq_getElem h]
  rfl
theorem getH_set (l : List Nat) (i k x : Nat) (hi : i < l.length) : getH (l.set i x) k = if k = i then x else getH l k := by
  unfold getH
  rw [List.getD_eq_getElem?_getD, List.getD_eq_getElem?_getD, List.getElem?_set]
  by_cases h : k = i
  · subst h; simp [hi]
  · rw [if_neg (fun e => h e.symm), if_neg h]
theorem swapH_get {l : List Nat} {i j : Nat} (hi : i < l.length) (hj : j < l.length) (k : Nat) : getH (swapH l i j) k = if k = j then getH l i else if k = i then getH l j else getH l k := by
  unfold swapH
  rw [getH_set _ _ _ _ (by simpa using hj), getH_set _ _ _ _ hi]
theorem swapH_perm {l : List Nat} {i j : Nat} (hi : i < l.length) (hj : j < l.length) : (swapH l i j).Perm l := by
  rw [List.perm_iff_count]
  intro a
  unfold swapH
  have e1 : l[i] = getH l i := by have := getH_at hi; rw [List.getElem?_eq_getElem hi] at this; exact Option.some.inj this
  have e2 : l[j] = getH l j := by have := getH_at hj; rw [List.getElem?_eq_getElem hj] at this; exact Option.some.inj this
  have hj' : j < (l.set i (getH l j)).length := by simpa using hj
  have e3 : (l.set i (getH l j))[j] = getH l j := by
    rw [List.getElem_set]
    split
    · rfl
    · exact e2
  have c1 := List.count_set (l := l) (a := getH l j) (b := a) hi
  have c2 := List.count_set (l := l.set i (getH l j)) (a := getH l i) (b := a) hj'
  have hp : 0 < List.count l[i] l := List.count_pos_iff.2 (List.getElem_mem hi)
  rw [e1] at c1 hp
  rw [e3] at c2
  rw [c2, c1]
  have hpa : getH l i = a → 0 < List.count a l := fun e => e ▸ hp
  by_cases ha : getH l i = a <;> by_cases hb : getH l j = a
  · have := hpa ha
    simp [ha, hb]; omega
  · have := hpa ha
    simp [ha, hb]; omega
  · simp [ha, hb]
  · simp [ha, hb]

def HeapTo (l : List Nat) (n : Nat) : Prop := ∀ k, 0 < k → k < n → getH l (parH k) ≤ getH l k
def HeapH (l : List Nat) : Prop := HeapTo l l.length
theorem parH_lt {k : Nat} (h : 0 < k) : parH k < k := by unfold parH; omega
theorem HeapTo.least {l : List Nat} {n : Nat} (h : HeapTo l n) : ∀ k, k < n → getH l 0 ≤ getH l k := by
  intro k
  induction k using Nat.strongRecOn with
  | ind k ih =>
    intro hk
    by_cases h0 : k = 0
    · subst h0; exact Nat.le_refl _
    · have hp := parH_lt (k := k) (by omega)
      exact Nat.le_trans (ih _ hp (by omega)) (h k (by omega) hk)
theorem HeapH.min {l : List Nat} (h : HeapH l) : ∀ x ∈ l, getH l 0 ≤ x := fun x hx => by
  obtain ⟨i, hi, e⟩ := List.getElem_of_mem hx
  have := h.least i hi
  have e2 : l[i] = getH l i := by have := getH_at hi; rw [List.getElem?_eq_getElem hi] at this; exact Option.some.inj this
  omega

/-! One rises. -/
structure UpI (l : List Nat) (j : Nat) : Prop where
  lt : j < l.length
  ok : ∀ k, 0 < k → k < l.length → k ≠ j → getH l (parH k) ≤ getH l k
  over : 0 < j → ∀ k, 0 < k → k < l.length → parH k = j → getH l (parH j) ≤ getH l k
theorem UpI.start {l : List Nat} (h : HeapH l) (x : Nat) : UpI (l ++ [x]) l.length := by
  have hg : ∀ k, k < l.length → getH (l ++ [x]) k = getH l k := fun k hk => by
    unfold getH
    rw [List.getD_eq_getElem?_getD, List.getD_eq_getElem?_getD, List.getElem?_append_left hk]
  refine ⟨by simp, fun k h0 hk hne => ?_, fun h0 k hk0 hk he => ?_⟩
  · have hk' : k < l.length := by simp at hk; omega
    have hp := parH_lt h0
    rw [hg k hk', hg _ (by omega)]
    exact h k h0 hk'
  · have := parH_lt hk0
    simp at hk
    omega
theorem UpI.stop {l : List Nat} {j : Nat} (h : UpI l j) (hs : parH j = j ∨ ¬ getH l j < getH l (parH j)) : HeapH l := fun k h0 hk => by
  by_cases he : k = j
  · subst he
    rcases hs with hs | hs
    · have := parH_lt h0
      omega
    · omega
  · exact h.ok k h0 hk he
theorem UpI.step {l : List Nat} {j : Nat} (h : UpI l j) (hp : parH j ≠ j) (hl : getH l j < getH l (parH j)) : UpI (swapH l (parH j) j) (parH j) := by
  have h0 : 0 < j := by
    rcases Nat.eq_zero_or_pos j with e | e
    · subst e; exact absurd rfl hp
    · exact e
  have hj := h.lt
  have hpl := parH_lt h0
  have hi : parH j < l.length := by omega
  have hg := swapH_get hi hj
  have hne : parH j ≠ j := by omega
  refine ⟨by rw [swapH_len]; exact hi, fun k hk0 hk hkn => ?_, fun hp0 k hk0 hk he => ?_⟩
  · rw [swapH_len] at hk
    rw [hg, hg]
    by_cases hkj : k = j
    · subst hkj
      rw [if_pos rfl, if_neg hne, if_pos rfl]
      omega
    · rw [if_neg hkj, if_neg hkn]
      by_cases h1 : parH k = j
      · rw [if_pos h1]
        exact h.over h0 k hk0 hk h1
      · rw [if_neg h1]
        have hok := h.ok k hk0 hk hkj
        by_cases h2 : parH k = parH j
        · rw [if_pos h2]
          rw [h2] at hok
          omega
        · rw [if_neg h2]
          exact hok
  · rw [swapH_len] at hk
    rw [hg, hg]
    have hpp := parH_lt hp0
    have hok := h.ok (parH j) hp0 hi hne
    rw [if_neg (show parH (parH j) ≠ j by omega), if_neg (show parH (parH j) ≠ parH j by omega)]
    by_cases hkj : k = j
    · rw [if_pos hkj]
      exact hok
    · rw [if_neg hkj]
      have hk1 : k ≠ parH j := by have := parH_lt hk0; omega
      rw [if_neg hk1]
      have := h.ok k hk0 hk hkj
      rw [he] at this
      omega

/-! One sinks. -/
structure DownI (l : List Nat) (n i : Nat) : Prop where
  ok : ∀ k, 0 < k → k < n → parH k ≠ i → getH l (parH k) ≤ getH l k
  over : 0 < i → ∀ k, 0 < k → k < n → parH k = i → getH l (parH i) ≤ getH l k
/-- The lesser child. -/
structure ChildH (l : List Nat) (n i j : Nat) : Prop where
  lt : j < n
  par : parH j = i ∧ 0 < j
  least : ∀ k, 0 < k → k < n → parH k = i → getH l j ≤ getH l k
theorem child_left {l : List Nat} {n i : Nat} (h1 : 2 * i + 1 < n) (h2 : ¬ (2 * i + 1 + 1 < n ∧ getH l (2 * i + 1 + 1) < getH l (2 * i + 1))) : ChildH l n i (2 * i + 1) := by
  refine ⟨h1, by unfold parH; omega, fun k hk0 hk hp => ?_⟩
  have : k = 2 * i + 1 ∨ k = 2 * i + 1 + 1 := by unfold parH at hp; omega
  rcases this with rfl | rfl
  · exact Nat.le_refl _
  · omega
theorem child_right {l : List Nat} {n i : Nat} (h2 : 2 * i + 1 + 1 < n ∧ getH l (2 * i + 1 + 1) < getH l (2 * i + 1)) : ChildH l n i (2 * i + 1 + 1) := by
  refine ⟨h2.1, by unfold parH; omega, fun k hk0 hk hp => ?_⟩
  have : k = 2 * i + 1 ∨ k = 2 * i + 1 + 1 := by unfold parH at hp; omega
  rcases this with rfl | rfl
  · omega
  · exact Nat.le_refl _
theorem DownI.leaf {l : List Nat} {n i : Nat} (h : DownI l n i) (h1 : n ≤ 2 * i + 1) : HeapTo l n := fun k h0 hk => h.ok k h0 hk (by unfold parH; omega)
theorem DownI.stop {l : List Nat} {n i j : Nat} (h : DownI l n i) (hc : ChildH l n i j) (hl : ¬ getH l j < getH l i) : HeapTo l n := fun k h0 hk => by
  by_cases hp : parH k = i
  · have := hc.least k h0 hk hp
    rw [hp]
    omega
  · exact h.ok k h0 hk hp
theorem DownI.step {l : List Nat} {n i j : Nat} (h : DownI l n i) (hn : n ≤ l.length) (hc : ChildH l n i j) (hl : getH l j < getH l i) : DownI (swapH l i j) n j := by
  have hj := hc.lt
  have hij : i < j := by have := parH_lt hc.par.2; rw [hc.par.1] at this; exact this
  have hg := swapH_get (l := l) (i := i) (j := j) (by omega) (by omega)
  refine ⟨fun k hk0 hk hp => ?_, fun h0 k hk0 hk hp => ?_⟩
  · rw [hg, hg, if_neg hp]
    by_cases hkj : k = j
    · subst hkj
      rw [if_pos hc.par.1, if_pos rfl]
      omega
    · rw [if_neg hkj]
      by_cases hpi : parH k = i
      · rw [if_pos hpi, if_neg (by have := parH_lt hk0; omega)]
        exact hc.least k hk0 hk hpi
      · rw [if_neg hpi]
        by_cases hki : k = i
        · subst hki
          rw [if_pos rfl]
          have := h.over hk0 j hc.par.2 hj hc.par.1
          exact this
        · rw [if_neg hki]
          exact h.ok k hk0 hk hpi
  · rw [hg, hg, hc.par.1, if_neg (by omega), if_pos rfl, if_neg (by have := parH_lt hk0; omega), if_neg (by have := parH_lt hk0; omega)]
    have := h.ok k hk0 hk (by omega)
    rw [hp] at this
    exact this
theorem DownI.start {l : List Nat} {n : Nat} (h : HeapH l) (hl : l.length = n + 1) : DownI (swapH l 0 n) n 0 := by
  have hg := swapH_get (l := l) (i := 0) (j := n) (by omega) (by omega)
  refine ⟨fun k hk0 hk hp => ?_, fun h0 => absurd h0 (by omega)⟩
  have := parH_lt hk0
  rw [hg, hg, if_neg (by omega), if_neg hp, if_neg (by omega), if_neg (by omega)]
  exact h k hk0 (by omega)
/-- What was last, taken. -/
theorem pop_last {l0 l : List Nat} {n : Nat} (hp : l.Perm l0) (hl : l.length = n + 1) (hh : HeapTo l n) (h0 : getH l n = getH l0 0) (hm : HeapH l0) :
    HeapH (l.take n) ∧ (getH l0 0 :: l.take n).Perm l0 ∧ ∀ x ∈ l0, getH l0 0 ≤ x := by
  refine ⟨fun k hk0 hk => ?_, ?_, hm.min⟩
  · have hg : ∀ k, k < n → getH (l.take n) k = getH l k := fun k hk => by
      unfold getH
      rw [List.getD_eq_getElem?_getD, List.getD_eq_getElem?_getD, List.getElem?_take, if_pos hk]
    have hk' : k < n := by rw [List.length_take] at hk; omega
    have := parH_lt hk0
    rw [hg k hk', hg _ (by omega)]
    exact hh k hk0 hk'
  · have e : l = l.take n ++ [getH l0 0] := by
      have := getH_at (l := l) (i := n) (by omega)
      rw [h0] at this
      conv => lhs; rw [← List.take_append_drop n l]
      congr 1
      have hd : l.drop n = l[n]'(by omega) :: l.drop (n + 1) := List.drop_eq_getElem_cons (by omega)
      rw [hd, List.drop_of_length_le (by omega)]
      rw [List.getElem?_eq_getElem (by omega)] at this
      rw [Option.some.inj this]
    have h1 : (getH l0 0 :: l.take n).Perm l := by
      conv => rhs; rw [e]
      exact (List.perm_append_singleton _ _).symm
    exact h1.trans hp

end Go.Proofs.Ytgnhcaepkgbieaa
