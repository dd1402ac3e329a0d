/-
  Plain facts about a text's bytes 10: where lines begin and end, how many bytes 10 stand ahead of a place. Nothing of the program is imported; no condition.
-/
import Derived.Laws.RangeAny
namespace Go.Proofs.Ytakjajpacilnaaa

/-- The offsets behind the bytes 10 of a text that begins at offset k. -/
def brkFrom : Nat → List UInt8 → List Nat
  | _, [] => []
  | k, c :: r => if c = 10 then (k + 1) :: brkFrom (k + 1) r else brkFrom (k + 1) r

def brk (l : List UInt8) : List Nat := brkFrom 0 l

theorem brkFrom_append (k : Nat) (l m : List UInt8) : brkFrom k (l ++ m) = brkFrom k l ++ brkFrom (k + l.length) m := by
  induction l generalizing k with
  | nil => simp [brkFrom]
  | cons c r ih =>
    simp only [List.cons_append, brkFrom, List.length_cons]
    rw [ih (k + 1), show k + (r.length + 1) = k + 1 + r.length by omega]
    split <;> simp

theorem brkFrom_none (k : Nat) (l : List UInt8) (h : ∀ c ∈ l, c ≠ 10) : brkFrom k l = [] := by
  induction l generalizing k with
  | nil => rfl
  | cons c r ih =>
    simp only [brkFrom]
    rw [if_neg (h c (by simp)), ih (k + 1) (fun x hx => h x (by simp [hx]))]

theorem brkFrom_mem (k : Nat) (l : List UInt8) : ∀ x ∈ brkFrom k l, k < x ∧ x ≤ k + l.length := by
  induction l generalizing k with
  | nil => simp [brkFrom]
  | cons c r ih =>
    intro x hx
    simp only [brkFrom] at hx
    simp only [List.length_cons]
    split at hx
    · rcases List.mem_cons.1 hx with rfl | hx
      · omega
      · have := ih (k + 1) x hx; omega
    · have := ih (k + 1) x hx; omega

theorem brkFrom_sorted (k : Nat) (l : List UInt8) : (brkFrom k l).Pairwise (· < ·) := by
  induction l generalizing k with
  | nil => simp [brkFrom]
  | cons c r ih =>
    simp only [brkFrom]
    split
    · refine List.pairwise_cons.2 ⟨fun x hx => (brkFrom_mem (k + 1) r x hx).1, ih (k + 1)⟩
    · exact ih (k + 1)

theorem brk_len_le (l : List UInt8) : (brk l).length ≤ l.length := by
  have h : ∀ k, (brkFrom k l).length ≤ l.length := by
    induction l with
    | nil => simp [brkFrom]
    | cons c r ih =>
      intro k
      simp only [brkFrom, List.length_cons]
      split
      · have := ih (k + 1); simp; omega
      · have := ih (k + 1); omega
  exact h 0

theorem getD_app_l (a b : List Nat) (j d : Nat) (h : j < a.length) : (a ++ b).getD j d = a.getD j d := by
  simp only [List.getD_eq_getElem?_getD]; rw [List.getElem?_append_left h]
theorem getD_app_r (a b : List Nat) (j d : Nat) (h : a.length ≤ j) : (a ++ b).getD j d = b.getD (j - a.length) d := by
  simp only [List.getD_eq_getElem?_getD]; rw [List.getElem?_append_right h]

/-- How many bytes 10 stand ahead of a place. -/
def cnt (l : List UInt8) (k : Nat) : Nat := (brk (l.take k)).length

theorem brk_split (l : List UInt8) (k : Nat) (hk : k ≤ l.length) : brk l = brk (l.take k) ++ brkFrom k (l.drop k) := by
  have h := brkFrom_append 0 (l.take k) (l.drop k)
  rw [List.take_append_drop] at h
  unfold brk
  rw [h]
  congr 2
  simp; omega

theorem cnt_le (l : List UInt8) (k : Nat) : cnt l k ≤ (brk l).length := by
  by_cases hk : k ≤ l.length
  · rw [brk_split l k hk]; simp [cnt]
  · unfold cnt; rw [List.take_of_length_le (by omega)]; exact Nat.le_refl _

theorem brk_lo (l : List UInt8) (k j : Nat) (hk : k ≤ l.length) (hj : j < cnt l k) : (brk l).getD j 0 ≤ k := by
  rw [brk_split l k hk]
  unfold cnt at hj
  rw [getD_app_l _ _ _ _ hj]
  have hm : (brk (l.take k)).getD j 0 ∈ brkFrom 0 (l.take k) := by
    rw [List.getD_eq_getElem?_getD, List.getElem?_eq_getElem hj]
    exact List.getElem_mem hj
  have := brkFrom_mem 0 (l.take k) _ hm
  rw [List.length_take] at this
  omega

theorem brk_hi (l : List UInt8) (k j : Nat) (hk : k ≤ l.length) (hj : cnt l k ≤ j) (hjl : j < (brk l).length) : k < (brk l).getD j 0 := by
  rw [brk_split l k hk] at hjl ⊢
  unfold cnt at hj
  rw [getD_app_r _ _ _ _ hj]
  have hlt : j - (brk (l.take k)).length < (brkFrom k (l.drop k)).length := by
    rw [List.length_append] at hjl; omega
  have hm : (brkFrom k (l.drop k)).getD (j - (brk (l.take k)).length) 0 ∈ brkFrom k (l.drop k) := by
    rw [List.getD_eq_getElem?_getD, List.getElem?_eq_getElem hlt]
    exact List.getElem_mem hlt
  exact (brkFrom_mem k (l.drop k) _ hm).1

theorem brk_bd (l : List UInt8) (j : Nat) (hj : j < (brk l).length) : 1 ≤ (brk l).getD j 0 ∧ (brk l).getD j 0 ≤ l.length := by
  have hm : (brk l).getD j 0 ∈ brkFrom 0 l := by
    rw [List.getD_eq_getElem?_getD, List.getElem?_eq_getElem hj]
    exact List.getElem_mem hj
  have := brkFrom_mem 0 l _ hm
  omega

theorem brk_lt (l : List UInt8) (i j : Nat) (hij : i < j) (hj : j < (brk l).length) : (brk l).getD i 0 < (brk l).getD j 0 := by
  have h := List.pairwise_iff_getElem.1 (brkFrom_sorted 0 l) i j (by show i < (brk l).length; omega) hj hij
  rw [List.getD_eq_getElem?_getD, List.getD_eq_getElem?_getD, List.getElem?_eq_getElem (by omega), List.getElem?_eq_getElem hj]
  exact h

/-- A place's count is known by the places around it. -/
theorem cnt_of (l : List UInt8) (k m : Nat) (hk : k ≤ l.length) (hm : m ≤ (brk l).length) (lo : m = 0 ∨ (brk l).getD (m - 1) 0 ≤ k) (hi : m = (brk l).length ∨ k < (brk l).getD m 0) : cnt l k = m := by
  have hc := cnt_le l k
  rcases Nat.lt_trichotomy (cnt l k) m with h | h | h
  · have h1 := brk_hi l k (m - 1) hk (by omega) (by omega)
    omega
  · exact h
  · have h1 := brk_lo l k m hk h
    omega

/-- Where line m (from 0 on) begins, and where it ends. -/
def beg (l : List UInt8) (m : Nat) : Nat := if m = 0 then 0 else (brk l).getD (m - 1) 0
def stop (l : List UInt8) (m : Nat) : Nat := if m = (brk l).length then l.length else (brk l).getD m 0 - 1

theorem beg_le_stop (l : List UInt8) (m : Nat) (hm : m ≤ (brk l).length) : beg l m ≤ stop l m ∧ stop l m ≤ l.length := by
  unfold beg stop
  by_cases h0 : m = 0
  · rw [if_pos h0]
    by_cases h1 : m = (brk l).length
    · rw [if_pos h1]; omega
    · rw [if_neg h1]; have := brk_bd l m (by omega); omega
  · rw [if_neg h0]
    by_cases h1 : m = (brk l).length
    · rw [if_pos h1]; have := brk_bd l (m - 1) (by omega); omega
    · rw [if_neg h1]; have := brk_bd l m (by omega); have := brk_lt l (m - 1) m (by omega) (by omega); omega

theorem beg_succ (l : List UInt8) (m : Nat) (hm : m < (brk l).length) : beg l (m + 1) = stop l m + 1 := by
  unfold beg stop
  rw [if_neg (by omega), if_neg (by omega), show m + 1 - 1 = m by omega]
  have := brk_bd l m hm; omega

theorem cnt_within (l : List UInt8) (k m : Nat) (hm : m ≤ (brk l).length) (h1 : beg l m ≤ k) (h2 : k ≤ stop l m) : cnt l k = m := by
  have hs := (beg_le_stop l m hm).2
  refine cnt_of l k m (by omega) hm ?_ ?_
  · by_cases h0 : m = 0
    · exact .inl h0
    · right; unfold beg at h1; rw [if_neg h0] at h1; exact h1
  · by_cases h0 : m = (brk l).length
    · exact .inl h0
    · right; unfold stop at h2; rw [if_neg h0] at h2; have := brk_bd l m (by omega); omega

theorem within_cnt (l : List UInt8) (k : Nat) (hk : k ≤ l.length) : beg l (cnt l k) ≤ k ∧ k ≤ stop l (cnt l k) := by
  have hc := cnt_le l k
  unfold beg stop
  constructor
  · by_cases h0 : cnt l k = 0
    · rw [if_pos h0]; omega
    · rw [if_neg h0]; exact brk_lo l k _ hk (by omega)
  · by_cases h0 : cnt l k = (brk l).length
    · rw [if_pos h0]; omega
    · rw [if_neg h0]; have := brk_hi l k (cnt l k) hk (Nat.le_refl _) (by omega); omega

theorem cnt_mono (l : List UInt8) (a b : Nat) (hab : a ≤ b) (hb : b ≤ l.length) : cnt l a ≤ cnt l b := by
  by_cases h : cnt l a ≤ cnt l b
  · exact h
  · have h1 := brk_lo l a (cnt l b) (by omega) (by omega)
    have := cnt_le l a
    have h2 := brk_hi l b (cnt l b) hb (Nat.le_refl _) (by omega)
    omega

/-- The count as sort.Search's contract says it. -/
theorem count_range (l : List UInt8) (k : Nat) (hk : k ≤ l.length) : (List.range (brk l).length).countP (fun i => !decide ((k : Int) < ((brk l).getD i 0 : Nat))) = cnt l k := by
  have hc := cnt_le l k
  have e : (brk l).length = cnt l k + ((brk l).length - cnt l k) := by omega
  rw [e, List.range_add, List.countP_append, List.countP_map]
  have h1 : (List.range (cnt l k)).countP (fun i => !decide ((k : Int) < ((brk l).getD i 0 : Nat))) = cnt l k := by
    rw [List.countP_eq_length.2 (fun i hi => ?_), List.length_range]
    have := brk_lo l k i hk (by simpa using hi)
    simp only [Bool.not_eq_true', decide_eq_false_iff_not]; omega
  have h2 : (List.range ((brk l).length - cnt l k)).countP ((fun i => !decide ((k : Int) < ((brk l).getD i 0 : Nat))) ∘ fun x => cnt l k + x) = 0 := by
    rw [List.countP_eq_zero]
    intro i hi
    have := brk_hi l k (cnt l k + i) hk (by omega) (by have : i < (brk l).length - cnt l k := by simpa using hi
                                                       omega)
    simp only [Function.comp, Bool.not_eq_true', decide_eq_false_iff_not]; omega
  rw [h1, h2]; omega

theorem cnt_succ_ten (l : List UInt8) (k : Nat) (hk : k < l.length) (h : l[k] = 10) : cnt l (k + 1) = cnt l k + 1 ∧ beg l (cnt l k + 1) = k + 1 := by
  have e : l.take (k + 1) = l.take k ++ [10] := by rw [List.take_succ_eq_append_getElem hk, h]
  have e1 : brk (l.take (k + 1)) = brk (l.take k) ++ [k + 1] := by
    unfold brk; rw [e, brkFrom_append]; simp [brkFrom]; omega
  have hc : cnt l (k + 1) = cnt l k + 1 := by unfold cnt; rw [e1]; simp
  refine ⟨hc, ?_⟩
  unfold beg
  rw [if_neg (by omega), brk_split l (k + 1) (by omega), e1]
  rw [getD_app_l _ _ _ _ (by simp [cnt]), getD_app_r _ _ _ _ (by simp [cnt])]
  simp [cnt]

theorem cnt_succ_other (l : List UInt8) (k : Nat) (hk : k < l.length) (h : l[k] ≠ 10) : cnt l (k + 1) = cnt l k := by
  have e : l.take (k + 1) = l.take k ++ [l[k]] := List.take_succ_eq_append_getElem hk
  unfold cnt brk
  rw [e, brkFrom_append, brkFrom_none _ [l[k]] (by simpa using h)]
  simp

theorem cnt_zero (l : List UInt8) : cnt l 0 = 0 := by simp [cnt, brk, brkFrom]
theorem cnt_len (l : List UInt8) : cnt l l.length = (brk l).length := by simp [cnt]

/-! Going by runes misses no byte 10. -/

theorem rune_ten (s : ByteArray) (pos : Nat) (h : pos < s.size) (h10 : s[pos] = 10) : Utf8.decode s pos = (10, 1) := by
  rw [decode_ascii s pos h (by rw [h10]; decide), h10]; rfl

theorem get_of (s : ByteArray) (i : Nat) (h : i < s.size) : s.get! i = s[i] := by
  have := get_at s i h
  simpa using this

theorem rune_other (s : ByteArray) (pos : Nat) (h : pos < s.size) (h10 : s[pos] ≠ 10) :
    (Utf8.decode s pos).1 ≠ 10 ∧ 1 ≤ (Utf8.decode s pos).2 ∧ pos + (Utf8.decode s pos).2 ≤ s.size ∧ ∀ i (hi : i < s.size), pos ≤ i → i < pos + (Utf8.decode s pos).2 → s[i] ≠ 10 := by
  by_cases ha : (s[pos]'h).toNat < 128
  · rw [decode_ascii s pos h ha]
    refine ⟨fun e => h10 (UInt8.toNat_inj.1 (by simpa using e)), Nat.le_refl _, by show pos + 1 ≤ s.size; omega, fun i hi h1 h2 => ?_⟩
    obtain rfl : i = pos := by have : i < pos + 1 := h2; omega
    exact h10
  · have hh := decode_high s pos h (by omega)
    refine ⟨by omega, hh.2, ?_⟩
    have hb : ∀ k, pos + k < s.size → (s.get! (pos + k)).toNat / 64 = 2 → ∀ hi : pos + k < s.size, s[pos + k] ≠ 10 := fun k hk hc hi e => by
      rw [get_of s _ hi, e] at hc
      revert hc; decide
    have h0 : ∀ i (hi : i < s.size), i = pos → s[i] ≠ 10 := fun i hi e => by subst e; exact h10
    simp only [Utf8.decode, get_at s pos h, ha, if_false]
    repeat' split
    all_goals simp only [Bool.and_eq_true, decide_eq_true_eq, beq_iff_eq] at *
    all_goals refine ⟨by omega, fun i hi h1 h2 => ?_⟩
    all_goals first
      | exact h0 i hi (by omega)
      | (have ho : i = pos ∨ i = pos + 1 := by omega
         rcases ho with e | e
         · exact h0 i hi e
         · subst e; exact hb 1 (by omega) (by omega) hi)
      | (have ho : i = pos ∨ i = pos + 1 ∨ i = pos + 2 := by omega
         rcases ho with e | e | e
         · exact h0 i hi e
         · subst e; exact hb 1 (by omega) (by omega) hi
         · subst e; exact hb 2 (by omega) (by omega) hi)
      | (have ho : i = pos ∨ i = pos + 1 ∨ i = pos + 2 ∨ i = pos + 3 := by omega
         rcases ho with e | e | e | e
         · exact h0 i hi e
         · subst e; exact hb 1 (by omega) (by omega) hi
         · subst e; exact hb 2 (by omega) (by omega) hi
         · subst e; exact hb 3 (by omega) (by omega) hi)

theorem brk_take_ten (s : ByteArray) (pos : Nat) (h : pos < s.size) (h10 : s[pos] = 10) : brk (s.data.toList.take (pos + 1)) = brk (s.data.toList.take pos) ++ [pos + 1] := by
  have hl : pos < s.data.toList.length := by simpa using h
  have e : s.data.toList.take (pos + 1) = s.data.toList.take pos ++ [10] := by
    rw [List.take_succ_eq_append_getElem hl]; congr 2
  have hp : pos ≤ s.data.size := by simpa using Nat.le_of_lt h
  unfold brk; rw [e, brkFrom_append]; simp [brkFrom]; omega

theorem brk_take_other (s : ByteArray) (pos n : Nat) (h : pos + n ≤ s.size) (hn : ∀ i (hi : i < s.size), pos ≤ i → i < pos + n → s[i] ≠ 10) : brk (s.data.toList.take (pos + n)) = brk (s.data.toList.take pos) := by
  have e : s.data.toList.take (pos + n) = s.data.toList.take pos ++ (s.data.toList.drop pos).take n := by rw [List.take_add]
  unfold brk
  rw [e, brkFrom_append, brkFrom_none _ ((s.data.toList.drop pos).take n)]
  · simp
  · intro c hc
    obtain ⟨i, hi, rfl⟩ := List.mem_iff_getElem.1 hc
    have hi2 : i < n := by have := hi; simp at this; omega
    rw [List.getElem_take, List.getElem_drop]
    exact hn (pos + i) (by omega) (by omega) (by omega)

end Go.Proofs.Ytakjajpacilnaaa
