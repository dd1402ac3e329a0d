/-
  How many tokens may stand before one is wrong, and how long a token may be that is right: plain facts.
-/
import Derived.Test.YtlgaphopjdeklaaGreatU00
namespace Go.Proofs.YtlgaphopjdeklaaGreat
theorem kln_nonzero {l : List UInt8} (h : l ≠ []) : (kln l).1 ≠ 0 := by
  cases l with
  | nil => exact absurd rfl h
  | cons c r =>
    rw [kln_cons]
    split
    · simp only; split <;> omega
    · split
      · simp only; omega
      · split
        · simp only; omega
        · split
          · simp only; omega
          · split <;> simp
theorem pcs_nonzero (f at' : Nat) (l : List UInt8) : ∀ t ∈ pcs f at' l, t.kind ≠ 0 := by
  induction f generalizing at' l with
  | zero => simp [pcs]
  | succ f ih =>
    simp only [pcs]
    split
    · simp
    · rename_i h
      intro t ht
      rcases List.mem_cons.1 ht with rfl | ht
      · exact kln_nonzero h
      · exact ih _ _ t ht
theorem bad_count (ts : List Tok) : ∀ n, n ≤ 4000 → bad ts n = none → (∀ t ∈ ts, t.kind ≠ 0) → n + ts.length ≤ 4000 := by
  induction ts with
  | nil => intro n hn _ _; simpa using hn
  | cons t r ih =>
    intro n hn hb hk
    simp only [bad] at hb
    split at hb
    · rename_i h0
      have h1 := flt_count h0 (hk t (List.mem_cons_self ..))
      have h2 := ih (n + 1) (by omega) hb (fun u hu => hk u (List.mem_cons_of_mem _ hu))
      simp only [List.length_cons]; omega
    · cases hb
/-- Where one more token follows, at most 4000 have come. -/
theorem pre_count {l : List UInt8} {pre : List Tok} {x : Tok} (h : pre ++ [x] <+: toks l) (hb : bad pre 0 = none) : pre.length ≤ 4000 := by
  have h1 : pre <+: toks l := (List.prefix_append pre [x]).trans h
  have h2 := h.length_le
  have h3 : pre <+: pcsAt 0 l := by
    refine List.prefix_of_prefix_length_le h1 ?_ ?_
    · exact List.prefix_append _ _
    · unfold toks at h2
      simp only [List.length_append, List.length_cons, List.length_nil] at h2
      omega
  have := bad_count pre 0 (by omega) hb (fun t ht => pcs_nonzero _ _ _ t (h3.subset ht))
  omega
theorem good_len {l : List UInt8} (h : bad (toks l) 0 = none) : (toks l).length ≤ 4001 := by
  have h1 : bad (pcsAt 0 l) 0 = none := by
    cases hb : bad (pcsAt 0 l) 0 with
    | none => rfl
    | some x => unfold toks at h; rw [bad_append_some _ _ _ hb] at h; cases h
  have := bad_count (pcsAt 0 l) 0 (by omega) h1 (fun t ht => pcs_nonzero _ _ _ t ht)
  unfold toks
  rw [List.length_append]; simp only [List.length_cons, List.length_nil]; omega
theorem lexed_few {l : List UInt8} {ts : List Tok} {a : Nat} {c : Int} (hl : lexed l = (ts, a, c)) : ts.length ≤ 4001 := by
  unfold lexed at hl
  split at hl
  · rename_i h
    injection hl with hl _
    rw [← hl]; exact good_len h
  · injection hl with hl _
    rw [← hl]; simp
/-- A piece that is right is short. -/
theorem kln_short (l : List UInt8) (n : Nat) (h : flt (kln l).1 (l.take (kln l).2) n = 0) : (l.take (kln l).2).length ≤ 300 := by
  cases l with
  | nil => simp
  | cons c r =>
    rw [kln_cons] at h ⊢
    split at h
    · rename_i h1
      rw [if_pos h1]
      simp only at h ⊢
      generalize (c :: r).take (run nam (c :: r)) = t at *
      by_cases hk : kw t = true
      · have hm : t ∈ kws := by simpa [kw] using hk
        have : ∀ u ∈ kws, u.length ≤ 300 := by decide
        exact this t hm
      · rw [if_neg hk] at h
        unfold flt at h
        rw [if_neg (by decide)] at h
        split at h
        · omega
        · rw [if_neg (by decide), if_neg (by simp), if_neg (by simp)] at h
          split at h
          · omega
          · rename_i h2; omega
    · rename_i h1
      rw [if_neg h1]
      split at h
      · rename_i h2
        rw [if_pos h2]
        simp only at h ⊢
        generalize (c :: r).take (run dgt (c :: r)) = t at *
        unfold flt at h
        rw [if_neg (by decide)] at h
        split at h
        · omega
        · rw [if_neg (by decide)] at h
          split at h
          · omega
          · rename_i h3
            have : num t = true := by
              cases hn : num t
              · exact absurd ⟨rfl, hn⟩ h3
              · rfl
            unfold num at this
            simp at this
            omega
      · rename_i h2
        rw [if_neg h2]
        split at h
        · rename_i h3
          rw [if_pos h3]
          simp only at h ⊢
          generalize (c :: r).take (if run ne34 r < r.length then run ne34 r + 2 else r.length + 1) = t at *
          unfold flt at h
          rw [if_neg (by decide)] at h
          split at h
          · omega
          · rw [if_neg (by decide), if_neg (by simp)] at h
            split at h
            · omega
            · rename_i h4
              have : quo t = true := by
                cases hn : quo t
                · exact absurd ⟨rfl, hn⟩ h4
                · rfl
              cases t with
              | nil => simp
              | cons d q =>
                simp [quo] at this
                simp only [List.length_cons]
                omega
        · rename_i h3
          rw [if_neg h3]
          split at h
          · rename_i h4
            rw [if_pos h4]
            simp only [List.length_take]; omega
          · rename_i h4
            rw [if_neg h4]
            split <;> (simp only [List.length_take]; omega)
theorem pcs_short (f at' : Nat) (l : List UInt8) : ∀ t ∈ pcs f at' l, ∀ n, flt t.kind t.text n = 0 → t.text.length ≤ 300 := by
  induction f generalizing at' l with
  | zero => simp [pcs]
  | succ f ih =>
    simp only [pcs]
    split
    · simp
    · intro t ht
      rcases List.mem_cons.1 ht with rfl | ht
      · exact fun n h => kln_short _ n h
      · exact ih _ _ t ht
theorem toks_short (l : List UInt8) (t : Tok) (ht : t ∈ toks l) (n : Nat) (h : flt t.kind t.text n = 0) : t.text.length ≤ 300 := by
  unfold toks pcsAt at ht
  rcases List.mem_append.1 ht with h1 | h1
  · exact pcs_short _ _ _ t h1 n h
  · simp at h1; subst h1; simp [endTok]
end Go.Proofs.YtlgaphopjdeklaaGreat
