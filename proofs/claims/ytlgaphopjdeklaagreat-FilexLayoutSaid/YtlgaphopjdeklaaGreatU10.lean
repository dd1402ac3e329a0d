/-
  Plain facts about pieces, for the document's own lexer: when a piece of the text may be. Nothing of the program is imported; no condition.
  Plain facts about tokens of texts that are put together: behind layout, with layout between. Nothing of the program is imported; no condition.
-/
import Derived.Test.YtlgaphopjdeklaaGreatU00
namespace Go.Proofs.YtlgaphopjdeklaaGreat
theorem run_append (p : UInt8 → Bool) (a b : List UInt8) (h : run p a = a.length) : run p (a ++ b) = a.length + run p b := by
  induction a with
  | nil => simp
  | cons c r ih =>
    by_cases hc : p c = true
    · rw [run_hit r hc, List.length_cons] at h
      rw [List.cons_append, run_hit _ hc, ih (by omega), List.length_cons]; omega
    · rw [run_miss r (by simpa using hc)] at h; simp at h
theorem run_take (p : UInt8 → Bool) (l : List UInt8) : run p (l.take (run p l)) = run p l := by
  induction l with
  | nil => rfl
  | cons c r ih =>
    by_cases hc : p c = true
    · rw [run_hit r hc, List.take_succ_cons, run_hit _ hc, ih]
    · rw [run_miss r (by simpa using hc)]; rfl
/-- Behind a run stands a byte that is none, or nothing. -/
theorem run_stop (p : UInt8 → Bool) (l : List UInt8) (h : run p l < l.length) : ∃ c r, l.drop (run p l) = c :: r ∧ p c = false := by
  induction l with
  | nil => simp at h
  | cons c r ih =>
    by_cases hc : p c = true
    · rw [run_hit r hc] at h ⊢
      rw [List.drop_succ_cons]
      exact ih (by simp only [List.length_cons] at h; omega)
    · exact ⟨c, r, by rw [run_miss r (by simpa using hc)]; rfl, by simpa using hc⟩
end Go.Proofs.YtlgaphopjdeklaaGreat
namespace Go.Proofs.YtlgaphopjdeklaaGreat
/-! ## shifting -/
def sh (n : Nat) (t : Tok) : Tok := ⟨t.kind, t.pos + n, t.stop + n, t.text⟩
theorem pcs_shift (f at' n : Nat) (l : List UInt8) : pcs f (at' + n) l = (pcs f at' l).map (sh n) := by
  induction f generalizing at' l with
  | zero => rfl
  | succ f ih =>
    simp only [pcs]
    split
    · rfl
    · rw [List.map_cons, ← ih]
      congr 1
      · simp only [sh, Tok.mk.injEq, true_and, and_true]; constructor <;> omega
      · congr 1; omega
theorem pcsAt_shift (at' n : Nat) (l : List UInt8) : pcsAt (at' + n) l = (pcsAt at' l).map (sh n) := pcs_shift _ _ _ _
theorem bad_shift (ts : List Tok) (n k : Nat) : bad (ts.map (sh n)) k = (bad ts k).map (fun x => (x.1 + n, x.2)) := by
  induction ts generalizing k with
  | nil => rfl
  | cons t r ih =>
    simp only [List.map_cons, bad]
    rw [ih]
    show (if flt t.kind t.text k = 0 then _ else _) = _
    split
    · rfl
    · rfl
/-! ## runs and skips in a longer text -/
theorem run_app_stop (p : UInt8 → Bool) (l m : List UInt8) (x : UInt8) (hx : p x = false) : run p (l ++ x :: m) = run p l := by
  induction l with
  | nil => rw [List.nil_append, run_miss m hx]; rfl
  | cons c r ih =>
    by_cases hc : p c = true
    · rw [List.cons_append, run_hit _ hc, run_hit _ hc, ih]
    · rw [List.cons_append, run_miss _ (by simpa using hc), run_miss _ (by simpa using hc)]
theorem run_app_lt (p : UInt8 → Bool) (l m : List UInt8) (h : run p l < l.length) : run p (l ++ m) = run p l := by
  induction l with
  | nil => simp at h
  | cons c r ih =>
    by_cases hc : p c = true
    · rw [run_hit r hc, List.length_cons] at h
      rw [List.cons_append, run_hit _ hc, run_hit _ hc, ih (by omega)]
    · rw [List.cons_append, run_miss _ (by simpa using hc), run_miss _ (by simpa using hc)]
theorem skp_app_lt (b : Bool) (l m : List UInt8) (x : UInt8) (hx : x ≠ 47) (h : skp b l < l.length) : skp b (l ++ x :: m) = skp b l := by
  induction l generalizing b with
  | nil => cases b <;> simp [skp] at h
  | cons c r ih =>
    cases b
    · simp only [List.cons_append, skp, List.length_cons] at h ⊢
      by_cases hl : lay c = true
      · simp only [hl, if_true] at h ⊢
        rw [ih _ (by omega)]
      · simp only [hl, Bool.false_eq_true, if_false] at h ⊢
        have hh : (c = 47 ∧ (r ++ x :: m).head? = some 47) ↔ (c = 47 ∧ r.head? = some 47) := by
          cases r with
          | nil => simp [hx]
          | cons d r => simp
        by_cases hc : c = 47 ∧ r.head? = some 47
        · rw [if_pos (hh.2 hc)]
          rw [if_pos hc] at h ⊢
          rw [ih _ (by omega)]
        · rw [if_neg (fun e => hc (hh.1 e)), if_neg hc]
    · simp only [List.cons_append, skp, List.length_cons] at h ⊢
      by_cases hc : c = 10
      · simp only [hc, if_true] at h ⊢
        rw [ih _ (by omega)]
      · simp only [hc, if_false] at h ⊢
        rw [ih _ (by omega)]
theorem skp_app_all (b : Bool) (l m : List UInt8) (h : skp b l = l.length) : skp b (l ++ 10 :: m) = l.length + 1 + skp false m := by
  induction l generalizing b with
  | nil => cases b <;> simp [skp, lay] <;> omega
  | cons c r ih =>
    cases b
    · simp only [List.cons_append, skp, List.length_cons] at h ⊢
      by_cases hl : lay c = true
      · simp only [hl, if_true] at h ⊢
        rw [ih _ (by omega)]; omega
      · simp only [hl, Bool.false_eq_true, if_false] at h ⊢
        by_cases hc : c = 47 ∧ r.head? = some 47
        · rw [if_pos hc] at h
          have hh : (r ++ 10 :: m).head? = some 47 := by
            cases r with
            | nil => simp at hc
            | cons d r => simpa using hc.2
          rw [if_pos ⟨hc.1, hh⟩, ih _ (by omega)]; omega
        · rw [if_neg hc] at h; omega
    · simp only [List.cons_append, skp, List.length_cons] at h ⊢
      by_cases hc : c = 10
      · simp only [hc, if_true] at h ⊢
        rw [ih _ (by omega)]; omega
      · simp only [hc, if_false] at h ⊢
        rw [ih _ (by omega)]; omega
/-- A text piece is closed. -/
def shut : List UInt8 → Prop
  | [] => True
  | c :: r => c = 34 → run ne34 r < r.length
/-- What may stand behind a piece and leave it as it is. -/
def sep (x : UInt8) : Prop := nam x = false ∧ dgt x = false ∧ x ≠ 61 ∧ x ≠ 38
theorem ltr34 : ltr 34 = false := by decide
theorem dgt34 : dgt 34 = false := by decide
theorem kln_app (l m : List UInt8) (x : UInt8) (hx : sep x) (hl : l ≠ []) (hs : shut l) : kln (l ++ x :: m) = kln l := by
  obtain ⟨x1, x2, x3, x4⟩ := hx
  cases l with
  | nil => exact absurd rfl hl
  | cons c r =>
    rw [List.cons_append, kln_cons, kln_cons]
    have e1 : run nam (c :: (r ++ x :: m)) = run nam (c :: r) := run_app_stop nam (c :: r) m x x1
    have e2 : run dgt (c :: (r ++ x :: m)) = run dgt (c :: r) := run_app_stop dgt (c :: r) m x x2
    have hn := run_le nam (c :: r)
    have e3 : (c :: (r ++ x :: m)).take (run nam (c :: r)) = (c :: r).take (run nam (c :: r)) := by
      rw [← List.cons_append, List.take_append_of_le_length hn]
    have e4 : ((c = 61 ∧ (r ++ x :: m).head? = some 61) ∨ (c = 38 ∧ (r ++ x :: m).head? = some 38)) ↔ ((c = 61 ∧ r.head? = some 61) ∨ (c = 38 ∧ r.head? = some 38)) := by
      cases r with
      | nil => simp [x3, x4]
      | cons d r => simp
    rw [e1, e2, e3]
    by_cases h1 : ltr c = true
    · rw [if_pos h1, if_pos h1]
    · rw [if_neg h1, if_neg h1]
      by_cases h2 : dgt c = true
      · rw [if_pos h2, if_pos h2]
      · rw [if_neg h2, if_neg h2]
        by_cases h3 : c = 34
        · have hlt := hs h3
          rw [if_pos h3, if_pos h3, run_app_lt _ _ _ hlt, if_pos hlt, if_pos (by rw [List.length_append]; omega)]
        · rw [if_neg h3, if_neg h3]
          simp only [e4]
/-- A piece by itself is itself. -/
theorem kln_self (l : List UInt8) (hl : l ≠ []) (hs : shut l) : kln (l.take (kln l).2) = kln l ∧ (l.take (kln l).2).length = (kln l).2 ∧ shut (l.take (kln l).2) := by
  have hp := kln_pos' hl
  have hlen : (l.take (kln l).2).length = (kln l).2 := by rw [List.length_take]; omega
  refine ⟨?_, hlen, ?_⟩
  · cases l with
    | nil => exact absurd rfl hl
    | cons c r =>
      have hk := kln_cons c r
      obtain ⟨n, hn⟩ : ∃ n, (kln (c :: r)).2 = n + 1 := ⟨(kln (c :: r)).2 - 1, by omega⟩
      have ht : (c :: r).take (kln (c :: r)).2 = c :: r.take n := by rw [hn, List.take_succ_cons]
      have hk2 := kln_cons c (r.take n)
      rw [ht, hk2]
      by_cases h1 : ltr c = true
      · rw [if_pos h1] at hk ⊢
        have e2 : (kln (c :: r)).2 = run nam (c :: r) := by rw [hk]
        have e3 : run nam (c :: r.take n) = run nam (c :: r) := by rw [← ht, e2, run_take]
        rw [hk, e3, ← ht, e2, List.take_take, Nat.min_self]
      · rw [if_neg h1] at hk ⊢
        by_cases h2 : dgt c = true
        · rw [if_pos h2] at hk ⊢
          have e2 : (kln (c :: r)).2 = run dgt (c :: r) := by rw [hk]
          have e3 : run dgt (c :: r.take n) = run dgt (c :: r) := by rw [← ht, e2, run_take]
          rw [hk, e3]
        · rw [if_neg h2] at hk ⊢
          by_cases h3 : c = 34
          · have hlt := hs h3
            rw [if_pos h3, if_pos hlt] at hk
            rw [if_pos h3]
            have e2 : n = run ne34 r + 1 := by have : (kln (c :: r)).2 = run ne34 r + 2 := by rw [hk]
                                               omega
            have e3 : run ne34 (r.take n) = run ne34 r := by
              have h4 : r.take n ++ r.drop n = r := List.take_append_drop _ _
              have h5 : run ne34 (r.take (run ne34 r)) = run ne34 r := run_take _ _
              have h6 : r.take n = r.take (run ne34 r) ++ (r.drop (run ne34 r)).take 1 := by
                rw [e2, List.take_add]
              obtain ⟨d, r', hd, hdd⟩ := run_stop ne34 r hlt
              rw [h6, hd]
              have h7 : (d :: r').take 1 = d :: [] := rfl
              rw [h7, run_app_stop _ _ _ _ hdd, h5]
            have e4 : (r.take n).length = n := by rw [List.length_take]; omega
            rw [hk, e3, e4, if_pos (by omega)]
          · rw [if_neg h3] at hk ⊢
            by_cases h4 : (c = 61 ∧ r.head? = some 61) ∨ (c = 38 ∧ r.head? = some 38)
            · rw [if_pos h4] at hk
              have e2 : n = 1 := by have : (kln (c :: r)).2 = 2 := by rw [hk]
                                    omega
              have e3 : (r.take n).head? = r.head? := by rw [e2]; cases r <;> rfl
              rw [e3, if_pos h4, hk]
            · rw [if_neg h4] at hk
              have e2 : n = 0 := by
                have : (kln (c :: r)).2 = 1 := by rw [hk]; split <;> rfl
                omega
              rw [e2, List.take_zero]
              rw [if_neg (by simp), hk]
  · cases l with
    | nil => exact absurd rfl hl
    | cons c r =>
      obtain ⟨n, hn⟩ : ∃ n, (kln (c :: r)).2 = n + 1 := ⟨(kln (c :: r)).2 - 1, by omega⟩
      rw [hn, List.take_succ_cons]
      intro h3
      have hlt := hs h3
      have hk := kln_cons c r
      rw [h3, if_neg (by rw [ltr34]; simp), if_neg (by rw [dgt34]; simp), if_pos rfl, if_pos hlt] at hk
      have e2 : n = run ne34 r + 1 := by have : (kln (c :: r)).2 = run ne34 r + 2 := by rw [h3, hk]
                                         omega
      have h6 : r.take n = r.take (run ne34 r) ++ (r.drop (run ne34 r)).take 1 := by rw [e2, List.take_add]
      obtain ⟨d, r', hd, hdd⟩ := run_stop ne34 r hlt
      rw [h6, hd]
      have h7 : (d :: r').take 1 = d :: [] := rfl
      rw [h7, run_app_stop _ _ _ _ hdd, run_take]
      simp only [List.length_append, List.length_take, List.length_cons, List.length_nil]
      omega
/-! ## right pieces -/
/-- A piece that is right begins with no layout and no stroke, and is itself by itself. -/
def fine (t : Tok) : Prop := ∃ c r, t.text = c :: r ∧ lay c = false ∧ c ≠ 47 ∧ kln t.text = (t.kind, t.text.length) ∧ shut t.text
theorem quo_shut (r : List UInt8) (h : ¬ run ne34 r < r.length) : quo (34 :: r) = false := by
  have hne : r.getLast? ≠ some 34 := fun e => by
    have hm := List.mem_of_getLast? e
    have hall : ∀ c ∈ r, ne34 c = true := by
      have h0 : run ne34 r = r.length := by have := run_le ne34 r; omega
      clear e hm h
      induction r with
      | nil => simp
      | cons c r ih =>
        by_cases hc : ne34 c = true
        · rw [run_hit r hc, List.length_cons] at h0
          intro x hx
          rcases List.mem_cons.1 hx with rfl | hx
          · exact hc
          · exact ih (by omega) x hx
        · rw [run_miss r (by simpa using hc)] at h0; simp at h0
    have := hall 34 hm
    revert this; decide
  simp [quo, hne]
/-- The first piece of a text that is right there: closed, and fine. -/
theorem fine_first (l : List UInt8) (at' n : Nat) (hl : l ≠ []) (hz : skp false l = 0) (h : flt (kln l).1 (l.take (kln l).2) n = 0) :
    shut l ∧ fine ⟨(kln l).1, at', at' + (kln l).2, l.take (kln l).2⟩ := by
  have hp := kln_pos' hl
  have hs : shut l := by
    cases l with
    | nil => exact absurd rfl hl
    | cons c r =>
      intro h3
      have hk := kln_cons c r
      rw [h3, if_neg (by rw [ltr34]; simp), if_neg (by rw [dgt34]; simp), if_pos rfl] at hk
      by_cases hlt : run ne34 r < r.length
      · exact hlt
      · exfalso
        rw [if_neg hlt] at hk
        rw [h3, hk] at h
        have ht : (34 :: r).take (r.length + 1) = 34 :: r := List.take_of_length_le (by simp)
        simp only [ht] at h
        have hq := quo_shut r hlt
        unfold flt at h
        rw [if_neg (by decide)] at h
        split at h
        · simp at h
        · simp [hq] at h
  refine ⟨hs, ?_⟩
  obtain ⟨k1, k2, k3⟩ := kln_self l hl hs
  cases l with
  | nil => exact absurd rfl hl
  | cons c r =>
    obtain ⟨m, hm⟩ : ∃ m, (kln (c :: r)).2 = m + 1 := ⟨(kln (c :: r)).2 - 1, by omega⟩
    have ht : (c :: r).take (kln (c :: r)).2 = c :: r.take m := by rw [hm, List.take_succ_cons]
    refine ⟨c, r.take m, ht, ?_, ?_, ?_, k3⟩
    · by_cases hc : lay c = true
      · rw [skp_layout c r hc] at hz; omega
      · simpa using hc
    · intro e
      subst e
      have hk := kln_cons 47 r
      rw [if_neg (by decide), if_neg (by decide), if_neg (by decide), if_neg (by simp), if_neg (by decide)] at hk
      rw [hk] at h
      unfold flt at h
      rw [if_neg (by decide)] at h
      split at h
      · simp at h
      · simp at h
    · show kln ((c :: r).take (kln (c :: r)).2) = _
      rw [k1]
      exact Prod.ext rfl k2.symm
theorem bad_cons {t : Tok} {r : List Tok} {n : Nat} (h : bad (t :: r) n = none) : flt t.kind t.text n = 0 ∧ bad r (n + 1) = none := by
  simp only [bad] at h
  split at h
  · rename_i h0; exact ⟨h0, h⟩
  · cases h
theorem pcsAt_ind {P : Nat → List UInt8 → Prop} (h0 : ∀ a l, l.drop (skp false l) = [] → P a l)
    (h1 : ∀ a l, l.drop (skp false l) ≠ [] → P (a + skp false l + (kln (l.drop (skp false l))).2) ((l.drop (skp false l)).drop (kln (l.drop (skp false l))).2) → P a l) (a : Nat) (l : List UInt8) : P a l := by
  suffices h : ∀ n (a : Nat) (l : List UInt8), l.length ≤ n → P a l from h _ a l (Nat.le_refl _)
  intro n
  induction n with
  | zero => intro a l hl; exact h0 a l (List.drop_eq_nil_of_le (by omega))
  | succ n ih =>
    intro a l hl
    by_cases h : l.drop (skp false l) = []
    · exact h0 a l h
    · have hp := kln_pos' h
      exact h1 a l h (ih _ _ (by simp only [List.length_drop] at *; omega))
/-- Pieces that are right are fine. -/
theorem good_fine (a : Nat) (l : List UInt8) : ∀ n, bad (pcsAt a l) n = none → ∀ t ∈ pcsAt a l, fine t := by
  refine pcsAt_ind (P := fun a l => ∀ n, bad (pcsAt a l) n = none → ∀ t ∈ pcsAt a l, fine t) (fun a l h n _ t ht => by rw [pcsAt_end a l h] at ht; cases ht) (fun a l h ih n hb t ht => ?_) a l
  rw [pcsAt_cons a l h] at hb ht
  obtain ⟨hf, hb⟩ := bad_cons hb
  rcases List.mem_cons.1 ht with rfl | ht
  · exact (fine_first _ _ n h (skp_again false l) hf).2
  · exact ih _ hb t ht
/-- A text whose pieces are right, a byte 10, and another text. -/
theorem pcsAt_app (a : Nat) (l m : List UInt8) : ∀ n, bad (pcsAt a l) n = none → pcsAt a (l ++ 10 :: m) = pcsAt a l ++ pcsAt (a + l.length + 1) m := by
  refine pcsAt_ind (P := fun a l => ∀ n, bad (pcsAt a l) n = none → pcsAt a (l ++ 10 :: m) = pcsAt a l ++ pcsAt (a + l.length + 1) m) (fun a l h n _ => ?_) (fun a l h ih n hb => ?_) a l
  · have hk : skp false l = l.length := by have := List.drop_eq_nil_iff.1 h; have := skp_le false l; omega
    have hs := skp_app_all false l m hk
    rw [pcsAt_end a l h, List.nil_append, pcsAt_skip a (l ++ 10 :: m), hs, pcsAt_skip (a + l.length + 1) m]
    have e : (l ++ 10 :: m).drop (l.length + 1 + skp false m) = m.drop (skp false m) := by
      rw [show l.length + 1 + skp false m = l.length + (1 + skp false m) by omega, List.drop_length_add_append, Nat.add_comm 1, List.drop_succ_cons]
    rw [e]; congr 1; omega
  · have hlt : skp false l < l.length := by
      have := skp_le false l
      rcases Nat.lt_or_ge (skp false l) l.length with h2 | h2
      · exact h2
      · exact absurd (List.drop_eq_nil_of_le h2) h
    have hs := skp_app_lt false l m 10 (by decide) hlt
    have hd : (l ++ 10 :: m).drop (skp false l) = l.drop (skp false l) ++ 10 :: m := List.drop_append_of_le_length (Nat.le_of_lt hlt)
    rw [pcsAt_cons a l h] at hb ⊢
    obtain ⟨hf, hb⟩ := bad_cons hb
    have hsh := (fine_first _ a n h (skp_again false l) hf).1
    have hk := kln_app (l.drop (skp false l)) m 10 ⟨by decide, by decide, by decide, by decide⟩ h hsh
    have hp := kln_pos' h
    rw [pcsAt_cons a (l ++ 10 :: m) (by rw [hs, hd]; simp), hs, hd, hk]
    rw [List.take_append_of_le_length hp.2, List.drop_append_of_le_length hp.2, ih _ hb]
    simp only [List.cons_append, List.cons.injEq, true_and]
    congr 2
    simp only [List.length_drop] at *
    omega
theorem bad_move (ts : List Tok) (a b : Nat) (ha : a + ts.length ≤ 4000) (hb : b + ts.length ≤ 4000) : bad ts a = bad ts b := by
  have hf : ∀ (k : Int) (t : List UInt8) (n : Nat), n < 4000 → flt k t n = flt k t 0 := fun k t n h => by
    unfold flt; split
    · rfl
    · rw [if_neg (show ¬ 4000 ≤ n by omega), if_neg (show ¬ 4000 ≤ 0 by omega)]
  induction ts generalizing a b with
  | nil => rfl
  | cons t r ih =>
    simp only [List.length_cons] at ha hb
    simp only [bad]
    rw [hf _ _ a (by omega), hf _ _ b (by omega), ih (a + 1) (b + 1) (by omega) (by omega)]
theorem bad_key (ts us : List Tok) (n : Nat) (h : ts.map (fun t => (t.kind, t.text)) = us.map (fun t => (t.kind, t.text))) (hb : bad ts n = none) : bad us n = none := by
  induction ts generalizing us n with
  | nil =>
    cases us with
    | nil => rfl
    | cons u r => simp at h
  | cons t r ih =>
    cases us with
    | nil => simp at h
    | cons u q =>
      simp only [List.map_cons, List.cons.injEq, Prod.mk.injEq] at h
      obtain ⟨h1, h2⟩ := bad_cons hb
      simp only [bad]
      rw [← h.1.1, ← h.1.2, if_pos h1]
      exact ih q _ h.2 h2
theorem lexed_good' {l : List UInt8} (h : bad (toks l) 0 = none) : lexed l = (toks l, 0, 0) := by unfold lexed; rw [h]
theorem lexed_bad' {l : List UInt8} {a : Nat} {c : Int} (h : bad (toks l) 0 = some (a, c)) : lexed l = ([], a, c) := by unfold lexed; rw [h]
/-- What is answered is right just where nothing is wrong. -/
theorem lexed_cases (l : List UInt8) : (bad (toks l) 0 = none ∧ lexed l = (toks l, 0, 0)) ∨ ∃ a c, bad (toks l) 0 = some (a, c) ∧ lexed l = ([], a, c) := by
  cases h : bad (toks l) 0 with
  | none => exact .inl ⟨rfl, lexed_good' h⟩
  | some x => exact .inr ⟨x.1, x.2, rfl, lexed_bad' h⟩
theorem bad_some {ts : List Tok} {n a : Nat} {c : Int} (h : bad ts n = some (a, c)) : c ≠ 0 ∧ ∃ t ∈ ts, t.pos = a ∧ t.kind ≠ 0 := by
  induction ts generalizing n with
  | nil => cases h
  | cons t r ih =>
    simp only [bad] at h
    split at h
    · obtain ⟨h1, u, hu, h2⟩ := ih h
      exact ⟨h1, u, List.mem_cons_of_mem _ hu, h2⟩
    · rename_i h0
      injection h with h
      injection h with h1 h2
      refine ⟨by rw [← h2]; exact h0, t, List.mem_cons_self, h1, fun hk => h0 ?_⟩
      rw [hk]; exact flt_zero _ _
theorem bad_end (ts : List Tok) (e : Tok) (he : e.kind = 0) (n : Nat) : bad (ts ++ [e]) n = bad ts n := by
  induction ts generalizing n with
  | nil => simp [bad, he, flt]
  | cons t r ih =>
    simp only [List.cons_append, bad]
    rw [ih]
theorem bad_toks (l : List UInt8) (n : Nat) : bad (toks l) n = bad (pcsAt 0 l) n := bad_end _ _ rfl n
theorem toks_app (l m : List UInt8) (h : bad (toks l) 0 = none) : toks (l ++ 10 :: m) = pcsAt 0 l ++ (toks m).map (sh (l.length + 1)) := by
  rw [bad_toks] at h
  unfold toks
  rw [pcsAt_app 0 l m 0 h, List.map_append, ← pcsAt_shift, List.append_assoc, Nat.zero_add, Nat.zero_add]
  congr 2
  simp only [endTok, sh, List.map_cons, List.map_nil, List.length_append, List.length_cons, List.cons.injEq, Tok.mk.injEq, true_and, and_true]
  constructor <;> omega
/-! ## layout ahead -/
/-! ## tokens, with layout between -/
end Go.Proofs.YtlgaphopjdeklaaGreat
