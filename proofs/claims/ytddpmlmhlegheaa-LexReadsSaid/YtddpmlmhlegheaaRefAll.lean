/-
  The walk of the document's own 'All', and of 'Same'. Condition: the text has at most 2^41 bytes.
-/
import Derived.Test.YtddpmlmhlegheaaToken
import Derived.Test.YtddpmlmhlegheaaAll
namespace Go.Proofs.Ytddpmlmhlegheaa
open Go.RowKit
open Go.Lib hiding intOf

theorem qf_gen (r : List UInt8) (m : Nat) :
    qf r m = if run ne34 r < r.length ∧ run pla (r.take (run ne34 r)) = run ne34 r then (if 200 < m + run ne34 r then -1 else ((m + run ne34 r : Nat) : Int) + 2) else -1 := by
  induction r generalizing m with
  | nil => rfl
  | cons c r ih =>
    by_cases hc : c = 34
    · subst hc
      rw [run_miss r (by decide)]
      simp [qf, run]
    · rw [run_hit r (by simpa [ne34] using hc), List.take_succ_cons]
      by_cases hp : pla c = true
      · rw [run_hit _ hp]
        simp only [qf, if_neg hc, hp, if_true, List.length_cons]
        rw [ih]
        by_cases h : run ne34 r < r.length ∧ run pla (r.take (run ne34 r)) = run ne34 r
        · rw [if_pos h, if_pos (show run ne34 r + 1 < r.length + 1 ∧ run pla (r.take (run ne34 r)) + 1 = run ne34 r + 1 from ⟨by omega, by omega⟩)]
          rw [show m + 1 + run ne34 r = m + (run ne34 r + 1) by omega]
        · rw [if_neg h, if_neg (fun h' => h ⟨by omega, by omega⟩)]
      · have hp : pla c = false := by simpa using hp
        rw [run_miss _ hp]
        simp only [qf, if_neg hc, hp, Bool.false_eq_true, if_false]
        rw [if_neg (fun h => by omega)]

theorem flt_num (t : List UInt8) : flt 2 t 0 = if num t then 0 else 2 := by unfold flt; cases num t <;> simp
theorem flt_quo (t : List UInt8) : flt 3 t 0 = if quo t then 0 else 3 := by unfold flt; cases quo t <;> simp

theorem run_all (p : UInt8 → Bool) (l : List UInt8) (h : run p l = l.length) : ∀ c ∈ l, p c = true := by
  induction l with
  | nil => simp
  | cons c r ih =>
    by_cases hc : p c = true
    · rw [run_hit r hc, List.length_cons] at h
      intro x hx
      rcases List.mem_cons.1 hx with rfl | hx
      · exact hc
      · exact ih (by omega) x hx
    · rw [run_miss r (by simpa using hc)] at h; simp at h

theorem quo_piece (r : List UInt8) : quo ((34 :: r).take (if run ne34 r < r.length then run ne34 r + 2 else r.length + 1)) =
    (decide (run ne34 r < r.length) && (decide (run ne34 r ≤ 200) && decide (run pla (r.take (run ne34 r)) = run ne34 r))) := by
  by_cases h : run ne34 r < r.length
  · obtain ⟨c, r', hd, hc⟩ := run_stop ne34 r h
    have hc : c = 34 := by simpa [ne34] using hc
    subst hc
    have ht : r.take (run ne34 r + 1) = r.take (run ne34 r) ++ [34] := by
      rw [List.take_succ_eq_append_getElem h]
      rw [List.drop_eq_getElem_cons h] at hd
      injection hd with hd _
      rw [hd]
    have hl : (r.take (run ne34 r)).length = run ne34 r := by rw [List.length_take]; omega
    rw [if_pos h, List.take_succ_cons, ht]
    simp [quo, h, hl]
  · rw [if_neg h, List.take_of_length_le (by simp)]
    have hall := run_all ne34 r (by have := run_le ne34 r; omega)
    have hne : r.getLast? ≠ some 34 := fun e => by
      have := hall 34 (List.mem_of_getLast? e)
      revert this; decide
    simp [quo, h, hne]

theorem qf_quo (r : List UInt8) :
    (qf r 0 < 0 ↔ quo ((34 :: r).take (if run ne34 r < r.length then run ne34 r + 2 else r.length + 1)) = false) ∧
    (quo ((34 :: r).take (if run ne34 r < r.length then run ne34 r + 2 else r.length + 1)) = true → qf r 0 = ((if run ne34 r < r.length then run ne34 r + 2 else r.length + 1 : Nat) : Int)) := by
  rw [quo_piece, qf_gen]
  by_cases h1 : run ne34 r < r.length
  · by_cases h2 : run pla (r.take (run ne34 r)) = run ne34 r
    · by_cases h3 : run ne34 r ≤ 200
      · rw [if_pos ⟨h1, h2⟩, if_neg (by omega), if_pos h1]
        simp [h1, h2, h3]
        omega
      · rw [if_pos ⟨h1, h2⟩, if_pos (by omega)]
        simp [h3]
    · rw [if_neg (fun h => h2 h.2)]
      simp [h2]
  · rw [if_neg (fun h => h1 h.1)]
    simp [h1]

theorem refToken_any (s : ByteArray) (k : Nat) (w : World) (hs : s.size ≤ 9223372036854775807) (hk : k < s.size) :
    Calls Try.prog 21 #[.string s, .int .i64 (k : Nat)] w fun e w' => TokPost k (tokAt s.data.toList k).kind (kln (s.data.toList.drop k)).2 (flt (tokAt s.data.toList k).kind (tokAt s.data.toList k).text 0) w w' e := by
  unfold tokAt
  simp only
  have hp := kln_pos s[k] (s.data.toList.drop (k + 1))
  have hd := drop_cons s k hk
  rw [← hd, List.length_drop, size_toList] at hp
  have hkl := kln_cons s[k] (s.data.toList.drop (k + 1))
  rw [← hd] at hkl
  by_cases h1 : ltr s[k] = true
  · rw [if_pos h1] at hkl
    rw [hkl] at hp ⊢
    simp only at hp ⊢
    have hlen : ((s.data.toList.drop k).take (run nam (s.data.toList.drop k))).length = run nam (s.data.toList.drop k) := by
      rw [List.length_take, List.length_drop, size_toList]; omega
    have h := token_name s k _ w hs hk h1 rfl (by omega) _ rfl (fun h => by rw [ext_take] at h; have := kw_short h; rw [hlen] at this; omega)
    rw [ext_take] at h
    cases hx : kw ((s.data.toList.drop k).take (run nam (s.data.toList.drop k)))
    · rw [hx] at h
      have hf : flt 1 ((s.data.toList.drop k).take (run nam (s.data.toList.drop k))) 0 = if 40 < run nam (s.data.toList.drop k) then 4 else 0 := by
        simp [flt, hlen]
      simp only [Bool.false_eq_true, if_false] at h ⊢
      rw [hf]; exact h
    · rw [hx] at h
      have hs9 := kw_short hx
      rw [hlen] at hs9
      have hf : flt 5 ((s.data.toList.drop k).take (run nam (s.data.toList.drop k))) 0 = 0 := by simp [flt]
      simp only [if_true] at h ⊢
      rw [if_neg (by omega)] at h
      rw [hf]; exact h
  · have h1' : ltr s[k] = false := by simpa using h1
    rw [if_neg h1] at hkl
    by_cases h2 : dgt s[k] = true
    · rw [if_pos h2] at hkl
      rw [hkl] at hp ⊢
      simp only at hp ⊢
      have hlen : ((s.data.toList.drop k).take (run dgt (s.data.toList.drop k))).length = run dgt (s.data.toList.drop k) := by
        rw [List.length_take, List.length_drop, size_toList]; omega
      have hhead : ((s.data.toList.drop k).take (run dgt (s.data.toList.drop k))).head? = some s[k] := by
        obtain ⟨n, hn⟩ : ∃ n, run dgt (s.data.toList.drop k) = n + 1 := ⟨run dgt (s.data.toList.drop k) - 1, by omega⟩
        rw [hn, hd, List.take_succ_cons]; rfl
      have hnum : num ((s.data.toList.drop k).take (run dgt (s.data.toList.drop k))) = (decide (run dgt (s.data.toList.drop k) ≤ 15) && (s[k] != 48 || decide (run dgt (s.data.toList.drop k) = 1))) := by
        unfold num; rw [hlen, hhead]; rfl
      have h := token_number s k _ w hs hk h1' h2 rfl (by omega) _ rfl (by omega)
      rw [← hnum] at h
      rw [flt_num]; exact h
    · have h2' : dgt s[k] = false := by simpa using h2
      rw [if_neg h2] at hkl
      by_cases h3 : s[k] = 34
      · rw [if_pos h3] at hkl
        rw [hkl] at hp ⊢
        simp only at hp ⊢
        obtain ⟨q1, q2⟩ := qf_quo (s.data.toList.drop (k + 1))
        have hd34 : s.data.toList.drop k = 34 :: s.data.toList.drop (k + 1) := by rw [hd, h3]
        rw [← hd34] at q1 q2
        generalize (if run ne34 (s.data.toList.drop (k + 1)) < (s.data.toList.drop (k + 1)).length then run ne34 (s.data.toList.drop (k + 1)) + 2 else (s.data.toList.drop (k + 1)).length + 1) = n at *
        rw [flt_quo]
        refine token_text s k n w hs hk h1' h2' h3 _ ?_
        cases hq : quo ((s.data.toList.drop k).take n)
        · rw [if_pos (q1.2 hq)]; rfl
        · rw [if_neg (fun h => by rw [q1.1 h] at hq; cases hq), q2 hq]; rfl
      · rw [if_neg h3] at hkl
        by_cases h4 : (s[k] = 61 ∧ (s.data.toList.drop (k + 1)).head? = some 61) ∨ (s[k] = 38 ∧ (s.data.toList.drop (k + 1)).head? = some 38)
        · rw [if_pos h4] at hkl
          rw [hkl] at hp ⊢
          simp only at hp ⊢
          have hf : flt 4 ((s.data.toList.drop k).take 2) 0 = 0 := by simp [flt]
          rw [hf]
          refine token_two s k w hs hk h1' h2' h3 (by omega) _ _ rfl rfl ?_
          rcases h4 with h4 | h4
          · left; rw [hd]; exact decide_eq_true ((take2_iff _ _ _ _).2 h4)
          · right; rw [hd]; exact decide_eq_true ((take2_iff _ _ _ _).2 h4)
        · rw [if_neg h4] at hkl
          have h := token_one s k w hs hk h1' h2' h3 (by rw [hd]; exact decide_eq_false fun h => h4 (.inl ((take2_iff _ _ _ _).1 h))) (by rw [hd]; exact decide_eq_false fun h => h4 (.inr ((take2_iff _ _ _ _).1 h))) _ rfl
          rw [hkl]
          by_cases h5 : s[k] ∈ syms
          · rw [if_pos h5]
            rw [show decide (s[k] ∈ (⟨#[40, 41, 123, 125, 91, 93, 44, 59, 46, 61, 60, 43, 45, 42, 33]⟩ : ByteArray).data.toList) = true from decide_eq_true h5] at h
            have hf : flt 4 ((s.data.toList.drop k).take 1) 0 = 0 := by simp [flt]
            simp only
            rw [hf]; exact h
          · rw [if_neg h5]
            rw [show decide (s[k] ∈ (⟨#[40, 41, 123, 125, 91, 93, 44, 59, 46, 61, 60, 43, 45, 42, 33]⟩ : ByteArray).data.toList) = false from decide_eq_false h5] at h
            have hf : flt (-1) ((s.data.toList.drop k).take 1) 0 = 1 := by simp [flt]
            simp only
            rw [hf]
            exact h.mono fun e w' ⟨K, E, he, _, hb⟩ => ⟨K, E, he, fun h => absurd h (by decide), hb⟩

end Go.Proofs.Ytddpmlmhlegheaa
