/-
  Which types may be: plainly, by the parts. No condition.
-/
import Derived.Test.YtofdejoeheokjaaTsf
import Derived.Test.YtofdejoeheokjaaTpa
namespace Go.Proofs.Ytofdejoeheokjaa

/-- A part's own fields may be. -/
def fitG : GY → Bool
  | .mk k p m n l => fitY k n p m l.length
def is5 : GY → Bool
  | .mk k _ _ _ _ => decide (k = 5)
def cnt5 (l : List GY) : Nat := (l.filter is5).length
theorem cnt5_app (a b : List GY) : cnt5 (a ++ b) = cnt5 a + cnt5 b := by unfold cnt5; rw [List.filter_append, List.length_append]
theorem cnt5_cons (x : GY) (b : List GY) : cnt5 (x :: b) = (if is5 x then 1 else 0) + cnt5 b := by
  unfold cnt5
  by_cases h : is5 x
  · rw [List.filter_cons_of_pos h, if_pos h, List.length_cons]; omega
  · rw [List.filter_cons_of_neg h, if_neg h]; omega
/-- Those that may be, told by the parts. -/
theorem chk_pre : ∀ (t : GY) (d : Nat), d ≤ 30 → chkY okN d t = ((preY t).all fitG && decide (d + cnt5 (preY t) ≤ 30))
  | .mk k p m n l, d, hd => by
    rw [preY, List.all_cons, cnt5_cons]
    by_cases h5 : k = 5
    · subst h5
      have e5 : is5 (.mk 5 p m n l) = true := rfl
      have ef : fitG (.mk 5 p m n l) = (decide (p = ⟨#[]⟩) && decide (m = ⟨#[]⟩) && decide (n = 0) && decide (l.length = 1)) := by simp [fitG, fitY]
      rw [e5, ef, if_pos rfl]
      match l with
      | [] => simp [chkY, chkYs, knownK]
      | [y] =>
        have ih : d < 30 → chkY okN (d + 1) y = ((preY y).all fitG && decide (d + 1 + cnt5 (preY y) ≤ 30)) := fun h => chk_pre y (d + 1) (by omega)
        have e1 : preYs [y] = preY y := by rw [preYs, preYs, List.append_nil]
        rw [e1]
        by_cases hd' : d < 30
        · rw [show d + (1 + cnt5 (preY y)) = d + 1 + cnt5 (preY y) by omega]
          have := ih hd'
          rw [Bool.eq_iff_iff, chk_iff]
          simp only [Bool.and_eq_true, decide_eq_true_eq, List.length_singleton]
          rw [Bool.eq_iff_iff] at this
          simp only [Bool.and_eq_true, decide_eq_true_eq] at this
          constructor
          · rintro (⟨h, _⟩ | ⟨h, _⟩ | ⟨h, _⟩ | ⟨_, h1, h2, h3, _, z, hz, h4⟩)
            · omega
            · omega
            · omega
            · obtain rfl : y = z := by simpa using hz
              exact ⟨⟨⟨⟨⟨h1, h2⟩, h3⟩, trivial⟩, (this.1 h4).1⟩, (this.1 h4).2⟩
          · rintro ⟨⟨⟨⟨⟨h1, h2⟩, h3⟩, _⟩, h4⟩, h5⟩
            exact .inr (.inr (.inr ⟨trivial, h1, h2, h3, hd', y, rfl, this.2 ⟨h4, h5⟩⟩))
        · have e2 : decide (d + (1 + cnt5 (preY y)) ≤ 30) = false := decide_eq_false (by omega)
          rw [e2, Bool.and_false]
          cases hc : chkY okN d (.mk 5 p m n [y]) with
          | false => rfl
          | true =>
            rcases (chk_iff okN).1 hc with ⟨h, _⟩ | ⟨h, _⟩ | ⟨h, _⟩ | ⟨_, _, _, _, h, _⟩ <;> omega
      | _ :: _ :: _ =>
        simp [chkY, knownK]
    · have e5 : is5 (.mk k p m n l) = false := decide_eq_false h5
      rw [e5, if_neg (by decide), Nat.zero_add]
      rw [Bool.eq_iff_iff, chk_iff]
      simp only [Bool.and_eq_true, decide_eq_true_eq]
      have hl : l = [] → (preYs l).all fitG = true ∧ d + cnt5 (preYs l) ≤ 30 := by
        rintro rfl
        rw [preYs]
        exact ⟨by simp, by simp [cnt5]; omega⟩
      have ef : fitG (.mk k p m n l) = fitY k n p m l.length := rfl
      rw [ef]
      unfold fitY
      by_cases h0 : k = 0 ∨ k = 1 ∨ k = 2 ∨ k = 3 ∨ k = 7
      · rw [if_pos h0]
        simp only [Bool.and_eq_true, decide_eq_true_eq]
        constructor
        · rintro (⟨_, h1, h2, h3, h4⟩ | ⟨h, _⟩ | ⟨h, _⟩ | ⟨h, _⟩)
          · exact ⟨⟨⟨⟨⟨h1, h2⟩, h3⟩, by rw [h4]; rfl⟩, (hl h4).1⟩, (hl h4).2⟩
          · omega
          · omega
          · exact absurd h h5
        · rintro ⟨⟨⟨⟨⟨h1, h2⟩, h3⟩, h4⟩, _⟩, _⟩
          exact .inl ⟨h0, h1, h2, h3, List.length_eq_zero_iff.1 h4⟩
      · rw [if_neg h0]
        by_cases h4 : k = 4
        · rw [if_pos h4]
          simp only [Bool.and_eq_true, decide_eq_true_eq]
          constructor
          · rintro (⟨h, _⟩ | ⟨_, h1, h2, h3, h4⟩ | ⟨h, _⟩ | ⟨h, _⟩)
            · exact absurd h h0
            · exact ⟨⟨⟨⟨⟨h1, h2⟩, h3⟩, by rw [h4]; rfl⟩, (hl h4).1⟩, (hl h4).2⟩
            · omega
            · exact absurd h h5
          · rintro ⟨⟨⟨⟨⟨h1, h2⟩, h3⟩, h6⟩, _⟩, _⟩
            exact .inr (.inl ⟨h4, h1, h2, h3, List.length_eq_zero_iff.1 h6⟩)
        · rw [if_neg h4, if_neg h5]
          by_cases h6 : k = 6
          · rw [if_pos h6]
            simp only [Bool.and_eq_true, decide_eq_true_eq]
            constructor
            · rintro (⟨h, _⟩ | ⟨h, _⟩ | ⟨_, h1, h2, h3, h7, h8⟩ | ⟨h, _⟩)
              · exact absurd h h0
              · exact absurd h h4
              · exact ⟨⟨⟨⟨⟨⟨h1, h2⟩, h3⟩, h7⟩, by rw [h8]; rfl⟩, (hl h8).1⟩, (hl h8).2⟩
              · exact absurd h h5
            · rintro ⟨⟨⟨⟨⟨⟨h1, h2⟩, h3⟩, h7⟩, h8⟩, _⟩, _⟩
              exact .inr (.inr (.inl ⟨h6, h1, h2, h3, h7, List.length_eq_zero_iff.1 h8⟩))
          · rw [if_neg h6]
            constructor
            · rintro (⟨h, _⟩ | ⟨h, _⟩ | ⟨h, _⟩ | ⟨h, _⟩)
              · exact absurd h h0
              · exact absurd h h4
              · exact absurd h h6
              · exact absurd h h5
            · rintro ⟨⟨h, _⟩, _⟩
              cases h
theorem chk_stop {t : GY} {pre : List GY} (h : pre <+: preY t) (hb : pre.all fitG = false ∨ 30 < cnt5 pre) : chkY okN 0 t = false := by
  obtain ⟨r, hr⟩ := h
  rw [chk_pre t 0 (by omega), ← hr, List.all_append, cnt5_app]
  rcases hb with hb | hb
  · rw [hb]; rfl
  · rw [decide_eq_false (by omega), Bool.and_false]
theorem chk_done {t : GY} (h1 : (preY t).all fitG = true) (h2 : cnt5 (preY t) ≤ 30) : chkY okN 0 t = true := by
  rw [chk_pre t 0 (by omega), h1, decide_eq_true (by omega)]; rfl

/-! What is next behind a part: its own first one. -/
mutual
theorem suc_pre : ∀ (t : GY) (pre : List GY) (x : GY) (rest : List GY), preY t = pre ++ x :: rest → ∃ s, rest = preYs x.args ++ s
  | .mk k p m n l, [], x, rest, h => by
    rw [preY, List.nil_append, List.cons.injEq] at h
    obtain ⟨rfl, rfl⟩ := h
    exact ⟨[], by rw [List.append_nil]; rfl⟩
  | .mk k p m n l, z :: pre, x, rest, h => by
    rw [preY, List.cons_append, List.cons.injEq] at h
    exact suc_pres l pre x rest h.2
theorem suc_pres : ∀ (l : List GY) (pre : List GY) (x : GY) (rest : List GY), preYs l = pre ++ x :: rest → ∃ s, rest = preYs x.args ++ s
  | [], pre, x, rest, h => by rw [preYs] at h; simp at h
  | y :: r, pre, x, rest, h => by
    rw [preYs] at h
    rcases List.append_eq_append_iff.1 h with ⟨q, h1, h2⟩ | ⟨q, h1, h2⟩
    · exact suc_pres r q x rest h2
    · cases q with
      | nil =>
        rw [List.append_nil] at h1
        exact suc_pres r [] x rest h2.symm
      | cons z q =>
        rw [List.cons_append, List.cons.injEq] at h2
        obtain ⟨rfl, rfl⟩ := h2
        obtain ⟨s, hs⟩ := suc_pre y pre x q h1
        exact ⟨s ++ preYs r, by rw [hs, List.append_assoc]⟩
end

end Go.Proofs.Ytofdejoeheokjaa
