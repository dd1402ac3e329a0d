/-
  Plain: how far an expression reaches, and that there are steps enough. No condition.
-/
import Derived.Test.YtoppknnjnfgbiaaExm
namespace Go.Proofs.Ytoppknnjnfgbiaa

theorem isS_real {l : List TZ} {i : Int} {c : UInt8} (h : isS (tkAt l i) c = true) : 0 ≤ i ∧ i < l.length := tkAt_real (by rw [isS_kind h]; decide)
theorem isW_real {l : List TZ} {i : Int} {c : List UInt8} (h : isW (tkAt l i) c = true) : 0 ≤ i ∧ i < l.length := tkAt_real (by rw [isW_kind h]; decide)

/-- What is read is behind where it began, and not behind the last token. -/
theorem read_rng {l : List TZ} : ∀ f : Nat,
    (∀ k d i x j, k ≠ 0 → ex l f k d i = .ok x j → 0 ≤ i ∧ i < j ∧ j ≤ l.length) ∧
    (∀ k d a x i z j, k ≠ 0 → binT l f k d a x i = .ok z j → i ≤ j ∧ (j = i ∨ j ≤ l.length)) ∧
    (∀ d i x j, una l f d i = .ok x j → 0 ≤ i ∧ i < j ∧ j ≤ l.length) ∧
    (∀ d i x j, prim l f d i = .ok x j → 0 ≤ i ∧ i < j ∧ j ≤ l.length) ∧
    (∀ d a x i z j, post l f d a x i = .ok z j → i ≤ j ∧ (j = i ∨ j ≤ l.length)) ∧
    (∀ z d i ys j, lst l f z d i = .ok ys j → i < j ∧ j ≤ l.length) ∧
    (∀ z d i ys j, items l f z d i = .ok ys j → 0 ≤ i ∧ i < j ∧ j ≤ l.length) := by
  intro f
  induction f with
  | zero =>
    refine ⟨?_, ?_, ?_, ?_, ?_, ?_, ?_⟩ <;> intros <;> simp [ex, binT, una, prim, post, lst, items] at *
  | succ f ih =>
    obtain ⟨iE, iB, iU, iP, iT, iL, iI⟩ := ih
    refine ⟨?_, ?_, ?_, ?_, ?_, ?_, ?_⟩
    · intro k d i x j hk h
      unfold ex at h
      split at h
      · exact iU _ _ _ _ h
      · split at h
        · next y q hq =>
          have h1 := iE _ _ _ _ _ (by omega) hq
          have h2 := iB _ _ _ _ _ _ _ hk h
          omega
        · cases h
        · cases h
    · intro k d a x i z j hk h
      unfold binT at h
      split at h
      · split at h
        · next y q hq =>
          have h1 := iE _ _ _ _ _ (by omega) hq
          have h2 := iB _ _ _ _ _ _ _ hk h
          omega
        · cases h
        · cases h
      · injection h with h h'; omega
    · intro d i x j h
      unfold una at h
      split at h
      · next hn =>
        have hr := isS_real hn
        split at h
        · cases h
        · split at h
          · next y q hq =>
            injection h with h h'
            have := iU _ _ _ _ hq
            omega
          · cases h
          · cases h
      · split at h
        · next y q hq =>
          have h1 := iP _ _ _ _ hq
          have h2 := iT _ _ _ _ _ _ h
          omega
        · cases h
        · cases h
    · intro d i x j h
      unfold prim at h
      split at h
      · next hk =>
        have hr := tkAt_real (l := l) (i := i) (by rw [hk]; decide)
        split at h
        · injection h with h h'; omega
        · cases h
      split at h
      · next hk =>
        have hr := tkAt_real (l := l) (i := i) (by rw [hk]; decide)
        split at h
        · injection h with h h'; omega
        · cases h
      split at h
      · next hk => have hr := isW_real hk; injection h with h h'; omega
      split at h
      · next hk => have hr := isW_real hk; injection h with h h'; omega
      split at h
      · next hk =>
        have hr := tkAt_real (l := l) (i := i) (by rw [hk]; decide)
        injection h with h h'; omega
      split at h
      · next hk =>
        have hr := isS_real hk
        split at h
        · cases h
        · split at h
          · next y q hq =>
            have h1 := iE _ _ _ _ _ (by omega) hq
            split at h
            · next hc =>
              have hcr := isS_real hc
              injection h with h h'; omega
            · cases h
          · cases h
          · cases h
      split at h
      · next hk =>
        have hr := isW_real hk
        split at h
        · next t q hq =>
          have hp := prs_rng hq
          split at h
          · split at h
            · next ys r hys =>
              have := iL _ _ _ _ _ hys
              injection h with h h'; omega
            · cases h
            · cases h
          · cases h
        · cases h
      · cases h
    · intro d a x i z j h
      unfold post at h
      split at h
      · next hn =>
        have hr := isS_real hn
        split at h
        · next hk =>
          have hr2 := tkAt_real (l := l) (i := i + 1) (by rw [hk]; decide)
          have := iT _ _ _ _ _ _ h
          omega
        · cases h
      split at h
      · split at h
        · next ys q hys =>
          have h1 := iL _ _ _ _ _ hys
          have := iT _ _ _ _ _ _ h
          omega
        · cases h
        · cases h
      split at h
      · split at h
        · cases h
        · split at h
          · next y q hq =>
            have h1 := iE _ _ _ _ _ (by omega) hq
            split at h
            · next hc =>
              have hcr := isS_real hc
              have := iT _ _ _ _ _ _ h
              omega
            · cases h
          · cases h
          · cases h
      · injection h with h h'; omega
    · intro z d i ys j h
      unfold lst at h
      split at h
      · cases h
      split at h
      · next hn =>
        have hr := isS_real hn
        injection h with h h'; omega
      · have := iI _ _ _ _ _ h
        omega
    · intro z d i ys j h
      unfold items at h
      split at h
      · next y q hq =>
        have h1 := iE _ _ _ _ _ (by omega) hq
        split at h
        · split at h
          · next zs r hr =>
            have := iI _ _ _ _ _ hr
            injection h with h h'; omega
          · cases h
          · cases h
        · split at h
          · next hc =>
            have hcr := isS_real hc
            injection h with h h'; omega
          · cases h
      · cases h
      · cases h

/-- How many tokens are left. -/
def left (l : List TZ) (i : Int) : Nat := (l.length - i).toNat

/-- So many steps are enough. -/
theorem enough {l : List TZ} : ∀ f : Nat,
    (∀ k d i, 1 ≤ k → k ≤ 5 → 8 * left l i + 8 ≤ f + k → ex l f k d i ≠ .out) ∧
    (∀ k d a x i, 1 ≤ k → k ≤ 4 → 8 * left l i + 1 ≤ f → binT l f k d a x i ≠ .out) ∧
    (∀ d i, 8 * left l i + 2 ≤ f → una l f d i ≠ .out) ∧
    (∀ d i, 8 * left l i + 1 ≤ f → prim l f d i ≠ .out) ∧
    (∀ d a x i, 8 * left l i + 2 ≤ f → post l f d a x i ≠ .out) ∧
    (∀ z d (i : Int), 0 ≤ i → i < l.length → 8 * left l i + 1 ≤ f → lst l f z d i ≠ .out) ∧
    (∀ z d i, 8 * left l i + 8 ≤ f → items l f z d i ≠ .out) := by
  intro f
  induction f with
  | zero =>
    refine ⟨?_, ?_, ?_, ?_, ?_, ?_, ?_⟩ <;> intros <;> omega
  | succ f ih =>
    obtain ⟨iE, iB, iU, iP, iT, iL, iI⟩ := ih
    obtain ⟨rE, rB, rU, rP, rT, rL, rI⟩ := read_rng (l := l) f
    refine ⟨?_, ?_, ?_, ?_, ?_, ?_, ?_⟩
    · intro k d i h1 h5 hf
      unfold ex
      split
      · exact iU _ _ (by omega)
      · split
        · next y q hq =>
          have := rE _ _ _ _ _ (by omega) hq
          exact iB _ _ _ _ _ h1 (by omega) (by unfold left at *; omega)
        · intro h; cases h
        · next hq => exact (iE _ _ _ (by omega) (by omega) (by omega) hq).elim
    · intro k d a x i h1 h4 hf
      unfold binT
      split
      · next hl =>
        have hr := tkAt_real (l := l) (i := i) (by rw [lvl_kind (by rw [hl]; omega)]; decide)
        split
        · next y q hq =>
          have := rE _ _ _ _ _ (by omega) hq
          exact iB _ _ _ _ _ h1 h4 (by unfold left at *; omega)
        · intro h; cases h
        · next hq => exact (iE _ _ _ (by omega) (by omega) (by unfold left at *; omega) hq).elim
      · intro h; cases h
    · intro d i hf
      unfold una
      split
      · next hn =>
        have hr := isS_real hn
        split
        · intro h; cases h
        · split
          · intro h; cases h
          · intro h; cases h
          · next hq => exact (iU _ _ (by unfold left at *; omega) hq).elim
      · split
        · next y q hq =>
          have := rP _ _ _ _ hq
          exact iT _ _ _ _ (by unfold left at *; omega)
        · intro h; cases h
        · next hq => exact (iP _ _ (by omega) hq).elim
    · intro d i hf
      unfold prim
      split
      · split <;> (intro h; cases h)
      split
      · split <;> (intro h; cases h)
      split
      · intro h; cases h
      split
      · intro h; cases h
      split
      · intro h; cases h
      split
      · next hk =>
        have hr := isS_real hk
        split
        · intro h; cases h
        · split
          · split <;> (intro h; cases h)
          · intro h; cases h
          · next hq => exact (iE _ _ _ (by omega) (by omega) (by unfold left at *; omega) hq).elim
      split
      · next hk =>
        have hr := isW_real hk
        split
        · next t q hq =>
          have hp := prs_rng hq
          split
          · next hc =>
            have hcr := isS_real hc
            split
            · intro h; cases h
            · intro h; cases h
            · next hy => exact (iL 125 d q hcr.1 hcr.2 (by unfold left at *; omega) hy).elim
          · intro h; cases h
        · intro h; cases h
      · intro h; cases h
    · intro d a x i hf
      unfold post
      split
      · next hn =>
        have hr := isS_real hn
        split
        · exact iT _ _ _ _ (by unfold left at *; omega)
        · intro h; cases h
      split
      · next hn =>
        have hr := isS_real hn
        split
        · next ys q hys =>
          have := rL _ _ _ _ _ hys
          exact iT _ _ _ _ (by unfold left at *; omega)
        · intro h; cases h
        · next hq => exact (iL 41 d i hr.1 hr.2 (by omega) hq).elim
      split
      · next hn =>
        have hr := isS_real hn
        split
        · intro h; cases h
        · split
          · next y q hq =>
            have := rE _ _ _ _ _ (by omega) hq
            split
            · exact iT _ _ _ _ (by unfold left at *; omega)
            · intro h; cases h
          · intro h; cases h
          · next hq => exact (iE _ _ _ (by omega) (by omega) (by unfold left at *; omega) hq).elim
      · intro h; cases h
    · intro z d i h0 hl hf
      unfold lst
      split
      · intro h; cases h
      split
      · intro h; cases h
      · exact iI _ _ _ (by unfold left at *; omega)
    · intro z d i hf
      unfold items
      split
      · next y q hq =>
        have := rE _ _ _ _ _ (by omega) hq
        split
        · split
          · intro h; cases h
          · intro h; cases h
          · next hr => exact (iI _ _ _ (by unfold left at *; omega) hr).elim
        · split <;> (intro h; cases h)
      · intro h; cases h
      · next hq => exact (iE _ _ _ (by omega) (by omega) (by omega) hq).elim

end Go.Proofs.Ytoppknnjnfgbiaa
