/-
  Plain: the kinds and names of a row of statements. No condition.
-/
import Derived.Test.YtoppknnjnfgbiaaStm
namespace Go.Proofs.Ytoppknnjnfgbiaa

def kindB (s : SX) : List UInt8 := UInt8.ofNat (48 + s.kind.toNat) :: (s.name.data.toList ++ [32])
def kindsOf : List SX → List UInt8
  | [] => []
  | s :: r => kindB s ++ kindsOf r
theorem kindsOf_app : ∀ (x y : List SX), kindsOf (x ++ y) = kindsOf x ++ kindsOf y
  | [], y => rfl
  | s :: r, y => by rw [List.cons_append, kindsOf, kindsOf_app r y, kindsOf, List.append_assoc]
theorem kindsOf_sh (b : Int) : ∀ x : List SX, kindsOf (shSL b x) = kindsOf x
  | [] => by unfold shSL; rfl
  | .mk k p n h x u v :: r => by
    unfold shSL
    rw [kindsOf, kindsOf_sh b r, kindsOf]
    congr 1
theorem kindsOf_snoc (x : List SX) (s : SX) : kindsOf (x ++ [s]) = kindsOf x ++ kindB s := by rw [kindsOf_app, kindsOf, kindsOf, List.append_nil]

/-- A statement as the chapter makes it. -/
def okS (B : Nat) (s : SX) : Prop := 1 ≤ s.kind ∧ s.kind ≤ 6 ∧ s.name.size ≤ B

theorem exThen_ok {l : List TZ} {F : Nat} {z : UInt8} {i : Int} {g : EX → SX} {s : SX} {j : Int} {B : Nat} (hg : ∀ x, okS B (g x)) (h : exThen l F z i g = .ok s j) : okS B s := by
  unfold exThen at h
  split at h
  · split at h
    · injection h with h h'; rw [← h]; exact hg _
    · cases h
  · cases h
  · cases h
theorem stm_ok {l : List TZ} {B : Nat} (hB : ∀ i, (tkAt l i).text.size ≤ B) {F f d : Nat} {i j : Int} {s : SX} (h : stm l F f d i = .ok s j) : okS B s := by
  cases f with
  | zero => simp [stm] at h
  | succ f =>
    have e0 : ∀ (k p : Int) (b : Bool) (x : EX) (u v : List SX), 1 ≤ k → k ≤ 6 → okS B (.mk k p ⟨#[]⟩ b x u v) := fun k p b x u v h1 h2 => ⟨h1, h2, Nat.zero_le _⟩
    have e1 : ∀ (k p q : Int) (b : Bool) (x : EX) (u v : List SX), 1 ≤ k → k ≤ 6 → okS B (.mk k p (tkAt l q).text b x u v) := fun k p q b x u v h1 h2 => ⟨h1, h2, hB q⟩
    rw [stm] at h
    split at h
    · split at h
      · split at h
        · exact exThen_ok (fun x => e1 _ _ _ _ _ _ _ (by decide) (by decide)) h
        · cases h
      · cases h
    split at h
    · split at h
      · injection h with h h'; rw [← h]; exact e0 _ _ _ _ _ _ (by decide) (by decide)
      · exact exThen_ok (fun x => e0 _ _ _ _ _ _ (by decide) (by decide)) h
    split at h
    · split at h
      · split at h
        · split at h
          · split at h
            · injection h with h h'; rw [← h]; exact e0 _ _ _ _ _ _ (by decide) (by decide)
            · cases h
            · cases h
          · injection h with h h'; rw [← h]; exact e0 _ _ _ _ _ _ (by decide) (by decide)
        · cases h
        · cases h
      · cases h
      · cases h
    split at h
    · split at h
      · split at h
        · injection h with h h'; rw [← h]; exact e0 _ _ _ _ _ _ (by decide) (by decide)
        · cases h
        · cases h
      · cases h
      · cases h
    split at h
    · exact exThen_ok (fun x => e1 _ _ _ _ _ _ _ (by decide) (by decide)) h
    · exact exThen_ok (fun x => e0 _ _ _ _ _ _ (by decide) (by decide)) h

theorem rows_ok {l : List TZ} {B : Nat} (hB : ∀ i, (tkAt l i).text.size ≤ B) {F : Nat} : ∀ {f d : Nat} {i j : Int} {X : List SX}, rows l F f d i = .ok X j → (∀ s ∈ X, okS B s) ∧ (X.length : Int) < j - i
  | 0, d, i, j, X, h => by simp [rows] at h
  | f + 1, d, i, j, X, h => by
    rw [rows] at h
    split at h
    · injection h with h h'
      rw [← h]
      exact ⟨fun s hs => (by cases hs), by simp only [List.length_nil]; omega⟩
    · split at h
      · next t p hp =>
        have h1 := (stm_rng (l := l) (F := F) f).2.2 _ _ _ _ hp
        split at h
        · next r u hu =>
          have h2 := rows_ok hB hu
          injection h with h h'
          rw [← h]
          refine ⟨fun s hs => ?_, by rw [List.length_cons]; omega⟩
          rcases List.mem_cons.1 hs with rfl | hs
          · exact stm_ok hB hp
          · exact h2.1 s hs
        · cases h
        · cases h
      · cases h
      · cases h
theorem blk_ok {l : List TZ} {B : Nat} (hB : ∀ i, (tkAt l i).text.size ≤ B) {F f d : Nat} {i j : Int} {X : List SX} (h : blk l F f d i = .ok X j) : (∀ s ∈ X, okS B s) ∧ (X.length : Int) < j - i := by
  cases f with
  | zero => simp [blk] at h
  | succ f =>
    rw [blk] at h
    split at h
    · split at h
      · cases h
      · have := rows_ok hB h; exact ⟨this.1, by omega⟩
    · cases h

theorem kindsOf_len {B : Nat} : ∀ {X : List SX}, (∀ s ∈ X, okS B s) → (kindsOf X).length ≤ X.length * (B + 2)
  | [], _ => Nat.zero_le _
  | s :: r, h => by
    have h1 := (h s List.mem_cons_self).2.2
    have h2 := kindsOf_len (X := r) fun x hx => h x (List.mem_cons_of_mem _ hx)
    have h3 : s.name.data.toList.length ≤ B := by simpa using h1
    have h4 : (r.length + 1) * (B + 2) = r.length * (B + 2) + (B + 2) := by rw [Nat.add_mul, Nat.one_mul]
    rw [kindsOf, kindB, List.length_cons, h4]
    simp only [List.length_append, List.length_cons, List.length_nil]
    omega

end Go.Proofs.Ytoppknnjnfgbiaa
