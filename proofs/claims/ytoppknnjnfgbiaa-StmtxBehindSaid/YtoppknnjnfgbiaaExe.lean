/-
  Plain: what is wrong is wrong at a token; an expression in brackets. No condition.
-/
import Derived.Test.YtoppknnjnfgbiaaExt
namespace Go.Proofs.Ytoppknnjnfgbiaa

def AtTok (l : List TZ) (p c : Int) : Prop := (∃ q, p = (tkAt l q).pos) ∧ c ≠ 0

theorem elm_err {l : List TZ} {i p c : Int} (h : elm l i = .err p c) : AtTok l p c := by
  unfold elm at h
  split at h
  · split at h
    · split at h
      · cases h
      · injection h with h h'; exact ⟨⟨_, h.symm⟩, by rw [← h']; decide⟩
    · cases h
  · split at h
    · cases h
    · injection h with h h'; exact ⟨⟨_, h.symm⟩, by rw [← h']; decide⟩
theorem prs_err {l : List TZ} : ∀ {k : Nat} {i p c : Int}, prs l k i = .err p c → AtTok l p c
  | 0, i, p, c, h => by
    unfold prs at h
    split at h
    · injection h with h h'; exact ⟨⟨_, h.symm⟩, by rw [← h']; decide⟩
    · exact elm_err h
  | k + 1, i, p, c, h => by
    unfold prs at h
    split at h
    · split at h
      · cases hp : prs l k (i + 2) with
        | ok y n => rw [hp] at h; cases h
        | err q d => rw [hp] at h; injection h with h h'; subst h; subst h'; exact prs_err hp
      · injection h with h h'; exact ⟨⟨_, h.symm⟩, by rw [← h']; decide⟩
    · exact elm_err h

theorem read_err {l : List TZ} : ∀ f : Nat,
    (∀ k d i p c, ex l f k d i = .err p c → AtTok l p c) ∧
    (∀ k d a x i p c, binT l f k d a x i = .err p c → AtTok l p c) ∧
    (∀ d i p c, una l f d i = .err p c → AtTok l p c) ∧
    (∀ d i p c, prim l f d i = .err p c → AtTok l p c) ∧
    (∀ d a x i p c, post l f d a x i = .err p c → AtTok l p c) ∧
    (∀ z d i p c, lst l f z d i = .err p c → AtTok l p c) ∧
    (∀ z d i p c, items l f z d i = .err p c → AtTok l p c) := by
  intro f
  induction f with
  | zero =>
    refine ⟨?_, ?_, ?_, ?_, ?_, ?_, ?_⟩ <;> intros <;> simp [ex, binT, una, prim, post, lst, items] at *
  | succ f ih =>
    obtain ⟨iE, iB, iU, iP, iT, iL, iI⟩ := ih
    have self : ∀ {α : Type} {q : Int} {e : Int} {p c : Int}, e ≠ 0 → (EO.err (α := α) (tkAt l q).pos e) = .err p c → AtTok l p c := fun he h => by
      injection h with h h'; exact ⟨⟨_, h.symm⟩, by rw [← h']; exact he⟩
    refine ⟨?_, ?_, ?_, ?_, ?_, ?_, ?_⟩
    · intro k d i p c h
      unfold ex at h
      split at h
      · exact iU _ _ _ _ h
      · split at h
        · exact iB _ _ _ _ _ _ _ h
        · next hq => injection h with h h'; subst h; subst h'; exact iE _ _ _ _ _ hq
        · cases h
    · intro k d a x i p c h
      unfold binT at h
      split at h
      · split at h
        · exact iB _ _ _ _ _ _ _ h
        · next hq => injection h with h h'; subst h; subst h'; exact iE _ _ _ _ _ hq
        · cases h
      · cases h
    · intro d i p c h
      unfold una at h
      split at h
      · split at h
        · exact self (by decide) h
        · split at h
          · cases h
          · next hq => injection h with h h'; subst h; subst h'; exact iU _ _ _ _ hq
          · cases h
      · split at h
        · exact iT _ _ _ _ _ _ h
        · next hq => injection h with h h'; subst h; subst h'; exact iP _ _ _ _ hq
        · cases h
    · intro d i p c h
      unfold prim at h
      split at h
      · split at h
        · cases h
        · exact self (by decide) h
      split at h
      · split at h
        · cases h
        · exact self (by decide) h
      split at h
      · cases h
      split at h
      · cases h
      split at h
      · cases h
      split at h
      · split at h
        · exact self (by decide) h
        · split at h
          · split at h
            · cases h
            · exact self (by decide) h
          · next hq => injection h with h h'; subst h; subst h'; exact iE _ _ _ _ _ hq
          · cases h
      split at h
      · split at h
        · split at h
          · split at h
            · cases h
            · next hq => injection h with h h'; subst h; subst h'; exact iL _ _ _ _ _ hq
            · cases h
          · exact self (by decide) h
        · next hq => injection h with h h'; subst h; subst h'; exact prs_err hq
      · exact self (by decide) h
    · intro d a x i p c h
      unfold post at h
      split at h
      · split at h
        · exact iT _ _ _ _ _ _ h
        · exact self (by decide) h
      split at h
      · split at h
        · exact iT _ _ _ _ _ _ h
        · next hq => injection h with h h'; subst h; subst h'; exact iL _ _ _ _ _ hq
        · cases h
      split at h
      · split at h
        · exact self (by decide) h
        · split at h
          · split at h
            · exact iT _ _ _ _ _ _ h
            · exact self (by decide) h
          · next hq => injection h with h h'; subst h; subst h'; exact iE _ _ _ _ _ hq
          · cases h
      · cases h
    · intro z d i p c h
      unfold lst at h
      split at h
      · exact self (by decide) h
      split at h
      · cases h
      · exact iI _ _ _ _ _ h
    · intro z d i p c h
      unfold items at h
      split at h
      · split at h
        · split at h
          · cases h
          · next hq => injection h with h h'; subst h; subst h'; exact iI _ _ _ _ _ hq
          · cases h
        · split at h
          · cases h
          · exact self (by decide) h
      · next hq => injection h with h h'; subst h; subst h'; exact iE _ _ _ _ _ hq
      · cases h

/-- Each place of a token of a text lies in it. -/
theorem toks_pos (s : List UInt8) (q : Int) : 0 ≤ (tkAt ((toks s).map zTok) q).pos ∧ (tkAt ((toks s).map zTok) q).pos ≤ s.length := by
  have G := toks_good s
  have hend : tkAt ((toks s).map zTok) (((pcsAt 0 s).length : Nat) : Int) = zTok (endTok s) := tk_map (by unfold toks; simp)
  by_cases hq : 0 ≤ q ∧ q < ((toks s).map zTok).length
  · have hl := G.len
    have h1 := (G.pos (i := q) (j := ((pcsAt 0 s).length : Nat)) hq.1 (by omega) (Int.le_refl _)).1
    rw [hend] at h1
    obtain ⟨n, rfl⟩ : ∃ n : Nat, q = n := ⟨q.toNat, by omega⟩
    have hn : n < (toks s).length := by have := hq.2; rw [List.length_map] at this; omega
    have e := tk_map (ts := toks s) (List.getElem?_eq_getElem hn)
    rw [e] at h1 ⊢
    refine ⟨?_, h1⟩
    show (0 : Int) ≤ ((toks s)[n].pos : Nat)
    omega
  · rw [tkAt_out (by omega)]
    have e : endOf ((toks s).map zTok) = (s.length : Nat) := by
      have hl := G.len
      rw [endOf_last (k := (pcsAt 0 s).length) (t := zTok (endTok s)) (by rw [List.getElem?_map]; unfold toks; simp) hl]
      rfl
    rw [e]
    show (0 : Int) ≤ (s.length : Nat) ∧ ((s.length : Nat) : Int) ≤ s.length
    omega

/-- An expression that is all of l, in brackets. -/
theorem brack_ex {l m : List TZ} {b : Int} {e : Nat} (S : Sim l m b e) (G : Good l e) (h0 : isS (tkAt m 0) 40 = true) (h2 : (tkAt m ((e : Nat) + 2 : Int)).kind = 0) {f : Nat} {x : EX} (h : ex l (f + 1) 1 0 0 = .ok x (e : Nat)) :
    (∃ y, ex m (f + 8) 1 0 0 = .ok y ((e : Nat) + 2 : Int) ∧ Mov b x y) ∨ ∃ p, ex m (f + 8) 1 0 0 = .err p 6 := by
  have k0 : (tkAt m 0).kind = 4 := isS_kind h0
  have x0 : (tkAt m 0).text.data.toList = [40] := by
    unfold isS at h0
    simp only [Bool.and_eq_true, decide_eq_true_eq] at h0
    exact h0.2
  have l2 : lvlOf (tkAt m ((e : Nat) + 2 : Int)) = 0 := by unfold lvlOf; rw [h2, if_pos (by decide)]
  have n2 : ∀ c, isS (tkAt m ((e : Nat) + 2 : Int)) c = false := fun c => by unfold isS; rw [h2]; rfl
  have hs := (read_sim S G (f + 1)).1 1 0 0 x (e : Nat) (by decide) (Int.le_refl _) (by omega) h
  rw [show (0 : Int) + 1 = 1 by rfl, show (0 : Nat) + 1 = 1 by rfl] at hs
  have n0 : isS (tkAt m 0) 33 = false := by unfold isS; rw [x0]; simp
  have w0 : ∀ c, isW (tkAt m 0) c = false := fun c => by unfold isW; rw [k0]; rfl
  have up : prim m (f + 2) 0 0 = match ex m (f + 1) 1 1 1 with
      | .ok y j => if isS (tkAt m j) 41 then .ok y (j + 1) else .err (tkAt m j).pos 5
      | .err p c => .err p c
      | .out => .out := by
    rw [prim, if_neg (by rw [k0]; decide), if_neg (by rw [k0]; decide), if_neg (by rw [w0]; decide), if_neg (by rw [w0]; decide), if_neg (by rw [k0]; decide), if_pos h0, if_neg (by decide)]
    rfl
  have q0 : ∀ g y, post m (g + 1) 0 0 y ((e : Nat) + 2 : Int) = .ok y ((e : Nat) + 2 : Int) := fun g y => by
    rw [post, if_neg (by rw [n2]; decide), if_neg (by rw [n2]; decide), if_neg (by rw [n2]; decide)]
  have b0 : ∀ g k y, k ≠ 0 → binT m (g + 1) k 0 0 y ((e : Nat) + 2 : Int) = .ok y ((e : Nat) + 2 : Int) := fun g k y hk => by
    rw [binT, if_neg (by rw [l2]; exact fun q => hk q.symm)]
  rcases hs with ⟨y, hy, hm⟩ | ⟨p, hp⟩
  · refine .inl ⟨y, ?_, hm⟩
    have p1 : prim m (f + 2) 0 0 = .ok y ((e : Nat) + 2 : Int) := by
      rw [up, hy]
      show (if isS (tkAt m ((e : Nat) + 1 : Int)) 41 = true then _ else _) = _
      rw [if_pos S.shut, show ((e : Nat) : Int) + 1 + 1 = (e : Nat) + 2 by omega]
    have u1 : una m (f + 3) 0 0 = .ok y ((e : Nat) + 2 : Int) := by
      rw [una, if_neg (by rw [n0]; decide), p1]; exact q0 _ _
    have e5 : ex m (f + 4) 5 0 0 = .ok y ((e : Nat) + 2 : Int) := by rw [ex, if_pos rfl]; exact u1
    have e4 : ex m (f + 5) 4 0 0 = .ok y ((e : Nat) + 2 : Int) := by rw [ex, if_neg (by decide), e5]; exact b0 _ _ _ (by decide)
    have e3 : ex m (f + 6) 3 0 0 = .ok y ((e : Nat) + 2 : Int) := by rw [ex, if_neg (by decide), e4]; exact b0 _ _ _ (by decide)
    have e2 : ex m (f + 7) 2 0 0 = .ok y ((e : Nat) + 2 : Int) := by rw [ex, if_neg (by decide), e3]; exact b0 _ _ _ (by decide)
    rw [ex, if_neg (by decide), e2]; exact b0 _ _ _ (by decide)
  · refine .inr ⟨p, ?_⟩
    have p1 : prim m (f + 2) 0 0 = .err p 6 := by rw [up, hp]
    have u1 : una m (f + 3) 0 0 = .err p 6 := by rw [una, if_neg (by rw [n0]; decide), p1]
    have e5 : ex m (f + 4) 5 0 0 = .err p 6 := by rw [ex, if_pos rfl]; exact u1
    have e4 : ex m (f + 5) 4 0 0 = .err p 6 := by rw [ex, if_neg (by decide), e5]
    have e3 : ex m (f + 6) 3 0 0 = .err p 6 := by rw [ex, if_neg (by decide), e4]
    have e2 : ex m (f + 7) 2 0 0 = .err p 6 := by rw [ex, if_neg (by decide), e3]
    rw [ex, if_neg (by decide), e2]

end Go.Proofs.Ytoppknnjnfgbiaa
