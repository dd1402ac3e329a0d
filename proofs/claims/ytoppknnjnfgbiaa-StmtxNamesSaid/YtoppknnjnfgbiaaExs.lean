/-
  Plain: the same tokens within brackets tell the same, but for places. No condition.
-/
import Derived.Test.YtoppknnjnfgbiaaExf
namespace Go.Proofs.Ytoppknnjnfgbiaa

mutual
/-- One expression is another, so many bytes behind it. -/
def Mov (b : Int) : EX → EX → Prop
  | .mk k p s n m _ us, .mk k' p' s' n' m' _ vs => k = k' ∧ p + b = p' ∧ s + b = s' ∧ n = n' ∧ m = m' ∧ MovL b us vs
def MovL (b : Int) : List EX → List EX → Prop
  | [], [] => True
  | x :: r, y :: t => Mov b x y ∧ MovL b r t
  | _, _ => False
end

theorem Mov.pos {b : Int} {x y : EX} (h : Mov b x y) : x.pos + b = y.pos ∧ x.stop + b = y.stop := by
  cases x; cases y
  unfold Mov at h
  exact ⟨h.2.1, h.2.2.1⟩
theorem Mov.bin {b : Int} {x x' y y' : EX} (hx : Mov b x x') (hy : Mov b y y') {p p' e e' : Int} (hp : p' = p + b) (he : e' = e + b) (op : ByteArray) : Mov b (mkBin p e op x y) (mkBin p' e' op x' y') := by
  unfold mkBin Mov MovL MovL MovL
  exact ⟨rfl, hp.symm, he.symm, rfl, rfl, hx, hy, trivial⟩

/-- The tokens of l up to e stand in m one place behind, b bytes on; at e l ends and m has a bracket. -/
structure Sim (l m : List TZ) (b : Int) (e : Nat) : Prop where
  kind : ∀ j : Int, 0 ≤ j → j < e → (tkAt m (j + 1)).kind = (tkAt l j).kind
  text : ∀ j : Int, 0 ≤ j → j < e → (tkAt m (j + 1)).text = (tkAt l j).text
  pos : ∀ j : Int, 0 ≤ j → j < e → (tkAt m (j + 1)).pos = (tkAt l j).pos + b
  stop : ∀ j : Int, 0 ≤ j → j < e → (tkAt m (j + 1)).stop = (tkAt l j).stop + b
  last : (tkAt l e).kind = 0
  shut : isS (tkAt m ((e : Nat) + 1 : Int)) 41 = true

def Tells (b : Int) (r : EO EX) (x : EX) (j : Int) : Prop := (∃ y, r = .ok y (j + 1) ∧ Mov b x y) ∨ ∃ p, r = .err p 6
def TellsL (b : Int) (r : EO (List EX)) (x : List EX) (j : Int) : Prop := (∃ y, r = .ok y (j + 1) ∧ MovL b x y) ∨ ∃ p, r = .err p 6

section
variable {l m : List TZ} {b : Int} {e : Nat}

theorem Sim.sym (S : Sim l m b e) {i : Int} (h0 : 0 ≤ i) (h1 : i < e) (c : UInt8) : isS (tkAt m (i + 1)) c = isS (tkAt l i) c := by
  unfold isS; rw [S.kind i h0 h1, S.text i h0 h1]
theorem Sim.word (S : Sim l m b e) {i : Int} (h0 : 0 ≤ i) (h1 : i < e) (c : List UInt8) : isW (tkAt m (i + 1)) c = isW (tkAt l i) c := by
  unfold isW; rw [S.kind i h0 h1, S.text i h0 h1]
theorem Sim.lvl (S : Sim l m b e) {i : Int} (h0 : 0 ≤ i) (h1 : i < e) : lvlOf (tkAt m (i + 1)) = lvlOf (tkAt l i) := by
  unfold lvlOf; rw [S.kind i h0 h1, S.text i h0 h1]
theorem Sim.kt (S : Sim l m b e) {i : Int} (h0 : 0 ≤ i) (h1 : i < e) (k : Int) (c : ByteArray) : isKT (tkAt m (i + 1)) k c = isKT (tkAt l i) k c := by
  unfold isKT; rw [S.kind i h0 h1, S.text i h0 h1]

theorem Sim.no_sym (S : Sim l m b e) (c : UInt8) : isS (tkAt l (e : Nat)) c = false := by
  unfold isS; rw [S.last]; rfl
theorem Sim.shut_no (S : Sim l m b e) {c : UInt8} (hc : c ≠ 41) : isS (tkAt m ((e : Nat) + 1 : Int)) c = false := by
  have h := S.shut
  unfold isS at h ⊢
  simp only [Bool.and_eq_true, decide_eq_true_eq] at h
  have hn : ¬ ([41] : List UInt8) = [c] := fun q => hc (by injection q with q; exact q.symm)
  rw [h.2, decide_eq_false (p := ([41] : List UInt8) = [c]) hn, Bool.and_false]
theorem Sim.shut_lvl (S : Sim l m b e) : lvlOf (tkAt m ((e : Nat) + 1 : Int)) = 0 := by
  have h := S.shut
  unfold isS at h
  simp only [Bool.and_eq_true, decide_eq_true_eq] at h
  unfold lvlOf
  rw [h.2, if_neg (by rw [h.1]; decide)]
  decide
theorem Sim.last_lvl (S : Sim l m b e) : lvlOf (tkAt l (e : Nat)) = 0 := by
  unfold lvlOf; rw [S.last, if_pos (by decide)]

theorem Sim.prs_sim (S : Sim l m b e) : ∀ (k : Nat) (i : Int) (t : TX) (j : Int), 0 ≤ i → prs l k i = .ok t j → j < e → ∃ t', prs m k (i + 1) = .ok t' (j + 1) := by
  have el : ∀ (i : Int) (t : TX) (j : Int), 0 ≤ i → elm l i = .ok t j → j < e → ∃ t', elm m (i + 1) = .ok t' (j + 1) := by
    intro i t j h0 h hj
    have hr := elm_rng h
    have k0 := S.kind i h0 (by omega)
    have x0 := S.text i h0 (by omega)
    unfold elm at h ⊢
    rw [k0, x0]
    split at h
    · next h1 =>
      rw [if_pos h1]
      split at h
      · next h2 =>
        split at h
        · next h3 =>
          injection h with h h'
          have k2 := S.kind (i + 2) (by omega) (by omega)
          have s1 := S.kt (i := i + 1) (by omega) (by omega) 4 ⟨#[46]⟩
          rw [s1, h2, if_pos rfl, show i + 1 + 2 = i + 2 + 1 by omega, k2, if_pos h3]
          exact ⟨_, by rw [show j + 1 = i + 1 + 3 by omega]⟩
        · cases h
      · next h2 =>
        injection h with h h'
        have s1 := S.kt (i := i + 1) (by omega) (by omega) 4 ⟨#[46]⟩
        rw [s1, if_neg h2]
        exact ⟨_, by rw [show j + 1 = i + 1 + 1 by omega]⟩
    · next h1 =>
      rw [if_neg h1]
      split at h
      · next h5 =>
        rw [if_pos h5]
        injection h with h h'
        exact ⟨_, by rw [show j + 1 = i + 1 + 1 by omega]⟩
      · cases h
  intro k
  induction k with
  | zero =>
    intro i t j h0 h hj
    have hr := prs_rng h
    have s0 := S.kt (i := i) h0 (by omega) 4 ⟨#[91]⟩
    unfold prs at h ⊢
    rw [s0]
    split at h
    · cases h
    · next h1 => rw [if_neg h1]; exact el i t j h0 h hj
  | succ k ih =>
    intro i t j h0 h hj
    have hr := prs_rng h
    have s0 := S.kt (i := i) h0 (by omega) 4 ⟨#[91]⟩
    unfold prs at h ⊢
    rw [s0]
    split at h
    · next h1 =>
      rw [if_pos h1]
      split at h
      · next h2 =>
        cases hp : prs l k (i + 2) with
        | ok y n =>
          rw [hp] at h
          injection h with h h'
          subst h'
          have hr2 := prs_rng hp
          have s1 := S.kt (i := i + 1) (by omega) (by omega) 4 ⟨#[93]⟩
          obtain ⟨t', ht⟩ := ih (i + 2) y n (by omega) hp hj
          rw [s1, if_pos h2, show i + 1 + 2 = i + 2 + 1 by omega, ht]
          exact ⟨_, rfl⟩
        | err q d => rw [hp] at h; cases h
      · cases h
    · next h1 => rw [if_neg h1]; exact el i t j h0 h hj

theorem read_sim (S : Sim l m b e) (G : Good l e) : ∀ f : Nat,
    (∀ k d (i : Int) x j, k ≠ 0 → 0 ≤ i → i ≤ e → ex l f k d i = .ok x j → Tells b (ex m f k (d + 1) (i + 1)) x j) ∧
    (∀ k d (a : Int) x x' (i : Int) z j, k ≠ 0 → 0 ≤ i → i ≤ e → 0 ≤ a → a < e → Mov b x x' → binT l f k d a x i = .ok z j → Tells b (binT m f k (d + 1) (a + 1) x' (i + 1)) z j) ∧
    (∀ d (i : Int) x j, 0 ≤ i → i ≤ e → una l f d i = .ok x j → Tells b (una m f (d + 1) (i + 1)) x j) ∧
    (∀ d (i : Int) x j, 0 ≤ i → i ≤ e → prim l f d i = .ok x j → Tells b (prim m f (d + 1) (i + 1)) x j) ∧
    (∀ d (a : Int) x x' (i : Int) z j, 0 ≤ i → i ≤ e → 0 ≤ a → a < e → Mov b x x' → post l f d a x i = .ok z j → Tells b (post m f (d + 1) (a + 1) x' (i + 1)) z j) ∧
    (∀ z d (i : Int) ys j, 0 ≤ i → i < e → lst l f z d i = .ok ys j → TellsL b (lst m f z (d + 1) (i + 1)) ys j) ∧
    (∀ z d (i : Int) ys j, 0 ≤ i → i ≤ e → items l f z d i = .ok ys j → TellsL b (items m f z (d + 1) (i + 1)) ys j) := by
  intro f
  induction f with
  | zero =>
    refine ⟨?_, ?_, ?_, ?_, ?_, ?_, ?_⟩ <;> intros <;> simp [ex, binT, una, prim, post, lst, items] at *
  | succ f ih =>
    obtain ⟨iE, iB, iU, iP, iT, iL, iI⟩ := ih
    obtain ⟨rE, rB, rU, rP, rT, rL, rI⟩ := read_lies G f
    refine ⟨?_, ?_, ?_, ?_, ?_, ?_, ?_⟩
    · intro k d i x j hk h0 h1 h
      unfold ex at h ⊢
      split at h
      · next h5 => rw [if_pos h5]; exact iU _ _ _ _ h0 h1 h
      · next h5 =>
        rw [if_neg h5]
        split at h
        · next y q hq =>
          have hr := rE _ _ _ _ _ (by omega) hq
          rcases iE _ _ _ _ _ (by omega) h0 h1 hq with ⟨y', hy', hm⟩ | ⟨p, hp⟩
          · rw [hy']
            exact iB _ _ _ _ _ _ _ _ hk (by have := hr.1; have := hr.2.1; omega) hr.2.2.1 hr.1 (by have := hr.2.1; have := hr.2.2.1; omega) hm h
          · rw [hp]; exact .inr ⟨p, rfl⟩
        · cases h
        · cases h
    · intro k d a x x' i z j hk h0 h1 ha0 ha1 hm h
      unfold binT at h ⊢
      split at h
      · next hl =>
        have hr := G.real (i := i) (by rw [lvl_kind (by rw [hl]; exact hk)]; decide)
        rw [S.lvl h0 hr.2, if_pos hl]
        split at h
        · next y q hq =>
          have hs := rE _ _ _ _ _ (by omega) hq
          rcases iE _ _ _ _ _ (by omega) (by omega) (by omega) hq with ⟨y', hy', hmy⟩ | ⟨p, hp⟩
          · rw [hy', S.text i h0 hr.2]
            have st := S.stop (q - 1) (by have := hs.1; have := hs.2.1; omega) (by have := hs.2.2.1; omega)
            rw [show q - 1 + 1 = q + 1 - 1 by omega] at st
            exact iB _ _ _ _ _ _ _ _ hk (by have := hs.1; have := hs.2.1; omega) hs.2.2.1 ha0 ha1 (hm.bin hmy (S.pos a ha0 ha1) st _) h
          · rw [hp]; exact .inr ⟨p, rfl⟩
        · cases h
        · cases h
      · next hl =>
        injection h with h h'
        subst h; subst h'
        have hl2 : lvlOf (tkAt m (i + 1)) ≠ k := by
          by_cases hi : i < e
          · rw [S.lvl h0 hi]; exact hl
          · rw [show i = (e : Nat) by omega, S.shut_lvl]; exact fun q => hk q.symm
        rw [if_neg hl2]
        exact .inl ⟨x', rfl, hm⟩
    · intro d i x j h0 h1 h
      unfold una at h ⊢
      split at h
      · next hn =>
        have hr := G.sym hn
        rw [S.sym h0 hr.2, if_pos hn]
        split at h
        · cases h
        · split
          · exact .inr ⟨_, rfl⟩
          · split at h
            · next y q hq =>
              injection h with h h'; subst h; subst h'
              have hs := rU _ _ _ _ hq
              rcases iU _ _ _ _ (by omega) (by omega) hq with ⟨y', hy', hmy⟩ | ⟨p, hp⟩
              · rw [hy']
                refine .inl ⟨_, rfl, ?_⟩
                have st := S.stop (q - 1) (by have := hs.1; have := hs.2.1; omega) (by have := hs.2.2.1; omega)
                rw [show q - 1 + 1 = q + 1 - 1 by omega] at st
                unfold mkNot Mov MovL MovL
                exact ⟨rfl, (S.pos i h0 hr.2).symm, st.symm, rfl, rfl, hmy, trivial⟩
              · rw [hp]; exact .inr ⟨p, rfl⟩
            · cases h
            · cases h
      · next hn =>
        split at h
        · next y q hq =>
          have hs := rP _ _ _ _ hq
          have hi : i < e := by have := hs.2.1; have := hs.2.2.1; omega
          rw [S.sym h0 hi, if_neg hn]
          rcases iP _ _ _ _ h0 h1 hq with ⟨y', hy', hmy⟩ | ⟨p, hp⟩
          · rw [hy']
            exact iT _ _ _ _ _ _ _ (by have := hs.1; have := hs.2.1; omega) hs.2.2.1 h0 hi hmy h
          · rw [hp]; exact .inr ⟨p, rfl⟩
        · cases h
        · cases h
    · intro d i x j h0 h1 h
      have hi : i < e := by
        have hs := (read_lies G (f + 1)).2.2.2.1 _ _ _ _ h
        have := hs.2.1; have := hs.2.2.1; omega
      have k0 := S.kind i h0 hi
      have x0 := S.text i h0 hi
      have p0 := S.pos i h0 hi
      have s0 := S.stop i h0 hi
      have leaf : ∀ (k n : Int) (nm : ByteArray), Mov b (.mk k (tkAt l i).pos (tkAt l i).stop n nm noTX []) (.mk k (tkAt m (i + 1)).pos (tkAt m (i + 1)).stop n nm noTX []) := by
        intro k n nm
        unfold Mov MovL
        exact ⟨rfl, p0.symm, s0.symm, rfl, rfl, trivial⟩
      unfold prim at h ⊢
      rw [k0, x0]
      split at h
      · next hk =>
        rw [if_pos hk]
        split at h
        · next n hn => injection h with h h'; subst h; subst h'; exact .inl ⟨_, rfl, leaf _ _ _⟩
        · cases h
      next hk2 =>
      rw [if_neg hk2]
      split at h
      · next hk =>
        rw [if_pos hk]
        split at h
        · next hq => injection h with h h'; subst h; subst h'; rw [if_pos hq]; exact .inl ⟨_, rfl, leaf _ _ _⟩
        · cases h
      next hk3 =>
      rw [if_neg hk3, S.word h0 hi]
      split at h
      · next hk => rw [if_pos hk]; injection h with h h'; subst h; subst h'; exact .inl ⟨_, rfl, leaf _ _ _⟩
      next hk4 =>
      rw [if_neg hk4, S.word h0 hi]
      split at h
      · next hk => rw [if_pos hk]; injection h with h h'; subst h; subst h'; exact .inl ⟨_, rfl, leaf _ _ _⟩
      next hk5 =>
      rw [if_neg hk5]
      split at h
      · next hk => rw [if_pos hk]; injection h with h h'; subst h; subst h'; exact .inl ⟨_, rfl, leaf _ _ _⟩
      next hk6 =>
      rw [if_neg hk6, S.sym h0 hi]
      split at h
      · next hk =>
        rw [if_pos hk]
        split at h
        · cases h
        · split
          · exact .inr ⟨_, rfl⟩
          · split at h
            · next y q hq =>
              have hs := rE _ _ _ _ _ (by omega) hq
              split at h
              · next hc =>
                have hcr := G.sym hc
                injection h with h h'; subst h; subst h'
                rcases iE _ _ _ _ _ (by omega) (by omega) (by omega) hq with ⟨y', hy', hmy⟩ | ⟨p, hp⟩
                · rw [hy']
                  show Tells b (if isS (tkAt m (q + 1)) 41 = true then _ else _) _ _
                  rw [S.sym hcr.1 hcr.2, if_pos hc]
                  exact .inl ⟨_, rfl, hmy⟩
                · rw [hp]; exact .inr ⟨p, rfl⟩
              · cases h
            · cases h
            · cases h
      next hk7 =>
      rw [if_neg hk7, S.word h0 hi]
      split at h
      · next hk =>
        rw [if_pos hk]
        split at h
        · next t q hq =>
          have hp := prs_rng hq
          split at h
          · next hc =>
            have hcr := G.sym hc
            split at h
            · next ys r hys =>
              injection h with h h'; subst h; subst h'
              obtain ⟨t', ht⟩ := S.prs_sim 30 (i + 1) t q (by omega) hq hcr.2
              obtain ⟨l0, l1, l2⟩ := rL _ _ _ _ _ hys (by omega)
              rw [ht]
              show Tells b (if isS (tkAt m (q + 1)) 123 = true then _ else _) _ _
              rw [S.sym hcr.1 hcr.2, if_pos hc]
              rcases iL _ _ _ _ _ hcr.1 hcr.2 hys with ⟨zs, hz, hm⟩ | ⟨p, hp⟩
              · rw [hz]
                refine .inl ⟨_, rfl, ?_⟩
                unfold Mov
                have st := S.stop (r - 1) (by omega) (by omega)
                rw [show r - 1 + 1 = r + 1 - 1 by omega] at st
                exact ⟨rfl, p0.symm, st.symm, rfl, rfl, hm⟩
              · rw [hp]; exact .inr ⟨p, rfl⟩
            · cases h
            · cases h
          · cases h
        · cases h
      · cases h
    · intro d a x x' i z j h0 h1 ha0 ha1 hm h
      have pa := S.pos a ha0 ha1
      unfold post at h ⊢
      split at h
      · next hn =>
        have hr := G.sym hn
        rw [S.sym h0 hr.2, if_pos hn]
        split at h
        · next hk =>
          have hr2 := G.real (i := i + 1) (by rw [hk]; decide)
          rw [S.kind (i + 1) hr2.1 hr2.2, S.text (i + 1) hr2.1 hr2.2, S.stop (i + 1) hr2.1 hr2.2, if_pos hk, show i + 1 + 2 = i + 2 + 1 by omega]
          refine iT _ _ _ _ _ _ _ (by omega) (by omega) ha0 ha1 ?_ h
          unfold mkSel Mov MovL MovL
          exact ⟨rfl, pa.symm, rfl, rfl, rfl, hm, trivial⟩
        · cases h
      next hn1 =>
      have hm1 : ¬ isS (tkAt m (i + 1)) 46 = true := by
        by_cases hi : i < e
        · rw [S.sym h0 hi]; exact hn1
        · rw [show i = (e : Nat) by omega, S.shut_no (by decide)]; decide
      rw [if_neg hm1]
      split at h
      · next hn =>
        have hr := G.sym hn
        rw [S.sym h0 hr.2, if_pos hn]
        split at h
        · next ys q hys =>
          obtain ⟨l0, l1, l2⟩ := rL _ _ _ _ _ hys h0
          rcases iL _ _ _ _ _ h0 hr.2 hys with ⟨zs, hz, hms⟩ | ⟨p, hp⟩
          · rw [hz]
            have st := S.stop (q - 1) (by omega) (by omega)
            rw [show q - 1 + 1 = q + 1 - 1 by omega] at st
            show Tells b (post m f (d + 1) (a + 1) (mkCall (tkAt m (a + 1)).pos x' zs (tkAt m (q + 1 - 1)).stop) (q + 1)) _ _
            rw [st]
            refine iT _ _ _ _ _ _ _ (by omega) l1 ha0 ha1 ?_ h
            unfold mkCall Mov MovL
            exact ⟨rfl, pa.symm, rfl, rfl, rfl, hm, hms⟩
          · rw [hp]; exact .inr ⟨p, rfl⟩
        · cases h
        · cases h
      next hn2 =>
      have hm2 : ¬ isS (tkAt m (i + 1)) 40 = true := by
        by_cases hi : i < e
        · rw [S.sym h0 hi]; exact hn2
        · rw [show i = (e : Nat) by omega, S.shut_no (by decide)]; decide
      rw [if_neg hm2]
      split at h
      · next hn =>
        have hr := G.sym hn
        rw [S.sym h0 hr.2, if_pos hn]
        split at h
        · cases h
        · split
          · exact .inr ⟨_, rfl⟩
          · split at h
            · next y q hq =>
              have hs := rE _ _ _ _ _ (by omega) hq
              split at h
              · next hc =>
                have hcr := G.sym hc
                rcases iE _ _ _ _ _ (by omega) (by omega) (by omega) hq with ⟨y', hy', hmy⟩ | ⟨p, hp⟩
                · rw [hy']
                  show Tells b (if isS (tkAt m (q + 1)) 93 = true then _ else _) _ _
                  rw [S.sym hcr.1 hcr.2, if_pos hc, S.stop q hcr.1 hcr.2]
                  refine iT _ _ _ _ _ _ _ (by omega) (by omega) ha0 ha1 ?_ h
                  unfold mkIdx Mov MovL MovL MovL
                  exact ⟨rfl, pa.symm, rfl, rfl, rfl, hm, hmy, trivial⟩
                · rw [hp]; exact .inr ⟨p, rfl⟩
              · cases h
            · cases h
            · cases h
      next hn3 =>
      have hm3 : ¬ isS (tkAt m (i + 1)) 91 = true := by
        by_cases hi : i < e
        · rw [S.sym h0 hi]; exact hn3
        · rw [show i = (e : Nat) by omega, S.shut_no (by decide)]; decide
      rw [if_neg hm3]
      injection h with h h'; subst h; subst h'
      exact .inl ⟨_, rfl, hm⟩
    · intro z d i ys j h0 h1 h
      unfold lst at h ⊢
      split at h
      · cases h
      · split
        · exact .inr ⟨_, rfl⟩
        · split at h
          · next hn =>
            have hr := G.sym hn
            injection h with h h'; subst h; subst h'
            rw [S.sym hr.1 hr.2, if_pos hn]
            exact .inl ⟨[], by rw [show i + 2 + 1 = i + 1 + 2 by omega], by unfold MovL; trivial⟩
          · next hn =>
            obtain ⟨i0, i1, i2, i3⟩ := rI _ _ _ _ _ h
            rw [S.sym (by omega) (by omega), if_neg hn]
            exact iI _ _ _ _ _ (by omega) (by omega) h
    · intro z d i ys j h0 h1 h
      unfold items at h ⊢
      split at h
      · next y q hq =>
        have hs := rE _ _ _ _ _ (by omega) hq
        rcases iE _ _ _ _ _ (by omega) h0 h1 hq with ⟨y', hy', hmy⟩ | ⟨p, hp⟩
        · rw [hy']
          split at h
          · next hc =>
            have hcr := G.sym hc
            show TellsL b (if isS (tkAt m (q + 1)) 44 = true then _ else _) _ _
            rw [S.sym hcr.1 hcr.2, if_pos hc]
            split at h
            · next zs r hr =>
              injection h with h h'; subst h; subst h'
              rcases iI _ _ _ _ _ (by omega) (by omega) hr with ⟨ws, hw, hms⟩ | ⟨p, hp⟩
              · rw [hw]
                refine .inl ⟨_, rfl, ?_⟩
                unfold MovL
                exact ⟨hmy, hms⟩
              · rw [hp]; exact .inr ⟨p, rfl⟩
            · cases h
            · cases h
          · next hc =>
            split at h
            · next hz =>
              have hcr := G.sym hz
              injection h with h h'; subst h; subst h'
              show TellsL b (if isS (tkAt m (q + 1)) 44 = true then _ else _) _ _
              rw [S.sym hcr.1 hcr.2, if_neg hc, S.sym hcr.1 hcr.2, if_pos hz]
              refine .inl ⟨_, rfl, ?_⟩
              unfold MovL MovL
              exact ⟨hmy, trivial⟩
            · cases h
        · rw [hp]; exact .inr ⟨p, rfl⟩
      · cases h
      · cases h

end

end Go.Proofs.Ytoppknnjnfgbiaa
