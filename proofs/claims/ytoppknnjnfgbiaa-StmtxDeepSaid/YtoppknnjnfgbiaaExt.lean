/-
  Plain: the tokens of a text stand one behind the other; a text in brackets is its tokens in brackets. No condition.
-/
import Derived.Test.YtoppknnjnfgbiaaExs
import Derived.Test.YtoppknnjnfgbiaaConcat
namespace Go.Proofs.Ytoppknnjnfgbiaa

def zTok (t : Tok) : TZ := ⟨t.kind, (t.pos : Nat), (t.stop : Nat), ⟨t.text.toArray⟩⟩

/-- One behind the other, from a place up to another. -/
def ordT : Nat → Nat → List Tok → Prop
  | a, b, [] => a ≤ b
  | a, b, t :: r => a ≤ t.pos ∧ t.pos < t.stop ∧ t.kind ≠ 0 ∧ ordT t.stop b r

theorem kln_ne {l : List UInt8} (h : l ≠ []) : (kln l).1 ≠ 0 := by
  cases l with
  | nil => exact (h rfl).elim
  | cons c r =>
    rw [kln_cons]
    repeat' split
    all_goals simp

theorem pcs_ord (a : Nat) (l : List UInt8) : ordT a (a + l.length) (pcsAt a l) := by
  refine pcsAt_ind (P := fun a l => ordT a (a + l.length) (pcsAt a l)) (fun a l h => ?_) (fun a l h ih => ?_) a l
  · rw [pcsAt_end a l h]; exact Nat.le_add_right _ _
  · have hp := kln_pos' h
    have hs := skp_le false l
    rw [pcsAt_cons a l h]
    simp only [List.length_drop] at hp ih
    refine ⟨Nat.le_add_right _ _, by simp only; omega, kln_ne h, ?_⟩
    rw [show a + l.length = a + skp false l + (kln (l.drop (skp false l))).2 + (l.length - skp false l - (kln (l.drop (skp false l))).2) by omega]
    exact ih

theorem ord_at {ts : List Tok} {e : Tok} : ∀ {a b : Nat}, ordT a b ts → b ≤ e.pos → e.pos ≤ e.stop → ∀ j : Nat, j < ts.length →
    ∃ t u, (ts ++ [e])[j]? = some t ∧ (ts ++ [e])[j + 1]? = some u ∧ t.pos < t.stop ∧ t.kind ≠ 0 ∧ t.stop ≤ u.pos := by
  induction ts with
  | nil => intro a b _ _ _ j hj; simp at hj
  | cons t r ih =>
    intro a b h hb he j hj
    obtain ⟨h1, h2, h3, h4⟩ := h
    cases j with
    | zero =>
      cases r with
      | nil => exact ⟨t, e, rfl, rfl, h2, h3, Nat.le_trans h4 hb⟩
      | cons u q => exact ⟨t, u, rfl, rfl, h2, h3, h4.1⟩
    | succ j =>
      obtain ⟨x, y, hx, hy, k⟩ := ih h4 hb he j (by simpa using hj)
      exact ⟨x, y, by simpa using hx, by simpa using hy, k⟩

theorem tk_map {ts : List Tok} {j : Nat} {t : Tok} (h : ts[j]? = some t) : tkAt (ts.map zTok) (j : Nat) = zTok t := tkAt_in (by rw [List.getElem?_map, h]; rfl)

/-- The tokens of a text. -/
theorem toks_good (s : List UInt8) : Good ((toks s).map zTok) (pcsAt 0 s).length := by
  have ho := pcs_ord 0 s
  have hl : (toks s).length = (pcsAt 0 s).length + 1 := by unfold toks; simp
  have hend : (toks s)[(pcsAt 0 s).length]? = some (endTok s) := by unfold toks; simp
  have key : ∀ j : Nat, j < (pcsAt 0 s).length → ∃ t u, (toks s)[j]? = some t ∧ (toks s)[j + 1]? = some u ∧ t.pos < t.stop ∧ t.kind ≠ 0 ∧ t.stop ≤ u.pos := fun j hj => ord_at (e := endTok s) ho (by simp [endTok]) (Nat.le_refl _) j hj
  refine ⟨by rw [List.length_map, hl], fun j hj => ?_, ?_, fun j hj => ?_, ?_, fun j hj => ?_⟩
  · obtain ⟨t, u, ht, hu, k1, k2, k3⟩ := key j hj
    rw [tk_map ht]; exact k2
  · rw [tk_map hend]; rfl
  · obtain ⟨t, u, ht, hu, k1, k2, k3⟩ := key j hj
    rw [tk_map ht]
    show (t.pos : Int) < t.stop
    omega
  · rw [tk_map hend]; exact Int.le_refl _
  · obtain ⟨t, u, ht, hu, k1, k2, k3⟩ := key j hj
    rw [tk_map ht, tk_map hu]
    show (t.stop : Int) ≤ u.pos
    omega

/-- A text in brackets. -/
def brack (s : List UInt8) : List UInt8 := 40 :: (s ++ [10, 41])
theorem toks_brack (s : List UInt8) (h : bad (toks s) 0 = none) : toks (brack s) = ⟨4, 0, 1, [40]⟩ :: (pcsAt 0 s).map (sh 1) ++ [⟨4, s.length + 2, s.length + 3, [41]⟩, ⟨0, s.length + 3, s.length + 3, []⟩] := by
  rw [bad_toks] at h
  have k1 : pcsAt 0 (brack s) = ⟨4, 0, 1, [40]⟩ :: pcsAt 1 (s ++ 10 :: [41]) := by
    have hz : skp false (brack s) = 0 := skp_stop 40 _ (by decide) (fun h => absurd h.1 (by decide))
    have hk : kln (brack s) = (4, 1) := by
      unfold brack
      rw [kln_cons, if_neg (by decide), if_neg (by decide), if_neg (by decide), if_neg (by simp), if_pos (by decide)]
    rw [pcsAt_cons 0 (brack s) (by rw [hz]; simp [brack]), hz, List.drop_zero, hk]
    rfl
  have k2 : ∃ n, bad (pcsAt 1 s) n = none := by
    rw [show (1 : Nat) = 0 + 1 by rfl, pcsAt_shift]
    exact ⟨0, by rw [bad_shift, h]; rfl⟩
  obtain ⟨n, hn⟩ := k2
  have k3 : pcsAt (1 + s.length + 1) [41] = [⟨4, s.length + 2, s.length + 3, [41]⟩] := by
    have hz : skp false [(41 : UInt8)] = 0 := by decide
    have hk : kln [(41 : UInt8)] = (4, 1) := by decide
    rw [pcsAt_cons _ [41] (by rw [hz]; simp), hz, List.drop_zero, hk]
    simp only [List.drop_succ_cons, List.drop_nil]
    rw [pcsAt_end _ [] rfl]
    simp
    omega
  unfold toks
  rw [k1, pcsAt_app 1 s [41] n hn, k3, show pcsAt 1 s = (pcsAt 0 s).map (sh 1) from pcsAt_shift 0 1 s]
  simp [endTok, brack]

theorem brack_lexed {s : List UInt8} (h : bad (toks s) 0 = none) (hn : (toks s).length ≤ 3990) : lexed (brack s) = (toks (brack s), 0, 0) := by
  refine lexed_good' ?_
  have hl : (pcsAt 0 s).length ≤ 3989 := by unfold toks at hn; simp at hn; omega
  rw [toks_brack s h]
  rw [bad_toks] at h
  have h1 : bad ((pcsAt 0 s).map (sh 1)) 1 = none := by
    rw [bad_shift, bad_move _ 1 0 (by omega) (by omega), h]; rfl
  have e : (⟨4, 0, 1, [40]⟩ :: (pcsAt 0 s).map (sh 1) ++ [⟨4, s.length + 2, s.length + 3, [41]⟩, ⟨0, s.length + 3, s.length + 3, []⟩] : List Tok) = ⟨4, 0, 1, [40]⟩ :: ((pcsAt 0 s).map (sh 1) ++ [⟨4, s.length + 2, s.length + 3, [41]⟩, ⟨0, s.length + 3, s.length + 3, []⟩]) := rfl
  rw [e]
  have f4 : ∀ n, n < 4000 → ∀ t, flt 4 t n = 0 := fun n hn t => by unfold flt; simp; omega
  rw [bad, if_pos (f4 0 (by decide) _), bad_append _ _ _ h1, bad, if_pos (f4 _ (by simp; omega) _), bad, if_pos (flt_zero _ _)]
  rfl

theorem brack_sim (s : List UInt8) (h : bad (toks s) 0 = none) : Sim ((toks s).map zTok) ((toks (brack s)).map zTok) 1 (pcsAt 0 s).length := by
  have hb := toks_brack s h
  have G := toks_good s
  have at_ : ∀ j : Int, 0 ≤ j → j < (pcsAt 0 s).length → ∃ t : Tok, tkAt ((toks s).map zTok) j = zTok t ∧ tkAt ((toks (brack s)).map zTok) (j + 1) = zTok (sh 1 t) := by
    intro j h0 h1
    obtain ⟨n, rfl⟩ : ∃ n : Nat, j = n := ⟨j.toNat, by omega⟩
    have hn : n < (pcsAt 0 s).length := by omega
    refine ⟨(pcsAt 0 s)[n], ?_, ?_⟩
    · refine tk_map ?_
      unfold toks
      rw [List.getElem?_append_left hn, List.getElem?_eq_getElem hn]
    · rw [show ((n : Nat) : Int) + 1 = ((n + 1 : Nat) : Int) by omega]
      refine tk_map ?_
      rw [hb, List.cons_append, List.getElem?_cons_succ, List.getElem?_append_left (by simpa using hn), List.getElem?_map, List.getElem?_eq_getElem hn]
      rfl
  refine ⟨fun j h0 h1 => ?_, fun j h0 h1 => ?_, fun j h0 h1 => ?_, fun j h0 h1 => ?_, G.last, ?_⟩
  · obtain ⟨t, e1, e2⟩ := at_ j h0 h1; rw [e1, e2]; rfl
  · obtain ⟨t, e1, e2⟩ := at_ j h0 h1; rw [e1, e2]; rfl
  · obtain ⟨t, e1, e2⟩ := at_ j h0 h1; rw [e1, e2]; rfl
  · obtain ⟨t, e1, e2⟩ := at_ j h0 h1; rw [e1, e2]; rfl
  · rw [show (((pcsAt 0 s).length : Nat) : Int) + 1 = (((pcsAt 0 s).length + 1 : Nat) : Int) by omega, tk_map (t := ⟨4, s.length + 2, s.length + 3, [41]⟩) (by
      rw [hb, List.cons_append, List.getElem?_cons_succ, List.getElem?_append_right (by simp)]
      simp)]
    rfl

end Go.Proofs.Ytoppknnjnfgbiaa
