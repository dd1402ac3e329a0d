/-
  Types that are told are parts of the arguments: how many parts they have; types made out fit. No condition.
-/
import Derived.Test.YtlakmniaocpaaaaM24
import Derived.Test.YtlakmniaocpaaaaM25
namespace Go.Proofs.Ytlakmniaocpaaaa
open Go.RowKit
open Go.Lib hiding intOf

mutual
theorem fit_sub {q : Nat} {us : List GY} (hu : FitYs q us) : ∀ {t : GY}, FitY q t → FitY q (subY us t)
  | .mk k p m n l, h => by
    rw [subY]
    split
    · rename_i hc
      have hlt : n.toNat < us.length := by omega
      rw [List.getD_eq_getElem?_getD, List.getElem?_eq_getElem hlt]
      exact FitYs.mem hu _ (List.getElem_mem hlt)
    · unfold FitY at h ⊢
      obtain ⟨h1, h2, h3, h4⟩ := h
      exact ⟨h1, h2, by rw [subs_map, List.length_map]; exact h3, fits_sub hu h4⟩
theorem fits_sub {q : Nat} {us : List GY} (hu : FitYs q us) : ∀ {l : List GY}, FitYs q l → FitYs q (subYs us l)
  | [], _ => by rw [subYs]; unfold FitYs; trivial
  | y :: r, h => by
    unfold FitYs at h
    rw [subYs]
    unfold FitYs
    exact ⟨fit_sub hu h.1, fits_sub hu h.2⟩
end
mutual
theorem tell_cnt {K : Nat} : ∀ {out : List GY} {p a : GY}, (∀ y ∈ out, cntY y ≤ K) → cntY a ≤ K → ∀ y ∈ tellY out p a, cntY y ≤ K
  | out, .mk k _ _ n l, .mk k' p' m' n' l', ho, ha => by
    rw [tellY]
    split
    · split
      · intro y hy
        rcases List.mem_or_eq_of_mem_set hy with h | h
        · exact ho y h
        · rw [h]; exact ha
      · exact ho
    · split
      · rw [cntY] at ha
        exact tells_cnt ho fun y hy => by have := cnt_mem y _ hy; omega
      · exact ho
theorem tells_cnt {K : Nat} : ∀ {out l r : List GY}, (∀ y ∈ out, cntY y ≤ K) → (∀ y ∈ r, cntY y ≤ K) → ∀ y ∈ tellsY out l r, cntY y ≤ K
  | out, a :: r, b :: s, ho, hr => by
    rw [tellsY]
    exact tells_cnt (tell_cnt ho (hr b (List.mem_cons_self ..))) fun y hy => hr y (List.mem_cons_of_mem _ hy)
  | out, [], r, ho, _ => by rw [show tellsY out [] r = out by rw [tellsY]; simp]; exact ho
  | out, _ :: _, [], ho, _ => by rw [show tellsY out (_ :: _) [] = out by rw [tellsY]; simp]; exact ho
end
theorem told_cnt {K : Nat} {B P A : List GY} (hK : 1 ≤ K) (h : ∀ y ∈ A, cntY y ≤ K) : ∀ y ∈ typesY B P A, cntY y ≤ K := by
  unfold typesY unifyY
  split
  · refine tells_cnt (fun y hy => ?_) h
    obtain ⟨_, rfl⟩ := List.mem_replicate.1 hy
    exact hK
  · intro y hy; cases hy
end Go.Proofs.Ytlakmniaocpaaaa
