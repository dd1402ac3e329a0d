/-
  Two walks, forth and back, tell who is in cycles. Plainly. No condition.
-/
import Derived.Test.YtgnhcaepkgbieaaWbb
namespace Go.Proofs.Ytgnhcaepkgbieaa

theorem srt_map {names : List Nm} (hs : Srt names) : ∀ (s : List Nat), s.Pairwise (· < ·) → (∀ i ∈ s, i < names.length) → Srt (s.map fun i => names.getD i [])
  | [], _, _ => trivial
  | x :: r, hp, hl => by
    rw [List.pairwise_cons] at hp
    refine ⟨fun b hb => ?_, srt_map hs r hp.2 fun i hi => hl i (List.mem_cons_of_mem _ hi)⟩
    obtain ⟨j, hj, rfl⟩ := List.mem_map.1 hb
    have hx := hl x (List.mem_cons_self ..)
    have hjl := hl j (List.mem_cons_of_mem _ hj)
    refine srt_at hs (i := x) (j := j) ?_ ?_ (hp.1 j hj)
    · show names[x]? = some (names.getD x []); rw [List.getD_eq_getElem?_getD, List.getElem?_eq_getElem hx]; rfl
    · rw [List.getD_eq_getElem?_getD, List.getElem?_eq_getElem hjl]; rfl
section
variable {imps users : List (List Nat)} (hb : ∀ u v, v ∈ waysAt imps u ↔ u ∈ waysAt users v)
include hb
theorem rch_back {a b : Nat} (h : Rch0 users a b) : Rch0 imps b a := by
  induction h with
  | refl => exact .refl _
  | step e _ ih => exact ih.snoc ((hb _ _).2 e)
/-- The walk back from the last one that was left finds those alone that it leads to. -/
theorem kos {L A B S : List Nat} {r : Nat} (hL : L = A ++ r :: B) (hnd : L.Nodup) (hf : Fin imps L []) (hS : ∀ x ∈ B, x ∈ S) {x : Nat} (h : AvR users S r x) (hin : ∀ y, AvR users S r y → y ∈ L) :
    ∀ z, z ∈ L → L.idxOf x ≤ L.idxOf z → L.idxOf z ≤ L.idxOf r → Rch0 imps r z := by
  have hpos : ∀ {P Q : List Nat} {u : Nat}, L = P ++ u :: Q → L.idxOf u = P.length := fun {P Q u} e => by
    have hu : u ∉ P := by
      rw [e, List.nodup_append] at hnd
      exact fun hm => hnd.2.2 u hm u (List.mem_cons_self ..) rfl
    rw [e, List.idxOf_append, if_neg hu, List.idxOf_cons_self, Nat.zero_add]
  have hle : ∀ {P Q : List Nat} {u z : Nat}, L = P ++ u :: Q → z ∈ P → L.idxOf z < P.length := fun {P Q u z} e hz => by
    rw [e, List.idxOf_append, if_pos hz]
    exact List.idxOf_lt_length_of_mem hz
  have hinj : ∀ {y z : Nat}, y ∈ L → z ∈ L → L.idxOf y = L.idxOf z → y = z := fun {y z} hy hz e => by
    have h1 := List.getElem_idxOf (List.idxOf_lt_length_of_mem hy)
    have h2 := List.getElem_idxOf (List.idxOf_lt_length_of_mem hz)
    rw [← h1, ← h2]
    simp only [e]
  induction h with
  | refl hr =>
    intro z hz h1 h2
    have hrL : r ∈ L := by rw [hL]; simp
    have := hinj hrL hz (by omega)
    rw [← this]
    exact .refl _
  | @step x y hx hxy hy ih =>
    intro z hz h1 h2
    have hxL := hin x hx
    have hyL := hin y (.step hx hxy hy)
    by_cases hc : L.idxOf x ≤ L.idxOf y
    · exact ih z hz (by omega) h2
    · by_cases hc2 : L.idxOf x ≤ L.idxOf z
      · exact ih z hz hc2 h2
      · have hrx : Rch0 imps r x := by
          refine ih x hxL (Nat.le_refl _) ?_
          have hxB : x ∉ B := fun hm => hx.out (hS x hm)
          have hm := hxL
          rw [hL, List.mem_append, List.mem_cons] at hm
          rw [hpos hL]
          rcases hm with hm | hm | hm
          · exact Nat.le_of_lt (hle hL hm)
          · rw [hm, hpos hL]; exact Nat.le_refl _
          · exact absurd hm hxB
        obtain ⟨P, Q, e⟩ := List.append_of_mem hyL
        rcases hf P y Q e x ((hb _ _).2 hxy) with h3 | h3 | ⟨B1, B2, h3, h4⟩ | ⟨h3, _⟩
        · have := hle e h3
          rw [hpos e] at hc
          omega
        · subst h3; omega
        · have e2 : L = (P ++ y :: B1) ++ x :: B2 := by rw [e, h3]; simp
          have hzB : z ∈ y :: B1 := by
            have hm := hz
            rw [e2, List.mem_append] at hm
            rcases hm with hm | hm
            · rcases List.mem_append.1 hm with hm | hm
              · have := hle e hm
                rw [hpos e] at h1
                omega
              · exact hm
            · obtain ⟨p, q, e3⟩ := List.append_of_mem hm
              have e4 : L = (P ++ y :: B1 ++ p) ++ z :: q := by rw [e2, e3]; simp
              have := hpos e4
              rw [hpos e2] at hc2
              simp only [List.length_append] at this hc2
              omega
          exact hrx.trans (h4 z hzB)
        · simp at h3

def CycW (imps : List (List Nat)) (x : Nat) : Prop := ∃ y, Edg imps x y ∧ Rch0 imps y x
/-- Behind the last ones. -/
structure BackI (imps users : List (List Nat)) (n : Nat) (L B S C : List Nat) : Prop where
  done : ∀ x ∈ B, x ∈ S
  nd : C.Nodup
  is : ∀ x, x ∈ C ↔ x ∈ S ∧ CycW imps x
omit hb in
theorem BackI.start (n : Nat) (L : List Nat) : BackI imps users n L [] [] [] := ⟨by simp, List.nodup_nil, fun x => by simp⟩
omit hb in
theorem BackI.skip {n r : Nat} {L B S C : List Nat} (h : BackI imps users n L B S C) (hr : r ∈ S) : BackI imps users n L (r :: B) S C :=
  ⟨fun x hx => (List.mem_cons.1 hx).elim (fun e => e ▸ hr) (h.done x), h.nd, h.is⟩
theorem shut_pred {S : List Nat} (hs : ∀ x ∈ S, ∀ y ∈ waysAt users x, y ∈ S) {a b : Nat} (h : Rch0 imps a b) (hm : b ∈ S) : a ∈ S := by
  induction h with
  | refl => exact hm
  | step e _ ih => exact hs _ (ih hm) _ ((hb _ _).1 e)
theorem BackI.group {n r : Nat} {L A B S C G : List Nat} (h : BackI imps users n L B S C) (hL : L = A ++ r :: B) (hnd : L.Nodup) (hall : ∀ x, x < n → x ∈ L) (hf : Fin imps L [])
    (hs : ∀ x ∈ S, ∀ y ∈ waysAt users x, y ∈ S) (hs2 : ∀ x ∈ S ++ G, ∀ y ∈ waysAt users x, y ∈ S ++ G) (hnd2 : (S ++ G).Nodup) (hlt : ∀ x ∈ S ++ G, x < n) (hrn : ∀ x y, y ∈ waysAt users x → y < n) (hr : r ∉ S) (hG : r ∈ G) (hAv : ∀ x ∈ G, AvR users S r x) :
    (G.length > 1 ∨ r ∈ waysAt imps r → BackI imps users n L (r :: B) (S ++ G) (C ++ G)) ∧ (¬ (G.length > 1 ∨ r ∈ waysAt imps r) → BackI imps users n L (r :: B) (S ++ G) C) := by
  have hin : ∀ y, AvR users S r y → y ∈ L := fun y hy => by
    refine hall y ?_
    cases hy with
    | refl => exact hlt r (List.mem_append_right _ hG)
    | step _ e _ => exact hrn _ _ e
  have hfw : ∀ x ∈ G, Rch0 imps r x := fun x hx => by
    refine kos hb hL hnd hf h.done (hAv x hx) hin x (hin x (hAv x hx)) (Nat.le_refl _) ?_
    have hxB : x ∉ B := fun hm => (hAv x hx).out (h.done x hm)
    have hm := hin x (hAv x hx)
    have hrA : r ∉ A := by
      rw [hL, List.nodup_append] at hnd
      exact fun hm => hnd.2.2 r hm r (List.mem_cons_self ..) rfl
    have hpr : L.idxOf r = A.length := by rw [hL, List.idxOf_append, if_neg hrA, List.idxOf_cons_self, Nat.zero_add]
    rw [hpr]
    rw [hL, List.mem_append, List.mem_cons] at hm
    rcases hm with hm | hm | hm
    · rw [hL, List.idxOf_append, if_pos hm]
      exact Nat.le_of_lt (List.idxOf_lt_length_of_mem hm)
    · rw [hm, hpr]; exact Nat.le_refl _
    · exact absurd hm hxB
  have hbw : ∀ x ∈ G, Rch0 imps x r := fun x hx => rch_back hb (hAv x hx).rch
  have hdone : ∀ x ∈ r :: B, x ∈ S ++ G := fun x hx => by
    rcases List.mem_cons.1 hx with rfl | hx
    · exact List.mem_append_right _ hG
    · exact List.mem_append_left _ (h.done x hx)
  rw [List.nodup_append] at hnd2
  have cyc_of : ∀ {x y : Nat}, x ∈ G → y ∈ G → x ≠ y → CycW imps x := fun {x y} hx hy hne => by
    have h1 : Rch0 imps x y := (hbw x hx).trans (hfw y hy)
    have h2 : Rch0 imps y x := (hbw y hy).trans (hfw x hx)
    cases h1 with
    | refl => exact absurd rfl hne
    | step e k => exact ⟨_, e, k.trans h2⟩
  constructor
  · intro hc
    have hcyc : ∀ x ∈ G, CycW imps x := fun x hx => by
      by_cases h1 : ∃ y ∈ G, x ≠ y
      · obtain ⟨y, hy, hne⟩ := h1
        exact cyc_of hx hy hne
      · have hall1 : ∀ y ∈ G, y = x := fun y hy => Classical.byContradiction fun hn => h1 ⟨y, hy, fun e => hn e.symm⟩
        have hxr : r = x := hall1 r hG
        subst hxr
        rcases hc with hc | hc
        · match G, hc, hall1, hnd2.2.1 with
          | a :: b :: t, _, hall1, hn =>
            have ha := hall1 a (by simp)
            have hb' := hall1 b (by simp)
            rw [ha, hb'] at hn
            simp at hn
        · exact ⟨r, hc, .refl _⟩
    refine ⟨hdone, ?_, fun x => ?_⟩
    · rw [List.nodup_append]
      exact ⟨h.nd, hnd2.2.1, fun a ha b hb' e => hnd2.2.2 a ((h.is a).1 ha).1 b hb' e⟩
    · rw [List.mem_append, List.mem_append, h.is]
      constructor
      · rintro (⟨h1, h2⟩ | h1)
        · exact ⟨.inl h1, h2⟩
        · exact ⟨.inr h1, hcyc x h1⟩
      · rintro ⟨h1 | h1, h2⟩
        · exact .inl ⟨h1, h2⟩
        · exact .inr h1
  · intro hc
    have hG1 : G = [r] := by
      match G, hG, hc with
      | [a], hG, _ => rw [List.mem_singleton.1 hG]
      | a :: b :: t, _, hc => exact absurd (.inl (by simp)) hc
    have hno : ¬ CycW imps r := fun ⟨y, e, k⟩ => by
      have hyS : y ∈ S ++ G := shut_pred hb hs2 k (List.mem_append_right _ hG)
      rcases List.mem_append.1 hyS with hy | hy
      · exact hr (hs y hy r ((hb _ _).1 e))
      · rw [hG1, List.mem_singleton] at hy
        subst hy
        exact hc (.inr e)
    refine ⟨hdone, h.nd, fun x => ?_⟩
    rw [h.is, List.mem_append, hG1, List.mem_singleton]
    constructor
    · rintro ⟨h1, h2⟩
      exact ⟨.inl h1, h2⟩
    · rintro ⟨h1 | rfl, h2⟩
      · exact ⟨h1, h2⟩
      · exact absurd h2 hno
end
section
variable {l : List Nd} {names : List Nm} {imps users : List (List Nat)} (W : WebIs l names imps users)
include W
theorem num_of {a : Nm} (h : a ∈ namesN l) : ∃ i : Nat, names[i]? = some a := List.getElem?_of_mem ((W.mem a).2 h)
theorem rch_num {a b : Nm} (h : RchN l a b) : ∀ i j : Nat, names[i]? = some a → names[j]? = some b → ∃ y, Edg imps i y ∧ Rch0 imps y j := by
  induction h with
  | one h =>
    intro i j hi hj
    exact ⟨j, (W.imp _ _ _ _ hi hj).2 h, .refl _⟩
  | more h _ ih =>
    intro i j hi hj
    obtain ⟨k, hk⟩ := num_of W h.right
    obtain ⟨y, e, r⟩ := ih k j hk hj
    exact ⟨k, (W.imp _ _ _ _ hi hk).2 h, .step e r⟩
theorem num_rch {y j : Nat} (h : Rch0 imps y j) : ∀ (i : Nat) (a b : Nm), names[i]? = some a → names[j]? = some b → Edg imps i y → RchN l a b := by
  induction h with
  | refl =>
    intro i a b hi hj e
    exact .one ((W.imp _ _ _ _ hi hj).1 e)
  | @step y z j e _ ih =>
    intro i a b hi hj ei
    have hyl := W.rng _ _ ei
    have hy : names[y]? = some names[y] := List.getElem?_eq_getElem hyl
    exact .more ((W.imp _ _ _ _ hi hy).1 ei) (ih y _ b hy hj e)
/-- Who is cyclic, by numbers in order. -/
theorem cyc_done {C D : List Nat} (hp : D.Pairwise (· < ·)) (hm : ∀ x, x ∈ D ↔ x ∈ C) (hC : ∀ x, x ∈ C ↔ x < names.length ∧ CycW imps x) : CycIs l (D.map fun i => names.getD i []) := by
  refine ⟨srt_map W.srt D hp fun i hi => ((hC i).1 ((hm i).1 hi)).1, fun a => ?_⟩
  rw [List.mem_map]
  constructor
  · rintro ⟨i, hi, rfl⟩
    obtain ⟨h1, y, e, r⟩ := (hC i).1 ((hm i).1 hi)
    have hin : names[i]? = some (names.getD i []) := by rw [List.getD_eq_getElem?_getD, List.getElem?_eq_getElem h1]; rfl
    exact num_rch W r i _ _ hin hin e
  · intro h
    obtain ⟨i, hi⟩ := num_of W h.names
    exact ⟨i, (hm i).2 ((hC i).2 ⟨(List.getElem?_eq_some_iff.1 hi).1, rch_num W h i i hi hi⟩), by rw [List.getD_eq_getElem?_getD, hi]; rfl⟩
end

end Go.Proofs.Ytgnhcaepkgbieaa
