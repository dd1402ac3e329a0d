/-
  A walk that meets each node once; who is met, what lies behind whom; groups of those that reach each other. Plainly. No condition.
-/
import Derived.Test.YtgnhcaepkgbieaaWba
namespace Go.Proofs.Ytgnhcaepkgbieaa

def Edg (ways : List (List Nat)) (u v : Nat) : Prop := v ∈ waysAt ways u
/-- Reached over any number of ways. -/
inductive Rch0 (ways : List (List Nat)) : Nat → Nat → Prop
  | refl (a : Nat) : Rch0 ways a a
  | step {a b c : Nat} : Edg ways a b → Rch0 ways b c → Rch0 ways a c
theorem Rch0.trans {ways : List (List Nat)} {a b c : Nat} (h : Rch0 ways a b) (k : Rch0 ways b c) : Rch0 ways a c := by
  induction h with
  | refl => exact k
  | step e _ ih => exact .step e (ih k)
theorem Rch0.snoc {ways : List (List Nat)} {a b c : Nat} (h : Rch0 ways a b) (e : Edg ways b c) : Rch0 ways a c := h.trans (.step e (.refl c))
/-- Reached around those in a list. -/
inductive AvR (ways : List (List Nat)) (S : List Nat) (a : Nat) : Nat → Prop
  | refl : a ∉ S → AvR ways S a a
  | step {b c : Nat} : AvR ways S a b → Edg ways b c → c ∉ S → AvR ways S a c
theorem AvR.out {ways : List (List Nat)} {S : List Nat} {a b : Nat} (h : AvR ways S a b) : b ∉ S := by cases h <;> assumption
theorem AvR.rch {ways : List (List Nat)} {S : List Nat} {a b : Nat} (h : AvR ways S a b) : Rch0 ways a b := by
  induction h with
  | refl => exact .refl _
  | step _ e _ ih => exact ih.snoc e
/-- What was left: whoever it has a way to was left ahead of it, or reaches all that was left between. -/
def Fin (ways : List (List Nat)) (L path : List Nat) : Prop := ∀ A u B, L = A ++ u :: B → ∀ v, Edg ways u v →
  v ∈ A ∨ v = u ∨ (∃ B1 B2, B = B1 ++ v :: B2 ∧ ∀ x ∈ u :: B1, Rch0 ways v x) ∨ (v ∈ path ∧ ∀ x ∈ u :: B, Rch0 ways v x)

def bitAt (l : List Bool) (i : Nat) : Bool := l.getD i false
theorem bitAt_set (l : List Bool) (i k : Nat) (x : Bool) (hi : i < l.length) : bitAt (l.set i x) k = if k = i then x else bitAt l k := by
  unfold bitAt
  rw [List.getD_eq_getElem?_getD, List.getD_eq_getElem?_getD, List.getElem?_set]
  by_cases h : k = i
  · subst h; simp [hi]
  · rw [if_neg (fun e => h e.symm), if_neg h]
theorem bitAt_at {l : List Bool} {i : Nat} (h : i < l.length) : l[i]? = some (bitAt l i) := by
  unfold bitAt
  rw [List.getD_eq_getElem?_getD, List.getElem?_eq_getElem h]
  rfl
/-- Between two walks: who was met is M. -/
structure BtwI (ways : List (List Nat)) (n : Nat) (M : List Nat) (met : List Bool) (tried : List Nat) : Prop where
  lm : met.length = n
  lt : tried.length = n
  lw : ways.length = n
  rng : ∀ u v, v ∈ waysAt ways u → v < n
  nd : M.Nodup
  mlt : ∀ x ∈ M, x < n
  is : ∀ x, x < n → (bitAt met x = true ↔ x ∈ M)
  all : ∀ x, x < n → getH tried x = if x ∈ M then (waysAt ways x).length else 0
  shut : ∀ x ∈ M, ∀ y ∈ waysAt ways x, y ∈ M
  fin : Fin ways M []
/-- On the way. -/
structure DfsI (ways : List (List Nat)) (n : Nat) (M : List Nat) (s : Nat) (met : List Bool) (tried path left : List Nat) : Prop where
  lm : met.length = n
  lt : tried.length = n
  lw : ways.length = n
  rng : ∀ u v, v ∈ waysAt ways u → v < n
  nd : (M ++ left ++ path).Nodup
  mlt : ∀ x ∈ M ++ left ++ path, x < n
  is : ∀ x, x < n → (bitAt met x = true ↔ x ∈ M ++ left ++ path)
  out : ∀ x, x < n → x ∉ M ++ left ++ path → getH tried x = 0
  all : ∀ x ∈ M ++ left, getH tried x = (waysAt ways x).length
  few : ∀ x ∈ path, getH tried x ≤ (waysAt ways x).length
  seen : ∀ x ∈ M ++ left ++ path, ∀ y ∈ (waysAt ways x).take (getH tried x), y ∈ M ++ left ++ path
  chain : path.Pairwise (Rch0 ways)
  from_ : ∀ x ∈ left ++ path, AvR ways M s x
  fin : Fin ways (M ++ left) path
  old : ∀ x ∈ M, ∀ y ∈ waysAt ways x, y ∈ M
  has : s ∈ left ++ path
section
variable {ways : List (List Nat)} {n : Nat}
theorem DfsI.start {M : List Nat} {met : List Bool} {tried : List Nat} (h : BtwI ways n M met tried) {s : Nat} (hs : s < n) (hm : s ∉ M) :
    DfsI ways n M s (met.set s true) tried [s] [] := by
  refine ⟨by rw [List.length_set]; exact h.lm, h.lt, h.lw, h.rng, ?_, ?_, ?_, ?_, ?_, ?_, ?_, ?_, ?_, ?_, h.shut, by simp⟩
  · rw [List.append_nil, List.nodup_append]
    refine ⟨h.nd, by simp, fun a ha b hb e => ?_⟩
    rw [List.mem_singleton.1 hb] at e
    subst e
    exact hm ha
  · intro x hx
    simp only [List.append_nil, List.mem_append, List.mem_singleton] at hx
    rcases hx with hx | rfl
    · exact h.mlt x hx
    · exact hs
  · intro x hx
    rw [bitAt_set _ _ _ _ (by rw [h.lm]; exact hs)]
    simp only [List.append_nil, List.mem_append, List.mem_singleton]
    by_cases he : x = s
    · rw [if_pos he]; simp [he]
    · rw [if_neg he, h.is x hx]; simp [he]
  · intro x hx hn
    simp only [List.append_nil, List.mem_append, List.mem_singleton, not_or] at hn
    rw [h.all x hx, if_neg hn.1]
  · intro x hx
    rw [List.append_nil] at hx
    rw [h.all x (h.mlt x hx), if_pos hx]
  · intro x hx
    rw [List.mem_singleton.1 hx, h.all s hs, if_neg hm]
    exact Nat.zero_le _
  · intro x hx y hy
    simp only [List.append_nil, List.mem_append, List.mem_singleton] at hx ⊢
    rcases hx with hx | rfl
    · exact .inl (h.shut x hx y (List.mem_of_mem_take hy))
    · rw [h.all x hs, if_neg hm] at hy
      simp at hy
  · exact List.pairwise_singleton _ _
  · intro x hx
    simp only [List.nil_append, List.mem_singleton] at hx
    subst hx
    exact .refl hm
  · rw [List.append_nil]
    intro A u B e v hv
    rcases h.fin A u B e v hv with h1 | h1 | h1 | ⟨h1, _⟩
    · exact .inl h1
    · exact .inr (.inl h1)
    · exact .inr (.inr (.inl h1))
    · simp at h1
/-- What a look at one node's ways does: it goes on from where it stood, to the first one that is not met. -/
structure NextIs (ways : List (List Nat)) (met : List Bool) (tried : List Nat) (x t : Nat) : Prop where
  ge : getH tried x ≤ t
  le : t ≤ (waysAt ways x).length
  met : ∀ y ∈ ((waysAt ways x).take t).drop (getH tried x), bitAt met y = true
theorem take_split {α : Type} {l : List α} {a b : Nat} (h : a ≤ b) {y : α} (hy : y ∈ l.take b) : y ∈ l.take a ∨ y ∈ (l.take b).drop a := by
  have e : l.take b = (l.take b).take a ++ (l.take b).drop a := (List.take_append_drop a _).symm
  rw [e, List.mem_append, List.take_take, Nat.min_eq_left h] at hy
  exact hy
/-- A node is met. -/
theorem DfsI.push {M : List Nat} {s : Nat} {met : List Bool} {tried p left : List Nat} {x t y : Nat} (h : DfsI ways n M s met tried (p ++ [x]) left) (hN : NextIs ways met tried x t)
    (hy : (waysAt ways x)[t]? = some y) (hb : bitAt met y = false) : y < n ∧ x < n ∧ DfsI ways n M s (met.set y true) (tried.set x (t + 1)) (p ++ [x] ++ [y]) left := by
  have hyw : y ∈ waysAt ways x := List.mem_of_getElem? hy
  have hyn := h.rng x y hyw
  have hxm : x ∈ M ++ left ++ (p ++ [x]) := by simp
  have hxn := h.mlt x hxm
  have hym : y ∉ M ++ left ++ (p ++ [x]) := fun hm => by
    rw [(h.is y hyn).2 hm] at hb
    cases hb
  have hset : ∀ i, getH (tried.set x (t + 1)) i = if i = x then t + 1 else getH tried i := fun i => getH_set _ _ _ _ (by rw [h.lt]; exact hxn)
  have hmem : ∀ z, z ∈ M ++ left ++ (p ++ [x] ++ [y]) ↔ z ∈ M ++ left ++ (p ++ [x]) ∨ z = y := fun z => by simp only [List.mem_append, List.mem_singleton, or_assoc]
  have hnd := h.nd
  rw [List.nodup_append] at hnd
  have hxl : x ∉ M ++ left := fun hm => hnd.2.2 x hm x (by simp) rfl
  refine ⟨hyn, hxn, ⟨by rw [List.length_set]; exact h.lm, by rw [List.length_set]; exact h.lt, h.lw, h.rng, ?_, ?_, ?_, ?_, ?_, ?_, ?_, ?_, ?_, ?_, h.old, ?_⟩⟩
  · rw [← List.append_assoc, List.nodup_append]
    refine ⟨h.nd, by simp, fun a ha b hb' e => ?_⟩
    rw [List.mem_singleton.1 hb'] at e
    subst e
    exact hym ha
  · intro z hz
    rcases (hmem z).1 hz with hz | rfl
    · exact h.mlt z hz
    · exact hyn
  · intro z hz
    rw [bitAt_set _ _ _ _ (by rw [h.lm]; exact hyn), hmem]
    by_cases he : z = y
    · rw [if_pos he]; simp [he]
    · rw [if_neg he, h.is z hz]; simp [he]
  · intro z hz hn
    rw [hmem, not_or] at hn
    rw [hset, if_neg (fun e : z = x => hn.1 (e ▸ hxm))]
    exact h.out z hz hn.1
  · intro z hz
    rw [hset, if_neg (fun e : z = x => hxl (e ▸ hz))]
    exact h.all z hz
  · intro z hz
    rw [hset]
    by_cases he : z = x
    · rw [if_pos he, he]
      exact (List.getElem?_eq_some_iff.1 hy).1
    · rw [if_neg he]
      rcases List.mem_append.1 hz with hz | hz
      · exact h.few z hz
      · rw [List.mem_singleton.1 hz, h.out y hyn hym]
        exact Nat.zero_le _
  · intro z hz w hw
    rw [hmem]
    rw [hset] at hw
    by_cases he : z = x
    · rw [if_pos he, he] at hw
      rw [List.take_add_one, hy, Option.toList_some, List.mem_append] at hw
      rcases hw with hw | hw
      · rcases take_split hN.ge hw with hw | hw
        · exact .inl (h.seen x hxm w hw)
        · have := hN.met w hw
          exact .inl ((h.is w (h.rng x w (List.mem_of_mem_take (List.mem_of_mem_drop hw)))).1 this)
      · exact .inr (List.mem_singleton.1 hw)
    · rw [if_neg he] at hw
      rcases (hmem z).1 hz with hz | rfl
      · exact .inl (h.seen z hz w hw)
      · rw [h.out z hyn hym] at hw
        simp at hw
  · rw [List.pairwise_append]
    refine ⟨h.chain, List.pairwise_singleton _ _, fun a ha b hb' => ?_⟩
    rw [List.mem_singleton.1 hb']
    have hax : Rch0 ways a x := by
      have := h.chain
      rw [List.pairwise_append] at this
      rcases List.mem_append.1 ha with ha | ha
      · exact this.2.2 a ha x (by simp)
      · rw [List.mem_singleton.1 ha]; exact .refl _
    exact hax.snoc hyw
  · intro z hz
    rw [← List.append_assoc, List.mem_append] at hz
    rcases hz with hz | hz
    · exact h.from_ z hz
    · rw [List.mem_singleton.1 hz]
      exact .step (h.from_ x (by simp)) hyw fun hm => hym (by simp [hm])
  · intro A u B e v hv
    rcases h.fin A u B e v hv with h1 | h1 | h1 | ⟨h1, h2⟩
    · exact .inl h1
    · exact .inr (.inl h1)
    · exact .inr (.inr (.inl h1))
    · exact .inr (.inr (.inr ⟨List.mem_append_left _ h1, h2⟩))
  · rw [← List.append_assoc]
    exact List.mem_append_left _ h.has
/-- A node is left. -/
theorem DfsI.pop {M : List Nat} {s : Nat} {met : List Bool} {tried p left : List Nat} {x : Nat} (h : DfsI ways n M s met tried (p ++ [x]) left) (hN : NextIs ways met tried x (waysAt ways x).length) :
    x < n ∧ DfsI ways n M s met (tried.set x (waysAt ways x).length) p (left ++ [x]) := by
  have hxm : x ∈ M ++ left ++ (p ++ [x]) := by simp
  have hxn := h.mlt x hxm
  have hset : ∀ i, getH (tried.set x (waysAt ways x).length) i = if i = x then (waysAt ways x).length else getH tried i := fun i => getH_set _ _ _ _ (by rw [h.lt]; exact hxn)
  have hmem : ∀ z, z ∈ M ++ (left ++ [x]) ++ p ↔ z ∈ M ++ left ++ (p ++ [x]) := fun z => by
    simp only [List.mem_append, List.mem_singleton]
    constructor
    · rintro ((h1 | h1 | h1) | h1)
      · exact .inl (.inl h1)
      · exact .inl (.inr h1)
      · exact .inr (.inr h1)
      · exact .inr (.inl h1)
    · rintro ((h1 | h1) | h1 | h1)
      · exact .inl (.inl h1)
      · exact .inl (.inr (.inl h1))
      · exact .inr h1
      · exact .inl (.inr (.inr h1))
  have hperm : (M ++ (left ++ [x]) ++ p).Perm (M ++ left ++ (p ++ [x])) := by
    rw [← List.append_assoc, List.append_assoc (M ++ left), List.append_assoc M, List.append_assoc M]
    exact (List.perm_append_comm.append_left left).append_left M
  have hseen : ∀ y ∈ waysAt ways x, y ∈ M ++ left ++ (p ++ [x]) := fun y hy => by
    have hy' : y ∈ (waysAt ways x).take (waysAt ways x).length := by rw [List.take_length]; exact hy
    rcases take_split hN.ge hy' with hy' | hy'
    · exact h.seen x hxm y hy'
    · exact (h.is y (h.rng x y hy)).1 (hN.met y hy')
  have hch := h.chain
  rw [List.pairwise_append] at hch
  refine ⟨hxn, ⟨h.lm, by rw [List.length_set]; exact h.lt, h.lw, h.rng, hperm.nodup_iff.2 h.nd, fun z hz => h.mlt z ((hmem z).1 hz), fun z hz => by rw [h.is z hz, hmem], ?_, ?_, ?_, ?_, hch.1, ?_, ?_, h.old, ?_⟩⟩
  · intro z hz hn
    rw [hmem] at hn
    rw [hset, if_neg (fun e : z = x => hn (e ▸ hxm))]
    exact h.out z hz hn
  · intro z hz
    rw [hset]
    by_cases he : z = x
    · rw [if_pos he, he]
    · rw [if_neg he]
      refine h.all z ?_
      rw [← List.append_assoc, List.mem_append, List.mem_singleton] at hz
      exact hz.resolve_right he
  · intro z hz
    rw [hset]
    by_cases he : z = x
    · rw [if_pos he, he]
      exact Nat.le_refl _
    · rw [if_neg he]
      exact h.few z (List.mem_append_left _ hz)
  · intro z hz w hw
    rw [hmem] at hz ⊢
    rw [hset] at hw
    by_cases he : z = x
    · rw [if_pos he, he] at hw
      exact hseen w (List.mem_of_mem_take hw)
    · rw [if_neg he] at hw
      exact h.seen z hz w hw
  · intro z hz
    refine h.from_ z ?_
    simp only [List.mem_append, List.mem_singleton] at hz ⊢
    rcases hz with (hz | hz) | hz
    · exact .inl hz
    · exact .inr (.inr hz)
    · exact .inr (.inl hz)
  · rw [← List.append_assoc]
    intro A u B e v hv
    rcases List.eq_nil_or_concat B with rfl | ⟨B', b, rfl⟩
    · have hux : M ++ left = A ∧ x = u := by
        have := List.append_inj' e rfl
        exact ⟨this.1, by simpa using this.2⟩
      obtain ⟨rfl, rfl⟩ := hux
      have hvm := hseen v hv
      simp only [List.mem_append, List.mem_singleton] at hvm
      rcases hvm with hvm | hvm | hvm
      · exact .inl (List.mem_append.2 hvm)
      · refine .inr (.inr (.inr ⟨hvm, fun z hz => ?_⟩))
        rw [List.mem_singleton.1 hz]
        exact hch.2.2 v hvm x (by simp)
      · exact .inr (.inl hvm)
    · rw [List.concat_eq_append] at e ⊢
      have hux : M ++ left = A ++ u :: B' ∧ x = b := by
        rw [show A ++ u :: (B' ++ [b]) = (A ++ u :: B') ++ [b] by simp] at e
        have := List.append_inj' e rfl
        exact ⟨this.1, by simpa using this.2⟩
      obtain ⟨e1, rfl⟩ := hux
      rcases h.fin A u B' e1 v hv with h1 | h1 | ⟨B1, B2, h1, h2⟩ | ⟨h1, h2⟩
      · exact .inl h1
      · exact .inr (.inl h1)
      · exact .inr (.inr (.inl ⟨B1, B2 ++ [x], by rw [h1]; simp, h2⟩))
      · rcases List.mem_append.1 h1 with h1 | h1
        · refine .inr (.inr (.inr ⟨h1, fun z hz => ?_⟩))
          rw [← List.cons_append, List.mem_append] at hz
          rcases hz with hz | hz
          · exact h2 z hz
          · rw [List.mem_singleton.1 hz]
            exact hch.2.2 v h1 x (by simp)
        · rw [List.mem_singleton.1 h1] at h2 ⊢
          exact .inr (.inr (.inl ⟨B', [], rfl, h2⟩))
  · have := h.has
    simp only [List.mem_append, List.mem_singleton] at this ⊢
    rcases this with h1 | h1 | h1
    · exact .inl (.inl h1)
    · exact .inr h1
    · exact .inl (.inr h1)
/-- Behind a walk. -/
theorem DfsI.done {M : List Nat} {s : Nat} {met : List Bool} {tried left : List Nat} (h : DfsI ways n M s met tried [] left) :
    BtwI ways n (M ++ left) met tried ∧ s ∈ left ∧ ∀ x ∈ left, AvR ways M s x := by
  have e : M ++ left ++ [] = M ++ left := List.append_nil _
  have hnd := h.nd
  have hml := h.mlt
  have his := h.is
  have hout := h.out
  have hseen := h.seen
  rw [e] at hnd hml his hout hseen
  refine ⟨⟨h.lm, h.lt, h.lw, h.rng, hnd, hml, his, fun x hx => ?_, fun x hx y hy => ?_, h.fin⟩, by simpa using h.has, fun x hx => h.from_ x (by simpa using hx)⟩
  · split
    · next hm => exact h.all x hm
    · next hm => exact hout x hx hm
  · refine hseen x hx y ?_
    rw [h.all x hx, List.take_length]
    exact hy
/-- As long as a walk goes on: steps left. -/
theorem BtwI.start_ (hl : ways.length = n) (hr : ∀ u v, v ∈ waysAt ways u → v < n) : BtwI ways n [] (List.replicate n false) (List.replicate n 0) := by
  refine ⟨by simp, by simp, hl, hr, List.nodup_nil, by simp, fun x hx => ?_, fun x hx => ?_, by simp, fun A u B e => by simp at e⟩
  · unfold bitAt
    rw [List.getD_eq_getElem?_getD, List.getElem?_replicate]
    simp [hx]
  · unfold getH
    rw [List.getD_eq_getElem?_getD, List.getElem?_replicate]
    simp [hx]
end

end Go.Proofs.Ytgnhcaepkgbieaa
