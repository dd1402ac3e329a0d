/-
  The web of packages, laid import by import. Plainly. No condition.
-/
import Derived.Test.YtgnhcaepkgbieaaWbc
import Derived.Test.YtgnhcaepkgbieaaMpe
namespace Go.Proofs.Ytgnhcaepkgbieaa

/-- The number of a name. -/
def idxN (names : List Nm) (a : Nm) : Option Nat := names.findIdx? (fun x => x == a)
theorem idxN_some {names : List Nm} {a : Nm} {i : Nat} (h : idxN names a = some i) : names[i]? = some a := by
  unfold idxN at h
  rw [List.findIdx?_eq_some_iff_getElem] at h
  obtain ⟨hi, h1, _⟩ := h
  rw [List.getElem?_eq_getElem hi]
  simpa using h1
theorem idxN_none {names : List Nm} {a : Nm} : idxN names a = none ↔ a ∉ names := by
  unfold idxN
  rw [List.findIdx?_eq_none_iff]
  constructor
  · intro h hm
    simpa using h a hm
  · intro h x hx
    simpa using fun e : x = a => h (e ▸ hx)
theorem idxN_at {names : List Nm} (hs : Srt names) {i : Nat} {a : Nm} (h : names[i]? = some a) : idxN names a = some i := by
  cases hc : idxN names a with
  | none => exact absurd (List.mem_of_getElem? h) (idxN_none.1 hc)
  | some j => rw [srt_inj hs (idxN_some hc) h]
theorem idxN_snoc {l : List Nm} {s : Nm} (hs : s ∉ l) : idxN (l ++ [s]) = putF (idxN l) s l.length := by
  funext a
  unfold putF
  unfold idxN
  rw [List.findIdx?_append]
  by_cases ha : a = s
  · subst ha
    have : l.findIdx? (fun x => x == a) = none := idxN_none.2 hs
    rw [this, if_pos rfl]
    simp
  · have : ([s] : List Nm).findIdx? (fun x => x == a) = none := by
      rw [List.findIdx?_eq_none_iff]
      intro x hx
      rw [List.mem_singleton.1 hx]
      simpa using fun e => ha e.symm
    rw [this, if_neg ha]
    cases l.findIdx? (fun x => x == a) <;> rfl
def impsOf (l : List Nd) (a : Nm) : List Nm := match nodeN l a with | some n => n.imps | none => []
/-- As far as it is laid: up to one user, and some of its imports. -/
structure WebI (l : List Nd) (names : List Nm) (u k : Nat) (I U : List (List Nat)) : Prop where
  li : I.length = names.length
  lu : U.length = names.length
  is : ∀ a s, names[a]? = some s → waysAt I a = if a < u then (impsOf l s).filterMap (idxN names) else if a = u then ((impsOf l s).take k).filterMap (idxN names) else []
  cnt : ∀ a b, (waysAt I a).count b = (waysAt U b).count a
  few : ∀ v, (waysAt U v).length ≤ u * 1000 + k
theorem ways_set (l : List (List Nat)) (i k : Nat) (x : List Nat) (hi : i < l.length) : waysAt (l.set i x) k = if k = i then x else waysAt l k := by
  unfold waysAt
  rw [List.getD_eq_getElem?_getD, List.getD_eq_getElem?_getD, List.getElem?_set]
  by_cases h : k = i
  · subst h; simp [hi]
  · rw [if_neg (fun e => h e.symm), if_neg h]
theorem ways_nil (n k : Nat) : waysAt (List.replicate n []) k = [] := by
  unfold waysAt
  rw [List.getD_eq_getElem?_getD, List.getElem?_replicate]
  split <;> rfl
theorem ways_get {l : List (List Nat)} {i : Nat} (h : i < l.length) : l[i]? = some (waysAt l i) := by
  unfold waysAt
  rw [List.getD_eq_getElem?_getD, List.getElem?_eq_getElem h]
  rfl
theorem ways_none {l : List (List Nat)} {i : Nat} (h : l.length ≤ i) : waysAt l i = [] := by
  unfold waysAt
  rw [List.getD_eq_getElem?_getD, List.getElem?_eq_none h]
  rfl
section
variable {l : List Nd} {names : List Nm} {u k : Nat} {I U : List (List Nat)}
theorem WebI.start (l : List Nd) (names : List Nm) : WebI l names 0 0 (List.replicate names.length []) (List.replicate names.length []) := by
  refine ⟨by simp, by simp, fun a s h => ?_, fun a b => by rw [ways_nil, ways_nil]; rfl, fun v => by rw [ways_nil]; exact Nat.zero_le _⟩
  rw [ways_nil, if_neg (by omega)]
  split <;> simp
theorem WebI.known (h : WebI l names u k I U) {s b : Nm} {v : Nat} (hs : names[u]? = some s) (hb : (impsOf l s)[k]? = some b) (hv : idxN names b = some v) :
    WebI l names u (k + 1) (I.set u (waysAt I u ++ [v])) (U.set v (waysAt U v ++ [u])) := by
  have hun : u < names.length := (List.getElem?_eq_some_iff.1 hs).1
  have hvn : v < names.length := (List.getElem?_eq_some_iff.1 (idxN_some hv)).1
  have hI := fun a => ways_set I u a (waysAt I u ++ [v]) (by rw [h.li]; exact hun)
  have hU := fun a => ways_set U v a (waysAt U v ++ [u]) (by rw [h.lu]; exact hvn)
  refine ⟨by rw [List.length_set]; exact h.li, by rw [List.length_set]; exact h.lu, fun a t ha => ?_, fun a c => ?_, fun c => ?_⟩
  · rw [hI]
    by_cases hau : a = u
    · subst hau
      rw [hs] at ha
      injection ha with ha
      subst ha
      have := h.is a s hs
      rw [if_neg (Nat.lt_irrefl a), if_pos rfl] at this ⊢
      rw [if_pos rfl, this, List.take_add_one, hb, Option.toList_some, List.filterMap_append]
      simp [hv]
    · rw [if_neg hau]
      have := h.is a t ha
      rw [if_neg hau] at this ⊢
      exact this
  · rw [hI, hU]
    have := h.cnt a c
    by_cases hau : a = u
    · rw [if_pos hau, hau]
      rw [hau] at this
      by_cases hcv : c = v
      · rw [if_pos hcv, List.count_append, List.count_append, hcv]
        rw [hcv] at this
        rw [this]
        simp
      · rw [if_neg hcv, List.count_append, this]
        rw [List.count_eq_zero.2 (fun hm => hcv (List.mem_singleton.1 hm)), Nat.add_zero]
    · rw [if_neg hau]
      by_cases hcv : c = v
      · rw [if_pos hcv, List.count_append, this, hcv]
        rw [show [u].count a = 0 from List.count_eq_zero.2 fun hm => hau (List.mem_singleton.1 hm), Nat.add_zero]
      · rw [if_neg hcv]
        exact this
  · rw [hU]
    have := h.few c
    by_cases hcv : c = v
    · rw [if_pos hcv, List.length_append, ← hcv]
      simp only [List.length_singleton]
      omega
    · rw [if_neg hcv]
      omega
theorem WebI.unknown (h : WebI l names u k I U) {s b : Nm} (hs : names[u]? = some s) (hb : (impsOf l s)[k]? = some b) (hv : idxN names b = none) : WebI l names u (k + 1) I U := by
  refine ⟨h.li, h.lu, fun a t ha => ?_, h.cnt, fun v => Nat.le_trans (h.few v) (by omega)⟩
  have := h.is a t ha
  by_cases hau : a = u
  · subst hau
    rw [hs] at ha
    injection ha with ha
    subst ha
    rw [if_neg (Nat.lt_irrefl a), if_pos rfl] at this ⊢
    rw [this, List.take_add_one, hb, Option.toList_some, List.filterMap_append]
    simp [hv]
  · rw [if_neg hau] at this ⊢
    exact this
theorem WebI.next (h : WebI l names u k I U) {s : Nm} (hs : names[u]? = some s) (hk : (impsOf l s).length ≤ k) (hk2 : k ≤ 1000) : WebI l names (u + 1) 0 I U := by
  refine ⟨h.li, h.lu, fun a t ha => ?_, h.cnt, fun v => Nat.le_trans (h.few v) (by omega)⟩
  have := h.is a t ha
  rcases Nat.lt_trichotomy a u with hl | hl | hl
  · rw [if_pos hl] at this
    rw [if_pos (by omega)]
    exact this
  · subst hl
    rw [hs] at ha
    injection ha with ha
    subst ha
    rw [if_neg (Nat.lt_irrefl a), if_pos rfl, List.take_of_length_le hk] at this
    rw [if_pos (by omega)]
    exact this
  · rw [if_neg (by omega), if_neg (by omega)] at this
    rw [if_neg (by omega), this]
    split <;> simp
theorem WebI.done (h : WebI l names names.length k I U) (hs : Srt names) (hm : ∀ a, a ∈ names ↔ a ∈ namesN l) : WebIs l names I U := by
  have his : ∀ a s, names[a]? = some s → waysAt I a = (impsOf l s).filterMap (idxN names) := fun a s ha => by
    have := h.is a s ha
    rw [if_pos (List.getElem?_eq_some_iff.1 ha).1] at this
    exact this
  refine ⟨hs, hm, h.li, h.lu, fun u v a b hu hv => ?_, fun u v hv => ?_, h.cnt⟩
  · rw [his u a hu, List.mem_filterMap]
    unfold impsOf Imp
    have hbn : b ∈ namesN l := (hm b).1 (List.mem_of_getElem? hv)
    constructor
    · rintro ⟨c, hc, hcv⟩
      have hcb : c = b := by
        have := idxN_some hcv
        rw [hv] at this
        exact (Option.some.inj this).symm
      subst hcb
      cases hn : nodeN l a with
      | none => rw [hn] at hc; simp at hc
      | some n =>
        rw [hn] at hc
        exact ⟨n, rfl, hc, hbn⟩
    · rintro ⟨n, hn, hb, _⟩
      exact ⟨b, by rw [hn]; exact hb, idxN_at hs hv⟩
  · have hun : u < names.length := by
      have := ways_out hv
      rw [h.li] at this
      exact this
    rw [his u names[u] (List.getElem?_eq_getElem hun), List.mem_filterMap] at hv
    obtain ⟨c, _, hc⟩ := hv
    exact (List.getElem?_eq_some_iff.1 (idxN_some hc)).1
end

end Go.Proofs.Ytgnhcaepkgbieaa
