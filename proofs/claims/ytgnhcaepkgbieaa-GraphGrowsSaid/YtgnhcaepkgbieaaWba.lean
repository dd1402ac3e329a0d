/-
  Who imports whom, with numbers for names; an order out of waits and a heap. Plainly. No condition.
-/
import Derived.Test.YtgnhcaepkgbieaaGrc
import Derived.Test.YtgnhcaepkgbieaaHpa
namespace Go.Proofs.Ytgnhcaepkgbieaa

def waysAt (l : List (List Nat)) (u : Nat) : List Nat := l.getD u []
/-- The web of packages: names rising; who imports whom, both ways. -/
structure WebIs (l : List Nd) (names : List Nm) (imps users : List (List Nat)) : Prop where
  srt : Srt names
  mem : ∀ a, a ∈ names ↔ a ∈ namesN l
  li : imps.length = names.length
  lu : users.length = names.length
  imp : ∀ u v a b, names[u]? = some a → names[v]? = some b → (v ∈ waysAt imps u ↔ Imp l a b)
  rng : ∀ u v, v ∈ waysAt imps u → v < names.length
  cnt : ∀ u v, (waysAt imps u).count v = (waysAt users v).count u
theorem ways_out {l : List (List Nat)} {u v : Nat} (h : v ∈ waysAt l u) : u < l.length := by
  refine Classical.byContradiction fun hn => ?_
  unfold waysAt at h
  rw [List.getD_eq_getElem?_getD, List.getElem?_eq_none (by omega)] at h
  simp at h
theorem WebIs.back {l : List Nd} {names : List Nm} {imps users : List (List Nat)} (h : WebIs l names imps users) {u v : Nat} : v ∈ waysAt imps u ↔ u ∈ waysAt users v := by
  rw [← List.count_pos_iff, ← List.count_pos_iff, h.cnt]
theorem WebIs.rngU {l : List Nd} {names : List Nm} {imps users : List (List Nat)} (h : WebIs l names imps users) {u v : Nat} (hu : u ∈ waysAt users v) : u < names.length := by
  have := ways_out (h.back.2 hu)
  rw [h.li] at this
  exact this
theorem srt_at : ∀ {l : List Nm} {i j : Nat} {a b : Nm}, Srt l → l[i]? = some a → l[j]? = some b → i < j → lessN a b = true
  | x :: r, 0, j + 1, a, b, h, ha, hb, _ => by
    simp only [List.getElem?_cons_zero, Option.some.injEq] at ha
    subst ha
    exact h.1 b (List.mem_of_getElem? (by simpa using hb))
  | x :: r, i + 1, j + 1, a, b, h, ha, hb, hij => srt_at (l := r) (i := i) (j := j) h.2 (by simpa using ha) (by simpa using hb) (by omega)
theorem srt_inj {l : List Nm} (h : Srt l) {i j : Nat} {a : Nm} (hi : l[i]? = some a) (hj : l[j]? = some a) : i = j := by
  rcases Nat.lt_trichotomy i j with hl | hl | hl
  · exact absurd rfl (less_ne (srt_at h hi hj hl))
  · exact hl
  · exact absurd rfl (less_ne (srt_at h hj hi hl))

/-- Imports that are still waited for. -/
def pendW (imps : List (List Nat)) (o : List Nat) (i : Nat) : Nat := (waysAt imps i).countP (fun v => !decide (v ∈ o))
theorem pend_zero {imps : List (List Nat)} {o : List Nat} {i : Nat} : pendW imps o i = 0 ↔ ∀ v ∈ waysAt imps i, v ∈ o := by
  unfold pendW
  rw [List.countP_eq_zero]
  exact ⟨fun h v hv => by simpa using h v hv, fun h v hv => by simpa using h v hv⟩
theorem pend_nil (imps : List (List Nat)) (i : Nat) : pendW imps [] i = (waysAt imps i).length := by
  unfold pendW
  rw [List.countP_eq_length]
  simp
theorem pend_snoc {imps : List (List Nat)} {o : List Nat} {x : Nat} (hx : x ∉ o) (i : Nat) : pendW imps o i = pendW imps (o ++ [x]) i + (waysAt imps i).count x := by
  unfold pendW
  generalize waysAt imps i = l
  induction l with
  | nil => rfl
  | cons a r ih =>
    rw [List.countP_cons, List.countP_cons, List.count_cons, ih]
    by_cases ha : a = x
    · subst ha; simp [hx]; omega
    · simp [ha]; omega
/-- At each time: what waits, what is ready. -/
structure OrdI (l : List Nd) (names : List Nm) (imps users : List (List Nat)) (o waits H : List Nat) (more : List Nat) : Prop where
  nd : o.Nodup
  lt : ∀ x ∈ o, x < names.length
  fin : ∀ x ∈ o, pendW imps o x = 0
  len : waits.length = names.length
  wait : ∀ i, i < names.length → getH waits i = pendW imps o i + more.count i
  heap : HeapH H
  hnd : H.Nodup
  mem : ∀ x, x ∈ H ↔ x < names.length ∧ x ∉ o ∧ getH waits x = 0
  pre : PreN l (o.map fun i => names.getD i [])
section
variable {l : List Nd} {names : List Nm} {imps users : List (List Nat)} (W : WebIs l names imps users)
include W
theorem name_map {o : List Nat} (hlt : ∀ x ∈ o, x < names.length) {i : Nat} {a : Nm} (hi : names[i]? = some a) : a ∈ o.map (fun i => names.getD i []) ↔ i ∈ o := by
  rw [List.mem_map]
  constructor
  · rintro ⟨j, hj, e⟩
    have hj' : names[j]? = some a := by
      have hl := hlt j hj
      rw [List.getD_eq_getElem?_getD, List.getElem?_eq_getElem hl] at e
      rw [List.getElem?_eq_getElem hl]
      exact congrArg some e
    exact srt_inj W.srt hj' hi ▸ hj
  · intro h
    exact ⟨i, h, by rw [List.getD_eq_getElem?_getD, hi]; rfl⟩
theorem rdy_num {o : List Nat} (hlt : ∀ x ∈ o, x < names.length) {i : Nat} {a : Nm} (hi : names[i]? = some a) :
    RdyP l (o.map fun i => names.getD i []) a ↔ i ∉ o ∧ pendW imps o i = 0 := by
  unfold RdyP
  rw [name_map W hlt hi, pend_zero]
  have ha : a ∈ namesN l := (W.mem a).1 (List.mem_of_getElem? hi)
  constructor
  · rintro ⟨_, h2, h3⟩
    refine ⟨h2, fun v hv => ?_⟩
    have hvl := W.rng _ _ hv
    have hb : names[v]? = some names[v] := List.getElem?_eq_getElem hvl
    exact (name_map W hlt hb).1 (h3 _ ((W.imp _ _ _ _ hi hb).1 hv))
  · rintro ⟨h2, h3⟩
    refine ⟨ha, h2, fun b hb => ?_⟩
    obtain ⟨v, hv⟩ := List.getElem?_of_mem ((W.mem b).2 hb.right)
    exact (name_map W hlt hv).2 (h3 v ((W.imp _ _ _ _ hi hv).2 hb))
omit W in
/-- At the start. -/
theorem OrdI.start {waits H : List Nat} (hl : waits.length = names.length) (hw : ∀ i, i < names.length → getH waits i = (waysAt imps i).length) (hh : HeapH H) (hn : H.Nodup)
    (hm : ∀ x, x ∈ H ↔ x < names.length ∧ getH waits x = 0) : OrdI l names imps users [] waits H [] :=
  ⟨List.nodup_nil, by simp, by simp, hl, fun i hi => by rw [pend_nil]; simpa using hw i hi, hh, hn, fun x => by simpa using hm x, PreN.nil l⟩
/-- The first one that is ready is taken. -/
theorem OrdI.take {o waits H R : List Nat} {x : Nat} (h : OrdI l names imps users o waits H []) (hR : HeapH R) (hp : (x :: R).Perm H) (hmin : ∀ y ∈ H, x ≤ y) :
    OrdI l names imps users (o ++ [x]) waits R (waysAt users x) := by
  have hx : x ∈ H := hp.mem_iff.1 (List.mem_cons_self ..)
  obtain ⟨hx1, hx2, hx3⟩ := (h.mem x).1 hx
  have hnd : (x :: R).Nodup := hp.nodup_iff.2 h.hnd
  have hpx : pendW imps o x = 0 := by
    have := h.wait x hx1
    simp at this
    omega
  have hlt : ∀ y ∈ o ++ [x], y < names.length := fun y hy => by
    rcases List.mem_append.1 hy with hy | hy
    · exact h.lt y hy
    · rw [List.mem_singleton.1 hy]; exact hx1
  have hxn : names[x]? = some names[x] := List.getElem?_eq_getElem hx1
  refine ⟨?_, hlt, fun y hy => ?_, h.len, fun i hi => ?_, hR, (List.nodup_cons.1 hnd).2, fun y => ?_, ?_⟩
  · rw [List.nodup_append]
    refine ⟨h.nd, by simp, fun a ha b hb e => ?_⟩
    rw [List.mem_singleton.1 hb] at e
    subst e
    exact hx2 ha
  · rw [pend_zero]
    intro v hv
    rcases List.mem_append.1 hy with hy | hy
    · exact List.mem_append_left _ (pend_zero.1 (h.fin y hy) v hv)
    · rw [List.mem_singleton.1 hy] at hv
      exact List.mem_append_left _ (pend_zero.1 hpx v hv)
  · have := h.wait i hi
    rw [List.count_nil, Nat.add_zero, pend_snoc hx2 i, W.cnt] at this
    exact this
  · have hy := hp.mem_iff (a := y)
    rw [List.mem_cons, h.mem] at hy
    constructor
    · intro hyR
      obtain ⟨a, b, c⟩ := hy.1 (.inr hyR)
      have hne : y ≠ x := fun e => (List.nodup_cons.1 hnd).1 (e ▸ hyR)
      exact ⟨a, by simp [b, hne], c⟩
    · rintro ⟨a, b, c⟩
      simp only [List.mem_append, List.mem_singleton, not_or] at b
      exact (hy.2 ⟨a, b.1, c⟩).resolve_left b.2
  · rw [List.map_append, List.map_singleton]
    refine h.pre.snoc ?_
    have e : names.getD x [] = names[x] := by rw [List.getD_eq_getElem?_getD, hxn]; rfl
    rw [e]
    refine ⟨(rdy_num W h.lt hxn).2 ⟨hx2, hpx⟩, fun b hb hne => ?_⟩
    obtain ⟨j, hj⟩ := List.getElem?_of_mem ((W.mem b).2 hb.1)
    obtain ⟨h1, h2⟩ := (rdy_num W h.lt hj).1 hb
    have hjl : j < names.length := (List.getElem?_eq_some_iff.1 hj).1
    have hjH : j ∈ H := (h.mem j).2 ⟨hjl, h1, by have := h.wait j hjl; simp at this; omega⟩
    have hle := hmin j hjH
    have hjx : j ≠ x := fun e => by
      subst e
      rw [hxn] at hj
      exact hne (Option.some.inj hj).symm
    exact srt_at W.srt hxn hj (by omega)
/-- One user waits for one less. -/
theorem OrdI.user {o waits H more : List Nat} {x y : Nat} (h : OrdI l names imps users (o ++ [x]) waits H (y :: more)) (hy : y ∈ waysAt users x) (hxo : x ∉ o) (hpx : ∀ z ∈ o, pendW imps o z = 0) (hx0 : pendW imps o x = 0) :
    y < names.length ∧ 0 < getH waits y ∧ (getH waits y - 1 ≠ 0 → OrdI l names imps users (o ++ [x]) (waits.set y (getH waits y - 1)) H more) ∧
      (getH waits y - 1 = 0 → y ∉ H ∧ ∀ H', HeapH H' → H'.Perm (y :: H) → OrdI l names imps users (o ++ [x]) (waits.set y (getH waits y - 1)) H' more) := by
  have hyl := W.rngU hy
  have hyx : x ∈ waysAt imps y := W.back.2 hy
  have hyo : y ∉ o ++ [x] := fun hm => by
    rcases List.mem_append.1 hm with hm | hm
    · exact hxo (pend_zero.1 (hpx y hm) x hyx)
    · rw [List.mem_singleton.1 hm] at hyx
      exact hxo (pend_zero.1 hx0 x hyx)
  have hwy := h.wait y hyl
  rw [List.count_cons_self] at hwy
  have hset : ∀ i, getH (waits.set y (getH waits y - 1)) i = if i = y then getH waits y - 1 else getH waits i := fun i => getH_set _ _ _ _ (by rw [h.len]; exact hyl)
  have hwait : ∀ i, i < names.length → getH (waits.set y (getH waits y - 1)) i = pendW imps (o ++ [x]) i + more.count i := fun i hi => by
    rw [hset]
    by_cases he : i = y
    · subst he; rw [if_pos rfl]; omega
    · rw [if_neg he]
      have := h.wait i hi
      rw [List.count_cons_of_ne (fun e => he e.symm)] at this
      exact this
  have hyH : y ∉ H := fun hm => by
    have := ((h.mem y).1 hm).2.2
    omega
  refine ⟨hyl, by omega, fun h0 => ?_, fun h0 => ⟨hyH, fun H' hh hp => ?_⟩⟩
  · refine ⟨h.nd, h.lt, h.fin, by rw [List.length_set]; exact h.len, hwait, h.heap, h.hnd, fun z => ?_, h.pre⟩
    rw [h.mem, hset]
    by_cases he : z = y
    · subst he
      rw [if_pos rfl]
      exact ⟨fun ⟨_, _, c⟩ => absurd c (by omega), fun ⟨_, _, c⟩ => absurd c h0⟩
    · rw [if_neg he]
  · refine ⟨h.nd, h.lt, h.fin, by rw [List.length_set]; exact h.len, hwait, hh, hp.nodup_iff.2 (List.nodup_cons.2 ⟨hyH, h.hnd⟩), fun z => ?_, h.pre⟩
    rw [hp.mem_iff, List.mem_cons, h.mem, hset]
    by_cases he : z = y
    · subst he
      rw [if_pos rfl]
      exact ⟨fun _ => ⟨hyl, hyo, h0⟩, fun _ => .inl rfl⟩
    · rw [if_neg he]
      exact ⟨fun hz => hz.resolve_left he, .inr⟩
/-- Nothing is ready any more. -/
theorem OrdI.done {o waits : List Nat} (h : OrdI l names imps users o waits [] []) :
    RunN l [] (o.map fun i => names.getD i []) ∧ StkIs l (o.map fun i => names.getD i []) (((List.range names.length).filter fun i => decide (0 < getH waits i)).map fun i => names.getD i []) := by
  have hw : ∀ i, i < names.length → getH waits i = pendW imps o i := fun i hi => by simpa using h.wait i hi
  have hst : ∀ i, i < names.length → (0 < getH waits i ↔ i ∉ o) := fun i hi => by
    rw [hw i hi]
    constructor
    · intro h1 h2
      have := h.fin i h2
      omega
    · intro h1
      refine Nat.pos_of_ne_zero fun h0 => ?_
      have := (h.mem i).2 ⟨hi, h1, (hw i hi).trans h0⟩
      simp at this
  have hno : ∀ a, ¬ RdyP l (o.map fun i => names.getD i []) a := fun a ha => by
    obtain ⟨i, hi⟩ := List.getElem?_of_mem ((W.mem a).2 ha.1)
    obtain ⟨h1, h2⟩ := (rdy_num W h.lt hi).1 ha
    have hil : i < names.length := (List.getElem?_eq_some_iff.1 hi).1
    have := (hst i hil).2 h1
    rw [hw i hil] at this
    omega
  refine ⟨h.pre.run hno, ?_, fun a => ?_⟩
  · have go : ∀ (s : List Nat), s.Pairwise (· < ·) → (∀ i ∈ s, i < names.length) → Srt (s.map fun i => names.getD i []) := by
      intro s
      induction s with
      | nil => intro _ _; trivial
      | cons x r ih =>
        intro hp hl
        rw [List.pairwise_cons] at hp
        refine ⟨fun b hb => ?_, ih hp.2 fun i hi => hl i (List.mem_cons_of_mem _ hi)⟩
        obtain ⟨j, hj, rfl⟩ := List.mem_map.1 hb
        have hx := hl x (List.mem_cons_self ..)
        have hjl := hl j (List.mem_cons_of_mem _ hj)
        refine srt_at W.srt (i := x) (j := j) ?_ ?_ (hp.1 j hj)
        · show names[x]? = some (names.getD x []); rw [List.getD_eq_getElem?_getD, List.getElem?_eq_getElem hx]; rfl
        · rw [List.getD_eq_getElem?_getD, List.getElem?_eq_getElem hjl]; rfl
    refine go _ (List.pairwise_lt_range.filter _) fun i hi => ?_
    simpa using (List.mem_filter.1 hi).1
  · rw [List.mem_map]
    constructor
    · rintro ⟨i, hi, rfl⟩
      obtain ⟨h1, h2⟩ := List.mem_filter.1 hi
      have hil : i < names.length := by simpa using h1
      have hin : names[i]? = some (names.getD i []) := by rw [List.getD_eq_getElem?_getD, List.getElem?_eq_getElem hil]; rfl
      refine ⟨(W.mem _).1 (List.mem_of_getElem? hin), fun hm => ?_⟩
      exact (hst i hil).1 (by simpa using h2) ((name_map W h.lt hin).1 hm)
    · rintro ⟨h1, h2⟩
      obtain ⟨i, hi⟩ := List.getElem?_of_mem ((W.mem a).2 h1)
      have hil : i < names.length := (List.getElem?_eq_some_iff.1 hi).1
      refine ⟨i, List.mem_filter.2 ⟨by simpa using hil, ?_⟩, by rw [List.getD_eq_getElem?_getD, hi]; rfl⟩
      rw [decide_eq_true_eq, hst i hil]
      exact fun hm => h2 ((name_map W h.lt hi).2 hm)
end

end Go.Proofs.Ytgnhcaepkgbieaa
