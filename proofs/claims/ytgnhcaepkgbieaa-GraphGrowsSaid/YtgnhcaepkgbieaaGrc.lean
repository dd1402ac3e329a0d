/-
  The chapter on graphs, plainly: imports gathered, who is cyclic, places in a list, what the statements ask. No condition.
-/
import Derived.Test.YtgnhcaepkgbieaaGrb
namespace Go.Proofs.Ytgnhcaepkgbieaa

/-! Imports of a name, gathered. -/
def impF (all bs out : List Nm) : List Nm := bs.foldl (fun out b => if b ∈ all then withF out b else out) out
theorem impF_is (all : List Nm) : ∀ (bs out : List Nm), Srt out → Srt (impF all bs out) ∧ ∀ x, x ∈ impF all bs out ↔ x ∈ out ∨ (x ∈ bs ∧ x ∈ all)
  | [], out, h => by simp [impF, h]
  | b :: r, out, h => by
    unfold impF
    rw [List.foldl_cons]
    by_cases hb : b ∈ all
    · rw [if_pos hb]
      obtain ⟨g1, g2⟩ := impF_is all r _ (withF_srt h b)
      refine ⟨g1, fun x => ?_⟩
      have := g2 x
      unfold impF at this
      rw [this, withF_mem h, List.mem_cons]
      constructor
      · rintro ((rfl | hx) | ⟨h1, h2⟩)
        · exact .inr ⟨.inl rfl, hb⟩
        · exact .inl hx
        · exact .inr ⟨.inr h1, h2⟩
      · rintro (hx | ⟨rfl | h1, h2⟩)
        · exact .inl (.inr hx)
        · exact .inl (.inl rfl)
        · exact .inr ⟨h1, h2⟩
    · rw [if_neg hb]
      obtain ⟨g1, g2⟩ := impF_is all r _ h
      refine ⟨g1, fun x => ?_⟩
      have := g2 x
      unfold impF at this
      rw [this, List.mem_cons]
      constructor
      · rintro (hx | ⟨h1, h2⟩)
        · exact .inl hx
        · exact .inr ⟨.inr h1, h2⟩
      · rintro (hx | ⟨rfl | h1, h2⟩)
        · exact .inl hx
        · exact absurd h2 hb
        · exact .inr ⟨h1, h2⟩
def imsG (all : List Nm) (a : Nm) (l : List Nd) (out : List Nm) : List Nm := l.foldl (fun out n => if n.name = a then impF all n.imps out else out) out
theorem imsG_is (all : List Nm) (a : Nm) : ∀ (l : List Nd) (out : List Nm), Srt out → Srt (imsG all a l out) ∧ ∀ x, x ∈ imsG all a l out ↔ x ∈ out ∨ ∃ n ∈ l, n.name = a ∧ x ∈ n.imps ∧ x ∈ all
  | [], out, h => by simp [imsG, h]
  | n :: r, out, h => by
    unfold imsG
    rw [List.foldl_cons]
    by_cases hn : n.name = a
    · rw [if_pos hn]
      obtain ⟨f1, f2⟩ := impF_is all n.imps out h
      obtain ⟨g1, g2⟩ := imsG_is all a r _ f1
      refine ⟨g1, fun x => ?_⟩
      have := g2 x
      unfold imsG at this
      rw [this, f2]
      constructor
      · rintro ((hx | ⟨h1, h2⟩) | ⟨m, hm, h1, h2⟩)
        · exact .inl hx
        · exact .inr ⟨n, List.mem_cons_self .., hn, h1, h2⟩
        · exact .inr ⟨m, List.mem_cons_of_mem _ hm, h1, h2⟩
      · rintro (hx | ⟨m, hm, h1, h2⟩)
        · exact .inl (.inl hx)
        · rcases List.mem_cons.1 hm with rfl | hm
          · exact .inl (.inr h2)
          · exact .inr ⟨m, hm, h1, h2⟩
    · rw [if_neg hn]
      obtain ⟨g1, g2⟩ := imsG_is all a r _ h
      refine ⟨g1, fun x => ?_⟩
      have := g2 x
      unfold imsG at this
      rw [this]
      constructor
      · rintro (hx | ⟨m, hm, h1, h2⟩)
        · exact .inl hx
        · exact .inr ⟨m, List.mem_cons_of_mem _ hm, h1, h2⟩
      · rintro (hx | ⟨m, hm, h1, h2⟩)
        · exact .inl hx
        · rcases List.mem_cons.1 hm with rfl | hm
          · exact absurd h1 hn
          · exact .inr ⟨m, hm, h1, h2⟩
def imsF (l : List Nd) (a : Nm) : List Nm := imsG (namesN l) a l []
theorem imsF_is {l : List Nd} (hd : (namesN l).Nodup) (a : Nm) : Srt (imsF l a) ∧ ∀ x, x ∈ imsF l a ↔ Imp l a x := by
  obtain ⟨h1, h2⟩ := imsG_is (namesN l) a l [] trivial
  refine ⟨h1, fun x => (h2 x).trans ?_⟩
  unfold Imp
  constructor
  · rintro (h | ⟨n, hn, h3, h4, h5⟩)
    · simp at h
    · exact ⟨n, (node_iff hd).2 ⟨hn, h3⟩, h4, h5⟩
  · rintro ⟨n, hn, h4, h5⟩
    obtain ⟨h3, h6⟩ := node_name hn
    exact .inr ⟨n, h6, h3, h4, h5⟩
theorem srt_few {l : List Nd} {s : List Nm} (h : Srt s) (hs : ∀ x ∈ s, x ∈ namesN l) : s.length ≤ l.length := by
  have := (all_in h.nodup hs).1
  unfold namesN at this
  simpa using this
theorem RchN.right {l : List Nd} {a b : Nm} (h : RchN l a b) : b ∈ namesN l := by
  induction h with
  | one h => exact h.right
  | more _ _ ih => exact ih
theorem Look.few {l : List Nd} {a : Nm} {out more : List Nm} (h : Look l a out more) : out.length ≤ l.length := srt_few h.srt fun x hx => (h.sound x (.inl hx)).right
theorem withF_len {l : List Nm} (h : Srt l) {s : Nm} (hs : s ∉ l) : (withF l s).length = l.length + 1 := by
  rw [withF_eq h]
  have go : ∀ l : List Nm, s ∉ l → (insN l s).length = l.length + 1 := by
    intro l
    induction l with
    | nil => intro _; rfl
    | cons a r ih =>
      intro hs
      have hne : s ≠ a := fun e => hs (e ▸ List.mem_cons_self ..)
      unfold insN
      rw [if_neg hne]
      split
      · rfl
      · simp only [List.length_cons, ih (fun h => hs (List.mem_cons_of_mem _ h))]
  exact go l hs
theorem Look.start {l : List Nd} (a : Nm) {ims : List Nm} (hi : ∀ y, y ∈ ims ↔ Imp l a y) : Look l a [] ims :=
  ⟨trivial, fun x hx => .one ((hi x).1 (hx.resolve_left (by simp))), fun x hx => .inr ((hi x).2 hx), fun x hx => by simp at hx⟩
/-- Who reaches itself, put in one by one. -/
theorem cycF_is (l : List Nd) (t : Nd → Bool) (ht : ∀ n ∈ firstsN l, (t n = true ↔ RchN (firstsN l) n.name n.name)) : CycIs l (keepF t (firstsN l) []) := by
  obtain ⟨h1, h2⟩ := keepF_is t (firstsN l) [] trivial
  have hs := firsts_same l
  refine ⟨h1, fun a => (h2 a).trans ?_⟩
  constructor
  · rintro (h | ⟨n, hn, h3, rfl⟩)
    · simp at h
    · exact hs.rch ((ht n hn).1 h3)
  · intro h
    have h' := hs.symm.rch h
    obtain ⟨n, hn⟩ := node_some h'.names
    obtain ⟨rfl, hm⟩ := node_name hn
    exact .inr ⟨n, hm, (ht n hm).2 h', rfl⟩

/-! Places in a list of names. -/
def plG (s : Nm) (i : Int) : List Nm → Int
  | [] => -1
  | a :: r => if a = s then i else plG s (i + 1) r
def plN (l : List Nm) (s : Nm) : Int := plG s 0 l
theorem plG_out {s : Nm} : ∀ {l : List Nm} {i : Int}, s ∉ l → plG s i l = -1
  | [], _, _ => rfl
  | a :: r, i, h => by
    unfold plG
    rw [if_neg (fun e => by subst e; exact h (List.mem_cons_self ..))]
    exact plG_out fun h' => h (List.mem_cons_of_mem _ h')
theorem plG_in {s : Nm} : ∀ {p q : List Nm} {i : Int}, s ∉ p → plG s i (p ++ s :: q) = i + p.length
  | [], q, i, _ => by unfold plG; simp
  | a :: r, q, i, h => by
    rw [List.cons_append]
    unfold plG
    rw [if_neg (fun e => by subst e; exact h (List.mem_cons_self ..)), plG_in (p := r) fun h' => h (List.mem_cons_of_mem _ h')]
    simp only [List.length_cons]
    omega
theorem mem_split {s : Nm} : ∀ {l : List Nm}, s ∈ l → ∃ p q, l = p ++ s :: q ∧ s ∉ p
  | a :: r, h => by
    by_cases he : a = s
    · subst he; exact ⟨[], r, rfl, by simp⟩
    · obtain ⟨p, q, e, hp⟩ := mem_split ((List.mem_cons.1 h).resolve_left fun e => he e.symm)
      exact ⟨a :: p, q, by rw [e]; rfl, fun h' => (List.mem_cons.1 h').elim (fun e => he e.symm) hp⟩
theorem plN_in {l : List Nm} {s : Nm} (h : s ∈ l) : ∃ p q, l = p ++ s :: q ∧ s ∉ p ∧ plN l s = p.length := by
  obtain ⟨p, q, e, hp⟩ := mem_split h
  refine ⟨p, q, e, hp, ?_⟩
  subst e
  unfold plN
  rw [plG_in hp]
  omega
theorem plN_nonneg {l : List Nm} {s : Nm} : 0 ≤ plN l s ↔ s ∈ l := by
  constructor
  · intro h
    refine Classical.byContradiction fun hn => ?_
    unfold plN at h
    rw [plG_out hn] at h
    omega
  · intro h
    obtain ⟨p, q, _, _, e⟩ := plN_in h
    omega
theorem plN_lt {l : List Nm} (s : Nm) : plN l s < l.length ∧ -1 ≤ plN l s := by
  by_cases h : s ∈ l
  · obtain ⟨p, q, e, _, hp⟩ := plN_in h
    rw [hp, e]
    simp only [List.length_append, List.length_cons]
    omega
  · unfold plN
    rw [plG_out h]
    omega
/-- Who stands ahead has a lesser place. -/
theorem plN_ahead {p q : List Nm} {a b : Nm} (hd : (p ++ a :: q).Nodup) (hb : b ∈ p) : plN (p ++ a :: q) b < plN (p ++ a :: q) a := by
  rw [List.nodup_append] at hd
  have ha : a ∉ p := fun h => hd.2.2 a h a (List.mem_cons_self ..) rfl
  have e1 : plN (p ++ a :: q) a = p.length := by unfold plN; rw [plG_in ha]; omega
  obtain ⟨p', q', e, hp', _⟩ := plN_in hb
  subst e
  have e2 : plN ((p' ++ b :: q') ++ a :: q) b = p'.length := by
    rw [List.append_assoc, List.cons_append]
    unfold plN
    rw [plG_in hp']
    omega
  rw [e1, e2]
  simp only [List.length_append, List.length_cons]
  omega
theorem plN_at {l : List Nm} (hd : l.Nodup) {i : Nat} {a : Nm} (h : l[i]? = some a) : plN l a = i := by
  obtain ⟨hi, he⟩ := List.getElem?_eq_some_iff.1 h
  have e : l = l.take i ++ a :: l.drop (i + 1) := by rw [← he, ← List.drop_eq_getElem_cons hi, List.take_append_drop]
  have hn : a ∉ l.take i := by
    rw [e, List.nodup_append] at hd
    exact fun h' => hd.2.2 a h' a (List.mem_cons_self ..) rfl
  have : plN l a = plG a 0 (l.take i ++ a :: l.drop (i + 1)) := by unfold plN; rw [← e]
  rw [this, plG_in hn, List.length_take]
  omega

/-! What the statements ask. -/
theorem node_first {l : List Nd} {i : Nat} {n : Nd} (h : l[i]? = some n) (hf : n.name ∉ namesN (l.take i)) : nodeN l n.name = some n := by
  obtain ⟨hi, he⟩ := List.getElem?_eq_some_iff.1 h
  have e : l = l.take i ++ n :: l.drop (i + 1) := by rw [← he, ← List.drop_eq_getElem_cons hi, List.take_append_drop]
  have h0 : nodeN (l.take i) n.name = none := by
    cases hc : nodeN (l.take i) n.name with
    | none => rfl
    | some m => exact absurd (names_node.2 ⟨m, hc⟩) hf
  rw [e, node_app, h0]
  unfold nodeN
  rw [List.find?_cons]
  simp
theorem behind_of {l : List Nd} {o s : List Nm} (ho : RunN l [] o) (hs : StkIs l o s) {n : Nd} (hn : nodeN l n.name = some n) :
    (0 ≤ plN o n.name ↔ ¬ 0 ≤ plN s n.name) ∧ (0 ≤ plN o n.name → ∀ b ∈ n.imps, plN o b < plN o n.name ∧ ¬ 0 ≤ plN s b) := by
  have hnm : n.name ∈ namesN l := names_node.2 ⟨n, hn⟩
  obtain ⟨h1, h2, h3, h4⟩ := order_facts ho
  refine ⟨?_, fun h b hb => ?_⟩
  · rw [plN_nonneg, plN_nonneg, hs.2]
    exact ⟨fun h h' => h'.2 h, fun h => Classical.byContradiction fun h' => h ⟨hnm, h'⟩⟩
  · rw [plN_nonneg] at h
    by_cases hbn : b ∈ namesN l
    · obtain ⟨p, q, e⟩ := List.append_of_mem h
      have hbp := h4 p _ q e b ⟨n, hn, hb, hbn⟩
      refine ⟨?_, ?_⟩
      · rw [e] at h1 ⊢
        exact plN_ahead h1 hbp
      · rw [plN_nonneg, hs.2]
        exact fun h' => h'.2 (e ▸ List.mem_append_left _ hbp)
    · have hbo : b ∉ o := fun h' => hbn (h2 b h')
      have hbs : b ∉ s := fun h' => hbn ((hs.2 b).1 h').1
      refine ⟨?_, by rw [plN_nonneg]; exact hbs⟩
      have : plN o b = -1 := by unfold plN; exact plG_out hbo
      have := plN_nonneg.2 h
      omega
/-- Stuck is who is cyclic, or imports one that is stuck. -/
theorem stuck_of {l : List Nd} {o s c : List Nm} (ho : RunN l [] o) (hs : StkIs l o s) (hc : CycIs l c) : (∀ a ∈ c, a ∈ s) ∧ ∀ n, nodeN l n.name = some n → ((n.name ∈ c ∨ ∃ b ∈ n.imps, b ∈ s) ↔ n.name ∈ s) := by
  have hcs : ∀ a ∈ c, a ∈ s := fun a ha => (hs.2 a).2 ⟨((hc.2 a).1 ha).names, cyc_stuck ho ((hc.2 a).1 ha)⟩
  refine ⟨hcs, fun n hn => ?_⟩
  have hnm : n.name ∈ namesN l := names_node.2 ⟨n, hn⟩
  constructor
  · rintro (h | ⟨b, hb, hbs⟩)
    · exact hcs _ h
    · obtain ⟨h1, h2⟩ := (hs.2 b).1 hbs
      exact (hs.2 _).2 ⟨hnm, (stuck_iff ho hnm).2 ⟨b, ⟨n, hn, hb, h1⟩, h2⟩⟩
  · intro h
    obtain ⟨b, ⟨m, hm, hb, hbn⟩, hbo⟩ := (stuck_iff ho hnm).1 ((hs.2 _).1 h).2
    rw [hn] at hm
    injection hm with e
    subst e
    exact .inr ⟨b, hb, (hs.2 b).2 ⟨hbn, hbo⟩⟩
/-- One package more, that nobody imports: the same but for itself. -/
theorem grows_of {l : List Nd} {n : Nd} {a b c d : List Nm} (hn : n.name ∉ namesN l) (hu : ∀ x m, nodeN l x = some m → n.name ∉ m.imps)
    (ha : RunN l [] a) (hb : StkIs l a b) (hc : RunN (l ++ [n]) [] c) (hd : StkIs (l ++ [n]) c d) :
    c.filter (· ≠ n.name) = a ∧ d.filter (· ≠ n.name) = b ∧ c.length + d.length = a.length + b.length + 1 := by
  have e1 : c.filter (· ≠ n.name) = a := (run_more hn hu hc).unique ha
  have hsrt : ∀ {s : List Nm}, Srt s → Srt (s.filter (· ≠ n.name)) := by
    intro s
    induction s with
    | nil => exact fun _ => trivial
    | cons x r ih =>
      intro h
      rw [List.filter_cons]
      split
      · exact ⟨fun y hy => h.1 y (List.mem_filter.1 hy).1, ih h.2⟩
      · exact ih h.2
  have e2 : d.filter (· ≠ n.name) = b := by
    refine (hsrt hd.1).ext hb.1 fun x => ?_
    rw [hb.2, ← e1]
    simp only [List.mem_filter, hd.2, names_more, ne_eq, decide_not, Bool.not_eq_true', decide_eq_false_iff_not]
    constructor
    · rintro ⟨⟨h1, h2⟩, h3⟩
      exact ⟨h1.resolve_right h3, fun h => h2 h.1⟩
    · rintro ⟨h1, h2⟩
      have h3 : x ≠ n.name := fun e => hn (e ▸ h1)
      exact ⟨⟨.inl h1, fun h => h2 ⟨h, h3⟩⟩, h3⟩
  refine ⟨e1, e2, ?_⟩
  have hcount : ∀ {s : List Nm}, s.Nodup → s.length = (s.filter (· ≠ n.name)).length + (if n.name ∈ s then 1 else 0) := by
    intro s
    induction s with
    | nil => intro _; simp
    | cons x r ih =>
      intro h
      have := ih (List.nodup_cons.1 h).2
      have hx := (List.nodup_cons.1 h).1
      by_cases he : x = n.name
      · rw [List.filter_cons_of_neg (by simp [he]), if_pos (he ▸ List.mem_cons_self ..)]
        rw [if_neg (fun h' => hx (he ▸ h'))] at this
        simp only [List.length_cons]
        omega
      · have e3 : (n.name ∈ x :: r) = (n.name ∈ r) := by
          rw [List.mem_cons]
          exact propext ⟨fun h => h.resolve_left (fun e => he e.symm), .inr⟩
        rw [List.filter_cons_of_pos (by simp [he])]
        simp only [List.length_cons, e3]
        omega
  have hcd := (order_facts hc).1
  have h1 := hcount hcd
  have h2 := hcount hd.1.nodup
  rw [e1] at h1
  rw [e2] at h2
  have hx : (n.name ∈ c) ∨ (n.name ∈ d) := by
    by_cases h : n.name ∈ c
    · exact .inl h
    · exact .inr ((hd.2 _).2 ⟨(names_more l n _).2 (.inr rfl), h⟩)
  have hy : n.name ∈ d → n.name ∉ c := fun h => ((hd.2 _).1 h).2
  by_cases h : n.name ∈ c
  · have h' : n.name ∉ d := fun h' => hy h' h
    rw [if_pos h] at h1
    rw [if_neg h'] at h2
    omega
  · rw [if_neg h] at h1
    rw [if_pos (hx.resolve_left h)] at h2
    omega

end Go.Proofs.Ytgnhcaepkgbieaa
