/-
  The chapter on graphs, plainly: the document's own steps, loop by loop, come to what the chapter says. No condition.
-/
import Derived.Test.YtgnhcaepkgbieaaGra
namespace Go.Proofs.Ytgnhcaepkgbieaa

/-! A name put in its place. -/
def wstep (s : Nm) (st : List Nm × Bool) (a : Nm) : List Nm × Bool := if !st.2 && lessN s a then (st.1 ++ [s] ++ [a], true) else (st.1 ++ [a], st.2)
def wend (s : Nm) (st : List Nm × Bool) : List Nm := if st.2 then st.1 else st.1 ++ [s]
def withF (l : List Nm) (s : Nm) : List Nm := wend s (l.foldl (wstep s) ([], decide (s ∈ l)))
theorem wstep_true (s : Nm) : ∀ (l p : List Nm), l.foldl (wstep s) (p, true) = (p ++ l, true)
  | [], p => by simp
  | a :: r, p => by
    rw [List.foldl_cons]
    have : wstep s (p, true) a = (p ++ [a], true) := by simp [wstep]
    rw [this, wstep_true s r]
    simp
theorem wstep_false (s : Nm) : ∀ (l p : List Nm), s ∉ l → wend s (l.foldl (wstep s) (p, false)) = p ++ insN l s
  | [], p, _ => by simp [wend, insN]
  | a :: r, p, h => by
    rw [List.foldl_cons]
    have hne : s ≠ a := fun e => h (e ▸ List.mem_cons_self ..)
    unfold insN
    rw [if_neg hne]
    by_cases hl : lessN s a = true
    · have : wstep s (p, false) a = (p ++ [s] ++ [a], true) := by simp [wstep, hl]
      rw [this, wstep_true, if_pos hl]
      simp [wend]
    · have : wstep s (p, false) a = (p ++ [a], false) := by simp [wstep, hl]
      rw [this, wstep_false s r _ (fun h' => h (List.mem_cons_of_mem _ h')), if_neg hl]
      simp
theorem withF_eq {l : List Nm} (h : Srt l) (s : Nm) : withF l s = insN l s := by
  unfold withF
  by_cases hs : s ∈ l
  · rw [decide_eq_true hs, wstep_true]
    simp only [wend, List.nil_append, if_true]
    refine (insN_srt s h).ext h (fun x => ?_) |>.symm
    rw [insN_mem]
    constructor
    · rintro (rfl | h)
      · exact hs
      · exact h
    · exact .inr
  · rw [decide_eq_false hs, wstep_false s l [] hs]
    simp
theorem withF_srt {l : List Nm} (h : Srt l) (s : Nm) : Srt (withF l s) := by rw [withF_eq h]; exact insN_srt s h
theorem withF_mem {l : List Nm} (h : Srt l) (s x : Nm) : x ∈ withF l s ↔ x = s ∨ x ∈ l := by rw [withF_eq h]; exact insN_mem s l x

/-- Names of those that a test keeps, put in one by one. -/
def keepF (t : Nd → Bool) (l : List Nd) (out : List Nm) : List Nm := l.foldl (fun out n => if t n then withF out n.name else out) out
theorem keepF_is (t : Nd → Bool) : ∀ (l : List Nd) (out : List Nm), Srt out → Srt (keepF t l out) ∧ ∀ x, x ∈ keepF t l out ↔ x ∈ out ∨ ∃ n ∈ l, t n = true ∧ n.name = x
  | [], out, h => by simp [keepF, h]
  | n :: r, out, h => by
    unfold keepF
    rw [List.foldl_cons]
    by_cases ht : t n = true
    · rw [if_pos ht]
      obtain ⟨g1, g2⟩ := keepF_is t r _ (withF_srt h n.name)
      refine ⟨g1, fun x => ?_⟩
      have := g2 x
      unfold keepF at this
      rw [this, withF_mem h]
      constructor
      · rintro ((rfl | hx) | ⟨m, hm, h1, h2⟩)
        · exact .inr ⟨n, List.mem_cons_self .., ht, rfl⟩
        · exact .inl hx
        · exact .inr ⟨m, List.mem_cons_of_mem _ hm, h1, h2⟩
      · rintro (hx | ⟨m, hm, h1, rfl⟩)
        · exact .inl (.inr hx)
        · rcases List.mem_cons.1 hm with rfl | hm
          · exact .inl (.inl rfl)
          · exact .inr ⟨m, hm, h1, rfl⟩
    · rw [if_neg ht]
      obtain ⟨g1, g2⟩ := keepF_is t r _ h
      refine ⟨g1, fun x => ?_⟩
      have := g2 x
      unfold keepF at this
      rw [this]
      constructor
      · rintro (hx | ⟨m, hm, h1, h2⟩)
        · exact .inl hx
        · exact .inr ⟨m, List.mem_cons_of_mem _ hm, h1, h2⟩
      · rintro (hx | ⟨m, hm, h1, rfl⟩)
        · exact .inl hx
        · rcases List.mem_cons.1 hm with rfl | hm
          · exact absurd h1 ht
          · exact .inr ⟨m, hm, h1, rfl⟩

/-! The first of each name. -/
def fstep (out : List Nd) (n : Nd) : List Nd := if n.name ∈ namesN out then out else out ++ [n]
def firstsN (l : List Nd) : List Nd := l.foldl fstep []
theorem node_app (p q : List Nd) (a : Nm) : nodeN (p ++ q) a = (nodeN p a).or (nodeN q a) := List.find?_append
theorem node_one (n : Nd) (a : Nm) : nodeN [n] a = if n.name = a then some n else none := by
  unfold nodeN
  rw [List.find?_cons]
  by_cases h : n.name = a
  · rw [if_pos h]; simp [h]
  · rw [if_neg h]
    have : (n.name == a) = false := by simpa using h
    rw [this]
    rfl
theorem names_node {l : List Nd} {a : Nm} : a ∈ namesN l ↔ ∃ n, nodeN l a = some n :=
  ⟨node_some, fun ⟨_, h⟩ => List.mem_map.2 ⟨_, (node_name h).2, (node_name h).1⟩⟩
theorem firsts_go : ∀ (l p out : List Nd), (namesN out).Nodup → (∀ a, nodeN p a = nodeN out a) → (namesN (l.foldl fstep out)).Nodup ∧ ∀ a, nodeN (p ++ l) a = nodeN (l.foldl fstep out) a
  | [], p, out, hd, hn => by simpa using ⟨hd, hn⟩
  | n :: r, p, out, hd, hn => by
    rw [List.foldl_cons, show p ++ n :: r = (p ++ [n]) ++ r by simp]
    refine firsts_go r (p ++ [n]) (fstep out n) ?_ fun a => ?_
    · unfold fstep
      split
      · exact hd
      · next h =>
        unfold namesN at h ⊢
        rw [List.map_append, List.nodup_append]
        refine ⟨hd, by simp, fun x hx y hy e => ?_⟩
        simp only [List.map_cons, List.map_nil, List.mem_singleton] at hy
        subst hy
        subst e
        exact h hx
    · rw [node_app, hn a, node_one]
      unfold fstep
      by_cases h : n.name ∈ namesN out
      · rw [if_pos h]
        by_cases he : n.name = a
        · rw [if_pos he]
          subst he
          obtain ⟨m, hm⟩ := node_some h
          rw [hm]; rfl
        · rw [if_neg he]
          exact Option.or_none
      · rw [if_neg h, node_app, node_one]
theorem firsts_nodup (l : List Nd) : (namesN (firstsN l)).Nodup := (firsts_go l [] [] List.nodup_nil (fun _ => rfl)).1
theorem firsts_node (l : List Nd) (a : Nm) : nodeN (firstsN l) a = nodeN l a := ((firsts_go l [] [] List.nodup_nil (fun _ => rfl)).2 a).symm
theorem firsts_names (l : List Nd) (a : Nm) : a ∈ namesN (firstsN l) ↔ a ∈ namesN l := by rw [names_node, names_node, firsts_node]
theorem firsts_same (l : List Nd) : SameN (firstsN l) l := ⟨firsts_names l, fun a b => by unfold Imp; rw [firsts_node, firsts_names]⟩
theorem firsts_mem {l : List Nd} {n : Nd} : n ∈ firstsN l ↔ nodeN l n.name = some n := by
  rw [← firsts_node, node_iff (firsts_nodup l)]
  exact ⟨fun h => ⟨h, rfl⟩, fun h => h.1⟩
/-- A name's test over the first ones. -/
theorem keep_firsts (t : Nd → Bool) (l : List Nd) : Srt (keepF t (firstsN l) []) ∧ ∀ x, x ∈ keepF t (firstsN l) [] ↔ ∃ n, nodeN l x = some n ∧ t n = true := by
  obtain ⟨h1, h2⟩ := keepF_is t (firstsN l) [] trivial
  refine ⟨h1, fun x => (h2 x).trans ?_⟩
  constructor
  · rintro (h | ⟨n, hn, ht, rfl⟩)
    · simp at h
    · exact ⟨n, firsts_mem.1 hn, ht⟩
  · rintro ⟨n, hn, ht⟩
    obtain ⟨rfl, _⟩ := node_name hn
    exact .inr ⟨n, firsts_mem.2 hn, ht, rfl⟩

/-! Who is ready; who uses. -/
def rdyB (all done : List Nm) (n : Nd) : Bool := !decide (n.name ∈ done) && n.imps.all fun b => !decide (b ∈ all) || decide (b ∈ done)
def readyF (l : List Nd) (done : List Nm) : List Nm := keepF (rdyB (namesN (firstsN l)) done) (firstsN l) []
theorem readyF_is (l : List Nd) (done : List Nm) : IsReady l done (readyF l done) := by
  obtain ⟨h1, h2⟩ := keep_firsts (rdyB (namesN (firstsN l)) done) l
  refine ⟨h1, fun a => (h2 a).trans ?_⟩
  unfold rdyB RdyP Imp
  simp only [Bool.and_eq_true, Bool.not_eq_true', decide_eq_false_iff_not, List.all_eq_true, Bool.or_eq_true, decide_eq_true_eq, firsts_names]
  constructor
  · rintro ⟨n, hn, h3, h4⟩
    obtain ⟨rfl, hm⟩ := node_name hn
    refine ⟨List.mem_map.2 ⟨n, hm, rfl⟩, h3, ?_⟩
    rintro b ⟨m, hm', hb, hbn⟩
    rw [hn] at hm'
    injection hm' with e
    subst e
    exact (h4 b hb).resolve_left (fun h => h hbn)
  · rintro ⟨h3, h4, h5⟩
    obtain ⟨n, hn⟩ := node_some h3
    obtain ⟨rfl, _⟩ := node_name hn
    refine ⟨n, hn, h4, fun b hb => ?_⟩
    by_cases hbn : b ∈ namesN l
    · exact .inr (h5 b ⟨n, hn, hb, hbn⟩)
    · exact .inl hbn
def usersF (l : List Nd) (s : Nm) : List Nm := keepF (fun n => decide (s ∈ n.imps)) (firstsN l) []
theorem usersF_is (l : List Nd) (s : Nm) : UsersIs l s (usersF l s) := by
  obtain ⟨h1, h2⟩ := keep_firsts (fun n => decide (s ∈ n.imps)) l
  exact ⟨h1, fun a => (h2 a).trans (by simp)⟩
theorem UsersIs.eq {l : List Nd} {s : Nm} {a b : List Nm} (h : UsersIs l s a) (h' : UsersIs l s b) : a = b := Srt.ext h.1 h'.1 fun x => (h.2 x).trans (h'.2 x).symm
theorem StkIs.eq {l : List Nd} {o a b : List Nm} (h : StkIs l o a) (h' : StkIs l o b) : a = b := Srt.ext h.1 h'.1 fun x => (h.2 x).trans (h'.2 x).symm
theorem CycIs.eq {l : List Nd} {a b : List Nm} (h : CycIs l a) (h' : CycIs l b) : a = b := Srt.ext h.1 h'.1 fun x => (h.2 x).trans (h'.2 x).symm

/-! The order. -/
def PreN (l : List Nd) (o : List Nm) : Prop := ∀ i a, o[i]? = some a → FirstN l (o.take i) a
theorem PreN.nil (l : List Nd) : PreN l [] := fun i a h => by simp at h
theorem PreN.snoc {l : List Nd} {o : List Nm} {a : Nm} (h : PreN l o) (ha : FirstN l o a) : PreN l (o ++ [a]) := fun i b hb => by
  by_cases hi : i < o.length
  · rw [List.getElem?_append_left hi] at hb
    rw [List.take_append_of_le_length (by omega)]
    exact h i b hb
  · rw [List.getElem?_append_right (by omega)] at hb
    have h0 : i - o.length = 0 := by
      have := (List.getElem?_eq_some_iff.1 hb).1
      simp at this
      omega
    rw [h0] at hb
    simp only [List.getElem?_cons_zero, Option.some.injEq] at hb
    subst hb
    have : i = o.length := by omega
    subst this
    rw [List.take_left']
    · exact ha
    · rfl
theorem run_of {l : List Nd} : ∀ {r done : List Nm}, (∀ i a, r[i]? = some a → FirstN l (done ++ r.take i) a) → (∀ a, ¬ RdyP l (done ++ r) a) → RunN l done r
  | [], done, _, h => .stop (by simpa using h)
  | x :: r, done, h, hs => by
    refine .step (by simpa using h 0 x rfl) (run_of (fun i a ha => ?_) (by simpa [List.append_assoc] using hs))
    have := h (i + 1) a (by simpa using ha)
    simpa [List.append_assoc] using this
theorem PreN.run {l : List Nd} {o : List Nm} (h : PreN l o) (hs : ∀ a, ¬ RdyP l o a) : RunN l [] o := run_of (by simpa [PreN] using h) (by simpa using hs)
theorem PreN.nodup {l : List Nd} : ∀ {o : List Nm}, PreN l o → o.Nodup ∧ ∀ a ∈ o, a ∈ namesN l := by
  intro o h
  refine ⟨?_, fun a ha => ?_⟩
  · rw [List.nodup_iff_pairwise_ne, List.pairwise_iff_getElem]
    intro i j hi hj hij e
    have := (h j o[j] (List.getElem?_eq_getElem hj)).1.2.1
    exact this (List.mem_take_iff_getElem.2 ⟨i, by omega, e⟩)
  · obtain ⟨i, hi, rfl⟩ := List.getElem_of_mem ha
    exact (h i _ (List.getElem?_eq_getElem hi)).1.1
/-- As many as there are: all. -/
theorem all_in {α : Type} [BEq α] [LawfulBEq α] : ∀ {a b : List α}, a.Nodup → (∀ x ∈ a, x ∈ b) → a.length ≤ b.length ∧ (a.length = b.length → ∀ x ∈ b, x ∈ a)
  | [], b, _, _ => ⟨Nat.zero_le _, fun h x hx => by rw [List.eq_nil_of_length_eq_zero (l := b) (by simpa using h.symm)] at hx; exact hx⟩
  | y :: a, b, hd, hs => by
    have hy : y ∈ b := hs y (List.mem_cons_self ..)
    obtain ⟨h1, h2⟩ := all_in (a := a) (b := b.erase y) (List.nodup_cons.1 hd).2 fun x hx => by
      have hne : x ≠ y := fun e => (List.nodup_cons.1 hd).1 (e ▸ hx)
      exact (List.mem_erase_of_ne hne).2 (hs x (List.mem_cons_of_mem _ hx))
    have hl := List.length_erase_of_mem hy
    have hp : 0 < b.length := List.length_pos_of_mem hy
    rw [hl] at h1 h2
    refine ⟨by simp only [List.length_cons]; omega, fun h x hx => ?_⟩
    by_cases he : x = y
    · exact he ▸ List.mem_cons_self ..
    · exact List.mem_cons_of_mem _ (h2 (by simp only [List.length_cons] at h; omega) x ((List.mem_erase_of_ne he).2 hx))
theorem PreN.full {l : List Nd} {o : List Nm} (h : PreN l o) (hn : (firstsN l).length ≤ o.length) (a : Nm) : ¬ RdyP l o a := fun hr => by
  obtain ⟨h1, h2⟩ := h.nodup
  have hs : ∀ x ∈ o, x ∈ namesN (firstsN l) := fun x hx => (firsts_names l x).2 (h2 x hx)
  have hl : (namesN (firstsN l)).length = (firstsN l).length := List.length_map ..
  obtain ⟨g1, g2⟩ := all_in h1 hs
  exact hr.2.1 (g2 (by omega) a ((firsts_names l a).2 hr.1))
theorem PreN.room {l : List Nd} {o : List Nm} (h : PreN l o) : o.length ≤ (firstsN l).length := by
  obtain ⟨h1, h2⟩ := h.nodup
  have hl : (namesN (firstsN l)).length = (firstsN l).length := List.length_map ..
  exact hl ▸ (all_in h1 fun x hx => (firsts_names l x).2 (h2 x hx)).1
def stuckF (l : List Nd) (o : List Nm) : List Nm := keepF (fun n => !decide (n.name ∈ o)) (firstsN l) []
theorem stuckF_is (l : List Nd) (o : List Nm) : StkIs l o (stuckF l o) := by
  obtain ⟨h1, h2⟩ := keep_firsts (fun n => !decide (n.name ∈ o)) l
  refine ⟨h1, fun a => (h2 a).trans ?_⟩
  constructor
  · rintro ⟨n, hn, ht⟩
    obtain ⟨rfl, _⟩ := node_name hn
    exact ⟨names_node.2 ⟨n, hn⟩, by simpa using ht⟩
  · rintro ⟨h3, h4⟩
    obtain ⟨n, hn⟩ := node_some h3
    obtain ⟨rfl, _⟩ := node_name hn
    exact ⟨n, hn, by simpa using h4⟩

/-! What is reached. -/
/-- Seen and still to be seen: all that is reached lies behind them. -/
structure Look (l : List Nd) (a : Nm) (out more : List Nm) : Prop where
  srt : Srt out
  sound : ∀ x, x ∈ out ∨ x ∈ more → RchN l a x
  first : ∀ x, Imp l a x → x ∈ out ∨ x ∈ more
  next : ∀ x ∈ out, ∀ y, Imp l x y → y ∈ out ∨ y ∈ more
theorem RchN.snoc {l : List Nd} {a b c : Nm} (h : RchN l a b) (hi : Imp l b c) : RchN l a c := by
  induction h with
  | one h => exact .more h (.one hi)
  | more h _ ih => exact .more h (ih hi)
theorem Look.done {l : List Nd} {a : Nm} {out : List Nm} (h : Look l a out []) (x : Nm) : x ∈ out ↔ RchN l a x := by
  refine ⟨fun hx => h.sound x (.inl hx), fun hr => ?_⟩
  have go : ∀ {u v : Nm}, RchN l u v → (u = a ∨ u ∈ out) → v ∈ out := by
    intro u v hr
    induction hr with
    | one hi =>
      rintro (rfl | hu)
      · exact (h.first _ hi).resolve_right (by simp)
      · exact (h.next _ hu _ hi).resolve_right (by simp)
    | more hi _ ih =>
      rintro (rfl | hu)
      · exact ih (.inr ((h.first _ hi).resolve_right (by simp)))
      · exact ih (.inr ((h.next _ hu _ hi).resolve_right (by simp)))
  exact go hr (.inl rfl)
theorem Look.skip {l : List Nd} {a x : Nm} {out more : List Nm} (h : Look l a out (x :: more)) (hx : x ∈ out) : Look l a out more := by
  have go : ∀ y, y ∈ out ∨ y ∈ x :: more → y ∈ out ∨ y ∈ more := fun y hy => by
    rcases hy with hy | hy
    · exact .inl hy
    · rcases List.mem_cons.1 hy with rfl | hy
      · exact .inl hx
      · exact .inr hy
  exact ⟨h.srt, fun y hy => h.sound y (hy.imp id (List.mem_cons_of_mem _)), fun y hy => go y (h.first y hy), fun z hz y hy => go y (h.next z hz y hy)⟩
theorem Look.take {l : List Nd} {a x : Nm} {out more ims : List Nm} (h : Look l a out (x :: more)) (hi : ∀ y, y ∈ ims ↔ Imp l x y) : Look l a (withF out x) (more ++ ims) := by
  have hr := h.sound x (.inr (List.mem_cons_self ..))
  have go : ∀ y, y ∈ out ∨ y ∈ x :: more → y ∈ withF out x ∨ y ∈ more ++ ims := fun y hy => by
    rcases hy with hy | hy
    · exact .inl ((withF_mem h.srt x y).2 (.inr hy))
    · rcases List.mem_cons.1 hy with rfl | hy
      · exact .inl ((withF_mem h.srt y y).2 (.inl rfl))
      · exact .inr (List.mem_append_left _ hy)
  refine ⟨withF_srt h.srt x, fun y hy => ?_, fun y hy => go y (h.first y hy), fun z hz y hy => ?_⟩
  · rcases hy with hy | hy
    · rcases (withF_mem h.srt x y).1 hy with rfl | hy
      · exact hr
      · exact h.sound y (.inl hy)
    · rcases List.mem_append.1 hy with hy | hy
      · exact h.sound y (.inr (List.mem_cons_of_mem _ hy))
      · exact hr.snoc ((hi y).1 hy)
  · rcases (withF_mem h.srt x z).1 hz with rfl | hz
    · exact .inr (List.mem_append_right _ ((hi y).2 hy))
    · exact go y (h.next z hz y hy)

end Go.Proofs.Ytgnhcaepkgbieaa
