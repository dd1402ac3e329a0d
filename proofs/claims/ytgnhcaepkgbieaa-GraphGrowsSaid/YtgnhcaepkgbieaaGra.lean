/-
  The chapter on graphs, plainly: names in bytewise order, who is ready, the order, who is stuck, who reaches whom; what follows. No condition.
-/
import Derived.Test.YtgnhcaepkgbieaaProg
namespace Go.Proofs.Ytgnhcaepkgbieaa

abbrev Nm := List UInt8
def lessN (a b : Nm) : Bool := Go.Op.bytesLess a b
theorem less_irr : ∀ a : Nm, lessN a a = false
  | [] => rfl
  | x :: r => by
    have := less_irr r
    unfold lessN at this ⊢
    simp [Go.Op.bytesLess, this]
theorem less_trans : ∀ {a b c : Nm}, lessN a b = true → lessN b c = true → lessN a c = true
  | _, [], _, h, _ => by cases ‹Nm› <;> simp [lessN, Go.Op.bytesLess] at h
  | _, _ :: _, [], _, h => by simp [lessN, Go.Op.bytesLess] at h
  | [], y :: s, z :: t, _, _ => by simp [lessN, Go.Op.bytesLess]
  | x :: r, y :: s, z :: t, h1, h2 => by
    simp only [lessN, Go.Op.bytesLess, Bool.or_eq_true, Bool.and_eq_true, decide_eq_true_eq, beq_iff_eq] at h1 h2 ⊢
    rcases h1 with h1 | ⟨rfl, h1⟩
    · rcases h2 with h2 | ⟨rfl, h2⟩
      · exact .inl (UInt8.lt_trans h1 h2)
      · exact .inl h1
    · rcases h2 with h2 | ⟨rfl, h2⟩
      · exact .inl h2
      · exact .inr ⟨rfl, less_trans (a := r) (b := s) (c := t) h1 h2⟩
theorem less_tri : ∀ {a b : Nm}, lessN a b = false → lessN b a = false → a = b
  | [], [], _, _ => rfl
  | [], y :: s, h, _ => by simp [lessN, Go.Op.bytesLess] at h
  | x :: r, [], _, h => by simp [lessN, Go.Op.bytesLess] at h
  | x :: r, y :: s, h1, h2 => by
    simp only [lessN, Go.Op.bytesLess, Bool.or_eq_false_iff, Bool.and_eq_false_iff, decide_eq_false_iff_not, beq_eq_false_iff_ne] at h1 h2
    have e : x = y := by
      have a := UInt8.not_lt.1 h1.1
      have b := UInt8.not_lt.1 h2.1
      exact UInt8.le_antisymm b a
    subst e
    have p := h1.2.resolve_left (fun h => h rfl)
    have q := h2.2.resolve_left (fun h => h rfl)
    rw [less_tri (a := r) (b := s) p q]
theorem less_ne {a b : Nm} (h : lessN a b = true) : a ≠ b := fun e => by
  subst e
  rw [less_irr] at h
  cases h
theorem less_asym {a b : Nm} (h : lessN a b = true) : lessN b a = false := by
  cases h2 : lessN b a with
  | false => rfl
  | true =>
    have := less_trans h h2
    rw [less_irr] at this
    cases this

/-- Rising, each once. -/
def Srt : List Nm → Prop
  | [] => True
  | a :: r => (∀ b ∈ r, lessN a b = true) ∧ Srt r
theorem Srt.nodup : ∀ {l : List Nm}, Srt l → l.Nodup
  | [], _ => List.nodup_nil
  | a :: _, h => List.nodup_cons.2 ⟨fun hm => less_ne (h.1 a hm) rfl, Srt.nodup h.2⟩
/-- A rising list is what it holds. -/
theorem Srt.ext : ∀ {a b : List Nm}, Srt a → Srt b → (∀ x, x ∈ a ↔ x ∈ b) → a = b
  | [], [], _, _, _ => rfl
  | [], y :: s, _, _, h => absurd ((h y).2 (List.mem_cons_self ..)) (by simp)
  | x :: r, [], _, _, h => absurd ((h x).1 (List.mem_cons_self ..)) (by simp)
  | x :: r, y :: s, h1, h2, h => by
    have e : x = y := by
      have hx := (h x).1 (List.mem_cons_self ..)
      have hy := (h y).2 (List.mem_cons_self ..)
      rcases List.mem_cons.1 hx with e | hx
      · exact e
      · rcases List.mem_cons.1 hy with e | hy
        · exact e.symm
        · have a := h1.1 y hy
          have b := h2.1 x hx
          rw [less_asym a] at b
          cases b
    subst e
    have hr : ∀ z, z ∈ r ↔ z ∈ s := fun z => by
      constructor
      · intro hz
        rcases List.mem_cons.1 ((h z).1 (List.mem_cons_of_mem _ hz)) with e | hz'
        · exact absurd e.symm (less_ne (h1.1 z hz))
        · exact hz'
      · intro hz
        rcases List.mem_cons.1 ((h z).2 (List.mem_cons_of_mem _ hz)) with e | hz'
        · exact absurd e.symm (less_ne (h2.1 z hz))
        · exact hz'
    rw [Srt.ext h1.2 h2.2 hr]
/-- One more name in its place, once. -/
def insN (l : List Nm) (s : Nm) : List Nm := match l with
  | [] => [s]
  | a :: r => if s = a then a :: r else if lessN s a then s :: a :: r else a :: insN r s
theorem insN_mem (s : Nm) : ∀ (l : List Nm) (x : Nm), x ∈ insN l s ↔ x = s ∨ x ∈ l
  | [], x => by simp [insN]
  | a :: r, x => by
    unfold insN
    split
    · next h => subst h; simp
    · split
      · simp
      · have := insN_mem s r x
        simp only [List.mem_cons, this]
        constructor
        · rintro (h | h | h)
          · exact .inr (.inl h)
          · exact .inl h
          · exact .inr (.inr h)
        · rintro (h | h | h)
          · exact .inr (.inl h)
          · exact .inl h
          · exact .inr (.inr h)
theorem insN_srt (s : Nm) : ∀ {l : List Nm}, Srt l → Srt (insN l s)
  | [], _ => ⟨fun b hb => by simp at hb, trivial⟩
  | a :: r, h => by
    unfold insN
    split
    · exact h
    · next hne =>
      split
      · next hl =>
        refine ⟨fun b hb => ?_, h⟩
        rcases List.mem_cons.1 hb with rfl | hb
        · exact hl
        · exact less_trans hl (h.1 b hb)
      · next hl =>
        refine ⟨fun b hb => ?_, insN_srt s h.2⟩
        rcases (insN_mem s r b).1 hb with rfl | hb
        · cases ha : lessN a b with
          | true => rfl
          | false => exact absurd (less_tri (by simpa using hl) ha) hne
        · exact h.1 b hb

/-- Packages. -/
structure Nd where
  name : Nm
  imps : List Nm
def namesN (l : List Nd) : List Nm := l.map (·.name)
/-- The first one of a name. -/
def nodeN (l : List Nd) (a : Nm) : Option Nd := l.find? (fun n => n.name == a)
/-- An import of a package. -/
def Imp (l : List Nd) (a b : Nm) : Prop := ∃ n, nodeN l a = some n ∧ b ∈ n.imps ∧ b ∈ namesN l
theorem node_name {l : List Nd} {a : Nm} {n : Nd} (h : nodeN l a = some n) : n.name = a ∧ n ∈ l := by
  refine ⟨?_, List.mem_of_find?_eq_some h⟩
  simpa using List.find?_some h
theorem node_some {l : List Nd} {a : Nm} (h : a ∈ namesN l) : ∃ n, nodeN l a = some n := by
  obtain ⟨n, hn, he⟩ := List.mem_map.1 h
  cases hf : nodeN l a with
  | some m => exact ⟨m, rfl⟩
  | none =>
    have := List.find?_eq_none.1 hf n hn
    simp [he] at this
theorem Imp.left {l : List Nd} {a b : Nm} (h : Imp l a b) : a ∈ namesN l := by
  obtain ⟨n, hn, _⟩ := h
  obtain ⟨h1, h2⟩ := node_name hn
  exact List.mem_map.2 ⟨n, h2, h1⟩
theorem Imp.right {l : List Nd} {a b : Nm} (h : Imp l a b) : b ∈ namesN l := by
  obtain ⟨n, _, _, h⟩ := h
  exact h
def RdyP (l : List Nd) (done : List Nm) (a : Nm) : Prop := a ∈ namesN l ∧ a ∉ done ∧ ∀ b, Imp l a b → b ∈ done
def IsReady (l : List Nd) (done out : List Nm) : Prop := Srt out ∧ ∀ a, a ∈ out ↔ RdyP l done a
/-- The first of those that are ready. -/
def FirstN (l : List Nd) (done : List Nm) (a : Nm) : Prop := RdyP l done a ∧ ∀ b, RdyP l done b → b ≠ a → lessN a b = true
theorem FirstN.unique {l : List Nd} {done : List Nm} {a b : Nm} (ha : FirstN l done a) (hb : FirstN l done b) : a = b := by
  by_cases h : b = a
  · exact h.symm
  · have h1 := ha.2 b hb.1 h
    have h2 := hb.2 a ha.1 (fun e => h e.symm)
    rw [less_asym h1] at h2
    cases h2
theorem IsReady.first {l : List Nd} {done r : List Nm} {a : Nm} (h : IsReady l done (a :: r)) : FirstN l done a :=
  ⟨(h.2 a).1 (List.mem_cons_self ..), fun b hb hne => by
    rcases List.mem_cons.1 ((h.2 b).2 hb) with e | hm
    · exact absurd e hne
    · exact h.1.1 b hm⟩
theorem IsReady.none {l : List Nd} {done : List Nm} (h : IsReady l done []) (a : Nm) : ¬ RdyP l done a := fun hr => by
  have := (h.2 a).2 hr
  simp at this
theorem IsReady.eq {l : List Nd} {done r s : List Nm} (h : IsReady l done r) (h' : IsReady l done s) : r = s :=
  Srt.ext h.1 h'.1 fun x => (h.2 x).trans (h'.2 x).symm
/-- What is chosen, one by one. -/
inductive RunN (l : List Nd) : List Nm → List Nm → Prop
  | stop {done : List Nm} : (∀ a, ¬ RdyP l done a) → RunN l done []
  | step {done : List Nm} {a : Nm} {r : List Nm} : FirstN l done a → RunN l (done ++ [a]) r → RunN l done (a :: r)
theorem RunN.unique {l : List Nd} : ∀ {r s done : List Nm}, RunN l done r → RunN l done s → r = s
  | [], [], _, _, _ => rfl
  | [], b :: s, _, h, h' => by
    cases h with | stop h => cases h' with | step h' _ => exact absurd h'.1 (h b)
  | a :: r, [], _, h, h' => by
    cases h' with | stop h' => cases h with | step h _ => exact absurd h.1 (h' a)
  | a :: r, b :: s, done, h, h' => by
    cases h with | step h1 h2 => cases h' with | step h1' h2' =>
      have e := h1.unique h1'
      subst e
      rw [RunN.unique h2 h2']
def StkIs (l : List Nd) (o s : List Nm) : Prop := Srt s ∧ ∀ a, a ∈ s ↔ a ∈ namesN l ∧ a ∉ o
/-- Reached over one import or more. -/
inductive RchN (l : List Nd) : Nm → Nm → Prop
  | one {a b : Nm} : Imp l a b → RchN l a b
  | more {a b c : Nm} : Imp l a b → RchN l b c → RchN l a c
def CycIs (l : List Nd) (c : List Nm) : Prop := Srt c ∧ ∀ a, a ∈ c ↔ RchN l a a
def UsersIs (l : List Nd) (s : Nm) (out : List Nm) : Prop := Srt out ∧ ∀ a, a ∈ out ↔ ∃ n, nodeN l a = some n ∧ s ∈ n.imps

/-! What follows. -/
theorem RunN.spread {l : List Nd} : ∀ {r done : List Nm}, RunN l done r → done.Nodup → (done ++ r).Nodup ∧ (∀ a ∈ r, a ∈ namesN l) ∧ (∀ a, ¬ RdyP l (done ++ r) a) ∧ (∀ p a q, r = p ++ a :: q → ∀ b, Imp l a b → b ∈ done ++ p)
  | [], done, h, hd => by
    cases h with | stop h =>
      refine ⟨by simpa using hd, by simp, by simpa using h, fun p a q e => by simp at e⟩
  | a :: r, done, h, hd => by
    cases h with | step h1 h2 =>
      have hd2 : (done ++ [a]).Nodup := by
        rw [List.nodup_append]
        refine ⟨hd, by simp, fun x hx y hy e => ?_⟩
        rw [List.mem_singleton.1 hy] at e
        subst e
        exact h1.1.2.1 hx
      obtain ⟨g1, g2, g3, g4⟩ := RunN.spread h2 hd2
      rw [List.append_assoc, List.singleton_append] at g1 g3
      refine ⟨g1, fun x hx => ?_, g3, fun p x q e b hb => ?_⟩
      · rcases List.mem_cons.1 hx with rfl | hx
        · exact h1.1.1
        · exact g2 x hx
      · cases p with
        | nil =>
          simp only [List.nil_append, List.cons.injEq] at e
          obtain ⟨rfl, rfl⟩ := e
          simpa using h1.1.2.2 b hb
        | cons y p =>
          simp only [List.cons_append, List.cons.injEq] at e
          obtain ⟨rfl, rfl⟩ := e
          have := g4 p x q rfl b hb
          simpa [List.append_assoc] using this
/-- An order: each once, of nodes, behind its imports; nobody else is ready. -/
theorem order_facts {l : List Nd} {o : List Nm} (h : RunN l [] o) : o.Nodup ∧ (∀ a ∈ o, a ∈ namesN l) ∧ (∀ a, ¬ RdyP l o a) ∧ (∀ p a q, o = p ++ a :: q → ∀ b, Imp l a b → b ∈ p) := by
  obtain ⟨h1, h2, h3, h4⟩ := h.spread (List.nodup_nil)
  simp only [List.nil_append] at h1 h3 h4
  exact ⟨h1, h2, h3, h4⟩
/-- Step by step. -/
theorem RunN.at_ {l : List Nd} : ∀ {r done : List Nm} {i : Nat} {a : Nm}, RunN l done r → r[i]? = some a → FirstN l (done ++ r.take i) a
  | x :: r, done, 0, a, h, hi => by
    cases h with | step h1 _ =>
      simp only [List.getElem?_cons_zero, Option.some.injEq] at hi
      subst hi
      simpa using h1
  | x :: r, done, i + 1, a, h, hi => by
    cases h with | step h1 h2 =>
      have := RunN.at_ (i := i) h2 (by simpa using hi)
      simpa [List.append_assoc] using this
  | [], _, _, _, _, hi => by simp at hi
/-- Stuck is who imports one that is stuck, and nobody else. -/
theorem stuck_iff {l : List Nd} {o : List Nm} (h : RunN l [] o) {a : Nm} (ha : a ∈ namesN l) : a ∉ o ↔ ∃ b, Imp l a b ∧ b ∉ o := by
  obtain ⟨_, _, h3, h4⟩ := order_facts h
  constructor
  · intro hn
    refine Classical.byContradiction fun hc => h3 a ⟨ha, hn, fun b hb => Classical.byContradiction fun hb' => hc ⟨b, hb, hb'⟩⟩
  · rintro ⟨b, hb, hbo⟩ hao
    obtain ⟨p, q, e⟩ := List.append_of_mem hao
    have := h4 p a q e b hb
    exact hbo (e ▸ List.mem_append_left _ this)
theorem reach_before {l : List Nd} {o : List Nm} (h : RunN l [] o) {a b : Nm} (hr : RchN l a b) : ∀ p q, o = p ++ a :: q → b ∈ p := by
  obtain ⟨_, _, _, h4⟩ := order_facts h
  induction hr with
  | one hi => exact fun p q e => h4 p _ q e _ hi
  | more hi _ ih =>
    intro p q e
    have hb := h4 p _ q e _ hi
    obtain ⟨p', q', e'⟩ := List.append_of_mem hb
    have := ih p' (q' ++ _ :: q) (by rw [e, e', List.append_assoc, List.cons_append])
    rw [e']
    exact List.mem_append_left _ this
/-- Who reaches itself stands not in order. -/
theorem cyc_stuck {l : List Nd} {o : List Nm} (h : RunN l [] o) {a : Nm} (hc : RchN l a a) : a ∉ o := fun ha => by
  obtain ⟨h1, _⟩ := order_facts h
  obtain ⟨p, q, e⟩ := List.append_of_mem ha
  have hp := reach_before h hc p q e
  rw [e, List.nodup_append] at h1
  exact h1.2.2 a hp a (List.mem_cons_self ..) rfl
theorem RchN.names {l : List Nd} {a b : Nm} (h : RchN l a b) : a ∈ namesN l := by
  cases h with
  | one h => exact h.left
  | more h _ => exact h.left

/-! The same packages in another order. -/
structure SameN (l l' : List Nd) : Prop where
  names : ∀ a, a ∈ namesN l ↔ a ∈ namesN l'
  imps : ∀ a b, Imp l a b ↔ Imp l' a b
theorem SameN.symm {l l' : List Nd} (h : SameN l l') : SameN l' l := ⟨fun a => (h.names a).symm, fun a b => (h.imps a b).symm⟩
theorem SameN.rdy {l l' : List Nd} (h : SameN l l') {done : List Nm} {a : Nm} (hr : RdyP l done a) : RdyP l' done a :=
  ⟨(h.names a).1 hr.1, hr.2.1, fun b hb => hr.2.2 b ((h.imps a b).2 hb)⟩
theorem SameN.run {l l' : List Nd} (h : SameN l l') {done r : List Nm} (hr : RunN l done r) : RunN l' done r := by
  induction hr with
  | stop hn => exact .stop fun a ha => hn a (h.symm.rdy ha)
  | step h1 _ ih => exact .step ⟨h.rdy h1.1, fun b hb hne => h1.2 b (h.symm.rdy hb) hne⟩ ih
theorem SameN.rch {l l' : List Nd} (h : SameN l l') {a b : Nm} (hr : RchN l a b) : RchN l' a b := by
  induction hr with
  | one hi => exact .one ((h.imps _ _).1 hi)
  | more hi _ ih => exact .more ((h.imps _ _).1 hi) ih
theorem node_unlike : ∀ {l : List Nd} {n : Nd}, (namesN l).Nodup → n ∈ l → nodeN l n.name = some n
  | x :: r, n, hd, hn => by
    unfold nodeN
    rw [List.find?_cons]
    rcases List.mem_cons.1 hn with rfl | hn
    · simp
    · have hne : (x.name == n.name) = false := by
        have := (List.nodup_cons.1 hd).1
        rw [beq_eq_false_iff_ne]
        intro e
        exact this (List.mem_map.2 ⟨n, hn, e.symm⟩)
      rw [hne]
      exact node_unlike (List.nodup_cons.1 hd).2 hn
theorem node_iff {l : List Nd} (hd : (namesN l).Nodup) {a : Nm} {n : Nd} : nodeN l a = some n ↔ n ∈ l ∧ n.name = a :=
  ⟨fun h => ⟨(node_name h).2, (node_name h).1⟩, fun ⟨h1, h2⟩ => h2 ▸ node_unlike hd h1⟩
/-- Packages of unlike names, turned. -/
theorem same_of_mem {l l' : List Nd} (hd : (namesN l).Nodup) (hd' : (namesN l').Nodup) (hm : ∀ n, n ∈ l ↔ n ∈ l') : SameN l l' := by
  have hn : ∀ a, a ∈ namesN l ↔ a ∈ namesN l' := fun a => by
    unfold namesN
    simp only [List.mem_map]
    constructor
    · rintro ⟨n, h, e⟩; exact ⟨n, (hm n).1 h, e⟩
    · rintro ⟨n, h, e⟩; exact ⟨n, (hm n).2 h, e⟩
  refine ⟨hn, fun a b => ?_⟩
  unfold Imp
  constructor
  · rintro ⟨n, h1, h2, h3⟩
    have := (node_iff hd).1 h1
    exact ⟨n, (node_iff hd').2 ⟨(hm n).1 this.1, this.2⟩, h2, (hn b).1 h3⟩
  · rintro ⟨n, h1, h2, h3⟩
    have := (node_iff hd').1 h1
    exact ⟨n, (node_iff hd).2 ⟨(hm n).2 this.1, this.2⟩, h2, (hn b).2 h3⟩

/-! One package more, that nobody imports. -/
theorem node_more {l : List Nd} {n : Nd} {a : Nm} (hne : a ≠ n.name) : nodeN (l ++ [n]) a = nodeN l a := by
  unfold nodeN
  rw [List.find?_append]
  have : [n].find? (fun m => m.name == a) = none := by
    rw [List.find?_eq_none]
    intro m hm
    rw [List.mem_singleton.1 hm]
    simpa using fun e => hne e.symm
  rw [this, Option.or_none]
theorem names_more (l : List Nd) (n : Nd) (a : Nm) : a ∈ namesN (l ++ [n]) ↔ a ∈ namesN l ∨ a = n.name := by
  unfold namesN
  simp
section
variable {l : List Nd} {n : Nd} (hn : n.name ∉ namesN l) (hu : ∀ a m, nodeN l a = some m → n.name ∉ m.imps)
include hu
theorem imp_more {a b : Nm} (hne : a ≠ n.name) : Imp (l ++ [n]) a b ↔ Imp l a b := by
  unfold Imp
  rw [node_more hne]
  constructor
  · rintro ⟨m, h1, h2, h3⟩
    rcases (names_more l n b).1 h3 with h3 | rfl
    · exact ⟨m, h1, h2, h3⟩
    · exact absurd h2 (hu a m h1)
  · rintro ⟨m, h1, h2, h3⟩
    exact ⟨m, h1, h2, (names_more l n b).2 (.inl h3)⟩
include hn
theorem rdy_more {done : List Nm} {a : Nm} (hne : a ≠ n.name) : RdyP (l ++ [n]) done a ↔ RdyP l (done.filter (· ≠ n.name)) a := by
  have hb : ∀ b, Imp l a b → b ≠ n.name := fun b h e => hn (e ▸ h.right)
  unfold RdyP
  simp only [names_more, List.mem_filter, ne_eq, decide_not, Bool.not_eq_true', decide_eq_false_iff_not]
  constructor
  · rintro ⟨h1, h2, h3⟩
    exact ⟨h1.resolve_right hne, fun h => h2 h.1, fun b h => ⟨h3 b ((imp_more hu hne).2 h), hb b h⟩⟩
  · rintro ⟨h1, h2, h3⟩
    exact ⟨.inl h1, fun h => h2 ⟨h, hne⟩, fun b h => (h3 b ((imp_more hu hne).1 h)).1⟩
theorem run_more {done r : List Nm} (h : RunN (l ++ [n]) done r) : RunN l (done.filter (· ≠ n.name)) (r.filter (· ≠ n.name)) := by
  induction h with
  | stop hs =>
    refine .stop fun a ha => ?_
    have hne : a ≠ n.name := fun e => hn (e ▸ ha.1)
    exact hs a ((rdy_more hn hu hne).2 ha)
  | @step done a r h1 _ ih =>
    by_cases hne : a = n.name
    · subst hne
      simpa [List.filter_append] using ih
    · rw [List.filter_append] at ih
      have e : [a].filter (· ≠ n.name) = [a] := by simp [hne]
      rw [e] at ih
      have e2 : (a :: r).filter (· ≠ n.name) = a :: r.filter (· ≠ n.name) := by simp [hne]
      rw [e2]
      refine .step ⟨(rdy_more hn hu hne).1 h1.1, fun b hb hb2 => ?_⟩ ih
      have hne2 : b ≠ n.name := fun e => hn (e ▸ hb.1)
      exact h1.2 b ((rdy_more hn hu hne2).2 hb) hb2
end

end Go.Proofs.Ytgnhcaepkgbieaa
