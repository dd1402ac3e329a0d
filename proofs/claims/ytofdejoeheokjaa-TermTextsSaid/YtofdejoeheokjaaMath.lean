/-
  Plain facts about tokens of a text: layout, pieces, what is wrong first. Nothing of the program is imported; no condition.
-/
import Derived.Laws.RangeAny
namespace Go.Proofs.Ytofdejoeheokjaa

/-! ## bytes -/
def lay (c : UInt8) : Bool := c == 9 || c == 10 || c == 13 || c == 32
def ltr (c : UInt8) : Bool := (decide (65 ≤ c.toNat) && decide (c.toNat ≤ 90)) || (decide (97 ≤ c.toNat) && decide (c.toNat ≤ 122)) || c == 95
def dgt (c : UInt8) : Bool := decide (48 ≤ c.toNat) && decide (c.toNat ≤ 57)
def nam (c : UInt8) : Bool := ltr c || dgt c
def pla (c : UInt8) : Bool := decide (32 ≤ c.toNat) && decide (c.toNat ≤ 126)
def ne10 (c : UInt8) : Bool := c != 10
def ne34 (c : UInt8) : Bool := c != 34
def syms : List UInt8 := [40, 41, 123, 125, 91, 93, 44, 59, 46, 61, 60, 43, 45, 42, 33]
def kws : List (List UInt8) := [[112, 97, 99, 107, 97, 103, 101], [105, 109, 112, 111, 114, 116], [116, 121, 112, 101], [115, 116, 114, 117, 99, 116], [105, 110, 116, 101, 114, 102, 97, 99, 101], [102, 117, 110, 99], [108, 101, 116], [105, 102], [101, 108, 115, 101], [102, 111, 114], [114, 101, 116, 117, 114, 110], [110, 101, 119], [116, 114, 117, 101], [102, 97, 108, 115, 101], [105, 110, 116], [98, 111, 111, 108], [116, 101, 120, 116]]
def kw (l : List UInt8) : Bool := decide (l ∈ kws)

/-- How many bytes of a kind stand at the front. -/
def run (p : UInt8 → Bool) : List UInt8 → Nat
  | [] => 0
  | c :: r => if p c then run p r + 1 else 0

/-- How many bytes of layout and comments stand at the front (true: within a comment). -/
def skp : Bool → List UInt8 → Nat
  | _, [] => 0
  | true, c :: r => if c = 10 then skp false r + 1 else skp true r + 1
  | false, c :: r => if lay c then skp false r + 1 else if c = 47 ∧ r.head? = some 47 then skp true r + 1 else 0

theorem run_le (p : UInt8 → Bool) (l : List UInt8) : run p l ≤ l.length := by
  induction l with
  | nil => exact Nat.le_refl _
  | cons c r ih => simp only [run, List.length_cons]; split <;> omega

theorem run_hit {p : UInt8 → Bool} {c : UInt8} (r : List UInt8) (h : p c = true) : run p (c :: r) = run p r + 1 := by simp [run, h]
theorem run_miss {p : UInt8 → Bool} {c : UInt8} (r : List UInt8) (h : p c = false) : run p (c :: r) = 0 := by simp [run, h]

theorem skp_le (b : Bool) (l : List UInt8) : skp b l ≤ l.length := by
  induction l generalizing b with
  | nil => simp [skp]
  | cons c r ih =>
    have h1 := ih true
    have h2 := ih false
    cases b
    · simp only [skp, List.length_cons]
      split
      · omega
      · split <;> omega
    · simp only [skp, List.length_cons]
      split <;> omega

theorem skp_true (l : List UInt8) : skp true l = run ne10 l + skp false (l.drop (run ne10 l)) := by
  induction l with
  | nil => rfl
  | cons c r ih =>
    by_cases h : c = 10
    · subst h
      rw [run_miss r (by decide)]
      simp [skp, lay]
    · rw [run_hit r (by simpa [ne10] using h), List.drop_succ_cons]
      have e : skp true (c :: r) = skp true r + 1 := by simp only [skp]; rw [if_neg h]
      rw [e, ih]; omega

theorem skp_layout (c : UInt8) (r : List UInt8) (h : lay c = true) : skp false (c :: r) = skp false r + 1 := by simp [skp, h]
theorem skp_comment (r : List UInt8) : skp false (47 :: 47 :: r) = skp true (47 :: 47 :: r) := by simp [skp, lay]
theorem skp_stop (c : UInt8) (r : List UInt8) (h : lay c = false) (h2 : ¬ (c = 47 ∧ r.head? = some 47)) : skp false (c :: r) = 0 := by
  simp only [skp, h, Bool.false_eq_true, if_false]; rw [if_neg h2]

/-- Behind what is skipped nothing is to be skipped. -/
theorem skp_again (b : Bool) (l : List UInt8) : skp false (l.drop (skp b l)) = 0 := by
  induction l generalizing b with
  | nil => simp [skp]
  | cons c r ih =>
    have h1 := ih true
    have h2 := ih false
    cases b <;> simp only [skp]
    · split
      · simpa using h2
      · split
        · simpa using h1
        · rename_i h3 h4
          simp only [List.drop_zero]
          exact skp_stop c r (by simpa using h3) h4
    · split
      · simpa using h2
      · simpa using h1

/-! ## one piece -/
/-- The kind of the piece that begins at the front, and how many bytes it has. -/
def kln : List UInt8 → Int × Nat
  | [] => (0, 0)
  | c :: r =>
    if ltr c then (if kw ((c :: r).take (run nam (c :: r))) then 5 else 1, run nam (c :: r))
    else if dgt c then (2, run dgt (c :: r))
    else if c = 34 then (3, if run ne34 r < r.length then run ne34 r + 2 else r.length + 1)
    else if (c = 61 ∧ r.head? = some 61) ∨ (c = 38 ∧ r.head? = some 38) then (4, 2)
    else if c ∈ syms then (4, 1) else (-1, 1)

theorem nam_of_ltr {c : UInt8} (h : ltr c = true) : nam c = true := by simp [nam, h]

theorem kln_cons (c : UInt8) (r : List UInt8) : kln (c :: r) =
    if ltr c then (if kw ((c :: r).take (run nam (c :: r))) then 5 else 1, run nam (c :: r))
    else if dgt c then (2, run dgt (c :: r))
    else if c = 34 then (3, if run ne34 r < r.length then run ne34 r + 2 else r.length + 1)
    else if (c = 61 ∧ r.head? = some 61) ∨ (c = 38 ∧ r.head? = some 38) then (4, 2)
    else if c ∈ syms then (4, 1) else (-1, 1) := rfl

theorem kln_pos (c : UInt8) (r : List UInt8) : 1 ≤ (kln (c :: r)).2 ∧ (kln (c :: r)).2 ≤ (c :: r).length := by
  have hr := run_le ne34 r
  have hn := run_le nam (c :: r)
  have hd := run_le dgt (c :: r)
  rw [kln_cons]
  by_cases h1 : ltr c = true
  · rw [if_pos h1]
    refine ⟨?_, hn⟩
    rw [run_hit r (nam_of_ltr h1)]; omega
  · rw [if_neg h1]
    by_cases h2 : dgt c = true
    · rw [if_pos h2]
      refine ⟨?_, hd⟩
      rw [run_hit r h2]; omega
    · rw [if_neg h2]
      by_cases h3 : c = 34
      · rw [if_pos h3]; simp only [List.length_cons]; split <;> omega
      · rw [if_neg h3]
        by_cases h4 : (c = 61 ∧ r.head? = some 61) ∨ (c = 38 ∧ r.head? = some 38)
        · rw [if_pos h4]
          have hr : r ≠ [] := by rintro rfl; simp at h4
          have := List.length_pos_iff.2 hr
          simp only [List.length_cons]; omega
        · rw [if_neg h4]; split <;> simp

/-! ## what is wrong -/
def num (t : List UInt8) : Bool := decide (t.length ≤ 15) && (t.head? != some 48 || decide (t.length = 1))
def quo : List UInt8 → Bool
  | [] => false
  | _ :: q => decide (q.getLast? = some 34) && decide (q.dropLast.length ≤ 200) && decide (run pla q.dropLast = q.dropLast.length)

/-- What is wrong with a piece that stands behind so many. -/
def flt (k : Int) (t : List UInt8) (before : Nat) : Int :=
  if k = 0 then 0 else if 4000 ≤ before then 6 else if k = -1 then 1 else if k = 2 ∧ num t = false then 2 else if k = 3 ∧ quo t = false then 3 else if k = 1 ∧ 40 < t.length then 4 else 0

structure Tok where
  kind : Int
  pos : Nat
  stop : Nat
  text : List UInt8
deriving DecidableEq

/-- The pieces of a text that begins at a place (the first number: how often it is gone on, at most). -/
def pcs : Nat → Nat → List UInt8 → List Tok
  | 0, _, _ => []
  | f + 1, at', l =>
    if l.drop (skp false l) = [] then []
    else ⟨(kln (l.drop (skp false l))).1, at' + skp false l, at' + skp false l + (kln (l.drop (skp false l))).2, (l.drop (skp false l)).take (kln (l.drop (skp false l))).2⟩
      :: pcs f (at' + skp false l + (kln (l.drop (skp false l))).2) ((l.drop (skp false l)).drop (kln (l.drop (skp false l))).2)

theorem kln_pos' {l : List UInt8} (h : l ≠ []) : 1 ≤ (kln l).2 ∧ (kln l).2 ≤ l.length := by
  cases l with
  | nil => exact absurd rfl h
  | cons c r => exact kln_pos c r

theorem pcs_fuel (f g at' : Nat) (l : List UInt8) (hf : l.length ≤ f) (hg : l.length ≤ g) : pcs f at' l = pcs g at' l := by
  induction f generalizing g at' l with
  | zero =>
    have h0 : l = [] := List.eq_nil_of_length_eq_zero (by omega)
    subst h0
    cases g <;> simp [pcs]
  | succ f ih =>
    cases g with
    | zero =>
      have h0 : l = [] := List.eq_nil_of_length_eq_zero (by omega)
      subst h0
      simp [pcs]
    | succ g =>
      simp only [pcs]
      split
      · rfl
      · rename_i h
        have hp := kln_pos' h
        rw [ih g]
        all_goals simp only [List.length_drop] at *; omega

/-- All pieces of a text that begins at a place. -/
def pcsAt (at' : Nat) (l : List UInt8) : List Tok := pcs l.length at' l

theorem pcsAt_end (at' : Nat) (l : List UInt8) (h : l.drop (skp false l) = []) : pcsAt at' l = [] := by
  unfold pcsAt
  cases hl : l.length with
  | zero => rfl
  | succ n => simp [pcs, h]

theorem pcsAt_cons (at' : Nat) (l : List UInt8) (h : l.drop (skp false l) ≠ []) :
    pcsAt at' l = ⟨(kln (l.drop (skp false l))).1, at' + skp false l, at' + skp false l + (kln (l.drop (skp false l))).2, (l.drop (skp false l)).take (kln (l.drop (skp false l))).2⟩
      :: pcsAt (at' + skp false l + (kln (l.drop (skp false l))).2) ((l.drop (skp false l)).drop (kln (l.drop (skp false l))).2) := by
  have hp := kln_pos' h
  unfold pcsAt
  cases hl : l.length with
  | zero => rw [List.eq_nil_of_length_eq_zero hl] at h; simp at h
  | succ n =>
    simp only [pcs]
    rw [if_neg h]
    congr 1
    apply pcs_fuel
    · simp only [List.length_drop] at *; omega
    · exact Nat.le_refl _

/-- Layout ahead is passed. -/
theorem pcsAt_skip (at' : Nat) (l : List UInt8) : pcsAt at' l = pcsAt (at' + skp false l) (l.drop (skp false l)) := by
  have hz := skp_again false l
  by_cases h : l.drop (skp false l) = []
  · rw [pcsAt_end at' l h, pcsAt_end _ _ (by rw [hz]; simpa using h)]
  · rw [pcsAt_cons at' l h, pcsAt_cons _ (l.drop (skp false l)) (by rw [hz]; simpa using h), hz]
    simp

def endTok (l : List UInt8) : Tok := ⟨0, l.length, l.length, []⟩
def toks (l : List UInt8) : List Tok := pcsAt 0 l ++ [endTok l]

/-- The first that is wrong. -/
def bad : List Tok → Nat → Option (Nat × Int)
  | [], _ => none
  | t :: r, n => if flt t.kind t.text n = 0 then bad r (n + 1) else some (t.pos, flt t.kind t.text n)

/-- What All answers: the tokens; the place and the number of what is wrong. -/
def lexed (l : List UInt8) : List Tok × Nat × Int :=
  match bad (toks l) 0 with
  | none => (toks l, 0, 0)
  | some (a, c) => ([], a, c)

theorem bad_append (a b : List Tok) (n : Nat) (h : bad a n = none) : bad (a ++ b) n = bad b (n + a.length) := by
  induction a generalizing n with
  | nil => rfl
  | cons t r ih =>
    simp only [bad, List.cons_append, List.length_cons] at *
    split at h
    · rename_i h0; rw [if_pos h0, ih _ h]; congr 1; omega
    · cases h
theorem bad_append_some (a b : List Tok) (n : Nat) {x : Nat × Int} (h : bad a n = some x) : bad (a ++ b) n = some x := by
  induction a generalizing n with
  | nil => cases h
  | cons t r ih =>
    simp only [bad, List.cons_append] at *
    split at h
    · rename_i h0; rw [if_pos h0, ih _ h]
    · rename_i h0; rw [if_neg h0]; exact h

/-- A piece that stands among a text's pieces: a number is no empty text, and so on. -/
def okTok (n : Nat) (t : Tok) : Prop := t.pos ≤ n ∧ t.stop ≤ n ∧ t.text.length ≤ n ∧ -1 ≤ t.kind ∧ t.kind ≤ 5 ∧ (t.kind ≠ 0 → t.text ≠ [])

theorem kln_kind (l : List UInt8) : -1 ≤ (kln l).1 ∧ (kln l).1 ≤ 5 := by
  cases l with
  | nil => simp [kln]
  | cons c r =>
    rw [kln_cons]
    split
    · simp only; split <;> omega
    · split
      · simp only; omega
      · split
        · simp only; omega
        · split
          · simp only; omega
          · split <;> simp

theorem pcs_ok (f at' : Nat) (l : List UInt8) : ∀ t ∈ pcs f at' l, okTok (at' + l.length) t := by
  induction f generalizing at' l with
  | zero => simp [pcs]
  | succ f ih =>
    simp only [pcs]
    split
    · simp
    · rename_i h
      have hp := kln_pos' h
      have hs := skp_le false l
      have hk := kln_kind (l.drop (skp false l))
      intro t ht
      rcases List.mem_cons.1 ht with rfl | ht
      · refine ⟨?_, ?_, ?_, hk.1, hk.2, fun _ => ?_⟩
        · simp only; omega
        · simp only [List.length_drop] at *; omega
        · simp only [List.length_take, List.length_drop] at *; omega
        · simp only
          intro h0
          have := congrArg List.length h0
          simp only [List.length_take, List.length_drop, List.length_nil] at *
          omega
      · have := ih _ _ t ht
        simp only [List.length_drop] at *
        obtain ⟨a, b, c, d, e, f⟩ := this
        exact ⟨by omega, by omega, by omega, d, e, f⟩

theorem toks_ok (l : List UInt8) : ∀ t ∈ toks l, okTok l.length t := by
  intro t ht
  unfold toks pcsAt at ht
  rcases List.mem_append.1 ht with h | h
  · have := pcs_ok _ _ _ t h; simpa using this
  · simp at h; subst h; exact ⟨Nat.le_refl _, Nat.le_refl _, Nat.zero_le _, by show (-1 : Int) ≤ 0; omega, by show (0 : Int) ≤ 5; omega, fun h => absurd rfl h⟩

theorem flt_zero (t : List UInt8) (n : Nat) : flt 0 t n = 0 := by simp [flt]
theorem flt_count {k : Int} {t : List UInt8} {n : Nat} (h : flt k t n = 0) (hk : k ≠ 0) : n < 4000 := by
  unfold flt at h
  rw [if_neg hk] at h
  split at h
  · omega
  · omega

theorem pcs_len (f at' : Nat) (l : List UInt8) : (pcs f at' l).length ≤ l.length := by
  induction f generalizing at' l with
  | zero => simp [pcs]
  | succ f ih =>
    simp only [pcs]
    split
    · simp
    · rename_i h
      have hp := kln_pos' h
      have := ih (at' + skp false l + (kln (l.drop (skp false l))).2) ((l.drop (skp false l)).drop (kln (l.drop (skp false l))).2)
      simp only [List.length_cons, List.length_drop] at *
      omega

end Go.Proofs.Ytofdejoeheokjaa
