/-
  The chapter on types, plainly: any type as a tree; sameness, what is put in, parameters, texts; what follows. No condition.
  The chapter on types, plainly: of types that may be, without parameters, one text is one type. Condition: a name that may be holds no dot and begins with no bracket.
  The chapter on sets, plainly: what a type is declared to be, its fields and methods; alike, meets, fits; what follows. No condition.
  The chapter on calls, plainly: what arguments tell of parameters; what was put in is told. No condition.
  The pairs of what stands where, one by one, and what is told first, plainly: the same as the chapter's. No condition.
  Plain facts about tokens of a text: layout, pieces, what is wrong first. Nothing of the program is imported; no condition.
  The chapter on calls, plainly: a call's type, and what is wrong with it; calls without bounds, calls with what their types make, an argument more. No condition.
-/
import Derived.Laws.RangeAny
namespace Go.Proofs.Ytlakmniaocpaaaa
/-- Any type. -/
inductive GY where
  | mk (kind : Int) (pkg name : ByteArray) (n : Int) (args : List GY)
def GY.kind : GY → Int | .mk k _ _ _ _ => k
def GY.args : GY → List GY | .mk _ _ _ _ l => l
def knownK (k : Int) : Bool := decide (0 ≤ k ∧ k ≤ 7)
/-! How many parts. -/
mutual
def cntY : GY → Nat
  | .mk _ _ _ _ l => 1 + cntYs l
def cntYs : List GY → Nat
  | [] => 0
  | y :: r => cntY y + cntYs r
end
/-! Sameness. -/
mutual
def sameY : GY → GY → Bool
  | .mk k p m n l, .mk k' p' m' n' l' => decide (k = k') && (!(decide (k = 4) || !knownK k) || (decide (p = p') && decide (m = m'))) && (!(decide (k = 6) || !knownK k) || decide (n = n')) && (!(decide (k = 5) || !knownK k) || sameYs l l')
def sameYs : List GY → List GY → Bool
  | [], [] => true
  | a :: r, b :: q => sameY a b && sameYs r q
  | _, _ => false
end
mutual
theorem same_refl : ∀ a : GY, sameY a a = true
  | .mk k p m n l => by
    have := sames_refl l
    rw [sameY, this]
    simp
theorem sames_refl : ∀ l : List GY, sameYs l l = true
  | [] => by rw [sameYs]
  | a :: r => by rw [sameYs, same_refl a, sames_refl r]; rfl
end
mutual
theorem same_symm : ∀ a b : GY, sameY a b = sameY b a
  | .mk k p m n l, .mk k' p' m' n' l' => by
    have := sames_symm l l'
    rw [sameY, sameY, this]
    by_cases h : k = k'
    · subst h
      rw [decide_eq_decide.2 (eq_comm (a := p) (b := p')), decide_eq_decide.2 (eq_comm (a := m) (b := m')), decide_eq_decide.2 (eq_comm (a := n) (b := n'))]
    · have h' : ¬ k' = k := fun e => h e.symm
      simp [h, h']
theorem sames_symm : ∀ l q : List GY, sameYs l q = sameYs q l
  | [], [] => rfl
  | [], _ :: _ => by rw [sameYs, sameYs] <;> simp
  | _ :: _, [] => by rw [sameYs, sameYs] <;> simp
  | a :: r, b :: q => by rw [sameYs, sameYs, same_symm a b, sames_symm r q]
end
theorem same_iff {k k' n n' : Int} {p p' m m' : ByteArray} {l l' : List GY} : sameY (.mk k p m n l) (.mk k' p' m' n' l') = true ↔ k = k' ∧ (k = 4 ∨ knownK k = false → p = p' ∧ m = m') ∧ (k = 6 ∨ knownK k = false → n = n') ∧ (k = 5 ∨ knownK k = false → sameYs l l' = true) := by
  rw [sameY]
  simp only [Bool.and_eq_true, Bool.or_eq_true, Bool.not_eq_true', decide_eq_true_eq, Bool.or_eq_false_iff, decide_eq_false_iff_not, Bool.not_eq_false', and_assoc]
  have tri : ∀ {A B C : Prop} [Decidable A], ((¬ A ∧ B) ∨ C) → (B ↔ knownK k = true) → (A ∨ knownK k = false → C) := by
    intro A B C _ h hb hk
    rcases h with ⟨h1, h2⟩ | h
    · rcases hk with hk | hk
      · exact absurd hk h1
      · rw [hb.1 h2] at hk; cases hk
    · exact h
  have back : ∀ {A C : Prop} [Decidable A], (A ∨ knownK k = false → C) → ((¬ A ∧ knownK k = true) ∨ C) := by
    intro A C _ h
    by_cases ha : A
    · exact .inr (h (.inl ha))
    · cases hk : knownK k with
      | false => exact .inr (h (.inr hk))
      | true => exact .inl ⟨ha, rfl⟩
  constructor
  · rintro ⟨h1, h2, h3, h4⟩
    exact ⟨h1, tri h2 Iff.rfl, tri h3 Iff.rfl, tri h4 Iff.rfl⟩
  · rintro ⟨h1, h2, h3, h4⟩
    exact ⟨h1, back h2, back h3, back h4⟩
mutual
theorem same_trans : ∀ a b c : GY, sameY a b = true → sameY b c = true → sameY a c = true
  | .mk k p m n l, .mk k' p' m' n' l', .mk k'' p'' m'' n'' l'', h1, h2 => by
    rw [same_iff] at h1 h2 ⊢
    obtain ⟨rfl, a1, a2, a3⟩ := h1
    obtain ⟨rfl, b1, b2, b3⟩ := h2
    exact ⟨rfl, fun h => ⟨(a1 h).1.trans (b1 h).1, (a1 h).2.trans (b1 h).2⟩, fun h => (a2 h).trans (b2 h), fun h => sames_trans l l' l'' (a3 h) (b3 h)⟩
theorem sames_trans : ∀ a b c : List GY, sameYs a b = true → sameYs b c = true → sameYs a c = true
  | [], [], [], _, _ => by rw [sameYs]
  | x :: r, y :: q, z :: t, h1, h2 => by
    rw [sameYs, Bool.and_eq_true] at h1 h2 ⊢
    exact ⟨same_trans x y z h1.1 h2.1, sames_trans r q t h1.2 h2.2⟩
  | [], [], _ :: _, _, h => by simp [sameYs] at h
  | [], _ :: _, _, h, _ => by simp [sameYs] at h
  | _ :: _, [], _, h, _ => by simp [sameYs] at h
  | _ :: _, _ :: _, [], _, h => by simp [sameYs] at h
end
/-! What is put in. -/
mutual
def subY (us : List GY) : GY → GY
  | .mk k p m n l => if k = 6 ∧ 0 ≤ n ∧ n < us.length then us.getD n.toNat (.mk 0 ⟨#[]⟩ ⟨#[]⟩ 0 []) else .mk k p m n (subYs us l)
def subYs (us : List GY) : List GY → List GY
  | [] => []
  | y :: r => subY us y :: subYs us r
end
mutual
theorem sub_none : ∀ t : GY, subY [] t = t
  | .mk k p m n l => by
    have := subs_none l
    rw [subY, this, if_neg]
    rintro ⟨_, h1, h2⟩
    simp at h2
    omega
theorem subs_none : ∀ l : List GY, subYs [] l = l
  | [] => by rw [subYs]
  | y :: r => by rw [subYs, sub_none y, subs_none r]
end
theorem subs_map (us : List GY) : ∀ l : List GY, subYs us l = l.map (subY us)
  | [] => by rw [subYs]; rfl
  | y :: r => by rw [subYs, subs_map us r]; rfl
/-! A number is a parameter's of it. -/
mutual
def hasY (k : Int) : GY → Prop
  | .mk k' _ _ n l => (k' = 6 ∧ n = k) ∨ hasYs k l
def hasYs (k : Int) : List GY → Prop
  | [] => False
  | y :: r => hasY k y ∨ hasYs k r
end
/-- Put in twice is put in once of what was put in. -/
theorem get_map {us vs : List GY} {n : Int} (h0 : 0 ≤ n) (h1 : n < us.length) (d : GY) : (us.map (subY vs)).getD n.toNat d = subY vs (us.getD n.toNat d) := by
  have h2 : n.toNat < us.length := by omega
  rw [List.getD_eq_getElem?_getD, List.getD_eq_getElem?_getD, List.getElem?_map, List.getElem?_eq_getElem h2]
  rfl
mutual
theorem sub_twice (a b : List GY) : ∀ t : GY, (∀ k, hasY k t → 0 ≤ k ∧ k < a.length) → subY b (subY a t) = subY (a.map (subY b)) t
  | .mk k p m n l, h => by
    by_cases hk : k = 6
    · subst hk
      have hn := h n (by unfold hasY; exact .inl ⟨rfl, rfl⟩)
      have e1 : subY a (.mk 6 p m n l) = a.getD n.toNat (.mk 0 ⟨#[]⟩ ⟨#[]⟩ 0 []) := by rw [subY, if_pos ⟨rfl, hn.1, hn.2⟩]
      have e2 : subY (a.map (subY b)) (.mk 6 p m n l) = (a.map (subY b)).getD n.toNat (.mk 0 ⟨#[]⟩ ⟨#[]⟩ 0 []) := by rw [subY, if_pos ⟨rfl, hn.1, by simpa using hn.2⟩]
      rw [e1, e2, get_map hn.1 hn.2]
    · have hl := subs_twice a b l fun q hq => h q (by unfold hasY; exact .inr hq)
      have e1 : subY a (.mk k p m n l) = .mk k p m n (subYs a l) := by rw [subY, if_neg (fun e => hk e.1)]
      have e2 : subY (a.map (subY b)) (.mk k p m n l) = .mk k p m n (subYs (a.map (subY b)) l) := by rw [subY, if_neg (fun e => hk e.1)]
      rw [e1, e2, subY, if_neg (fun e => hk e.1), hl]
theorem subs_twice (a b : List GY) : ∀ l : List GY, (∀ k, hasYs k l → 0 ≤ k ∧ k < a.length) → subYs b (subYs a l) = subYs (a.map (subY b)) l
  | [], _ => by rw [subYs, subYs, subYs]
  | y :: r, h => by
    rw [subYs, subYs, subYs, sub_twice a b y fun k hk => h k (by unfold hasYs; exact .inl hk), subs_twice a b r fun k hk => h k (by unfold hasYs; exact .inr hk)]
end
/-! Which may be: 'okN' says of a text that it may be a name. -/
section
variable (okN : ByteArray → Bool)
mutual
def chkY (d : Nat) : GY → Bool
  | .mk k p m n l => knownK k && (decide (k = 4) || decide (p = ⟨#[]⟩)) && (decide (k = 6) || decide (n = 0)) && (decide (k = 5) || decide (l.length = 0)) &&
    (if k = 4 then okN m && okN p else if k = 6 then okN m && decide (0 ≤ n ∧ n < 16) else decide (m = ⟨#[]⟩) && (if k = 5 then decide (l.length = 1) && decide (d < 30) && chkYs (d + 1) l else true))
def chkYs (d : Nat) : List GY → Bool
  | [] => true
  | y :: r => chkY d y && chkYs d r
end
theorem chk_iff {d : Nat} {k n : Int} {p m : ByteArray} {l : List GY} : chkY okN d (.mk k p m n l) = true ↔
    ((k = 0 ∨ k = 1 ∨ k = 2 ∨ k = 3 ∨ k = 7) ∧ p = ⟨#[]⟩ ∧ m = ⟨#[]⟩ ∧ n = 0 ∧ l = []) ∨ (k = 4 ∧ okN p = true ∧ okN m = true ∧ n = 0 ∧ l = []) ∨ (k = 6 ∧ p = ⟨#[]⟩ ∧ okN m = true ∧ 0 ≤ n ∧ n < 16 ∧ l = []) ∨
    (k = 5 ∧ p = ⟨#[]⟩ ∧ m = ⟨#[]⟩ ∧ n = 0 ∧ d < 30 ∧ ∃ y, l = [y] ∧ chkY okN (d + 1) y = true) := by
  rw [chkY]
  unfold knownK
  by_cases h4 : k = 4
  · subst h4
    simp [and_assoc, List.length_eq_zero_iff]
    constructor
    · rintro ⟨a, b, c, d⟩; exact ⟨d, c, a, b⟩
    · rintro ⟨a, b, c, d⟩; exact ⟨c, d, b, a⟩
  · by_cases h6 : k = 6
    · subst h6
      simp [and_assoc, List.length_eq_zero_iff]
      intro _
      constructor
      · rintro ⟨b, c, d⟩; exact ⟨c, d.1, d.2, b⟩
      · rintro ⟨b, c, d, e⟩; exact ⟨e, b, c, d⟩
    · by_cases h5 : k = 5
      · subst h5
        simp [and_assoc]
        intro _
        constructor
        · rintro ⟨b, c, d, e, f⟩
          obtain ⟨y, rfl⟩ := List.length_eq_one_iff.1 d
          rw [chkYs, chkYs, Bool.and_true] at f
          exact ⟨c, b, e, y, rfl, f⟩
        · rintro ⟨b, c, e, y, rfl, f⟩
          rw [chkYs, chkYs, Bool.and_true]
          exact ⟨c, b, rfl, e, f⟩
      · simp [h4, h5, h6, and_assoc, List.length_eq_zero_iff]
        constructor
        · rintro ⟨a, b, c, d, e, f⟩; exact ⟨by omega, c, f, d, e⟩
        · rintro ⟨a, b, c, d, e⟩; exact ⟨by omega, by omega, b, d, e, c⟩
/-- How many lists within one another. -/
def lisY : GY → Nat
  | .mk k _ _ _ l => if k = 5 then (match l with | [] => 0 | y :: _ => 1 + lisY y) else 0
theorem chk_lis : ∀ {t : GY} {d : Nat}, chkY okN d t = true → lisY t + 1 = cntY t ∧ (lisY t = 0 ∨ d + lisY t ≤ 30)
  | .mk k p m n l, d, h => by
    rcases (chk_iff okN).1 h with ⟨hk, _, _, _, rfl⟩ | ⟨rfl, _, _, _, rfl⟩ | ⟨rfl, _, _, _, _, rfl⟩ | ⟨rfl, _, _, _, hd, y, rfl, hy⟩
    · have h5 : k ≠ 5 := by omega
      rw [lisY, if_neg h5, cntY, cntYs]
      exact ⟨rfl, .inl rfl⟩
    · rw [lisY, if_neg (by decide), cntY, cntYs]
      exact ⟨rfl, .inl rfl⟩
    · rw [lisY, if_neg (by decide), cntY, cntYs]
      exact ⟨rfl, .inl rfl⟩
    · obtain ⟨h1, h2⟩ := chk_lis hy
      rw [lisY, if_pos rfl, cntY, cntYs, cntYs]
      omega
theorem chk_move : ∀ {t : GY} {d e : Nat}, chkY okN d t = true → e + lisY t ≤ 30 → chkY okN e t = true
  | .mk k p m n l, d, e, h, hd => by
    rw [chk_iff] at h ⊢
    rcases h with h | h | h | ⟨rfl, h1, h2, h3, h4, y, rfl, hy⟩
    · exact .inl h
    · exact .inr (.inl h)
    · exact .inr (.inr (.inl h))
    · rw [lisY, if_pos rfl] at hd
      exact .inr (.inr (.inr ⟨rfl, h1, h2, h3, by omega, y, rfl, chk_move hy (by omega)⟩))
/-- What is put into a type that may be, by types that may be, may be. -/
theorem chk_sub {us : List GY} (hu : ∀ u ∈ us, chkY okN 0 u = true) {m : Nat} (hm : ∀ u ∈ us, lisY u ≤ m) : ∀ {t : GY} {d : Nat}, chkY okN d t = true → d + lisY t + m ≤ 30 → chkY okN d (subY us t) = true ∧ lisY (subY us t) ≤ lisY t + m ∧ ∀ k, hasY k (subY us t) → (hasY k t ∧ (us.length : Int) ≤ k) ∨ ∃ u ∈ us, hasY k u
  | .mk k p nm n l, d, h, hd => by
    have h' := h
    rcases (chk_iff okN).1 h with ⟨hk, _, _, _, rfl⟩ | ⟨rfl, _, _, _, rfl⟩ | ⟨rfl, _, _, h0, h1, rfl⟩ | ⟨rfl, e1, e2, e3, hdl, y, rfl, hy⟩
    · have e : subY us (.mk k p nm n []) = .mk k p nm n [] := by rw [subY, if_neg (fun e => by omega), subYs]
      rw [e]
      refine ⟨h', by omega, fun q hq => ?_⟩
      unfold hasY hasYs at hq
      rcases hq with hq | hq
      · omega
      · exact hq.elim
    · have e : subY us (.mk 4 p nm n []) = .mk 4 p nm n [] := by rw [subY, if_neg (fun e => by omega), subYs]
      rw [e]
      refine ⟨h', by omega, fun q hq => ?_⟩
      unfold hasY hasYs at hq
      rcases hq with hq | hq
      · omega
      · exact hq.elim
    · by_cases hn : n < us.length
      · have e : subY us (.mk 6 p nm n []) = us.getD n.toNat (.mk 0 ⟨#[]⟩ ⟨#[]⟩ 0 []) := by rw [subY, if_pos ⟨rfl, h0, hn⟩]
        have hlt : n.toNat < us.length := by omega
        have hg : us.getD n.toNat (.mk 0 ⟨#[]⟩ ⟨#[]⟩ 0 []) = us[n.toNat] := by rw [List.getD_eq_getElem?_getD, List.getElem?_eq_getElem hlt]; rfl
        have hmem : us[n.toNat] ∈ us := List.getElem_mem hlt
        rw [e, hg]
        have hl6 : lisY (.mk 6 p nm n []) = 0 := by rw [lisY, if_neg (by decide)]
        have := hm _ hmem
        exact ⟨chk_move okN (hu _ hmem) (by omega), by omega, fun q hq => .inr ⟨_, hmem, hq⟩⟩
      · have e : subY us (.mk 6 p nm n []) = .mk 6 p nm n [] := by rw [subY, if_neg (fun e => hn e.2.2), subYs]
        rw [e]
        refine ⟨h', by omega, fun q hq => .inl ⟨hq, ?_⟩⟩
        unfold hasY hasYs at hq
        rcases hq with ⟨_, rfl⟩ | hq
        · omega
        · exact hq.elim
    · have e : subY us (.mk 5 p nm n [y]) = .mk 5 p nm n [subY us y] := by rw [subY, if_neg (fun e => by omega), subYs, subYs]
      have hl5 : ∀ z, lisY (.mk 5 p nm n [z]) = 1 + lisY z := fun z => by rw [lisY, if_pos rfl]
      rw [hl5] at hd
      obtain ⟨g1, g2, g3⟩ := chk_sub hu hm hy (by omega)
      rw [e, hl5, hl5]
      refine ⟨(chk_iff okN).2 (.inr (.inr (.inr ⟨rfl, e1, e2, e3, hdl, _, rfl, g1⟩))), by omega, fun q hq => ?_⟩
      unfold hasY hasYs hasYs at hq
      rcases hq with hq | hq | hq
      · omega
      · rcases g3 q hq with ⟨a, b⟩ | h
        · exact .inl ⟨by unfold hasY hasYs; exact .inr (.inl a), b⟩
        · exact .inr h
      · exact hq.elim
end
/-! Texts. -/
def txtY : GY → List UInt8
  | .mk k p m _ l => if k = 1 then [105, 110, 116] else if k = 2 then [98, 111, 111, 108] else if k = 3 then [116, 101, 120, 116]
    else if k = 4 then (if p.data.toList = [] then m.data.toList else p.data.toList ++ [46] ++ m.data.toList)
    else if k = 5 then (match l with | [] => [91, 93, 63] | y :: _ => [91, 93] ++ txtY y) else if k = 6 then m.data.toList else if k = 7 then [110, 111, 110, 101] else [63]
end Go.Proofs.Ytlakmniaocpaaaa
namespace Go.Proofs.Ytlakmniaocpaaaa
theorem dot_split : ∀ {a b c d : List UInt8}, 46 ∉ a → 46 ∉ b → a ++ [46] ++ c = b ++ [46] ++ d → a = b ∧ c = d
  | [], [], c, d, _, _, h => by simpa using h
  | [], y :: s, c, d, _, hb, h => by
    simp only [List.nil_append, List.cons_append, List.cons.injEq] at h
    exact absurd (List.mem_cons.2 (.inl h.1)) hb
  | x :: r, [], c, d, ha, _, h => by
    simp only [List.nil_append, List.cons_append, List.cons.injEq] at h
    exact absurd (List.mem_cons.2 (.inl h.1.symm)) ha
  | x :: r, y :: s, c, d, ha, hb, h => by
    simp only [List.cons_append, List.cons.injEq] at h
    obtain ⟨e1, e2⟩ := dot_split (a := r) (b := s) (fun h' => ha (List.mem_cons_of_mem _ h')) (fun h' => hb (List.mem_cons_of_mem _ h')) h.2
    exact ⟨by rw [h.1, e1], e2⟩
theorem bytes_inj {a b : ByteArray} (h : a.data.toList = b.data.toList) : a = b := ByteArray.ext (Array.ext' h)
section
variable (okN : ByteArray → Bool) (hN : ∀ s, okN s = true → 46 ∉ s.data.toList ∧ s.data.toList ≠ [] ∧ s.data.toList.head? ≠ some 91)
/-- What a text tells of the kind. -/
def tagL (l : List UInt8) : Nat := if l = [63] then 0 else if l = [105, 110, 116] then 1 else if l = [98, 111, 111, 108] then 2 else if l = [116, 101, 120, 116] then 3 else if l = [110, 111, 110, 101] then 7 else if l.head? = some 91 then 5 else 4
include hN
theorem tag_of : ∀ {t : GY} {d : Nat}, chkY okN d t = true → (∀ k, ¬ hasY k t) → (tagL (txtY t) : Int) = t.kind ∧ (t.kind = 0 ∨ t.kind = 1 ∨ t.kind = 2 ∨ t.kind = 3 ∨ t.kind = 4 ∨ t.kind = 5 ∨ t.kind = 7)
  | .mk k p m n l, d, h, hp => by
    rcases (chk_iff okN).1 h with ⟨hk, _, _, _, rfl⟩ | ⟨rfl, h1, h2, _, rfl⟩ | ⟨rfl, _, _, _, _, rfl⟩ | ⟨rfl, _, _, _, _, y, rfl, _⟩
    · rcases hk with rfl | rfl | rfl | rfl | rfl <;> exact ⟨by rw [txtY]; rfl, by simp [GY.kind]⟩
    · obtain ⟨a1, a2, a3⟩ := hN p h1
      refine ⟨?_, by simp [GY.kind]⟩
      have e : txtY (.mk 4 p m n []) = p.data.toList ++ [46] ++ m.data.toList := by rw [txtY, if_neg (by decide), if_neg (by decide), if_neg (by decide), if_pos rfl, if_neg a2]
      rw [e]
      have hd : 46 ∈ p.data.toList ++ [46] ++ m.data.toList := by simp
      have hne : ∀ l : List UInt8, 46 ∉ l → p.data.toList ++ [46] ++ m.data.toList ≠ l := fun l hl e => hl (e ▸ hd)
      unfold tagL
      rw [if_neg (hne _ (by decide)), if_neg (hne _ (by decide)), if_neg (hne _ (by decide)), if_neg (hne _ (by decide)), if_neg (hne _ (by decide)), if_neg]
      · rfl
      · obtain ⟨x, r, e⟩ := List.exists_cons_of_ne_nil a2
        rw [e] at a3 ⊢
        simpa using a3
    · exact absurd (by unfold hasY; exact .inl ⟨rfl, rfl⟩) (hp n)
    · refine ⟨?_, by simp [GY.kind]⟩
      have e : txtY (.mk 5 p m n [y]) = [91, 93] ++ txtY y := by rw [txtY, if_neg (by decide), if_neg (by decide), if_neg (by decide), if_neg (by decide), if_pos rfl]
      rw [e]
      unfold tagL
      simp only [List.cons_append, List.nil_append, List.cons.injEq, List.head?_cons]
      simp
      rfl
theorem txt_same : ∀ {a b : GY} {d e : Nat}, chkY okN d a = true → chkY okN e b = true → (∀ k, ¬ hasY k a) → (∀ k, ¬ hasY k b) → (sameY a b = true ↔ txtY a = txtY b)
  | .mk k p m n l, .mk k' p' m' n' l', d, e, ha, hb, pa, pb => by
    obtain ⟨t1, t2⟩ := tag_of okN hN ha pa
    obtain ⟨t3, t4⟩ := tag_of okN hN hb pb
    simp only [GY.kind] at t1 t2 t3 t4
    by_cases hk : k = k'
    · subst hk
      rw [same_iff]
      rcases (chk_iff okN).1 ha with ⟨hk, _, _, _, rfl⟩ | ⟨rfl, h1, h2, _, rfl⟩ | ⟨rfl, _, _, _, _, rfl⟩ | ⟨rfl, _, _, _, _, y, rfl, hy⟩
      · rcases (chk_iff okN).1 hb with ⟨_, _, _, _, rfl⟩ | ⟨rfl, _⟩ | ⟨rfl, _⟩ | ⟨rfl, _⟩
        · have hkn : knownK k = true := by unfold knownK; simp; omega
          refine ⟨fun _ => ?_, fun _ => ⟨rfl, fun h => ?_, fun h => ?_, fun h => ?_⟩⟩
          · rcases hk with rfl | rfl | rfl | rfl | rfl <;> (rw [txtY, txtY]; rfl)
          · rcases h with h | h
            · omega
            · rw [hkn] at h; cases h
          · rcases h with h | h
            · omega
            · rw [hkn] at h; cases h
          · rcases h with h | h
            · omega
            · rw [hkn] at h; cases h
        · omega
        · omega
        · omega
      · rcases (chk_iff okN).1 hb with ⟨h', _⟩ | ⟨_, g1, g2, _, rfl⟩ | ⟨h', _⟩ | ⟨h', _⟩
        · omega
        · obtain ⟨a1, a2, _⟩ := hN p h1
          obtain ⟨b1, b2, _⟩ := hN p' g1
          have e1 : txtY (.mk 4 p m n []) = p.data.toList ++ [46] ++ m.data.toList := by rw [txtY, if_neg (by decide), if_neg (by decide), if_neg (by decide), if_pos rfl, if_neg a2]
          have e2 : txtY (.mk 4 p' m' n' []) = p'.data.toList ++ [46] ++ m'.data.toList := by rw [txtY, if_neg (by decide), if_neg (by decide), if_neg (by decide), if_pos rfl, if_neg b2]
          rw [e1, e2]
          constructor
          · rintro ⟨_, h, _, _⟩
            obtain ⟨rfl, rfl⟩ := h (.inl rfl)
            rfl
          · intro h
            obtain ⟨c1, c2⟩ := dot_split a1 b1 h
            refine ⟨rfl, fun _ => ⟨bytes_inj c1, bytes_inj c2⟩, fun h => ?_, fun h => ?_⟩
            · rcases h with h | h
              · omega
              · cases h
            · rcases h with h | h
              · omega
              · cases h
        · omega
        · omega
      · exact absurd (by unfold hasY; exact .inl ⟨rfl, rfl⟩) (pa n)
      · rcases (chk_iff okN).1 hb with ⟨h', _⟩ | ⟨h', _⟩ | ⟨h', _⟩ | ⟨_, _, _, _, _, z, rfl, hz⟩
        · omega
        · omega
        · omega
        · have e1 : ∀ p m n y, txtY (.mk 5 p m n [y]) = [91, 93] ++ txtY y := fun p m n y => by rw [txtY, if_neg (by decide), if_neg (by decide), if_neg (by decide), if_neg (by decide), if_pos rfl]
          rw [e1, e1]
          have hh := txt_same hy hz (fun q hq => pa q (by unfold hasY hasYs; exact .inr (.inl hq))) (fun q hq => pb q (by unfold hasY hasYs; exact .inr (.inl hq)))
          have es : sameYs [y] [z] = sameY y z := by rw [sameYs, sameYs, Bool.and_true]
          rw [es, hh]
          constructor
          · rintro ⟨_, _, _, h⟩
            rw [h (.inl rfl)]
          · intro h
            refine ⟨rfl, fun h' => ?_, fun h' => ?_, fun _ => by simpa using h⟩
            · rcases h' with h' | h'
              · omega
              · cases h'
            · rcases h' with h' | h'
              · omega
              · cases h'
    · constructor
      · intro h
        exact absurd (same_iff.1 h).1 hk
      · intro h
        rw [h, t3] at t1
        exact absurd t1.symm hk
end
end Go.Proofs.Ytlakmniaocpaaaa
namespace Go.Proofs.Ytlakmniaocpaaaa
def GY.pkg : GY → ByteArray | .mk _ p _ _ _ => p
def GY.name : GY → ByteArray | .mk _ _ m _ _ => m
def GY.n : GY → Int | .mk _ _ _ n _ => n
structure MD where
  name : ByteArray
  params : List GY
  result : GY
structure TD where
  name : ByteArray
  strct : Bool
  fields : List (ByteArray × GY)
  meths : List MD
structure IF where
  pkg : ByteArray
  types : List TD
structure SCP where
  W : List IF
  bounds : List GY
abbrev noB : ByteArray := ⟨#[]⟩
def zeroD : TD := ⟨noB, false, [], []⟩
def zeroY : GY := .mk 0 noB noB 0 []
def declI (p : IF) (m : ByteArray) : Option TD := p.types.find? fun d => decide (d.name = m)
def findS (W : List IF) (t : GY) : Option TD := if t.kind = 4 then (W.find? fun p => decide (p.pkg = t.pkg)).bind fun p => declI p t.name else none
def ifaceS (W : List IF) (t : GY) : Bool := match findS W t with | some d => !d.strct | none => false
def methD (W : List IF) (t : GY) : List MD := ((findS W t).getD zeroD).meths
def methS (s : SCP) (t : GY) : List MD :=
  if t.kind = 6 then
    if t.n < 0 ∨ (s.bounds.length : Int) ≤ t.n then [] else
      if ifaceS s.W (s.bounds.getD t.n.toNat zeroY) then methD s.W (s.bounds.getD t.n.toNat zeroY) else []
  else methD s.W t
def fieldS (W : List IF) (t : GY) (m : ByteArray) : Option GY := match findS W t with | some d => if d.strct then (d.fields.find? fun f => decide (f.1 = m)).map (·.2) else none | none => none
mutual
def alikeY : GY → GY → Bool
  | .mk k p m n l, .mk k' p' m' n' l' => if k = 0 ∨ k' = 0 then true else if k = 5 ∧ k' = 5 then alikeYs l l' else sameY (.mk k p m n l) (.mk k' p' m' n' l')
def alikeYs : List GY → List GY → Bool
  | [], [] => true
  | a :: r, b :: q => alikeY a b && alikeYs r q
  | _, _ => false
end
def hasM (l : List MD) (m : ByteArray) : Option MD := l.find? fun o => decide (o.name = m)
def okM (l : List MD) (m : MD) : Bool := match hasM l m.name with | some o => alikeYs o.params m.params && alikeY o.result m.result | none => false
def meetsS (s : SCP) (t i : GY) : Bool := ifaceS s.W i && (methS s i).all (okM (methS s t))
def assignS (s : SCP) (f t : GY) : Bool := !decide (f.kind = 7) && !decide (t.kind = 7) && (alikeY f t || meetsS s f t)
/-! ### what follows -/
theorem alikes_len : ∀ {l q : List GY}, alikeYs l q = true → l.length = q.length
  | [], [], _ => rfl
  | a :: r, b :: q, h => by
    rw [alikeYs, Bool.and_eq_true] at h
    rw [List.length_cons, List.length_cons, alikes_len h.2]
  | [], _ :: _, h => by simp [alikeYs] at h
  | _ :: _, [], h => by simp [alikeYs] at h
theorem alikes_ne {l q : List GY} (h : l.length ≠ q.length) : alikeYs l q = false := by
  cases e : alikeYs l q with
  | false => rfl
  | true => exact (h (alikes_len e)).elim
mutual
theorem alike_symm : ∀ a b : GY, alikeY a b = alikeY b a
  | .mk k p m n l, .mk k' p' m' n' l' => by
    have h1 := alikes_symm l l'
    have h2 := same_symm (.mk k p m n l) (.mk k' p' m' n' l')
    rw [alikeY, alikeY, h1, h2]
    by_cases h : k = 0 ∨ k' = 0
    · rw [if_pos h, if_pos h.symm]
    · have h' : ¬ (k' = 0 ∨ k = 0) := fun e => h e.symm
      rw [if_neg h, if_neg h']
      by_cases h3 : k = 5 ∧ k' = 5
      · rw [if_pos h3, if_pos h3.symm]
      · have h4 : ¬ (k' = 5 ∧ k = 5) := fun e => h3 e.symm
        rw [if_neg h3, if_neg h4]
theorem alikes_symm : ∀ l q : List GY, alikeYs l q = alikeYs q l
  | [], [] => rfl
  | [], _ :: _ => by rw [alikeYs, alikeYs] <;> simp
  | _ :: _, [] => by rw [alikeYs, alikeYs] <;> simp
  | a :: r, b :: q => by rw [alikeYs, alikeYs, alike_symm a b, alikes_symm r q]
end
mutual
theorem alike_same : ∀ a b : GY, sameY a b = true → alikeY a b = true
  | .mk k p m n l, .mk k' p' m' n' l', h => by
    have h1 := h
    rw [same_iff] at h1
    obtain ⟨rfl, _, _, h2⟩ := h1
    rw [alikeY]
    split
    · rfl
    · split
      · rename_i h3
        exact alikes_same l l' (h2 (.inl h3.1))
      · exact h
theorem alikes_same : ∀ l q : List GY, sameYs l q = true → alikeYs l q = true
  | [], [], _ => by rw [alikeYs]
  | a :: r, b :: q, h => by
    rw [sameYs, Bool.and_eq_true] at h
    rw [alikeYs, alike_same a b h.1, alikes_same r q h.2]; rfl
  | [], _ :: _, h => by simp [sameYs] at h
  | _ :: _, [], h => by simp [sameYs] at h
end
theorem alike_refl (a : GY) : alikeY a a = true := alike_same a a (same_refl a)
theorem alikes_refl (l : List GY) : alikeYs l l = true := alikes_same l l (sames_refl l)
/-! A part that could not be made out. -/
mutual
def badY : GY → Bool
  | .mk k _ _ _ l => decide (k = 0) || badYs l
def badYs : List GY → Bool
  | [] => false
  | y :: r => badY y || badYs r
end
def badM (m : MD) : Bool := badY m.result || badYs m.params
mutual
theorem alike_good : ∀ a b : GY, badY a = false → badY b = false → alikeY a b = true → sameY a b = true
  | .mk k p m n l, .mk k' p' m' n' l', ha, hb, h => by
    rw [badY, Bool.or_eq_false_iff, decide_eq_false_iff_not] at ha hb
    rw [alikeY, if_neg (by rintro (e | e) <;> simp_all)] at h
    split at h
    · rename_i h3
      obtain ⟨rfl, rfl⟩ := h3
      have := alikes_good l l' ha.2 hb.2 h
      rw [same_iff]
      exact ⟨rfl, by rintro (e | e) <;> simp [knownK] at e, by rintro (e | e) <;> simp [knownK] at e, fun _ => this⟩
    · exact h
theorem alikes_good : ∀ l q : List GY, badYs l = false → badYs q = false → alikeYs l q = true → sameYs l q = true
  | [], [], _, _, _ => by rw [sameYs]
  | a :: r, b :: q, ha, hb, h => by
    rw [alikeYs, Bool.and_eq_true] at h
    rw [badYs, Bool.or_eq_false_iff] at ha hb
    rw [sameYs, alike_good a b ha.1 hb.1 h.1, alikes_good r q ha.2 hb.2 h.2]; rfl
  | [], _ :: _, _, _, h => by simp [alikeYs] at h
  | _ :: _, [], _, _, h => by simp [alikeYs] at h
end
theorem hasM_some {l : List MD} {m : ByteArray} {o : MD} (h : hasM l m = some o) : o ∈ l ∧ o.name = m := by
  unfold hasM at h
  exact ⟨List.mem_of_find?_eq_some h, of_decide_eq_true (p := o.name = m) (List.find?_some (p := fun o : MD => decide (o.name = m)) h)⟩
theorem meets_trans {s : SCP} {t i j : GY} (hb : ∀ x ∈ [t, i, j], ∀ m ∈ methS s x, badM m = false) (h1 : meetsS s t i = true) (h2 : meetsS s i j = true) : meetsS s t j = true := by
  unfold meetsS at *
  rw [Bool.and_eq_true, List.all_eq_true] at *
  refine ⟨h2.1, fun m hm => ?_⟩
  have h3 := h2.2 m hm
  unfold okM at h3
  cases e : hasM (methS s i) m.name with
  | none => rw [e] at h3; cases h3
  | some o =>
    rw [e] at h3
    obtain ⟨ho, hn⟩ := hasM_some e
    have h4 := h1.2 o ho
    unfold okM at h4
    rw [hn] at h4
    cases e2 : hasM (methS s t) m.name with
    | none => rw [e2] at h4; cases h4
    | some q =>
      rw [e2] at h4
      obtain ⟨hq, _⟩ := hasM_some e2
      have b1 := hb t (by simp) q hq
      have b2 := hb i (by simp) o ho
      have b3 := hb j (by simp) m hm
      unfold badM at b1 b2 b3
      simp only [Bool.or_eq_false_iff] at b1 b2 b3
      simp only [Bool.and_eq_true] at h3 h4
      unfold okM
      rw [e2]
      simp only [Bool.and_eq_true]
      exact ⟨alikes_same _ _ (sames_trans _ _ _ (alikes_good _ _ b1.2 b2.2 h4.1) (alikes_good _ _ b2.2 b3.2 h3.1)), alike_same _ _ (same_trans _ _ _ (alike_good _ _ b1.1 b2.1 h4.2) (alike_good _ _ b2.1 b3.1 h3.2))⟩
theorem meets_none {s : SCP} {t i : GY} (hi : ifaceS s.W i = true) (h : methS s i = []) : meetsS s t i = true := by
  unfold meetsS; rw [hi, h]; rfl
theorem meets_no {s : SCP} {t i : GY} (hi : ifaceS s.W i = false) : meetsS s t i = false := by
  unfold meetsS; rw [hi]; rfl
theorem hasM_self : ∀ {l : List MD} {m : MD}, (l.map (·.name)).Nodup → m ∈ l → hasM l m.name = some m
  | [], _, _, h => by cases h
  | x :: r, m, hn, h => by
    rw [List.map_cons, List.nodup_cons] at hn
    unfold hasM
    rw [List.find?_cons]
    rcases List.mem_cons.1 h with rfl | h
    · simp
    · have : ¬ x.name = m.name := fun e => hn.1 (e ▸ List.mem_map_of_mem h)
      rw [decide_eq_false this]
      exact hasM_self hn.2 h
theorem meets_self {s : SCP} {i : GY} (hi : ifaceS s.W i = true) (h : ((methS s i).map (·.name)).Nodup) : meetsS s i i = true := by
  unfold meetsS
  rw [hi, Bool.true_and, List.all_eq_true]
  intro m hm
  unfold okM
  rw [hasM_self h hm]
  simp only [alikes_refl, alike_refl, Bool.and_self]
/-! More behind. -/
theorem find_more {W more : List IF} {t : GY} {d : TD} (h : findS W t = some d) : findS (W ++ more) t = some d := by
  unfold findS at h ⊢
  split at h
  · rename_i hk
    rw [if_pos hk]
    obtain ⟨p, h1, h2⟩ := Option.bind_eq_some_iff.1 h
    rw [List.find?_append, h1, Option.some_or, Option.bind_some]
    exact h2
  · cases h
theorem find_kind {W : List IF} {t : GY} {d : TD} (h : findS W t = some d) : t.kind = 4 := by
  unfold findS at h
  split at h
  · assumption
  · cases h
theorem meth_found {s : SCP} {t : GY} {d : TD} (h : findS s.W t = some d) : methS s t = d.meths := by
  unfold methS methD
  rw [if_neg (by rw [find_kind h]; decide), h, Option.getD_some]
theorem assign_more {s : SCP} {more : List IF} {a b : GY} {d e : TD} (ha : findS s.W a = some d) (hb : findS s.W b = some e) : assignS ⟨s.W ++ more, s.bounds⟩ a b = assignS s a b := by
  have ha' := find_more (more := more) ha
  have hb' := find_more (more := more) hb
  unfold assignS meetsS
  rw [meth_found (s := s) ha, meth_found (s := s) hb, meth_found (s := ⟨s.W ++ more, s.bounds⟩) ha', meth_found (s := ⟨s.W ++ more, s.bounds⟩) hb']
  unfold ifaceS
  rw [hb, hb']
end Go.Proofs.Ytlakmniaocpaaaa
namespace Go.Proofs.Ytlakmniaocpaaaa
def noY : GY := .mk 0 ⟨#[]⟩ ⟨#[]⟩ 0 []
mutual
/-- What a type and what stands there tell. -/
def tellY (out : List GY) : GY → GY → List GY
  | .mk k _ _ n l, .mk k' p' m' n' l' => if k = 6 then (if 0 ≤ n ∧ n < out.length ∧ (out.getD n.toNat noY).kind = 0 ∧ k' ≠ 0 ∧ k' ≠ 7 then out.set n.toNat (.mk k' p' m' n' l') else out) else if k = 5 ∧ k' = 5 then tellsY out l l' else out
def tellsY (out : List GY) : List GY → List GY → List GY
  | a :: r, b :: q => tellsY (tellY out a b) r q
  | _, _ => out
end
mutual
theorem tell_len : ∀ (out : List GY) (p a : GY), (tellY out p a).length = out.length
  | out, .mk k _ _ n l, .mk k' p' m' n' l' => by
    rw [tellY]
    split
    · split
      · simp
      · rfl
    · split
      · exact tells_len out l l'
      · rfl
theorem tells_len : ∀ (out : List GY) (l q : List GY), (tellsY out l q).length = out.length
  | out, a :: r, b :: q => by rw [tellsY, tells_len _ r q, tell_len out a b]
  | out, [], q => by rw [tellsY]; simp
  | out, _ :: _, [] => by rw [tellsY]; simp
end
def unifyY (ps qs : List GY) (n : Nat) : List GY := tellsY (List.replicate n noY) ps qs
/-! A parameter's number stands where it is told. -/
mutual
def occY (k : Nat) : GY → Prop
  | .mk k' _ _ n l => (k' = 6 ∧ n = (k : Int)) ∨ (k' = 5 ∧ occYs k l)
def occYs (k : Nat) : List GY → Prop
  | [] => False
  | y :: r => occY k y ∨ occYs k r
end
/-- What is told is told of who stands there; it was made out, and is no 'none'; what was told stays. -/
def Step (out out' : List GY) (k : Nat) (c : Prop) : Prop := (out'.getD k noY = out.getD k noY) ∨ (c ∧ (out.getD k noY).kind = 0 ∧ (out'.getD k noY).kind ≠ 0 ∧ (out'.getD k noY).kind ≠ 7)
theorem getD_set {l : List GY} {i : Nat} (h : i < l.length) (x : GY) (k : Nat) : (l.set i x).getD k noY = if k = i then x else l.getD k noY := by
  rw [List.getD_eq_getElem?_getD, List.getElem?_set, List.getD_eq_getElem?_getD]
  by_cases hk : i = k
  · subst hk
    simp [h]
  · rw [if_neg hk, if_neg (fun e => hk e.symm)]
theorem Step.trans {a b c : List GY} {k : Nat} {p q : Prop} (h1 : Step a b k p) (h2 : Step b c k q) : Step a c k (p ∨ q) := by
  rcases h1 with h1 | ⟨x, h1, h3, h4⟩
  · rcases h2 with h2 | ⟨y, g1, g3, g4⟩
    · exact .inl (h2.trans h1)
    · exact .inr ⟨.inr y, h1 ▸ g1, g3, g4⟩
  · rcases h2 with h2 | ⟨y, g1, _, _⟩
    · rw [← h2] at h3 h4
      exact .inr ⟨.inl x, h1, h3, h4⟩
    · exact absurd g1 h3
theorem Step.imp {a b : List GY} {k : Nat} {p q : Prop} (h : Step a b k p) (hi : p → q) : Step a b k q := Or.imp id (fun ⟨x, r⟩ => ⟨hi x, r⟩) h
mutual
theorem tell_step : ∀ (out : List GY) (p a : GY) (k : Nat), Step out (tellY out p a) k (occY k p)
  | out, .mk k5 _ _ n l, .mk k' p' m' n' l', k => by
    rw [tellY]
    split
    · next h6 =>
      split
      · next h =>
        have hn : n.toNat < out.length := by omega
        by_cases hk : k = n.toNat
        · subst hk
          right
          rw [getD_set hn, if_pos rfl]
          refine ⟨?_, h.2.2.1, h.2.2.2.1, h.2.2.2.2⟩
          unfold occY
          exact .inl ⟨h6, by omega⟩
        · left
          rw [getD_set hn, if_neg hk]
      · exact .inl rfl
    · split
      · next h5 =>
        exact (tells_step out l l' k).imp fun h => by unfold occY; exact .inr ⟨h5.1, h⟩
      · exact .inl rfl
theorem tells_step : ∀ (out : List GY) (l q : List GY) (k : Nat), Step out (tellsY out l q) k (occYs k l)
  | out, a :: r, b :: q, k => by
    rw [tellsY]
    exact ((tell_step out a b k).trans (tells_step _ r q k)).imp fun h => by unfold occYs; exact h
  | out, [], q, k => by rw [tellsY]; exact .inl rfl; simp
  | out, _ :: _, [], k => by rw [tellsY]; exact .inl rfl; simp
end
/-! What was put in is told. -/
/-- Told so far: nothing, or what was put in. -/
def Told (ts out : List GY) : Prop := out.length = ts.length ∧ ∀ k, k < ts.length → out.getD k noY = ts.getD k noY ∨ (out.getD k noY).kind = 0
mutual
theorem tell_put (ts : List GY) (ht : ∀ k, k < ts.length → (ts.getD k noY).kind ≠ 0 ∧ (ts.getD k noY).kind ≠ 7) : ∀ (out : List GY) (p : GY), Told ts out → Told ts (tellY out p (subY ts p)) ∧ ∀ k, k < ts.length → (occY k p ∨ out.getD k noY = ts.getD k noY) → (tellY out p (subY ts p)).getD k noY = ts.getD k noY
  | out, .mk k5 p m n l, hT => by
    have hstay : ∀ k, k < ts.length → out.getD k noY = ts.getD k noY → (tellY out (.mk k5 p m n l) (subY ts (.mk k5 p m n l))).getD k noY = ts.getD k noY := fun k hk he => by
      rcases tell_step out (.mk k5 p m n l) (subY ts (.mk k5 p m n l)) k with h | ⟨_, h, _⟩
      · exact h.trans he
      · rw [he] at h
        exact absurd h (ht k hk).1
    by_cases h6 : k5 = 6
    · subst h6
      by_cases hn : 0 ≤ n ∧ n < ts.length
      · have e : subY ts (.mk 6 p m n l) = ts.getD n.toNat noY := by rw [subY, if_pos ⟨rfl, hn.1, hn.2⟩]; rfl
        have hk : n.toNat < ts.length := by omega
        have hk' : n.toNat < out.length := by rw [hT.1]; exact hk
        have hkk := ht n.toNat hk
        generalize hu : ts.getD n.toNat noY = u at e hkk
        obtain ⟨a, b, c, d, f⟩ := u
        have hv : (tellY out (.mk 6 p m n l) (.mk a b c d f)).getD n.toNat noY = .mk a b c d f := by
          rw [tellY, if_pos rfl]
          by_cases h0 : (out.getD n.toNat noY).kind = 0
          · rw [if_pos ⟨hn.1, by rw [hT.1]; exact hn.2, h0, hkk.1, hkk.2⟩, getD_set hk', if_pos rfl]
          · rw [if_neg (fun h => h0 h.2.2.1)]
            rcases hT.2 n.toNat hk with h | h
            · exact h.trans hu
            · exact absurd h h0
        rw [e] at hstay ⊢
        refine ⟨⟨by rw [tell_len]; exact hT.1, fun k hk => ?_⟩, fun k hk h => ?_⟩
        · by_cases he : k = n.toNat
          · subst he; exact .inl (hv.trans hu.symm)
          · rcases hT.2 k hk with h | h
            · exact .inl (hstay k hk h)
            · rcases tell_step out (.mk 6 p m n l) (.mk a b c d f) k with g | ⟨g, _⟩
              · right; rw [g]; exact h
              · unfold occY at g
                rcases g with ⟨_, g⟩ | ⟨g, _⟩
                · exact absurd (by omega) he
                · omega
        · rcases h with h | h
          · unfold occY at h
            rcases h with ⟨_, h⟩ | ⟨h, _⟩
            · have : k = n.toNat := by omega
              subst this
              exact hv.trans hu.symm
            · omega
          · exact hstay k hk h
      · have e : tellY out (.mk 6 p m n l) (subY ts (.mk 6 p m n l)) = out := by
          generalize subY ts (.mk 6 p m n l) = u
          obtain ⟨a, b, c, d, f⟩ := u
          rw [tellY, if_pos rfl, if_neg (fun h => hn ⟨h.1, by rw [← hT.1]; exact h.2.1⟩)]
        rw [e] at hstay ⊢
        refine ⟨hT, fun k hk h => ?_⟩
        rcases h with h | h
        · unfold occY at h
          rcases h with ⟨_, h⟩ | ⟨h, _⟩
          · exact absurd ⟨by omega, by omega⟩ hn
          · omega
        · exact hstay k hk h
    · have e : subY ts (.mk k5 p m n l) = .mk k5 p m n (subYs ts l) := by rw [subY, if_neg (fun h => h6 h.1)]
      rw [e] at hstay ⊢
      by_cases h5 : k5 = 5
      · subst h5
        have e2 : tellY out (.mk 5 p m n l) (.mk 5 p m n (subYs ts l)) = tellsY out l (subYs ts l) := by rw [tellY, if_neg (by decide), if_pos ⟨rfl, rfl⟩]
        rw [e2] at hstay ⊢
        obtain ⟨g1, g2⟩ := tells_put ts ht out l hT
        refine ⟨g1, fun k hk h => g2 k hk ?_⟩
        rcases h with h | h
        · unfold occY at h
          rcases h with ⟨h, _⟩ | ⟨_, h⟩
          · omega
          · exact .inl h
        · exact .inr h
      · have e2 : tellY out (.mk k5 p m n l) (.mk k5 p m n (subYs ts l)) = out := by rw [tellY, if_neg h6, if_neg (fun h => h5 h.1)]
        rw [e2] at hstay ⊢
        refine ⟨hT, fun k hk h => ?_⟩
        rcases h with h | h
        · unfold occY at h
          rcases h with ⟨h, _⟩ | ⟨h, _⟩
          · exact absurd h h6
          · exact absurd h h5
        · exact hstay k hk h
theorem tells_put (ts : List GY) (ht : ∀ k, k < ts.length → (ts.getD k noY).kind ≠ 0 ∧ (ts.getD k noY).kind ≠ 7) : ∀ (out : List GY) (l : List GY), Told ts out → Told ts (tellsY out l (subYs ts l)) ∧ ∀ k, k < ts.length → (occYs k l ∨ out.getD k noY = ts.getD k noY) → (tellsY out l (subYs ts l)).getD k noY = ts.getD k noY
  | out, [], hT => by
    have e : tellsY out [] (subYs ts []) = out := by rw [tellsY]; simp
    rw [e]
    refine ⟨hT, fun k _ h => h.resolve_left (by unfold occYs; exact id)⟩
  | out, a :: r, hT => by
    rw [subYs, tellsY]
    obtain ⟨g1, g2⟩ := tell_put ts ht out a hT
    obtain ⟨f1, f2⟩ := tells_put ts ht _ r g1
    refine ⟨f1, fun k hk h => f2 k hk ?_⟩
    rcases h with h | h
    · unfold occYs at h
      rcases h with h | h
      · exact .inr (g2 k hk (.inl h))
      · exact .inl h
    · exact .inr (g2 k hk (.inr h))
end
theorem told_start (ts : List GY) : Told ts (List.replicate ts.length noY) := ⟨by simp, fun k hk => .inr (by
  rw [List.getD_eq_getElem?_getD, List.getElem?_replicate]
  split <;> rfl)⟩
/-- Of what was put in by types that were made out, each whose number stands there is told. -/
theorem unify_back {ts : List GY} (ht : ∀ k, k < ts.length → (ts.getD k noY).kind ≠ 0 ∧ (ts.getD k noY).kind ≠ 7) (ps : List GY) : (unifyY ps (subYs ts ps) ts.length).length = ts.length ∧ ∀ k, k < ts.length → occYs k ps → (unifyY ps (subYs ts ps) ts.length).getD k noY = ts.getD k noY := by
  obtain ⟨g1, g2⟩ := tells_put ts ht _ ps (told_start ts)
  exact ⟨g1.1, fun k hk h => g2 k hk (.inl h)⟩
/-- What a call's types make of its parameters tells these types. -/
theorem unify_once {ps qs : List GY} {n : Nat} (hk : ∀ k, k < n → ((unifyY ps qs n).getD k noY).kind ≠ 0) : unifyY ps (subYs (unifyY ps qs n) ps) n = unifyY ps qs n := by
  have hl : (unifyY ps qs n).length = n := by unfold unifyY; rw [tells_len]; simp
  have hz : ∀ k, (List.replicate n noY).getD k noY = noY := fun k => by
    rw [List.getD_eq_getElem?_getD, List.getElem?_replicate]
    split <;> rfl
  have hs : ∀ k, k < n → occYs k ps ∧ ((unifyY ps qs n).getD k noY).kind ≠ 7 := fun k h => by
    rcases tells_step (List.replicate n noY) ps qs k with g | ⟨g1, _, _, g4⟩
    · have := hk k h
      unfold unifyY at this
      rw [g, hz] at this
      exact absurd rfl this
    · exact ⟨g1, g4⟩
  have h := unify_back (ts := unifyY ps qs n) (fun k h => ⟨hk k (by omega), (hs k (by omega)).2⟩) ps
  rw [hl] at h
  refine List.ext_getElem? fun k => ?_
  by_cases hlt : k < n
  · have := h.2 k hlt (hs k hlt).1
    rw [List.getD_eq_getElem?_getD, List.getD_eq_getElem?_getD, List.getElem?_eq_getElem (by rw [h.1]; exact hlt), List.getElem?_eq_getElem (by rw [hl]; exact hlt)] at this
    rw [List.getElem?_eq_getElem (by rw [h.1]; exact hlt), List.getElem?_eq_getElem (by rw [hl]; exact hlt)]
    exact congrArg some this
  · rw [List.getElem?_eq_none (by rw [h.1]; omega), List.getElem?_eq_none (by rw [hl]; omega)]
end Go.Proofs.Ytlakmniaocpaaaa
namespace Go.Proofs.Ytlakmniaocpaaaa
def GY.num : GY → Int | .mk _ _ _ n _ => n
mutual
/-- A type and what stands there; in the place of two lists, what is within them. -/
def prY : GY → GY → List (GY × GY)
  | .mk k p m n l, .mk k' p' m' n' l' => if k = 5 ∧ k' = 5 then prYs l l' else [(.mk k p m n l, .mk k' p' m' n' l')]
def prYs : List GY → List GY → List (GY × GY)
  | x :: r, y :: q => prY x y ++ prYs r q
  | _, _ => []
end
theorem prs_nil (q : List GY) : prYs [] q = [] := by rw [prYs]; simp
theorem prs_nil' (l : List GY) : prYs l [] = [] := by cases l <;> rw [prYs] <;> simp
mutual
theorem pr_len : ∀ (x y : GY), (prY x y).length ≤ cntY x
  | .mk k p m n l, .mk k' p' m' n' l' => by
    have := prs_len l l'
    rw [prY, cntY]
    split
    · omega
    · simp
theorem prs_len : ∀ (l q : List GY), (prYs l q).length ≤ cntYs l
  | x :: r, y :: q => by
    have h1 := pr_len x y
    have h2 := prs_len r q
    rw [prYs, cntYs, List.length_append]
    omega
  | [], q => by rw [prs_nil]; exact Nat.zero_le _
  | _ :: _, [] => by rw [prs_nil']; exact Nat.zero_le _
end
abbrev FM := Int → Option GY
def tellsB (x : GY × GY) : Bool := decide (x.1.kind = 6) && !decide (x.2.kind = 0) && !decide (x.2.kind = 7)
def putM (F : FM) (k : Int) (y : GY) : FM := fun x => if x = k then some y else F x
def stepM (F : FM) (x : GY × GY) : FM := if (F x.1.num).isNone && tellsB x then putM F x.1.num x.2 else F
def foldM (F : FM) (L : List (GY × GY)) : FM := L.foldl stepM F
theorem fold_snoc (F : FM) (L : List (GY × GY)) (x : GY × GY) : foldM F (L ++ [x]) = stepM (foldM F L) x := by unfold foldM; rw [List.foldl_append]; rfl
theorem fold_app (F : FM) (L M : List (GY × GY)) : foldM F (L ++ M) = foldM (foldM F L) M := by unfold foldM; rw [List.foldl_append]
def noM : FM := fun _ => none
/-- What is told first of each number, and of none that it was not made out. -/
def RelM (F : FM) (out : List GY) : Prop := ∀ k : Nat, k < out.length → out.getD k noY = (F k).getD noY ∧ ∀ y, F k = some y → y.kind ≠ 0
theorem rel_step {F : FM} {out : List GY} (h : RelM F out) : ∀ (p a : GY), ¬ (p.kind = 5 ∧ a.kind = 5) → RelM (stepM F (p, a)) (tellY out p a)
  | .mk k p m n l, .mk k' p' m' n' l' => fun h5 => by
    have h5' : ¬ (k = 5 ∧ k' = 5) := h5
    rw [tellY]
    unfold stepM tellsB
    show RelM (if (F n).isNone && (decide (k = 6) && !decide (k' = 0) && !decide (k' = 7)) then putM F n (.mk k' p' m' n' l') else F) _
    by_cases h6 : k = 6
    · rw [if_pos h6]
      by_cases hc : 0 ≤ n ∧ n < out.length ∧ (out.getD n.toNat noY).kind = 0 ∧ k' ≠ 0 ∧ k' ≠ 7
      · rw [if_pos hc]
        obtain ⟨c1, c2, c3, c4, c5⟩ := hc
        have hn : F n = none := by
          obtain ⟨g1, g2⟩ := h n.toNat (by omega)
          rw [Int.toNat_of_nonneg c1] at g1 g2
          cases hF : F n with
          | none => rfl
          | some y =>
            rw [hF, Option.getD_some] at g1
            rw [g1] at c3
            exact absurd c3 (g2 y hF)
        rw [if_pos (by rw [hn]; simp [h6, c4, c5])]
        intro i hi
        rw [List.length_set] at hi
        rw [getD_set (by omega)]
        unfold putM
        by_cases hin : i = n.toNat
        · rw [if_pos hin, if_pos (by omega)]
          refine ⟨rfl, fun y hy => ?_⟩
          injection hy with hy
          subst hy
          exact c4
        · rw [if_neg hin, if_neg (by omega)]
          exact h i hi
      · rw [if_neg hc]
        split
        · rename_i hq
          simp only [Bool.and_eq_true, Option.isNone_iff_eq_none, Bool.not_eq_true', decide_eq_false_iff_not, decide_eq_true_eq] at hq
          obtain ⟨q1, ⟨_, q2⟩, q3⟩ := hq
          intro i hi
          unfold putM
          by_cases hin : (i : Int) = n
          · exfalso
            subst hin
            refine hc ⟨by omega, by omega, ?_, q2, q3⟩
            have g1 := (h i hi).1
            rw [q1] at g1
            rw [Int.toNat_natCast, g1]
            rfl
          · rw [if_neg hin]
            exact h i hi
        · exact h
    · rw [if_neg h6, if_neg h5', if_neg (by simp [h6])]
      exact h
mutual
theorem rel_pr {F : FM} {out : List GY} (h : RelM F out) : ∀ (p a : GY), RelM (foldM F (prY p a)) (tellY out p a)
  | .mk k p m n l, .mk k' p' m' n' l' => by
    by_cases h5 : k = 5 ∧ k' = 5
    · rw [prY, if_pos h5, tellY, if_neg (by omega), if_pos h5]
      exact rel_prs h l l'
    · rw [prY, if_neg h5]
      exact rel_step h _ _ h5
theorem rel_prs {F : FM} {out : List GY} (h : RelM F out) : ∀ (l q : List GY), RelM (foldM F (prYs l q)) (tellsY out l q)
  | x :: r, y :: q => by
    rw [prYs, tellsY, fold_app]
    exact rel_prs (rel_pr h x y) r q
  | [], q => by
    rw [prs_nil, show tellsY out [] q = out by rw [tellsY]; simp]
    exact h
  | _ :: _, [] => by
    rw [prs_nil', show tellsY out (_ :: _) [] = out by rw [tellsY]; simp]
    exact h
end
/-- What is told, out of what is told first. -/
theorem unify_first (P A : List GY) (n : Nat) : unifyY P A n = (List.range n).map fun i : Nat => (foldM noM (prYs P A) (i : Int)).getD noY := by
  have h0 : RelM noM (List.replicate n noY) := fun k hk => by
    rw [List.length_replicate] at hk
    refine ⟨?_, fun y hy => by cases hy⟩
    rw [List.getD_eq_getElem?_getD, List.getElem?_replicate, if_pos hk]
    rfl
  have h := rel_prs h0 P A
  have hl : (unifyY P A n).length = n := by unfold unifyY; rw [tells_len]; simp
  refine List.ext_getElem? fun k => ?_
  by_cases hk : k < n
  · have := (h k (by unfold unifyY at hl; omega)).1
    rw [List.getElem?_map, List.getElem?_range hk, Option.map_some, ← this, List.getD_eq_getElem?_getD]
    show (tellsY (List.replicate n noY) P A)[k]? = _
    rw [List.getElem?_eq_getElem (by unfold unifyY at hl; omega)]
    rfl
  · rw [List.getElem?_eq_none (by omega), List.getElem?_eq_none (by simp; omega)]
end Go.Proofs.Ytlakmniaocpaaaa
namespace Go.Proofs.Ytlakmniaocpaaaa
/-! ## bytes -/
def lay (c : UInt8) : Bool := c == 9 || c == 10 || c == 13 || c == 32
def ltr (c : UInt8) : Bool := (decide (65 ≤ c.toNat) && decide (c.toNat ≤ 90)) || (decide (97 ≤ c.toNat) && decide (c.toNat ≤ 122)) || c == 95
def dgt (c : UInt8) : Bool := decide (48 ≤ c.toNat) && decide (c.toNat ≤ 57)
def nam (c : UInt8) : Bool := ltr c || dgt c
def pla (c : UInt8) : Bool := decide (32 ≤ c.toNat) && decide (c.toNat ≤ 126)
def ne10 (c : UInt8) : Bool := c != 10
def ne34 (c : UInt8) : Bool := c != 34
def syms : List UInt8 := [40, 41, 123, 125, 91, 93, 44, 59, 46, 61, 60, 43, 45, 42, 33]
def kws : List (List UInt8) := [[112, 97, 99, 107, 97, 103, 101], [105, 109, 112, 111, 114, 116], [116, 121, 112, 101], [115, 116, 114, 117, 99, 116], [105, 110, 116, 101, 114, 102, 97, 99, 101], [102, 117, 110, 99], [108, 101, 116], [105, 102], [101, 108, 115, 101], [102, 111, 114], [114, 101, 116, 117, 114, 110], [110, 101, 119], [116, 114, 117, 101], [102, 97, 108, 115, 101], [105, 110, 116], [98, 111, 111, 108], [116, 101, 120, 116]]
def kw (l : List UInt8) : Bool := decide (l ∈ kws)
/-- How many bytes of a kind stand at the front. -/
def run (p : UInt8 → Bool) : List UInt8 → Nat
  | [] => 0
  | c :: r => if p c then run p r + 1 else 0
/-- How many bytes of layout and comments stand at the front (true: within a comment). -/
def skp : Bool → List UInt8 → Nat
  | _, [] => 0
  | true, c :: r => if c = 10 then skp false r + 1 else skp true r + 1
  | false, c :: r => if lay c then skp false r + 1 else if c = 47 ∧ r.head? = some 47 then skp true r + 1 else 0
theorem run_le (p : UInt8 → Bool) (l : List UInt8) : run p l ≤ l.length := by
  induction l with
  | nil => exact Nat.le_refl _
  | cons c r ih => simp only [run, List.length_cons]; split <;> omega
theorem run_hit {p : UInt8 → Bool} {c : UInt8} (r : List UInt8) (h : p c = true) : run p (c :: r) = run p r + 1 := by simp [run, h]
theorem run_miss {p : UInt8 → Bool} {c : UInt8} (r : List UInt8) (h : p c = false) : run p (c :: r) = 0 := by simp [run, h]
theorem skp_le (b : Bool) (l : List UInt8) : skp b l ≤ l.length := by
  induction l generalizing b with
  | nil => simp [skp]
  | cons c r ih =>
    have h1 := ih true
    have h2 := ih false
    cases b
    · simp only [skp, List.length_cons]
      split
      · omega
      · split <;> omega
    · simp only [skp, List.length_cons]
      split <;> omega
theorem skp_true (l : List UInt8) : skp true l = run ne10 l + skp false (l.drop (run ne10 l)) := by
  induction l with
  | nil => rfl
  | cons c r ih =>
    by_cases h : c = 10
    · subst h
      rw [run_miss r (by decide)]
      simp [skp, lay]
    · rw [run_hit r (by simpa [ne10] using h), List.drop_succ_cons]
      have e : skp true (c :: r) = skp true r + 1 := by simp only [skp]; rw [if_neg h]
      rw [e, ih]; omega
theorem skp_layout (c : UInt8) (r : List UInt8) (h : lay c = true) : skp false (c :: r) = skp false r + 1 := by simp [skp, h]
theorem skp_comment (r : List UInt8) : skp false (47 :: 47 :: r) = skp true (47 :: 47 :: r) := by simp [skp, lay]
theorem skp_stop (c : UInt8) (r : List UInt8) (h : lay c = false) (h2 : ¬ (c = 47 ∧ r.head? = some 47)) : skp false (c :: r) = 0 := by
  simp only [skp, h, Bool.false_eq_true, if_false]; rw [if_neg h2]
/-- Behind what is skipped nothing is to be skipped. -/
theorem skp_again (b : Bool) (l : List UInt8) : skp false (l.drop (skp b l)) = 0 := by
  induction l generalizing b with
  | nil => simp [skp]
  | cons c r ih =>
    have h1 := ih true
    have h2 := ih false
    cases b <;> simp only [skp]
    · split
      · simpa using h2
      · split
        · simpa using h1
        · rename_i h3 h4
          simp only [List.drop_zero]
          exact skp_stop c r (by simpa using h3) h4
    · split
      · simpa using h2
      · simpa using h1
/-! ## one piece -/
/-- The kind of the piece that begins at the front, and how many bytes it has. -/
def kln : List UInt8 → Int × Nat
  | [] => (0, 0)
  | c :: r =>
    if ltr c then (if kw ((c :: r).take (run nam (c :: r))) then 5 else 1, run nam (c :: r))
    else if dgt c then (2, run dgt (c :: r))
    else if c = 34 then (3, if run ne34 r < r.length then run ne34 r + 2 else r.length + 1)
    else if (c = 61 ∧ r.head? = some 61) ∨ (c = 38 ∧ r.head? = some 38) then (4, 2)
    else if c ∈ syms then (4, 1) else (-1, 1)
theorem nam_of_ltr {c : UInt8} (h : ltr c = true) : nam c = true := by simp [nam, h]
theorem kln_cons (c : UInt8) (r : List UInt8) : kln (c :: r) =
    if ltr c then (if kw ((c :: r).take (run nam (c :: r))) then 5 else 1, run nam (c :: r))
    else if dgt c then (2, run dgt (c :: r))
    else if c = 34 then (3, if run ne34 r < r.length then run ne34 r + 2 else r.length + 1)
    else if (c = 61 ∧ r.head? = some 61) ∨ (c = 38 ∧ r.head? = some 38) then (4, 2)
    else if c ∈ syms then (4, 1) else (-1, 1) := rfl
theorem kln_pos (c : UInt8) (r : List UInt8) : 1 ≤ (kln (c :: r)).2 ∧ (kln (c :: r)).2 ≤ (c :: r).length := by
  have hr := run_le ne34 r
  have hn := run_le nam (c :: r)
  have hd := run_le dgt (c :: r)
  rw [kln_cons]
  by_cases h1 : ltr c = true
  · rw [if_pos h1]
    refine ⟨?_, hn⟩
    rw [run_hit r (nam_of_ltr h1)]; omega
  · rw [if_neg h1]
    by_cases h2 : dgt c = true
    · rw [if_pos h2]
      refine ⟨?_, hd⟩
      rw [run_hit r h2]; omega
    · rw [if_neg h2]
      by_cases h3 : c = 34
      · rw [if_pos h3]; simp only [List.length_cons]; split <;> omega
      · rw [if_neg h3]
        by_cases h4 : (c = 61 ∧ r.head? = some 61) ∨ (c = 38 ∧ r.head? = some 38)
        · rw [if_pos h4]
          have hr : r ≠ [] := by rintro rfl; simp at h4
          have := List.length_pos_iff.2 hr
          simp only [List.length_cons]; omega
        · rw [if_neg h4]; split <;> simp
/-! ## what is wrong -/
def num (t : List UInt8) : Bool := decide (t.length ≤ 15) && (t.head? != some 48 || decide (t.length = 1))
def quo : List UInt8 → Bool
  | [] => false
  | _ :: q => decide (q.getLast? = some 34) && decide (q.dropLast.length ≤ 200) && decide (run pla q.dropLast = q.dropLast.length)
/-- What is wrong with a piece that stands behind so many. -/
def flt (k : Int) (t : List UInt8) (before : Nat) : Int :=
  if k = 0 then 0 else if 4000 ≤ before then 6 else if k = -1 then 1 else if k = 2 ∧ num t = false then 2 else if k = 3 ∧ quo t = false then 3 else if k = 1 ∧ 40 < t.length then 4 else 0
structure Tok where
  kind : Int
  pos : Nat
  stop : Nat
  text : List UInt8
deriving DecidableEq
/-- The pieces of a text that begins at a place (the first number: how often it is gone on, at most). -/
def pcs : Nat → Nat → List UInt8 → List Tok
  | 0, _, _ => []
  | f + 1, at', l =>
    if l.drop (skp false l) = [] then []
    else ⟨(kln (l.drop (skp false l))).1, at' + skp false l, at' + skp false l + (kln (l.drop (skp false l))).2, (l.drop (skp false l)).take (kln (l.drop (skp false l))).2⟩
      :: pcs f (at' + skp false l + (kln (l.drop (skp false l))).2) ((l.drop (skp false l)).drop (kln (l.drop (skp false l))).2)
theorem kln_pos' {l : List UInt8} (h : l ≠ []) : 1 ≤ (kln l).2 ∧ (kln l).2 ≤ l.length := by
  cases l with
  | nil => exact absurd rfl h
  | cons c r => exact kln_pos c r
theorem pcs_fuel (f g at' : Nat) (l : List UInt8) (hf : l.length ≤ f) (hg : l.length ≤ g) : pcs f at' l = pcs g at' l := by
  induction f generalizing g at' l with
  | zero =>
    have h0 : l = [] := List.eq_nil_of_length_eq_zero (by omega)
    subst h0
    cases g <;> simp [pcs]
  | succ f ih =>
    cases g with
    | zero =>
      have h0 : l = [] := List.eq_nil_of_length_eq_zero (by omega)
      subst h0
      simp [pcs]
    | succ g =>
      simp only [pcs]
      split
      · rfl
      · rename_i h
        have hp := kln_pos' h
        rw [ih g]
        all_goals simp only [List.length_drop] at *; omega
/-- All pieces of a text that begins at a place. -/
def pcsAt (at' : Nat) (l : List UInt8) : List Tok := pcs l.length at' l
theorem pcsAt_end (at' : Nat) (l : List UInt8) (h : l.drop (skp false l) = []) : pcsAt at' l = [] := by
  unfold pcsAt
  cases hl : l.length with
  | zero => rfl
  | succ n => simp [pcs, h]
theorem pcsAt_cons (at' : Nat) (l : List UInt8) (h : l.drop (skp false l) ≠ []) :
    pcsAt at' l = ⟨(kln (l.drop (skp false l))).1, at' + skp false l, at' + skp false l + (kln (l.drop (skp false l))).2, (l.drop (skp false l)).take (kln (l.drop (skp false l))).2⟩
      :: pcsAt (at' + skp false l + (kln (l.drop (skp false l))).2) ((l.drop (skp false l)).drop (kln (l.drop (skp false l))).2) := by
  have hp := kln_pos' h
  unfold pcsAt
  cases hl : l.length with
  | zero => rw [List.eq_nil_of_length_eq_zero hl] at h; simp at h
  | succ n =>
    simp only [pcs]
    rw [if_neg h]
    congr 1
    apply pcs_fuel
    · simp only [List.length_drop] at *; omega
    · exact Nat.le_refl _
/-- Layout ahead is passed. -/
theorem pcsAt_skip (at' : Nat) (l : List UInt8) : pcsAt at' l = pcsAt (at' + skp false l) (l.drop (skp false l)) := by
  have hz := skp_again false l
  by_cases h : l.drop (skp false l) = []
  · rw [pcsAt_end at' l h, pcsAt_end _ _ (by rw [hz]; simpa using h)]
  · rw [pcsAt_cons at' l h, pcsAt_cons _ (l.drop (skp false l)) (by rw [hz]; simpa using h), hz]
    simp
def endTok (l : List UInt8) : Tok := ⟨0, l.length, l.length, []⟩
def toks (l : List UInt8) : List Tok := pcsAt 0 l ++ [endTok l]
/-- The first that is wrong. -/
def bad : List Tok → Nat → Option (Nat × Int)
  | [], _ => none
  | t :: r, n => if flt t.kind t.text n = 0 then bad r (n + 1) else some (t.pos, flt t.kind t.text n)
/-- What All answers: the tokens; the place and the number of what is wrong. -/
def lexed (l : List UInt8) : List Tok × Nat × Int :=
  match bad (toks l) 0 with
  | none => (toks l, 0, 0)
  | some (a, c) => ([], a, c)
theorem bad_append (a b : List Tok) (n : Nat) (h : bad a n = none) : bad (a ++ b) n = bad b (n + a.length) := by
  induction a generalizing n with
  | nil => rfl
  | cons t r ih =>
    simp only [bad, List.cons_append, List.length_cons] at *
    split at h
    · rename_i h0; rw [if_pos h0, ih _ h]; congr 1; omega
    · cases h
theorem bad_append_some (a b : List Tok) (n : Nat) {x : Nat × Int} (h : bad a n = some x) : bad (a ++ b) n = some x := by
  induction a generalizing n with
  | nil => cases h
  | cons t r ih =>
    simp only [bad, List.cons_append] at *
    split at h
    · rename_i h0; rw [if_pos h0, ih _ h]
    · rename_i h0; rw [if_neg h0]; exact h
/-- A piece that stands among a text's pieces: a number is no empty text, and so on. -/
def okTok (n : Nat) (t : Tok) : Prop := t.pos ≤ n ∧ t.stop ≤ n ∧ t.text.length ≤ n ∧ -1 ≤ t.kind ∧ t.kind ≤ 5 ∧ (t.kind ≠ 0 → t.text ≠ [])
theorem kln_kind (l : List UInt8) : -1 ≤ (kln l).1 ∧ (kln l).1 ≤ 5 := by
  cases l with
  | nil => simp [kln]
  | cons c r =>
    rw [kln_cons]
    split
    · simp only; split <;> omega
    · split
      · simp only; omega
      · split
        · simp only; omega
        · split
          · simp only; omega
          · split <;> simp
theorem pcs_ok (f at' : Nat) (l : List UInt8) : ∀ t ∈ pcs f at' l, okTok (at' + l.length) t := by
  induction f generalizing at' l with
  | zero => simp [pcs]
  | succ f ih =>
    simp only [pcs]
    split
    · simp
    · rename_i h
      have hp := kln_pos' h
      have hs := skp_le false l
      have hk := kln_kind (l.drop (skp false l))
      intro t ht
      rcases List.mem_cons.1 ht with rfl | ht
      · refine ⟨?_, ?_, ?_, hk.1, hk.2, fun _ => ?_⟩
        · simp only; omega
        · simp only [List.length_drop] at *; omega
        · simp only [List.length_take, List.length_drop] at *; omega
        · simp only
          intro h0
          have := congrArg List.length h0
          simp only [List.length_take, List.length_drop, List.length_nil] at *
          omega
      · have := ih _ _ t ht
        simp only [List.length_drop] at *
        obtain ⟨a, b, c, d, e, f⟩ := this
        exact ⟨by omega, by omega, by omega, d, e, f⟩
theorem toks_ok (l : List UInt8) : ∀ t ∈ toks l, okTok l.length t := by
  intro t ht
  unfold toks pcsAt at ht
  rcases List.mem_append.1 ht with h | h
  · have := pcs_ok _ _ _ t h; simpa using this
  · simp at h; subst h; exact ⟨Nat.le_refl _, Nat.le_refl _, Nat.zero_le _, by show (-1 : Int) ≤ 0; omega, by show (0 : Int) ≤ 5; omega, fun h => absurd rfl h⟩
theorem flt_zero (t : List UInt8) (n : Nat) : flt 0 t n = 0 := by simp [flt]
theorem flt_count {k : Int} {t : List UInt8} {n : Nat} (h : flt k t n = 0) (hk : k ≠ 0) : n < 4000 := by
  unfold flt at h
  rw [if_neg hk] at h
  split at h
  · omega
  · omega
theorem pcs_len (f at' : Nat) (l : List UInt8) : (pcs f at' l).length ≤ l.length := by
  induction f generalizing at' l with
  | zero => simp [pcs]
  | succ f ih =>
    simp only [pcs]
    split
    · simp
    · rename_i h
      have hp := kln_pos' h
      have := ih (at' + skp false l + (kln (l.drop (skp false l))).2) ((l.drop (skp false l)).drop (kln (l.drop (skp false l))).2)
      simp only [List.length_cons, List.length_drop] at *
      omega
end Go.Proofs.Ytlakmniaocpaaaa
namespace Go.Proofs.Ytlakmniaocpaaaa
/-- The types that a call's arguments tell. -/
def typesY (B P args : List GY) : List GY := if 1 ≤ B.length ∧ B.length ≤ 16 then unifyY P args B.length else []
def wB (s : SCP) (b t : GY) : Bool := decide (t.kind = 0) || (!decide (b.kind = 0) && !meetsS s t b)
def wA (s : SCP) (ts : List GY) (a p : GY) : Bool := !assignS s a (subY ts p)
def errB (s : SCP) : List GY → List GY → List (Int × Int)
  | b :: r, t :: q => if wB s b t then (-1, 15) :: errB s r q else errB s r q
  | _, _ => []
def errA (s : SCP) (ts : List GY) : Nat → List GY → List GY → List (Int × Int)
  | i, a :: r, p :: q => if wA s ts a p then ((i : Int), 11) :: errA s ts (i + 1) r q else errA s ts (i + 1) r q
  | _, _, _ => []
def errC (P args : List GY) : List (Int × Int) := if args.length = P.length then [] else [(-1, 12)]
def callT (B P : List GY) (R : GY) (args : List GY) : GY := subY (typesY B P args) R
def callE (s : SCP) (B P args : List GY) : List (Int × Int) := errC P args ++ errB s B (typesY B P args) ++ errA s (typesY B P args) 0 args P
theorem types_none (P args : List GY) : typesY [] P args = [] := by unfold typesY; rw [if_neg (by simp)]
theorem errB_none (s : SCP) (l : List GY) : errB s [] l = [] := by cases l <;> rfl
theorem errA_nil {s : SCP} {ts : List GY} : ∀ {args P : List GY} {i : Nat}, errA s ts i args P = [] ↔ ∀ (j : Nat) (a p : GY), args[j]? = some a → P[j]? = some p → assignS s a (subY ts p) = true
  | [], P, i => by constructor <;> intro h; exact (fun j a p h => by simp at h); rw [errA]; simp
  | _ :: _, [], i => by constructor <;> intro h; exact (fun j a p _ h => by simp at h); rw [errA]; simp
  | a :: r, p :: q, i => by
    rw [errA]
    cases h : assignS s a (subY ts p) with
    | false =>
      rw [if_pos (by unfold wA; rw [h]; rfl)]
      constructor
      · intro h; cases h
      · intro g; have := g 0 a p rfl rfl; rw [h] at this; cases this
    | true =>
      rw [if_neg (by unfold wA; rw [h]; simp), errA_nil]
      constructor
      · intro g j a' p' ha hp
        cases j with
        | zero => simp at ha hp; subst ha; subst hp; exact h
        | succ j => exact g j a' p' (by simpa using ha) (by simpa using hp)
      · intro g j a' p' ha hp
        exact g (j + 1) a' p' (by simpa using ha) (by simpa using hp)
theorem errB_nil {s : SCP} : ∀ {B ts : List GY}, errB s B ts = [] ↔ ∀ (j : Nat) (b t : GY), B[j]? = some b → ts[j]? = some t → wB s b t = false
  | [], ts => by constructor <;> intro h; exact (fun j a p h => by simp at h); exact errB_none s ts
  | _ :: _, [] => by constructor <;> intro h; exact (fun j a p _ h => by simp at h); rw [errB]; simp
  | b :: r, t :: q => by
    rw [errB]
    cases h : wB s b t with
    | true =>
      rw [if_pos rfl]
      constructor
      · intro h; cases h
      · intro g; have := g 0 b t rfl rfl; rw [h] at this; cases this
    | false =>
      rw [if_neg (by simp), errB_nil]
      constructor
      · intro g j a' p' ha hp
        cases j with
        | zero => simp at ha hp; subst ha; subst hp; exact h
        | succ j => exact g j a' p' (by simpa using ha) (by simpa using hp)
      · intro g j a' p' ha hp
        exact g (j + 1) a' p' (by simpa using ha) (by simpa using hp)
/-- A call of a function without bounds. -/
theorem plain_call {s : SCP} {P args : List GY} : callE s [] P args = [] ↔ args.length = P.length ∧ ∀ (j : Nat) (a p : GY), args[j]? = some a → P[j]? = some p → assignS s a p = true := by
  unfold callE errC
  rw [types_none, errB_none, List.append_nil, List.append_eq_nil_iff, errA_nil]
  constructor
  · intro ⟨h1, h2⟩
    refine ⟨?_, fun j a p ha hp => by have := h2 j a p ha hp; rwa [sub_none] at this⟩
    split at h1
    · assumption
    · cases h1
  · intro ⟨h1, h2⟩
    exact ⟨if_pos h1, fun j a p ha hp => by rw [sub_none]; exact h2 j a p ha hp⟩
theorem plain_type {P args : List GY} {R : GY} : callT [] P R args = R := by unfold callT; rw [types_none, sub_none]
theorem assign_self {s : SCP} {a : GY} (h : a.kind ≠ 7) : assignS s a a = true := by
  unfold assignS
  rw [alike_refl, decide_eq_false h]
  rfl
theorem subs_at {ts l : List GY} {j : Nat} {p : GY} (h : l[j]? = some p) : (subYs ts l)[j]? = some (subY ts p) := by
  rw [subs_map, List.getElem?_map, h]; rfl
/-- A call that is right stays right with what its types make. -/
theorem once_types {s : SCP} {B P args : List GY} (h : callE s B P args = []) : typesY B P (subYs (typesY B P args) P) = typesY B P args := by
  unfold callE at h
  rw [List.append_eq_nil_iff, List.append_eq_nil_iff] at h
  obtain ⟨⟨_, hb⟩, _⟩ := h
  rw [errB_nil] at hb
  unfold typesY at hb ⊢
  by_cases h1 : 1 ≤ B.length ∧ B.length ≤ 16
  · rw [if_pos h1] at hb ⊢
    rw [if_pos h1]
    refine unify_once fun k hk => ?_
    have hl : (unifyY P args B.length).length = B.length := by unfold unifyY; rw [tells_len]; simp
    have g := hb k B[k] (unifyY P args B.length)[k] (List.getElem?_eq_getElem hk) (List.getElem?_eq_getElem (by omega))
    unfold wB at g
    rw [Bool.or_eq_false_iff, decide_eq_false_iff_not] at g
    rw [List.getD_eq_getElem?_getD, List.getElem?_eq_getElem (by omega : k < (unifyY P args B.length).length)]
    exact g.1
  · rw [if_neg h1, if_neg h1]
theorem once_call {s : SCP} {B P args : List GY} (h : callE s B P args = []) (h7 : ∀ p ∈ P, (subY (typesY B P args) p).kind ≠ 7) : callE s B P (subYs (typesY B P args) P) = [] := by
  have ht := once_types h
  unfold callE at h ⊢
  rw [List.append_eq_nil_iff, List.append_eq_nil_iff] at h ⊢
  rw [ht]
  refine ⟨⟨?_, h.1.2⟩, ?_⟩
  · unfold errC
    rw [if_pos (by rw [subs_map, List.length_map])]
  · rw [errA_nil]
    intro j a p ha hp
    rw [subs_at hp] at ha
    cases ha
    exact assign_self (h7 p (List.mem_of_getElem? hp))
theorem once_type {s : SCP} {B P args : List GY} {R : GY} (h : callE s B P args = []) : callT B P R (subYs (typesY B P args) P) = callT B P R args := by
  unfold callT
  rw [once_types h]
/-! An argument more. -/
theorem tells_more : ∀ (out l q m : List GY), l.length = q.length → tellsY out l (q ++ m) = tellsY out l q
  | out, [], [], m, _ => by rw [tellsY, tellsY] <;> simp
  | out, a :: r, b :: q, m, h => by rw [List.cons_append, tellsY, tellsY, tells_more _ r q m (by simpa using h)]
  | out, [], _ :: _, m, h => by simp at h
  | out, _ :: _, [], m, h => by simp at h
theorem errA_more {s : SCP} {ts : List GY} : ∀ {i : Nat} {args P m : List GY}, args.length = P.length → errA s ts i (args ++ m) P = errA s ts i args P
  | i, [], [], m, _ => by
    rw [List.nil_append]
    have e : ∀ l : List GY, errA s ts i l [] = [] := fun l => by cases l <;> (rw [errA]; simp)
    rw [e, e]
  | i, a :: r, p :: q, m, h => by rw [List.cons_append, errA, errA, errA_more (by simpa using h)]
  | i, [], _ :: _, m, h => by simp at h
  | i, _ :: _, [], m, h => by simp at h
theorem more_types {B P args : List GY} {x : GY} (h : args.length = P.length) : typesY B P (args ++ [x]) = typesY B P args := by
  unfold typesY unifyY
  rw [tells_more _ _ _ _ h.symm]
theorem more_type {B P args : List GY} {R x : GY} (h : args.length = P.length) : callT B P R (args ++ [x]) = callT B P R args := by
  unfold callT; rw [more_types h]
theorem more_call {s : SCP} {B P args : List GY} {x : GY} (h : args.length = P.length) : callE s B P (args ++ [x]) = (-1, 12) :: callE s B P args := by
  unfold callE errC
  rw [more_types h, errA_more h, if_neg (by simp [h]), if_pos h]
  rfl
end Go.Proofs.Ytlakmniaocpaaaa
