/-
  The chapter on types, plainly: any type as a tree; sameness, what is put in, parameters, texts; what follows. No condition.
-/
import Derived.Laws.RangeAny
namespace Go.Proofs.Ytmnhilgifjaocaa

/-- Any type. -/
inductive GY where
  | mk (kind : Int) (pkg name : ByteArray) (n : Int) (args : List GY)
def GY.kind : GY → Int | .mk k _ _ _ _ => k
def GY.args : GY → List GY | .mk _ _ _ _ l => l
def knownK (k : Int) : Bool := decide (0 ≤ k ∧ k ≤ 7)

/-! How many parts. -/
mutual
def cntY : GY → Nat
  | .mk _ _ _ _ l => 1 + cntYs l
def cntYs : List GY → Nat
  | [] => 0
  | y :: r => cntY y + cntYs r
end

/-! Sameness. -/
mutual
def sameY : GY → GY → Bool
  | .mk k p m n l, .mk k' p' m' n' l' => decide (k = k') && (!(decide (k = 4) || !knownK k) || (decide (p = p') && decide (m = m'))) && (!(decide (k = 6) || !knownK k) || decide (n = n')) && (!(decide (k = 5) || !knownK k) || sameYs l l')
def sameYs : List GY → List GY → Bool
  | [], [] => true
  | a :: r, b :: q => sameY a b && sameYs r q
  | _, _ => false
end
mutual
theorem same_refl : ∀ a : GY, sameY a a = true
  | .mk k p m n l => by
    have := sames_refl l
    rw [sameY, this]
    simp
theorem sames_refl : ∀ l : List GY, sameYs l l = true
  | [] => by rw [sameYs]
  | a :: r => by rw [sameYs, same_refl a, sames_refl r]; rfl
end
mutual
theorem same_symm : ∀ a b : GY, sameY a b = sameY b a
  | .mk k p m n l, .mk k' p' m' n' l' => by
    have := sames_symm l l'
    rw [sameY, sameY, this]
    by_cases h : k = k'
    · subst h
      rw [decide_eq_decide.2 (eq_comm (a := p) (b := p')), decide_eq_decide.2 (eq_comm (a := m) (b := m')), decide_eq_decide.2 (eq_comm (a := n) (b := n'))]
    · have h' : ¬ k' = k := fun e => h e.symm
      simp [h, h']
theorem sames_symm : ∀ l q : List GY, sameYs l q = sameYs q l
  | [], [] => rfl
  | [], _ :: _ => by rw [sameYs, sameYs] <;> simp
  | _ :: _, [] => by rw [sameYs, sameYs] <;> simp
  | a :: r, b :: q => by rw [sameYs, sameYs, same_symm a b, sames_symm r q]
end
theorem same_iff {k k' n n' : Int} {p p' m m' : ByteArray} {l l' : List GY} : sameY (.mk k p m n l) (.mk k' p' m' n' l') = true ↔ k = k' ∧ (k = 4 ∨ knownK k = false → p = p' ∧ m = m') ∧ (k = 6 ∨ knownK k = false → n = n') ∧ (k = 5 ∨ knownK k = false → sameYs l l' = true) := by
  rw [sameY]
  simp only [Bool.and_eq_true, Bool.or_eq_true, Bool.not_eq_true', decide_eq_true_eq, Bool.or_eq_false_iff, decide_eq_false_iff_not, Bool.not_eq_false', and_assoc]
  have tri : ∀ {A B C : Prop} [Decidable A], ((¬ A ∧ B) ∨ C) → (B ↔ knownK k = true) → (A ∨ knownK k = false → C) := by
    intro A B C _ h hb hk
    rcases h with ⟨h1, h2⟩ | h
    · rcases hk with hk | hk
      · exact absurd hk h1
      · rw [hb.1 h2] at hk; cases hk
    · exact h
  have back : ∀ {A C : Prop} [Decidable A], (A ∨ knownK k = false → C) → ((¬ A ∧ knownK k = true) ∨ C) := by
    intro A C _ h
    by_cases ha : A
    · exact .inr (h (.inl ha))
    · cases hk : knownK k with
      | false => exact .inr (h (.inr hk))
      | true => exact .inl ⟨ha, rfl⟩
  constructor
  · rintro ⟨h1, h2, h3, h4⟩
    exact ⟨h1, tri h2 Iff.rfl, tri h3 Iff.rfl, tri h4 Iff.rfl⟩
  · rintro ⟨h1, h2, h3, h4⟩
    exact ⟨h1, back h2, back h3, back h4⟩
mutual
theorem same_trans : ∀ a b c : GY, sameY a b = true → sameY b c = true → sameY a c = true
  | .mk k p m n l, .mk k' p' m' n' l', .mk k'' p'' m'' n'' l'', h1, h2 => by
    rw [same_iff] at h1 h2 ⊢
    obtain ⟨rfl, a1, a2, a3⟩ := h1
    obtain ⟨rfl, b1, b2, b3⟩ := h2
    exact ⟨rfl, fun h => ⟨(a1 h).1.trans (b1 h).1, (a1 h).2.trans (b1 h).2⟩, fun h => (a2 h).trans (b2 h), fun h => sames_trans l l' l'' (a3 h) (b3 h)⟩
theorem sames_trans : ∀ a b c : List GY, sameYs a b = true → sameYs b c = true → sameYs a c = true
  | [], [], [], _, _ => by rw [sameYs]
  | x :: r, y :: q, z :: t, h1, h2 => by
    rw [sameYs, Bool.and_eq_true] at h1 h2 ⊢
    exact ⟨same_trans x y z h1.1 h2.1, sames_trans r q t h1.2 h2.2⟩
  | [], [], _ :: _, _, h => by simp [sameYs] at h
  | [], _ :: _, _, h, _ => by simp [sameYs] at h
  | _ :: _, [], _, h, _ => by simp [sameYs] at h
  | _ :: _, _ :: _, [], _, h => by simp [sameYs] at h
end

/-! What is put in. -/
mutual
def subY (us : List GY) : GY → GY
  | .mk k p m n l => if k = 6 ∧ 0 ≤ n ∧ n < us.length then us.getD n.toNat (.mk 0 ⟨#[]⟩ ⟨#[]⟩ 0 []) else .mk k p m n (subYs us l)
def subYs (us : List GY) : List GY → List GY
  | [] => []
  | y :: r => subY us y :: subYs us r
end
mutual
theorem sub_none : ∀ t : GY, subY [] t = t
  | .mk k p m n l => by
    have := subs_none l
    rw [subY, this, if_neg]
    rintro ⟨_, h1, h2⟩
    simp at h2
    omega
theorem subs_none : ∀ l : List GY, subYs [] l = l
  | [] => by rw [subYs]
  | y :: r => by rw [subYs, sub_none y, subs_none r]
end
theorem subs_map (us : List GY) : ∀ l : List GY, subYs us l = l.map (subY us)
  | [] => by rw [subYs]; rfl
  | y :: r => by rw [subYs, subs_map us r]; rfl
/-! A number is a parameter's of it. -/
mutual
def hasY (k : Int) : GY → Prop
  | .mk k' _ _ n l => (k' = 6 ∧ n = k) ∨ hasYs k l
def hasYs (k : Int) : List GY → Prop
  | [] => False
  | y :: r => hasY k y ∨ hasYs k r
end
/-- Put in twice is put in once of what was put in. -/
theorem get_map {us vs : List GY} {n : Int} (h0 : 0 ≤ n) (h1 : n < us.length) (d : GY) : (us.map (subY vs)).getD n.toNat d = subY vs (us.getD n.toNat d) := by
  have h2 : n.toNat < us.length := by omega
  rw [List.getD_eq_getElem?_getD, List.getD_eq_getElem?_getD, List.getElem?_map, List.getElem?_eq_getElem h2]
  rfl
mutual
theorem sub_twice (a b : List GY) : ∀ t : GY, (∀ k, hasY k t → 0 ≤ k ∧ k < a.length) → subY b (subY a t) = subY (a.map (subY b)) t
  | .mk k p m n l, h => by
    by_cases hk : k = 6
    · subst hk
      have hn := h n (by unfold hasY; exact .inl ⟨rfl, rfl⟩)
      have e1 : subY a (.mk 6 p m n l) = a.getD n.toNat (.mk 0 ⟨#[]⟩ ⟨#[]⟩ 0 []) := by rw [subY, if_pos ⟨rfl, hn.1, hn.2⟩]
      have e2 : subY (a.map (subY b)) (.mk 6 p m n l) = (a.map (subY b)).getD n.toNat (.mk 0 ⟨#[]⟩ ⟨#[]⟩ 0 []) := by rw [subY, if_pos ⟨rfl, hn.1, by simpa using hn.2⟩]
      rw [e1, e2, get_map hn.1 hn.2]
    · have hl := subs_twice a b l fun q hq => h q (by unfold hasY; exact .inr hq)
      have e1 : subY a (.mk k p m n l) = .mk k p m n (subYs a l) := by rw [subY, if_neg (fun e => hk e.1)]
      have e2 : subY (a.map (subY b)) (.mk k p m n l) = .mk k p m n (subYs (a.map (subY b)) l) := by rw [subY, if_neg (fun e => hk e.1)]
      rw [e1, e2, subY, if_neg (fun e => hk e.1), hl]
theorem subs_twice (a b : List GY) : ∀ l : List GY, (∀ k, hasYs k l → 0 ≤ k ∧ k < a.length) → subYs b (subYs a l) = subYs (a.map (subY b)) l
  | [], _ => by rw [subYs, subYs, subYs]
  | y :: r, h => by
    rw [subYs, subYs, subYs, sub_twice a b y fun k hk => h k (by unfold hasYs; exact .inl hk), subs_twice a b r fun k hk => h k (by unfold hasYs; exact .inr hk)]
end

/-! Which may be: 'okN' says of a text that it may be a name. -/
section
variable (okN : ByteArray → Bool)
mutual
def chkY (d : Nat) : GY → Bool
  | .mk k p m n l => knownK k && (decide (k = 4) || decide (p = ⟨#[]⟩)) && (decide (k = 6) || decide (n = 0)) && (decide (k = 5) || decide (l.length = 0)) &&
    (if k = 4 then okN m && okN p else if k = 6 then okN m && decide (0 ≤ n ∧ n < 16) else decide (m = ⟨#[]⟩) && (if k = 5 then decide (l.length = 1) && decide (d < 30) && chkYs (d + 1) l else true))
def chkYs (d : Nat) : List GY → Bool
  | [] => true
  | y :: r => chkY d y && chkYs d r
end
theorem chk_iff {d : Nat} {k n : Int} {p m : ByteArray} {l : List GY} : chkY okN d (.mk k p m n l) = true ↔
    ((k = 0 ∨ k = 1 ∨ k = 2 ∨ k = 3 ∨ k = 7) ∧ p = ⟨#[]⟩ ∧ m = ⟨#[]⟩ ∧ n = 0 ∧ l = []) ∨ (k = 4 ∧ okN p = true ∧ okN m = true ∧ n = 0 ∧ l = []) ∨ (k = 6 ∧ p = ⟨#[]⟩ ∧ okN m = true ∧ 0 ≤ n ∧ n < 16 ∧ l = []) ∨
    (k = 5 ∧ p = ⟨#[]⟩ ∧ m = ⟨#[]⟩ ∧ n = 0 ∧ d < 30 ∧ ∃ y, l = [y] ∧ chkY okN (d + 1) y = true) := by
  rw [chkY]
  unfold knownK
  by_cases h4 : k = 4
  · subst h4
    simp [and_assoc, List.length_eq_zero_iff]
    constructor
    · rintro ⟨a, b, c, d⟩; exact ⟨d, c, a, b⟩
    · rintro ⟨a, b, c, d⟩; exact ⟨c, d, b, a⟩
  · by_cases h6 : k = 6
    · subst h6
      simp [and_assoc, List.length_eq_zero_iff]
      intro _
      constructor
      · rintro ⟨b, c, d⟩; exact ⟨c, d.1, d.2, b⟩
      · rintro ⟨b, c, d, e⟩; exact ⟨e, b, c, d⟩
    · by_cases h5 : k = 5
      · subst h5
        simp [and_assoc]
        intro _
        constructor
        · rintro ⟨b, c, d, e, f⟩
          obtain ⟨y, rfl⟩ := List.length_eq_one_iff.1 d
          rw [chkYs, chkYs, Bool.and_true] at f
          exact ⟨c, b, e, y, rfl, f⟩
        · rintro ⟨b, c, e, y, rfl, f⟩
          rw [chkYs, chkYs, Bool.and_true]
          exact ⟨c, b, rfl, e, f⟩
      · simp [h4, h5, h6, and_assoc, List.length_eq_zero_iff]
        constructor
        · rintro ⟨a, b, c, d, e, f⟩; exact ⟨by omega, c, f, d, e⟩
        · rintro ⟨a, b, c, d, e⟩; exact ⟨by omega, by omega, b, d, e, c⟩
/-- How many lists within one another. -/
def lisY : GY → Nat
  | .mk k _ _ _ l => if k = 5 then (match l with | [] => 0 | y :: _ => 1 + lisY y) else 0
theorem chk_lis : ∀ {t : GY} {d : Nat}, chkY okN d t = true → lisY t + 1 = cntY t ∧ (lisY t = 0 ∨ d + lisY t ≤ 30)
  | .mk k p m n l, d, h => by
    rcases (chk_iff okN).1 h with ⟨hk, _, _, _, rfl⟩ | ⟨rfl, _, _, _, rfl⟩ | ⟨rfl, _, _, _, _, rfl⟩ | ⟨rfl, _, _, _, hd, y, rfl, hy⟩
    · have h5 : k ≠ 5 := by omega
      rw [lisY, if_neg h5, cntY, cntYs]
      exact ⟨rfl, .inl rfl⟩
    · rw [lisY, if_neg (by decide), cntY, cntYs]
      exact ⟨rfl, .inl rfl⟩
    · rw [lisY, if_neg (by decide), cntY, cntYs]
      exact ⟨rfl, .inl rfl⟩
    · obtain ⟨h1, h2⟩ := chk_lis hy
      rw [lisY, if_pos rfl, cntY, cntYs, cntYs]
      omega
theorem chk_move : ∀ {t : GY} {d e : Nat}, chkY okN d t = true → e + lisY t ≤ 30 → chkY okN e t = true
  | .mk k p m n l, d, e, h, hd => by
    rw [chk_iff] at h ⊢
    rcases h with h | h | h | ⟨rfl, h1, h2, h3, h4, y, rfl, hy⟩
    · exact .inl h
    · exact .inr (.inl h)
    · exact .inr (.inr (.inl h))
    · rw [lisY, if_pos rfl] at hd
      exact .inr (.inr (.inr ⟨rfl, h1, h2, h3, by omega, y, rfl, chk_move hy (by omega)⟩))
/-- What is put into a type that may be, by types that may be, may be. -/
theorem chk_sub {us : List GY} (hu : ∀ u ∈ us, chkY okN 0 u = true) {m : Nat} (hm : ∀ u ∈ us, lisY u ≤ m) : ∀ {t : GY} {d : Nat}, chkY okN d t = true → d + lisY t + m ≤ 30 → chkY okN d (subY us t) = true ∧ lisY (subY us t) ≤ lisY t + m ∧ ∀ k, hasY k (subY us t) → (hasY k t ∧ (us.length : Int) ≤ k) ∨ ∃ u ∈ us, hasY k u
  | .mk k p nm n l, d, h, hd => by
    have h' := h
    rcases (chk_iff okN).1 h with ⟨hk, _, _, _, rfl⟩ | ⟨rfl, _, _, _, rfl⟩ | ⟨rfl, _, _, h0, h1, rfl⟩ | ⟨rfl, e1, e2, e3, hdl, y, rfl, hy⟩
    · have e : subY us (.mk k p nm n []) = .mk k p nm n [] := by rw [subY, if_neg (fun e => by omega), subYs]
      rw [e]
      refine ⟨h', by omega, fun q hq => ?_⟩
      unfold hasY hasYs at hq
      rcases hq with hq | hq
      · omega
      · exact hq.elim
    · have e : subY us (.mk 4 p nm n []) = .mk 4 p nm n [] := by rw [subY, if_neg (fun e => by omega), subYs]
      rw [e]
      refine ⟨h', by omega, fun q hq => ?_⟩
      unfold hasY hasYs at hq
      rcases hq with hq | hq
      · omega
      · exact hq.elim
    · by_cases hn : n < us.length
      · have e : subY us (.mk 6 p nm n []) = us.getD n.toNat (.mk 0 ⟨#[]⟩ ⟨#[]⟩ 0 []) := by rw [subY, if_pos ⟨rfl, h0, hn⟩]
        have hlt : n.toNat < us.length := by omega
        have hg : us.getD n.toNat (.mk 0 ⟨#[]⟩ ⟨#[]⟩ 0 []) = us[n.toNat] := by rw [List.getD_eq_getElem?_getD, List.getElem?_eq_getElem hlt]; rfl
        have hmem : us[n.toNat] ∈ us := List.getElem_mem hlt
        rw [e, hg]
        have hl6 : lisY (.mk 6 p nm n []) = 0 := by rw [lisY, if_neg (by decide)]
        have := hm _ hmem
        exact ⟨chk_move okN (hu _ hmem) (by omega), by omega, fun q hq => .inr ⟨_, hmem, hq⟩⟩
      · have e : subY us (.mk 6 p nm n []) = .mk 6 p nm n [] := by rw [subY, if_neg (fun e => hn e.2.2), subYs]
        rw [e]
        refine ⟨h', by omega, fun q hq => .inl ⟨hq, ?_⟩⟩
        unfold hasY hasYs at hq
        rcases hq with ⟨_, rfl⟩ | hq
        · omega
        · exact hq.elim
    · have e : subY us (.mk 5 p nm n [y]) = .mk 5 p nm n [subY us y] := by rw [subY, if_neg (fun e => by omega), subYs, subYs]
      have hl5 : ∀ z, lisY (.mk 5 p nm n [z]) = 1 + lisY z := fun z => by rw [lisY, if_pos rfl]
      rw [hl5] at hd
      obtain ⟨g1, g2, g3⟩ := chk_sub hu hm hy (by omega)
      rw [e, hl5, hl5]
      refine ⟨(chk_iff okN).2 (.inr (.inr (.inr ⟨rfl, e1, e2, e3, hdl, _, rfl, g1⟩))), by omega, fun q hq => ?_⟩
      unfold hasY hasYs hasYs at hq
      rcases hq with hq | hq | hq
      · omega
      · rcases g3 q hq with ⟨a, b⟩ | h
        · exact .inl ⟨by unfold hasY hasYs; exact .inr (.inl a), b⟩
        · exact .inr h
      · exact hq.elim
end

/-! Texts. -/
def txtY : GY → List UInt8
  | .mk k p m _ l => if k = 1 then [105, 110, 116] else if k = 2 then [98, 111, 111, 108] else if k = 3 then [116, 101, 120, 116]
    else if k = 4 then (if p.data.toList = [] then m.data.toList else p.data.toList ++ [46] ++ m.data.toList)
    else if k = 5 then (match l with | [] => [91, 93, 63] | y :: _ => [91, 93] ++ txtY y) else if k = 6 then m.data.toList else if k = 7 then [110, 111, 110, 101] else [63]

end Go.Proofs.Ytmnhilgifjaocaa
