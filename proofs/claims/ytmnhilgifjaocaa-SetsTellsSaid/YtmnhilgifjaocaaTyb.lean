/-
  The chapter on types, plainly: of types that may be, without parameters, one text is one type. Condition: a name that may be holds no dot and begins with no bracket.
-/
import Derived.Test.YtmnhilgifjaocaaTya
namespace Go.Proofs.Ytmnhilgifjaocaa

theorem dot_split : ∀ {a b c d : List UInt8}, 46 ∉ a → 46 ∉ b → a ++ [46] ++ c = b ++ [46] ++ d → a = b ∧ c = d
  | [], [], c, d, _, _, h => by simpa using h
  | [], y :: s, c, d, _, hb, h => by
    simp only [List.nil_append, List.cons_append, List.cons.injEq] at h
    exact absurd (List.mem_cons.2 (.inl h.1)) hb
  | x :: r, [], c, d, ha, _, h => by
    simp only [List.nil_append, List.cons_append, List.cons.injEq] at h
    exact absurd (List.mem_cons.2 (.inl h.1.symm)) ha
  | x :: r, y :: s, c, d, ha, hb, h => by
    simp only [List.cons_append, List.cons.injEq] at h
    obtain ⟨e1, e2⟩ := dot_split (a := r) (b := s) (fun h' => ha (List.mem_cons_of_mem _ h')) (fun h' => hb (List.mem_cons_of_mem _ h')) h.2
    exact ⟨by rw [h.1, e1], e2⟩
theorem bytes_inj {a b : ByteArray} (h : a.data.toList = b.data.toList) : a = b := ByteArray.ext (Array.ext' h)

section
variable (okN : ByteArray → Bool) (hN : ∀ s, okN s = true → 46 ∉ s.data.toList ∧ s.data.toList ≠ [] ∧ s.data.toList.head? ≠ some 91)
/-- What a text tells of the kind. -/
def tagL (l : List UInt8) : Nat := if l = [63] then 0 else if l = [105, 110, 116] then 1 else if l = [98, 111, 111, 108] then 2 else if l = [116, 101, 120, 116] then 3 else if l = [110, 111, 110, 101] then 7 else if l.head? = some 91 then 5 else 4
include hN
theorem tag_of : ∀ {t : GY} {d : Nat}, chkY okN d t = true → (∀ k, ¬ hasY k t) → (tagL (txtY t) : Int) = t.kind ∧ (t.kind = 0 ∨ t.kind = 1 ∨ t.kind = 2 ∨ t.kind = 3 ∨ t.kind = 4 ∨ t.kind = 5 ∨ t.kind = 7)
  | .mk k p m n l, d, h, hp => by
    rcases (chk_iff okN).1 h with ⟨hk, _, _, _, rfl⟩ | ⟨rfl, h1, h2, _, rfl⟩ | ⟨rfl, _, _, _, _, rfl⟩ | ⟨rfl, _, _, _, _, y, rfl, _⟩
    · rcases hk with rfl | rfl | rfl | rfl | rfl <;> exact ⟨by rw [txtY]; rfl, by simp [GY.kind]⟩
    · obtain ⟨a1, a2, a3⟩ := hN p h1
      refine ⟨?_, by simp [GY.kind]⟩
      have e : txtY (.mk 4 p m n []) = p.data.toList ++ [46] ++ m.data.toList := by rw [txtY, if_neg (by decide), if_neg (by decide), if_neg (by decide), if_pos rfl, if_neg a2]
      rw [e]
      have hd : 46 ∈ p.data.toList ++ [46] ++ m.data.toList := by simp
      have hne : ∀ l : List UInt8, 46 ∉ l → p.data.toList ++ [46] ++ m.data.toList ≠ l := fun l hl e => hl (e ▸ hd)
      unfold tagL
      rw [if_neg (hne _ (by decide)), if_neg (hne _ (by decide)), if_neg (hne _ (by decide)), if_neg (hne _ (by decide)), if_neg (hne _ (by decide)), if_neg]
      · rfl
      · obtain ⟨x, r, e⟩ := List.exists_cons_of_ne_nil a2
        rw [e] at a3 ⊢
        simpa using a3
    · exact absurd (by unfold hasY; exact .inl ⟨rfl, rfl⟩) (hp n)
    · refine ⟨?_, by simp [GY.kind]⟩
      have e : txtY (.mk 5 p m n [y]) = [91, 93] ++ txtY y := by rw [txtY, if_neg (by decide), if_neg (by decide), if_neg (by decide), if_neg (by decide), if_pos rfl]
      rw [e]
      unfold tagL
      simp only [List.cons_append, List.nil_append, List.cons.injEq, List.head?_cons]
      simp
      rfl
theorem txt_same : ∀ {a b : GY} {d e : Nat}, chkY okN d a = true → chkY okN e b = true → (∀ k, ¬ hasY k a) → (∀ k, ¬ hasY k b) → (sameY a b = true ↔ txtY a = txtY b)
  | .mk k p m n l, .mk k' p' m' n' l', d, e, ha, hb, pa, pb => by
    obtain ⟨t1, t2⟩ := tag_of okN hN ha pa
    obtain ⟨t3, t4⟩ := tag_of okN hN hb pb
    simp only [GY.kind] at t1 t2 t3 t4
    by_cases hk : k = k'
    · subst hk
      rw [same_iff]
      rcases (chk_iff okN).1 ha with ⟨hk, _, _, _, rfl⟩ | ⟨rfl, h1, h2, _, rfl⟩ | ⟨rfl, _, _, _, _, rfl⟩ | ⟨rfl, _, _, _, _, y, rfl, hy⟩
      · rcases (chk_iff okN).1 hb with ⟨_, _, _, _, rfl⟩ | ⟨rfl, _⟩ | ⟨rfl, _⟩ | ⟨rfl, _⟩
        · have hkn : knownK k = true := by unfold knownK; simp; omega
          refine ⟨fun _ => ?_, fun _ => ⟨rfl, fun h => ?_, fun h => ?_, fun h => ?_⟩⟩
          · rcases hk with rfl | rfl | rfl | rfl | rfl <;> (rw [txtY, txtY]; rfl)
          · rcases h with h | h
            · omega
            · rw [hkn] at h; cases h
          · rcases h with h | h
            · omega
            · rw [hkn] at h; cases h
          · rcases h with h | h
            · omega
            · rw [hkn] at h; cases h
        · omega
        · omega
        · omega
      · rcases (chk_iff okN).1 hb with ⟨h', _⟩ | ⟨_, g1, g2, _, rfl⟩ | ⟨h', _⟩ | ⟨h', _⟩
        · omega
        · obtain ⟨a1, a2, _⟩ := hN p h1
          obtain ⟨b1, b2, _⟩ := hN p' g1
          have e1 : txtY (.mk 4 p m n []) = p.data.toList ++ [46] ++ m.data.toList := by rw [txtY, if_neg (by decide), if_neg (by decide), if_neg (by decide), if_pos rfl, if_neg a2]
          have e2 : txtY (.mk 4 p' m' n' []) = p'.data.toList ++ [46] ++ m'.data.toList := by rw [txtY, if_neg (by decide), if_neg (by decide), if_neg (by decide), if_pos rfl, if_neg b2]
          rw [e1, e2]
          constructor
          · rintro ⟨_, h, _, _⟩
            obtain ⟨rfl, rfl⟩ := h (.inl rfl)
            rfl
          · intro h
            obtain ⟨c1, c2⟩ := dot_split a1 b1 h
            refine ⟨rfl, fun _ => ⟨bytes_inj c1, bytes_inj c2⟩, fun h => ?_, fun h => ?_⟩
            · rcases h with h | h
              · omega
              · cases h
            · rcases h with h | h
              · omega
              · cases h
        · omega
        · omega
      · exact absurd (by unfold hasY; exact .inl ⟨rfl, rfl⟩) (pa n)
      · rcases (chk_iff okN).1 hb with ⟨h', _⟩ | ⟨h', _⟩ | ⟨h', _⟩ | ⟨_, _, _, _, _, z, rfl, hz⟩
        · omega
        · omega
        · omega
        · have e1 : ∀ p m n y, txtY (.mk 5 p m n [y]) = [91, 93] ++ txtY y := fun p m n y => by rw [txtY, if_neg (by decide), if_neg (by decide), if_neg (by decide), if_neg (by decide), if_pos rfl]
          rw [e1, e1]
          have hh := txt_same hy hz (fun q hq => pa q (by unfold hasY hasYs; exact .inr (.inl hq))) (fun q hq => pb q (by unfold hasY hasYs; exact .inr (.inl hq)))
          have es : sameYs [y] [z] = sameY y z := by rw [sameYs, sameYs, Bool.and_true]
          rw [es, hh]
          constructor
          · rintro ⟨_, _, _, h⟩
            rw [h (.inl rfl)]
          · intro h
            refine ⟨rfl, fun h' => ?_, fun h' => ?_, fun _ => by simpa using h⟩
            · rcases h' with h' | h'
              · omega
              · cases h'
            · rcases h' with h' | h'
              · omega
              · cases h'
    · constructor
      · intro h
        exact absurd (same_iff.1 h).1 hk
      · intro h
        rw [h, t3] at t1
        exact absurd t1.symm hk
end

end Go.Proofs.Ytmnhilgifjaocaa
