/-
  Sameness: the program's answer, the document's, and the document's comparison of all of two types. No condition.
-/
import Derived.Test.YtmnhilgifjaocaaTsa
import Derived.StillTailTactics
import Derived.BigQuiet
namespace Go.Proofs.Ytmnhilgifjaocaa
open Go.RowKit
open Go.Lib hiding intOf

section
variable {k k' n n' : Int} {p p' m m' : ByteArray} {l l' : List GY}
theorem same_ne (h : k ≠ k') : sameY (.mk k p m n l) (.mk k' p' m' n' l') = false := by rw [sameY, decide_eq_false h]; rfl
theorem same_pl (h : k = 0 ∨ k = 1 ∨ k = 2 ∨ k = 3 ∨ k = 7) : sameY (.mk k p m n l) (.mk k p' m' n' l') = true := by
  rw [sameY]
  rcases h with rfl | rfl | rfl | rfl | rfl <;> simp [knownK]
theorem same_4 : sameY (.mk 4 p m n l) (.mk 4 p' m' n' l') = (decide (p = p') && decide (m = m')) := by rw [sameY]; simp [knownK]
theorem same_5 : sameY (.mk 5 p m n l) (.mk 5 p' m' n' l') = sameYs l l' := by rw [sameY]; simp [knownK]
theorem same_6 : sameY (.mk 6 p m n l) (.mk 6 p' m' n' l') = decide (n = n') := by rw [sameY]; simp [knownK]
theorem same_x (h : knownK k = false) : sameY (.mk k p m n l) (.mk k p' m' n' l') = (decide (p = p') && decide (m = m') && decide (n = n') && sameYs l l') := by rw [sameY, h]; simp
end
theorem bytes_ne {p q : ByteArray} (h : ¬ p = q) : (p.toList == q.toList) = false :=
  beq_eq_false_iff_ne.2 fun e => h (by rw [ByteArray.toList_eq, ByteArray.toList_eq] at e; exact bytes_inj e)

set_option maxRecDepth 100000 in
set_option maxHeartbeats 8000000 in
theorem sameP_any : ∀ (s : Nat) (x y : GY) (v u : Value) (w : World), SizeOf.sizeOf x < s → IsY w x v → IsY w y u →
    Calls Try.prog 45 #[v, u] w fun e w' => e = .returned (.bool (sameY x y)) ∧ Below w.heap.size w w' := by
  intro s
  induction s with
  | zero => intro x y v u w h; omega
  | succ s ih =>
  rintro ⟨k, p, m, n, l⟩ ⟨k', p', m', n', l'⟩ v u w hs hv hu
  obtain ⟨o, c, rfl, hl, hc, ha⟩ := hv.parts
  obtain ⟨o', c', rfl, hl', hc', ha'⟩ := hu.parts
  have hB : Hid (Below w.heap.size w ((w.alloc (.cells #[.int .i64 k, .string p, .string m, .int .i64 n, .slice o l.length c] 29)).alloc (.cells #[.int .i64 k', .string p', .string m', .int .i64 n', .slice o' l'.length c'] 29))) :=
    ((Below.refl _ _).alloc (Nat.le_refl _) _).alloc (by simp) _
  have hq : l.length ≤ 9223372036854775807 := by unfold maxLen at hc; omega
  have hq' : l'.length ≤ 9223372036854775807 := by unfold maxLen at hc'; omega
  have HE := Lib.hid (fun (W : World) (hb : Below w.heap.size w W) => eqf_any l l' o o' l.length l'.length c c' W rfl rfl hq hq' (ha.below hb) (ha'.below hb)
    (fun z hz y v u W hv hu => ih z y v u W (by have := List.sizeOf_lt_of_mem hz; simp at hs; omega) hv hu))
  clear ih hv hu ha ha' hl hl' hc hc' hs
  generalize l.length = N at *
  generalize l'.length = N' at *
  by_cases hk : k = k'
  · subst hk
    by_cases h0 : k = 0
    · subst h0
      rw [same_pl (by simp)]
      go_enter Try.func45, Try.ntmps45
      go_wp2
      go_ret
      exact ⟨rfl, hB.out⟩
    by_cases h1 : k = 1
    · subst h1
      rw [same_pl (by simp)]
      go_enter Try.func45, Try.ntmps45
      go_wp2
      go_ret
      exact ⟨rfl, hB.out⟩
    by_cases h2 : k = 2
    · subst h2
      rw [same_pl (by simp)]
      go_enter Try.func45, Try.ntmps45
      go_wp2
      go_ret
      exact ⟨rfl, hB.out⟩
    by_cases h3 : k = 3
    · subst h3
      rw [same_pl (by simp)]
      go_enter Try.func45, Try.ntmps45
      go_wp2
      go_ret
      exact ⟨rfl, hB.out⟩
    by_cases h7 : k = 7
    · subst h7
      rw [same_pl (by simp)]
      go_enter Try.func45, Try.ntmps45
      go_wp2
      go_ret
      exact ⟨rfl, hB.out⟩
    by_cases h4 : k = 4
    · subst h4
      rw [same_4]
      by_cases hp : p = p'
      · subst hp
        by_cases hm : m = m'
        · subst hm
          simp only [decide_true, Bool.and_true]
          go_enter Try.func45, Try.ntmps45
          go_wp2
          go_ret
          exact ⟨rfl, hB.out⟩
        · have e1 := bytes_ne hm
          simp only [decide_true, decide_eq_false hm, Bool.and_false]
          clear hm
          go_enter Try.func45, Try.ntmps45
          go_wp2
          go_ret
          exact ⟨rfl, hB.out⟩
      · have e1 := bytes_ne hp
        simp only [decide_eq_false hp, Bool.false_and]
        clear hp
        go_enter Try.func45, Try.ntmps45
        go_wp2
        go_ret
        exact ⟨rfl, hB.out⟩
    by_cases h5 : k = 5
    · subst h5
      rw [same_5]
      go_enter Try.func45, Try.ntmps45
      go_wp2_with (refine (HE.out _ hB.out).mono ?_; rintro e w5 ⟨rfl, hb⟩; have HB5 : Hid (Below w.heap.size w w5) := hB.out.trans (hb.mono hB.out.size); clear hb)
      go_ret
      exact ⟨rfl, HB5.out⟩
    by_cases h6 : k = 6
    · subst h6
      rw [same_6]
      by_cases hn : n = n'
      · subst hn
        simp only [decide_true]
        go_enter Try.func45, Try.ntmps45
        go_wp2
        go_ret
        exact ⟨rfl, hB.out⟩
      · have e1 : (n == n') = false := beq_eq_false_iff_ne.2 hn
        simp only [decide_eq_false hn]
        clear hn
        go_enter Try.func45, Try.ntmps45
        go_wp2
        go_ret
        exact ⟨rfl, hB.out⟩
    have hx : knownK k = false := by unfold knownK; simp; omega
    rw [same_x hx]
    clear hx
    by_cases hp : p = p'
    · subst hp
      by_cases hm : m = m'
      · subst hm
        by_cases hn : n = n'
        · subst hn
          simp only [decide_true, Bool.true_and]
          go_enter Try.func45, Try.ntmps45
          go_wp2_with (refine (HE.out _ hB.out).mono ?_; rintro e w5 ⟨rfl, hb⟩; have HB5 : Hid (Below w.heap.size w w5) := hB.out.trans (hb.mono hB.out.size); clear hb)
          go_ret
          exact ⟨rfl, HB5.out⟩
        · have e1 : (n == n') = false := beq_eq_false_iff_ne.2 hn
          simp only [decide_true, decide_eq_false hn, Bool.true_and, Bool.false_and]
          clear hn
          go_enter Try.func45, Try.ntmps45
          go_wp2
          go_ret
          exact ⟨rfl, hB.out⟩
      · have e1 := bytes_ne hm
        simp only [decide_true, decide_eq_false hm, Bool.true_and, Bool.false_and]
        clear hm
        go_enter Try.func45, Try.ntmps45
        go_wp2
        go_ret
        exact ⟨rfl, hB.out⟩
    · have e1 := bytes_ne hp
      simp only [decide_eq_false hp, Bool.false_and]
      clear hp
      go_enter Try.func45, Try.ntmps45
      go_wp2
      go_ret
      exact ⟨rfl, hB.out⟩
  · have e1 : (k == k') = false := beq_eq_false_iff_ne.2 hk
    rw [same_ne hk]
    clear hk
    go_enter Try.func45, Try.ntmps45
    go_wp2
    go_ret
    exact ⟨rfl, hB.out⟩

end Go.Proofs.Ytmnhilgifjaocaa
