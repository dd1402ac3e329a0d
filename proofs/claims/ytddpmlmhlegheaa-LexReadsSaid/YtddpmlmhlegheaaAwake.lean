/-
  The walk of 'awake': it answers true; nothing that was there has turned. No condition.
-/
import Derived.Test.YtddpmlmhlegheaaAll
namespace Go.Proofs.Ytddpmlmhlegheaa
open Go.RowKit
open Go.Lib hiding intOf

def s1 : ByteArray := ⟨#[97, 61, 61, 98, 32, 47, 47, 32, 99]⟩
def s2 : ByteArray := ⟨#[108, 101, 116, 32, 120, 49, 61, 48, 55, 59]⟩
theorem lex1 : lexed s1.data.toList = ([⟨1, 0, 1, [97]⟩, ⟨4, 1, 3, [61, 61]⟩, ⟨1, 3, 4, [98]⟩, ⟨0, 9, 9, []⟩], 0, 0) := by decide +kernel
theorem lex2 : lexed s2.data.toList = ([], 7, 2) := by decide +kernel
theorem kw1 : kw [108, 101, 116] = true := by decide
theorem kw2 : kw [108, 101, 116, 115] = false := by decide

/-- What awake looks at of the first text's tokens. -/
def See (w : World) (v : Value) : Prop :=
  ∃ g cap, v = .slice (some ⟨g, 0, none⟩) 4 cap ∧ w.cell? ⟨g, 4, none⟩ = some (.int .i64 4) ∧ w.cell? ⟨g, 5, none⟩ = some (.int .i64 1) ∧ w.cell? ⟨g, 6, none⟩ = some (.int .i64 3) ∧ w.cell? ⟨g, 7, none⟩ = some (.string ⟨#[61, 61]⟩) ∧ w.cell? ⟨g, 13, none⟩ = some (.int .i64 9)

theorem see_of {w : World} {v : Value} (h : IsToks w v [⟨1, 0, 1, [97]⟩, ⟨4, 1, 3, [61, 61]⟩, ⟨1, 3, 4, [98]⟩, ⟨0, 9, 9, []⟩]) : See w v := by
  obtain ⟨o, cap, hv, _, hc⟩ := h
  obtain ⟨g, rfl, h4⟩ := hc 4 _ rfl
  have get : ∀ j u, (toksC [⟨1, 0, 1, [97]⟩, ⟨4, 1, 3, [61, 61]⟩, ⟨1, 3, 4, [98]⟩, ⟨0, 9, 9, []⟩])[j]? = some u → w.cell? ⟨g, j, none⟩ = some u := fun j u hu => by
    obtain ⟨g', e, h⟩ := hc j u hu
    cases e; exact h
  exact ⟨g, cap, hv, get 4 _ rfl, get 5 _ rfl, get 6 _ rfl, get 7 _ rfl, get 13 _ rfl⟩

theorem See.below {w w' : World} {v : Value} (h : See w v) (hb : Below w.heap.size w w') : See w' v := by
  obtain ⟨g, cap, h1, h2, h3, h4, h5, h6⟩ := h
  have k : ∀ a v, w.cell? a = some v → w'.cell? a = some v := fun a v ha => (hb.cell (World.block_lt_of_cell? _ _ ha)).trans ha
  exact ⟨g, cap, h1, k _ _ h2, k _ _ h3, k _ _ h4, k _ _ h5, k _ _ h6⟩

theorem all1 (w : World) : Calls Try.prog 10 #[.string s1] w fun e w' => ∃ v, e = .returned (.tuple #[v, .agg #[.int .i64 0, .int .i64 0]]) ∧ See w' v ∧ Below w.heap.size w w' :=
  (all_any s1 w (by decide)).mono fun e w' ⟨v, he, ht, hb⟩ => by
    rw [lex1] at he ht
    exact ⟨v, he, see_of ht, hb⟩
theorem all2 (w : World) : Calls Try.prog 10 #[.string s2] w fun e w' => ∃ v, e = .returned (.tuple #[v, .agg #[.int .i64 7, .int .i64 2]]) ∧ Below w.heap.size w w' :=
  (all_any s2 w (by decide)).mono fun e w' ⟨v, he, ht, hb⟩ => by
    rw [lex2] at he
    exact ⟨v, he, hb⟩
theorem word1 (w : World) : Calls Try.prog 13 #[.string ⟨#[108, 101, 116]⟩] w fun e w' => e = .returned (.bool true) ∧ Below w.heap.size w w' := by
  have h := word_any ⟨#[108, 101, 116]⟩ w (by decide)
  rwa [show kw (⟨#[108, 101, 116]⟩ : ByteArray).data.toList = true from kw1] at h
theorem word2 (w : World) : Calls Try.prog 13 #[.string ⟨#[108, 101, 116, 115]⟩] w fun e w' => e = .returned (.bool false) ∧ Below w.heap.size w w' := by
  have h := word_any ⟨#[108, 101, 116, 115]⟩ w (by decide)
  rwa [show kw (⟨#[108, 101, 116, 115]⟩ : ByteArray).data.toList = false from kw2] at h

set_option maxHeartbeats 2000000 in
theorem awake_any (w : World) : Calls Try.prog 9 #[] w fun e w' => e = .returned (.bool true) ∧ Below w.heap.size w w' := by
  go_enter Try.func9, Try.ntmps9
  go_wp2_with fail
  refine (all1 _).mono ?_
  rintro e w1 ⟨v, rfl, hS, hB⟩
  have S1 := Lib.hid hS
  have B1 := Lib.hid hB
  clear hS hB
  go_wp2_with fail
  refine (all2 _).mono ?_
  rintro e w2 ⟨v2, rfl, hB⟩
  have hz := hB.size
  simp only [World.size_alloc] at hz
  have b22 : Below w2.heap.size w2 (w2.alloc (.cells #[.int .i64 7, .int .i64 2] 25)) := (Below.refl _ _).alloc (Nat.le_refl _) _
  have S2 := ((S1.out.below ((Below.refl _ _).alloc (Nat.le_refl _) (.cells zeroD 25))).below hB).below b22
  have d0 : (w2.alloc (.cells #[.int .i64 7, .int .i64 2] 25)).cell? ⟨w1.heap.size, 0, none⟩ = some (.int .i64 0) := (b22.cell (p := ⟨w1.heap.size, 0, none⟩) (by simp only; omega)).trans <| (hB.cell (p := ⟨w1.heap.size, 0, none⟩) (by simp)).trans ((Blk.new w1 25 zeroD).cell 0)
  have d1 : (w2.alloc (.cells #[.int .i64 7, .int .i64 2] 25)).cell? ⟨w1.heap.size, 1, none⟩ = some (.int .i64 0) := (b22.cell (p := ⟨w1.heap.size, 1, none⟩) (by simp only; omega)).trans <| (hB.cell (p := ⟨w1.heap.size, 1, none⟩) (by simp)).trans ((Blk.new w1 25 zeroD).cell 1)
  have B2 := Lib.hid ((B1.out.trans (((Below.refl _ w1).alloc (Nat.le_refl _) (.cells zeroD 25)).mono B1.out.size)).trans (hB.mono (by have := B1.out.size; simp; omega)))
  clear hB S1 B1 b22
  obtain ⟨g, cap, rfl, c4, c5, c6, c7, c13⟩ := S2
  go_wp2_with fail
  refine (word1 _).mono ?_
  rintro e w3 ⟨rfl, hB3⟩
  have hz2 := B2.out.size
  have B3 := Lib.hid ((B2.out.alloc hz2 (.cells #[.int .i64 7, .int .i64 2] 25)).trans (hB3.mono (by simp; omega)))
  clear hB3 B2 c4 c5 c6 c7 c13 d0 d1
  go_wp2_with fail
  refine (word2 _).mono ?_
  rintro e w4 ⟨rfl, hB4⟩
  have B4 := Lib.hid (B3.out.trans (hB4.mono B3.out.size))
  clear hB4 B3
  go_wp2
  go_ret
  exact ⟨rfl, B4.out⟩

end Go.Proofs.Ytddpmlmhlegheaa
