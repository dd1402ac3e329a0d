/-
  The document's Text, against the plain one. Condition: the text is of at most 2^47 bytes.
-/
import Derived.Test.YtofdejoeheokjaaTra
namespace Go.Proofs.Ytofdejoeheokjaa.ref
open Go.RowKit
open Go.Lib hiding intOf

theorem str_is {x : ByteArray} {l : List UInt8} (h : x.data.toList = l) : Ending.returned (.string x) = Ending.returned (.string ⟨l.toArray⟩) := by
  rw [← h]

set_option maxRecDepth 100000 in
set_option maxHeartbeats 8000000 in
theorem textR_any : ∀ (s : Nat) (t : GY) (v : Value) (w : World), SizeOf.sizeOf t < s → (txtY t).length ≤ 140737488355328 → IsY w t v →
    Calls Try.prog 18 #[v] w fun e w' => e = .returned (.string ⟨(txtY t).toArray⟩) ∧ Below w.heap.size w w' := by
  intro s
  induction s with
  | zero => intro t v w h; omega
  | succ s ih =>
  rintro ⟨k, p, m, n, l⟩ v w hs hlen hv
  obtain ⟨o, c, rfl, hl, hc, ha⟩ := hv.parts
  obtain ⟨N, hN⟩ : ∃ N, l.length = N := ⟨_, rfl⟩
  have hNm : N ≤ 9223372036854775807 := by unfold maxLen at hc; omega
  obtain ⟨W1, hW1, hb1⟩ := made w #[.int .i64 k, .string p, .string m, .int .i64 n, .slice o l.length c]
  rw [hN] at hW1 hb1 ⊢
  have HB := Lib.hid hb1
  have HW1 := Lib.hid hW1
  have q0 := hb1.b0.cell 0
  have q1 := hb1.b0.cell 1
  have q2 := hb1.b0.cell 2
  have q4 := hb1.b0.cell 4
  simp only [List.getElem?_toArray, List.getElem?_cons_succ, List.getElem?_cons_zero] at q0 q1 q2 q4
  have HA := Lib.hid ha
  have HIH := Lib.hid ih
  have HS := Lib.hid hs
  have HL := Lib.hid hlen
  have esz : ∀ x : ByteArray, x.data.toList.length = x.size := fun x => by rw [Array.length_toList]; rfl
  have ESZ := Lib.hid esz
  clear hW1 hb1 hv ha ih hs hl hc hlen esz
  by_cases h1 : k = 1
  · subst h1
    have et : txtY (.mk 1 p m n l) = [105, 110, 116] := by cases l <;> (rw [txtY]; rfl)
    rw [et]
    go_enter Try.func18, Try.ntmps18
    go_upto_region 1 with fail
    change Code.wp Try.prog _ _ _ (w.alloc (.cells _ 25))
    rw [HW1.out]
    clear HW1
    go_wp2
    go_ret
    exact ⟨str_is (by rfl), HB.out.below⟩
  by_cases h2 : k = 2
  · subst h2
    have et : txtY (.mk 2 p m n l) = [98, 111, 111, 108] := by cases l <;> (rw [txtY]; rfl)
    rw [et]
    go_enter Try.func18, Try.ntmps18
    go_upto_region 1 with fail
    change Code.wp Try.prog _ _ _ (w.alloc (.cells _ 25))
    rw [HW1.out]
    clear HW1
    go_wp2
    go_ret
    exact ⟨str_is (by rfl), HB.out.below⟩
  by_cases h3 : k = 3
  · subst h3
    have et : txtY (.mk 3 p m n l) = [116, 101, 120, 116] := by cases l <;> (rw [txtY]; rfl)
    rw [et]
    go_enter Try.func18, Try.ntmps18
    go_upto_region 1 with fail
    change Code.wp Try.prog _ _ _ (w.alloc (.cells _ 25))
    rw [HW1.out]
    clear HW1
    go_wp2
    go_ret
    exact ⟨str_is (by rfl), HB.out.below⟩
  by_cases h7 : k = 7
  · subst h7
    have et : txtY (.mk 7 p m n l) = [110, 111, 110, 101] := by cases l <;> (rw [txtY]; rfl)
    rw [et]
    go_enter Try.func18, Try.ntmps18
    go_upto_region 1 with fail
    change Code.wp Try.prog _ _ _ (w.alloc (.cells _ 25))
    rw [HW1.out]
    clear HW1
    go_wp2
    go_ret
    exact ⟨str_is (by rfl), HB.out.below⟩
  by_cases h6 : k = 6
  · subst h6
    have et : txtY (.mk 6 p m n l) = m.data.toList := by cases l <;> (rw [txtY]; rfl)
    rw [et]
    go_enter Try.func18, Try.ntmps18
    go_upto_region 1 with fail
    change Code.wp Try.prog _ _ _ (w.alloc (.cells _ 25))
    rw [HW1.out]
    clear HW1
    go_wp2
    go_ret
    exact ⟨str_is (by rfl), HB.out.below⟩
  by_cases h4 : k = 4
  · subst h4
    by_cases hp : p = ⟨#[]⟩
    · subst hp
      have et : txtY (.mk 4 ⟨#[]⟩ m n l) = m.data.toList := by cases l <;> (rw [txtY]; rfl)
      rw [et]
      go_enter Try.func18, Try.ntmps18
      go_upto_region 1 with fail
      change Code.wp Try.prog _ _ _ (w.alloc (.cells _ 25))
      rw [HW1.out]
      clear HW1
      go_wp2
      go_ret
      exact ⟨str_is (by rfl), HB.out.below⟩
    · have fp := bytes_some hp
      have hpl : p.data.toList ≠ [] := fun e => hp (bytes_inj e)
      have et : txtY (.mk 4 p m n l) = p.data.toList ++ [46] ++ m.data.toList := by cases l <;> rw [txtY, if_neg (by decide), if_neg (by decide), if_neg (by decide), if_pos rfl, if_neg hpl]
      have hl := HL.out
      rw [et, List.length_append, List.length_append, ESZ.out, ESZ.out, List.length_singleton] at hl
      rw [et]
      clear hp hpl et
      go_enter Try.func18, Try.ntmps18
      go_upto_region 1 with fail
      change Code.wp Try.prog _ _ _ (w.alloc (.cells _ 25))
      rw [HW1.out]
      clear HW1
      go_wp2
      go_ret
      exact ⟨str_is (by simp [ByteArray.data_append]), HB.out.below⟩
  by_cases h5 : k = 5
  · subst h5
    cases l with
    | nil =>
      have et : txtY (.mk 5 p m n []) = [91, 93, 63] := by rw [txtY]; rfl
      rw [et]
      simp only [List.length_nil] at hN
      subst hN
      go_enter Try.func18, Try.ntmps18
      go_upto_region 1 with fail
      change Code.wp Try.prog _ _ _ (w.alloc (.cells _ 25))
      rw [HW1.out]
      clear HW1
      go_wp2
      go_ret
      exact ⟨str_is (by rfl), HB.out.below⟩
    | cons y r =>
      have et : txtY (.mk 5 p m n (y :: r)) = [91, 93] ++ txtY y := by rw [txtY]; rfl
      have hl := HL.out
      rw [et, List.length_append] at hl
      simp only [List.length_cons, List.length_nil] at hl hN
      have hN0 : (0 : Int) < (N : Int) := by omega
      have e1 : ((N : Int) == 0) = false := beq_eq_false_iff_ne.2 (by omega)
      obtain ⟨a, d0, d1, d2, d3, d4, rfl, hcx, hyx⟩ := HA.out.at_ 0 (y := y) rfl
      have HY := Lib.hid hyx
      have HC : Hid (∀ (i : Nat) (v : Value), [d0, d1, d2, d3, d4][i]? = some v → W1.cell? ((a.add ((0 + 0) * 5)).add i) = some v) := fun i v h => (HB.out.below.cell (World.block_lt_of_cell? _ _ (hcx i v h))).trans (hcx i v h)
      have HI : Hid (∀ W, Below w.heap.size w W → Calls Try.prog 18 #[.agg #[d0, d1, d2, d3, d4]] W fun e w' => e = .returned (.string ⟨(txtY y).toArray⟩) ∧ Below W.heap.size W w') :=
        fun W h => HIH.out y _ W (by have := HS.out; simp at this; omega) (by omega) (HY.out.below h)
      have hsz : (⟨(txtY y).toArray⟩ : ByteArray).size ≤ 140737488355328 := by show (txtY y).toArray.size ≤ _; simp; omega
      rw [et]
      clear HIH HS hcx hyx HA et HL hl hN
      have HT : Hid ((⟨(txtY y).toArray⟩ : ByteArray).data.toList = txtY y) := rfl
      generalize (⟨(txtY y).toArray⟩ : ByteArray) = z at *
      go_enter Try.func18, Try.ntmps18
      go_upto_region 1 with fail
      change Code.wp Try.prog _ _ _ (w.alloc (.cells _ 25))
      rw [HW1.out]
      clear HW1
      go_wp2_with (first
        | (refine boxLoadG 25 5 size5 Try.underlying25 rfl _ rfl _ rfl (cs := [d0, d1, d2, d3, d4]) HC.out rfl ?_)
        | (go_at_call 18; (refine (HI.out _ HB.out.below).mono ?_); rintro e w2 ⟨rfl, hb⟩; have HB2 := Lib.hid (HB.out.step hb); clear HB hb q0 q1 q2 q4))
      go_ret
      exact ⟨str_is (by rw [← HT.out]; simp [ByteArray.data_append]), HB2.out.below⟩
  have et : txtY (.mk k p m n l) = [63] := by cases l <;> rw [txtY, if_neg h1, if_neg h2, if_neg h3, if_neg h4, if_neg h5, if_neg h6, if_neg h7]
  have g1 : (k == 1) = false := beq_eq_false_iff_ne.2 h1
  have g2 : (k == 2) = false := beq_eq_false_iff_ne.2 h2
  have g3 : (k == 3) = false := beq_eq_false_iff_ne.2 h3
  have g4 : (k == 4) = false := beq_eq_false_iff_ne.2 h4
  have g5 : (k == 5) = false := beq_eq_false_iff_ne.2 h5
  have g6 : (k == 6) = false := beq_eq_false_iff_ne.2 h6
  have g7 : (k == 7) = false := beq_eq_false_iff_ne.2 h7
  clear h1 h2 h3 h4 h5 h6 h7
  rw [et]
  go_enter Try.func18, Try.ntmps18
  go_upto_region 1 with fail
  change Code.wp Try.prog _ _ _ (w.alloc (.cells _ 25))
  rw [HW1.out]
  clear HW1
  go_wp2
  go_ret
  exact ⟨str_is (by rfl), HB.out.below⟩

end Go.Proofs.Ytofdejoeheokjaa.ref
