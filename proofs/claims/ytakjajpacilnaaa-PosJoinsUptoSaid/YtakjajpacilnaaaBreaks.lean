/-
  The walk of 'breaks': what it answers for every text (of fewer than 2^43 bytes), and that nothing that was there has turned.
-/
import Derived.Test.YtakjajpacilnaaaMath
import Derived.Test.YtakjajpacilnaaaRows
import Derived.WalkKit
import Derived.WalkSpells
import Derived.WalkLawsBesides
import Derived.Lib.OthersKept
import Derived.Lib.Hide
namespace Go.Proofs.Ytakjajpacilnaaa
open Go.RowKit Go.Lib

theorem Try.info3 : (Try.prog.info? 3).map (fun i => (i.zero, i.size, i.bytes)) = some (some (.int .i64 0), 1, 8) := by kernel_rfl

/-- Numbers as values. -/
def vals (B : List Nat) : List Value := B.map fun x => Value.int .i64 (x : Nat)

theorem vals_len (B : List Nat) : (vals B).length = B.length := by simp [vals]
theorem vals_snoc (B : List Nat) (x : Nat) : vals (B ++ [x]) = vals B ++ [.int .i64 (x : Nat)] := by simp [vals]

/-- What the loop holds: behind the iterator's block an owned row of the offsets found so far. -/
def Rel (s : ByteArray) (w wr : World) (pos : Nat) (v : Value) : Prop :=
  pos ≤ s.size ∧ wr.heap[w.heap.size]? = some (.stringIter s pos) ∧
    wr.ownsRow (w.heap.size + 1) 3 1 v (brk (s.data.toList.take pos)).length (vals (brk (s.data.toList.take pos))) ∧ Below w.heap.size w wr ∧ w.heap.size < wr.heap.size

theorem rel_start (s : ByteArray) (w : World) : Rel s w (w.iter s 0) 0 (.slice none 0 0) :=
  ⟨Nat.zero_le _, World.iter_heap w s 0, by simpa [brk, brkFrom, vals] using World.ownsRow_nil (w.iter s 0) (w.heap.size + 1) 3 1, (Below.refl _ w).alloc (Nat.le_refl _) _, by simp [World.iter]⟩

theorem rel_other {s : ByteArray} {w wr : World} {pos n : Nat} {v : Value} (h : Rel s w wr pos v) (hn : pos + n ≤ s.size) (ho : ∀ i (hi : i < s.size), pos ≤ i → i < pos + n → s[i] ≠ 10) :
    Rel s w (wr.iterAt w.heap.size s (pos + n)) (pos + n) v := by
  obtain ⟨h1, h2, h3, h4, h5⟩ := h
  refine ⟨hn, iterAt_heap _ _ _ _ _ h2, ?_, below_iterAt h4 (Nat.le_refl _) _ _, by rw [iterAt_size]; exact h5⟩
  rw [brk_take_other s pos n hn ho]
  exact ownsRow_iterAt h3 (by omega) _ _

theorem rel_ten {s : ByteArray} {w wr w1 : World} {pos : Nat} {v v' : Value} {o : Obj} (h : Rel s w wr pos v) (hp : pos < s.size) (h10 : s[pos] = 10)
    (hown : w1.ownsRow (w.heap.size + 1) 3 1 v' ((brk (s.data.toList.take pos)).length + 1) (vals (brk (s.data.toList.take pos)) ++ [Value.int .i64 ((pos : Int) + 1)]))
    (hg : ((wr.iterAt w.heap.size s (pos + 1)).alloc o).grownBy w1 v.ownBlock) : Rel s w w1 (pos + 1) v' := by
  obtain ⟨h1, h2, h3, h4, h5⟩ := h
  have e := brk_take_ten s pos hp h10
  have hne : ∀ j, j < w.heap.size + 1 → some j ≠ v.ownBlock := fun j hj h => by have := (h3.lt j h.symm).1; omega
  refine ⟨hp, ?_, ?_, ?_, ?_⟩
  · rw [hg.block _ (by simp [iterAt_size]; omega) (hne _ (by omega)), Below.heap_alloc _ _ _ (by rw [iterAt_size]; exact h5)]
    exact iterAt_heap _ _ _ _ _ h2
  · rw [e, vals_snoc]; simpa using hown
  · exact ((below_iterAt h4 (Nat.le_refl _) _ _).alloc (by rw [iterAt_size]; omega) o).grown hg (by simp [iterAt_size]; omega) (fun j hj => by have := (h3.lt j hj).1; omega)
  · have := hg.size; simp [iterAt_size] at this; omega

/-- What 'breaks' answers. -/
def IsInts (w w' : World) (B : List Nat) (e : Ending) : Prop :=
  ∃ o cap, e = .returned (.slice o B.length cap) ∧ Below w.heap.size w w' ∧ w.heap.size < w'.heap.size ∧ ∀ j, j < B.length → ∃ g, o = some ⟨g, 0, none⟩ ∧ w.heap.size ≤ g ∧ w'.cell? ⟨g, j, none⟩ = some (.int .i64 (B.getD j 0 : Nat))

theorem rel_end {s : ByteArray} {w wr : World} {pos : Nat} {v : Value} (h : Rel s w wr pos v) (hp : ¬ pos < s.size) :
    (v = .slice none 0 0 ∧ IsInts w wr (brk s.data.toList) (.returned (.slice none 0 0))) ∨
    ∃ g n cap, v = .slice (some ⟨g, 0, none⟩) n cap ∧ n ≤ cap ∧ cap ≤ maxLen ∧ IsInts w wr (brk s.data.toList) (.returned (.slice (some ⟨g, 0, none⟩) n n)) := by
  obtain ⟨h1, h2, h3, h4, h5⟩ := h
  have e : s.data.toList.take pos = s.data.toList := List.take_of_length_le (by simp; have : s.data.size = s.size := rfl; omega)
  rw [e] at h3
  have hc := fun g => h3.cells (g := g)
  rcases h3.2 with ⟨rfl, h0⟩ | ⟨g, cap, cur, rfl, hb, hg, hn, hm, _⟩
  · left
    refine ⟨rfl, none, 0, by rw [h0], h4, h5, fun j hj => by omega⟩
  · right
    refine ⟨g, _, cap, rfl, hn, hm, some ⟨g, 0, none⟩, (brk s.data.toList).length, rfl, h4, h5, fun j hj => ⟨g, rfl, by omega, ?_⟩⟩
    have := hc g rfl j (.int .i64 ((brk s.data.toList).getD j 0 : Nat)) (by simp [vals, List.getElem?_eq_getElem hj])
    have ha : (⟨g, 0, none⟩ : Addr).add j = ⟨g, j, none⟩ := by unfold Addr.add; split <;> simp_all
    rwa [ha] at this

set_option maxHeartbeats 400000 in
theorem breaks_any (s : ByteArray) (w : World) (hs : s.size ≤ 8796093022208) :
    Calls Try.prog 21 #[.string s] w fun e w' => IsInts w w' (brk s.data.toList) e := by
  obtain ⟨i0, hi, hz0, hz1, hz2⟩ := info_parts Try.info3
  go_enter Try.func21, Try.ntmps21
  go_wp2
  go_loopw [3] (fun v wr => ∃ pos, Rel s w wr pos v) (fun _ wr => s.size - wr.iterPos w.heap.size)
  case atStart => exact ⟨0, rel_start s w⟩
  case round =>
    obtain ⟨pos, hr⟩ := hrel
    have hk := hr.2.1
    have hpos := hr.1
    by_cases hp : pos < s.size
    · by_cases h10 : s[pos] = 10
      · have hnx : ∀ ty, (Instr.next (.pointer (some ⟨w.heap.size, 0, none⟩)) true ty).run Try.prog wr = .ok (.tuple #[.bool true, .int .i64 pos, .int .i32 10]) (wr.iterAt w.heap.size s (pos + 1)) := fun ty => by
          have := run_next_any_at (P := Try.prog) wr w.heap.size s pos ty hk hp
          rw [rune_ten s pos hp h10] at this; exact this
        have hown := ownsRow_iterAt hr.2.2.1 (Nat.lt_succ_self _) s (pos + 1)
        have hlen := brk_len_le (s.data.toList.take pos)
        have hl2 : (s.data.toList.take pos).length ≤ pos := List.length_take_le _ _
        have hsz : w.heap.size + 1 ≤ wr.heap.size := hr.2.2.2.2
        have H := Lib.hid hr
        have K := Lib.hid hk
        have H10 := Lib.hid h10
        clear hr hk h10
        go_wp2_with (at_builtin; refine wpList_append_own _ rfl _ _ 44 rfl (w.heap.size + 1) 3 i0 (.int .i64 0) 1 8 Try.underlying44 hi hz0 hz1 hz2 rfl (by decide) _ _ _ rfl (hown.alloc _) ⟨(wr.iterAt w.heap.size s (pos + 1)).heap.size, 0, none⟩ 1 1 [Value.int .i64 ((pos : Int) + 1)] rfl rfl ?c1 ?c2 ?c3 ?c4 ?c5 ?_)
        case c1 => exact cell_one_new _ _ _
        case c2 => intro u hu; simp at hu; subst hu; rfl
        case c3 => unfold maxLen; omega
        case c4 => omega
        case c5 => simp [iterAt_size]; omega
        intro v' w1 hown' hgrow _
        have R := rel_ten H.out hp H10.out hown' hgrow
        have hm : s.size - w1.iterPos w.heap.size < s.size - wr.iterPos w.heap.size := by rw [iterPos_of R.2.1, iterPos_of K.out]; omega
        clear hown' hgrow hown hnx
        have R := Lib.hid R
        have hm := Lib.hid hm
        go_wp2
        go_roundw
        case rel => exact ⟨_, R.out⟩
        case measure => exact hm.out
      · obtain ⟨r1, r2, r3, r4⟩ := rune_other s pos hp h10
        have hnx : ∀ ty, (Instr.next (.pointer (some ⟨w.heap.size, 0, none⟩)) true ty).run Try.prog wr = .ok (.tuple #[.bool true, .int .i64 pos, .int .i32 (Utf8.decode s pos).1]) (wr.iterAt w.heap.size s (pos + (Utf8.decode s pos).2)) := fun ty => 
          run_next_any_at (P := Try.prog) wr w.heap.size s pos ty hk hp
        have R := rel_other hr r3 r4
        have hm : s.size - (wr.iterAt w.heap.size s (pos + (Utf8.decode s pos).2)).iterPos w.heap.size < s.size - wr.iterPos w.heap.size := by rw [iterPos_of R.2.1, iterPos_of hk]; omega
        clear r4 h10
        generalize (Utf8.decode s pos).2 = n at *
        generalize (Utf8.decode s pos).1 = r at *
        have hr10 : ((r : Int) == 10) = false := by rw [beq_eq_false_iff_ne]; omega
        have R := Lib.hid R
        have hm := Lib.hid hm
        clear hr hk
        go_wp2
        go_roundw
        case rel => exact ⟨_, R.out⟩
        case measure => exact hm.out
    · have hnx : ∀ ty, (Instr.next (.pointer (some ⟨w.heap.size, 0, none⟩)) true ty).run Try.prog wr = .ok (.tuple #[.bool false]) wr := fun ty => run_next_end_at wr w.heap.size s pos ty hk hp
      rcases rel_end hr hp with ⟨rfl, hR⟩ | ⟨g, n, cap, rfl, hn, hm, hR⟩
      · have R := Lib.hid hR
        clear hR hr hk
        go_wp2
        go_ret
        exact R.out
      · have R := Lib.hid hR
        clear hR hr hk
        unfold maxLen at hm
        go_wp2
        go_ret
        exact R.out
end Go.Proofs.Ytakjajpacilnaaa
