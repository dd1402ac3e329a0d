/-
  The walk of 'awake': it answers true; nothing that was there has turned. No condition.
-/
import Derived.Test.YtakjajpacilnaaaPlace
import Derived.Test.YtakjajpacilnaaaAt
namespace Go.Proofs.Ytakjajpacilnaaa
open Go.RowKit Go.Lib Go.Sort

def s0 : ByteArray := ⟨#[97, 98, 10, 99]⟩
theorem brk0 : brk s0.data.toList = [3] := by decide
theorem size0 : s0.size = 4 := rfl
theorem cnt0 : cnt s0.data.toList 4 = 1 := by decide
theorem beg0 : beg s0.data.toList 1 = 3 := by decide
theorem stop0 : stop s0.data.toList 1 = 4 := by decide
theorem ext0 : s0.extract 3 4 = ⟨#[99]⟩ := by decide

theorem aw_place4 {w : World} {b : Nat} {o : Option Addr} {cap : Nat} (I : IsLines w b s0 o cap) : Calls Try.prog 12 #[.pointer (some ⟨b, 0, none⟩), .int .i64 4] w fun e w' => e = .returned (.tuple #[.int .i64 2, .int .i64 2, .int .i64 0]) ∧ Below w.heap.size w w' := by
  have h := place_any b cap 4 s0 o w I (by rw [size0]; omega) (by rw [size0]; omega)
  rw [cnt0, beg0] at h
  exact h

theorem aw_place5 {w : World} {b : Nat} {o : Option Addr} {cap : Nat} (I : IsLines w b s0 o cap) : Calls Try.prog 12 #[.pointer (some ⟨b, 0, none⟩), .int .i64 5] w fun e w' => e = .returned (.tuple #[.int .i64 0, .int .i64 0, .int .i64 10]) ∧ Below w.heap.size w w' :=
  place_high b s0 5 w I.text (by omega) (by rw [size0]; omega)

theorem aw_at {w : World} {b : Nat} {o : Option Addr} {cap : Nat} (I : IsLines w b s0 o cap) : Calls Try.prog 16 #[.pointer (some ⟨b, 0, none⟩), .int .i64 2, .int .i64 2] w fun e w' => e = .returned (.tuple #[.int .i64 4, .int .i64 0]) ∧ w = w' := by
  have h := at_in b cap 1 s0 o 2 2 w I (by rw [size0]; omega) (by omega) (by rw [brk0]; decide)
  rw [beg0, stop0, if_pos (by omega)] at h
  exact h

theorem aw_line {w : World} {b : Nat} {o : Option Addr} {cap : Nat} (I : IsLines w b s0 o cap) : Calls Try.prog 18 #[.pointer (some ⟨b, 0, none⟩), .int .i64 2] w fun e w' => e = .returned (.tuple #[.string ⟨#[99]⟩, .int .i64 0]) ∧ Below w.heap.size w w' := by
  have h := line_in b cap 1 s0 o 2 w I (by rw [size0]; omega) (by omega) (by rw [brk0]; decide)
  rw [beg0, stop0, ext0] at h
  exact h

theorem aw_count {w : World} {b : Nat} {o : Option Addr} {cap : Nat} (I : IsLines w b s0 o cap) : Calls Try.prog 14 #[.pointer (some ⟨b, 0, none⟩)] w fun e w' => e = .returned (.int .i64 2) ∧ w = w' := by
  have h := count_any b _ cap o w I.behind (by rw [brk0]; decide)
  rw [brk0] at h
  exact h

/-- The Lines and all that lay there when the call began. -/
def St (w w1 : World) (b : Nat) (s : ByteArray) (o : Option Addr) (cap : Nat) : Prop := IsLines w1 b s o cap ∧ Below w.heap.size w w1

theorem St.next {w w1 w2 : World} {b : Nat} {s : ByteArray} {o : Option Addr} {cap : Nat} (h : St w w1 b s o cap) (hB : Below w1.heap.size w1 w2) : St w w2 b s o cap :=
  ⟨h.1.below hB, h.2.trans (hB.mono h.2.size)⟩

set_option maxHeartbeats 1000000 in
theorem awake_any (w : World) : Calls Try.prog 10 #[] w fun e w' => e = .returned (.bool true) ∧ Below w.heap.size w w' := by
  have hn := new_any s0 w (by rw [size0]; omega)
  have HN := Lib.hid hn
  clear hn
  go_enter Try.func10, Try.ntmps10
  go_wp2_with (go_at_call 11; refine HN.out.mono ?_; rintro e w1 ⟨b, o, cap, rfl, I, hB⟩)
  have H1 : St w w1 b s0 o cap := ⟨I, hB⟩
  clear I hB
  go_wp2_with fail
  refine (aw_place4 H1.1).mono ?_
  rintro e w2 ⟨rfl, hB⟩
  have H2 := H1.next hB
  clear hB H1
  go_wp2_with fail
  refine (aw_at H2.1).mono ?_
  rintro e w3 ⟨rfl, rfl⟩
  go_wp2_with fail
  refine (aw_line H2.1).mono ?_
  rintro e w3 ⟨rfl, hB⟩
  have H3 := H2.next hB
  clear hB H2
  go_wp2_with fail
  refine (aw_place5 H3.1).mono ?_
  rintro e w4 ⟨rfl, hB⟩
  have H4 := H3.next hB
  clear hB H3
  go_wp2_with fail
  refine (aw_count H4.1).mono ?_
  rintro e w5 ⟨rfl, rfl⟩
  go_wp2
  go_ret
  exact ⟨rfl, H4.2⟩

end Go.Proofs.Ytakjajpacilnaaa
