/-
  The small methods: Count, has, begin, end, strings.Clone. Conditions: the Lines lie in memory as 'IsLines' says; the text has fewer than 2^43 bytes.
-/
import Derived.Test.YtakjajpacilnaaaBreaks
import Derived.Test.YtakjajpacilnaaaLays
import Derived.Deep.QuietTactic
import Derived.BigQuiet
namespace Go.Proofs.Ytakjajpacilnaaa
open Go.RowKit Go.Lib

/-- A text's Lines in memory. -/
structure IsLines (w : World) (b : Nat) (s : ByteArray) (o : Option Addr) (cap : Nat) : Prop where
  text : w.cell? ⟨b, 0, none⟩ = some (.string s)
  behind : w.cell? ⟨b, 1, none⟩ = some (.slice o (brk s.data.toList).length cap)
  ints : ∀ j, j < (brk s.data.toList).length → ∃ g, o = some ⟨g, 0, none⟩ ∧ w.cell? ⟨g, j, none⟩ = some (.int .i64 ((brk s.data.toList).getD j 0 : Nat))

theorem IsLines.below {w w' : World} {b : Nat} {s : ByteArray} {o : Option Addr} {cap : Nat} (h : IsLines w b s o cap) (hb : Below w.heap.size w w') : IsLines w' b s o cap := by
  have k : ∀ a v, w.cell? a = some v → w'.cell? a = some v := fun a v ha => (hb.cell (World.block_lt_of_cell? _ _ ha)).trans ha
  exact ⟨k _ _ h.text, k _ _ h.behind, fun j hj => by obtain ⟨g, h1, h2⟩ := h.ints j hj; exact ⟨g, h1, k _ _ h2⟩⟩

theorem size_toList (s : ByteArray) : s.data.toList.length = s.size := by simp

theorem ret_int {k : IntKind} {a b : Int} (h : a = b) : Ending.returned (.int k a) = .returned (.int k b) := by rw [h]

theorem count_any (b m cap : Nat) (o : Option Addr) (w : World) (hc : w.cell? ⟨b, 1, none⟩ = some (.slice o m cap)) (hm : m ≤ 8796093022208) :
    Calls Try.prog 14 #[.pointer (some ⟨b, 0, none⟩)] w fun e w' => e = .returned (.int .i64 ((m : Int) + 1)) ∧ w = w' := by
  go_enter Try.func14, Try.ntmps14
  go_wp2
  go_ret
  exact ⟨rfl, rfl⟩

theorem count_nil (w : World) : Calls Try.prog 14 #[.pointer none] w fun e w' => e = .returned (.int .i64 0) ∧ w = w' := by
  go_enter Try.func14, Try.ntmps14
  go_wp2
  go_ret
  exact ⟨rfl, rfl⟩

theorem has_yes (b m cap : Nat) (o : Option Addr) (line : Int) (w : World) (hc : w.cell? ⟨b, 1, none⟩ = some (.slice o m cap)) (hm : m ≤ 8796093022208) (h1 : 1 ≤ line) (h2 : line ≤ m + 1) :
    Calls Try.prog 25 #[.pointer (some ⟨b, 0, none⟩), .int .i64 line] w fun e w' => e = .returned (.bool true) ∧ w = w' := by
  go_enter Try.func25, Try.ntmps25
  go_wp2_with (go_at_call 14; refine (count_any b m cap o _ hc hm).mono ?_; rintro e w' ⟨rfl, rfl⟩)
  go_ret
  exact ⟨rfl, rfl⟩

theorem has_no (b m cap : Nat) (o : Option Addr) (line : Int) (w : World) (hc : w.cell? ⟨b, 1, none⟩ = some (.slice o m cap)) (hm : m ≤ 8796093022208) (h : line < 1 ∨ (m : Int) + 1 < line) :
    Calls Try.prog 25 #[.pointer (some ⟨b, 0, none⟩), .int .i64 line] w fun e w' => e = .returned (.bool false) ∧ w = w' := by
  by_cases h1 : line < 1
  · clear h
    go_enter Try.func25, Try.ntmps25
    go_wp2_with (go_at_call 14; refine (count_any b m cap o _ hc hm).mono ?_; rintro e w' ⟨rfl, rfl⟩)
    go_ret
    exact ⟨rfl, rfl⟩
  · have h2 : (m : Int) + 1 < line := by omega
    have h3 : 1 ≤ line := by omega
    have h4 : decide (line ≤ (m : Int) + 1) = false := by simp; omega
    clear h h1
    go_enter Try.func25, Try.ntmps25
    go_wp2_with (go_at_call 14; refine (count_any b m cap o _ hc hm).mono ?_; rintro e w' ⟨rfl, rfl⟩)
    go_ret
    exact ⟨rfl, rfl⟩

theorem begin_zero (b : Nat) (line : Int) (w : World) (h : (line == 1) = true) :
    Calls Try.prog 24 #[.pointer (some ⟨b, 0, none⟩), .int .i64 line] w fun e w' => e = .returned (.int .i64 0) ∧ w = w' := by
  go_enter Try.func24, Try.ntmps24
  go_wp2
  go_ret
  exact ⟨rfl, rfl⟩

theorem begin_at (b m cap g x : Nat) (line : Int) (w : World) (hc : w.cell? ⟨b, 1, none⟩ = some (.slice (some ⟨g, 0, none⟩) m cap)) (hm : m ≤ 8796093022208)
    (h : (line == 1) = false) (h2 : 2 ≤ line) (hl : line - 2 < m) (hx : w.cell? ⟨g, (line - 2).toNat, none⟩ = some (.int .i64 (x : Nat))) :
    Calls Try.prog 24 #[.pointer (some ⟨b, 0, none⟩), .int .i64 line] w fun e w' => e = .returned (.int .i64 (x : Nat)) ∧ w = w' := by
  go_enter Try.func24, Try.ntmps24
  go_wp2
  go_ret
  exact ⟨rfl, rfl⟩

theorem begin_any (b cap m : Nat) (s : ByteArray) (o : Option Addr) (line : Int) (w : World) (I : IsLines w b s o cap) (hs : s.size ≤ 8796093022208) (hl : line = m + 1) (hm : m ≤ (brk s.data.toList).length) :
    Calls Try.prog 24 #[.pointer (some ⟨b, 0, none⟩), .int .i64 line] w fun e w' => e = .returned (.int .i64 (beg s.data.toList m : Nat)) ∧ w = w' := by
  have hb := brk_len_le s.data.toList
  rw [size_toList] at hb
  by_cases h0 : m = 0
  · have e : beg s.data.toList m = 0 := by unfold beg; rw [if_pos h0]
    rw [e]
    exact begin_zero b line w (beq_iff_eq.2 (by omega))
  · have e : beg s.data.toList m = (brk s.data.toList).getD (m - 1) 0 := by unfold beg; rw [if_neg h0]
    obtain ⟨g, rfl, hx⟩ := I.ints (m - 1) (by omega)
    rw [e]
    exact begin_at b _ cap g _ line w I.behind (by omega) (beq_eq_false_iff_ne.2 (by omega)) (by omega) (by omega) (by rw [show (line - 2).toNat = m - 1 by omega]; exact hx)

theorem end_last (b m cap : Nat) (o : Option Addr) (s : ByteArray) (line : Int) (w : World) (hc : w.cell? ⟨b, 1, none⟩ = some (.slice o m cap)) (ht : w.cell? ⟨b, 0, none⟩ = some (.string s)) (hm : m ≤ 8796093022208)
    (h : (line == (m : Int) + 1) = true) :
    Calls Try.prog 26 #[.pointer (some ⟨b, 0, none⟩), .int .i64 line] w fun e w' => e = .returned (.int .i64 (s.size : Nat)) ∧ w = w' := by
  go_enter Try.func26, Try.ntmps26
  go_wp2_with (go_at_call 14; refine (count_any b m cap o _ hc hm).mono ?_; rintro e w' ⟨rfl, rfl⟩)
  go_ret
  exact ⟨rfl, rfl⟩

theorem end_at (b m cap g x : Nat) (line : Int) (w : World) (hc : w.cell? ⟨b, 1, none⟩ = some (.slice (some ⟨g, 0, none⟩) m cap)) (hm : m ≤ 8796093022208)
    (h : (line == (m : Int) + 1) = false) (h2 : 1 ≤ line) (hl : line - 1 < m) (hx : w.cell? ⟨g, line.toNat - 1, none⟩ = some (.int .i64 (x : Nat))) (hx1 : 1 ≤ x) (hx2 : x ≤ 8796093022208) :
    Calls Try.prog 26 #[.pointer (some ⟨b, 0, none⟩), .int .i64 line] w fun e w' => e = .returned (.int .i64 ((x : Int) - 1)) ∧ w = w' := by
  go_enter Try.func26, Try.ntmps26
  go_wp2_with (go_at_call 14; refine (count_any b m cap _ _ hc hm).mono ?_; rintro e w' ⟨rfl, rfl⟩)
  go_ret
  exact ⟨rfl, rfl⟩

theorem end_any (b cap m : Nat) (s : ByteArray) (o : Option Addr) (line : Int) (w : World) (I : IsLines w b s o cap) (hs : s.size ≤ 8796093022208) (hl : line = m + 1) (hm : m ≤ (brk s.data.toList).length) :
    Calls Try.prog 26 #[.pointer (some ⟨b, 0, none⟩), .int .i64 line] w fun e w' => e = .returned (.int .i64 (stop s.data.toList m : Nat)) ∧ w = w' := by
  have hb := brk_len_le s.data.toList
  rw [size_toList] at hb
  by_cases h0 : m = (brk s.data.toList).length
  · have e : stop s.data.toList m = s.size := by unfold stop; rw [if_pos h0, size_toList]
    rw [e]
    exact end_last b _ cap o s line w I.behind I.text (by omega) (beq_iff_eq.2 (by omega))
  · have e : ((stop s.data.toList m : Nat) : Int) = ((brk s.data.toList).getD m 0 : Nat) - 1 := by
      unfold stop; rw [if_neg h0]; have := brk_bd s.data.toList m (by omega); omega
    obtain ⟨g, rfl, hx⟩ := I.ints m (by omega)
    have hd := brk_bd s.data.toList m (by omega)
    rw [size_toList] at hd
    rw [e]
    exact end_at b _ cap g _ line w I.behind (by omega) (beq_eq_false_iff_ne.2 (by omega)) (by omega) (by omega) (by rw [show line.toNat - 1 = m by omega]; exact hx) hd.1 (by omega)

theorem clone_any (s : ByteArray) (w : World) (hs : s.size ≤ 8796093022208) :
    Calls Try.prog 20 #[.string s] w fun e w' => e = .returned (.string s) ∧ Below w.heap.size w w' := by
  have hC := AnyPu.stringslite_Clone cloneLays s w (by omega)
  change Calls Try.prog 27 _ _ _ at hC
  go_enter Try.func20, Try.ntmps20
  go_wp2_with (go_at_call 27; refine hC.mono ?_; rintro e w' ⟨rfl, hB⟩)
  go_ret
  exact ⟨rfl, hB⟩

end Go.Proofs.Ytakjajpacilnaaa
