/-
  The walks of New, At and Line. Conditions: the Lines lie in memory as 'IsLines' says; the text has fewer than 2^43 bytes.
-/
import Derived.Test.YtakjajpacilnaaaSmall
import Derived.Deep.RegionWith
namespace Go.Proofs.Ytakjajpacilnaaa
open Go.RowKit Go.Lib Go.Sort

/-- What New answers. -/
def Made (w w' : World) (s : ByteArray) (e : Ending) : Prop := ∃ b o cap, e = .returned (.pointer (some ⟨b, 0, none⟩)) ∧ IsLines w' b s o cap ∧ Below w.heap.size w w'

theorem made_mk {s : ByteArray} {w w1 w2 : World} {o : Option Addr} {cap : Nat} (t : TypeId) (hB1 : Below w.heap.size w w1) (hB2 : Below w1.heap.size w1 w2)
    (h : ∀ j, j < (brk s.data.toList).length → ∃ g, o = some ⟨g, 0, none⟩ ∧ w1.heap.size ≤ g ∧ w2.cell? ⟨g, j, none⟩ = some (.int .i64 ((brk s.data.toList).getD j 0 : Nat))) :
    Made w (w2.alloc (.cells #[.string s, .slice o (brk s.data.toList).length cap] t)) s (.returned (.pointer (some ⟨w2.heap.size, 0, none⟩))) := by
  have h1 := hB1.size
  have h2 := hB2.size
  refine ⟨w2.heap.size, o, cap, rfl, ⟨?_, ?_, fun j hj => ?_⟩, (hB1.trans (hB2.mono h1)).alloc (by omega) _⟩
  · rw [World.cell?_alloc_at _ _ _ _ (by simp)]; rfl
  · rw [World.cell?_alloc_at _ _ _ _ (by simp)]; rfl
  · obtain ⟨g, h3, _, h4⟩ := h j hj
    exact ⟨g, h3, cell_alloc_sl _ h4⟩

set_option maxHeartbeats 400000 in
theorem new_any (s : ByteArray) (w : World) (hs : s.size ≤ 8796093022208) : Calls Try.prog 11 #[.string s] w fun e w' => Made w w' s e := by
  have hc := clone_any s w hs
  have hb := fun w1 => breaks_any s w1 hs
  have HC := Lib.hid hc
  have HB := Lib.hid hb
  clear hc hb
  go_enter Try.func11, Try.ntmps11
  go_wp2_with (first | (go_at_call 20; refine HC.out.mono ?_; rintro e w1 ⟨rfl, hB1⟩) | (go_at_call 21; refine (HB.out _).mono ?_; rintro e w2 ⟨o, cap, rfl, hB2, hz, hg⟩))
  have h := made_mk (cap := cap) 47 hB1 hB2 hg
  have H := Lib.hid h
  clear h hg hB1 hB2 hz
  go_ret
  exact H.out

theorem at_nil (line col : Int) (w : World) :
    Calls Try.prog 16 #[.pointer none, .int .i64 line, .int .i64 col] w fun e w' => e = .returned (.tuple #[.int .i64 0, .int .i64 1]) ∧ w = w' := by
  go_enter Try.func16, Try.ntmps16
  go_wp2
  go_ret2
  exact ⟨rfl, rfl⟩

theorem at_noline (b cap : Nat) (s : ByteArray) (o : Option Addr) (line col : Int) (w : World) (I : IsLines w b s o cap) (hs : s.size ≤ 8796093022208) (h : line < 1 ∨ ((brk s.data.toList).length : Int) + 1 < line) :
    Calls Try.prog 16 #[.pointer (some ⟨b, 0, none⟩), .int .i64 line, .int .i64 col] w fun e w' => e = .returned (.tuple #[.int .i64 0, .int .i64 10]) ∧ w = w' := by
  have hb := brk_len_le s.data.toList
  rw [size_toList] at hb
  have hn := has_no b _ cap o line w I.behind (by omega) h
  have H := Lib.hid hn
  clear hn h I
  go_enter Try.func16, Try.ntmps16
  go_wp2_with (go_at_call 25; refine H.out.mono ?_; rintro e w1 ⟨rfl, rfl⟩)
  go_ret2
  exact ⟨rfl, rfl⟩

set_option maxHeartbeats 400000 in
theorem at_in (b cap m : Nat) (s : ByteArray) (o : Option Addr) (line col : Int) (w : World) (I : IsLines w b s o cap) (hs : s.size ≤ 8796093022208) (hl : line = m + 1) (hm : m ≤ (brk s.data.toList).length) :
    Calls Try.prog 16 #[.pointer (some ⟨b, 0, none⟩), .int .i64 line, .int .i64 col] w fun e w' =>
      e = .returned (.tuple (if 1 ≤ col ∧ col ≤ (stop s.data.toList m : Int) - beg s.data.toList m + 1 then #[.int .i64 ((beg s.data.toList m : Int) + col - 1), .int .i64 0] else #[.int .i64 0, .int .i64 10])) ∧ w = w' := by
  have hb := brk_len_le s.data.toList
  rw [size_toList] at hb
  have hbs := beg_le_stop s.data.toList m hm
  rw [size_toList] at hbs
  have h1 := has_yes b _ cap o line w I.behind (by omega) (by omega) (by omega)
  have h2 := begin_any b cap m s o line w I hs hl hm
  have h3 := end_any b cap m s o line w I hs hl hm
  have H1 := Lib.hid h1
  have H2 := Lib.hid h2
  have H3 := Lib.hid h3
  clear h1 h2 h3 I hl hm hb
  generalize beg s.data.toList m = bg at *
  generalize stop s.data.toList m = st at *
  by_cases c1 : 1 ≤ col
  · by_cases c2 : col ≤ (st : Int) - bg + 1
    · rw [if_pos ⟨c1, c2⟩]
      have d1 : decide (col < 1) = false := by simp; omega
      have d2 : decide ((st : Int) - bg + 1 < col) = false := by simp; omega
      go_enter Try.func16, Try.ntmps16
      go_wp2_with (first | (go_at_call 25; refine H1.out.mono ?_; rintro e w1 ⟨rfl, rfl⟩) | (go_at_call 24; refine H2.out.mono ?_; rintro e w1 ⟨rfl, rfl⟩) | (go_at_call 26; refine H3.out.mono ?_; rintro e w1 ⟨rfl, rfl⟩))
      go_ret2
      exact ⟨rfl, rfl⟩
    · rw [if_neg (fun h => c2 h.2)]
      have d1 : decide (col < 1) = false := by simp; omega
      have d2 : decide ((st : Int) - bg + 1 < col) = true := by simp; omega
      clear c2
      go_enter Try.func16, Try.ntmps16
      go_wp2_with (first | (go_at_call 25; refine H1.out.mono ?_; rintro e w1 ⟨rfl, rfl⟩) | (go_at_call 24; refine H2.out.mono ?_; rintro e w1 ⟨rfl, rfl⟩) | (go_at_call 26; refine H3.out.mono ?_; rintro e w1 ⟨rfl, rfl⟩))
      go_ret2
      exact ⟨rfl, rfl⟩
  · rw [if_neg (fun h => c1 h.1)]
    have d1 : decide (col < 1) = true := by simp; omega
    clear c1
    go_enter Try.func16, Try.ntmps16
    go_wp2_with (first | (go_at_call 25; refine H1.out.mono ?_; rintro e w1 ⟨rfl, rfl⟩) | (go_at_call 24; refine H2.out.mono ?_; rintro e w1 ⟨rfl, rfl⟩) | (go_at_call 26; refine H3.out.mono ?_; rintro e w1 ⟨rfl, rfl⟩))
    go_ret2
    exact ⟨rfl, rfl⟩

theorem line_nil (line : Int) (w : World) :
    Calls Try.prog 18 #[.pointer none, .int .i64 line] w fun e w' => e = .returned (.tuple #[.string ⟨#[]⟩, .int .i64 1]) ∧ w = w' := by
  go_enter Try.func18, Try.ntmps18
  go_wp2
  go_ret2
  exact ⟨rfl, rfl⟩

theorem line_no (b cap : Nat) (s : ByteArray) (o : Option Addr) (line : Int) (w : World) (I : IsLines w b s o cap) (hs : s.size ≤ 8796093022208) (h : line < 1 ∨ ((brk s.data.toList).length : Int) + 1 < line) :
    Calls Try.prog 18 #[.pointer (some ⟨b, 0, none⟩), .int .i64 line] w fun e w' => e = .returned (.tuple #[.string ⟨#[]⟩, .int .i64 10]) ∧ w = w' := by
  have hb := brk_len_le s.data.toList
  rw [size_toList] at hb
  have hn := has_no b _ cap o line w I.behind (by omega) h
  have H := Lib.hid hn
  clear hn h I
  go_enter Try.func18, Try.ntmps18
  go_wp2_with (go_at_call 25; refine H.out.mono ?_; rintro e w1 ⟨rfl, rfl⟩)
  go_ret2
  exact ⟨rfl, rfl⟩

set_option maxHeartbeats 1000000 in
theorem line_in (b cap m : Nat) (s : ByteArray) (o : Option Addr) (line : Int) (w : World) (I : IsLines w b s o cap) (hs : s.size ≤ 8796093022208) (hl : line = m + 1) (hm : m ≤ (brk s.data.toList).length) :
    Calls Try.prog 18 #[.pointer (some ⟨b, 0, none⟩), .int .i64 line] w fun e w' =>
      e = .returned (.tuple #[.string (s.extract (beg s.data.toList m) (stop s.data.toList m)), .int .i64 0]) ∧ Below w.heap.size w w' := by
  have hb := brk_len_le s.data.toList
  rw [size_toList] at hb
  have hbs := beg_le_stop s.data.toList m hm
  rw [size_toList] at hbs
  have h1 := has_yes b _ cap o line w I.behind (by omega) (by omega) (by omega)
  have h2 : ∀ n, Calls Try.prog 24 #[.pointer (some ⟨b, 0, none⟩), .int .i64 line] (w.drewN n) fun e w' => e = .returned (.int .i64 (beg s.data.toList m : Nat)) ∧ w.drewN n = w' :=
    fun n => begin_any b cap m s o line _ (I.below (below_drewN (Below.refl _ _) n)) hs hl hm
  have h3 : ∀ n, Calls Try.prog 26 #[.pointer (some ⟨b, 0, none⟩), .int .i64 line] (w.drewN n) fun e w' => e = .returned (.int .i64 (stop s.data.toList m : Nat)) ∧ w.drewN n = w' :=
    fun n => end_any b cap m s o line _ (I.below (below_drewN (Below.refl _ _) n)) hs hl hm
  have h4 : ∀ n, Calls Try.prog 20 #[.string (s.extract (beg s.data.toList m) (stop s.data.toList m))] (w.drewN n) fun e w' => e = .returned (.string (s.extract (beg s.data.toList m) (stop s.data.toList m))) ∧ Below w.heap.size w w' :=
    fun n => (clone_any _ (w.drewN n) (by rw [ByteArray.size_extract]; omega)).mono fun _ _ ⟨he, hB⟩ => ⟨he, (below_drewN (Below.refl _ _) n).trans hB⟩
  have t0 := I.text
  have H1 := Lib.hid h1
  have H2 := Lib.hid h2
  have H3 := Lib.hid h3
  have H4 := Lib.hid h4
  clear h1 h2 h3 h4 I hl hm hb
  generalize beg s.data.toList m = bg at *
  generalize stop s.data.toList m = st at *
  go_enter Try.func18, Try.ntmps18
  go_wp2_with (go_at_call 25; refine H1.out.mono ?_; rintro e w1 ⟨rfl, rfl⟩)
  go_region_with (first | (go_at_call 24; refine (H2.out 1).mono ?_; rintro e w1 ⟨rfl, rfl⟩) | (go_at_call 26; refine (H3.out 1).mono ?_; rintro e w1 ⟨rfl, rfl⟩) | (go_at_call 20; refine (H4.out 1).mono ?_; rintro e w1 ⟨rfl, hB⟩))
  all_goals go_wp2
  all_goals go_ret2
  all_goals exact ⟨rfl, hB⟩

end Go.Proofs.Ytakjajpacilnaaa
