/-
  The walk of Place. Conditions: the Lines lie in memory as 'IsLines' says; the text has fewer than 2^43 bytes.
-/
import Derived.Test.YtakjajpacilnaaaSmall
namespace Go.Proofs.Ytakjajpacilnaaa
open Go.RowKit Go.Lib Go.Sort

theorem box2 (w : World) (u v : Value) (t1 t2 : TypeId) : ((w.alloc (.cells #[u] t1)).alloc (.cells #[v] t2)).cell? ⟨w.heap.size, 0, none⟩ = some u ∧ ((w.alloc (.cells #[u] t1)).alloc (.cells #[v] t2)).cell? ⟨w.heap.size + 1, 0, none⟩ = some v := by
  constructor
  · exact cell_alloc_sl _ (cell_new_sl w _ _)
  · have := cell_new_sl (w.alloc (.cells #[u] t1)) v t2; rwa [World.size_alloc] at this

set_option maxHeartbeats 400000 in
theorem place_nil (n : Int) (w : World) :
    Calls Try.prog 12 #[.pointer none, .int .i64 n] w fun e w' => e = .returned (.tuple #[.int .i64 0, .int .i64 0, .int .i64 1]) ∧ Below w.heap.size w w' := by
  go_enter Try.func12, Try.ntmps12
  go_wp2
  go_ret3
  exact ⟨rfl, ((Below.refl _ _).alloc (Nat.le_refl _) _).alloc (by simp) _⟩

set_option maxHeartbeats 400000 in
theorem place_low (b : Nat) (n : Int) (w : World) (h : n < 0) :
    Calls Try.prog 12 #[.pointer (some ⟨b, 0, none⟩), .int .i64 n] w fun e w' => e = .returned (.tuple #[.int .i64 0, .int .i64 0, .int .i64 10]) ∧ Below w.heap.size w w' := by
  obtain ⟨c1, c2⟩ := box2 w (.pointer (some ⟨b, 0, none⟩)) (.int .i64 n) 23 3
  have hd : decide (n < 0) = true := by simpa using h
  go_enter Try.func12, Try.ntmps12
  go_wp2
  go_quiet (fail)
  go_wp2
  go_ret3
  exact ⟨rfl, below_drewN (((Below.refl _ _).alloc (Nat.le_refl _) _).alloc (by simp) _) _⟩

set_option maxHeartbeats 400000 in
theorem place_high (b : Nat) (s : ByteArray) (n : Int) (w : World) (ht : w.cell? ⟨b, 0, none⟩ = some (.string s)) (h0 : 0 ≤ n) (h : (s.size : Int) < n) :
    Calls Try.prog 12 #[.pointer (some ⟨b, 0, none⟩), .int .i64 n] w fun e w' => e = .returned (.tuple #[.int .i64 0, .int .i64 0, .int .i64 10]) ∧ Below w.heap.size w w' := by
  obtain ⟨c1, c2⟩ := box2 w (.pointer (some ⟨b, 0, none⟩)) (.int .i64 n) 23 3
  have c3 : ((w.alloc (.cells #[.pointer (some ⟨b, 0, none⟩)] 23)).alloc (.cells #[.int .i64 n] 3)).cell? ⟨b, 0, none⟩ = some (.string s) := cell_alloc_sl _ (cell_alloc_sl _ ht)
  have hd : decide (n < 0) = false := by simp; omega
  have hd2 : decide ((s.size : Int) < n) = true := by simpa using h
  clear ht
  go_enter Try.func12, Try.ntmps12
  go_wp2
  go_quiet (fail)
  go_wp2
  go_ret3
  exact ⟨rfl, below_drewN (((Below.refl _ _).alloc (Nat.le_refl _) _).alloc (by simp) _) _⟩

set_option maxHeartbeats 1000000 in
/-- The closure that Place hands to sort.Search. -/
theorem closure_any (ba bx b g m cap i x : Nat) (k : Int) (W : World) (hi : i < m)
    (ha : W.cell? ⟨ba, 0, none⟩ = some (.pointer (some ⟨b, 0, none⟩))) (hx : W.cell? ⟨bx, 0, none⟩ = some (.int .i64 k)) (hb : W.cell? ⟨b, 1, none⟩ = some (.slice (some ⟨g, 0, none⟩) m cap)) (hc : W.cell? ⟨g, i, none⟩ = some (.int .i64 (x : Nat))) :
    Calls Try.prog 23 (#[.int .i64 (i : Nat)] ++ #[.pointer (some ⟨ba, 0, none⟩), .pointer (some ⟨bx, 0, none⟩)]) W fun e w' => e = .returned (.bool (decide (k < (x : Int)))) ∧ ∃ q, w' = W.drewN q := by
  have hiz : (i : Int) < (m : Int) := by omega
  go_enter Try.func23, Try.ntmps23
  go_wp2
  go_quiet (fail)
  go_wp2
  go_ret
  exact ⟨rfl, _, rfl⟩

theorem search_any (ba bx b cap k : Nat) (s : ByteArray) (o : Option Addr) (W : World) (I : IsLines W b s o cap) (hs : s.size ≤ 8796093022208) (hk : k ≤ s.size)
    (ha : W.cell? ⟨ba, 0, none⟩ = some (.pointer (some ⟨b, 0, none⟩))) (hx : W.cell? ⟨bx, 0, none⟩ = some (.int .i64 (k : Nat))) :
    Calls Try.prog 22 #[.int .i64 (brk s.data.toList).length, .func (.func 23) #[] #[.pointer (some ⟨ba, 0, none⟩), .pointer (some ⟨bx, 0, none⟩)]] W fun e w' => e = .returned (.int .i64 (cnt s.data.toList k : Nat)) ∧ Below W.heap.size W w' := by
  have hb := brk_len_le s.data.toList
  rw [size_toList] at hb
  have eg : ∀ args w, (callFunc 23 args).run Try.prog w = .ok (.enter 23 args) w := enters_of Try.func23 (by kernel_rfl) rfl
  have bl : ∀ {a v}, W.cell? a = some v → a.block < W.heap.size := fun h => World.block_lt_of_cell? _ _ h
  have hS := Any.sort_Search searchLays 23 #[.pointer (some ⟨ba, 0, none⟩), .pointer (some ⟨bx, 0, none⟩)] (brk s.data.toList).length (fun i => decide ((k : Int) < ((brk s.data.toList).getD i 0 : Nat))) W eg (by omega)
    (fun m os i hi => by
      obtain ⟨g, rfl, hg⟩ := I.ints i hi
      exact (closure_any ba bx b g _ cap i _ k _ hi (cell_grown (bl ha) ha m os) (cell_grown (bl hx) hx m os) (cell_grown (bl I.behind) I.behind m os) (cell_grown (bl hg) hg m os)).mono
        fun _ _ ⟨he, q, hq⟩ => ⟨he, q, #[], by rw [hq, grow_empty]⟩)
    (fun x y hxy hy h => by
      have : (brk s.data.toList).getD x 0 ≤ (brk s.data.toList).getD y 0 := by
        rcases Nat.lt_or_eq_of_le hxy with h1 | h1
        · exact Nat.le_of_lt (brk_lt _ _ _ h1 hy)
        · rw [h1]; exact Nat.le_refl _
      simp only [decide_eq_true_eq] at h ⊢; omega)
  rw [count_range s.data.toList k (by rw [size_toList]; exact hk)] at hS
  exact hS.mono fun _ _ ⟨he, q, os, hw⟩ => ⟨he, by rw [hw]; exact below_grown_sl _ W q os (Nat.le_refl _)⟩

set_option maxHeartbeats 1000000 in
theorem place_any (b cap k : Nat) (s : ByteArray) (o : Option Addr) (w : World) (I : IsLines w b s o cap) (hs : s.size ≤ 8796093022208) (hk : k ≤ s.size) :
    Calls Try.prog 12 #[.pointer (some ⟨b, 0, none⟩), .int .i64 (k : Nat)] w fun e w' =>
      e = .returned (.tuple #[.int .i64 (1 + (cnt s.data.toList k : Int)), .int .i64 ((k : Int) - beg s.data.toList (cnt s.data.toList k) + 1), .int .i64 0]) ∧ Below w.heap.size w w' := by
  obtain ⟨c1, c2⟩ := box2 w (.pointer (some ⟨b, 0, none⟩)) (.int .i64 (k : Nat)) 23 3
  have I0 := I.below (((Below.refl _ _).alloc (Nat.le_refl _) (.cells #[.pointer (some ⟨b, 0, none⟩)] 23)).alloc (by simp) (.cells #[.int .i64 (k : Nat)] 3))
  have hc := cnt_le s.data.toList k
  have hb := brk_len_le s.data.toList
  have hw := within_cnt s.data.toList k (by rw [size_toList]; exact hk)
  rw [size_toList] at hb
  have hcall : ∀ q, Calls Try.prog 22 #[.int .i64 (brk s.data.toList).length, .func (.func 23) #[] #[.pointer (some ⟨w.heap.size, 0, none⟩), .pointer (some ⟨w.heap.size + 1, 0, none⟩)]] (((w.alloc (.cells #[.pointer (some ⟨b, 0, none⟩)] 23)).alloc (.cells #[.int .i64 (k : Nat)] 3)).drewN q) fun e w' =>
      e = .returned (.int .i64 (cnt s.data.toList k : Nat)) ∧ Below (w.heap.size + 2) ((w.alloc (.cells #[.pointer (some ⟨b, 0, none⟩)] 23)).alloc (.cells #[.int .i64 (k : Nat)] 3)) w' := fun q =>
    (search_any w.heap.size (w.heap.size + 1) b cap k s o _ (I0.below (below_drewN (Below.refl _ _) q)) hs hk c1 c2).mono fun _ _ ⟨he, hB⟩ => ⟨he, (below_drewN (Below.refl _ _) q).trans (hB.mono (by simp))⟩
  have t0 := I0.text
  have b0 := I0.behind
  have hbeg : ∀ w1, Below (w.heap.size + 2) ((w.alloc (.cells #[.pointer (some ⟨b, 0, none⟩)] 23)).alloc (.cells #[.int .i64 (k : Nat)] 3)) w1 → ∀ n,
      Calls Try.prog 24 #[.pointer (some ⟨b, 0, none⟩), .int .i64 (1 + (cnt s.data.toList k : Int))] (w1.drewN n) fun e w' => e = .returned (.int .i64 (beg s.data.toList (cnt s.data.toList k) : Nat)) ∧ w' = w1.drewN n := fun w1 h n =>
    (begin_any b cap (cnt s.data.toList k) s o _ _ (I0.below ((h.mono (by simp)).trans (below_drewN (Below.refl _ _) n))) hs (by omega) hc).mono fun _ _ ⟨he, hw⟩ => ⟨he, hw.symm⟩
  have hd : decide (((k : Nat) : Int) < 0) = false := by simp
  have hd2 : decide ((s.size : Int) < (k : Nat)) = false := by simp; omega
  clear I0 I
  generalize cnt s.data.toList k = c at *
  generalize beg s.data.toList c = bg at *
  have HC := Lib.hid hcall
  have HB := Lib.hid hbeg
  clear hcall hbeg
  go_enter Try.func12, Try.ntmps12
  go_wp2
  go_quiet (fail)
  go_wp2_with (go_at_call 22; refine (HC.out _).mono ?_; rintro e w1 ⟨rfl, hB⟩)
  have d1 : w1.cell? ⟨w.heap.size, 0, none⟩ = some (.pointer (some ⟨b, 0, none⟩)) := (hB.cell (by simp)).trans c1
  have d2 : w1.cell? ⟨w.heap.size + 1, 0, none⟩ = some (.int .i64 (k : Nat)) := (hB.cell (by simp)).trans c2
  have HB := Lib.hid (HB.out w1 hB)
  have HB2 := Lib.hid hB
  clear hB
  go_wp2
  go_quiet ((go_at_call 24; exact Calls.quiet_of_same (HB.out _)))
  go_wp2
  go_ret3
  exact ⟨rfl, below_drewN ((((Below.refl _ _).alloc (Nat.le_refl _) _).alloc (by simp) _).trans (HB2.out.mono (by omega))) _⟩

end Go.Proofs.Ytakjajpacilnaaa
