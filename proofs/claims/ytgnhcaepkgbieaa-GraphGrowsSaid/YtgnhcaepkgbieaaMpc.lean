/-
  The library's search in a list of names that came in; a copy of a name; a sort of names of the call's own. Condition: at most a million names.
-/
import Derived.Test.YtgnhcaepkgbieaaMpb
import Derived.Test.YtgnhcaepkgbieaaShl
import Derived.Sort.OwnSorted
namespace Go.Proofs.Ytgnhcaepkgbieaa
open Go.RowKit
open Go.Sort (Holds)

set_option maxRecDepth 20000 in
set_option maxHeartbeats 1000000 in
/-- The place of a name, or none. -/
theorem indexS_any (xs : List ByteArray) (o : Option Addr) (c : Nat) (s : ByteArray) (w : World) (h : AtS w o xs) (hl : xs.length ≤ 1000000) :
    Calls Try.prog 50 #[.slice o xs.length c, .string s] w fun e w' => (∃ i : Int, e = .returned (.int .i64 i) ∧ decide (0 ≤ i) = decide (nm s ∈ nms xs)) ∧ w' = w := by
  have HX := Lib.hid h
  clear h
  go_enter Try.func50, Try.ntmps50
  go_wp2
  go_loopw [8] (fun i wr => ∃ j : Nat, i = .int .i64 (j : Nat) ∧ Hid (j ≤ xs.length) ∧ Hid (s ∉ xs.take j) ∧ wr = w) (fun i _ => xs.length - (RowKit.intOf i).toNat)
  case atStart => exact ⟨0, rfl, Nat.zero_le _, by show _ ∉ _; simp, rfl⟩
  case round =>
    obtain ⟨j, rfl, HJ, HN, rfl⟩ := hrel
    by_cases hj : j < xs.length
    · have hj' : ((j : Int) < (xs.length : Int)) := by omega
      have hj0 : (0 : Int) ≤ (j : Int) := by omega
      have hj1 : (j : Int) + 1 ≤ 9223372036854775807 := by omega
      have hj2 : -9223372036854775808 ≤ (j : Int) + 1 := by omega
      obtain ⟨a, ho, hc⟩ := HX.out j _ (List.getElem?_eq_getElem hj)
      subst ho
      have hq := hc
      have HT : Hid (xs.take (j + 1) = xs.take j ++ [xs[j]]) := by show _ = _; rw [List.take_add_one, List.getElem?_eq_getElem hj]; rfl
      have he := nm_eq s xs[j]
      have HM := Lib.hid (List.getElem_mem hj)
      clear hc
      generalize xs[j] = y at *
      by_cases hy : nm s = nm y
      · rw [decide_eq_true hy] at he
        go_wp2
        go_ret
        refine ⟨⟨(j : Int), rfl, ?_⟩, rfl⟩
        rw [decide_eq_true (nms_mem.2 (nm_inj hy ▸ HM.out)), decide_eq_true hj0]
      · rw [decide_eq_false hy] at he
        go_wp2
        case roundEnd =>
          refine ⟨⟨j + 1, by push_cast; rfl, by show _ ≤ _; omega, ?_, by first | rfl | trivial⟩, by simp [RowKit.intOf]; omega⟩
          show s ∉ _
          rw [HT.out]
          intro hs
          rcases List.mem_append.1 hs with hs | hs
          · exact HN.out hs
          · exact hy (congrArg nm (List.mem_singleton.1 hs))
    · have hj' : ¬ ((j : Int) < (xs.length : Int)) := by omega
      have hn := HN.out
      rw [List.take_of_length_le (by omega)] at hn
      have HN2 := Lib.hid hn
      clear hn
      go_wp2
      go_ret
      refine ⟨⟨-1, rfl, ?_⟩, rfl⟩
      exact ⟨fun h => absurd h (by omega), fun h => absurd (nms_mem.1 h) HN2.out⟩
/-- Is a name among others? -/
theorem containsS_any (xs : List ByteArray) (o : Option Addr) (c : Nat) (s : ByteArray) (w : World) (h : AtS w o xs) (hl : xs.length ≤ 1000000) :
    Calls Try.prog 39 #[.slice o xs.length c, .string s] w fun e w' => e = .returned (.bool (decide (nm s ∈ nms xs))) ∧ w' = w := by
  have HI := Lib.hid (indexS_any xs o c s w h hl)
  clear h
  go_enter Try.func39, Try.ntmps39
  go_wp2_with fail
  refine HI.out.mono ?_
  rintro e w1 ⟨⟨i, rfl, hi⟩, hw⟩
  have hw' := hw.symm
  subst hw'
  have HI2 := Lib.hid hi
  clear HI hi hw
  go_wp2
  go_ret
  exact ⟨by rw [← HI2.out]; rfl, rfl⟩
/-- A copy of a name. -/
theorem cloneS_any (s : ByteArray) (w : World) (h : s.size ≤ 281474976710656) :
    Calls Try.prog 37 #[.string s] w fun e w' => e = .returned (.string s) ∧ Below w.heap.size w w' := by
  have HC := Lib.hid (Try.stringslite_Clone s w h)
  clear h
  go_enter Try.func37, Try.ntmps37
  go_wp2_with fail
  refine HC.out.mono ?_
  rintro e w1 ⟨rfl, hB⟩
  have HB := Lib.hid hB
  clear HC hB
  go_wp2
  go_ret
  exact ⟨rfl, HB.out⟩

/-! ### sorted -/
def leN (a b : Nm) : Bool := decide (a ≤ b)
theorem le_less : ∀ (a b : Nm), (a ≤ b) ↔ lessN b a = false := by
  intro a b
  rw [← List.not_lt]
  have key : ∀ (a b : Nm), a < b ↔ lessN a b = true := by
    intro a
    induction a with
    | nil =>
      intro b
      cases b with
      | nil => simp [lessN, Go.Op.bytesLess]
      | cons y s => simp [lessN, Go.Op.bytesLess]
    | cons x r ih =>
      intro b
      cases b with
      | nil => simp [lessN, Go.Op.bytesLess]
      | cons y s =>
        rw [List.cons_lt_cons_iff, ih s]
        simp only [lessN, Go.Op.bytesLess, Bool.or_eq_true, Bool.and_eq_true, decide_eq_true_eq, beq_iff_eq]
  rw [key, Bool.not_eq_true]
/-- A sort of names, each once. -/
theorem sort_srt {l : List Nm} (hd : l.Nodup) : Srt (l.mergeSort leN) ∧ ∀ a, a ∈ l.mergeSort leN ↔ a ∈ l := by
  have tr : ∀ a b c : Nm, leN a b = true → leN b c = true → leN a c = true := fun a b c h1 h2 => by simp only [leN, decide_eq_true_eq] at *; exact List.le_trans h1 h2
  have to : ∀ a b : Nm, (leN a b || leN b a) = true := fun a b => by simp only [leN, Bool.or_eq_true, decide_eq_true_eq]; exact List.le_total a b
  have hp := List.mergeSort_perm l leN
  have hs := List.pairwise_mergeSort tr to l
  have hn : (l.mergeSort leN).Nodup := hp.nodup_iff.2 hd
  refine ⟨?_, fun a => hp.mem_iff⟩
  generalize l.mergeSort leN = m at hs hn
  induction m with
  | nil => trivial
  | cons x r ih =>
    rw [List.pairwise_cons] at hs
    refine ⟨fun b hb => ?_, ih hs.2 (List.nodup_cons.1 hn).2⟩
    have h1 := hs.1 b hb
    rw [leN, decide_eq_true_eq, le_less] at h1
    cases h2 : lessN x b with
    | true => rfl
    | false => exact absurd (less_tri h2 h1) fun e => (List.nodup_cons.1 hn).1 (e ▸ hb)
theorem enc_nms (l : List ByteArray) : sC l = (nms l).map encStr := by
  unfold sC nms
  rw [List.map_map]
  refine List.map_congr_left fun s _ => ?_
  show Value.string s = encStr (nm s)
  unfold encStr nm
  simp
def bys (l : List Nm) : List ByteArray := l.map fun x => ⟨x.toArray⟩
theorem nms_bys (l : List Nm) : nms (bys l) = l := by
  unfold nms bys nm
  rw [List.map_map]
  conv => rhs; rw [← List.map_id l]
  refine List.map_congr_left fun x _ => ?_
  simp
theorem bys_len (l : List Nm) : (bys l).length = l.length := List.length_map ..
/-- The library's sort of names of the call's own. -/
theorem sortS_any (L : List ByteArray) (o : Option Addr) (n cap base : Nat) (w : World) (hn : L.length = n) (hrow : w.ownsRow base 9 1 (.slice o n cap) n (sC L)) (hs : n ≤ 1000000) :
    Calls Try.prog 38 #[.slice o n cap] w fun e w' => e = .returned (.tuple #[]) ∧ w'.ownsRow base 9 1 (.slice o n cap) n (sC (bys ((nms L).mergeSort leN))) ∧
      Turn (fun k => (Value.slice o n cap).ownBlock = some k) w w' := by
  have hr := hrow
  rcases hrow.2 with ⟨hv, h0⟩ | ⟨g, cap', cur, hv, hbase, hb, h1, h2, h3, h4⟩
  · obtain ⟨rfl, rfl, rfl⟩ : o = none ∧ n = 0 ∧ cap = 0 := by simpa using hv
    refine (Try.slices_Sort_string_none none 0 w).mono ?_
    rintro e w' ⟨rfl, rfl⟩
    have hL : L = [] := List.length_eq_zero_iff.1 hn
    subst hL
    have e : (nms []).mergeSort leN = [] := by simp [nms]
    rw [e]
    exact ⟨rfl, hr, Turn.refl _ _⟩
  · obtain ⟨rfl, rfl⟩ : o = some ⟨g, 0, none⟩ ∧ cap = cap' := by simpa using hv
    rw [Nat.mul_one, enc_nms] at h4
    have hl : (nms L).length = n := by unfold nms; rw [List.length_map]; exact hn
    have hH : Holds encStr w g 0 (nms L).toArray := Go.holds_of_block hb (by rw [hl]; exact h4)
    have hgl : g < w.heap.size := (Array.getElem?_eq_some_iff.1 hb).1
    have hc := Try.slices_Sort_string g 0 cap (nms L) w hH hgl (by omega)
    rw [hl] at hc
    refine hc.mono ?_
    rintro e w' ⟨rfl, m, os, rfl⟩
    refine ⟨rfl, ?_, (Turn.of_grown (grownBy_sorted _)).mono fun k _ hk => by simpa [Value.ownBlock] using hk.symm⟩
    have hml : ((nms L).mergeSort fun x y => decide (x ≤ y)).length = (nms L).length := by simp
    have := ownsRow_sorted (cap := cap) (n := m) (os := os) (base := base) hml hbase hb (by rw [hl]; exact h1) h2 (by simpa using h3)
    rw [enc_nms, nms_bys]
    rw [hl] at this
    exact this

end Go.Proofs.Ytgnhcaepkgbieaa
