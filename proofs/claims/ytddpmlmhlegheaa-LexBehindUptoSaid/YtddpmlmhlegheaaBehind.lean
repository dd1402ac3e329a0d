/-
  LexBehind answers true for every text and number, where what it reads is of bulk at most 1,048,576.
-/
import Derived.Test.YtddpmlmhlegheaaEnds
import Derived.Test.YtddpmlmhlegheaaConcat
import Derived.ProofKit
import Derived.OpenShut
import Derived.JoinedCond
namespace Go.Proofs.Ytddpmlmhlegheaa.lexBehind
open Go.ChangeShapes Go.WideShapes Go.ChangeAt Go.RowKit
open Go.ChangeMaps (open_string shut_string)

theorem own : ownKnob Try.prog.godebug = none := by kernel_rfl

/-- So many bytes 10. -/
def tens (k : Nat) : ByteArray := ⟨(List.replicate k 10).toArray⟩

theorem tens_list (k : Nat) : (tens k).data.toList = List.replicate k 10 := by simp [tens]

theorem tens_succ (k : Nat) : tens k ++ ⟨#[10]⟩ = tens (k + 1) := by
  apply ByteArray.ext
  rw [ByteArray.data_append]
  apply Array.toList_inj.1
  rw [Array.toList_append]
  unfold tens
  simp only [List.replicate_succ']

theorem tens_size (k : Nat) : (tens k).size = k := by rw [← size_toList, tens_list, List.length_replicate]

theorem tens_app (k : Nat) (s : ByteArray) : (tens k ++ s : ByteArray).data.toList = List.replicate k 10 ++ s.data.toList := by
  rw [ByteArray.data_append, Array.toList_append, tens_list]

theorem tail_app (s : ByteArray) : (s ++ ⟨#[10, 47, 47, 32, 34]⟩ : ByteArray).data.toList = s.data.toList ++ [10, 47, 47, 32, 34] := by
  rw [ByteArray.data_append, Array.toList_append]

theorem app_sz (s t : ByteArray) : (s ++ t : ByteArray).size = s.size + t.size := ByteArray.size_append

/-- What the number is made to. -/
theorem made (n : Int) : ∃ m : Nat, m < 50 ∧ ((n < 0 ∧ -(n + 1).tmod 50 = (m : Nat)) ∨ (0 ≤ n ∧ n.tmod 50 = (m : Nat))) := by
  by_cases h : n < 0
  · obtain ⟨k, hk⟩ : ∃ k : Nat, -(n + 1) = k := ⟨(-(n + 1)).toNat, by omega⟩
    refine ⟨k % 50, by omega, Or.inl ⟨h, ?_⟩⟩
    rw [← Int.neg_tmod, hk]; rfl
  · obtain ⟨k, rfl⟩ : ∃ k : Nat, n = k := ⟨n.toNat, by omega⟩
    exact ⟨k % 50, by omega, Or.inr ⟨by omega, rfl⟩⟩

set_option maxHeartbeats 4000000 in
theorem walk_bad (s : ByteArray) (n : Int) (w : World) (hs : s.size ≤ 1048576) (hn : -9223372036854775808 ≤ n ∧ n < 9223372036854775808) (m : Nat) (hm : m < 50)
    (hnm : (n < 0 ∧ -(n + 1).tmod 50 = (m : Nat)) ∨ (0 ≤ n ∧ n.tmod 50 = (m : Nat))) (a : Nat) (c : Int) (hl : lexed s.data.toList = ([], a, c)) (hc : c ≠ 0) (ha : a ≤ 1048576)
    (hl2 : lexed (tens m ++ s : ByteArray).data.toList = ([], a + m, c)) :
    Calls Try.prog 7 #[.string s, .int .i64 n] w fun e w' => e = .returned (.bool true) ∧ Below w.heap.size w w' := by
  have hz := app_sz (tens m) s
  have ht := tens_size m
  have HA := Lib.hid (fun w => all_at s [] a c hl w (by omega))
  have hM := fun w => all_at (tens m ++ s) [] _ c hl2 w (by omega)
  simp only [show ((a + m : Nat) : Int) = (a : Int) + (m : Nat) by omega] at hM
  have HM := Lib.hid hM
  have hc2 : (c == 0) = false := beq_eq_false_iff_ne.2 hc
  have HZ := Lib.hid ht
  clear hl hl2 hM hz hc ht
  rcases hnm with ⟨h0, hm2⟩ | ⟨h0, hm2⟩
  · have hd : decide (n < 0) = true := by simpa using h0
    go_enter Try.func7, Try.ntmps7
    go_wp2_with fail
    refine (awake_any _).mono ?_
    rintro e w1 ⟨rfl, hB⟩
    have B1 := Lib.hid hB
    clear hB
    go_wp2
    go_loop [6, 7] (fun out i => ∃ k : Nat, k ≤ m ∧ i = .int .i64 (k : Nat) ∧ out = .string (tens k)) (fun _ i => m - (RowKit.intOf i).toNat)
    case atStart => exact ⟨0, Nat.zero_le _, rfl, rfl⟩
    case round =>
      obtain ⟨k, hk, rfl, rfl⟩ := hrel
      by_cases hlt : k < m
      · have hkz := tens_size k
        go_wp2
        go_round
        case rel => exact ⟨k + 1, hlt, by go_num, by rw [tens_succ]⟩
        case measure => simp [RowKit.intOf]; omega
      · obtain rfl : k = m := by omega
        have ht := HZ.out
        go_wp2_with fail
        refine (HA.out _).mono ?_
        rintro e w2 ⟨o, cap, rfl, _, hB, _⟩
        have B2 := Lib.hid (B1.out.trans (hB.mono B1.out.size))
        clear hB B1
        go_wp2_with fail
        refine (HM.out _).mono ?_
        rintro e w3 ⟨o3, cap3, rfl, _, hB, _⟩
        have B3 := Lib.hid (below_box B2.out B2.out.size hB)
        have hz3 : w2.heap.size + 1 ≤ w3.heap.size := by have := hB.size; simpa using this
        have hbx := (Below.refl w3.heap.size w3).alloc (Nat.le_refl _) (.cells #[.int .i64 ((a : Int) + (k : Nat)), .int .i64 c] 25)
        have d0 : (w3.alloc (.cells #[.int .i64 ((a : Int) + (k : Nat)), .int .i64 c] 25)).cell? ⟨w2.heap.size, 0, none⟩ = some (.int .i64 (a : Nat)) := (hbx.cell (p := ⟨w2.heap.size, 0, none⟩) (by simp only; omega)).trans (box25 hB).1
        have d1 : (w3.alloc (.cells #[.int .i64 ((a : Int) + (k : Nat)), .int .i64 c] 25)).cell? ⟨w2.heap.size, 1, none⟩ = some (.int .i64 c) := (hbx.cell (p := ⟨w2.heap.size, 1, none⟩) (by simp only; omega)).trans (box25 hB).2
        have hz4 := B3.out.size
        clear hB B2 hbx
        go_wp2
        go_ret
        exact ⟨by simp, B3.out.alloc hz4 _⟩
  · have hd : decide (n < 0) = false := by simpa using h0
    go_enter Try.func7, Try.ntmps7
    go_wp2_with fail
    refine (awake_any _).mono ?_
    rintro e w1 ⟨rfl, hB⟩
    have B1 := Lib.hid hB
    clear hB
    go_wp2
    go_loop [6, 7] (fun out i => ∃ k : Nat, k ≤ m ∧ i = .int .i64 (k : Nat) ∧ out = .string (tens k)) (fun _ i => m - (RowKit.intOf i).toNat)
    case atStart => exact ⟨0, Nat.zero_le _, rfl, rfl⟩
    case round =>
      obtain ⟨k, hk, rfl, rfl⟩ := hrel
      by_cases hlt : k < m
      · have hkz := tens_size k
        go_wp2
        go_round
        case rel => exact ⟨k + 1, hlt, by go_num, by rw [tens_succ]⟩
        case measure => simp [RowKit.intOf]; omega
      · obtain rfl : k = m := by omega
        have ht := HZ.out
        go_wp2_with fail
        refine (HA.out _).mono ?_
        rintro e w2 ⟨o, cap, rfl, _, hB, _⟩
        have B2 := Lib.hid (B1.out.trans (hB.mono B1.out.size))
        clear hB B1
        go_wp2_with fail
        refine (HM.out _).mono ?_
        rintro e w3 ⟨o3, cap3, rfl, _, hB, _⟩
        have B3 := Lib.hid (below_box B2.out B2.out.size hB)
        have hz3 : w2.heap.size + 1 ≤ w3.heap.size := by have := hB.size; simpa using this
        have hbx := (Below.refl w3.heap.size w3).alloc (Nat.le_refl _) (.cells #[.int .i64 ((a : Int) + (k : Nat)), .int .i64 c] 25)
        have d0 : (w3.alloc (.cells #[.int .i64 ((a : Int) + (k : Nat)), .int .i64 c] 25)).cell? ⟨w2.heap.size, 0, none⟩ = some (.int .i64 (a : Nat)) := (hbx.cell (p := ⟨w2.heap.size, 0, none⟩) (by simp only; omega)).trans (box25 hB).1
        have d1 : (w3.alloc (.cells #[.int .i64 ((a : Int) + (k : Nat)), .int .i64 c] 25)).cell? ⟨w2.heap.size, 1, none⟩ = some (.int .i64 c) := (hbx.cell (p := ⟨w2.heap.size, 1, none⟩) (by simp only; omega)).trans (box25 hB).2
        have hz4 := B3.out.size
        clear hB B2 hbx
        go_wp2
        go_ret
        exact ⟨by simp, B3.out.alloc hz4 _⟩

set_option maxRecDepth 20000 in
set_option maxHeartbeats 8000000 in
theorem walk_good (s : ByteArray) (n : Int) (w : World) (hs : s.size ≤ 1048576) (hn : -9223372036854775808 ≤ n ∧ n < 9223372036854775808) (m : Nat) (hm : m < 50)
    (hnm : (n < 0 ∧ -(n + 1).tmod 50 = (m : Nat)) ∨ (0 ≤ n ∧ n.tmod 50 = (m : Nat))) (ts ks : List Tok) (hl : lexed s.data.toList = (ts, 0, 0))
    (hl2 : lexed (tens m ++ s : ByteArray).data.toList = (ts.map (sh m), 0, 0)) (hl3 : lexed (s ++ ⟨#[10, 47, 47, 32, 34]⟩ : ByteArray).data.toList = (ks, 0, 0))
    (hkey : ks.map key = ts.map key) (hok : ∀ t ∈ ts, okTok 1048576 t) :
    Calls Try.prog 7 #[.string s, .int .i64 n] w fun e w' => e = .returned (.bool true) ∧ Below w.heap.size w w' := by
  have hz := app_sz (tens m) s
  have hz2 := app_sz s ⟨#[10, 47, 47, 32, 34]⟩
  have h5 : (⟨#[10, 47, 47, 32, 34]⟩ : ByteArray).size = 5 := rfl
  have ht := tens_size m
  have hlen := lexed_len hl
  rw [size_toList] at hlen
  have hku : ks.length = ts.length := by have := congrArg List.length hkey; simpa using this
  have HA := Lib.hid (fun w => all_at s ts 0 0 hl w (by omega))
  have hM := fun w => all_at (tens m ++ s) _ 0 0 hl2 w (by omega)
  simp only [List.length_map] at hM
  have HM := Lib.hid hM
  have hK := fun w => all_at (s ++ ⟨#[10, 47, 47, 32, 34]⟩) ks 0 0 hl3 w (by omega)
  simp only [hku] at hK
  have HK := Lib.hid hK
  have hS := fun o o' c c' w (h1 : AtToks w o ks) (h2 : AtToks w o' ts) => alike_any o o' c c' ks ts w h1 h2 hkey (by omega)
  simp only [hku] at hS
  have HS := Lib.hid hS
  have HZ := Lib.hid ht
  have HO := Lib.hid hok
  clear hl hl2 hl3 hM hK hS hz hz2 ht hku hok hkey h5
  rcases hnm with ⟨h0, hm2⟩ | ⟨h0, hm2⟩
  · have hd : decide (n < 0) = true := by simpa using h0
    go_enter Try.func7, Try.ntmps7
    go_wp2_with fail
    refine (awake_any _).mono ?_
    rintro e w1 ⟨rfl, hB⟩
    have B1 := Lib.hid hB
    clear hB
    go_wp2
    go_loop [6, 7] (fun out i => ∃ k : Nat, k ≤ m ∧ i = .int .i64 (k : Nat) ∧ out = .string (tens k)) (fun _ i => m - (RowKit.intOf i).toNat)
    case atStart => exact ⟨0, Nat.zero_le _, rfl, rfl⟩
    case round =>
      obtain ⟨k, hk, rfl, rfl⟩ := hrel
      by_cases hlt : k < m
      · have hkz := tens_size k
        go_wp2
        go_round
        case rel => exact ⟨k + 1, hlt, by go_num, by rw [tens_succ]⟩
        case measure => simp [RowKit.intOf]; omega
      · obtain rfl : k = m := by omega
        have ht := HZ.out
        go_wp2_with fail
        refine (HA.out _).mono ?_
        rintro e w2 ⟨o, cap, rfl, hT, hB, _⟩
        have B2 := Lib.hid (B1.out.trans (hB.mono B1.out.size))
        have hb22 : Below w2.heap.size w2 (w2.alloc (.cells #[.int .i64 0, .int .i64 0] 25)) := (Below.refl _ _).alloc (Nat.le_refl _) _
        have T2 := Lib.hid (hT.below hb22)
        clear hB B1 hT hb22
        go_wp2_with fail
        refine (HM.out _).mono ?_
        rintro e w3 ⟨o3, cap3, rfl, hT, hB, _⟩
        have B3 := Lib.hid (below_box B2.out B2.out.size hB)
        have hz3 : w2.heap.size + 1 ≤ w3.heap.size := by have := hB.size; simpa using this
        have hb33 : Below w3.heap.size w3 (w3.alloc (.cells #[.int .i64 0, .int .i64 0] 25)) := (Below.refl _ _).alloc (Nat.le_refl _) _
        have T3 := Lib.hid ((T2.out.below hB).below hb33)
        have U3 := Lib.hid (hT.below hb33)
        have d1 : (w3.alloc (.cells #[.int .i64 0, .int .i64 0] 25)).cell? ⟨w2.heap.size, 0, none⟩ = some (.int .i64 0) := (hb33.cell (p := ⟨w2.heap.size, 0, none⟩) (by simp only; omega)).trans (box25 hB).1
        have d2 : (w3.alloc (.cells #[.int .i64 0, .int .i64 0] 25)).cell? ⟨w2.heap.size, 1, none⟩ = some (.int .i64 0) := (hb33.cell (p := ⟨w2.heap.size, 1, none⟩) (by simp only; omega)).trans (box25 hB).2
        clear hB B2 T2 hT hb33
        go_wp2_with fail
        refine (HK.out _).mono ?_
        rintro e w4 ⟨o4, cap4, rfl, hT, hB, _⟩
        have B4 := Lib.hid (below_box B3.out B3.out.size hB)
        have hz4 : w3.heap.size + 1 ≤ w4.heap.size := by have := hB.size; simpa using this
        have hb44 : Below w4.heap.size w4 (w4.alloc (.cells #[.int .i64 0, .int .i64 0] 25)) := (Below.refl _ _).alloc (Nat.le_refl _) _
        have T4 := Lib.hid ((T3.out.below hB).below hb44)
        have U4 := Lib.hid ((U3.out.below hB).below hb44)
        have V4 := Lib.hid (hT.below hb44)
        have E4 := Lib.hid (box25 hB)
        clear hB B3 T3 U3 hT hb44 d1 d2
        go_wp2_with fail
        refine (HS.out _ _ _ _ _ V4.out T4.out).mono ?_
        rintro e w5 ⟨rfl, hB⟩
        have B5 := Lib.hid (below_box B4.out B4.out.size hB)
        have T5 := Lib.hid (T4.out.below hB)
        have U5 := Lib.hid (U4.out.below hB)
        have F5 := box25 hB
        have b5 : Below w4.heap.size w4 w5 := below_box (Below.refl _ _) (Nat.le_refl _) hB
        have f0 := F5.1
        have f1 := F5.2
        have e0 : w5.cell? ⟨w3.heap.size, 0, none⟩ = some (.int .i64 0) := (b5.cell (p := ⟨w3.heap.size, 0, none⟩) (by simp only; omega)).trans E4.out.1
        have e1 : w5.cell? ⟨w3.heap.size, 1, none⟩ = some (.int .i64 0) := (b5.cell (p := ⟨w3.heap.size, 1, none⟩) (by simp only; omega)).trans E4.out.2
        clear hB B4 T4 U4 V4 E4 F5 b5
        go_wp2
        go_loopw [15] (fun i wr => ∃ j : Nat, j ≤ ts.length ∧ i = .int .i64 (j : Nat) ∧ Hid (∃ q, wr = w5.drewN q)) (fun i _ => ts.length - (RowKit.intOf i).toNat)
        case atStart => exact ⟨0, Nat.zero_le _, rfl, Lib.hid ⟨0, rfl⟩⟩
        case round =>
          obtain ⟨j, hj, rfl, HB⟩ := hrel
          by_cases hlt : j < ts.length
          · obtain ⟨g, off, rfl, a0, a1, a2, a3⟩ := (AtToks.drew T5.out HB.out).tok (k := j) (List.getElem?_eq_getElem hlt)
            obtain ⟨g', off', rfl, b0, b1, b2, b3⟩ := (AtToks.drew U5.out HB.out).tok (k := j) (t := sh k ts[j]) (by rw [List.getElem?_map, List.getElem?_eq_getElem hlt]; rfl)
            have hok := HO.out ts[j] (List.getElem_mem hlt)
            have hp := hok.1
            have hq := hok.2.1
            simp only [sh] at b0 b1 b2 b3
            clear hok a3 b3
            generalize ts[j] = t at *
            have hkz : (j : Int) < (ts.length : Nat) := by omega
            have hk0 : (0 : Int) ≤ (j : Nat) := by omega
            go_wp2
            go_quiet (fail)
            go_wp2
            go_roundw
            case rel => exact ⟨j + 1, hlt, by go_num, Lib.hid (drew_more HB.out _)⟩
            case measure => simp [RowKit.intOf]; omega
          · go_wp2
            go_ret
            obtain ⟨q, hq⟩ := HB.out
            subst hq
            exact ⟨rfl, below_drewN B5.out q⟩
  · have hd : decide (n < 0) = false := by simpa using h0
    go_enter Try.func7, Try.ntmps7
    go_wp2_with fail
    refine (awake_any _).mono ?_
    rintro e w1 ⟨rfl, hB⟩
    have B1 := Lib.hid hB
    clear hB
    go_wp2
    go_loop [6, 7] (fun out i => ∃ k : Nat, k ≤ m ∧ i = .int .i64 (k : Nat) ∧ out = .string (tens k)) (fun _ i => m - (RowKit.intOf i).toNat)
    case atStart => exact ⟨0, Nat.zero_le _, rfl, rfl⟩
    case round =>
      obtain ⟨k, hk, rfl, rfl⟩ := hrel
      by_cases hlt : k < m
      · have hkz := tens_size k
        go_wp2
        go_round
        case rel => exact ⟨k + 1, hlt, by go_num, by rw [tens_succ]⟩
        case measure => simp [RowKit.intOf]; omega
      · obtain rfl : k = m := by omega
        have ht := HZ.out
        go_wp2_with fail
        refine (HA.out _).mono ?_
        rintro e w2 ⟨o, cap, rfl, hT, hB, _⟩
        have B2 := Lib.hid (B1.out.trans (hB.mono B1.out.size))
        have hb22 : Below w2.heap.size w2 (w2.alloc (.cells #[.int .i64 0, .int .i64 0] 25)) := (Below.refl _ _).alloc (Nat.le_refl _) _
        have T2 := Lib.hid (hT.below hb22)
        clear hB B1 hT hb22
        go_wp2_with fail
        refine (HM.out _).mono ?_
        rintro e w3 ⟨o3, cap3, rfl, hT, hB, _⟩
        have B3 := Lib.hid (below_box B2.out B2.out.size hB)
        have hz3 : w2.heap.size + 1 ≤ w3.heap.size := by have := hB.size; simpa using this
        have hb33 : Below w3.heap.size w3 (w3.alloc (.cells #[.int .i64 0, .int .i64 0] 25)) := (Below.refl _ _).alloc (Nat.le_refl _) _
        have T3 := Lib.hid ((T2.out.below hB).below hb33)
        have U3 := Lib.hid (hT.below hb33)
        have d1 : (w3.alloc (.cells #[.int .i64 0, .int .i64 0] 25)).cell? ⟨w2.heap.size, 0, none⟩ = some (.int .i64 0) := (hb33.cell (p := ⟨w2.heap.size, 0, none⟩) (by simp only; omega)).trans (box25 hB).1
        have d2 : (w3.alloc (.cells #[.int .i64 0, .int .i64 0] 25)).cell? ⟨w2.heap.size, 1, none⟩ = some (.int .i64 0) := (hb33.cell (p := ⟨w2.heap.size, 1, none⟩) (by simp only; omega)).trans (box25 hB).2
        clear hB B2 T2 hT hb33
        go_wp2_with fail
        refine (HK.out _).mono ?_
        rintro e w4 ⟨o4, cap4, rfl, hT, hB, _⟩
        have B4 := Lib.hid (below_box B3.out B3.out.size hB)
        have hz4 : w3.heap.size + 1 ≤ w4.heap.size := by have := hB.size; simpa using this
        have hb44 : Below w4.heap.size w4 (w4.alloc (.cells #[.int .i64 0, .int .i64 0] 25)) := (Below.refl _ _).alloc (Nat.le_refl _) _
        have T4 := Lib.hid ((T3.out.below hB).below hb44)
        have U4 := Lib.hid ((U3.out.below hB).below hb44)
        have V4 := Lib.hid (hT.below hb44)
        have E4 := Lib.hid (box25 hB)
        clear hB B3 T3 U3 hT hb44 d1 d2
        go_wp2_with fail
        refine (HS.out _ _ _ _ _ V4.out T4.out).mono ?_
        rintro e w5 ⟨rfl, hB⟩
        have B5 := Lib.hid (below_box B4.out B4.out.size hB)
        have T5 := Lib.hid (T4.out.below hB)
        have U5 := Lib.hid (U4.out.below hB)
        have F5 := box25 hB
        have b5 : Below w4.heap.size w4 w5 := below_box (Below.refl _ _) (Nat.le_refl _) hB
        have f0 := F5.1
        have f1 := F5.2
        have e0 : w5.cell? ⟨w3.heap.size, 0, none⟩ = some (.int .i64 0) := (b5.cell (p := ⟨w3.heap.size, 0, none⟩) (by simp only; omega)).trans E4.out.1
        have e1 : w5.cell? ⟨w3.heap.size, 1, none⟩ = some (.int .i64 0) := (b5.cell (p := ⟨w3.heap.size, 1, none⟩) (by simp only; omega)).trans E4.out.2
        clear hB B4 T4 U4 V4 E4 F5 b5
        go_wp2
        go_loopw [15] (fun i wr => ∃ j : Nat, j ≤ ts.length ∧ i = .int .i64 (j : Nat) ∧ Hid (∃ q, wr = w5.drewN q)) (fun i _ => ts.length - (RowKit.intOf i).toNat)
        case atStart => exact ⟨0, Nat.zero_le _, rfl, Lib.hid ⟨0, rfl⟩⟩
        case round =>
          obtain ⟨j, hj, rfl, HB⟩ := hrel
          by_cases hlt : j < ts.length
          · obtain ⟨g, off, rfl, a0, a1, a2, a3⟩ := (AtToks.drew T5.out HB.out).tok (k := j) (List.getElem?_eq_getElem hlt)
            obtain ⟨g', off', rfl, b0, b1, b2, b3⟩ := (AtToks.drew U5.out HB.out).tok (k := j) (t := sh k ts[j]) (by rw [List.getElem?_map, List.getElem?_eq_getElem hlt]; rfl)
            have hok := HO.out ts[j] (List.getElem_mem hlt)
            have hp := hok.1
            have hq := hok.2.1
            simp only [sh] at b0 b1 b2 b3
            clear hok a3 b3
            generalize ts[j] = t at *
            have hkz : (j : Int) < (ts.length : Nat) := by omega
            have hk0 : (0 : Int) ≤ (j : Nat) := by omega
            go_wp2
            go_quiet (fail)
            go_wp2
            go_roundw
            case rel => exact ⟨j + 1, hlt, by go_num, Lib.hid (drew_more HB.out _)⟩
            case measure => simp [RowKit.intOf]; omega
          · go_wp2
            go_ret
            obtain ⟨q, hq⟩ := HB.out
            subst hq
            exact ⟨rfl, below_drewN B5.out q⟩

theorem int_range {n : Int} (h : (Lit.int .i64 n).wf = true) : -9223372036854775808 ≤ n ∧ n < 9223372036854775808 := by
  have h2 : IntKind.i64.min ≤ n ∧ n ≤ IntKind.i64.max := by
    unfold Lit.wf at h
    simpa only [Bool.and_eq_true, decide_eq_true_eq] using h
  rw [show IntKind.i64.min = -9223372036854775808 by decide, show IntKind.i64.max = 9223372036854775807 by decide] at h2
  omega

theorem walk (s : ByteArray) (n : Int) (w : World) (hs : s.size ≤ 1048576) (hn : -9223372036854775808 ≤ n ∧ n < 9223372036854775808) :
    Calls Try.prog 7 #[.string s, .int .i64 n] w fun e w' => e = .returned (.bool true) ∧ Below w.heap.size w w' := by
  obtain ⟨m, hm, hnm⟩ := made n
  have ls : s.data.toList.length ≤ 1048576 := by rw [size_toList]; exact hs
  have ok : ∀ t ∈ toks s.data.toList, okTok 1048576 t := fun t h => by
    obtain ⟨h1, h2, h3, h4⟩ := toks_ok _ t h
    exact ⟨by omega, by omega, by omega, h4⟩
  have hb := bad_tens m s.data.toList
  rw [← tens_app] at hb
  rcases lexed_cases s.data.toList with ⟨h, hl⟩ | ⟨a, c, h, hl⟩
  · rw [h] at hb
    have hc := toks_comment _ h
    have hb2 : bad (toks (s ++ ⟨#[10, 47, 47, 32, 34]⟩ : ByteArray).data.toList) 0 = none := by rw [tail_app]; exact bad_key _ _ 0 hc.symm h
    have hl2 := lexed_good' hb
    rw [tens_app, toks_tens] at hl2
    rw [← tens_app] at hl2
    refine walk_good s n w hs hn m hm hnm _ _ hl hl2 (lexed_good' hb2) ?_ ok
    rw [tail_app]; exact hc
  · rw [h] at hb
    obtain ⟨hc, t, ht, hp, _⟩ := bad_some h
    have := (ok t ht).1
    exact walk_bad s n w hs hn m hm hnm a c hl hc (by omega) (lexed_bad' hb)

theorem contract (H : Type) (enc : TypeId × Value → H) (W : World) (base : Nat) (args : Array Value) (ds gs : List (DataW H)) (before : List MemPlace)
    (hval : ∀ (j : Nat) t v, Try.f7.params[j]? = some t → args[j]? = some v → Value.okWide Try.prog W .any base t v)
    (hW : DataW.Whole enc Try.prog Try.f7.params.toList Rows.lexBehindSpec.vars false W args.toList ds gs before) (hk : Rows.uptoSmall H (ds ++ gs) = true) :
    Calls Try.prog 7 args W fun e W' => ∃ v, e = .returned v ∧ Rows.lexBehindSpec.post enc Try.prog Try.f7 false true false false W args v W' := by
  have hW' := hW
  obtain ⟨p, q, hA0, hV, rfl, hfz, hnd⟩ := hW
  have hA : DataW.TrodAll enc Try.prog W 0 (fun _ => true) true Try.f7.params.toList args.toList ds p := hA0
  rw [Try.params7] at hA hval
  obtain ⟨v0, vs0, d0, ds0, p0, q0, hargs, rfl, rfl, h0, r0⟩ := trodAll_cons hA
  obtain ⟨v1, vs1, d1, ds1, p1, q1, rfl, rfl, rfl, h1, r1⟩ := trodAll_cons r0
  obtain ⟨rfl, rfl, rfl⟩ := trodAll_nil r1
  obtain rfl : args = #[v0, v1] := by cases args; simp_all
  obtain ⟨rfl, rfl⟩ := trodVars_none hV
  obtain ⟨a0, rfl, rfl, rfl, w0⟩ := open_string Try.underlying9 (hval 0 9 v0 rfl rfl) h0
  obtain ⟨a1, rfl, rfl, rfl, w1⟩ := open_int Try.underlying3 (hval 1 3 v1 rfl rfl) h1
  clear hA0
  simp only [List.append_nil] at hW' hk
  refine (walk a0 a1 W (short hk) (int_range w1)).mono fun e W' ⟨he, hg⟩ => ?_
  subst he
  exact ⟨_, rfl, _, _, _, [], [], [], hW', (trodAll_cons_mk (shut_bool Try.underlying4 _) trodAll_mk0), (trodAll_cons_mk (shut_string Try.underlying9 w0) (trodAll_cons_mk (shut_int Try.underlying3 w1) trodAll_mk0)), rfl, hg.frame _, fun h => by cases h⟩

set_option maxRecDepth 100000 in
theorem lifted (os : Os) (started : os.Started) (H : Type) (enc : TypeId × Value → H) (F : Stop.Interp) :
    ReturnsInHanded {} Try.checked os 7 .any ((Rows.OpenSpec.upto Rows.lexBehindSpec).pre6 enc Try.prog Try.f7 Rows.lexBehindUptoRow.domain false) (((Rows.OpenSpec.upto Rows.lexBehindSpec).at F).post enc Try.prog Try.f7 false true false false) := by
  refine returnsInHanded_of_cond (C := Try.checked) (s := Rows.OpenSpec.upto Rows.lexBehindSpec) (k := Rows.uptoSmall) rfl own started (by kernel_rfl) Try.func7
    (OpenSpec.witness (enc := enc) (C := Try.checked) (s := Rows.OpenSpec.upto Rows.lexBehindSpec) (k := Rows.uptoSmall) rfl false ⟨#[], #[.string .empty, .int .i64 0], []⟩ 8 (by kernel_rfl) (by kernel_rfl) (by kernel_rfl)
      (x := ([.lit (.string []), .lit (.int .i64 0)], [], [])) (by kernel_rfl) rfl (by kernel_rfl)) ?_
  intro W base args ds gs before hval hW _ hk _
  exact contract H enc W base args ds gs before hval hW hk

/-- LexBehind answers true, where what it reads is of bulk at most 1,048,576. -/
theorem proved : Rows.LexBehindUptoSaid :=
  OpenClaim.holds_of_cond 7 Try.f7 rfl rfl rfl rfl rfl rfl rfl ⟨rfl, rfl, rfl, rfl, rfl⟩ rfl rfl rfl rfl rfl (by kernel_rfl) Try.func7 (by kernel_rfl)
    (of_decide_eq_true (by kernel_rfl)) (by unfold Func.isWrapper; first | (rw [if_pos (by decide +kernel)]; kernel_rfl) | (rw [if_neg (by decide +kernel)]; exact ⟨rfl, rfl⟩))
    (fun os started H enc _ F => lifted os started H enc F)

end Go.Proofs.Ytddpmlmhlegheaa.lexBehind
