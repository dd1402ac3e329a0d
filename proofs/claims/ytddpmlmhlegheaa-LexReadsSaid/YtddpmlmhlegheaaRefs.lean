/-
  The walks of the document's own small functions: in, name, number, quoted, Word, Skip. Condition: the text has at most 2^48 bytes.
-/
import Derived.Test.YtddpmlmhlegheaaSkip
import Derived.Test.YtddpmlmhlegheaaKeep
namespace Go.Proofs.Ytddpmlmhlegheaa
open Go.RowKit
open Go.Lib hiding intOf

theorem bne10 {c : UInt8} (h : c ≠ 10) : (((c.toNat : Nat) : Int) != 10) = true := by rw [bne, beq_eq_false_iff_ne.2 (fun e => u8_ne h (by show c.toNat = 10; omega))]; rfl
theorem bne47 {c : UInt8} (h : c ≠ 47) : (((c.toNat : Nat) : Int) != 47) = true := by rw [bne, beq_eq_false_iff_ne.2 (fun e => u8_ne h (by show c.toNat = 47; omega))]; rfl

theorem refIn_any (c : UInt8) (s : ByteArray) (w : World) (hs : s.size ≤ 9223372036854775807) :
    Calls Try.prog 31 #[.int .u8 (c.toNat : Nat), .string s] w fun e w' => e = .returned (.bool (decide (c ∈ s.data.toList))) ∧ w = w' := by
  obtain ⟨B, hB⟩ : ∃ B, decide (c ∈ s.data.toList) = B := ⟨_, rfl⟩
  rw [hB]
  have HB : Hid (decide (c ∈ s.data.toList.drop 0) = B) := Lib.hid (by rw [List.drop_zero]; exact hB)
  clear hB
  go_enter Try.func31, Try.ntmps31
  go_wp2
  go_loop [5] (fun i => ∃ k : Nat, k ≤ s.size ∧ i = .int .i64 (k : Nat) ∧ Hid (decide (c ∈ s.data.toList.drop k) = B)) (fun i => s.size - (RowKit.intOf i).toNat)
  case atStart => exact ⟨0, Nat.zero_le _, rfl, HB⟩
  case round =>
    obtain ⟨k, hk, rfl, HK⟩ := hrel
    clear HB
    by_cases hlt : k < s.size
    · have hd := drop_cons s k hlt
      by_cases he : s[k] = c
      · have hb : (((s[k].toNat : Nat) : Int) == ((c.toNat : Nat) : Int)) = true := by rw [u8_beq, he]; simp
        have hB : true = B := by have h := HK.out; rw [hd, he] at h; simpa using h
        subst hB
        clear hd he
        go_wp2
        go_ret
        exact ⟨rfl, rfl⟩
      · have hb : (((s[k].toNat : Nat) : Int) == ((c.toNat : Nat) : Int)) = false := by rw [u8_beq]; simpa using he
        have HN : Hid (decide (c ∈ s.data.toList.drop (k + 1)) = B) := by
          have h := HK.out
          rw [hd] at h
          have he' : ¬ c = s[k] := fun e => he e.symm
          simp only [List.mem_cons, he', false_or] at h
          exact Lib.hid h
        clear hd he
        go_wp2
        go_round
        case rel => exact ⟨k + 1, hlt, by go_num, HN⟩
        case measure => simp [RowKit.intOf]; omega
    · have hB : false = B := by have h := HK.out; rw [drop_nil s k (by omega)] at h; simpa using h
      subst hB
      go_wp2
      go_ret
      exact ⟨rfl, rfl⟩

theorem refName_any (s : ByteArray) (k : Nat) (w : World) (hs : s.size ≤ 9223372036854775807) (hk : k ≤ s.size) :
    Calls Try.prog 32 #[.string s, .int .i64 (k : Nat)] w fun e w' => e = .returned (.int .i64 ((k + run nam (s.data.toList.drop k) : Nat) : Int)) ∧ w = w' := by
  have hle := run_le nam (s.data.toList.drop k)
  rw [List.length_drop, size_toList] at hle
  generalize hT : k + run nam (s.data.toList.drop k) = T
  have HT := Lib.hid hT
  have hTs : T ≤ s.size := by omega
  clear hT hle
  go_enter Try.func32, Try.ntmps32
  go_wp2
  go_loop [1] (fun i => ∃ j : Nat, j ≤ s.size ∧ i = .int .i64 (j : Nat) ∧ Hid (j + run nam (s.data.toList.drop j) = T)) (fun i => s.size - (RowKit.intOf i).toNat)
  case atStart => exact ⟨k, hk, rfl, HT⟩
  case round =>
    obtain ⟨j, hj, rfl, HJ⟩ := hrel
    by_cases hlt : j < s.size
    · have HL := Lib.hid (refLetter_any s[j] w)
      have HD := Lib.hid (refDigit_any s[j] w)
      by_cases hp : nam s[j] = true
      · have HN : Hid (j + 1 + run nam (s.data.toList.drop (j + 1)) = T) := by
          have h := HJ.out
          rw [drop_cons s j hlt, run_hit _ hp] at h
          exact Lib.hid (by omega)
        unfold nam at hp
        generalize ltr s[j] = x at *
        generalize dgt s[j] = y at *
        cases x
        · have hy : y = true := by simpa using hp
          subst hy
          clear hp
          go_wp2_with (first | (go_at_call 29; refine HL.out.mono ?_; rintro e w1 ⟨rfl, rfl⟩) | (go_at_call 30; refine HD.out.mono ?_; rintro e w1 ⟨rfl, rfl⟩))
          go_round
          case rel => exact ⟨j + 1, hlt, by go_num, HN⟩
          case measure => simp [RowKit.intOf]; omega
        · clear hp
          go_wp2_with (first | (go_at_call 29; refine HL.out.mono ?_; rintro e w1 ⟨rfl, rfl⟩) | (go_at_call 30; refine HD.out.mono ?_; rintro e w1 ⟨rfl, rfl⟩))
          go_round
          case rel => exact ⟨j + 1, hlt, by go_num, HN⟩
          case measure => simp [RowKit.intOf]; omega
      · have hp : nam s[j] = false := by simpa using hp
        have HN : Hid (j = T) := by
          have h := HJ.out
          rw [drop_cons s j hlt, run_miss _ hp] at h
          exact Lib.hid (by omega)
        obtain ⟨hx, hy⟩ : ltr s[j] = false ∧ dgt s[j] = false := by unfold nam at hp; simpa using hp
        rw [hx] at HL
        rw [hy] at HD
        clear hp hx hy
        obtain rfl : j = T := HN.out
        go_wp2_with (first | (go_at_call 29; refine HL.out.mono ?_; rintro e w1 ⟨rfl, rfl⟩) | (go_at_call 30; refine HD.out.mono ?_; rintro e w1 ⟨rfl, rfl⟩))
        go_ret
        exact ⟨rfl, rfl⟩
    · have HN : Hid (j = T) := by
        have h := HJ.out
        rw [drop_nil s j (by omega)] at h
        exact Lib.hid (by simpa [run] using h)
      obtain rfl : j = T := HN.out
      go_wp2
      go_ret
      exact ⟨rfl, rfl⟩

theorem refNumber_any (s : ByteArray) (k : Nat) (w : World) (hs : s.size ≤ 9223372036854775807) (hk : k ≤ s.size) :
    Calls Try.prog 33 #[.string s, .int .i64 (k : Nat)] w fun e w' => e = .returned (.int .i64 ((k + run dgt (s.data.toList.drop k) : Nat) : Int)) ∧ w = w' := by
  have hle := run_le dgt (s.data.toList.drop k)
  rw [List.length_drop, size_toList] at hle
  generalize hT : k + run dgt (s.data.toList.drop k) = T
  have HT := Lib.hid hT
  have hTs : T ≤ s.size := by omega
  clear hT hle
  go_enter Try.func33, Try.ntmps33
  go_wp2
  go_loop [1] (fun i => ∃ j : Nat, j ≤ s.size ∧ i = .int .i64 (j : Nat) ∧ Hid (j + run dgt (s.data.toList.drop j) = T)) (fun i => s.size - (RowKit.intOf i).toNat)
  case atStart => exact ⟨k, hk, rfl, HT⟩
  case round =>
    obtain ⟨j, hj, rfl, HJ⟩ := hrel
    by_cases hlt : j < s.size
    · have HD := Lib.hid (refDigit_any s[j] w)
      by_cases hp : dgt s[j] = true
      · have HN : Hid (j + 1 + run dgt (s.data.toList.drop (j + 1)) = T) := by
          have h := HJ.out
          rw [drop_cons s j hlt, run_hit _ hp] at h
          exact Lib.hid (by omega)
        rw [hp] at HD
        clear hp
        go_wp2_with (go_at_call 30; refine HD.out.mono ?_; rintro e w1 ⟨rfl, rfl⟩)
        go_round
        case rel => exact ⟨j + 1, hlt, by go_num, HN⟩
        case measure => simp [RowKit.intOf]; omega
      · have hp : dgt s[j] = false := by simpa using hp
        have HN : Hid (j = T) := by
          have h := HJ.out
          rw [drop_cons s j hlt, run_miss _ hp] at h
          exact Lib.hid (by omega)
        rw [hp] at HD
        clear hp
        obtain rfl : j = T := HN.out
        go_wp2_with (go_at_call 30; refine HD.out.mono ?_; rintro e w1 ⟨rfl, rfl⟩)
        go_ret
        exact ⟨rfl, rfl⟩
    · have HN : Hid (j = T) := by
        have h := HJ.out
        rw [drop_nil s j (by omega)] at h
        exact Lib.hid (by simpa [run] using h)
      obtain rfl : j = T := HN.out
      go_wp2
      go_ret
      exact ⟨rfl, rfl⟩

/-- How many bytes the text has whose first quote stands ahead of these, so many of its own having been passed; below 0: it may not be. -/
def qf : List UInt8 → Nat → Int
  | [], _ => -1
  | c :: r, n => if c = 34 then (if 200 < n then -1 else (n : Int) + 2) else if pla c then qf r (n + 1) else -1

theorem pla_facts (n : Nat) : (decide (32 ≤ n) && decide (n ≤ 126)) = !(decide ((n : Int) < 32) || decide ((126 : Int) < n)) := by
  by_cases h1 : 32 ≤ n <;> by_cases h2 : n ≤ 126 <;> simp [h1, h2] <;> omega

theorem refQuoted_any (s : ByteArray) (k : Nat) (w : World) (hs : s.size ≤ 9223372036854775807) (hk : k < s.size) :
    Calls Try.prog 34 #[.string s, .int .i64 (k : Nat)] w fun e w' => e = .returned (.int .i64 (if qf (s.data.toList.drop (k + 1)) 0 < 0 then -1 else (k : Int) + qf (s.data.toList.drop (k + 1)) 0)) ∧ w = w' := by
  obtain ⟨T, hT⟩ : ∃ T, qf (s.data.toList.drop (k + 1)) 0 = T := ⟨_, rfl⟩
  rw [hT]
  have HT : Hid (qf (s.data.toList.drop (k + 1)) (k + 1 - k - 1) = T) := Lib.hid (by rw [show k + 1 - k - 1 = 0 by omega]; exact hT)
  clear hT
  obtain ⟨R, hR⟩ : ∃ R, (if T < 0 then -1 else (k : Int) + T) = R := ⟨_, rfl⟩
  rw [hR]
  have HR := Lib.hid hR
  clear hR
  go_enter Try.func34, Try.ntmps34
  go_wp2
  go_loop [5] (fun i => ∃ j : Nat, k + 1 ≤ j ∧ j ≤ s.size ∧ i = .int .i64 (j : Nat) ∧ Hid (qf (s.data.toList.drop j) (j - k - 1) = T)) (fun i => s.size - (RowKit.intOf i).toNat)
  case atStart => exact ⟨k + 1, Nat.le_refl _, hk, by go_num, HT⟩
  case round =>
    obtain ⟨j, hkj, hj, rfl, HJ⟩ := hrel
    clear HT
    by_cases hlt : j < s.size
    · have hd := drop_cons s j hlt
      by_cases hq : s[j] = 34
      · have hb : (((s[j].toNat : Nat) : Int) == 34) = true := by rw [hq]; rfl
        by_cases hn : 200 < j - k - 1
        · have hTT : -1 = T := by have h := HJ.out; rw [hd, hq] at h; simp only [qf, if_true] at h; rwa [if_pos hn] at h
          subst hTT
          obtain rfl : -1 = R := by have h := HR.out; rwa [if_pos (by omega)] at h
          have hdd : decide ((200 : Int) < (j : Int) - k - 1) = true := by simp; omega
          clear hd hq hn HJ
          go_wp2
          go_ret
          exact ⟨rfl, rfl⟩
        · have hTT : ((j - k - 1 : Nat) : Int) + 2 = T := by have h := HJ.out; rw [hd, hq] at h; simp only [qf, if_true] at h; rwa [if_neg hn] at h
          have hdd : decide ((200 : Int) < (j : Int) - k - 1) = false := by simp; omega
          obtain rfl : (j : Int) + 1 = R := by have h := HR.out; rw [if_neg (by omega)] at h; omega
          clear hd hq hn HJ hTT
          go_wp2
          go_ret
          exact ⟨rfl, rfl⟩
      · have hb : (((s[j].toNat : Nat) : Int) == 34) = false := beq_eq_false_iff_ne.2 fun e => u8_ne hq (by show s[j].toNat = 34; omega)
        by_cases hp : pla s[j] = true
        · have HN : Hid (qf (s.data.toList.drop (j + 1)) (j + 1 - k - 1) = T) := by
            have h := HJ.out
            rw [hd] at h
            simp only [qf, if_neg hq, hp, if_true] at h
            rw [show j + 1 - k - 1 = j - k - 1 + 1 by omega]
            exact Lib.hid h
          unfold pla at hp
          have f1 : decide (((s[j].toNat : Nat) : Int) < 32) = false := by simp at hp ⊢; omega
          have f2 : decide ((126 : Int) < ((s[j].toNat : Nat) : Int)) = false := by simp at hp ⊢; omega
          clear hd hq hp HJ
          go_wp2
          go_round
          case rel => exact ⟨j + 1, by omega, hlt, by go_num, HN⟩
          case measure => simp [RowKit.intOf]; omega
        · have hp : pla s[j] = false := by simpa using hp
          have hTT : -1 = T := by
            have h := HJ.out
            rw [hd] at h
            simpa only [qf, if_neg hq, hp, Bool.false_eq_true, if_false] using h
          subst hTT
          obtain rfl : -1 = R := by have h := HR.out; rwa [if_pos (by omega)] at h
          unfold pla at hp
          by_cases hlow : s[j].toNat < 32
          · have f1 : decide (((s[j].toNat : Nat) : Int) < 32) = true := by simp; omega
            clear hd hq hp HJ
            go_wp2
            go_ret
            exact ⟨rfl, rfl⟩
          · have f1 : decide (((s[j].toNat : Nat) : Int) < 32) = false := by simp; omega
            have f2 : decide ((126 : Int) < ((s[j].toNat : Nat) : Int)) = true := by simp at hp ⊢; omega
            clear hd hq hp HJ
            go_wp2
            go_ret
            exact ⟨rfl, rfl⟩
    · have hTT : -1 = T := by have h := HJ.out; rw [drop_nil s j (by omega)] at h; exact h
      subst hTT
      obtain rfl : -1 = R := by have h := HR.out; rwa [if_pos (by omega)] at h
      go_wp2
      go_ret
      exact ⟨rfl, rfl⟩

/-- The words as the document's own function lays them. -/
def kwVals : Array Value := (kws.map fun l => Value.string ⟨l.toArray⟩).toArray

theorem kwVals_at (k : Nat) (hk : k < 17) : kwVals[k]? = some (.string ⟨(kws.getD k []).toArray⟩) := by
  have hl : kws.length = 17 := rfl
  unfold kwVals
  rw [List.getElem?_toArray, List.getElem?_map, List.getD_eq_getElem?_getD, List.getElem?_eq_getElem (by omega)]
  rfl

theorem kws_drop (k : Nat) (hk : k < 17) : kws.drop k = kws.getD k [] :: kws.drop (k + 1) := by
  have hl : kws.length = 17 := rfl
  rw [List.drop_eq_getElem_cons (by omega), List.getD_eq_getElem?_getD, List.getElem?_eq_getElem (by omega)]
  rfl

theorem arr_eq (l : List UInt8) (s : ByteArray) : ((⟨l.toArray⟩ : ByteArray) = s) ↔ l = s.data.toList := by
  constructor
  · rintro rfl; rfl
  · rintro rfl; rfl

set_option maxHeartbeats 1000000 in
theorem refWord_any (s : ByteArray) (w : World) :
    Calls Try.prog 14 #[.string s] w fun e w' => e = .returned (.bool (kw s.data.toList)) ∧ Below w.heap.size w w' := by
  obtain ⟨B, hB⟩ : ∃ B, kw s.data.toList = B := ⟨_, rfl⟩
  rw [hB]
  have HB : Hid (decide (s.data.toList ∈ kws.drop 0) = B) := Lib.hid hB
  clear hB
  obtain ⟨W0, hW0⟩ : ∃ W0, w.alloc (.cells kwVals 9) = W0 := ⟨_, rfl⟩
  have hcell : ∀ k, k < 17 → W0.cell? ⟨w.heap.size, k, none⟩ = some (.string ⟨(kws.getD k []).toArray⟩) := fun k hk => by rw [← hW0]; exact ((Blk.new w 9 kwVals).cell k).trans (kwVals_at k hk)
  have hbel : Below w.heap.size w W0 := by rw [← hW0]; exact (Below.refl _ _).alloc (Nat.le_refl _) _
  have HC := Lib.hid hcell
  have HL := Lib.hid hbel
  have HW := Lib.hid hW0
  clear hcell hbel hW0
  go_enter Try.func14, Try.ntmps14
  go_wp2
  change Code.wp Try.prog _ _ _ (w.alloc (.cells kwVals 9))
  rw [HW.out]
  go_loop [4] (fun i => ∃ k : Nat, k ≤ 17 ∧ i = .int .i64 (k : Nat) ∧ Hid (decide (s.data.toList ∈ kws.drop k) = B)) (fun i => 17 - (RowKit.intOf i).toNat)
  case atStart => exact ⟨0, Nat.zero_le _, rfl, HB⟩
  case round =>
    obtain ⟨k, hk, rfl, HK⟩ := hrel
    clear HB HW
    by_cases hlt : k < 17
    · have hc := HC.out k hlt
      have hd := kws_drop k hlt
      generalize kws.getD k [] = l at *
      by_cases he : l = s.data.toList
      · have hB : true = B := by have h := HK.out; rw [hd, he] at h; simpa using h
        subst hB
        subst he
        clear hd HK
        go_wp2
        go_ret
        exact ⟨rfl, HL.out⟩
      · have HN : Hid (decide (s.data.toList ∈ kws.drop (k + 1)) = B) := by
          have h := HK.out
          rw [hd] at h
          have he' : ¬ s.data.toList = l := fun e => he e.symm
          simp only [List.mem_cons, he', false_or] at h
          exact Lib.hid h
        have hne : ¬ ((⟨l.toArray⟩ : ByteArray) = s) := fun e => he ((arr_eq l s).1 e)
        have hne2 : ((⟨l.toArray⟩ : ByteArray).toList == s.toList) = false := beq_eq_false_iff_ne.2 fun e => he (by rw [ByteArray.toList_eq, ByteArray.toList_eq] at e; exact e)
        clear hne
        generalize (⟨l.toArray⟩ : ByteArray) = x at *
        clear hd HK he
        go_wp2
        go_round
        case rel => exact ⟨k + 1, hlt, by go_num, HN⟩
        case measure => simp [RowKit.intOf]; omega
    · have hB : false = B := by have h := HK.out; rw [show kws.drop k = [] from List.drop_eq_nil_of_le (by show 17 ≤ k; omega)] at h; simpa using h
      subst hB
      go_wp2
      go_ret
      exact ⟨rfl, HL.out⟩

set_option maxHeartbeats 1000000 in
theorem refSkip_any (s : ByteArray) (k : Nat) (w : World) (hs : s.size ≤ 9223372036854775807) (hk : k ≤ s.size) :
    Calls Try.prog 15 #[.string s, .int .i64 (k : Nat)] w fun e w' => e = .returned (.int .i64 ((k + skp false (s.data.toList.drop k) : Nat) : Int)) ∧ w = w' := by
  have hle := skp_le false (s.data.toList.drop k)
  rw [List.length_drop, size_toList] at hle
  generalize hT : k + skp false (s.data.toList.drop k) = T
  have HT := Lib.hid hT
  have hTs : T ≤ s.size := by omega
  clear hT hle
  go_enter Try.func15, Try.ntmps15
  go_wp2
  go_loop [1] (fun i => ∃ j : Nat, j ≤ s.size ∧ i = .int .i64 (j : Nat) ∧ Hid (j + skp false (s.data.toList.drop j) = T)) (fun i => s.size - (RowKit.intOf i).toNat)
  case atStart => exact ⟨k, hk, rfl, HT⟩
  case round =>
    obtain ⟨j, hj, rfl, HJ⟩ := hrel
    by_cases hlt : j < s.size
    · have hd := drop_cons s j hlt
      by_cases hl : lay s[j] = true
      · have HN : Hid (j + 1 + skp false (s.data.toList.drop (j + 1)) = T) := by
          have h := HJ.out
          rw [hd, skp_layout _ _ hl] at h
          exact Lib.hid (by omega)
        have hcase : s[j] = 32 ∨ s[j] = 9 ∨ s[j] = 10 ∨ s[j] = 13 := by unfold lay at hl; simp at hl; rcases hl with ((h | h) | h) | h <;> simp [h]
        clear hl hd
        rcases hcase with h | h | h | h
        · have b32 : (((s[j].toNat : Nat) : Int) == 32) = true := by rw [h]; rfl
          clear h
          go_wp2
          go_round
          case rel => exact ⟨j + 1, hlt, by go_num, HN⟩
          case measure => simp [RowKit.intOf]; omega
        · have b9 : (((s[j].toNat : Nat) : Int) == 9) = true := by rw [h]; rfl
          have b32 : (((s[j].toNat : Nat) : Int) == 32) = false := by rw [h]; rfl
          clear h
          go_wp2
          go_round
          case rel => exact ⟨j + 1, hlt, by go_num, HN⟩
          case measure => simp [RowKit.intOf]; omega
        · have b10 : (((s[j].toNat : Nat) : Int) == 10) = true := by rw [h]; rfl
          have b32 : (((s[j].toNat : Nat) : Int) == 32) = false := by rw [h]; rfl
          have b9 : (((s[j].toNat : Nat) : Int) == 9) = false := by rw [h]; rfl
          clear h
          go_wp2
          go_round
          case rel => exact ⟨j + 1, hlt, by go_num, HN⟩
          case measure => simp [RowKit.intOf]; omega
        · have b13 : (((s[j].toNat : Nat) : Int) == 13) = true := by rw [h]; rfl
          have b32 : (((s[j].toNat : Nat) : Int) == 32) = false := by rw [h]; rfl
          have b9 : (((s[j].toNat : Nat) : Int) == 9) = false := by rw [h]; rfl
          have b10 : (((s[j].toNat : Nat) : Int) == 10) = false := by rw [h]; rfl
          clear h
          go_wp2
          go_round
          case rel => exact ⟨j + 1, hlt, by go_num, HN⟩
          case measure => simp [RowKit.intOf]; omega
      · have hl : lay s[j] = false := by simpa using hl
        obtain ⟨l1, l2, l3, l4⟩ : s[j] ≠ 32 ∧ s[j] ≠ 9 ∧ s[j] ≠ 10 ∧ s[j] ≠ 13 := by
          unfold lay at hl; simp at hl; exact ⟨hl.2, hl.1.1.1, hl.1.1.2, hl.1.2⟩
        have b32 : (((s[j].toNat : Nat) : Int) == 32) = false := beq_eq_false_iff_ne.2 fun e => u8_ne l1 (by show s[j].toNat = 32; omega)
        have b9 : (((s[j].toNat : Nat) : Int) == 9) = false := beq_eq_false_iff_ne.2 fun e => u8_ne l2 (by show s[j].toNat = 9; omega)
        have b10 : (((s[j].toNat : Nat) : Int) == 10) = false := beq_eq_false_iff_ne.2 fun e => u8_ne l3 (by show s[j].toNat = 10; omega)
        have b13 : (((s[j].toNat : Nat) : Int) == 13) = false := beq_eq_false_iff_ne.2 fun e => u8_ne l4 (by show s[j].toNat = 13; omega)
        clear l1 l2 l3 l4
        by_cases h47 : s[j] = 47
        · have b47 : (((s[j].toNat : Nat) : Int) == 47) = true := by rw [h47]; rfl
          have n47 : (((s[j].toNat : Nat) : Int) != 47) = false := by rw [bne, b47]; rfl
          by_cases hn : j + 1 < s.size
          · have hd2 := drop_cons s (j + 1) hn
            by_cases h2 : s[j + 1] = 47
            · have c47 : (((s[j + 1].toNat : Nat) : Int) != 47) = false := by rw [h2]; rfl
              have HM : Hid (j + skp true (s.data.toList.drop j) = T) := by
                have h := HJ.out
                rw [hd, hd2, h47, h2, skp_comment] at h
                rw [hd, hd2, h47, h2]
                exact Lib.hid h
              have H47 := Lib.hid h47
              clear hl hd hd2 h47 h2 HJ
              go_wp2
              go_loop [1] (fun i => ∃ m : Nat, j ≤ m ∧ m ≤ s.size ∧ i = .int .i64 (m : Nat) ∧ Hid (m + skp true (s.data.toList.drop m) = T)) (fun i => s.size - (RowKit.intOf i).toNat)
              case atStart => exact ⟨j, Nat.le_refl _, hj, rfl, HM⟩
              case round =>
                obtain ⟨m, hjm, hm, rfl, HMM⟩ := hrel
                clear HM b32 b9 b10 b13 b47 n47 c47
                by_cases hlm : m < s.size
                · have hdm := drop_cons s m hlm
                  by_cases h10 : s[m] = 10
                  · have e10 : (((s[m].toNat : Nat) : Int) != 10) = false := by rw [h10]; rfl
                    have hne : j ≠ m := fun e => by subst e; have := H47.out; rw [this] at h10; revert h10; decide
                    have HN : Hid (m + skp false (s.data.toList.drop m) = T) := by
                      have h := HMM.out
                      rw [hdm, h10] at h ⊢
                      simp only [skp, if_true] at h
                      rw [skp_layout _ _ (by decide)]
                      exact Lib.hid h
                    clear hdm h10 HMM
                    go_wp2
                    go_round
                    case rel => exact ⟨m, hm, rfl, HN⟩
                    case measure => simp [RowKit.intOf]; omega
                  · have e10 : (((s[m].toNat : Nat) : Int) != 10) = true := bne10 h10
                    have HN : Hid (m + 1 + skp true (s.data.toList.drop (m + 1)) = T) := by
                      have h := HMM.out
                      rw [hdm] at h
                      simp only [skp, if_neg h10] at h
                      exact Lib.hid (by omega)
                    clear hdm h10 HMM
                    go_wp2
                    go_round
                    case rel => exact ⟨m + 1, by omega, hlm, by go_num, HN⟩
                    case measure => simp [RowKit.intOf]; omega
                · have HN : Hid (m + skp false (s.data.toList.drop m) = T) := by
                    have h := HMM.out
                    rw [drop_nil s m (by omega)] at h ⊢
                    exact Lib.hid h
                  clear HMM
                  go_wp2
                  go_round
                  case rel => exact ⟨m, hm, rfl, HN⟩
                  case measure => simp [RowKit.intOf]; omega
            · have c47 : (((s[j + 1].toNat : Nat) : Int) != 47) = true := bne47 h2
              have HN : Hid (j = T) := by
                have h := HJ.out
                rw [hd, skp_stop _ _ hl (by rw [hd2]; simp [h2])] at h
                exact Lib.hid (by omega)
              clear hl hd hd2 h47 h2 HJ
              obtain rfl : j = T := HN.out
              go_wp2
              go_ret
              exact ⟨rfl, rfl⟩
          · have HN : Hid (j = T) := by
              have h := HJ.out
              rw [hd, skp_stop _ _ hl (by rw [drop_nil s (j + 1) (by omega)]; simp)] at h
              exact Lib.hid (by omega)
            have hge : decide (((s.size : Nat) : Int) ≤ (j : Int) + 1) = true := by simp; omega
            clear hl hd h47 HJ
            obtain rfl : j = T := HN.out
            go_wp2
            go_ret
            exact ⟨rfl, rfl⟩
        · have n47 : (((s[j].toNat : Nat) : Int) != 47) = true := bne47 h47
          have HN : Hid (j = T) := by
            have h := HJ.out
            rw [hd, skp_stop _ _ hl (fun h => h47 h.1)] at h
            exact Lib.hid (by omega)
          clear hl hd h47 HJ
          obtain rfl : j = T := HN.out
          go_wp2
          go_ret
          exact ⟨rfl, rfl⟩
    · have HN : Hid (j = T) := by
        have h := HJ.out
        rw [drop_nil s j (by omega)] at h
        exact Lib.hid (by simpa [skp] using h)
      obtain rfl : j = T := HN.out
      go_wp2
      go_ret
      exact ⟨rfl, rfl⟩

end Go.Proofs.Ytddpmlmhlegheaa
