/-
  The walk of the document's own 'token'. Conditions: the place lies in the text; the text has at most 2^48 bytes.
-/
import Derived.Test.YtddpmlmhlegheaaRefs
import Derived.Test.YtddpmlmhlegheaaPlain
import Derived.Test.YtddpmlmhlegheaaPiece
namespace Go.Proofs.Ytddpmlmhlegheaa
open Go.RowKit
open Go.Lib hiding intOf

/-- What token answers. -/
def TokPost (k : Nat) (kd : Int) (n : Nat) (c : Int) (w w' : World) (e : Ending) : Prop :=
  ∃ K E : Int, e = .returned (.tuple #[.agg #[.int .i64 K, .int .i64 (k : Nat), .int .i64 E, .string ⟨#[]⟩], .int .i64 c]) ∧ (c = 0 → K = kd ∧ E = ((k + n : Nat) : Int)) ∧ Below w.heap.size w w'

theorem bcell {W w1 : World} (hb : Below W.heap.size W w1) : (∀ b o, b < W.heap.size → w1.cell? ⟨b, o, none⟩ = W.cell? ⟨b, o, none⟩) ∧ (∀ b o, b < W.heap.size → w1.frozen? ⟨b, o, none⟩ = W.frozen? ⟨b, o, none⟩) :=
  ⟨fun b o h => hb.cell (p := ⟨b, o, none⟩) h, fun b o h => hb.frozen (p := ⟨b, o, none⟩) h⟩

/-- Where token returns: its first result lies in a block of its own. -/
theorem token_shut {a : Act} {Z : World} {R : Ending → World → Prop} {h : Nat} {K k E C : Int} (hB : Blk Z h 31 #[.int .i64 K, .int .i64 k, .int .i64 E, .string ⟨#[]⟩]) (ht4 : a.tmps.getD 4 undef = .pointer (some ⟨h, 0, none⟩)) (ht5 : a.tmps.getD 5 undef = .int .i64 C) (hd : a.defers = [])
    (hR : R (.returned (.tuple #[.agg #[.int .i64 K, .int .i64 k, .int .i64 E, .string ⟨#[]⟩], .int .i64 C])) Z) : bodyPost Try.prog Try.f21 R Exit.ret a Z := by
  rw [Array.getD_eq_getD_getElem?] at ht4 ht5
  have c0 : Z.cell? ⟨h, 0, none⟩ = some (.int .i64 K) := hB.cell 0
  have c1 : Z.cell? ⟨h, 1, none⟩ = some (.int .i64 k) := hB.cell 1
  have c2 : Z.cell? ⟨h, 2, none⟩ = some (.int .i64 E) := hB.cell 2
  have c3 : Z.cell? ⟨h, 3, none⟩ = some (.string ⟨#[]⟩) := hB.cell 3
  exact bodyPost_ret (v := .tuple #[.agg #[.int .i64 K, .int .i64 k, .int .i64 E, .string ⟨#[]⟩], .int .i64 C]) (by simp [results, Try.results21, go_sem, ht4, ht5, c0, c1, c2, c3]) hd hR

theorem beq_dec (a b : List UInt8) : (a == b) = decide (a = b) := by rw [Bool.eq_iff_iff, beq_iff_eq, decide_eq_true_eq]

theorem kw_short {l : List UInt8} (h : kw l = true) : l.length ≤ 9 := by
  unfold kw at h
  have h := of_decide_eq_true h
  revert h
  unfold kws
  intro h
  simp only [List.mem_cons, List.not_mem_nil, or_false] at h
  rcases h with rfl | rfl | rfl | rfl | rfl | rfl | rfl | rfl | rfl | rfl | rfl | rfl | rfl | rfl | rfl | rfl | rfl <;> decide

set_option maxHeartbeats 2000000 in
theorem token_name (s : ByteArray) (k m : Nat) (w : World) (hs : s.size ≤ 9223372036854775807) (hk : k < s.size) (hl : ltr s[k] = true) (hm : run nam (s.data.toList.drop k) = m) (hm2 : k + m ≤ s.size) (x : Bool) (hx : kw (s.extract k (k + m)).data.toList = x) (hxm : x = true → m ≤ 40) :
    Calls Try.prog 21 #[.string s, .int .i64 (k : Nat)] w fun e w' => TokPost k (if x then 5 else 1) m (if 40 < m then 4 else 0) w w' e := by
  have HL := Lib.hid (fun w => refLetter_any s[k] w)
  have HD := Lib.hid (fun w => refDigit_any s[k] w)
  have HI := Lib.hid (fun w => refIn_any s[k] ⟨#[40, 41, 123, 125, 91, 93, 44, 59, 46, 61, 60, 43, 45, 42, 33]⟩ w (by decide))
  have HR := Lib.hid (fun w => refName_any s k w hs (Nat.le_of_lt hk))
  have HW := Lib.hid (fun w => refWord_any (s.extract k (k + m)) w)
  rw [hl] at HL
  rw [hm] at HR
  rw [hx] at HW
  clear hl hm hx
  generalize dgt s[k] = y at *
  generalize decide (s[k] ∈ (⟨#[40, 41, 123, 125, 91, 93, 44, 59, 46, 61, 60, 43, 45, 42, 33]⟩ : ByteArray).data.toList) = z at *
  by_cases h40 : 40 < m
  · have hx : x = false := by cases x; rfl; have := hxm rfl; omega
    subst hx
    rw [if_pos h40]
    clear hxm
    go_enter Try.func21, Try.ntmps21
    go_wp2_with (first | (go_at_call 29; refine (HL.out _).mono ?_; rintro e w1 ⟨rfl, rfl⟩) | (go_at_call 30; refine (HD.out _).mono ?_; rintro e w1 ⟨rfl, rfl⟩) | (go_at_call 31; refine (HI.out _).mono ?_; rintro e w1 ⟨rfl, rfl⟩) | (go_at_call 32; refine (HR.out _).mono ?_; rintro e w1 ⟨rfl, rfl⟩))
    refine (HW.out _).mono ?_
    rintro e w1 ⟨rfl, hB⟩
    obtain ⟨hc, hf⟩ := bcell hB
    have hz : w.heap.size + 1 < w1.heap.size := by have := hB.size; simp at this; omega
    have hb : Blk w1 w.heap.size 31 #[.int .i64 0, .int .i64 0, .int .i64 0, .string ⟨#[]⟩] := ((Blk.new w 31 _).kept (World.grownBy_alloc _ _ none) (by simp)).kept (grown_of_below hB) (by simp)
    have HB := Lib.hid ((((Below.refl w.heap.size w).alloc (Nat.le_refl _) _).alloc (by simp) _).trans (hB.mono (by simp; omega)))
    clear hB
    go_wp2
    refine token_shut (h := w.heap.size) (K := 1) (E := (k : Int) + m) (C := 4) (((hb.set_ 0 _).set_ 1 _).set_ 2 _ |>.set_ 3 _) rfl rfl rfl ⟨1, (k : Int) + m, rfl, fun _ => ⟨rfl, by omega⟩, ?_⟩
    repeat (refine Below.setCell ?_ (by simp) _)
    exact HB.out
  · rw [if_neg h40]
    cases x
    · clear hxm
      go_enter Try.func21, Try.ntmps21
      go_wp2_with (first | (go_at_call 29; refine (HL.out _).mono ?_; rintro e w1 ⟨rfl, rfl⟩) | (go_at_call 30; refine (HD.out _).mono ?_; rintro e w1 ⟨rfl, rfl⟩) | (go_at_call 31; refine (HI.out _).mono ?_; rintro e w1 ⟨rfl, rfl⟩) | (go_at_call 32; refine (HR.out _).mono ?_; rintro e w1 ⟨rfl, rfl⟩))
      refine (HW.out _).mono ?_
      rintro e w1 ⟨rfl, hB⟩
      obtain ⟨hc, hf⟩ := bcell hB
      have hz : w.heap.size + 1 < w1.heap.size := by have := hB.size; simp at this; omega
      have hb : Blk w1 w.heap.size 31 #[.int .i64 0, .int .i64 0, .int .i64 0, .string ⟨#[]⟩] := ((Blk.new w 31 _).kept (World.grownBy_alloc _ _ none) (by simp)).kept (grown_of_below hB) (by simp)
      have HB := Lib.hid ((((Below.refl w.heap.size w).alloc (Nat.le_refl _) _).alloc (by simp) _).trans (hB.mono (by simp; omega)))
      clear hB
      go_wp2
      refine token_shut (h := w.heap.size) (K := 1) (E := (k : Int) + m) (C := 0) (((hb.set_ 0 _).set_ 1 _).set_ 2 _ |>.set_ 3 _) rfl rfl rfl ⟨1, (k : Int) + m, rfl, fun _ => ⟨rfl, by omega⟩, ?_⟩
      repeat (refine Below.setCell ?_ (by simp) _)
      exact HB.out
    · clear hxm
      go_enter Try.func21, Try.ntmps21
      go_wp2_with (first | (go_at_call 29; refine (HL.out _).mono ?_; rintro e w1 ⟨rfl, rfl⟩) | (go_at_call 30; refine (HD.out _).mono ?_; rintro e w1 ⟨rfl, rfl⟩) | (go_at_call 31; refine (HI.out _).mono ?_; rintro e w1 ⟨rfl, rfl⟩) | (go_at_call 32; refine (HR.out _).mono ?_; rintro e w1 ⟨rfl, rfl⟩))
      refine (HW.out _).mono ?_
      rintro e w1 ⟨rfl, hB⟩
      obtain ⟨hc, hf⟩ := bcell hB
      have hz : w.heap.size + 1 < w1.heap.size := by have := hB.size; simp at this; omega
      have hb : Blk w1 w.heap.size 31 #[.int .i64 0, .int .i64 0, .int .i64 0, .string ⟨#[]⟩] := ((Blk.new w 31 _).kept (World.grownBy_alloc _ _ none) (by simp)).kept (grown_of_below hB) (by simp)
      have HB := Lib.hid ((((Below.refl w.heap.size w).alloc (Nat.le_refl _) _).alloc (by simp) _).trans (hB.mono (by simp; omega)))
      clear hB
      go_wp2
      refine token_shut (h := w.heap.size) (K := 5) (E := (k : Int) + m) (C := 0) ((((hb.far (p := ⟨w.heap.size + 1, 0, none⟩) (by simp) _).set_ 0 _).set_ 1 _).set_ 2 _ |>.set_ 3 _) rfl rfl rfl ⟨5, (k : Int) + m, rfl, fun _ => ⟨rfl, by omega⟩, ?_⟩
      repeat (refine Below.setCell ?_ (by simp) _)
      exact HB.out

set_option maxHeartbeats 2000000 in
theorem token_number (s : ByteArray) (k m : Nat) (w : World) (hs : s.size ≤ 9223372036854775807) (hk : k < s.size) (hl : ltr s[k] = false) (hd : dgt s[k] = true) (hm : run dgt (s.data.toList.drop k) = m) (hm2 : k + m ≤ s.size) (x : Bool)
    (hx : (decide (m ≤ 15) && (s[k] != 48 || decide (m = 1))) = x) (hm1 : 1 ≤ m) :
    Calls Try.prog 21 #[.string s, .int .i64 (k : Nat)] w fun e w' => TokPost k 2 m (if x then 0 else 2) w w' e := by
  have HL := Lib.hid (fun w => refLetter_any s[k] w)
  have HD := Lib.hid (fun w => refDigit_any s[k] w)
  have HI := Lib.hid (fun w => refIn_any s[k] ⟨#[40, 41, 123, 125, 91, 93, 44, 59, 46, 61, 60, 43, 45, 42, 33]⟩ w (by decide))
  have HR := Lib.hid (fun w => refNumber_any s k w hs (Nat.le_of_lt hk))
  rw [hl] at HL
  rw [hd] at HD
  rw [hm] at HR
  clear hl hm hd
  generalize decide (s[k] ∈ (⟨#[40, 41, 123, 125, 91, 93, 44, 59, 46, 61, 60, 43, 45, 42, 33]⟩ : ByteArray).data.toList) = z at *
  by_cases h15 : m ≤ 15
  · by_cases h48 : s[k] = 48
    · have b48 : (((s[k].toNat : Nat) : Int) == 48) = true := by rw [h48]; rfl
      by_cases h1 : m = 1
      · have hxx : x = true := by rw [← hx]; simp [h1]
        subst hxx
        clear hx h48
        subst h1
        go_enter Try.func21, Try.ntmps21
        go_wp2_with (first | (go_at_call 29; refine (HL.out _).mono ?_; rintro e w1 ⟨rfl, rfl⟩) | (go_at_call 30; refine (HD.out _).mono ?_; rintro e w1 ⟨rfl, rfl⟩) | (go_at_call 31; refine (HI.out _).mono ?_; rintro e w1 ⟨rfl, rfl⟩) | (go_at_call 33; refine (HR.out _).mono ?_; rintro e w1 ⟨rfl, rfl⟩))
        refine bodyPost_ret (v := .tuple #[.agg #[.int .i64 2, .int .i64 (k : Nat), .int .i64 ((k : Int) + 1), .string ⟨#[]⟩], .int .i64 0]) (by simp [results, Try.results21, go_sem]) rfl ⟨2, ((k : Int) + 1), rfl, fun _ => ⟨rfl, by omega⟩, ?_⟩
        exact ((Below.refl _ _).alloc (Nat.le_refl _) _).alloc (by simp) _
      · have hxx : x = false := by rw [← hx]; simp [h1, h48]
        subst hxx
        clear hx h48
        go_enter Try.func21, Try.ntmps21
        go_wp2_with (first | (go_at_call 29; refine (HL.out _).mono ?_; rintro e w1 ⟨rfl, rfl⟩) | (go_at_call 30; refine (HD.out _).mono ?_; rintro e w1 ⟨rfl, rfl⟩) | (go_at_call 31; refine (HI.out _).mono ?_; rintro e w1 ⟨rfl, rfl⟩) | (go_at_call 33; refine (HR.out _).mono ?_; rintro e w1 ⟨rfl, rfl⟩))
        refine bodyPost_ret (v := .tuple #[.agg #[.int .i64 2, .int .i64 (k : Nat), .int .i64 ((k : Int) + m), .string ⟨#[]⟩], .int .i64 2]) (by simp [results, Try.results21, go_sem]) rfl ⟨2, ((k : Int) + m), rfl, fun _ => ⟨rfl, by omega⟩, ?_⟩
        exact ((Below.refl _ _).alloc (Nat.le_refl _) _).alloc (by simp) _
    · have hxx : x = true := by rw [← hx]; simp [h15, h48]
      have b48 : (((s[k].toNat : Nat) : Int) == 48) = false := beq_eq_false_iff_ne.2 fun e => u8_ne h48 (by show s[k].toNat = 48; omega)
      subst hxx
      clear hx h48
      go_enter Try.func21, Try.ntmps21
      go_wp2_with (first | (go_at_call 29; refine (HL.out _).mono ?_; rintro e w1 ⟨rfl, rfl⟩) | (go_at_call 30; refine (HD.out _).mono ?_; rintro e w1 ⟨rfl, rfl⟩) | (go_at_call 31; refine (HI.out _).mono ?_; rintro e w1 ⟨rfl, rfl⟩) | (go_at_call 33; refine (HR.out _).mono ?_; rintro e w1 ⟨rfl, rfl⟩))
      refine bodyPost_ret (v := .tuple #[.agg #[.int .i64 2, .int .i64 (k : Nat), .int .i64 ((k : Int) + m), .string ⟨#[]⟩], .int .i64 0]) (by simp [results, Try.results21, go_sem]) rfl ⟨2, ((k : Int) + m), rfl, fun _ => ⟨rfl, by omega⟩, ?_⟩
      exact ((Below.refl _ _).alloc (Nat.le_refl _) _).alloc (by simp) _
  · have hxx : x = false := by rw [← hx]; simp [h15]
    subst hxx
    clear hx
    go_enter Try.func21, Try.ntmps21
    go_wp2_with (first | (go_at_call 29; refine (HL.out _).mono ?_; rintro e w1 ⟨rfl, rfl⟩) | (go_at_call 30; refine (HD.out _).mono ?_; rintro e w1 ⟨rfl, rfl⟩) | (go_at_call 31; refine (HI.out _).mono ?_; rintro e w1 ⟨rfl, rfl⟩) | (go_at_call 33; refine (HR.out _).mono ?_; rintro e w1 ⟨rfl, rfl⟩))
    refine bodyPost_ret (v := .tuple #[.agg #[.int .i64 2, .int .i64 (k : Nat), .int .i64 ((k : Int) + m), .string ⟨#[]⟩], .int .i64 2]) (by simp [results, Try.results21, go_sem]) rfl ⟨2, ((k : Int) + m), rfl, fun _ => ⟨rfl, by omega⟩, ?_⟩
    exact ((Below.refl _ _).alloc (Nat.le_refl _) _).alloc (by simp) _

set_option maxHeartbeats 2000000 in
theorem token_text (s : ByteArray) (k m : Nat) (w : World) (hs : s.size ≤ 9223372036854775807) (hk : k < s.size) (hl : ltr s[k] = false) (hd : dgt s[k] = false) (hq : s[k] = 34) (x : Bool)
    (hx : (if qf (s.data.toList.drop (k + 1)) 0 < 0 then -1 else (k : Int) + qf (s.data.toList.drop (k + 1)) 0) = if x then ((k : Int) + m) else -1) :
    Calls Try.prog 21 #[.string s, .int .i64 (k : Nat)] w fun e w' => TokPost k 3 m (if x then 0 else 3) w w' e := by
  have HL := Lib.hid (fun w => refLetter_any s[k] w)
  have HD := Lib.hid (fun w => refDigit_any s[k] w)
  have HI := Lib.hid (fun w => refIn_any s[k] ⟨#[40, 41, 123, 125, 91, 93, 44, 59, 46, 61, 60, 43, 45, 42, 33]⟩ w (by decide))
  have HR := Lib.hid (fun w => refQuoted_any s k w hs hk)
  have b34 : (((s[k].toNat : Nat) : Int) == 34) = true := by rw [hq]; rfl
  rw [hl] at HL
  rw [hd] at HD
  rw [hx] at HR
  clear hl hd hx hq
  generalize decide (s[k] ∈ (⟨#[40, 41, 123, 125, 91, 93, 44, 59, 46, 61, 60, 43, 45, 42, 33]⟩ : ByteArray).data.toList) = z at *
  cases x
  · go_enter Try.func21, Try.ntmps21
    go_wp2_with (first | (go_at_call 29; refine (HL.out _).mono ?_; rintro e w1 ⟨rfl, rfl⟩) | (go_at_call 30; refine (HD.out _).mono ?_; rintro e w1 ⟨rfl, rfl⟩) | (go_at_call 31; refine (HI.out _).mono ?_; rintro e w1 ⟨rfl, rfl⟩) | (go_at_call 34; refine (HR.out _).mono ?_; rintro e w1 ⟨rfl, rfl⟩))
    refine bodyPost_ret (v := .tuple #[.agg #[.int .i64 3, .int .i64 (k : Nat), .int .i64 (-1), .string ⟨#[]⟩], .int .i64 3]) (by simp [results, Try.results21, go_sem]) rfl ⟨3, (-1), rfl, fun h => absurd h (by decide), ?_⟩
    exact ((Below.refl _ _).alloc (Nat.le_refl _) _).alloc (by simp) _
  · go_enter Try.func21, Try.ntmps21
    go_wp2_with (first | (go_at_call 29; refine (HL.out _).mono ?_; rintro e w1 ⟨rfl, rfl⟩) | (go_at_call 30; refine (HD.out _).mono ?_; rintro e w1 ⟨rfl, rfl⟩) | (go_at_call 31; refine (HI.out _).mono ?_; rintro e w1 ⟨rfl, rfl⟩) | (go_at_call 34; refine (HR.out _).mono ?_; rintro e w1 ⟨rfl, rfl⟩))
    refine bodyPost_ret (v := .tuple #[.agg #[.int .i64 3, .int .i64 (k : Nat), .int .i64 ((k : Int) + m), .string ⟨#[]⟩], .int .i64 0]) (by simp [results, Try.results21, go_sem]) rfl ⟨3, ((k : Int) + m), rfl, fun _ => ⟨rfl, by omega⟩, ?_⟩
    exact ((Below.refl _ _).alloc (Nat.le_refl _) _).alloc (by simp) _

set_option maxHeartbeats 2000000 in
theorem token_two (s : ByteArray) (k : Nat) (w : World) (hs : s.size ≤ 9223372036854775807) (hk : k < s.size) (hl : ltr s[k] = false) (hd : dgt s[k] = false) (hq : s[k] ≠ 34) (hm2 : k + 2 ≤ s.size) (x y : Bool)
    (hx : decide ((s.data.toList.drop k).take 2 = [61, 61]) = x) (hy : decide ((s.data.toList.drop k).take 2 = [38, 38]) = y) (hxy : x = true ∨ y = true) :
    Calls Try.prog 21 #[.string s, .int .i64 (k : Nat)] w fun e w' => TokPost k 4 2 0 w w' e := by
  have HL := Lib.hid (fun w => refLetter_any s[k] w)
  have HD := Lib.hid (fun w => refDigit_any s[k] w)
  have HI := Lib.hid (fun w => refIn_any s[k] ⟨#[40, 41, 123, 125, 91, 93, 44, 59, 46, 61, 60, 43, 45, 42, 33]⟩ w (by decide))
  have b34 := not_quote hq
  have hE : (s.extract k (k + 2)).toList = (s.data.toList.drop k).take 2 := by rw [Lib.toList_data, ext_take]
  have e1 : ((s.extract k (k + 2)).toList == [61, 61]) = x := by rw [hE, beq_dec]; exact hx
  have e2 : ((s.extract k (k + 2)).toList == [38, 38]) = y := by rw [hE, beq_dec]; exact hy
  rw [hl] at HL
  rw [hd] at HD
  clear hl hd hq hx hy hE
  generalize decide (s[k] ∈ (⟨#[40, 41, 123, 125, 91, 93, 44, 59, 46, 61, 60, 43, 45, 42, 33]⟩ : ByteArray).data.toList) = z at *
  cases x
  · have hy : y = true := by simpa using hxy
    subst hy
    clear hxy
    go_enter Try.func21, Try.ntmps21
    go_wp2_with (first | (go_at_call 29; refine (HL.out _).mono ?_; rintro e w1 ⟨rfl, rfl⟩) | (go_at_call 30; refine (HD.out _).mono ?_; rintro e w1 ⟨rfl, rfl⟩) | (go_at_call 31; refine (HI.out _).mono ?_; rintro e w1 ⟨rfl, rfl⟩))
    refine bodyPost_ret (v := .tuple #[.agg #[.int .i64 4, .int .i64 (k : Nat), .int .i64 ((k : Int) + 2), .string ⟨#[]⟩], .int .i64 0]) (by simp [results, Try.results21, go_sem]) rfl ⟨4, ((k : Int) + 2), rfl, fun _ => ⟨rfl, by omega⟩, ?_⟩
    exact ((Below.refl _ _).alloc (Nat.le_refl _) _).alloc (by simp) _
  · clear hxy e2
    go_enter Try.func21, Try.ntmps21
    go_wp2_with (first | (go_at_call 29; refine (HL.out _).mono ?_; rintro e w1 ⟨rfl, rfl⟩) | (go_at_call 30; refine (HD.out _).mono ?_; rintro e w1 ⟨rfl, rfl⟩) | (go_at_call 31; refine (HI.out _).mono ?_; rintro e w1 ⟨rfl, rfl⟩))
    refine bodyPost_ret (v := .tuple #[.agg #[.int .i64 4, .int .i64 (k : Nat), .int .i64 ((k : Int) + 2), .string ⟨#[]⟩], .int .i64 0]) (by simp [results, Try.results21, go_sem]) rfl ⟨4, ((k : Int) + 2), rfl, fun _ => ⟨rfl, by omega⟩, ?_⟩
    exact ((Below.refl _ _).alloc (Nat.le_refl _) _).alloc (by simp) _

set_option maxHeartbeats 2000000 in
theorem token_one (s : ByteArray) (k : Nat) (w : World) (hs : s.size ≤ 9223372036854775807) (hk : k < s.size) (hl : ltr s[k] = false) (hd : dgt s[k] = false) (hq : s[k] ≠ 34)
    (hx : decide ((s.data.toList.drop k).take 2 = [61, 61]) = false) (hy : decide ((s.data.toList.drop k).take 2 = [38, 38]) = false) (z : Bool) (hz : decide (s[k] ∈ (⟨#[40, 41, 123, 125, 91, 93, 44, 59, 46, 61, 60, 43, 45, 42, 33]⟩ : ByteArray).data.toList) = z) :
    Calls Try.prog 21 #[.string s, .int .i64 (k : Nat)] w fun e w' => TokPost k 4 1 (if z then 0 else 1) w w' e := by
  have HL := Lib.hid (fun w => refLetter_any s[k] w)
  have HD := Lib.hid (fun w => refDigit_any s[k] w)
  have HI := Lib.hid (fun w => refIn_any s[k] ⟨#[40, 41, 123, 125, 91, 93, 44, 59, 46, 61, 60, 43, 45, 42, 33]⟩ w (by decide))
  have b34 := not_quote hq
  have hE : (s.extract k (k + 2)).toList = (s.data.toList.drop k).take 2 := by rw [Lib.toList_data, ext_take]
  have e1 : ((s.extract k (k + 2)).toList == [61, 61]) = false := by rw [hE, beq_dec]; exact hx
  have e2 : ((s.extract k (k + 2)).toList == [38, 38]) = false := by rw [hE, beq_dec]; exact hy
  rw [hl] at HL
  rw [hd] at HD
  rw [hz] at HI
  clear hl hd hq hx hy hE hz
  by_cases hk2 : k + 2 ≤ s.size
  · cases z
    · go_enter Try.func21, Try.ntmps21
      go_wp2_with (first | (go_at_call 29; refine (HL.out _).mono ?_; rintro e w1 ⟨rfl, rfl⟩) | (go_at_call 30; refine (HD.out _).mono ?_; rintro e w1 ⟨rfl, rfl⟩) | (go_at_call 31; refine (HI.out _).mono ?_; rintro e w1 ⟨rfl, rfl⟩))
      refine bodyPost_ret (v := .tuple #[.agg #[.int .i64 0, .int .i64 (k : Nat), .int .i64 0, .string ⟨#[]⟩], .int .i64 1]) (by simp [results, Try.results21, go_sem]) rfl ⟨0, 0, rfl, fun h => absurd h (by decide), ?_⟩
      exact ((Below.refl _ _).alloc (Nat.le_refl _) _).alloc (by simp) _
    · go_enter Try.func21, Try.ntmps21
      go_wp2_with (first | (go_at_call 29; refine (HL.out _).mono ?_; rintro e w1 ⟨rfl, rfl⟩) | (go_at_call 30; refine (HD.out _).mono ?_; rintro e w1 ⟨rfl, rfl⟩) | (go_at_call 31; refine (HI.out _).mono ?_; rintro e w1 ⟨rfl, rfl⟩))
      refine bodyPost_ret (v := .tuple #[.agg #[.int .i64 4, .int .i64 (k : Nat), .int .i64 ((k : Int) + 1), .string ⟨#[]⟩], .int .i64 0]) (by simp [results, Try.results21, go_sem]) rfl ⟨4, ((k : Int) + 1), rfl, fun _ => ⟨rfl, by omega⟩, ?_⟩
      exact ((Below.refl _ _).alloc (Nat.le_refl _) _).alloc (by simp) _
  · have hlt : decide ((k : Int) + 1 < (s.size : Nat)) = false := by simp; omega
    clear e1 e2
    cases z
    · go_enter Try.func21, Try.ntmps21
      go_wp2_with (first | (go_at_call 29; refine (HL.out _).mono ?_; rintro e w1 ⟨rfl, rfl⟩) | (go_at_call 30; refine (HD.out _).mono ?_; rintro e w1 ⟨rfl, rfl⟩) | (go_at_call 31; refine (HI.out _).mono ?_; rintro e w1 ⟨rfl, rfl⟩))
      refine bodyPost_ret (v := .tuple #[.agg #[.int .i64 0, .int .i64 (k : Nat), .int .i64 0, .string ⟨#[]⟩], .int .i64 1]) (by simp [results, Try.results21, go_sem]) rfl ⟨0, 0, rfl, fun h => absurd h (by decide), ?_⟩
      exact ((Below.refl _ _).alloc (Nat.le_refl _) _).alloc (by simp) _
    · go_enter Try.func21, Try.ntmps21
      go_wp2_with (first | (go_at_call 29; refine (HL.out _).mono ?_; rintro e w1 ⟨rfl, rfl⟩) | (go_at_call 30; refine (HD.out _).mono ?_; rintro e w1 ⟨rfl, rfl⟩) | (go_at_call 31; refine (HI.out _).mono ?_; rintro e w1 ⟨rfl, rfl⟩))
      refine bodyPost_ret (v := .tuple #[.agg #[.int .i64 4, .int .i64 (k : Nat), .int .i64 ((k : Int) + 1), .string ⟨#[]⟩], .int .i64 0]) (by simp [results, Try.results21, go_sem]) rfl ⟨4, ((k : Int) + 1), rfl, fun _ => ⟨rfl, by omega⟩, ?_⟩
      exact ((Below.refl _ _).alloc (Nat.le_refl _) _).alloc (by simp) _

end Go.Proofs.Ytddpmlmhlegheaa
