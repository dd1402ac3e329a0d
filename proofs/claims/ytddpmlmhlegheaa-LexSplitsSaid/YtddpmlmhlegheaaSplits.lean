/-
  LexSplits answers true for every two texts. No condition.
-/
import Derived.Test.YtddpmlmhlegheaaEnds
import Derived.Test.YtddpmlmhlegheaaConcat
import Derived.ProofKit
import Derived.OpenShut
namespace Go.Proofs.Ytddpmlmhlegheaa.lexSplits
open Go.ChangeShapes Go.WideShapes Go.ChangeAt Go.RowKit
open Go.ChangeMaps (open_string shut_string)

theorem own : ownKnob Try.prog.godebug = none := by kernel_rfl

theorem toksC_take (ts : List Tok) (n : Nat) : ∀ (j : Nat) (u : Value), (toksC (ts.take n))[j]? = some u → (toksC ts)[j]? = some u := by
  intro j u hu
  have h : toksC ts = toksC (ts.take n) ++ toksC (ts.drop n) := by unfold toksC; rw [← List.flatMap_append, List.take_append_drop]
  have hj : j < (toksC (ts.take n)).length := (List.getElem?_eq_some_iff.1 hu).1
  rw [h, List.getElem?_append_left hj]; exact hu

theorem toksC_drop (ts : List Tok) (n : Nat) (hn : n ≤ ts.length) (j : Nat) : (toksC (ts.drop n))[j]? = (toksC ts)[n * 4 + j]? := by
  have h : toksC ts = toksC (ts.take n) ++ toksC (ts.drop n) := by unfold toksC; rw [← List.flatMap_append, List.take_append_drop]
  have hl : (toksC (ts.take n)).length = n * 4 := by rw [toksC_len, List.length_take]; congr 1; omega
  rw [h, List.getElem?_append_right (by omega), hl]; congr 1; omega

theorem at_take {w : World} {o : Option Addr} {ts : List Tok} (h : AtToks w o ts) (n : Nat) : AtToks w o (ts.take n) := fun j u hu => h j u (toksC_take ts n j u hu)

theorem at_drop {w : World} {g off : Nat} {ts : List Tok} (h : AtToks w (some ⟨g, off, none⟩) ts) (n : Nat) (hn : n ≤ ts.length) : AtToks w (some ⟨g, off + n * 4, none⟩) (ts.drop n) := fun j u hu => by
  rw [toksC_drop ts n hn] at hu
  obtain ⟨g', off', e, h2⟩ := h _ u hu
  cases e
  exact ⟨g, off + n * 4, rfl, by rw [Nat.add_assoc]; exact h2⟩

theorem at_some {w : World} {o : Option Addr} {ts : List Tok} (h : AtToks w o ts) (hn : 0 < ts.length) : ∃ g off, o = some ⟨g, off, none⟩ := by
  obtain ⟨g, off, e, _⟩ := h.tok (k := 0) (List.getElem?_eq_getElem hn)
  exact ⟨g, off, e⟩

set_option maxHeartbeats 2000000 in
theorem walk_long (s t : ByteArray) (w : World) (hs : 2000 < s.size ∨ (s.size ≤ 2000 ∧ 2000 < t.size)) : Calls Try.prog 8 #[.string s, .string t] w fun e w' => e = .returned (.bool true) ∧ Below w.heap.size w w' := by
  rcases hs with hs | ⟨hs, hs2⟩
  · have hd : decide ((2000 : Int) < (s.size : Nat)) = true := by simp; omega
    go_enter Try.func8, Try.ntmps8
    go_wp2_with fail
    refine (awake_any _).mono ?_
    rintro e w1 ⟨rfl, hB⟩
    have B1 := Lib.hid hB
    clear hB
    go_wp2
    go_ret
    exact ⟨rfl, B1.out⟩
  · have hd : decide ((2000 : Int) < (s.size : Nat)) = false := by simp; omega
    have hd2 : decide ((2000 : Int) < (t.size : Nat)) = true := by simp; omega
    go_enter Try.func8, Try.ntmps8
    go_wp2_with fail
    refine (awake_any _).mono ?_
    rintro e w1 ⟨rfl, hB⟩
    have B1 := Lib.hid hB
    clear hB
    go_wp2
    go_ret
    exact ⟨rfl, B1.out⟩

set_option maxHeartbeats 2000000 in
theorem walk_bad (s t : ByteArray) (w : World) (hs : s.size ≤ 2000) (ht : t.size ≤ 2000) (a : Nat) (c : Int) (hl : lexed s.data.toList = ([], a, c)) (hc : c ≠ 0) (ms : List Tok) (a2 : Nat) (c2 : Int) (hm : lexed t.data.toList = (ms, a2, c2)) :
    Calls Try.prog 8 #[.string s, .string t] w fun e w' => e = .returned (.bool true) ∧ Below w.heap.size w w' := by
  have hd : decide ((2000 : Int) < (s.size : Nat)) = false := by simp; omega
  have hd2 : decide ((2000 : Int) < (t.size : Nat)) = false := by simp; omega
  have HA := Lib.hid (fun w => all_at s [] a c hl w (by omega))
  have HM := Lib.hid (fun w => all_at t ms a2 c2 hm w (by omega))
  have hc2 : (c != 0) = true := by simpa using hc
  clear hl hc hm
  go_enter Try.func8, Try.ntmps8
  go_wp2_with fail
  refine (awake_any _).mono ?_
  rintro e w1 ⟨rfl, hB⟩
  have B1 := Lib.hid hB
  clear hB
  go_wp2_with fail
  refine (HA.out _).mono ?_
  rintro e w2 ⟨o, cap, rfl, _, hB, _⟩
  have B2 := Lib.hid (B1.out.trans (hB.mono B1.out.size))
  clear hB B1
  go_wp2_with fail
  refine (HM.out _).mono ?_
  rintro e w3 ⟨o, cap, rfl, _, hB, _⟩
  have B3 := Lib.hid (below_box B2.out B2.out.size hB)
  have hz3 := B3.out.size
  have hbx := (Below.refl w3.heap.size w3).alloc (Nat.le_refl _) (.cells #[.int .i64 (a2 : Nat), .int .i64 c2] 25)
  have d1 : (w3.alloc (.cells #[.int .i64 (a2 : Nat), .int .i64 c2] 25)).cell? ⟨w2.heap.size, 1, none⟩ = some (.int .i64 c) := (hbx.cell (p := ⟨w2.heap.size, 1, none⟩) (by have := hB.size; simp at this; simp only; omega)).trans (box25 hB).2
  clear hB B2 hbx
  go_wp2
  go_ret
  exact ⟨rfl, B3.out.alloc hz3 _⟩

theorem app_list (s t : ByteArray) : (s ++ ⟨#[10]⟩ ++ t : ByteArray).data.toList = s.data.toList ++ 10 :: t.data.toList := by
  rw [ByteArray.data_append, ByteArray.data_append]; simp

theorem app_size (s t : ByteArray) : (s ++ ⟨#[10]⟩ ++ t : ByteArray).size = s.size + 1 + t.size := by
  rw [← size_toList, app_list, List.length_append, List.length_cons, size_toList, size_toList]; omega

set_option maxHeartbeats 4000000 in
theorem walk_mid (s t : ByteArray) (w : World) (hs : s.size ≤ 2000) (ht : t.size ≤ 2000) (ts : List Tok) (hl : lexed s.data.toList = (ts, 0, 0)) (a : Nat) (c : Int) (hm : lexed t.data.toList = ([], a, c)) (hc : c ≠ 0) (ha : a ≤ 2000)
    (hn : lexed (s ++ ⟨#[10]⟩ ++ t : ByteArray).data.toList = ([], a + (s.size + 1), c)) :
    Calls Try.prog 8 #[.string s, .string t] w fun e w' => e = .returned (.bool true) ∧ Below w.heap.size w w' := by
  have hd : decide ((2000 : Int) < (s.size : Nat)) = false := by simp; omega
  have hd2 : decide ((2000 : Int) < (t.size : Nat)) = false := by simp; omega
  have hz := app_size s t
  have HA := Lib.hid (fun w => all_at s ts 0 0 hl w (by omega))
  have HM := Lib.hid (fun w => all_at t [] a c hm w (by omega))
  have hN := fun w => all_at (s ++ ⟨#[10]⟩ ++ t) [] _ c hn w (by omega)
  simp only [show ((a + (s.size + 1) : Nat) : Int) = (a : Int) + (s.size : Nat) + 1 by omega] at hN
  have HN := Lib.hid hN
  have hc2 : (c != 0) = true := by simpa using hc
  clear hl hc hm hN hn hz
  go_enter Try.func8, Try.ntmps8
  go_wp2_with fail
  refine (awake_any _).mono ?_
  rintro e w1 ⟨rfl, hB⟩
  have B1 := Lib.hid hB
  clear hB
  go_wp2_with fail
  refine (HA.out _).mono ?_
  rintro e w2 ⟨o, cap, rfl, _, hB, _⟩
  have B2 := Lib.hid (B1.out.trans (hB.mono B1.out.size))
  clear hB B1
  go_wp2_with fail
  refine (HM.out _).mono ?_
  rintro e w3 ⟨o3, cap3, rfl, _, hB, _⟩
  have B3 := Lib.hid (below_box B2.out B2.out.size hB)
  have hz3 : w2.heap.size + 1 ≤ w3.heap.size := by have := hB.size; simpa using this
  have hbx := (Below.refl w3.heap.size w3).alloc (Nat.le_refl _) (.cells #[.int .i64 (a : Nat), .int .i64 c] 25)
  have d1 : (w3.alloc (.cells #[.int .i64 (a : Nat), .int .i64 c] 25)).cell? ⟨w2.heap.size, 1, none⟩ = some (.int .i64 0) := (hbx.cell (p := ⟨w2.heap.size, 1, none⟩) (by simp only; omega)).trans (box25 hB).2
  clear hB B2 hbx
  go_wp2_with fail
  refine (HN.out _).mono ?_
  rintro e w4 ⟨o4, cap4, rfl, _, hB, _⟩
  have B4 := Lib.hid (below_box B3.out B3.out.size hB)
  have hz4 : w3.heap.size + 1 ≤ w4.heap.size := by have := hB.size; simpa using this
  have hbx := (Below.refl w4.heap.size w4).alloc (Nat.le_refl _) (.cells #[.int .i64 ((a : Int) + (s.size : Nat) + 1), .int .i64 c] 25)
  have e0 : (w4.alloc (.cells #[.int .i64 ((a : Int) + (s.size : Nat) + 1), .int .i64 c] 25)).cell? ⟨w3.heap.size, 0, none⟩ = some (.int .i64 (a : Nat)) := (hbx.cell (p := ⟨w3.heap.size, 0, none⟩) (by simp only; omega)).trans (box25 hB).1
  have e1 : (w4.alloc (.cells #[.int .i64 ((a : Int) + (s.size : Nat) + 1), .int .i64 c] 25)).cell? ⟨w3.heap.size, 1, none⟩ = some (.int .i64 c) := (hbx.cell (p := ⟨w3.heap.size, 1, none⟩) (by simp only; omega)).trans (box25 hB).2
  have hz5 := B4.out.size
  clear hB B3 hbx d1
  go_wp2
  go_ret
  exact ⟨by simp, B4.out.alloc hz5 _⟩

theorem alike_n (o o' : Option Addr) (c c' n : Nat) (ts us : List Tok) (w : World) (h1 : AtToks w o ts) (h2 : AtToks w o' us) (hkey : ts.map key = us.map key) (hn : n ≤ 2199023255553) (ht : ts.length = n) :
    Calls Try.prog 17 #[.slice o n c, .slice o' n c'] w fun e w' => e = .returned (.bool true) ∧ ∃ n, w' = w.drewN n := by
  have hu : us.length = n := by have := congrArg List.length hkey; simp only [List.length_map] at this; omega
  have h := alike_drew o o' c c' ts us w h1 h2 hkey (by omega)
  rw [ht, hu] at h
  exact h

theorem alike_to (o o' : Option Addr) (c c' m n : Nat) (ts us : List Tok) (w : World) (h1 : AtToks w o ts) (h2 : AtToks w o' us) (hkey : ts.map key = us.map key) (hn : n ≤ 2199023255553) (hm : m = n) (ht : ts.length = n) :
    Calls Try.prog 17 #[.slice o m c, .slice o' n c'] w fun e w' => e = .returned (.bool true) ∧ ∃ n, w' = w.drewN n := by
  subst hm; exact alike_n o o' c c' m ts us w h1 h2 hkey hn ht

set_option maxHeartbeats 4000000 in
theorem walk_good (s t : ByteArray) (w : World) (hs : s.size ≤ 2000) (ht : t.size ≤ 2000) (ts ms xs : List Tok) (hl : lexed s.data.toList = (ts, 0, 0)) (hm : lexed t.data.toList = (ms, 0, 0))
    (hn : lexed (s ++ ⟨#[10]⟩ ++ t : ByteArray).data.toList = (xs, 0, 0)) (hts : 1 ≤ ts.length) (hms : 1 ≤ ms.length) (hlen : xs.length + 1 = ts.length + ms.length)
    (k1 : (xs.take (ts.length - 1)).map key = (ts.take (ts.length - 1)).map key) (k2 : (xs.drop (ts.length - 1)).map key = ms.map key) :
    Calls Try.prog 8 #[.string s, .string t] w fun e w' => e = .returned (.bool true) ∧ Below w.heap.size w w' := by
  have hd : decide ((2000 : Int) < (s.size : Nat)) = false := by simp; omega
  have hd2 : decide ((2000 : Int) < (t.size : Nat)) = false := by simp; omega
  have hz := app_size s t
  have l1 := lexed_len hl
  have l2 := lexed_len hm
  rw [size_toList] at l1 l2
  have HA := Lib.hid (fun w => all_at s ts 0 0 hl w (by omega))
  have HM := Lib.hid (fun w => all_at t ms 0 0 hm w (by omega))
  have HN := Lib.hid (fun w => all_at (s ++ ⟨#[10]⟩ ++ t) xs 0 0 hn w (by omega))
  have HK1 := Lib.hid (fun o o' c c' w (h1 : AtToks w o xs) (h2 : AtToks w o' ts) => alike_n o o' c c' (ts.length - 1) _ _ w (at_take h1 (ts.length - 1)) (at_take h2 (ts.length - 1)) k1 (by omega) (by rw [List.length_take]; omega))
  have HK2 := Lib.hid (fun g off o' c c' w (h1 : AtToks w (some ⟨g, off, none⟩) xs) (h2 : AtToks w o' ms) => alike_to (some ⟨g, off + (ts.length - 1) * 4, none⟩) o' c c' (xs.length - (ts.length - 1)) ms.length _ _ w (at_drop h1 (ts.length - 1) (by omega)) h2 k2 (by omega) (by omega) (by rw [List.length_drop]; omega))
  have HL := Lib.hid hlen
  have hne : (((xs.length : Nat) : Int) != (ts.length : Int) + (ms.length : Nat) - 1) = false := by
    have : ((xs.length : Nat) : Int) = (ts.length : Int) + (ms.length : Nat) - 1 := by omega
    rw [this]; simp
  have hal : 0 < xs.length := by omega
  have hal2 : ts.length ≤ xs.length := by omega
  have hal3 : xs.length ≤ 4002 := by omega
  clear hl hm hn hz k1 k2 hlen
  go_enter Try.func8, Try.ntmps8
  go_wp2_with fail
  refine (awake_any _).mono ?_
  rintro e w1 ⟨rfl, hB⟩
  have B1 := Lib.hid hB
  clear hB
  go_wp2_with fail
  refine (HA.out _).mono ?_
  rintro e w2 ⟨o, cap, rfl, hT, hB, hcap⟩
  have B2 := Lib.hid (B1.out.trans (hB.mono B1.out.size))
  have T2 := Lib.hid hT
  clear hB B1 hT
  go_wp2_with fail
  refine (HM.out _).mono ?_
  rintro e w3 ⟨o3, cap3, rfl, hT, hB, hcap3⟩
  have B3 := Lib.hid (below_box B2.out B2.out.size hB)
  have hz3 : w2.heap.size + 1 ≤ w3.heap.size := by have := hB.size; simpa using this
  have hbx := (Below.refl w3.heap.size w3).alloc (Nat.le_refl _) (.cells #[.int .i64 0, .int .i64 0] 25)
  have d1 : (w3.alloc (.cells #[.int .i64 0, .int .i64 0] 25)).cell? ⟨w2.heap.size, 1, none⟩ = some (.int .i64 0) := (hbx.cell (p := ⟨w2.heap.size, 1, none⟩) (by simp only; omega)).trans (box25 hB).2
  have T3 := Lib.hid ((((T2.out.below ((Below.refl _ _).alloc (Nat.le_refl _) _)).below hB)).below hbx)
  have U3 := Lib.hid (hT.below hbx)
  clear hB B2 hbx T2 hT
  go_wp2_with fail
  refine (HN.out _).mono ?_
  rintro e w4 ⟨o4, cap4, rfl, hT, hB, hcap4⟩
  have B4 := Lib.hid (below_box B3.out B3.out.size hB)
  have hz4 : w3.heap.size + 1 ≤ w4.heap.size := by have := hB.size; simpa using this
  have hbx := (Below.refl w4.heap.size w4).alloc (Nat.le_refl _) (.cells #[.int .i64 0, .int .i64 0] 25)
  have e1 : (w4.alloc (.cells #[.int .i64 0, .int .i64 0] 25)).cell? ⟨w3.heap.size, 1, none⟩ = some (.int .i64 0) := (hbx.cell (p := ⟨w3.heap.size, 1, none⟩) (by simp only; omega)).trans (box25 hB).2
  have hz5 := B4.out.size
  have B5 := Lib.hid (B4.out.alloc hz5 (.cells #[.int .i64 0, .int .i64 0] 25))
  have T5 := Lib.hid ((T3.out.below hB).below hbx)
  have U5 := Lib.hid ((U3.out.below hB).below hbx)
  obtain ⟨g, off, rfl⟩ := at_some hT hal
  have V5 := Lib.hid (hT.below hbx)
  have HQ := Lib.hid (fun c c' n => HK1.out _ _ c c' ((w4.alloc (.cells #[.int .i64 0, .int .i64 0] 25)).drewN n) (V5.out.drew ⟨n, rfl⟩) (T5.out.drew ⟨n, rfl⟩))
  clear hB B3 B4 hbx d1 T3 U3 hT HK1
  go_wp2
  go_quiet ((go_at_call 17; exact Calls.quiet_of (HQ.out _ _ _)))
  go_wp2_with fail
  refine (HK2.out g off o3 _ _ _ (V5.out.drew ⟨_, rfl⟩) (U5.out.drew ⟨_, rfl⟩)).mono ?_
  rintro e w6 ⟨rfl, n, rfl⟩
  go_wp2
  go_ret
  exact ⟨rfl, below_drewN B5.out _⟩

theorem map_key_sh (n : Nat) (l : List Tok) : (l.map (sh n)).map key = l.map key := by
  rw [List.map_map]; rfl

theorem walk (s t : ByteArray) (w : World) : Calls Try.prog 8 #[.string s, .string t] w fun e w' => e = .returned (.bool true) ∧ Below w.heap.size w w' := by
  by_cases hs : s.size ≤ 2000
  · by_cases ht : t.size ≤ 2000
    · have ls : s.data.toList.length ≤ 2000 := by rw [size_toList]; exact hs
      have lt : t.data.toList.length ≤ 2000 := by rw [size_toList]; exact ht
      rcases lexed_cases s.data.toList with ⟨h, hl⟩ | ⟨a, c, h, hl⟩
      · have hb := split_bad _ _ h ls lt
        rcases lexed_cases t.data.toList with ⟨h2, hm⟩ | ⟨a, c, h2, hm⟩
        · rw [h2] at hb
          have hx := toks_app _ t.data.toList h
          have hx' := hx
          rw [← app_list] at hx hb
          have ln : (toks s.data.toList).length - 1 = (pcsAt 0 s.data.toList).length := by simp [toks]
          have hts : (toks s.data.toList).take ((toks s.data.toList).length - 1) = pcsAt 0 s.data.toList := by
            rw [ln]; unfold toks; exact List.take_left
          refine walk_good s t w hs ht _ _ _ hl hm (lexed_good' hb) ?_ ?_ ?_ ?_ ?_
          · simp [toks]
          · simp [toks]
          · rw [hx]; simp [toks]; omega
          · rw [hts, ln, hx, List.take_left]
          · rw [ln, hx, List.drop_left, map_key_sh]
        · rw [h2] at hb
          obtain ⟨hc, tk, htk, hpos, _⟩ := bad_some h2
          have := (toks_ok _ tk htk).1
          rw [size_toList] at this
          rw [← app_list, size_toList] at hb
          exact walk_mid s t w hs ht _ hl a c hm hc (by omega) (lexed_bad' hb)
      · exact walk_bad s t w hs ht a c hl (bad_some h).1 _ _ _ rfl
    · exact walk_long s t w (by omega)
  · exact walk_long s t w (by omega)

set_option maxRecDepth 100000 in
theorem lifted (os : Os) (started : os.Started) (H : Type) (enc : TypeId × Value → H) :
    ReturnsInHanded {} Try.checked os 8 .any (Rows.lexSplitsSpec.pre6 enc Try.prog Try.f8 Rows.lexSplitsRow.domain false) (Rows.lexSplitsSpec.post enc Try.prog Try.f8 false true false false) := by
  refine returnsInHanded_of_change (C := Try.checked) own started (by kernel_rfl) Try.func8
    (ChangeSpec.witness6 (enc := enc) (C := Try.checked) false ⟨#[], #[.string .empty, .string .empty], []⟩ 8 (by kernel_rfl) (by kernel_rfl) (by kernel_rfl) (by kernel_rfl)) ?_
  intro W base args ds gs before hval0 hW hcnd _
  have hval : ∀ (j : Nat) t v, Try.f8.params[j]? = some t → args[j]? = some v → Value.okWide Try.prog W .any base t v := hval0
  have hW' := hW
  obtain ⟨p, q, hA0, hV, rfl, hfz, hnd⟩ := hW
  have hA : DataW.TrodAll enc Try.prog W 0 (fun _ => true) true Try.f8.params.toList args.toList ds p := hA0
  rw [Try.params8] at hA hval
  obtain ⟨v0, vs0, d0, ds0, p0, q0, hargs, rfl, rfl, h0, r0⟩ := trodAll_cons hA
  obtain ⟨v1, vs1, d1, ds1, p1, q1, rfl, rfl, rfl, h1, r1⟩ := trodAll_cons r0
  obtain ⟨rfl, rfl, rfl⟩ := trodAll_nil r1
  obtain rfl : args = #[v0, v1] := by cases args; simp_all
  obtain ⟨rfl, rfl⟩ := trodVars_none hV
  obtain ⟨a0, rfl, rfl, rfl, w0⟩ := open_string Try.underlying9 (hval 0 9 v0 rfl rfl) h0
  obtain ⟨a1, rfl, rfl, rfl, w1⟩ := open_string Try.underlying9 (hval 1 9 v1 rfl rfl) h1
  clear hA0 hval0
  simp only [List.append_nil] at hW'
  refine (walk a0 a1 W).mono fun e W' ⟨he, hg⟩ => ?_
  subst he
  exact ⟨_, rfl, _, _, _, [], [], [], hW', (trodAll_cons_mk (shut_bool Try.underlying4 _) trodAll_mk0), (trodAll_cons_mk (shut_string Try.underlying9 w0) (trodAll_cons_mk (shut_string Try.underlying9 w1) trodAll_mk0)), rfl, hg.frame _, fun h => by cases h⟩

theorem over : Rows.lexSplitsRow.holds Try.pinned (OpenSpec.ofChange Rows.lexSplitsSpec) :=
  OpenClaim.holds_of_wide 8 Try.f8 rfl rfl rfl rfl rfl rfl rfl ⟨rfl, rfl, rfl, rfl, rfl⟩ rfl rfl rfl rfl rfl (by kernel_rfl) Try.func8 (by kernel_rfl)
    (of_decide_eq_true (by kernel_rfl)) (by unfold Func.isWrapper; first | (rw [if_pos (by decide +kernel)]; kernel_rfl) | (rw [if_neg (by decide +kernel)]; exact ⟨rfl, rfl⟩))
    (fun os started H enc _ => lifted os started H enc)

/-- LexSplits answers true. -/
theorem proved : Rows.LexSplitsSaid :=
  over

end Go.Proofs.Ytddpmlmhlegheaa.lexSplits
