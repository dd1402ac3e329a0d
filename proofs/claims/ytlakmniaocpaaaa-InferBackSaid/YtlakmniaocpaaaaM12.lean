/-
  Bytes' classes, the map of the language's words, the document's own list of them. Condition: at most 2^63 - 1 bytes.
  Which text may be a name: the program's answer and the document's. Condition: at most 2^63 - 1 bytes.
-/
import Derived.Test.YtlakmniaocpaaaaM01
import Derived.Test.YtlakmniaocpaaaaM00
import Derived.WalkSpells
import Derived.WalkLawsBesides
import Derived.Lib.OthersKept
import Derived.Maps.OwnOps
import Derived.Maps.Views
import Derived.StringKeys
namespace Go.Proofs.Ytlakmniaocpaaaa
open Go.RowKit
open Go.Lib hiding intOf
open Go.Maps (Keyed)
theorem size_toList (s : ByteArray) : s.data.toList.length = s.size := by simp
theorem list_get (s : ByteArray) (k : Nat) (h : k < s.size) : s.data.toList[k]'(by simpa using h) = s[k] := rfl
theorem drop_cons (s : ByteArray) (k : Nat) (h : k < s.size) : s.data.toList.drop k = s[k] :: s.data.toList.drop (k + 1) := by
  rw [List.drop_eq_getElem_cons (by simpa using h)]; rfl
theorem drop_nil (s : ByteArray) (k : Nat) (h : s.size ≤ k) : s.data.toList.drop k = [] := by
  rw [List.drop_eq_nil_iff]; simpa using h
theorem u8_beq (c d : UInt8) : (((c.toNat : Nat) : Int) == ((d.toNat : Nat) : Int)) = (c == d) := by
  by_cases h : c = d
  · subst h; simp
  · have h2 : (c == d) = false := beq_eq_false_iff_ne.2 h
    rw [h2]
    refine beq_eq_false_iff_ne.2 fun e => h (UInt8.toNat_inj.1 (by omega))
theorem u8_ne {c d : UInt8} (h : c ≠ d) : c.toNat ≠ d.toNat := fun e => h (UInt8.toNat_inj.1 e)
/-- 'm[k] = v' in a literal. -/
theorem wpList_insert_own {H : Type} {P : Program} (w : World) {ops : Array Oper} {rest : List Oper} {o : Oper} {a : Act} {Q : Exit → Act → World → Prop}
    (hg : o.guard = none) (m x v : Operand) (t : TypeId) (hop : o.op = Op.insert t m x v)
    (k e : TypeId) (K : Keyed P k) (ht : P.underlying t = some (.map k e)) (R : Value → Option (DataW H × List MemPlace)) (b n : Nat) (D : DataW H)
    (hm : a.eval m = .map (some b)) (hown : w.ownsMap P k R b n D) (hn : n < maxLen) (key val : Value) (kl : Lit) (hx : a.eval x = key) (hv : a.eval v = val) (hkey : keyOf P k key = some kl)
    (d : DataW H) (ps : List MemPlace) (hval : R val = some (d, ps))
    (hK : ∀ w', w'.ownsMap P k R b (n + 1) (D.put kl d) → w.grownBy w' (some b) → wpList P ops Q rest (a.put o.dst undef) w') :
    wpList P ops Q (o :: rest) a w := by
  refine wpList_plain hg fun K' hK' => ?_
  obtain ⟨w', hrun, r1, r2⟩ := hown.update K ht hn hkey hval
  unfold Oper.wp
  simp [execOp, hop, hm, hx, hv, hrun, Result.andThen]
  exact hK' _ _ (hK w' r1 r2)
/-- What the map reads as, when some words have been put in. -/
def wordsD (ks : List (List UInt8)) : DataW Unit := ks.foldl (fun D k => D.put (.string k) (.lit (.int .i64 5))) (.map [])
theorem wordsD_isMap (ks : List (List UInt8)) (D : DataW Unit) (h : Maps.IsMap D) : Maps.IsMap (ks.foldl (fun D k => D.put (.string k) (.lit (.int .i64 5))) D) := by
  induction ks generalizing D with
  | nil => exact h
  | cons k r ih => exact ih _ (h.put _ _)
theorem wordsD_map (ks : List (List UInt8)) : Maps.IsMap (wordsD ks) := wordsD_isMap ks _ Maps.isMap_empty
theorem wordsD_snoc (ks : List (List UInt8)) (k : List UInt8) : wordsD (ks ++ [k]) = (wordsD ks).put (.string k) (.lit (.int .i64 5)) := by
  unfold wordsD; rw [List.foldl_append]; rfl
theorem wordsD_at (ks : List (List UInt8)) (l : List UInt8) : (wordsD ks).atKey (.string l) (.lit (.int .i64 0)) = .lit (.int .i64 (if l ∈ ks then 5 else 0)) := by
  suffices h : ∀ r : List (List UInt8), (wordsD r.reverse).atKey (.string l) (.lit (.int .i64 0)) = .lit (.int .i64 (if l ∈ r then 5 else 0)) by
    have := h ks.reverse
    rw [List.reverse_reverse] at this
    rw [this]; simp
  intro r
  induction r with
  | nil => rfl
  | cons k r ih =>
    rw [List.reverse_cons, wordsD_snoc]
    by_cases h : l = k
    · subst h
      rw [Maps.atKey_put_same (wordsD_map _) (by trivial)]
      simp
    · rw [Maps.atKey_put_other (by intro e; injection e with e; exact h e), ih]
      simp [h]
/-- The map of the words lies in a block. -/
def WordsAt (w : World) (b : Nat) : Prop := w.ownsMap Try.prog 9 (plainElem (H := Unit) Try.prog 3) b 17 (wordsD kws)
def KS (w0 w : World) (n : Nat) (D : DataW Unit) : Prop := w.ownsMap Try.prog 9 (plainElem (H := Unit) Try.prog 3) w0.heap.size n D ∧ Below w0.heap.size w0 w
theorem KS.next {w0 w w1 : World} {n n' : Nat} {D D' : DataW Unit} (h : KS w0 w n D) (ho : w1.ownsMap Try.prog 9 (plainElem (H := Unit) Try.prog 3) w0.heap.size n' D') (hg : w.grownBy w1 (some w0.heap.size)) : KS w0 w1 n' D' :=
  ⟨ho, h.2.grown hg h.2.size (fun k e => by cases e; exact Nat.le_refl _)⟩
theorem KS.start (w : World) : KS w (w.alloc (.map #[] 0)) 0 (.map []) := ⟨World.ownsMap_made w _ _ _, (Below.refl _ w).alloc (Nat.le_refl _) _⟩
theorem five : plainElem (H := Unit) Try.prog 3 (.int .i64 5) = some (.lit (.int .i64 5), []) := plainElem_int Try.underlying3 (by decide)
set_option maxRecDepth 100000 in
set_option maxHeartbeats 2000000 in
theorem keywords_any (w : World) : Calls Try.prog 81 #[] w fun e w' => e = .returned (.map (some w.heap.size)) ∧ WordsAt w' w.heap.size ∧ Below w.heap.size w w' := by
  have hmm := @run_makeMap Try.prog
  have S := KS.start w
  go_enter Try.func81, Try.ntmps81
  go_wp2_with (refine wpList_insert_own _ rfl _ _ _ 117 rfl 9 3 (Maps.string_keyed Try.underlying9) Try.underlying117 _ _ _ _ rfl S.1 (by decide) _ _ _ rfl rfl (WideMaps.keyOf_string_mk Try.underlying9 (by decide)) _ [] five ?_; intro w1 ho hg; replace S := S.next ho hg; clear ho hg)
  go_ret
  exact ⟨rfl, S.1, S.2⟩
set_option maxRecDepth 100000 in
theorem lookup_word {w : World} {b : Nat} (h : WordsAt w b) (t : ByteArray) (ht : t.size ≤ 9223372036854775807) :
    (Instr.lookup 117 (.map (some b)) (.string t) false).run Try.prog w = .ok (.int .i64 (if kw t.data.toList then 5 else 0)) w := by
  obtain ⟨c, hrun, hat, _⟩ := World.ownsMap.lookup_int h (Maps.string_keyed Try.underlying9) Try.underlying117 Try.underlying3 (Try.zeroValue3 _) (WideMaps.keyOf_string_mk Try.underlying9 (s := t) (by unfold maxLen; omega))
  rw [wordsD_at] at hat
  injection hat with hat
  injection hat with _ hat
  rw [hrun, ← hat]
  unfold kw
  by_cases hm : t.data.toList ∈ kws <;> simp [hm]
theorem word_any (t : ByteArray) (w : World) (ht : t.size ≤ 9223372036854775807) : Calls Try.prog 61 #[.string t] w fun e w' => e = .returned (.bool (kw t.data.toList)) ∧ Below w.heap.size w w' := by
  have HK := Lib.hid (keywords_any w)
  cases hk : kw t.data.toList
  all_goals
    have E := Lib.hid hk
    clear hk
    go_enter Try.func61, Try.ntmps61
    go_wp2_with (go_at_call 81; refine HK.out.mono ?_; rintro e w1 ⟨rfl, HW, HB⟩; have hl := lookup_word HW t ht; rw [E.out] at hl; have HB2 := Lib.hid HB; clear HB HW)
    go_ret
    exact ⟨rfl, HB2.out⟩
/-- The words as the document's own function lays them. -/
def kwVals : Array Value := (kws.map fun l => Value.string ⟨l.toArray⟩).toArray
theorem kwVals_at (k : Nat) (hk : k < 17) : kwVals[k]? = some (.string ⟨(kws.getD k []).toArray⟩) := by
  have hl : kws.length = 17 := rfl
  unfold kwVals
  rw [List.getElem?_toArray, List.getElem?_map, List.getD_eq_getElem?_getD, List.getElem?_eq_getElem (by omega)]
  rfl
theorem kws_drop (k : Nat) (hk : k < 17) : kws.drop k = kws.getD k [] :: kws.drop (k + 1) := by
  have hl : kws.length = 17 := rfl
  rw [List.drop_eq_getElem_cons (by omega), List.getD_eq_getElem?_getD, List.getElem?_eq_getElem (by omega)]
  rfl
theorem arr_eq (l : List UInt8) (s : ByteArray) : ((⟨l.toArray⟩ : ByteArray) = s) ↔ l = s.data.toList := by
  constructor
  · rintro rfl; rfl
  · rintro rfl; rfl
end Go.Proofs.Ytlakmniaocpaaaa
namespace Go.Proofs.Ytlakmniaocpaaaa
open Go.RowKit
open Go.Lib hiding intOf
theorem isLetter_any (c : UInt8) (w : World) : Calls Try.prog 59 #[.int .u8 (c.toNat : Nat)] w fun e w' => e = .returned (.bool (ltr c)) ∧ w = w' := by
  by_cases h95 : c = 95
  · subst h95
    go_enter Try.func59, Try.ntmps59
    go_wp2
    go_ret
    exact ⟨rfl, rfl⟩
  have e95 := u8_ne h95
  have b95 : (((c.toNat : Nat) : Int) == 95) = false := beq_eq_false_iff_ne.2 fun e => e95 (by show c.toNat = 95; omega)
  have hl : ltr c = ((decide (65 ≤ c.toNat) && decide (c.toNat ≤ 90)) || (decide (97 ≤ c.toNat) && decide (c.toNat ≤ 122))) := by simp [ltr, h95]
  rw [hl]
  clear hl h95 e95
  generalize c.toNat = n at *
  have hcase : n < 65 ∨ (65 ≤ n ∧ n ≤ 90) ∨ (91 ≤ n ∧ n < 97) ∨ (97 ≤ n ∧ n ≤ 122) ∨ 122 < n := by omega
  rcases hcase with h | ⟨h, h'⟩ | ⟨h, h'⟩ | ⟨h, h'⟩ | h
  · rw [show (decide (65 ≤ n) && decide (n ≤ 90) || decide (97 ≤ n) && decide (n ≤ 122)) = false by simp; try omega]
    have d1 : decide ((65 : Int) ≤ n) = false := by simp; omega
    have d2 : decide ((n : Int) ≤ 90) = true := by simp; omega
    have d3 : decide ((97 : Int) ≤ n) = false := by simp; omega
    have d4 : decide ((n : Int) ≤ 122) = true := by simp; omega
    go_enter Try.func59, Try.ntmps59
    go_wp2
    go_ret
    exact ⟨rfl, rfl⟩
  · rw [show (decide (65 ≤ n) && decide (n ≤ 90) || decide (97 ≤ n) && decide (n ≤ 122)) = true by simp; try omega]
    have d1 : decide ((65 : Int) ≤ n) = true := by simp; omega
    have d2 : decide ((n : Int) ≤ 90) = true := by simp; omega
    have d3 : decide ((97 : Int) ≤ n) = false := by simp; omega
    have d4 : decide ((n : Int) ≤ 122) = true := by simp; omega
    go_enter Try.func59, Try.ntmps59
    go_wp2
    go_ret
    exact ⟨rfl, rfl⟩
  · rw [show (decide (65 ≤ n) && decide (n ≤ 90) || decide (97 ≤ n) && decide (n ≤ 122)) = false by simp; try omega]
    have d1 : decide ((65 : Int) ≤ n) = true := by simp; omega
    have d2 : decide ((n : Int) ≤ 90) = false := by simp; omega
    have d3 : decide ((97 : Int) ≤ n) = false := by simp; omega
    have d4 : decide ((n : Int) ≤ 122) = true := by simp; omega
    go_enter Try.func59, Try.ntmps59
    go_wp2
    go_ret
    exact ⟨rfl, rfl⟩
  · rw [show (decide (65 ≤ n) && decide (n ≤ 90) || decide (97 ≤ n) && decide (n ≤ 122)) = true by simp; try omega]
    have d1 : decide ((65 : Int) ≤ n) = true := by simp; omega
    have d2 : decide ((n : Int) ≤ 90) = false := by simp; omega
    have d3 : decide ((97 : Int) ≤ n) = true := by simp; omega
    have d4 : decide ((n : Int) ≤ 122) = true := by simp; omega
    go_enter Try.func59, Try.ntmps59
    go_wp2
    go_ret
    exact ⟨rfl, rfl⟩
  · rw [show (decide (65 ≤ n) && decide (n ≤ 90) || decide (97 ≤ n) && decide (n ≤ 122)) = false by simp; try omega]
    have d1 : decide ((65 : Int) ≤ n) = true := by simp; omega
    have d2 : decide ((n : Int) ≤ 90) = false := by simp; omega
    have d3 : decide ((97 : Int) ≤ n) = true := by simp; omega
    have d4 : decide ((n : Int) ≤ 122) = false := by simp; omega
    go_enter Try.func59, Try.ntmps59
    go_wp2
    go_ret
    exact ⟨rfl, rfl⟩
theorem isDigit_any (c : UInt8) (w : World) : Calls Try.prog 60 #[.int .u8 (c.toNat : Nat)] w fun e w' => e = .returned (.bool (dgt c)) ∧ w = w' := by
  unfold dgt
  generalize c.toNat = n at *
  have hcase : n < 48 ∨ (48 ≤ n ∧ n ≤ 57) ∨ 57 < n := by omega
  rcases hcase with h | ⟨h, h'⟩ | h
  · rw [show (decide (48 ≤ n) && decide (n ≤ 57)) = false by simp; try omega]
    have d1 : decide ((48 : Int) ≤ n) = false := by simp; omega
    have d2 : decide ((n : Int) ≤ 57) = true := by simp; omega
    go_enter Try.func60, Try.ntmps60
    go_wp2
    go_ret
    exact ⟨rfl, rfl⟩
  · rw [show (decide (48 ≤ n) && decide (n ≤ 57)) = true by simp; try omega]
    have d1 : decide ((48 : Int) ≤ n) = true := by simp; omega
    have d2 : decide ((n : Int) ≤ 57) = true := by simp; omega
    go_enter Try.func60, Try.ntmps60
    go_wp2
    go_ret
    exact ⟨rfl, rfl⟩
  · rw [show (decide (48 ≤ n) && decide (n ≤ 57)) = false by simp; try omega]
    have d1 : decide ((48 : Int) ≤ n) = true := by simp; omega
    have d2 : decide ((n : Int) ≤ 57) = false := by simp; omega
    go_enter Try.func60, Try.ntmps60
    go_wp2
    go_ret
    exact ⟨rfl, rfl⟩
/-- A text may be a name. -/
def okN (s : ByteArray) : Bool := decide (1 ≤ s.size) && decide (s.size ≤ 40) && (match s.data.toList with | [] => false | c :: _ => ltr c) && s.data.toList.all nam && !kw s.data.toList
theorem okN_head {s : ByteArray} (h : 0 < s.size) : (match s.data.toList with | [] => false | c :: _ => ltr c) = ltr s[0] := by
  have := drop_cons s 0 h
  rw [List.drop_zero] at this
  rw [this]
theorem all_drop {s : ByteArray} {j : Nat} (h : j < s.size) : (s.data.toList.drop j).all nam = (nam s[j] && (s.data.toList.drop (j + 1)).all nam) := by
  rw [drop_cons s j h, List.all_cons]
set_option maxRecDepth 100000 in
set_option maxHeartbeats 4000000 in
theorem nameP_any (s : ByteArray) (w : World) (hs : s.size ≤ 9223372036854775807) :
    Calls Try.prog 48 #[.string s] w fun e w' => e = .returned (.bool (okN s)) ∧ Below w.heap.size w w' := by
  have HK := Lib.hid (fun w => word_any s w hs)
  by_cases h0 : s.size = 0
  · have hr : okN s = false := by unfold okN; simp [h0]
    rw [hr]
    clear hr
    have h0' : ((s.size : Int) = 0) := by omega
    go_enter Try.func48, Try.ntmps48
    go_wp2
    go_ret
    exact ⟨rfl, Below.refl _ _⟩
  by_cases h40 : 40 < s.size
  · have hr : okN s = false := by unfold okN; simp; omega
    rw [hr]
    clear hr
    have h0' : ¬ ((s.size : Int) = 0) := by omega
    have h1' : ((40 : Int) < (s.size : Int)) := by omega
    go_enter Try.func48, Try.ntmps48
    go_wp2
    go_ret
    exact ⟨rfl, Below.refl _ _⟩
  have hp : 0 < s.size := by omega
  have h0' : ¬ ((s.size : Int) = 0) := by omega
  have h1' : ¬ ((40 : Int) < (s.size : Int)) := by omega
  have hq : ((s.size : Int) == 0) = false := beq_eq_false_iff_ne.2 h0'
  by_cases hl : ltr s[0] = true
  · obtain ⟨B, hB⟩ : ∃ B, okN s = B := ⟨_, rfl⟩
    rw [hB]
    have HB : Hid (((s.data.toList.drop 0).all nam && !kw s.data.toList) = B) := by
      show _ = _
      rw [← hB, List.drop_zero]
      unfold okN
      rw [okN_head hp, hl, decide_eq_true (by omega : 1 ≤ s.size), decide_eq_true (by omega : s.size ≤ 40)]
      simp
    clear hB
    have HL0 := Lib.hid (isLetter_any s[0])
    rw [hl] at HL0
    clear hl
    go_enter Try.func48, Try.ntmps48
    go_wp2_with (go_at_call 59; refine (HL0.out _).mono ?_; rintro e w1 ⟨rfl, rfl⟩)
    clear HL0
    go_loopw [20] (fun i wr => ∃ j : Nat, i = .int .i64 (j : Nat) ∧ Hid (j ≤ s.size) ∧ Hid (((s.data.toList.drop j).all nam && !kw s.data.toList) = B) ∧ wr = w) (fun i _ => s.size - (RowKit.intOf i).toNat)
    case atStart => exact ⟨0, rfl, Nat.zero_le _, HB, rfl⟩
    case round =>
      obtain ⟨j, rfl, HJ, HA, rfl⟩ := hrel
      clear HB
      by_cases hj : j < s.size
      · have hj' : ((j : Int) < (s.size : Int)) := by omega
        have hj0 : (0 : Int) ≤ (j : Int) := by omega
        have hwj := IntWalk.i64_in ((j : Int) + 1) ⟨by omega, by omega⟩
        have HA2 := Lib.hid (all_drop hj)
        have L := Lib.hid (isLetter_any s[j])
        have D := Lib.hid (isDigit_any s[j])
        by_cases hn : nam s[j] = true
        · have HN : Hid (((s.data.toList.drop (j + 1)).all nam && !kw s.data.toList) = B) := by
            have h1 := HA.out
            rw [HA2.out, hn, Bool.true_and] at h1
            exact h1
          unfold nam at hn
          clear HA HA2
          generalize ltr s[j] = x at *
          generalize dgt s[j] = y at *
          cases x
          · have hy : y = true := by simpa using hn
            subst hy
            clear hn
            go_wp2_with (first | (go_at_call 59; refine (L.out _).mono ?_; rintro e w1 ⟨rfl, rfl⟩) | (go_at_call 60; refine (D.out _).mono ?_; rintro e w1 ⟨rfl, rfl⟩))
            case roundEnd => exact ⟨⟨j + 1, by push_cast; rfl, hj, HN, by first | rfl | trivial⟩, by simp [RowKit.intOf]; omega⟩
          · clear hn
            go_wp2_with (first | (go_at_call 59; refine (L.out _).mono ?_; rintro e w1 ⟨rfl, rfl⟩) | (go_at_call 60; refine (D.out _).mono ?_; rintro e w1 ⟨rfl, rfl⟩))
            case roundEnd => exact ⟨⟨j + 1, by push_cast; rfl, hj, HN, by first | rfl | trivial⟩, by simp [RowKit.intOf]; omega⟩
        · have hn : nam s[j] = false := by simpa using hn
          have HN : Hid (false = B) := by
            have h1 := HA.out
            rw [HA2.out, hn] at h1
            show _ = _
            simpa using h1
          obtain ⟨hx, hy⟩ : ltr s[j] = false ∧ dgt s[j] = false := by unfold nam at hn; simpa using hn
          rw [hx] at L
          rw [hy] at D
          clear hn hx hy HA HA2
          go_wp2_with (first | (go_at_call 59; refine (L.out _).mono ?_; rintro e w1 ⟨rfl, rfl⟩) | (go_at_call 60; refine (D.out _).mono ?_; rintro e w1 ⟨rfl, rfl⟩))
          go_ret
          exact ⟨by rw [← HN.out]; rfl, Below.refl _ _⟩
      · have hj' : ¬ ((j : Int) < (s.size : Int)) := by omega
        have hA := HA.out
        rw [drop_nil s j (by omega)] at hA
        simp only [List.all_nil, Bool.true_and] at hA
        have HA3 := Lib.hid hA
        clear hA HA
        go_wp2_with (go_at_call 61; refine (HK.out _).mono ?_; rintro e w1 ⟨rfl, hb⟩; have HB1 := Lib.hid hb; clear hb)
        go_ret
        exact ⟨by rw [← HA3.out]; rfl, HB1.out⟩
  · have hl : ltr s[0] = false := by simpa using hl
    have hr : okN s = false := by unfold okN; rw [okN_head hp, hl]; simp
    rw [hr]
    have HL0 := Lib.hid (isLetter_any s[0])
    rw [hl] at HL0
    clear hr hl
    go_enter Try.func48, Try.ntmps48
    go_wp2_with (go_at_call 59; refine (HL0.out _).mono ?_; rintro e w1 ⟨rfl, rfl⟩)
    go_ret
    exact ⟨rfl, Below.refl _ _⟩
end Go.Proofs.Ytlakmniaocpaaaa
