/-
  Bytes' classes, the map of the language's words, the document's own list of them. Condition: at most 2^63 - 1 bytes.
-/
import Derived.Test.YtofdejoeheokjaaMath
import Derived.Test.YtofdejoeheokjaaTma
import Derived.WalkSpells
import Derived.WalkLawsBesides
import Derived.Lib.OthersKept
import Derived.Maps.OwnOps
import Derived.Maps.Views
import Derived.StringKeys
namespace Go.Proofs.Ytofdejoeheokjaa
open Go.RowKit
open Go.Lib hiding intOf
open Go.Maps (Keyed)


theorem size_toList (s : ByteArray) : s.data.toList.length = s.size := by simp
theorem list_get (s : ByteArray) (k : Nat) (h : k < s.size) : s.data.toList[k]'(by simpa using h) = s[k] := rfl
theorem drop_cons (s : ByteArray) (k : Nat) (h : k < s.size) : s.data.toList.drop k = s[k] :: s.data.toList.drop (k + 1) := by
  rw [List.drop_eq_getElem_cons (by simpa using h)]; rfl
theorem drop_nil (s : ByteArray) (k : Nat) (h : s.size ≤ k) : s.data.toList.drop k = [] := by
  rw [List.drop_eq_nil_iff]; simpa using h

theorem u8_beq (c d : UInt8) : (((c.toNat : Nat) : Int) == ((d.toNat : Nat) : Int)) = (c == d) := by
  by_cases h : c = d
  · subst h; simp
  · have h2 : (c == d) = false := beq_eq_false_iff_ne.2 h
    rw [h2]
    refine beq_eq_false_iff_ne.2 fun e => h (UInt8.toNat_inj.1 (by omega))
theorem u8_ne {c d : UInt8} (h : c ≠ d) : c.toNat ≠ d.toNat := fun e => h (UInt8.toNat_inj.1 e)

theorem refLetter_any (c : UInt8) (w : World) : Calls Try.prog 40 #[.int .u8 (c.toNat : Nat)] w fun e w' => e = .returned (.bool (ltr c)) ∧ w = w' := by
  by_cases h95 : c = 95
  · subst h95
    go_enter Try.func40, Try.ntmps40
    go_wp2
    go_ret
    exact ⟨rfl, rfl⟩
  have e95 := u8_ne h95
  have b95 : (((c.toNat : Nat) : Int) == 95) = false := beq_eq_false_iff_ne.2 fun e => e95 (by show c.toNat = 95; omega)
  have hl : ltr c = ((decide (65 ≤ c.toNat) && decide (c.toNat ≤ 90)) || (decide (97 ≤ c.toNat) && decide (c.toNat ≤ 122))) := by simp [ltr, h95]
  rw [hl]
  clear hl h95 e95
  generalize c.toNat = n at *
  have hcase : n < 65 ∨ (65 ≤ n ∧ n ≤ 90) ∨ (91 ≤ n ∧ n < 97) ∨ (97 ≤ n ∧ n ≤ 122) ∨ 122 < n := by omega
  rcases hcase with h | ⟨h, h'⟩ | ⟨h, h'⟩ | ⟨h, h'⟩ | h
  · rw [show (decide (65 ≤ n) && decide (n ≤ 90) || decide (97 ≤ n) && decide (n ≤ 122)) = false by simp; try omega]
    have d1 : decide ((65 : Int) ≤ n) = false := by simp; omega
    have d2 : decide ((n : Int) ≤ 90) = true := by simp; omega
    have d3 : decide ((97 : Int) ≤ n) = false := by simp; omega
    have d4 : decide ((n : Int) ≤ 122) = true := by simp; omega
    go_enter Try.func40, Try.ntmps40
    go_wp2
    go_ret
    exact ⟨rfl, rfl⟩
  · rw [show (decide (65 ≤ n) && decide (n ≤ 90) || decide (97 ≤ n) && decide (n ≤ 122)) = true by simp; try omega]
    have d1 : decide ((65 : Int) ≤ n) = true := by simp; omega
    have d2 : decide ((n : Int) ≤ 90) = true := by simp; omega
    have d3 : decide ((97 : Int) ≤ n) = false := by simp; omega
    have d4 : decide ((n : Int) ≤ 122) = true := by simp; omega
    go_enter Try.func40, Try.ntmps40
    go_wp2
    go_ret
    exact ⟨rfl, rfl⟩
  · rw [show (decide (65 ≤ n) && decide (n ≤ 90) || decide (97 ≤ n) && decide (n ≤ 122)) = false by simp; try omega]
    have d1 : decide ((65 : Int) ≤ n) = true := by simp; omega
    have d2 : decide ((n : Int) ≤ 90) = false := by simp; omega
    have d3 : decide ((97 : Int) ≤ n) = false := by simp; omega
    have d4 : decide ((n : Int) ≤ 122) = true := by simp; omega
    go_enter Try.func40, Try.ntmps40
    go_wp2
    go_ret
    exact ⟨rfl, rfl⟩
  · rw [show (decide (65 ≤ n) && decide (n ≤ 90) || decide (97 ≤ n) && decide (n ≤ 122)) = true by simp; try omega]
    have d1 : decide ((65 : Int) ≤ n) = true := by simp; omega
    have d2 : decide ((n : Int) ≤ 90) = false := by simp; omega
    have d3 : decide ((97 : Int) ≤ n) = true := by simp; omega
    have d4 : decide ((n : Int) ≤ 122) = true := by simp; omega
    go_enter Try.func40, Try.ntmps40
    go_wp2
    go_ret
    exact ⟨rfl, rfl⟩
  · rw [show (decide (65 ≤ n) && decide (n ≤ 90) || decide (97 ≤ n) && decide (n ≤ 122)) = false by simp; try omega]
    have d1 : decide ((65 : Int) ≤ n) = true := by simp; omega
    have d2 : decide ((n : Int) ≤ 90) = false := by simp; omega
    have d3 : decide ((97 : Int) ≤ n) = true := by simp; omega
    have d4 : decide ((n : Int) ≤ 122) = false := by simp; omega
    go_enter Try.func40, Try.ntmps40
    go_wp2
    go_ret
    exact ⟨rfl, rfl⟩

theorem refDigit_any (c : UInt8) (w : World) : Calls Try.prog 42 #[.int .u8 (c.toNat : Nat)] w fun e w' => e = .returned (.bool (dgt c)) ∧ w = w' := by
  unfold dgt
  generalize c.toNat = n at *
  have hcase : n < 48 ∨ (48 ≤ n ∧ n ≤ 57) ∨ 57 < n := by omega
  rcases hcase with h | ⟨h, h'⟩ | h
  · rw [show (decide (48 ≤ n) && decide (n ≤ 57)) = false by simp; try omega]
    have d1 : decide ((48 : Int) ≤ n) = false := by simp; omega
    have d2 : decide ((n : Int) ≤ 57) = true := by simp; omega
    go_enter Try.func42, Try.ntmps42
    go_wp2
    go_ret
    exact ⟨rfl, rfl⟩
  · rw [show (decide (48 ≤ n) && decide (n ≤ 57)) = true by simp; try omega]
    have d1 : decide ((48 : Int) ≤ n) = true := by simp; omega
    have d2 : decide ((n : Int) ≤ 57) = true := by simp; omega
    go_enter Try.func42, Try.ntmps42
    go_wp2
    go_ret
    exact ⟨rfl, rfl⟩
  · rw [show (decide (48 ≤ n) && decide (n ≤ 57)) = false by simp; try omega]
    have d1 : decide ((48 : Int) ≤ n) = true := by simp; omega
    have d2 : decide ((n : Int) ≤ 57) = false := by simp; omega
    go_enter Try.func42, Try.ntmps42
    go_wp2
    go_ret
    exact ⟨rfl, rfl⟩



/-- 'm[k] = v' in a literal. -/
theorem wpList_insert_own {H : Type} {P : Program} (w : World) {ops : Array Oper} {rest : List Oper} {o : Oper} {a : Act} {Q : Exit → Act → World → Prop}
    (hg : o.guard = none) (m x v : Operand) (t : TypeId) (hop : o.op = Op.insert t m x v)
    (k e : TypeId) (K : Keyed P k) (ht : P.underlying t = some (.map k e)) (R : Value → Option (DataW H × List MemPlace)) (b n : Nat) (D : DataW H)
    (hm : a.eval m = .map (some b)) (hown : w.ownsMap P k R b n D) (hn : n < maxLen) (key val : Value) (kl : Lit) (hx : a.eval x = key) (hv : a.eval v = val) (hkey : keyOf P k key = some kl)
    (d : DataW H) (ps : List MemPlace) (hval : R val = some (d, ps))
    (hK : ∀ w', w'.ownsMap P k R b (n + 1) (D.put kl d) → w.grownBy w' (some b) → wpList P ops Q rest (a.put o.dst undef) w') :
    wpList P ops Q (o :: rest) a w := by
  refine wpList_plain hg fun K' hK' => ?_
  obtain ⟨w', hrun, r1, r2⟩ := hown.update K ht hn hkey hval
  unfold Oper.wp
  simp [execOp, hop, hm, hx, hv, hrun, Result.andThen]
  exact hK' _ _ (hK w' r1 r2)

/-- What the map reads as, when some words have been put in. -/
def wordsD (ks : List (List UInt8)) : DataW Unit := ks.foldl (fun D k => D.put (.string k) (.lit (.int .i64 5))) (.map [])

theorem wordsD_isMap (ks : List (List UInt8)) (D : DataW Unit) (h : Maps.IsMap D) : Maps.IsMap (ks.foldl (fun D k => D.put (.string k) (.lit (.int .i64 5))) D) := by
  induction ks generalizing D with
  | nil => exact h
  | cons k r ih => exact ih _ (h.put _ _)

theorem wordsD_map (ks : List (List UInt8)) : Maps.IsMap (wordsD ks) := wordsD_isMap ks _ Maps.isMap_empty

theorem wordsD_snoc (ks : List (List UInt8)) (k : List UInt8) : wordsD (ks ++ [k]) = (wordsD ks).put (.string k) (.lit (.int .i64 5)) := by
  unfold wordsD; rw [List.foldl_append]; rfl

theorem wordsD_at (ks : List (List UInt8)) (l : List UInt8) : (wordsD ks).atKey (.string l) (.lit (.int .i64 0)) = .lit (.int .i64 (if l ∈ ks then 5 else 0)) := by
  suffices h : ∀ r : List (List UInt8), (wordsD r.reverse).atKey (.string l) (.lit (.int .i64 0)) = .lit (.int .i64 (if l ∈ r then 5 else 0)) by
    have := h ks.reverse
    rw [List.reverse_reverse] at this
    rw [this]; simp
  intro r
  induction r with
  | nil => rfl
  | cons k r ih =>
    rw [List.reverse_cons, wordsD_snoc]
    by_cases h : l = k
    · subst h
      rw [Maps.atKey_put_same (wordsD_map _) (by trivial)]
      simp
    · rw [Maps.atKey_put_other (by intro e; injection e with e; exact h e), ih]
      simp [h]

/-- The map of the words lies in a block. -/
def WordsAt (w : World) (b : Nat) : Prop := w.ownsMap Try.prog 9 (plainElem (H := Unit) Try.prog 3) b 17 (wordsD kws)

def KS (w0 w : World) (n : Nat) (D : DataW Unit) : Prop := w.ownsMap Try.prog 9 (plainElem (H := Unit) Try.prog 3) w0.heap.size n D ∧ Below w0.heap.size w0 w

theorem KS.next {w0 w w1 : World} {n n' : Nat} {D D' : DataW Unit} (h : KS w0 w n D) (ho : w1.ownsMap Try.prog 9 (plainElem (H := Unit) Try.prog 3) w0.heap.size n' D') (hg : w.grownBy w1 (some w0.heap.size)) : KS w0 w1 n' D' :=
  ⟨ho, h.2.grown hg h.2.size (fun k e => by cases e; exact Nat.le_refl _)⟩

theorem KS.start (w : World) : KS w (w.alloc (.map #[] 0)) 0 (.map []) := ⟨World.ownsMap_made w _ _ _, (Below.refl _ w).alloc (Nat.le_refl _) _⟩

theorem five : plainElem (H := Unit) Try.prog 3 (.int .i64 5) = some (.lit (.int .i64 5), []) := plainElem_int Try.underlying3 (by decide)

set_option maxRecDepth 100000 in
set_option maxHeartbeats 2000000 in
theorem keywords_any (w : World) : Calls Try.prog 49 #[] w fun e w' => e = .returned (.map (some w.heap.size)) ∧ WordsAt w' w.heap.size ∧ Below w.heap.size w w' := by
  have hmm := @run_makeMap Try.prog
  have S := KS.start w
  go_enter Try.func49, Try.ntmps49
  go_wp2_with (refine wpList_insert_own _ rfl _ _ _ 66 rfl 9 3 (Maps.string_keyed Try.underlying9) Try.underlying66 _ _ _ _ rfl S.1 (by decide) _ _ _ rfl rfl (WideMaps.keyOf_string_mk Try.underlying9 (by decide)) _ [] five ?_; intro w1 ho hg; replace S := S.next ho hg; clear ho hg)
  go_ret
  exact ⟨rfl, S.1, S.2⟩

set_option maxRecDepth 100000 in
theorem lookup_word {w : World} {b : Nat} (h : WordsAt w b) (t : ByteArray) (ht : t.size ≤ 9223372036854775807) :
    (Instr.lookup 66 (.map (some b)) (.string t) false).run Try.prog w = .ok (.int .i64 (if kw t.data.toList then 5 else 0)) w := by
  obtain ⟨c, hrun, hat, _⟩ := World.ownsMap.lookup_int h (Maps.string_keyed Try.underlying9) Try.underlying66 Try.underlying3 (Try.zeroValue3 _) (WideMaps.keyOf_string_mk Try.underlying9 (s := t) (by unfold maxLen; omega))
  rw [wordsD_at] at hat
  injection hat with hat
  injection hat with _ hat
  rw [hrun, ← hat]
  unfold kw
  by_cases hm : t.data.toList ∈ kws <;> simp [hm]

theorem word_any (t : ByteArray) (w : World) (ht : t.size ≤ 9223372036854775807) : Calls Try.prog 39 #[.string t] w fun e w' => e = .returned (.bool (kw t.data.toList)) ∧ Below w.heap.size w w' := by
  have HK := Lib.hid (keywords_any w)
  cases hk : kw t.data.toList
  all_goals
    have E := Lib.hid hk
    clear hk
    go_enter Try.func39, Try.ntmps39
    go_wp2_with (go_at_call 49; refine HK.out.mono ?_; rintro e w1 ⟨rfl, HW, HB⟩; have hl := lookup_word HW t ht; rw [E.out] at hl; have HB2 := Lib.hid HB; clear HB HW)
    go_ret
    exact ⟨rfl, HB2.out⟩


/-- The words as the document's own function lays them. -/
def kwVals : Array Value := (kws.map fun l => Value.string ⟨l.toArray⟩).toArray

theorem kwVals_at (k : Nat) (hk : k < 17) : kwVals[k]? = some (.string ⟨(kws.getD k []).toArray⟩) := by
  have hl : kws.length = 17 := rfl
  unfold kwVals
  rw [List.getElem?_toArray, List.getElem?_map, List.getD_eq_getElem?_getD, List.getElem?_eq_getElem (by omega)]
  rfl

theorem kws_drop (k : Nat) (hk : k < 17) : kws.drop k = kws.getD k [] :: kws.drop (k + 1) := by
  have hl : kws.length = 17 := rfl
  rw [List.drop_eq_getElem_cons (by omega), List.getD_eq_getElem?_getD, List.getElem?_eq_getElem (by omega)]
  rfl

theorem arr_eq (l : List UInt8) (s : ByteArray) : ((⟨l.toArray⟩ : ByteArray) = s) ↔ l = s.data.toList := by
  constructor
  · rintro rfl; rfl
  · rintro rfl; rfl

set_option maxHeartbeats 1000000 in
theorem refWord_any (s : ByteArray) (w : World) :
    Calls Try.prog 41 #[.string s] w fun e w' => e = .returned (.bool (kw s.data.toList)) ∧ Below w.heap.size w w' := by
  obtain ⟨B, hB⟩ : ∃ B, kw s.data.toList = B := ⟨_, rfl⟩
  rw [hB]
  have HB : Hid (decide (s.data.toList ∈ kws.drop 0) = B) := Lib.hid hB
  clear hB
  obtain ⟨W0, hW0⟩ : ∃ W0, w.alloc (.cells kwVals 9) = W0 := ⟨_, rfl⟩
  have hcell : ∀ k, k < 17 → W0.cell? ⟨w.heap.size, k, none⟩ = some (.string ⟨(kws.getD k []).toArray⟩) := fun k hk => by rw [← hW0]; exact ((Blk.new w 9 kwVals).cell k).trans (kwVals_at k hk)
  have hbel : Below w.heap.size w W0 := by rw [← hW0]; exact (Below.refl _ _).alloc (Nat.le_refl _) _
  have HC := Lib.hid hcell
  have HL := Lib.hid hbel
  have HW := Lib.hid hW0
  clear hcell hbel hW0
  go_enter Try.func41, Try.ntmps41
  go_wp2
  change Code.wp Try.prog _ _ _ (w.alloc (.cells kwVals 9))
  rw [HW.out]
  go_loop [4] (fun i => ∃ k : Nat, k ≤ 17 ∧ i = .int .i64 (k : Nat) ∧ Hid (decide (s.data.toList ∈ kws.drop k) = B)) (fun i => 17 - (RowKit.intOf i).toNat)
  case atStart => exact ⟨0, Nat.zero_le _, rfl, HB⟩
  case round =>
    obtain ⟨k, hk, rfl, HK⟩ := hrel
    clear HB HW
    by_cases hlt : k < 17
    · have hc := HC.out k hlt
      have hd := kws_drop k hlt
      generalize kws.getD k [] = l at *
      by_cases he : l = s.data.toList
      · have hB : true = B := by have h := HK.out; rw [hd, he] at h; simpa using h
        subst hB
        subst he
        clear hd HK
        go_wp2
        go_ret
        exact ⟨rfl, HL.out⟩
      · have HN : Hid (decide (s.data.toList ∈ kws.drop (k + 1)) = B) := by
          have h := HK.out
          rw [hd] at h
          have he' : ¬ s.data.toList = l := fun e => he e.symm
          simp only [List.mem_cons, he', false_or] at h
          exact Lib.hid h
        have hne : ¬ ((⟨l.toArray⟩ : ByteArray) = s) := fun e => he ((arr_eq l s).1 e)
        have hne2 : ((⟨l.toArray⟩ : ByteArray).toList == s.toList) = false := beq_eq_false_iff_ne.2 fun e => he (by rw [ByteArray.toList_eq, ByteArray.toList_eq] at e; exact e)
        clear hne
        generalize (⟨l.toArray⟩ : ByteArray) = x at *
        clear hd HK he
        go_wp2
        go_round
        case rel => exact ⟨k + 1, hlt, by go_num, HN⟩
        case measure => simp [RowKit.intOf]; omega
    · have hB : false = B := by have h := HK.out; rw [show kws.drop k = [] from List.drop_eq_nil_of_le (by show 17 ≤ k; omega)] at h; simpa using h
      subst hB
      go_wp2
      go_ret
      exact ⟨rfl, HL.out⟩

end Go.Proofs.Ytofdejoeheokjaa
