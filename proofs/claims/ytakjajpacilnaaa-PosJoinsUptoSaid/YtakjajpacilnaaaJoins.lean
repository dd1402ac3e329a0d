/-
  PosJoins answers true for every text, where the argument is of bulk at most 1,048,576.
-/
import Derived.Test.YtakjajpacilnaaaAwake
import Derived.Test.YtakjajpacilnaaaBulk
import Derived.Lib.Strings
import Derived.ProofKit
import Derived.OpenShut
import Derived.JoinedCond
namespace Go.Proofs.Ytakjajpacilnaaa.posJoins
open Go.ChangeShapes Go.WideShapes Go.ChangeAt Go.RowKit
open Go.ChangeMaps (open_string shut_string)

theorem own : ownKnob Try.prog.godebug = none := by kernel_rfl

theorem no_ten (l : List UInt8) (m i : Nat) (hm : m ≤ (brk l).length) (h1 : beg l m ≤ i) (h2 : i < stop l m) (hi : i < l.length) : l[i] ≠ 10 := by
  intro h10
  have a := cnt_within l i m hm h1 (by omega)
  have b := cnt_within l (i + 1) m hm (by omega) (by omega)
  have c := (cnt_succ_ten l i hi h10).1
  omega

theorem ten_at (l : List UInt8) (m : Nat) (hm : m < (brk l).length) (hi : stop l m < l.length) : l[stop l m] = 10 := by
  by_cases h : l[stop l m] = 10
  · exact h
  · have h0 := beg_le_stop l m (by omega)
    have h1 := beg_le_stop l (m + 1) (by omega)
    have hs := beg_succ l m hm
    have a := cnt_within l (stop l m) m (by omega) h0.1 (Nat.le_refl _)
    have b := cnt_within l (stop l m + 1) (m + 1) (by omega) (by omega) (by omega)
    have c := cnt_succ_other l (stop l m) hi h
    omega

/-- What the first k lines make. -/
def pre (l : List UInt8) (k : Nat) : List UInt8 := if k = 0 then [] else l.take (stop l (k - 1))

theorem pre_first (l : List UInt8) : [] ++ (l.drop (beg l 0)).take (stop l 0 - beg l 0) = pre l 1 := by
  have e : beg l 0 = 0 := by simp [beg]
  rw [e]; simp [pre]

theorem pre_step (l : List UInt8) (k : Nat) (h0 : k ≠ 0) (hk : k ≤ (brk l).length) : pre l k ++ [10] ++ (l.drop (beg l k)).take (stop l k - beg l k) = pre l (k + 1) := by
  have h1 := beg_le_stop l (k - 1) (by omega)
  have h2 := beg_le_stop l k hk
  have hs := beg_succ l (k - 1) (by omega)
  rw [show k - 1 + 1 = k by omega] at hs
  have hi : stop l (k - 1) < l.length := by omega
  have ht := ten_at l (k - 1) (by omega) hi
  have e1 : l.take (stop l (k - 1) + 1) = l.take (stop l (k - 1)) ++ [10] := by rw [List.take_succ_eq_append_getElem hi, ht]
  unfold pre
  rw [if_neg h0, if_neg (by omega), ← e1, hs, show k + 1 - 1 = k by omega]
  rw [← List.take_add]
  congr 1
  omega

theorem pre_all (l : List UInt8) : pre l ((brk l).length + 1) = l := by
  unfold pre
  rw [if_neg (by omega)]
  have e : stop l ((brk l).length + 1 - 1) = l.length := by simp [stop]
  rw [e, List.take_length]

theorem pre_len (l : List UInt8) (k : Nat) : (pre l k).length ≤ l.length := by
  unfold pre; split
  · simp
  · rw [List.length_take]; omega

/-- A line of the text, as the walk wants it: its bytes, that none is 10, and what it makes of what stands ahead. -/
theorem line_facts (s : ByteArray) (k : Nat) (hk : k ≤ (brk s.data.toList).length) (acc : ByteArray) (ha : acc.data.toList = pre s.data.toList k) :
    ∃ x : ByteArray, s.extract (beg s.data.toList k) (stop s.data.toList k) = x ∧ x.size ≤ s.size ∧ (∀ j (hj : j < x.size), x[j] ≠ 10) ∧
      (k = 0 → (acc ++ x).data.toList = pre s.data.toList (k + 1)) ∧ (k ≠ 0 → (acc ++ ⟨#[10]⟩ ++ x).data.toList = pre s.data.toList (k + 1)) := by
  have hb := beg_le_stop s.data.toList k hk
  rw [size_toList] at hb
  have hd := Lib.extract_data s (beg s.data.toList k) (stop s.data.toList k)
  have hsz : (s.extract (beg s.data.toList k) (stop s.data.toList k)).size = stop s.data.toList k - beg s.data.toList k := by rw [ByteArray.size_extract]; omega
  refine ⟨_, rfl, by omega, fun j hj => ?_, fun h0 => ?_, fun h0 => ?_⟩
  · have hj2 : beg s.data.toList k + j < s.data.toList.length := by rw [size_toList]; omega
    have e : (s.extract (beg s.data.toList k) (stop s.data.toList k))[j] = s.data.toList[beg s.data.toList k + j] := by
      have e1 : (s.extract (beg s.data.toList k) (stop s.data.toList k))[j] = (s.extract (beg s.data.toList k) (stop s.data.toList k)).data.toList[j]'(by rw [size_toList]; exact hj) := rfl
      rw [e1]
      simp only [hd, List.getElem_take, List.getElem_drop]
    rw [e]
    exact no_ten s.data.toList k _ hk (by omega) (by omega) hj2
  · subst h0
    rw [ByteArray.data_append, Array.toList_append, ha, hd]
    exact pre_first s.data.toList
  · rw [ByteArray.data_append, Array.toList_append, ByteArray.data_append, Array.toList_append, ha, hd]
    exact pre_step s.data.toList k h0 hk

/-- The outer loop's relation: k lines have been put behind each other. -/
def JRel (s : ByteArray) (w wr : World) (b : Nat) (o : Option Addr) (cap : Nat) (all i : Value) : Prop :=
  ∃ (k : Nat) (acc : ByteArray), k ≤ (brk s.data.toList).length + 1 ∧ i = .int .i64 ((k : Int) + 1) ∧ all = .string acc ∧ acc.size ≤ s.size ∧ acc.data.toList = pre s.data.toList k ∧ St w wr b s o cap

theorem size_of_pre {s acc : ByteArray} {k : Nat} (h : acc.data.toList = pre s.data.toList k) : acc.size ≤ s.size := by
  have := pre_len s.data.toList k
  rw [← h, size_toList, size_toList] at this
  exact this

set_option maxHeartbeats 1000000 in
set_option maxRecDepth 100000 in
theorem walk (s : ByteArray) (w : World) (hs : s.size ≤ 1048576) :
    Calls Try.prog 7 #[.string s] w fun e w' => e = .returned (.bool true) ∧ Below w.heap.size w w' := by
  have hlen := brk_len_le s.data.toList
  rw [size_toList] at hlen
  have HA := Lib.hid (awake_any w)
  have HN := Lib.hid (fun w1 => new_any s w1 (by omega))
  have HC := Lib.hid (fun (w1 : World) (b cap : Nat) (o : Option Addr) (I : IsLines w1 b s o cap) => count_any b _ cap o w1 I.behind (by omega))
  by_cases hbig : 3000 < s.size
  · go_enter Try.func7, Try.ntmps7
    go_wp2_with fail
    refine HA.out.mono ?_
    rintro e w1 ⟨rfl, hB1⟩
    go_wp2_with fail
    refine (HN.out _).mono ?_
    rintro e w2 ⟨b, o, cap, rfl, I, hB⟩
    have S2 : St w w2 b s o cap := ⟨I, hB1.trans (hB.mono hB1.size)⟩
    clear I hB hB1
    go_wp2
    go_ret
    exact ⟨rfl, S2.2⟩
  · have hsm : s.size ≤ 3000 := by omega
    clear hbig hs
    go_enter Try.func7, Try.ntmps7
    go_wp2_with fail
    refine HA.out.mono ?_
    rintro e w1 ⟨rfl, hB1⟩
    go_wp2_with fail
    refine (HN.out _).mono ?_
    rintro e w2 ⟨b, o, cap, rfl, I, hB⟩
    have S2 : St w w2 b s o cap := ⟨I, hB1.trans (hB.mono hB1.size)⟩
    clear I hB hB1
    go_wp2_with fail
    refine (HC.out _ _ _ _ S2.1).mono ?_
    rintro e w3 ⟨rfl, rfl⟩
    go_wp2_with fail
    go_loopw [5, 7] (fun all i wr => JRel s w wr b o cap all i) (fun _ i _ => s.size + 3 - (intOf i).toNat)
    case atStart => exact ⟨0, ⟨#[]⟩, Nat.zero_le _, rfl, rfl, Nat.zero_le _, rfl, S2⟩
    case round =>
      obtain ⟨k, acc, hk, rfl, rfl, hacc, hpre, S⟩ := hrel
      clear S2
      by_cases hlt : k ≤ (brk s.data.toList).length
      · obtain ⟨x, hx1, hx2, hx3, hx4, hx5⟩ := line_facts s k hlt acc hpre
        have HL : ∀ w3 : World, IsLines w3 b s o cap → Calls Try.prog 18 #[.pointer (some ⟨b, 0, none⟩), .int .i64 ((k : Int) + 1)] w3 fun e w' => e = .returned (.tuple #[.string x, .int .i64 0]) ∧ Below w3.heap.size w3 w' := fun w3 I => by
          have h := line_in b cap k s o ((k : Int) + 1) w3 I (by omega) rfl hlt
          rw [hx1] at h
          exact h
        have HL := Lib.hid HL
        have H3 := Lib.hid hx3
        have H4 := Lib.hid hx4
        have H5 := Lib.hid hx5
        clear hx1 hx3 hx4 hx5 hpre
        go_wp2_with fail
        refine (HL.out _ S.1).mono ?_
        rintro e w4 ⟨rfl, hB⟩
        have S4 := S.next hB
        clear hB S
        go_wp2_with fail
        go_loop [10] (fun j => ∃ n : Nat, n ≤ x.size ∧ j = .int .i64 (n : Nat)) (fun j => x.size - (intOf j).toNat)
        case atStart => exact ⟨0, Nat.zero_le _, rfl⟩
        case round =>
          obtain ⟨n, hn, rfl⟩ := hrel
          by_cases hnx : n < x.size
          · have hb : (((x[n]).toNat : Int) == 10) = false := by
              have h := H3.out n hnx
              rw [beq_eq_false_iff_ne]
              intro e
              exact h (UInt8.toNat_inj.1 (by simpa using Int.ofNat.inj e))
            go_wp2_with fail
            go_round
            case rel => exact ⟨n + 1, hnx, by go_num⟩
            case measure => simp [intOf]; omega
          · by_cases h0 : k < 1
            · have R : JRel s w w4 b o cap (.string (acc ++ x)) (.int .i64 ((k : Int) + 1 + 1)) :=
                ⟨k + 1, acc ++ x, by omega, by go_num, rfl, size_of_pre (H4.out (by omega)), H4.out (by omega), S4⟩
              have R := Lib.hid R
              clear S4
              go_wp2_with fail
              go_roundw
              case rel => exact R.out
              case measure => simp [intOf]; omega
            · have h1 : 1 ≤ k := by omega
              have R : JRel s w w4 b o cap (.string (acc ++ ⟨#[10]⟩ ++ x)) (.int .i64 ((k : Int) + 1 + 1)) :=
                ⟨k + 1, acc ++ ⟨#[10]⟩ ++ x, by omega, by go_num, rfl, size_of_pre (H5.out (by omega)), H5.out (by omega), S4⟩
              have R := Lib.hid R
              clear S4 h0
              go_wp2_with fail
              go_roundw
              case rel => exact R.out
              case measure => simp [intOf]; omega
      · have hk2 : k = (brk s.data.toList).length + 1 := by omega
        rw [hk2, pre_all] at hpre
        have hE : (acc.toList == s.toList) = true := by rw [Lib.toList_data, Lib.toList_data, hpre]; simp
        have SS := Lib.hid S.2
        clear hk2 hpre S
        go_wp2_with fail
        go_ret
        exact ⟨rfl, SS.out⟩

theorem contract (H : Type) (enc : TypeId × Value → H) (W : World) (base : Nat) (args : Array Value) (ds gs : List (DataW H)) (before : List MemPlace)
    (hval : ∀ (j : Nat) t v, Try.f7.params[j]? = some t → args[j]? = some v → Value.okWide Try.prog W .any base t v)
    (hW : DataW.Whole enc Try.prog Try.f7.params.toList Rows.posJoinsSpec.vars false W args.toList ds gs before) (hk : Rows.uptoSmall H (ds ++ gs) = true) :
    Calls Try.prog 7 args W fun e W' => ∃ v, e = .returned v ∧ Rows.posJoinsSpec.post enc Try.prog Try.f7 false true false false W args v W' := by
  have hW' := hW
  obtain ⟨p, q, hA0, hV, rfl, hfz, hnd⟩ := hW
  have hA : DataW.TrodAll enc Try.prog W 0 (fun _ => true) true Try.f7.params.toList args.toList ds p := hA0
  rw [Try.params7] at hA hval
  obtain ⟨v0, vs0, d0, ds0, p0, q0, hargs, rfl, rfl, h0, r0⟩ := trodAll_cons hA
  obtain ⟨rfl, rfl, rfl⟩ := trodAll_nil r0
  obtain rfl : args = #[v0] := by cases args; simp_all
  obtain ⟨rfl, rfl⟩ := trodVars_none hV
  obtain ⟨a0, rfl, rfl, rfl, w0⟩ := open_string Try.underlying9 (hval 0 9 v0 rfl rfl) h0
  clear hA0
  simp only [List.append_nil] at hW' hk
  refine (walk a0 W (short hk)).mono fun e W' ⟨he, hg⟩ => ?_
  subst he
  exact ⟨_, rfl, _, _, _, [], [], [], hW', (trodAll_cons_mk (shut_bool Try.underlying4 _) trodAll_mk0), (trodAll_cons_mk (shut_string Try.underlying9 w0) trodAll_mk0), rfl, hg.frame _, fun h => by cases h⟩

set_option maxRecDepth 100000 in
theorem lifted (os : Os) (started : os.Started) (H : Type) (enc : TypeId × Value → H) (F : Stop.Interp) :
    ReturnsInHanded {} Try.checked os 7 .any ((Rows.OpenSpec.upto Rows.posJoinsSpec).pre6 enc Try.prog Try.f7 Rows.posJoinsUptoRow.domain false) (((Rows.OpenSpec.upto Rows.posJoinsSpec).at F).post enc Try.prog Try.f7 false true false false) := by
  refine returnsInHanded_of_cond (C := Try.checked) (s := Rows.OpenSpec.upto Rows.posJoinsSpec) (k := Rows.uptoSmall) rfl own started (by kernel_rfl) Try.func7
    (OpenSpec.witness (enc := enc) (C := Try.checked) (s := Rows.OpenSpec.upto Rows.posJoinsSpec) (k := Rows.uptoSmall) rfl false ⟨#[], #[.string .empty], []⟩ 8 (by kernel_rfl) (by kernel_rfl) (by kernel_rfl)
      (x := ([.lit (.string [])], [], [])) (by kernel_rfl) rfl (by kernel_rfl)) ?_
  intro W base args ds gs before hval hW _ hk _
  exact contract H enc W base args ds gs before hval hW hk

/-- PosJoins answers true, where what it reads is of bulk at most 1,048,576. -/
theorem proved : Rows.PosJoinsUptoSaid :=
  OpenClaim.holds_of_cond 7 Try.f7 rfl rfl rfl rfl rfl rfl rfl ⟨rfl, rfl, rfl, rfl, rfl⟩ rfl rfl rfl rfl rfl (by kernel_rfl) Try.func7 (by kernel_rfl)
    (of_decide_eq_true (by kernel_rfl)) (by unfold Func.isWrapper; first | (rw [if_pos (by decide +kernel)]; kernel_rfl) | (rw [if_neg (by decide +kernel)]; exact ⟨rfl, rfl⟩))
    (fun os started H enc _ F => lifted os started H enc F)

end Go.Proofs.Ytakjajpacilnaaa.posJoins
