/-
  PosBack answers true for every text, place, line and column, where the arguments are together of bulk at most 1,048,576.
-/
import Derived.Test.YtakjajpacilnaaaAwake
import Derived.Test.YtakjajpacilnaaaBulk
import Derived.ProofKit
import Derived.OpenShut
import Derived.JoinedCond
namespace Go.Proofs.Ytakjajpacilnaaa.posBack
open Go.ChangeShapes Go.WideShapes Go.ChangeAt Go.RowKit
open Go.ChangeMaps (open_string shut_string)

theorem own : ownKnob Try.prog.godebug = none := by kernel_rfl

/-- What Place and At answer of one text's Lines, in whatever memory. -/
def PlaceIs (s : ByteArray) (n A B E : Int) : Prop := ∀ (w : World) (b : Nat) (o : Option Addr) (cap : Nat), IsLines w b s o cap →
  Calls Try.prog 12 #[.pointer (some ⟨b, 0, none⟩), .int .i64 n] w fun e w' => e = .returned (.tuple #[.int .i64 A, .int .i64 B, .int .i64 E]) ∧ Below w.heap.size w w'
def AtIs (s : ByteArray) (l c n E : Int) : Prop := ∀ (w : World) (b : Nat) (o : Option Addr) (cap : Nat), IsLines w b s o cap →
  Calls Try.prog 16 #[.pointer (some ⟨b, 0, none⟩), .int .i64 l, .int .i64 c] w fun e w' => e = .returned (.tuple #[.int .i64 n, .int .i64 E]) ∧ w = w'

theorem there (s : ByteArray) (n : Int) (hs : s.size ≤ 1048576) : (∃ A B, PlaceIs s n A B 0 ∧ AtIs s A B n 0) ∨ PlaceIs s n 0 0 10 := by
  by_cases h0 : n < 0
  · exact .inr fun w b o cap _ => place_low b n w h0
  · by_cases h1 : (s.size : Int) < n
    · exact .inr fun w b o cap I => place_high b s n w I.text (by omega) h1
    · obtain ⟨k, rfl⟩ := Int.eq_ofNat_of_zero_le (show 0 ≤ n by omega)
      have hk : k ≤ s.size := by omega
      have hw := within_cnt s.data.toList k (by rw [size_toList]; exact hk)
      refine .inl ⟨_, _, fun w b o cap I => place_any b cap k s o w I (by omega) hk, fun w b o cap I => ?_⟩
      have h := at_in b cap (cnt s.data.toList k) s o (1 + (cnt s.data.toList k : Int)) ((k : Int) - beg s.data.toList (cnt s.data.toList k) + 1) w I (by omega) (by omega) (cnt_le _ _)
      rw [if_pos (by omega), show (beg s.data.toList (cnt s.data.toList k) : Int) + ((k : Int) - beg s.data.toList (cnt s.data.toList k) + 1) - 1 = (k : Int) by omega] at h
      exact h

theorem back (s : ByteArray) (l c : Int) (hs : s.size ≤ 1048576) : (∃ n, AtIs s l c n 0 ∧ PlaceIs s n l c 0) ∨ AtIs s l c 0 10 := by
  have hlen := brk_len_le s.data.toList
  rw [size_toList] at hlen
  by_cases h0 : l < 1 ∨ ((brk s.data.toList).length : Int) + 1 < l
  · exact .inr fun w b o cap I => at_noline b cap s o l c w I (by omega) h0
  · obtain ⟨m, rfl⟩ : ∃ m : Nat, l = m + 1 := ⟨(l - 1).toNat, by omega⟩
    have hm : m ≤ (brk s.data.toList).length := by omega
    have hbs := beg_le_stop s.data.toList m hm
    rw [size_toList] at hbs
    by_cases h1 : 1 ≤ c ∧ c ≤ (stop s.data.toList m : Int) - beg s.data.toList m + 1
    · obtain ⟨k, hk⟩ : ∃ k : Nat, (beg s.data.toList m : Int) + c - 1 = k := ⟨((beg s.data.toList m : Int) + c - 1).toNat, by omega⟩
      have hc := cnt_within s.data.toList k m hm (by omega) (by omega)
      refine .inl ⟨(k : Nat), fun w b o cap I => ?_, fun w b o cap I => ?_⟩
      · have h := at_in b cap m s o _ c w I (by omega) rfl hm
        rw [if_pos h1, hk] at h
        exact h
      · have h := place_any b cap k s o w I (by omega) (by omega)
        rw [hc, show (1 : Int) + (m : Int) = (m : Int) + 1 by omega, show (k : Int) - beg s.data.toList m + 1 = c by omega] at h
        exact h
    · refine .inr fun w b o cap I => ?_
      have h := at_in b cap m s o _ c w I (by omega) rfl hm
      rw [if_neg h1] at h
      exact h

set_option maxHeartbeats 1000000 in
theorem walk (s : ByteArray) (n l c : Int) (w : World) (hs : s.size ≤ 1048576) :
    Calls Try.prog 6 #[.string s, .int .i64 n, .int .i64 l, .int .i64 c] w fun e w' => e = .returned (.bool true) ∧ Below w.heap.size w w' := by
  have HA := Lib.hid (awake_any w)
  have HN := Lib.hid (fun w1 => new_any s w1 (by omega))
  rcases there s n hs with ⟨A, B, h1, h2⟩ | h1
  · have H1 := Lib.hid h1
    have H2 := Lib.hid h2
    clear h1 h2
    rcases back s l c hs with ⟨k, h3, h4⟩ | h3
    · have H3 := Lib.hid h3
      have H4 := Lib.hid h4
      clear h3 h4 hs
      go_enter Try.func6, Try.ntmps6
      go_wp2_with fail
      refine HA.out.mono ?_
      rintro e w1 ⟨rfl, hB1⟩
      go_wp2_with fail
      refine (HN.out _).mono ?_
      rintro e w2 ⟨b, o, cap, rfl, I, hB⟩
      have S2 : St w w2 b s o cap := ⟨I, hB1.trans (hB.mono hB1.size)⟩
      clear I hB hB1
      go_wp2_with fail
      refine (H1.out _ _ _ _ S2.1).mono ?_
      rintro e w3 ⟨rfl, hB⟩
      have S3 := S2.next hB
      clear hB S2
      go_wp2_with fail
      refine (H2.out _ _ _ _ S3.1).mono ?_
      rintro e w4 ⟨rfl, rfl⟩
      go_wp2_with fail
      refine (H3.out _ _ _ _ S3.1).mono ?_
      rintro e w4 ⟨rfl, rfl⟩
      go_wp2_with fail
      refine (H4.out _ _ _ _ S3.1).mono ?_
      rintro e w4 ⟨rfl, hB⟩
      have S4 := S3.next hB
      clear hB S3
      go_wp2
      go_ret
      exact ⟨by simp, S4.2⟩
    · have H3 := Lib.hid h3
      clear h3 hs
      go_enter Try.func6, Try.ntmps6
      go_wp2_with fail
      refine HA.out.mono ?_
      rintro e w1 ⟨rfl, hB1⟩
      go_wp2_with fail
      refine (HN.out _).mono ?_
      rintro e w2 ⟨b, o, cap, rfl, I, hB⟩
      have S2 : St w w2 b s o cap := ⟨I, hB1.trans (hB.mono hB1.size)⟩
      clear I hB hB1
      go_wp2_with fail
      refine (H1.out _ _ _ _ S2.1).mono ?_
      rintro e w3 ⟨rfl, hB⟩
      have S3 := S2.next hB
      clear hB S2
      go_wp2_with fail
      refine (H2.out _ _ _ _ S3.1).mono ?_
      rintro e w4 ⟨rfl, rfl⟩
      go_wp2_with fail
      refine (H3.out _ _ _ _ S3.1).mono ?_
      rintro e w4 ⟨rfl, rfl⟩
      go_wp2
      go_ret
      exact ⟨by simp, S3.2⟩
  · have H1 := Lib.hid h1
    clear h1
    rcases back s l c hs with ⟨k, h3, h4⟩ | h3
    · have H3 := Lib.hid h3
      have H4 := Lib.hid h4
      clear h3 h4 hs
      go_enter Try.func6, Try.ntmps6
      go_wp2_with fail
      refine HA.out.mono ?_
      rintro e w1 ⟨rfl, hB1⟩
      go_wp2_with fail
      refine (HN.out _).mono ?_
      rintro e w2 ⟨b, o, cap, rfl, I, hB⟩
      have S2 : St w w2 b s o cap := ⟨I, hB1.trans (hB.mono hB1.size)⟩
      clear I hB hB1
      go_wp2_with fail
      refine (H1.out _ _ _ _ S2.1).mono ?_
      rintro e w3 ⟨rfl, hB⟩
      have S3 := S2.next hB
      clear hB S2
      go_wp2_with fail
      refine (H3.out _ _ _ _ S3.1).mono ?_
      rintro e w4 ⟨rfl, rfl⟩
      go_wp2_with fail
      refine (H4.out _ _ _ _ S3.1).mono ?_
      rintro e w4 ⟨rfl, hB⟩
      have S4 := S3.next hB
      clear hB S3
      go_wp2
      go_ret
      exact ⟨by simp, S4.2⟩
    · have H3 := Lib.hid h3
      clear h3 hs
      go_enter Try.func6, Try.ntmps6
      go_wp2_with fail
      refine HA.out.mono ?_
      rintro e w1 ⟨rfl, hB1⟩
      go_wp2_with fail
      refine (HN.out _).mono ?_
      rintro e w2 ⟨b, o, cap, rfl, I, hB⟩
      have S2 : St w w2 b s o cap := ⟨I, hB1.trans (hB.mono hB1.size)⟩
      clear I hB hB1
      go_wp2_with fail
      refine (H1.out _ _ _ _ S2.1).mono ?_
      rintro e w3 ⟨rfl, hB⟩
      have S3 := S2.next hB
      clear hB S2
      go_wp2_with fail
      refine (H3.out _ _ _ _ S3.1).mono ?_
      rintro e w4 ⟨rfl, rfl⟩
      go_wp2
      go_ret
      exact ⟨by simp, S3.2⟩

theorem contract (H : Type) (enc : TypeId × Value → H) (W : World) (base : Nat) (args : Array Value) (ds gs : List (DataW H)) (before : List MemPlace)
    (hval : ∀ (j : Nat) t v, Try.f6.params[j]? = some t → args[j]? = some v → Value.okWide Try.prog W .any base t v)
    (hW : DataW.Whole enc Try.prog Try.f6.params.toList Rows.posBackSpec.vars false W args.toList ds gs before) (hk : Rows.uptoSmall H (ds ++ gs) = true) :
    Calls Try.prog 6 args W fun e W' => ∃ v, e = .returned v ∧ Rows.posBackSpec.post enc Try.prog Try.f6 false true false false W args v W' := by
  have hW' := hW
  obtain ⟨p, q, hA0, hV, rfl, hfz, hnd⟩ := hW
  have hA : DataW.TrodAll enc Try.prog W 0 (fun _ => true) true Try.f6.params.toList args.toList ds p := hA0
  rw [Try.params6] at hA hval
  obtain ⟨v0, vs0, d0, ds0, p0, q0, hargs, rfl, rfl, h0, r0⟩ := trodAll_cons hA
  obtain ⟨v1, vs1, d1, ds1, p1, q1, rfl, rfl, rfl, h1, r1⟩ := trodAll_cons r0
  obtain ⟨v2, vs2, d2, ds2, p2, q2, rfl, rfl, rfl, h2, r2⟩ := trodAll_cons r1
  obtain ⟨v3, vs3, d3, ds3, p3, q3, rfl, rfl, rfl, h3, r3⟩ := trodAll_cons r2
  obtain ⟨rfl, rfl, rfl⟩ := trodAll_nil r3
  obtain rfl : args = #[v0, v1, v2, v3] := by cases args; simp_all
  obtain ⟨rfl, rfl⟩ := trodVars_none hV
  obtain ⟨a0, rfl, rfl, rfl, w0⟩ := open_string Try.underlying9 (hval 0 9 v0 rfl rfl) h0
  obtain ⟨a1, rfl, rfl, rfl, w1⟩ := open_int Try.underlying3 (hval 1 3 v1 rfl rfl) h1
  obtain ⟨a2, rfl, rfl, rfl, w2⟩ := open_int Try.underlying3 (hval 2 3 v2 rfl rfl) h2
  obtain ⟨a3, rfl, rfl, rfl, w3⟩ := open_int Try.underlying3 (hval 3 3 v3 rfl rfl) h3
  clear hA0
  simp only [List.append_nil] at hW' hk
  refine (walk a0 a1 a2 a3 W (short hk)).mono fun e W' ⟨he, hg⟩ => ?_
  subst he
  exact ⟨_, rfl, _, _, _, [], [], [], hW', (trodAll_cons_mk (shut_bool Try.underlying4 _) trodAll_mk0), (trodAll_cons_mk (shut_string Try.underlying9 w0) (trodAll_cons_mk (shut_int Try.underlying3 w1) (trodAll_cons_mk (shut_int Try.underlying3 w2) (trodAll_cons_mk (shut_int Try.underlying3 w3) trodAll_mk0)))), rfl, hg.frame _, fun h => by cases h⟩

set_option maxRecDepth 100000 in
theorem lifted (os : Os) (started : os.Started) (H : Type) (enc : TypeId × Value → H) (F : Stop.Interp) :
    ReturnsInHanded {} Try.checked os 6 .any ((Rows.OpenSpec.upto Rows.posBackSpec).pre6 enc Try.prog Try.f6 Rows.posBackUptoRow.domain false) (((Rows.OpenSpec.upto Rows.posBackSpec).at F).post enc Try.prog Try.f6 false true false false) := by
  refine returnsInHanded_of_cond (C := Try.checked) (s := Rows.OpenSpec.upto Rows.posBackSpec) (k := Rows.uptoSmall) rfl own started (by kernel_rfl) Try.func6
    (OpenSpec.witness (enc := enc) (C := Try.checked) (s := Rows.OpenSpec.upto Rows.posBackSpec) (k := Rows.uptoSmall) rfl false ⟨#[], #[.string .empty, .int .i64 0, .int .i64 0, .int .i64 0], []⟩ 8 (by kernel_rfl) (by kernel_rfl) (by kernel_rfl)
      (x := ([.lit (.string []), .lit (.int .i64 0), .lit (.int .i64 0), .lit (.int .i64 0)], [], [])) (by kernel_rfl) rfl (by kernel_rfl)) ?_
  intro W base args ds gs before hval hW _ hk _
  exact contract H enc W base args ds gs before hval hW hk

/-- PosBack answers true, where what it reads is of bulk at most 1,048,576. -/
theorem proved : Rows.PosBackUptoSaid :=
  OpenClaim.holds_of_cond 6 Try.f6 rfl rfl rfl rfl rfl rfl rfl ⟨rfl, rfl, rfl, rfl, rfl⟩ rfl rfl rfl rfl rfl (by kernel_rfl) Try.func6 (by kernel_rfl)
    (of_decide_eq_true (by kernel_rfl)) (by unfold Func.isWrapper; first | (rw [if_pos (by decide +kernel)]; kernel_rfl) | (rw [if_neg (by decide +kernel)]; exact ⟨rfl, rfl⟩))
    (fun os started H enc _ F => lifted os started H enc F)

end Go.Proofs.Ytakjajpacilnaaa.posBack
