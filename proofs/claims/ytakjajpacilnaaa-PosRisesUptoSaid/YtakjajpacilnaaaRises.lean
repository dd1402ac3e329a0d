/-
  PosRises answers true for every text and two places, where the arguments are together of bulk at most 1,048,576.
-/
import Derived.Test.YtakjajpacilnaaaAwake
import Derived.Test.YtakjajpacilnaaaBulk
import Derived.ProofKit
import Derived.OpenShut
import Derived.JoinedCond
namespace Go.Proofs.Ytakjajpacilnaaa.posRises
open Go.ChangeShapes Go.WideShapes Go.ChangeAt Go.RowKit
open Go.ChangeMaps (open_string shut_string)

theorem own : ownKnob Try.prog.godebug = none := by kernel_rfl

/-- What Place answers of one text's Lines, in whatever memory. -/
def PlaceIs (s : ByteArray) (n A B E : Int) : Prop := ∀ (w : World) (b : Nat) (o : Option Addr) (cap : Nat), IsLines w b s o cap →
  Calls Try.prog 12 #[.pointer (some ⟨b, 0, none⟩), .int .i64 n] w fun e w' => e = .returned (.tuple #[.int .i64 A, .int .i64 B, .int .i64 E]) ∧ Below w.heap.size w w'

theorem place_out (s : ByteArray) (n : Int) (h : n < 0 ∨ (0 ≤ n ∧ (s.size : Int) < n)) : PlaceIs s n 0 0 10 := by
  rcases h with h | h
  · exact fun w b o cap _ => place_low b n w h
  · exact fun w b o cap I => place_high b s n w I.text h.1 h.2

theorem place_is (s : ByteArray) (k : Nat) (hs : s.size ≤ 1048576) (hk : k ≤ s.size) : PlaceIs s k (1 + (cnt s.data.toList k : Int)) ((k : Int) - beg s.data.toList (cnt s.data.toList k) + 1) 0 :=
  fun w b o cap I => place_any b cap k s o w I (by omega) hk

set_option maxHeartbeats 1000000 in
/-- Where one of the two is no place. -/
theorem walk_out (s : ByteArray) (n m : Int) (w : World) (hs : s.size ≤ 1048576) (A B E C D F : Int) (h1 : PlaceIs s n A B E) (h2 : PlaceIs s m C D F)
    (hE : (E = 0 ∧ 0 ≤ n ∧ n ≤ s.size) ∨ (E = 10 ∧ n < 0) ∨ (E = 10 ∧ 0 ≤ n ∧ (s.size : Int) < n)) (hF : (F = 0 ∧ 0 ≤ m ∧ m ≤ s.size) ∨ (F = 10 ∧ m < 0) ∨ (F = 10 ∧ 0 ≤ m ∧ (s.size : Int) < m)) (hne : ¬ (E = 0 ∧ F = 0)) :
    Calls Try.prog 8 #[.string s, .int .i64 n, .int .i64 m] w fun e w' => e = .returned (.bool true) ∧ Below w.heap.size w w' := by
  have HA := Lib.hid (awake_any w)
  have HN := Lib.hid (fun w1 => new_any s w1 (by omega))
  have H1 := Lib.hid h1
  have H2 := Lib.hid h2
  clear h1 h2
  rcases hE with ⟨rfl, a1, a2⟩ | ⟨rfl, a1⟩ | ⟨rfl, a1, a2⟩ <;> rcases hF with ⟨rfl, b1, b2⟩ | ⟨rfl, b1⟩ | ⟨rfl, b1, b2⟩
  · exact absurd ⟨rfl, rfl⟩ hne
  all_goals
    clear hne
    go_enter Try.func8, Try.ntmps8
    go_wp2_with fail
    refine HA.out.mono ?_
    rintro e w1 ⟨rfl, hB1⟩
    go_wp2_with fail
    refine (HN.out _).mono ?_
    rintro e w2 ⟨b, o, cap, rfl, I, hB⟩
    have S2 : St w w2 b s o cap := ⟨I, hB1.trans (hB.mono hB1.size)⟩
    clear I hB hB1
    go_wp2_with fail
    refine (H1.out _ _ _ _ S2.1).mono ?_
    rintro e w3 ⟨rfl, hB⟩
    have S3 := S2.next hB
    clear hB S2
    go_wp2_with fail
    refine (H2.out _ _ _ _ S3.1).mono ?_
    rintro e w4 ⟨rfl, hB⟩
    have S4 := S3.next hB
    clear hB S3
    go_wp2
    go_ret
    exact ⟨by first | (simp; done) | (simp; omega), S4.2⟩

set_option maxHeartbeats 1000000 in
/-- Where both are places. -/
theorem walk_in (s : ByteArray) (n m : Nat) (w : World) (hs : s.size ≤ 1048576) (hn : n ≤ s.size) (hm : m ≤ s.size) :
    Calls Try.prog 8 #[.string s, .int .i64 (n : Nat), .int .i64 (m : Nat)] w fun e w' => e = .returned (.bool true) ∧ Below w.heap.size w w' := by
  have HA := Lib.hid (awake_any w)
  have HN := Lib.hid (fun w1 => new_any s w1 (by omega))
  have H1 := Lib.hid (place_is s n hs hn)
  have H2 := Lib.hid (place_is s m hs hm)
  have u1 := (within_cnt s.data.toList n (by rw [size_toList]; exact hn)).1
  have u2 := (within_cnt s.data.toList m (by rw [size_toList]; exact hm)).1
  have v1 := cnt_le s.data.toList n
  have v2 := cnt_le s.data.toList m
  have hlen := brk_len_le s.data.toList
  rw [size_toList] at hlen
  have key : (n < m ∧ cnt s.data.toList n < cnt s.data.toList m) ∨ (n < m ∧ cnt s.data.toList n = cnt s.data.toList m) ∨ (m ≤ n ∧ cnt s.data.toList m < cnt s.data.toList n) ∨ (m ≤ n ∧ cnt s.data.toList n = cnt s.data.toList m) := by
    by_cases h : n < m
    · have := cnt_mono s.data.toList n m (by omega) (by rw [size_toList]; exact hm); omega
    · have := cnt_mono s.data.toList m n (by omega) (by rw [size_toList]; exact hn); omega
  have hlen2 : (brk s.data.toList).length ≤ 1048576 := by omega
  generalize cnt s.data.toList n = c1 at *
  generalize cnt s.data.toList m = c2 at *
  generalize (brk s.data.toList).length = q at *
  rcases key with ⟨k1, k2⟩ | ⟨k1, rfl⟩ | ⟨k1, k2⟩ | ⟨k1, rfl⟩
  · generalize beg s.data.toList c1 = b1 at *
    generalize beg s.data.toList c2 = b2 at *
    go_enter Try.func8, Try.ntmps8
    go_wp2_with fail
    refine HA.out.mono ?_
    rintro e w1 ⟨rfl, hB1⟩
    go_wp2_with fail
    refine (HN.out _).mono ?_
    rintro e w2 ⟨b, o, cap, rfl, I, hB⟩
    have S2 : St w w2 b s o cap := ⟨I, hB1.trans (hB.mono hB1.size)⟩
    clear I hB hB1
    go_wp2_with fail
    refine (H1.out _ _ _ _ S2.1).mono ?_
    rintro e w3 ⟨rfl, hB⟩
    have S3 := S2.next hB
    clear hB S2
    go_wp2_with fail
    refine (H2.out _ _ _ _ S3.1).mono ?_
    rintro e w4 ⟨rfl, hB⟩
    have S4 := S3.next hB
    clear hB S3
    go_wp2
    go_ret
    exact ⟨by first | (simp; done) | (simp; omega), S4.2⟩
  · generalize beg s.data.toList c1 = b1 at *
    go_enter Try.func8, Try.ntmps8
    go_wp2_with fail
    refine HA.out.mono ?_
    rintro e w1 ⟨rfl, hB1⟩
    go_wp2_with fail
    refine (HN.out _).mono ?_
    rintro e w2 ⟨b, o, cap, rfl, I, hB⟩
    have S2 : St w w2 b s o cap := ⟨I, hB1.trans (hB.mono hB1.size)⟩
    clear I hB hB1
    go_wp2_with fail
    refine (H1.out _ _ _ _ S2.1).mono ?_
    rintro e w3 ⟨rfl, hB⟩
    have S3 := S2.next hB
    clear hB S2
    go_wp2_with fail
    refine (H2.out _ _ _ _ S3.1).mono ?_
    rintro e w4 ⟨rfl, hB⟩
    have S4 := S3.next hB
    clear hB S3
    go_wp2
    go_ret
    exact ⟨by first | (simp; done) | (simp; omega), S4.2⟩
  · generalize beg s.data.toList c1 = b1 at *
    generalize beg s.data.toList c2 = b2 at *
    go_enter Try.func8, Try.ntmps8
    go_wp2_with fail
    refine HA.out.mono ?_
    rintro e w1 ⟨rfl, hB1⟩
    go_wp2_with fail
    refine (HN.out _).mono ?_
    rintro e w2 ⟨b, o, cap, rfl, I, hB⟩
    have S2 : St w w2 b s o cap := ⟨I, hB1.trans (hB.mono hB1.size)⟩
    clear I hB hB1
    go_wp2_with fail
    refine (H1.out _ _ _ _ S2.1).mono ?_
    rintro e w3 ⟨rfl, hB⟩
    have S3 := S2.next hB
    clear hB S2
    go_wp2_with fail
    refine (H2.out _ _ _ _ S3.1).mono ?_
    rintro e w4 ⟨rfl, hB⟩
    have S4 := S3.next hB
    clear hB S3
    go_wp2
    go_ret
    exact ⟨by first | (simp; done) | (simp; omega), S4.2⟩
  · generalize beg s.data.toList c1 = b1 at *
    go_enter Try.func8, Try.ntmps8
    go_wp2_with fail
    refine HA.out.mono ?_
    rintro e w1 ⟨rfl, hB1⟩
    go_wp2_with fail
    refine (HN.out _).mono ?_
    rintro e w2 ⟨b, o, cap, rfl, I, hB⟩
    have S2 : St w w2 b s o cap := ⟨I, hB1.trans (hB.mono hB1.size)⟩
    clear I hB hB1
    go_wp2_with fail
    refine (H1.out _ _ _ _ S2.1).mono ?_
    rintro e w3 ⟨rfl, hB⟩
    have S3 := S2.next hB
    clear hB S2
    go_wp2_with fail
    refine (H2.out _ _ _ _ S3.1).mono ?_
    rintro e w4 ⟨rfl, hB⟩
    have S4 := S3.next hB
    clear hB S3
    go_wp2
    go_ret
    exact ⟨by first | (simp; done) | (simp; omega), S4.2⟩

theorem walk (s : ByteArray) (n m : Int) (w : World) (hs : s.size ≤ 1048576) :
    Calls Try.prog 8 #[.string s, .int .i64 n, .int .i64 m] w fun e w' => e = .returned (.bool true) ∧ Below w.heap.size w w' := by
  by_cases h1 : 0 ≤ n ∧ n ≤ s.size
  · obtain ⟨k, rfl⟩ := Int.eq_ofNat_of_zero_le h1.1
    by_cases h2 : 0 ≤ m ∧ m ≤ s.size
    · obtain ⟨j, rfl⟩ := Int.eq_ofNat_of_zero_le h2.1
      exact walk_in s k j w hs (by omega) (by omega)
    · exact walk_out s k m w hs _ _ 0 0 0 10 (place_is s k hs (by omega)) (place_out s m (by omega)) (by omega) (by omega) (by omega)
  · by_cases h2 : 0 ≤ m ∧ m ≤ s.size
    · obtain ⟨j, rfl⟩ := Int.eq_ofNat_of_zero_le h2.1
      exact walk_out s n j w hs 0 0 10 _ _ 0 (place_out s n (by omega)) (place_is s j hs (by omega)) (by omega) (by omega) (by omega)
    · exact walk_out s n m w hs 0 0 10 0 0 10 (place_out s n (by omega)) (place_out s m (by omega)) (by omega) (by omega) (by omega)

theorem contract (H : Type) (enc : TypeId × Value → H) (W : World) (base : Nat) (args : Array Value) (ds gs : List (DataW H)) (before : List MemPlace)
    (hval : ∀ (j : Nat) t v, Try.f8.params[j]? = some t → args[j]? = some v → Value.okWide Try.prog W .any base t v)
    (hW : DataW.Whole enc Try.prog Try.f8.params.toList Rows.posRisesSpec.vars false W args.toList ds gs before) (hk : Rows.uptoSmall H (ds ++ gs) = true) :
    Calls Try.prog 8 args W fun e W' => ∃ v, e = .returned v ∧ Rows.posRisesSpec.post enc Try.prog Try.f8 false true false false W args v W' := by
  have hW' := hW
  obtain ⟨p, q, hA0, hV, rfl, hfz, hnd⟩ := hW
  have hA : DataW.TrodAll enc Try.prog W 0 (fun _ => true) true Try.f8.params.toList args.toList ds p := hA0
  rw [Try.params8] at hA hval
  obtain ⟨v0, vs0, d0, ds0, p0, q0, hargs, rfl, rfl, h0, r0⟩ := trodAll_cons hA
  obtain ⟨v1, vs1, d1, ds1, p1, q1, rfl, rfl, rfl, h1, r1⟩ := trodAll_cons r0
  obtain ⟨v2, vs2, d2, ds2, p2, q2, rfl, rfl, rfl, h2, r2⟩ := trodAll_cons r1
  obtain ⟨rfl, rfl, rfl⟩ := trodAll_nil r2
  obtain rfl : args = #[v0, v1, v2] := by cases args; simp_all
  obtain ⟨rfl, rfl⟩ := trodVars_none hV
  obtain ⟨a0, rfl, rfl, rfl, w0⟩ := open_string Try.underlying9 (hval 0 9 v0 rfl rfl) h0
  obtain ⟨a1, rfl, rfl, rfl, w1⟩ := open_int Try.underlying3 (hval 1 3 v1 rfl rfl) h1
  obtain ⟨a2, rfl, rfl, rfl, w2⟩ := open_int Try.underlying3 (hval 2 3 v2 rfl rfl) h2
  clear hA0
  simp only [List.append_nil] at hW' hk
  refine (walk a0 a1 a2 W (short hk)).mono fun e W' ⟨he, hg⟩ => ?_
  subst he
  exact ⟨_, rfl, _, _, _, [], [], [], hW', (trodAll_cons_mk (shut_bool Try.underlying4 _) trodAll_mk0), (trodAll_cons_mk (shut_string Try.underlying9 w0) (trodAll_cons_mk (shut_int Try.underlying3 w1) (trodAll_cons_mk (shut_int Try.underlying3 w2) trodAll_mk0))), rfl, hg.frame _, fun h => by cases h⟩

set_option maxRecDepth 100000 in
theorem lifted (os : Os) (started : os.Started) (H : Type) (enc : TypeId × Value → H) (F : Stop.Interp) :
    ReturnsInHanded {} Try.checked os 8 .any ((Rows.OpenSpec.upto Rows.posRisesSpec).pre6 enc Try.prog Try.f8 Rows.posRisesUptoRow.domain false) (((Rows.OpenSpec.upto Rows.posRisesSpec).at F).post enc Try.prog Try.f8 false true false false) := by
  refine returnsInHanded_of_cond (C := Try.checked) (s := Rows.OpenSpec.upto Rows.posRisesSpec) (k := Rows.uptoSmall) rfl own started (by kernel_rfl) Try.func8
    (OpenSpec.witness (enc := enc) (C := Try.checked) (s := Rows.OpenSpec.upto Rows.posRisesSpec) (k := Rows.uptoSmall) rfl false ⟨#[], #[.string .empty, .int .i64 0, .int .i64 0], []⟩ 8 (by kernel_rfl) (by kernel_rfl) (by kernel_rfl)
      (x := ([.lit (.string []), .lit (.int .i64 0), .lit (.int .i64 0)], [], [])) (by kernel_rfl) rfl (by kernel_rfl)) ?_
  intro W base args ds gs before hval hW _ hk _
  exact contract H enc W base args ds gs before hval hW hk

/-- PosRises answers true, where what it reads is of bulk at most 1,048,576. -/
theorem proved : Rows.PosRisesUptoSaid :=
  OpenClaim.holds_of_cond 8 Try.f8 rfl rfl rfl rfl rfl rfl rfl ⟨rfl, rfl, rfl, rfl, rfl⟩ rfl rfl rfl rfl rfl (by kernel_rfl) Try.func8 (by kernel_rfl)
    (of_decide_eq_true (by kernel_rfl)) (by unfold Func.isWrapper; first | (rw [if_pos (by decide +kernel)]; kernel_rfl) | (rw [if_neg (by decide +kernel)]; exact ⟨rfl, rfl⟩))
    (fun os started H enc _ F => lifted os started H enc F)

end Go.Proofs.Ytakjajpacilnaaa.posRises
