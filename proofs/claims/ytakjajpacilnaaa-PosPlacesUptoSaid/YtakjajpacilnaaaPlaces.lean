/-
  PosPlaces answers true for every text and place, where the arguments are together of bulk at most 1,048,576.
-/
import Derived.Test.YtakjajpacilnaaaAwake
import Derived.Test.YtakjajpacilnaaaRef
import Derived.Test.YtakjajpacilnaaaBulk
import Derived.ProofKit
import Derived.OpenShut
import Derived.JoinedCond
namespace Go.Proofs.Ytakjajpacilnaaa.posPlaces
open Go.ChangeShapes Go.WideShapes Go.ChangeAt Go.RowKit
open Go.ChangeMaps (open_string shut_string)

theorem own : ownKnob Try.prog.godebug = none := by kernel_rfl

/-- Place and the document's own Place answer alike. -/
theorem both (s : ByteArray) (n : Int) (hs : s.size ≤ 1048576) : ∃ A B E : Int,
    (∀ (w : World) (b : Nat) (o : Option Addr) (cap : Nat), IsLines w b s o cap → Calls Try.prog 12 #[.pointer (some ⟨b, 0, none⟩), .int .i64 n] w fun e w' => e = .returned (.tuple #[.int .i64 A, .int .i64 B, .int .i64 E]) ∧ Below w.heap.size w w') ∧
    (∀ w : World, Calls Try.prog 13 #[.string s, .int .i64 n] w fun e w' => e = .returned (.tuple #[.int .i64 A, .int .i64 B, .int .i64 E]) ∧ w = w') := by
  by_cases h0 : n < 0
  · exact ⟨0, 0, 10, fun w b o cap _ => place_low b n w h0, fun w => refplace_low s n w h0⟩
  · by_cases h1 : (s.size : Int) < n
    · exact ⟨0, 0, 10, fun w b o cap I => place_high b s n w I.text (by omega) h1, fun w => refplace_high s n w (by omega) h1⟩
    · obtain ⟨k, rfl⟩ := Int.eq_ofNat_of_zero_le (show 0 ≤ n by omega)
      exact ⟨_, _, _, fun w b o cap I => place_any b cap k s o w I (by omega) (by omega), fun w => refplace_in s k w (by omega) (by omega)⟩

set_option maxHeartbeats 400000 in
theorem walk (s : ByteArray) (n : Int) (w : World) (hs : s.size ≤ 1048576) :
    Calls Try.prog 4 #[.string s, .int .i64 n] w fun e w' => e = .returned (.bool true) ∧ Below w.heap.size w w' := by
  obtain ⟨A, B, E, h1, h2⟩ := both s n hs
  have hlen := brk_len_le s.data.toList
  rw [size_toList] at hlen
  have H1 := Lib.hid h1
  have H2 := Lib.hid h2
  have HA := Lib.hid (awake_any w)
  have HN := Lib.hid (fun w1 => new_any s w1 (by omega))
  have HC := Lib.hid (fun (w1 : World) (b cap : Nat) (o : Option Addr) (I : IsLines w1 b s o cap) => count_any b _ cap o w1 I.behind (by omega))
  have HL := Lib.hid (fun w1 => reflines_any s w1 (by omega))
  clear h1 h2 hlen hs
  go_enter Try.func4, Try.ntmps4
  go_wp2_with fail
  refine HA.out.mono ?_
  rintro e w1 ⟨rfl, hB1⟩
  go_wp2_with fail
  refine (HN.out _).mono ?_
  rintro e w2 ⟨b, o, cap, rfl, I, hB⟩
  have S2 : St w w2 b s o cap := ⟨I, hB1.trans (hB.mono hB1.size)⟩
  clear I hB hB1
  go_wp2_with fail
  refine (H1.out _ _ _ _ S2.1).mono ?_
  rintro e w3 ⟨rfl, hB⟩
  have S3 := S2.next hB
  clear hB S2
  go_wp2_with fail
  refine (H2.out _).mono ?_
  rintro e w4 ⟨rfl, rfl⟩
  go_wp2_with fail
  refine (HC.out _ _ _ _ S3.1).mono ?_
  rintro e w4 ⟨rfl, rfl⟩
  go_wp2_with fail
  refine (HL.out _).mono ?_
  rintro e w4 ⟨g, cap2, rfl, hB, _⟩
  have S4 := S3.next hB
  clear hB S3
  go_wp2
  go_ret
  exact ⟨by simp, S4.2⟩

theorem contract (H : Type) (enc : TypeId × Value → H) (W : World) (base : Nat) (args : Array Value) (ds gs : List (DataW H)) (before : List MemPlace)
    (hval : ∀ (j : Nat) t v, Try.f4.params[j]? = some t → args[j]? = some v → Value.okWide Try.prog W .any base t v)
    (hW : DataW.Whole enc Try.prog Try.f4.params.toList Rows.posPlacesSpec.vars false W args.toList ds gs before) (hk : Rows.uptoSmall H (ds ++ gs) = true) :
    Calls Try.prog 4 args W fun e W' => ∃ v, e = .returned v ∧ Rows.posPlacesSpec.post enc Try.prog Try.f4 false true false false W args v W' := by
  have hW' := hW
  obtain ⟨p, q, hA0, hV, rfl, hfz, hnd⟩ := hW
  have hA : DataW.TrodAll enc Try.prog W 0 (fun _ => true) true Try.f4.params.toList args.toList ds p := hA0
  rw [Try.params4] at hA hval
  obtain ⟨v0, vs0, d0, ds0, p0, q0, hargs, rfl, rfl, h0, r0⟩ := trodAll_cons hA
  obtain ⟨v1, vs1, d1, ds1, p1, q1, rfl, rfl, rfl, h1, r1⟩ := trodAll_cons r0
  obtain ⟨rfl, rfl, rfl⟩ := trodAll_nil r1
  obtain rfl : args = #[v0, v1] := by cases args; simp_all
  obtain ⟨rfl, rfl⟩ := trodVars_none hV
  obtain ⟨a0, rfl, rfl, rfl, w0⟩ := open_string Try.underlying9 (hval 0 9 v0 rfl rfl) h0
  obtain ⟨a1, rfl, rfl, rfl, w1⟩ := open_int Try.underlying3 (hval 1 3 v1 rfl rfl) h1
  clear hA0
  simp only [List.append_nil] at hW' hk
  refine (walk a0 a1 W (short hk)).mono fun e W' ⟨he, hg⟩ => ?_
  subst he
  exact ⟨_, rfl, _, _, _, [], [], [], hW', (trodAll_cons_mk (shut_bool Try.underlying4 _) trodAll_mk0), (trodAll_cons_mk (shut_string Try.underlying9 w0) (trodAll_cons_mk (shut_int Try.underlying3 w1) trodAll_mk0)), rfl, hg.frame _, fun h => by cases h⟩

set_option maxRecDepth 100000 in
theorem lifted (os : Os) (started : os.Started) (H : Type) (enc : TypeId × Value → H) (F : Stop.Interp) :
    ReturnsInHanded {} Try.checked os 4 .any ((Rows.OpenSpec.upto Rows.posPlacesSpec).pre6 enc Try.prog Try.f4 Rows.posPlacesUptoRow.domain false) (((Rows.OpenSpec.upto Rows.posPlacesSpec).at F).post enc Try.prog Try.f4 false true false false) := by
  refine returnsInHanded_of_cond (C := Try.checked) (s := Rows.OpenSpec.upto Rows.posPlacesSpec) (k := Rows.uptoSmall) rfl own started (by kernel_rfl) Try.func4
    (OpenSpec.witness (enc := enc) (C := Try.checked) (s := Rows.OpenSpec.upto Rows.posPlacesSpec) (k := Rows.uptoSmall) rfl false ⟨#[], #[.string .empty, .int .i64 0], []⟩ 8 (by kernel_rfl) (by kernel_rfl) (by kernel_rfl)
      (x := ([.lit (.string []), .lit (.int .i64 0)], [], [])) (by kernel_rfl) rfl (by kernel_rfl)) ?_
  intro W base args ds gs before hval hW _ hk _
  exact contract H enc W base args ds gs before hval hW hk

/-- PosPlaces answers true, where what it reads is of bulk at most 1,048,576. -/
theorem proved : Rows.PosPlacesUptoSaid :=
  OpenClaim.holds_of_cond 4 Try.f4 rfl rfl rfl rfl rfl rfl rfl ⟨rfl, rfl, rfl, rfl, rfl⟩ rfl rfl rfl rfl rfl (by kernel_rfl) Try.func4 (by kernel_rfl)
    (of_decide_eq_true (by kernel_rfl)) (by unfold Func.isWrapper; first | (rw [if_pos (by decide +kernel)]; kernel_rfl) | (rw [if_neg (by decide +kernel)]; exact ⟨rfl, rfl⟩))
    (fun os started H enc _ F => lifted os started H enc F)

end Go.Proofs.Ytakjajpacilnaaa.posPlaces
