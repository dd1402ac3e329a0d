/-
  TypexDeep answers true, whatever the number. No condition.
-/
import Derived.Test.YtdmlelikmikflaaDeepm
import Derived.ProofKit
import Derived.OpenShut
import Derived.SizedLaws
import Derived.Carry
namespace Go.Proofs.Ytdmlelikmikflaa.typexDeep
open Go.ChangeShapes Go.WideShapes Go.ChangeAt Go.RowKit
open Go.Lib hiding intOf

theorem own : ownKnob Try.prog.godebug = none := by kernel_rfl

theorem arr_app (p : List UInt8) (b : ByteArray) : (⟨p.toArray⟩ : ByteArray) ++ b = ⟨(p ++ b.data.toList).toArray⟩ := by
  apply ByteArray.ext
  simp [ByteArray.data_append]

theorem allS (s : ByteArray) (k : Nat) (hk : k < 70) (hs : s.data.toList = brs k ++ [105, 110, 116]) (w : World) : Calls Try.prog 12 #[.string s] w fun e w' => ∃ o cap, e = .returned (.tuple #[.slice o (2 * k + 2) cap, .agg #[.int .i64 0, .int .i64 0]]) ∧ ZAt w' o ((brT k).map zOf) ∧ Below w.heap.size w w' := by
  have hl : s.data.toList.length = 2 * k + 3 := by rw [hs, List.length_append, brs_len]; rfl
  have e : s.data.toList.length = s.size := by rw [Array.length_toList]; rfl
  refine (all_at s (brT k) 0 0 (by rw [hs]; exact brs_lexed k hk) w (by omega)).mono fun e w' ⟨o, cap, he, ht, hb, _⟩ => ?_
  rw [brT_len] at he
  exact ⟨o, cap, he, ht.z, hb⟩
theorem allD (k : Nat) (hk : k < 70) (w : World) : Calls Try.prog 12 #[.string ⟨(brs k ++ [105, 110, 116]).toArray⟩] w fun e w' => ∃ o cap, e = .returned (.tuple #[.slice o (2 * k + 2) cap, .agg #[.int .i64 0, .int .i64 0]]) ∧ ZAt w' o ((brT k).map zOf) ∧ Below w.heap.size w w' :=
  allS _ k hk (List.toList_toArray) w

theorem parseD (k : Nat) (o : Option Addr) (c : Nat) (w : World) (hk : k < 70) (h : ZAt w o ((brT k).map zOf)) : Calls Try.prog 9 #[.slice o (2 * k + 2) c, .int .i64 0] w fun e w' => ∃ v, e = .returned v ∧ IsRes (w.heap.size + 2) w' (if k ≤ 30 then .ok (dnest k 0) ((2 * k + 1 : Nat) : Int) else .err 60 6) v ∧ Below w.heap.size w w' := by
  have hl : ((brT k).map zOf).length = 2 * k + 2 := by rw [List.length_map, brT_len]
  have hf : Fits ((brT k).map zOf) := lexed_fits (brs_lexed k hk) (by have := brs_len k; simp; omega)
  have hp := parse_any o c ((brT k).map zOf) 0 w h (by omega) hf
  rw [hl] at hp
  have e := brT_prs k k 0 30 (by omega)
  rw [show ((2 * 0 : Nat) : Int) = 0 by rfl, show ((2 * (0 + 30) : Nat) : Int) = 60 by rfl] at e
  rwa [e] at hp

/-- What a round keeps that goes down the lists. -/
def InvD (w : World) (k j : Nat) (W : World) : Prop :=
  ∃ (q r : Int) (s t : ByteArray) (o : Option Addr) (a : Nat), Blk W w.heap.size 26 #[.int .i64 q, .int .i64 r, .string s, .string t, .slice o a a] ∧ Blk W (w.heap.size + 1) 28 zeroG ∧
    IsTP (fun b => b < w.heap.size) W (dnest (k - j) j) (.agg #[.int .i64 q, .int .i64 r, .string s, .string t, .slice o a a]) ∧ Below w.heap.size w W ∧ w.heap.size + 1 + 1 ≤ W.heap.size

theorem InvD.start {B k : Nat} {w : World} {q r : Int} {s t : ByteArray} {o : Option Addr} {a : Nat} (hx : IsTX B w (dnest k 0) (.agg #[.int .i64 q, .int .i64 r, .string s, .string t, .slice o a a])) :
    InvD w k 0 ((w.alloc (.cells #[.int .i64 q, .int .i64 r, .string s, .string t, .slice o a a] 26)).alloc (.cells zeroG 28)) := by
  have hb : Below w.heap.size w ((w.alloc (.cells #[.int .i64 q, .int .i64 r, .string s, .string t, .slice o a a] 26)).alloc (.cells zeroG 28)) := ((Below.refl _ _).alloc (Nat.le_refl _) _).alloc (by simp) _
  exact ⟨q, r, s, t, o, a, (Blk.new w 26 _).alloc _, by have := Blk.new (w.alloc (.cells #[.int .i64 q, .int .i64 r, .string s, .string t, .slice o a a] 26)) 28 zeroG; simpa using this, (IsTP.mono (fun b hb _ => hb) hx).below hb, hb, by simp⟩

theorem InvD.next {w W : World} {k j : Nat} {y0 y1 y2 y3 y4 u0 u1 u2 u3 u4 : Value} (hb0 : Blk W w.heap.size 26 #[u0, u1, u2, u3, u4]) (hb1 : Blk W (w.heap.size + 1) 28 zeroG)
    (hx : IsTP (fun b => b < w.heap.size) W (dnest (k - (j + 1)) (j + 1)) (.agg #[y0, y1, y2, y3, y4])) (hbel : Below w.heap.size w W) (hz : w.heap.size + 1 + 1 ≤ W.heap.size) :
    InvD w k (j + 1) (set5 W w.heap.size y0 y1 y2 y3 y4) := by
  obtain ⟨q, r, s, t, o, a, e⟩ := hx.parts
  simp only [Value.agg.injEq, Array.mk.injEq, List.cons.injEq, and_true] at e
  obtain ⟨rfl, rfl, rfl, rfl, rfl⟩ := e
  exact ⟨q, r, s, t, o, a, set5_blk hb0 _ _ _ _ _, set5_far hb1 (by omega) _ _ _ _ _, set5_type hx (by simp) _ _ _ _ _, set5_below hbel (Nat.le_refl _) _ _ _ _ _, by rw [set5_size]; exact hz⟩

set_option maxRecDepth 20000 in
set_option maxHeartbeats 4000000 in
theorem walk (n : Int) (w : World) (hr : -9223372036854775808 ≤ n ∧ n ≤ 9223372036854775807) : Calls Try.prog 7 #[.int .i64 n] w fun e w' => e = .returned (.bool true) ∧ Below w.heap.size w w' := by
  obtain ⟨hr1, hr2⟩ := hr
  go_enter Try.func7, Try.ntmps7
  go_wp2_with fail
  refine (awake_any _).mono ?_
  rintro e w1 ⟨rfl, hB⟩
  have B1 := Lib.hid hB
  clear hB
  have hcase : n < 0 ∨ 0 ≤ n := by omega
  rcases hcase with hn | hn
  · have e : -((n + 1).tmod 70) = (-(n + 1)) % 70 := by rw [← Int.tmod_eq_emod_of_nonneg (by omega : 0 ≤ -(n + 1)), Int.neg_tmod]
    obtain ⟨m, hm⟩ : ∃ m : Nat, (-(n + 1)) % 70 = (m : Int) := ⟨((-(n + 1)) % 70).toNat, by omega⟩
    have hm70 : m < 70 := by omega
    rw [hm] at e
    have HM := Lib.hid e
    clear hm e
    go_wp2
    rw [HM.out]
    clear hr1 hr2 hn
    go_loopw [4, 5] (fun s i wr => ∃ k : Nat, k ≤ m ∧ s = .string ⟨(brs k).toArray⟩ ∧ i = .int .i64 (k : Nat) ∧ wr = w1) (fun _ i _ => m - (RowKit.intOf i).toNat)
    case atStart => exact ⟨0, Nat.zero_le _, rfl, rfl, rfl⟩
    case round =>
      obtain ⟨k, hk, rfl, rfl, rfl⟩ := hrel
      have hlen := brs_len k
      have hbl : (brs k).length ≤ 140 := by omega
      clear hlen
      by_cases hlt : k < m
      · have hlt2 : ((k : Nat) : Int) < m := by omega
        go_wp2
        go_roundw
        case rel => exact ⟨k + 1, hlt, by rw [brs_succ, arr_app], by go_num, trivial⟩
        case measure => simp [RowKit.intOf]; omega
      · have hlt2 : ¬ ((k : Nat) : Int) < m := by omega
        obtain rfl : k = m := by omega
        go_wp2_with fail
        rw [arr_app]
        refine (allD k hm70 _).mono ?_
        rintro e w2 ⟨o, cap, rfl, hz, hB⟩
        have B2 := Lib.hid (B1.out.trans (hB.mono B1.out.size))
        have Z2 := Lib.hid hz
        clear hB hz B1 hbl hlt2 hlt hk
        go_wp2_with fail
        refine (parseD k o cap _ hm70 (Z2.out.below ((Below.refl _ _).alloc (Nat.le_refl _) _))).mono ?_
        rintro e w4 ⟨v, rfl, hr, hB⟩
        have hz4 : w2.heap.size < w4.heap.size := mid_size hB
        have c4 := (blk_mid3 hB).cell
        have B4 := Lib.hid (B2.out.trans ((((Below.refl _ _).alloc (Nat.le_refl _) _).trans (hB.mono (by simp))).mono B2.out.size))
        clear hB Z2 B2
        by_cases hk30 : k ≤ 30
        · rw [if_pos hk30] at hr
          obtain ⟨y, rfl, hx⟩ := hr
          obtain ⟨q, r, s1, s2, o1, a1, rfl⟩ := hx.parts
          have hI := Lib.hid (InvD.start (k := k) hx)
          have hk31 : ¬ (30 : Int) < (k : Nat) := by omega
          clear hx
          unfold okV
          go_wp2
          go_loopw [11] (fun i wr => ∃ j : Nat, j ≤ k ∧ i = .int .i64 (j : Nat) ∧ Hid (InvD w4 k j wr)) (fun i _ => k - (RowKit.intOf i).toNat)
          case atStart => exact ⟨0, Nat.zero_le _, rfl, hI⟩
          case round =>
            obtain ⟨j, hj, rfl, HI⟩ := hrel
            obtain ⟨q, r, s1, s2, o1, a1, hb0, hb1, hx, hbel, hz⟩ := HI.out
            have b0 := hb0.cell
            have f0 := hb0.frozen
            have b1 := hb1.cell
            simp only [zeroG] at b1
            have B5 := Lib.hid (B4.out.trans (hbel.mono B4.out.size))
            have HB0 := Lib.hid hb0
            have HB1 := Lib.hid hb1
            have HBel := Lib.hid hbel
            by_cases hlt : j < k
            · have hlt2 : ((j : Nat) : Int) < k := by omega
              rw [show k - j = (k - (j + 1)) + 1 by omega] at hx
              obtain ⟨b, y0, y1, y2, y3, y4, hv, hbP, h0, h1, h2, h3, h4, hy⟩ := hx
              unfold listV at hv
              simp only [Value.agg.injEq, Array.mk.injEq, List.cons.injEq, Value.int.injEq, Value.string.injEq, Value.slice.injEq, true_and, and_true] at hv
              obtain ⟨rfl, rfl, rfl, rfl, rfl, rfl, _⟩ := hv
              have hbn : b ≠ w4.heap.size := Nat.ne_of_lt hbP
              have HY := Lib.hid hy
              clear hy hb0 hb1 hbel
              obtain ⟨q', r', s1', s2', o1', a1', e⟩ := HY.out.parts
              simp only [Value.agg.injEq, Array.mk.injEq, List.cons.injEq, and_true] at e
              obtain ⟨rfl, rfl, rfl, rfl, rfl⟩ := e
              go_wp2
              go_roundw
              case rel => exact ⟨j + 1, hlt, by go_num, Lib.hid (InvD.next HB0.out HB1.out HY.out HBel.out hz)⟩
              case measure => simp [RowKit.intOf]; omega
            · have hlt2 : ¬ ((j : Nat) : Int) < k := by omega
              obtain rfl : j = k := by omega
              rw [Nat.sub_self] at hx
              unfold dnest at hx
              have hv : Value.agg #[.int .i64 q, .int .i64 r, .string s1, .string s2, .slice o1 a1 a1] = leafV 1 ((2 * j : Nat) : Int) ⟨#[]⟩ ⟨#[]⟩ := hx
              unfold leafV at hv
              simp only [Value.agg.injEq, Array.mk.injEq, List.cons.injEq, Value.int.injEq, Value.string.injEq, Value.slice.injEq, true_and, and_true] at hv
              obtain ⟨rfl, rfl, rfl, rfl, rfl, rfl, _⟩ := hv
              clear hx hb0 hb1 hbel
              go_wp2
              go_ret
              exact ⟨by simp, B5.out⟩
        · rw [if_neg hk30] at hr
          obtain rfl : v = errV 60 6 := hr
          have hk31 : (30 : Int) < (k : Nat) := by omega
          have hz5 := B4.out.size
          clear hk30
          unfold errV noType noText
          go_wp2
          go_ret
          exact ⟨by simp, (B4.out.alloc hz5 _).alloc (by simp; omega) _⟩
  · obtain ⟨m, hm⟩ : ∃ m : Nat, n % 70 = (m : Int) := ⟨(n % 70).toNat, by omega⟩
    have hm70 : m < 70 := by omega
    have HM := Lib.hid hm
    clear hm
    go_wp2
    rw [HM.out]
    clear hr1 hr2 hn
    go_loopw [4, 5] (fun s i wr => ∃ k : Nat, k ≤ m ∧ s = .string ⟨(brs k).toArray⟩ ∧ i = .int .i64 (k : Nat) ∧ wr = w1) (fun _ i _ => m - (RowKit.intOf i).toNat)
    case atStart => exact ⟨0, Nat.zero_le _, rfl, rfl, rfl⟩
    case round =>
      obtain ⟨k, hk, rfl, rfl, rfl⟩ := hrel
      have hlen := brs_len k
      have hbl : (brs k).length ≤ 140 := by omega
      clear hlen
      by_cases hlt : k < m
      · have hlt2 : ((k : Nat) : Int) < m := by omega
        go_wp2
        go_roundw
        case rel => exact ⟨k + 1, hlt, by rw [brs_succ, arr_app], by go_num, trivial⟩
        case measure => simp [RowKit.intOf]; omega
      · have hlt2 : ¬ ((k : Nat) : Int) < m := by omega
        obtain rfl : k = m := by omega
        go_wp2_with fail
        rw [arr_app]
        refine (allD k hm70 _).mono ?_
        rintro e w2 ⟨o, cap, rfl, hz, hB⟩
        have B2 := Lib.hid (B1.out.trans (hB.mono B1.out.size))
        have Z2 := Lib.hid hz
        clear hB hz B1 hbl hlt2 hlt hk
        go_wp2_with fail
        refine (parseD k o cap _ hm70 (Z2.out.below ((Below.refl _ _).alloc (Nat.le_refl _) _))).mono ?_
        rintro e w4 ⟨v, rfl, hr, hB⟩
        have hz4 : w2.heap.size < w4.heap.size := mid_size hB
        have c4 := (blk_mid3 hB).cell
        have B4 := Lib.hid (B2.out.trans ((((Below.refl _ _).alloc (Nat.le_refl _) _).trans (hB.mono (by simp))).mono B2.out.size))
        clear hB Z2 B2
        by_cases hk30 : k ≤ 30
        · rw [if_pos hk30] at hr
          obtain ⟨y, rfl, hx⟩ := hr
          obtain ⟨q, r, s1, s2, o1, a1, rfl⟩ := hx.parts
          have hI := Lib.hid (InvD.start (k := k) hx)
          have hk31 : ¬ (30 : Int) < (k : Nat) := by omega
          clear hx
          unfold okV
          go_wp2
          go_loopw [11] (fun i wr => ∃ j : Nat, j ≤ k ∧ i = .int .i64 (j : Nat) ∧ Hid (InvD w4 k j wr)) (fun i _ => k - (RowKit.intOf i).toNat)
          case atStart => exact ⟨0, Nat.zero_le _, rfl, hI⟩
          case round =>
            obtain ⟨j, hj, rfl, HI⟩ := hrel
            obtain ⟨q, r, s1, s2, o1, a1, hb0, hb1, hx, hbel, hz⟩ := HI.out
            have b0 := hb0.cell
            have f0 := hb0.frozen
            have b1 := hb1.cell
            simp only [zeroG] at b1
            have B5 := Lib.hid (B4.out.trans (hbel.mono B4.out.size))
            have HB0 := Lib.hid hb0
            have HB1 := Lib.hid hb1
            have HBel := Lib.hid hbel
            by_cases hlt : j < k
            · have hlt2 : ((j : Nat) : Int) < k := by omega
              rw [show k - j = (k - (j + 1)) + 1 by omega] at hx
              obtain ⟨b, y0, y1, y2, y3, y4, hv, hbP, h0, h1, h2, h3, h4, hy⟩ := hx
              unfold listV at hv
              simp only [Value.agg.injEq, Array.mk.injEq, List.cons.injEq, Value.int.injEq, Value.string.injEq, Value.slice.injEq, true_and, and_true] at hv
              obtain ⟨rfl, rfl, rfl, rfl, rfl, rfl, _⟩ := hv
              have hbn : b ≠ w4.heap.size := Nat.ne_of_lt hbP
              have HY := Lib.hid hy
              clear hy hb0 hb1 hbel
              obtain ⟨q', r', s1', s2', o1', a1', e⟩ := HY.out.parts
              simp only [Value.agg.injEq, Array.mk.injEq, List.cons.injEq, and_true] at e
              obtain ⟨rfl, rfl, rfl, rfl, rfl⟩ := e
              go_wp2
              go_roundw
              case rel => exact ⟨j + 1, hlt, by go_num, Lib.hid (InvD.next HB0.out HB1.out HY.out HBel.out hz)⟩
              case measure => simp [RowKit.intOf]; omega
            · have hlt2 : ¬ ((j : Nat) : Int) < k := by omega
              obtain rfl : j = k := by omega
              rw [Nat.sub_self] at hx
              unfold dnest at hx
              have hv : Value.agg #[.int .i64 q, .int .i64 r, .string s1, .string s2, .slice o1 a1 a1] = leafV 1 ((2 * j : Nat) : Int) ⟨#[]⟩ ⟨#[]⟩ := hx
              unfold leafV at hv
              simp only [Value.agg.injEq, Array.mk.injEq, List.cons.injEq, Value.int.injEq, Value.string.injEq, Value.slice.injEq, true_and, and_true] at hv
              obtain ⟨rfl, rfl, rfl, rfl, rfl, rfl, _⟩ := hv
              clear hx hb0 hb1 hbel
              go_wp2
              go_ret
              exact ⟨by simp, B5.out⟩
        · rw [if_neg hk30] at hr
          obtain rfl : v = errV 60 6 := hr
          have hk31 : (30 : Int) < (k : Nat) := by omega
          have hz5 := B4.out.size
          clear hk30
          unfold errV noType noText
          go_wp2
          go_ret
          exact ⟨by simp, (B4.out.alloc hz5 _).alloc (by simp; omega) _⟩

theorem laidOut : laidOutB Try.prog = true := by kernel_rfl

theorem int_range {n : Int} (h : (Lit.int .i64 n).wf = true) : -9223372036854775808 ≤ n ∧ n ≤ 9223372036854775807 := by
  have h2 : IntKind.i64.min ≤ n ∧ n ≤ IntKind.i64.max := by
    unfold Lit.wf at h
    simpa only [Bool.and_eq_true, decide_eq_true_eq] using h
  rw [show IntKind.i64.min = -9223372036854775808 by decide, show IntKind.i64.max = 9223372036854775807 by decide] at h2
  exact h2

set_option maxRecDepth 100000 in
theorem lifted (os : Os) (started : os.Started) (H : Type) (enc : TypeId × Value → H) :
    ReturnsInHanded {} Try.checked os 7 .any (Rows.typexDeepSpec.pre6 enc Try.prog Try.f7 Rows.typexDeepRow.domain false) (Rows.typexDeepSpec.post enc Try.prog Try.f7 false true false false) := by
  refine returnsInHanded_of_change_sized (C := Try.checked) own started (by kernel_rfl) Try.func7
    (ChangeSpec.witness6 (enc := enc) (C := Try.checked) false ⟨#[], #[.int .i64 0], []⟩ 8 (by kernel_rfl) (by kernel_rfl) (by kernel_rfl) (by kernel_rfl)) ?_
  intro W base args ds gs before hval0 hW hcnd hsz _
  have hval : ∀ (j : Nat) t v, Try.f7.params[j]? = some t → args[j]? = some v → Value.okWide Try.prog W .any base t v := hval0
  have hW' := hW
  obtain ⟨p, q, hA0, hV, rfl, hfz, hnd⟩ := hW
  have hA : DataW.TrodAll enc Try.prog W 0 (fun _ => true) true Try.f7.params.toList args.toList ds p := hA0
  rw [Try.params7] at hA hval
  obtain ⟨v0, vs0, d0, ds0, p0, q0, hargs, rfl, rfl, h0, r0⟩ := trodAll_cons hA
  obtain ⟨rfl, rfl, rfl⟩ := trodAll_nil r0
  obtain rfl : args = #[v0] := by cases args; simp_all
  obtain ⟨rfl, rfl⟩ := trodVars_none hV
  obtain ⟨a0, rfl, rfl, rfl, w0⟩ := open_int Try.underlying3 (hval 0 3 v0 rfl rfl) h0
  have f0 := int_range w0
  clear hA0 hval0
  simp only [List.append_nil] at hW'
  refine (walk a0 W f0).mono fun e W' ⟨he, hg⟩ => ?_
  subst he
  exact ⟨_, rfl, _, _, _, [], _, [], hW', (trodAll_cons_mk (shut_bool Try.underlying4 _) trodAll_mk0), (trodAll_cons_mk (shut_int Try.underlying3 w0) trodAll_mk0), rfl, hg.frame _, fun h => by cases h⟩

theorem over : Rows.typexDeepRow.holds Try.pinned (OpenSpec.ofChange Rows.typexDeepSpec) :=
  OpenClaim.holds_of_wide 7 Try.f7 rfl rfl rfl rfl rfl rfl rfl ⟨rfl, rfl, rfl, rfl, rfl⟩ rfl rfl rfl rfl rfl (by kernel_rfl) Try.func7 (by kernel_rfl)
    (of_decide_eq_true (by kernel_rfl)) (by unfold Func.isWrapper; first | (rw [if_pos (by decide +kernel)]; kernel_rfl) | (rw [if_neg (by decide +kernel)]; exact ⟨rfl, rfl⟩))
    (fun os started H enc _ => lifted os started H enc)

/-- TypexDeep answers true. -/
theorem proved : Rows.TypexDeepSaid :=
  over

end Go.Proofs.Ytdmlelikmikflaa.typexDeep
