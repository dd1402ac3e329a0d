/-
  StmtxJoins answers true, whatever the texts. Condition: none beside the form's own reach.
-/
import Derived.Test.YtoppknnjnfgbiaaQmc
import Derived.Test.YtoppknnjnfgbiaaSki
import Derived.ProofKit
import Derived.OpenShut
import Derived.SizedLaws
namespace Go.Proofs.Ytoppknnjnfgbiaa.stmtxJoins
open Go.ChangeShapes Go.WideShapes Go.ChangeAt Go.RowKit
open Go.ChangeMaps (open_string shut_string)
open Go.Lib hiding intOf

theorem own : ownKnob Try.prog.godebug = none := by kernel_rfl

theorem cat_in (s : ByteArray) : (⟨#[123]⟩ : ByteArray) ++ s ++ ⟨#[10, 125]⟩ = ⟨(inB s.data.toList).toArray⟩ := by
  apply ByteArray.ext
  simp [ByteArray.data_append, inB]
theorem cat_in2 (s t : ByteArray) : (⟨#[123]⟩ : ByteArray) ++ s ++ ⟨#[10]⟩ ++ t ++ ⟨#[10, 125]⟩ = ⟨(inB2 s.data.toList t.data.toList).toArray⟩ := by
  apply ByteArray.ext
  simp [ByteArray.data_append, inB2]
theorem size_in (s : ByteArray) : (inB s.data.toList).length = s.size + 3 := by
  unfold inB; simp
theorem size_in2 (s t : ByteArray) : (inB2 s.data.toList t.data.toList).length = s.size + t.size + 4 := by
  unfold inB2; simp; omega
/-- All, at a text whose bytes are known. -/
theorem all5 (s : List UInt8) (hs : s.length ≤ 100000) (ts : List Tok) (a : Nat) (c : Int) (hl : lexed s = (ts, a, c)) (w : World) :
    Calls Try.prog 10 #[.string ⟨s.toArray⟩] w fun e w' => ∃ o cap, e = .returned (.tuple #[.slice o ts.length cap, .agg #[.int .i64 (a : Nat), .int .i64 c]]) ∧ AtToks w' o ts ∧ Below w.heap.size w w' :=
  (all_at ⟨s.toArray⟩ ts a c (by rw [List.toList_toArray]; exact hl) w (by show s.toArray.size ≤ _; simp; omega)).mono fun e w' ⟨o, cap, he, ht, hb, _⟩ => ⟨o, cap, he, ht, hb⟩

set_option maxRecDepth 20000 in
set_option maxHeartbeats 8000000 in
theorem walk_long (s t : ByteArray) (w : World) (hs : 2000 < s.size ∨ (s.size ≤ 2000 ∧ 2000 < t.size)) (hs2 : s.size ≤ 281474976710656) (ht2 : t.size ≤ 281474976710656) : Calls Try.prog 5 #[.string s, .string t] w fun e w' => e = .returned (.bool true) ∧ Below w.heap.size w w' := by
  rcases hs with h | ⟨h, h'⟩
  · have h1 : (2000 : Int) < (s.size : Nat) := by omega
    clear h
    go_enter Try.func5, Try.ntmps5
    go_wp2_with (go_at_call 7; refine (awakeS_any _).mono ?_; rintro e w1 ⟨rfl, hB⟩)
    go_ret
    exact ⟨rfl, hB⟩
  · have h1 : ¬ (2000 : Int) < (s.size : Nat) := by omega
    have h2 : (2000 : Int) < (t.size : Nat) := by omega
    clear h h'
    go_enter Try.func5, Try.ntmps5
    go_wp2_with (go_at_call 7; refine (awakeS_any _).mono ?_; rintro e w1 ⟨rfl, hB⟩)
    go_ret
    exact ⟨rfl, hB⟩

set_option maxRecDepth 20000 in
set_option maxHeartbeats 8000000 in
theorem walk_bad (s t : ByteArray) (w : World) (hs : s.size ≤ 2000) (ht : t.size ≤ 2000) (ts us vs : List Tok) (a1 a2 a3 : Nat) (c1 c2 c3 : Int)
    (hl : lexed (inB s.data.toList) = (ts, a1, c1)) (hm : lexed (inB t.data.toList) = (us, a2, c2)) (hn : lexed (inB2 s.data.toList t.data.toList) = (vs, a3, c3)) (hc : c1 ≠ 0 ∨ (c1 = 0 ∧ c2 ≠ 0) ∨ (c1 = 0 ∧ c2 = 0 ∧ c3 ≠ 0)) :
    Calls Try.prog 5 #[.string s, .string t] w fun e w' => e = .returned (.bool true) ∧ Below w.heap.size w w' := by
  have s1 := size_in s
  have s2 := size_in t
  have s3 := size_in2 s t
  have HA1 := Lib.hid (fun W : World => all5 _ (by omega) _ _ _ hl W)
  have HA2 := Lib.hid (fun W : World => all5 _ (by omega) _ _ _ hm W)
  have HA3 := Lib.hid (fun W : World => all5 _ (by omega) _ _ _ hn W)
  have HE1 := Lib.hid (cat_in s)
  have HE2 := Lib.hid (cat_in t)
  have HE3 := Lib.hid (cat_in2 s t)
  have g1 : ¬ (2000 : Int) < (s.size : Nat) := by omega
  have g2 : ¬ (2000 : Int) < (t.size : Nat) := by omega
  clear hl hm hn
  go_enter Try.func5, Try.ntmps5
  go_wp2_with fail
  refine (awakeS_any _).mono ?_
  rintro e w1 ⟨rfl, hB⟩
  have B1 := Lib.hid hB
  clear hB
  go_wp2_with fail
  rw [HE1.out]
  refine (HA1.out _).mono ?_
  rintro e w2 ⟨o1, p1, rfl, _, hB⟩
  have B2 := Lib.hid (B1.out.trans (hB.mono B1.out.size))
  clear hB B1
  go_wp2_with fail
  rw [HE2.out]
  refine (HA2.out _).mono ?_
  rintro e w3 ⟨o2, p2, rfl, _, hB⟩
  have D3 := Lib.hid (blk_mid3 hB)
  have z3 : w2.heap.size < w3.heap.size := mid_size hB
  have B3 := Lib.hid (B2.out.trans ((((Below.refl _ _).alloc (Nat.le_refl _) _).trans (hB.mono (by simp))).mono B2.out.size))
  clear hB B2
  go_wp2_with fail
  rw [HE3.out]
  refine (HA3.out _).mono ?_
  rintro e w4 ⟨o3, p3, rfl, _, hB⟩
  have E4 := Lib.hid (blk_mid3 hB)
  have z4 : w3.heap.size < w4.heap.size := mid_size hB
  have k4 : Below w3.heap.size w3 w4 := ((Below.refl _ _).alloc (Nat.le_refl _) _).trans (hB.mono (by simp))
  have D4 := Lib.hid (D3.out.below k4)
  have B4 := Lib.hid (B3.out.trans (k4.mono B3.out.size))
  have b4 := B4.out.size
  have d4 := D4.out.cell
  have e4 := E4.out.cell
  have z5 : w2.heap.size < w4.heap.size := by omega
  clear hB k4 B3 D3
  rcases hc with h | ⟨h, h'⟩ | ⟨h, h', h''⟩
  · have q1 : (c1 == 0) = false := by simpa using h
    have q2 : (c1 != 0) = true := by simpa using h
    clear h
    go_wp2
    go_ret
    exact ⟨rfl, B4.out.alloc b4 _⟩
  · subst h
    have q1 : (c2 == 0) = false := by simpa using h'
    have q2 : (c2 != 0) = true := by simpa using h'
    clear h'
    go_wp2
    go_ret
    exact ⟨rfl, B4.out.alloc b4 _⟩
  · subst h h'
    have q1 : (c3 == 0) = false := by simpa using h''
    have q2 : (c3 != 0) = true := by simpa using h''
    clear h''
    go_wp2
    go_ret
    exact ⟨rfl, B4.out.alloc b4 _⟩

/-- What the three blocks tell. -/
theorem three (s t : ByteArray) (h1 : bad (toks (inB s.data.toList)) 0 = none) (h2 : bad (toks (inB t.data.toList)) 0 = none) (hs : s.size ≤ 2000) (ht : t.size ≤ 2000) :
    ∃ F f g : Nat, fuel ((toks (inB s.data.toList)).map zTok) ≤ F ∧ fuel ((toks (inB t.data.toList)).map zTok) ≤ F ∧ fuel ((toks (inB2 s.data.toList t.data.toList)).map zTok) ≤ F ∧
      blk ((toks (inB s.data.toList)).map zTok) F (f + 1) 0 0 ≠ .out ∧ blk ((toks (inB t.data.toList)).map zTok) F (g + 1) 0 0 ≠ .out ∧
      ∀ X Y, blk ((toks (inB s.data.toList)).map zTok) F (f + 1) 0 0 = .ok X (((toks (inB s.data.toList)).length : Nat) - 1 : Int) → blk ((toks (inB t.data.toList)).map zTok) F (g + 1) 0 0 = .ok Y (((toks (inB t.data.toList)).length : Nat) - 1 : Int) →
        ∃ Z, blk ((toks (inB2 s.data.toList t.data.toList)).map zTok) F (f + g + 1) 0 0 = .ok Z (((toks (inB2 s.data.toList t.data.toList)).length : Nat) - 1 : Int) ∧ Z.length = X.length + Y.length ∧ kindsOf Z = kindsOf X ++ kindsOf Y ∧
          (∀ x ∈ X, okS 4100 x) ∧ (∀ x ∈ Y, okS 4100 x) ∧ (∀ x ∈ Z, okS 4100 x) ∧ X.length ≤ 4100 ∧ Y.length ≤ 4100 ∧ Z.length ≤ 8200 := by
  have s1 := size_in s
  have s2 := size_in t
  have s3 := size_in2 s t
  have f1 := few5 h1
  have f2 := few5 h2
  refine ⟨fuel ((toks (inB s.data.toList)).map zTok) + fuel ((toks (inB t.data.toList)).map zTok) + fuel ((toks (inB2 s.data.toList t.data.toList)).map zTok), fuelB ((toks (inB s.data.toList)).map zTok), fuelB ((toks (inB t.data.toList)).map zTok), by omega, by omega, by omega, ?_, ?_, ?_⟩
  · exact (stm_some (by omega) _).1 0 0 (Int.le_refl _) (by unfold fuelB left; omega)
  · exact (stm_some (by omega) _).1 0 0 (Int.le_refl _) (by unfold fuelB left; omega)
  · intro X Y hX hY
    have hZ := join_all h1 h2 hX hY
    have kX := blk_ok (B := 4100) (fun i => Nat.le_trans (text5 i) (by omega)) hX
    have kY := blk_ok (B := 4100) (fun i => Nat.le_trans (text5 i) (by omega)) hY
    have kZ := blk_ok (B := 4100) (fun i => Nat.le_trans (text5 i) (by omega)) hZ
    have hl : (shSL ((s.data.toList.length : Nat) + 1 : Int) Y).length = Y.length := by
      have : ∀ (b : Int) (l : List SX), (shSL b l).length = l.length := by
        intro b l
        induction l with
        | nil => unfold shSL; rfl
        | cons x r ih => unfold shSL; rw [List.length_cons, ih, List.length_cons]
      exact this _ _
    refine ⟨_, hZ, by rw [List.length_append, hl], by rw [kindsOf_app, kindsOf_sh], kX.1, kY.1, kZ.1, by omega, by omega, ?_⟩
    rw [List.length_append, hl]
    omega

theorem below_eq {B n : Nat} {a w W : World} (h : Below B a w) (he : W = w.drewN n) : Below B a W := by
  rw [he]; exact below_drewN h n

theorem cat2' (a b : List UInt8) : (⟨a.toArray⟩ : ByteArray) ++ ⟨b.toArray⟩ = ⟨(a ++ b).toArray⟩ := by
  apply ByteArray.ext
  simp [ByteArray.data_append]

set_option maxRecDepth 20000 in
set_option maxHeartbeats 8000000 in
theorem walk_good (s t : ByteArray) (w : World) (hs : s.size ≤ 2000) (ht : t.size ≤ 2000) (h1 : bad (toks (inB s.data.toList)) 0 = none) (h2 : bad (toks (inB t.data.toList)) 0 = none) (h3 : bad (toks (inB2 s.data.toList t.data.toList)) 0 = none) :
    Calls Try.prog 5 #[.string s, .string t] w fun e w' => e = .returned (.bool true) ∧ Below w.heap.size w w' := by
  have s1 := size_in s
  have s2 := size_in t
  have s3 := size_in2 s t
  obtain ⟨F, f, g, F1, F2, F3, n1, n2, hJ⟩ := three s t h1 h2 hs ht
  have HA1 := Lib.hid (fun W : World => all5 _ (by omega) _ _ _ (lexed_good' h1) W)
  have HA2 := Lib.hid (fun W : World => all5 _ (by omega) _ _ _ (lexed_good' h2) W)
  have HA3 := Lib.hid (fun W : World => all5 _ (by omega) _ _ _ (lexed_good' h3) W)
  have HP1 := Lib.hid (fun (o : Option Addr) (cap : Nat) (W : World) (h : AtToks W o (toks (inB s.data.toList))) => parseS_at _ h1 (by omega) F (f + 1) F1 n1 o cap W h)
  have HP2 := Lib.hid (fun (o : Option Addr) (cap : Nat) (W : World) (h : AtToks W o (toks (inB t.data.toList))) => parseS_at _ h2 (by omega) F (g + 1) F2 n2 o cap W h)
  have HP3 := Lib.hid (fun (hr : blk ((toks (inB2 s.data.toList t.data.toList)).map zTok) F (f + g + 1) 0 0 ≠ .out) (o : Option Addr) (cap : Nat) (W : World) (h : AtToks W o (toks (inB2 s.data.toList t.data.toList))) => parseS_at _ h3 (by omega) F (f + g + 1) F3 hr o cap W h)
  have HE1 := Lib.hid (cat_in s)
  have HE2 := Lib.hid (cat_in t)
  have HE3 := Lib.hid (cat_in2 s t)
  have g1 : ¬ (2000 : Int) < (s.size : Nat) := by omega
  have g2 : ¬ (2000 : Int) < (t.size : Nat) := by omega
  have e1 : ∀ p c, blk ((toks (inB s.data.toList)).map zTok) F (f + 1) 0 0 = .err p c → c ≠ 0 := fun p c h => ((stm_err _).1 _ _ _ _ h).2
  have e2 : ∀ p c, blk ((toks (inB t.data.toList)).map zTok) F (g + 1) 0 0 = .err p c → c ≠ 0 := fun p c h => ((stm_err _).1 _ _ _ _ h).2
  have HJ := Lib.hid hJ
  have HN1 := Lib.hid e1
  have HN2 := Lib.hid e2
  have l1 := few5 h1
  have l2 := few5 h2
  have l3 := few5 h3
  clear hJ e1 e2 F1 F2 F3 h1 h2 h3 s1 s2 s3
  generalize blk ((toks (inB s.data.toList)).map zTok) F (f + 1) 0 0 = R1 at *
  generalize blk ((toks (inB t.data.toList)).map zTok) F (g + 1) 0 0 = R2 at *
  generalize blk ((toks (inB2 s.data.toList t.data.toList)).map zTok) F (f + g + 1) 0 0 = R3 at *
  generalize toks (inB s.data.toList) = ts at *
  generalize toks (inB t.data.toList) = us at *
  generalize toks (inB2 s.data.toList t.data.toList) = vs at *
  go_enter Try.func5, Try.ntmps5
  go_wp2_with fail
  refine (awakeS_any _).mono ?_
  rintro e w1 ⟨rfl, hB⟩
  have B1 := Lib.hid hB
  clear hB
  go_wp2_with fail
  rw [HE1.out]
  refine (HA1.out _).mono ?_
  rintro e w2 ⟨o1, p1, rfl, hZ1, hB⟩
  have T2 := Lib.hid hZ1
  have B2 := Lib.hid (B1.out.trans (hB.mono B1.out.size))
  clear hB B1 hZ1 HA1 HE1
  go_wp2_with fail
  rw [HE2.out]
  refine (HA2.out _).mono ?_
  rintro e w3 ⟨o2, p2, rfl, hZ2, hB⟩
  have D3 := Lib.hid (blk_mid3 hB)
  have z3 : w2.heap.size < w3.heap.size := mid_size hB
  have k3 : Below w2.heap.size w2 w3 := ((Below.refl _ _).alloc (Nat.le_refl _) _).trans (hB.mono (by simp))
  have B3 := Lib.hid (B2.out.trans (k3.mono B2.out.size))
  have T3 := Lib.hid (T2.out.below k3)
  have U3 := Lib.hid hZ2
  clear hB B2 T2 hZ2 k3 HA2 HE2
  go_wp2_with fail
  rw [HE3.out]
  refine (HA3.out _).mono ?_
  rintro e w4 ⟨o3, p3, rfl, hZ3, hB⟩
  have E4 := Lib.hid (blk_mid3 hB)
  have z4 : w3.heap.size < w4.heap.size := mid_size hB
  have k4 : Below w3.heap.size w3 w4 := ((Below.refl _ _).alloc (Nat.le_refl _) _).trans (hB.mono (by simp))
  have D4 := Lib.hid (D3.out.below k4)
  have B4 := Lib.hid (B3.out.trans (k4.mono B3.out.size))
  have k5 : Below w4.heap.size w4 (w4.alloc (.cells #[.int .i64 0, .int .i64 0] 26)) := (Below.refl _ _).alloc (Nat.le_refl _) _
  have T4 := Lib.hid ((T3.out.below k4).below k5)
  have U4 := Lib.hid ((U3.out.below k4).below k5)
  have V4 := Lib.hid (hZ3.below k5)
  have b4 := B4.out.size
  have d4 := D4.out.cell
  have e4 := E4.out.cell
  have z5 : w2.heap.size < w4.heap.size := by omega
  clear hB k4 B3 D3 T3 U3 hZ3 HA3 HE3
  go_wp2_with fail
  refine (HP1.out o1 p1 _ T4.out).mono ?_
  rintro e w5 ⟨v1, rfl, hr1, hB⟩
  obtain ⟨oX, cX, nX, jX, pX, qX, rfl, hq1⟩ := hr1.parts n1
  have k6 := k5.trans (hB.mono k5.size)
  have B5 := Lib.hid (B4.out.trans (k6.mono b4))
  have k7 : Below w5.heap.size w5 (w5.alloc (.cells #[.int .i64 pX, .int .i64 qX] 26)) := (Below.refl _ _).alloc (Nat.le_refl _) _
  have U5 := Lib.hid ((U4.out.below hB).below k7)
  have V5 := Lib.hid ((V4.out.below hB).below k7)
  have R5 := Lib.hid hq1
  clear d4 e4 hB k5 k6 T4 U4 V4 D4 E4 hr1 hq1 HP1 B4 z3 z4 z5 b4
  go_wp2_with fail
  refine (HP2.out o2 p2 _ U5.out).mono ?_
  rintro e w6 ⟨v2, rfl, hr2, hB⟩
  obtain ⟨oY, cY, nY, jY, pY, qY, rfl, hq2⟩ := hr2.parts n2
  have b5 := B5.out.size
  have G6 := Lib.hid (blk_mid3 hB)
  have z6 : w5.heap.size < w6.heap.size := mid_size hB
  have k8 := k7.trans (hB.mono k7.size)
  have B6 := Lib.hid (B5.out.trans (k8.mono b5))
  have k9 : Below w6.heap.size w6 (w6.alloc (.cells #[.int .i64 pY, .int .i64 qY] 26)) := (Below.refl _ _).alloc (Nat.le_refl _) _
  have V6 := Lib.hid ((V5.out.below hB).below k9)
  have R6 := Lib.hid hq2
  have K8 := Lib.hid k8
  have K9 := Lib.hid k9
  have g6 := G6.out.cell
  have b6 := B6.out.size
  clear hB k7 k8 k9 U5 V5 hr2 hq2 HP2 B5
  rcases R5.out with ⟨X, rX, rfl, rfl, rfl, hX⟩ | ⟨rX, rfl, rfl⟩
  · rcases R6.out with ⟨Y, rY, rfl, rfl, rfl, hY⟩ | ⟨rY, rfl, rfl⟩
    · by_cases hj1 : jX = ((ts.length : Nat) : Int) - 1
      · by_cases hj2 : jY = ((us.length : Nat) : Int) - 1
        · subst hj1 hj2
          obtain ⟨Z, rZ, hl, hk, kX, kY, kZ, mX, mY, mZ⟩ := HJ.out X Y rX rY
          subst rZ
          have hX6 := Lib.hid ((hX.below K8.out).below K9.out)
          have hY6 := Lib.hid (hY.below K9.out)
          clear hX hY K8 rX rY R5 R6 HJ HN1 HN2 n1 n2
          go_wp2_with fail
          refine (HP3.out (by simp) o3 p3 _ V6.out).mono ?_
          rintro e w7 ⟨v3, rfl, hr3, hB⟩
          obtain ⟨oZ, cZ, rfl, hZ⟩ := hr3
          have B7 := Lib.hid (B6.out.trans ((K9.out.trans (hB.mono K9.out.size)).mono b6))
          have b7 := B7.out.size
          have k10 : Below w7.heap.size w7 (w7.alloc (.cells #[.int .i64 0, .int .i64 0] 26)) := (Below.refl _ _).alloc (Nat.le_refl _) _
          have HX := Lib.hid ((hX6.out.below hB).below k10)
          have HY := Lib.hid ((hY6.out.below hB).below k10)
          have HZ := Lib.hid (hZ.below k10)
          have KX := Lib.hid (fun (W : World) (h : Below (w7.alloc (.cells #[.int .i64 0, .int .i64 0] 26)).heap.size (w7.alloc (.cells #[.int .i64 0, .int .i64 0] 26)) W) => kindsS_any X 4100 kX (by omega) _ oX cX W (HX.out.below h))
          have KY := Lib.hid (fun (W : World) (h : Below (w7.alloc (.cells #[.int .i64 0, .int .i64 0] 26)).heap.size (w7.alloc (.cells #[.int .i64 0, .int .i64 0] 26)) W) => kindsS_any Y 4100 kY (by omega) _ oY cY W (HY.out.below h))
          have KZ := Lib.hid (fun (W : World) (h : Below (w7.alloc (.cells #[.int .i64 0, .int .i64 0] 26)).heap.size (w7.alloc (.cells #[.int .i64 0, .int .i64 0] 26)) W) => kindsS_any Z 4100 kZ (by omega) _ oZ cZ W (HZ.out.below h))
          have zX := kindsOf_len kX
          have zY := kindsOf_len kY
          have zX2 : X.length * (4100 + 2) ≤ 4100 * 4102 := Nat.mul_le_mul_right _ mX
          have zY2 : Y.length * (4100 + 2) ≤ 4100 * 4102 := Nat.mul_le_mul_right _ mY
          have hsz : ((⟨(kindsOf X).toArray⟩ : ByteArray) ++ ⟨(kindsOf Y).toArray⟩).size ≤ 9223372036854775807 := by
            rw [ByteArray.size_append]
            show (kindsOf X).toArray.size + (kindsOf Y).toArray.size ≤ _
            simp only [List.size_toArray]
            omega
          have hsz2 : (kindsOf X).length + (kindsOf Y).length ≤ 9223372036854775807 := by omega
          rw [hk, ← cat2', hl] at KZ
          have hlz : ((Z.length : Nat) : Int) = (X.length : Nat) + (Y.length : Nat) := by omega
          have hww : IntKind.i64.wrap (((X.length : Nat) : Int) + (Y.length : Nat)) = ((X.length : Nat) : Int) + (Y.length : Nat) := by
            exact IntWalk.i64_in _ (by omega)
          clear hB hZ V6 HP3 hX6 hY6 K9 B6 kX kY kZ zX zY zX2 zY2 HX HY HZ hk g6 G6
          have B8 := Lib.hid (B7.out.alloc b7 (.cells #[.int .i64 0, .int .i64 0] 26))
          go_wp2_with fail
          refine (KZ.out _ (Below.refl _ _)).mono ?_
          rintro e w8 ⟨rfl, m1, hw8⟩
          have K8 := Lib.hid (below_eq (Below.refl (w7.alloc (.cells #[.int .i64 0, .int .i64 0] 26)).heap.size (w7.alloc (.cells #[.int .i64 0, .int .i64 0] 26))) hw8)
          clear hw8 k10
          go_wp2_with fail
          refine (KX.out _ K8.out).mono ?_
          rintro e w9 ⟨rfl, m2, hw9⟩
          have K9 := Lib.hid (below_eq K8.out hw9)
          clear hw9
          go_wp2_with fail
          refine (KY.out _ K9.out).mono ?_
          rintro e w10 ⟨rfl, m3, hw10⟩
          have K10 := Lib.hid (below_eq K9.out hw10)
          clear hw10
          go_wp2
          go_ret
          exact ⟨by simp, B8.out.trans (K10.out.mono B8.out.size)⟩
        · have hj3 : (jY != ((us.length : Nat) : Int) - 1) = true := by simpa using hj2
          have hj4 : (jY == ((us.length : Nat) : Int) - 1) = false := by simpa using hj2
          subst hj1
          clear R5 R6 HJ HN1 HN2 HP3 V6 K8 K9 G6
          go_wp2
          go_ret
          exact ⟨rfl, B6.out.alloc b6 _⟩
      · have hj3 : (jX != ((ts.length : Nat) : Int) - 1) = true := by simpa using hj1
        have hj4 : (jX == ((ts.length : Nat) : Int) - 1) = false := by simpa using hj1
        clear R5 R6 HJ HN1 HN2 HP3 V6 K8 K9 G6
        go_wp2
        go_ret
        exact ⟨rfl, B6.out.alloc b6 _⟩
    · have hq := HN2.out _ _ rY
      have hj3 : (qY != 0) = true := by simpa using hq
      have hj4 : (qY == 0) = false := by simpa using hq
      clear R5 R6 HJ HN1 HN2 HP3 V6 K8 K9 G6 hq
      go_wp2
      go_ret
      exact ⟨rfl, B6.out.alloc b6 _⟩
  · have hq := HN1.out _ _ rX
    have hj3 : (qX != 0) = true := by simpa using hq
    have hj4 : (qX == 0) = false := by simpa using hq
    clear R5 R6 HJ HN1 HN2 HP3 V6 K8 K9 G6 hq
    go_wp2
    go_ret
    exact ⟨rfl, B6.out.alloc b6 _⟩

theorem walk (s t : ByteArray) (w : World) (hs : s.size ≤ 281474976710656) (ht : t.size ≤ 281474976710656) : Calls Try.prog 5 #[.string s, .string t] w fun e w' => e = .returned (.bool true) ∧ Below w.heap.size w w' := by
  by_cases h1 : 2000 < s.size
  · exact walk_long s t w (.inl h1) hs ht
  by_cases h2 : 2000 < t.size
  · exact walk_long s t w (.inr ⟨by omega, h2⟩) hs ht
  rcases lexed_cases (inB s.data.toList) with ⟨b1, e1⟩ | ⟨a1, c1, b1, e1⟩
  · rcases lexed_cases (inB t.data.toList) with ⟨b2, e2⟩ | ⟨a2, c2, b2, e2⟩
    · rcases lexed_cases (inB2 s.data.toList t.data.toList) with ⟨b3, e3⟩ | ⟨a3, c3, b3, e3⟩
      · exact walk_good s t w (by omega) (by omega) b1 b2 b3
      · exact walk_bad s t w (by omega) (by omega) _ _ _ _ _ _ _ _ _ e1 e2 e3 (.inr (.inr ⟨rfl, rfl, (bad_some b3).1⟩))
    · obtain ⟨vs, a3, c3, e3⟩ : ∃ vs a3 c3, lexed (inB2 s.data.toList t.data.toList) = (vs, a3, c3) := ⟨_, _, _, rfl⟩
      exact walk_bad s t w (by omega) (by omega) _ _ _ _ _ _ _ _ _ e1 e2 e3 (.inr (.inl ⟨rfl, (bad_some b2).1⟩))
  · obtain ⟨us, a2, c2, e2⟩ : ∃ vs a3 c3, lexed (inB t.data.toList) = (vs, a3, c3) := ⟨_, _, _, rfl⟩
    obtain ⟨vs, a3, c3, e3⟩ : ∃ vs a3 c3, lexed (inB2 s.data.toList t.data.toList) = (vs, a3, c3) := ⟨_, _, _, rfl⟩
    exact walk_bad s t w (by omega) (by omega) _ _ _ _ _ _ _ _ _ e1 e2 e3 (.inl (bad_some b1).1)

theorem laidOut : laidOutB Try.prog = true := by kernel_rfl

theorem int_range {n : Int} (h : (Lit.int .i64 n).wf = true) : -9223372036854775808 ≤ n ∧ n ≤ 9223372036854775807 := by
  have h2 : IntKind.i64.min ≤ n ∧ n ≤ IntKind.i64.max := by
    unfold Lit.wf at h
    simpa only [Bool.and_eq_true, decide_eq_true_eq] using h
  rw [show IntKind.i64.min = -9223372036854775808 by decide, show IntKind.i64.max = 9223372036854775807 by decide] at h2
  exact h2

set_option maxRecDepth 100000 in
theorem lifted (os : Os) (started : os.Started) (H : Type) (enc : TypeId × Value → H) :
    ReturnsInHanded {} Try.checked os 5 .any (Rows.stmtxJoinsSpec.pre6 enc Try.prog Try.f5 Rows.stmtxJoinsRow.domain false) (Rows.stmtxJoinsSpec.post enc Try.prog Try.f5 false true false false) := by
  refine returnsInHanded_of_change_sized (C := Try.checked) own started (by kernel_rfl) Try.func5
    (ChangeSpec.witness6 (enc := enc) (C := Try.checked) false ⟨#[], #[.string .empty, .string .empty], []⟩ 8 (by kernel_rfl) (by kernel_rfl) (by kernel_rfl) (by kernel_rfl)) ?_
  intro W base args ds gs before hval0 hW hcnd hsz _
  have hval : ∀ (j : Nat) t v, Try.f5.params[j]? = some t → args[j]? = some v → Value.okWide Try.prog W .any base t v := hval0
  have hW' := hW
  obtain ⟨p, q, hA0, hV, rfl, hfz, hnd⟩ := hW
  have hA : DataW.TrodAll enc Try.prog W 0 (fun _ => true) true Try.f5.params.toList args.toList ds p := hA0
  rw [Try.params5] at hA hval
  obtain ⟨v0, vs0, d0, ds0, p0, q0, hargs, rfl, rfl, h0, r0⟩ := trodAll_cons hA
  obtain ⟨v1, vs1, d1, ds1, p1, q1, rfl, rfl, rfl, h1, r1⟩ := trodAll_cons r0
  obtain ⟨rfl, rfl, rfl⟩ := trodAll_nil r1
  obtain rfl : args = #[v0, v1] := by cases args; simp_all
  obtain ⟨rfl, rfl⟩ := trodVars_none hV
  obtain ⟨a0, rfl, rfl, rfl, w0⟩ := open_string Try.underlying9 (hval 0 9 v0 rfl rfl) h0
  have f0 : a0.size ≤ 281474976710656 := by
    have h := sized_string hsz (j := 0) rfl rfl
    have hr : reachBytes ≤ 140737488355328 := by decide
    have e : a0.data.toList.length = a0.size := by rw [Array.length_toList]; rfl
    omega
  obtain ⟨a1, rfl, rfl, rfl, w1⟩ := open_string Try.underlying9 (hval 1 9 v1 rfl rfl) h1
  have f1 : a1.size ≤ 281474976710656 := by
    have h := sized_string hsz (j := 1) rfl rfl
    have hr : reachBytes ≤ 140737488355328 := by decide
    have e : a1.data.toList.length = a1.size := by rw [Array.length_toList]; rfl
    omega
  clear hA0 hval0
  simp only [List.append_nil] at hW'
  refine (walk a0 a1 W f0 f1).mono fun e W' ⟨he, hg⟩ => ?_
  subst he
  exact ⟨_, rfl, _, _, _, [], _, [], hW', (trodAll_cons_mk (shut_bool Try.underlying4 _) trodAll_mk0), (trodAll_cons_mk (shut_string Try.underlying9 w0) (trodAll_cons_mk (shut_string Try.underlying9 w1) trodAll_mk0)), rfl, hg.frame _, fun h => by cases h⟩

theorem over : Rows.stmtxJoinsRow.holds Try.pinned (OpenSpec.ofChange Rows.stmtxJoinsSpec) :=
  OpenClaim.holds_of_wide 5 Try.f5 rfl rfl rfl rfl rfl rfl rfl ⟨rfl, rfl, rfl, rfl, rfl⟩ rfl rfl rfl rfl rfl (by kernel_rfl) Try.func5 (by kernel_rfl)
    (of_decide_eq_true (by kernel_rfl)) (by unfold Func.isWrapper; first | (rw [if_pos (by decide +kernel)]; kernel_rfl) | (rw [if_neg (by decide +kernel)]; exact ⟨rfl, rfl⟩))
    (fun os started H enc _ => lifted os started H enc)

/-- StmtxJoins answers true. -/
theorem proved : Rows.StmtxJoinsSaid :=
  over

end Go.Proofs.Ytoppknnjnfgbiaa.stmtxJoins
