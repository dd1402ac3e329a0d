/-
  SetsTells: what any type is declared to be, its fields and its methods are what the chapter says. No condition.
-/
import Derived.Test.YtmnhilgifjaocaaSpz
import Derived.Deep.RegionHeld3
import Derived.ProofKit
import Derived.OpenShut
import Derived.ChangeMaps5
namespace Go.Proofs.Ytmnhilgifjaocaa.setsTells
open Go.RowKit
open Go.Lib hiding intOf

set_option maxRecDepth 100000 in
set_option maxHeartbeats 16000000 in
theorem walk (hp : Prg) (s : SCP) (c : List Value) (t : GY) (vt : Value) (m : ByteArray) (w : World) (hs : IsSc w s c) (hfs : FitS 140737488351232 s) (ht : IsY w t vt) :
    Calls Try.prog 3 #[.agg c.toArray, vt, .string m] w fun e w' => e = .returned (.bool true) ∧ Below w.heap.size w w' := by
  have HP := Lib.hid hp
  have HS := Lib.hid hs
  have HFS := Lib.hid hfs
  clear hfs
  obtain ⟨o, o1, o2, o3, o4, k, n1, k1, n2, k2, k3, n4, k4, rfl, _⟩ := hs
  have HtY := Lib.hid ht
  obtain ⟨ta, tm, tp, tq, tz, te, tk, rfl⟩ := ht.expl
  generalize s.W.length = l0 at *
  generalize s.bounds.length = l3 at *
  obtain ⟨W1, hW1, HBX⟩ := bx2 w #[.slice o l0 k, .slice o1 n1 k1, .slice o2 n2 k2, .slice o3 l3 k3, .slice o4 n4 k4] #[.int .i64 ta, .string tp, .string tq, .int .i64 tm, .slice tz te tk] 27 29
  have HW := Lib.hid hW1
  clear hW1 hp ht
  go_enter Try.func3, Try.ntmps3
  go_wp2_with fail
  refine (awake_any HP.out _).mono ?_
  rintro e U0 ⟨rfl, hb⟩
  rw [HW.out] at hb
  have H0 := Lib.hid hb
  clear hb HW
  have c0 := (HBX.out.at_ H0.out 0 rfl).cell
  rw [Nat.add_zero] at c0
  have c1 := (HBX.out.at_ H0.out 1 rfl).cell
  go_wp2_with fail
  refine (small_any s [t] _ _ _ _ _ (HS.out.below ((HBX.out.below H0.out).alloc (HBX.out.below H0.out).size _)) (rowY1 (newAt rfl _ _) (HtY.out.below ((HBX.out.below H0.out).alloc (HBX.out.below H0.out).size _))) (by simp) (Below.refl _ _)).mono ?_
  rintro e U1 ⟨⟨b, rfl, h20⟩, hb⟩
  have H1 := Lib.hid (stepB (H0.out.alloc H0.out.size _) hb (Nat.le_refl _))
  clear hb c0 c1
  have c0 := (HBX.out.at_ H1.out 0 rfl).cell
  rw [Nat.add_zero] at c0
  have c1 := (HBX.out.at_ H1.out 1 rfl).cell
  cases b with
  | false =>
    go_wp2
    go_ret
    exact ⟨rfl, HBX.out.below H1.out⟩
  | true =>
    go_wp2_with fail
    generalize hF : findS s.W t = R
    generalize hG : fieldS s.W t m = M
    have HF := Lib.hid hF
    have HG := Lib.hid hG
    clear hF hG
    refine (HP.out.find s t _ _ w _ HS.out HtY.out (HBX.out.below H1.out) HFS.out).mono ?_
    rintro e U2 ⟨d1, rfl, hd1, hb⟩
    have hn : Below U1.heap.size U1 U2 := hb
    have H2 := Lib.hid (stepB H1.out hn (Nat.le_refl _))
    rw [HF.out] at hd1 ⊢
    have HD1 := Lib.hid hd1
    obtain ⟨p1, q1, j1, h1, rfl, _⟩ := hd1
    clear hb hn c0 c1 
    have c0 := (HBX.out.at_ H2.out 0 rfl).cell
    rw [Nat.add_zero] at c0
    have c1 := (HBX.out.at_ H2.out 1 rfl).cell
    have z0 := (HBX.out.at_ H2.out 0 rfl).lt
    rw [Nat.add_zero] at z0
    have y0 := Nat.ne_of_lt z0
    have z1 := (HBX.out.at_ H2.out 1 rfl).lt
    have y1 := Nat.ne_of_lt z1
    go_wp2_with fail
    clear z0 y0 z1 y1 
    refine (findR_any s t _ _ w _ HS.out HtY.out ((HBX.out.below H2.out).alloc (HBX.out.below H2.out).size _)).mono ?_
    rintro e U3 ⟨d2, rfl, hd2, hb⟩
    have hn : Below U2.heap.size U2 U3 := stepB (belowA (Below.refl _ _)) hb (Nat.le_refl _)
    have B9 : Hid (Blk U3 U2.heap.size 35 #[.string (R.getD zeroD).name, .bool (R.getD zeroD).strct, .slice p1 (R.getD zeroD).fields.length j1, .slice q1 (R.getD zeroD).meths.length h1]) := blkB (newAt rfl _ _) hb
    have H3 := Lib.hid (stepB H2.out hn (Nat.le_refl _))
    have HD1' := Lib.hid (HD1.out.below hn)
    clear HD1
    have HD1 := HD1'
    clear HD1'
    rw [HF.out] at hd2 ⊢
    have HD2 := Lib.hid hd2
    obtain ⟨p2, q2, j2, h2, rfl, _⟩ := hd2
    clear hb hn c0 c1 
    have c0 := (HBX.out.at_ H3.out 0 rfl).cell
    rw [Nat.add_zero] at c0
    have c1 := (HBX.out.at_ H3.out 1 rfl).cell
    have kB9 := B9.out.cell
    have z0 := (HBX.out.at_ H3.out 0 rfl).lt
    rw [Nat.add_zero] at z0
    have y0 := Nat.ne_of_lt z0
    have z1 := (HBX.out.at_ H3.out 1 rfl).lt
    have y1 := Nat.ne_of_lt z1
    have zB9 := B9.out.lt
    have yB9 := Nat.ne_of_lt zB9
    go_wp2_with fail
    clear z0 y0 z1 y1 zB9 yB9
    refine (HP.out.field s t m _ _ w _ HS.out HtY.out ((HBX.out.below H3.out).alloc (HBX.out.below H3.out).size _) HFS.out).mono ?_
    rintro e U4 ⟨y1, rfl, hy1, hb⟩
    have hn : Below U3.heap.size U3 U4 := stepB (belowA (Below.refl _ _)) hb (Nat.le_refl _)
    have B11 : Hid (Blk U4 U3.heap.size 35 #[.string (R.getD zeroD).name, .bool (R.getD zeroD).strct, .slice p2 (R.getD zeroD).fields.length j2, .slice q2 (R.getD zeroD).meths.length h2]) := blkB (newAt rfl _ _) hb
    have B9' := Lib.hid (blkB B9.out hn)
    clear B9
    have B9 := B9'
    clear B9'
    have H4 := Lib.hid (stepB H3.out hn (Nat.le_refl _))
    have HD1' := Lib.hid (HD1.out.below hn)
    clear HD1
    have HD1 := HD1'
    clear HD1'
    rw [HG.out] at hy1 ⊢
    have HY1 := Lib.hid hy1
    obtain ⟨ya1, yn1, yp1, yq1, yz1, ye1, yk1, rfl⟩ := hy1.expl
    clear hy1
    clear hb hn c0 c1 kB9
    have c0 := (HBX.out.at_ H4.out 0 rfl).cell
    rw [Nat.add_zero] at c0
    have c1 := (HBX.out.at_ H4.out 1 rfl).cell
    have kB9 := B9.out.cell
    have kB11 := B11.out.cell
    have z0 := (HBX.out.at_ H4.out 0 rfl).lt
    rw [Nat.add_zero] at z0
    have y0 := Nat.ne_of_lt z0
    have z1 := (HBX.out.at_ H4.out 1 rfl).lt
    have y1 := Nat.ne_of_lt z1
    have zB9 := B9.out.lt
    have yB9 := Nat.ne_of_lt zB9
    have zB11 := B11.out.lt
    have yB11 := Nat.ne_of_lt zB11
    go_wp2_with fail
    clear z0 y0 z1 y1 zB9 yB9 zB11 yB11
    refine (fieldR_any s t m _ _ w _ HS.out HtY.out ((HBX.out.below H4.out).alloc (HBX.out.below H4.out).size _)).mono ?_
    rintro e U5 ⟨y2, rfl, hy2, hb⟩
    have hn : Below U4.heap.size U4 U5 := stepB (belowA (Below.refl _ _)) hb (Nat.le_refl _)
    have B13 : Hid (Blk U5 U4.heap.size 29 #[.int .i64 ya1, .string yp1, .string yq1, .int .i64 yn1, .slice yz1 ye1 yk1]) := blkB (newAt rfl _ _) hb
    have B9' := Lib.hid (blkB B9.out hn)
    clear B9
    have B9 := B9'
    clear B9'
    have B11' := Lib.hid (blkB B11.out hn)
    clear B11
    have B11 := B11'
    clear B11'
    have H5 := Lib.hid (stepB H4.out hn (Nat.le_refl _))
    have HD1' := Lib.hid (HD1.out.below hn)
    clear HD1
    have HD1 := HD1'
    clear HD1'
    have HY1' := Lib.hid (HY1.out.below hn)
    clear HY1
    have HY1 := HY1'
    clear HY1'
    rw [HG.out] at hy2 ⊢
    have HY2 := Lib.hid hy2
    obtain ⟨ya2, yn2, yp2, yq2, yz2, ye2, yk2, rfl⟩ := hy2.expl
    clear hy2
    clear hb hn c0 c1 kB9 kB11
    have c0 := (HBX.out.at_ H5.out 0 rfl).cell
    rw [Nat.add_zero] at c0
    have c1 := (HBX.out.at_ H5.out 1 rfl).cell
    have kB9 := B9.out.cell
    have kB11 := B11.out.cell
    have kB13 := B13.out.cell
    have z0 := (HBX.out.at_ H5.out 0 rfl).lt
    rw [Nat.add_zero] at z0
    have y0 := Nat.ne_of_lt z0
    have z1 := (HBX.out.at_ H5.out 1 rfl).lt
    have y1 := Nat.ne_of_lt z1
    have zB9 := B9.out.lt
    have yB9 := Nat.ne_of_lt zB9
    have zB11 := B11.out.lt
    have yB11 := Nat.ne_of_lt zB11
    have zB13 := B13.out.lt
    have yB13 := Nat.ne_of_lt zB13
    go_wp2_with fail
    clear z0 y0 z1 y1 zB9 yB9 zB11 yB11 zB13 yB13
    refine (declE_any (R.getD zeroD) _ _ U5 _ HD1.out (HD2.out.below (HBX.out.below H5.out)) (belowA (Below.refl _ _))).mono ?_
    rintro e U6 ⟨rfl, hb⟩
    have hn : Below U5.heap.size U5 U6 := stepB (belowA (Below.refl _ _)) hb (Nat.le_refl _)
    have B15 : Hid (Blk U6 U5.heap.size 29 #[.int .i64 ya2, .string yp2, .string yq2, .int .i64 yn2, .slice yz2 ye2 yk2]) := blkB (newAt rfl _ _) hb
    have B9' := Lib.hid (blkB B9.out hn)
    clear B9
    have B9 := B9'
    clear B9'
    have B11' := Lib.hid (blkB B11.out hn)
    clear B11
    have B11 := B11'
    clear B11'
    have B13' := Lib.hid (blkB B13.out hn)
    clear B13
    have B13 := B13'
    clear B13'
    have H6 := Lib.hid (stepB H5.out hn (Nat.le_refl _))
    have HY1' := Lib.hid (HY1.out.below hn)
    clear HY1
    have HY1 := HY1'
    clear HY1'
    clear hb hn c0 c1 kB9 kB11 kB13
    have c0 := (HBX.out.at_ H6.out 0 rfl).cell
    rw [Nat.add_zero] at c0
    have c1 := (HBX.out.at_ H6.out 1 rfl).cell
    have kB9 := B9.out.cell
    have kB11 := B11.out.cell
    have kB13 := B13.out.cell
    have kB15 := B15.out.cell
    have z0 := (HBX.out.at_ H6.out 0 rfl).lt
    rw [Nat.add_zero] at z0
    have y0 := Nat.ne_of_lt z0
    have z1 := (HBX.out.at_ H6.out 1 rfl).lt
    have y1 := Nat.ne_of_lt z1
    have zB9 := B9.out.lt
    have yB9 := Nat.ne_of_lt zB9
    have zB11 := B11.out.lt
    have yB11 := Nat.ne_of_lt zB11
    have zB13 := B13.out.lt
    have yB13 := Nat.ne_of_lt zB13
    have zB15 := B15.out.lt
    have yB15 := Nat.ne_of_lt zB15
    go_wp2_with fail
    clear z0 y0 z1 y1 zB9 yB9 zB11 yB11 zB13 yB13 zB15 yB15
    refine (equal_any _ (M.getD zeroY) _ _ _ (Nat.lt_succ_self _) HY1.out (HY2.out.below (HBX.out.below H6.out))).mono ?_
    rintro e U7 ⟨rfl, hb⟩
    have hn : Below U6.heap.size U6 U7 := hb
    have B9' := Lib.hid (blkB B9.out hn)
    clear B9
    have B9 := B9'
    clear B9'
    have B11' := Lib.hid (blkB B11.out hn)
    clear B11
    have B11 := B11'
    clear B11'
    have B13' := Lib.hid (blkB B13.out hn)
    clear B13
    have B13 := B13'
    clear B13'
    have B15' := Lib.hid (blkB B15.out hn)
    clear B15
    have B15 := B15'
    clear B15'
    have H7 := Lib.hid (stepB H6.out hn (Nat.le_refl _))
    clear hb hn c0 c1 kB9 kB11 kB13 kB15
    have c0 := (HBX.out.at_ H7.out 0 rfl).cell
    rw [Nat.add_zero] at c0
    have c1 := (HBX.out.at_ H7.out 1 rfl).cell
    have kB9 := B9.out.cell
    have kB11 := B11.out.cell
    have kB13 := B13.out.cell
    have kB15 := B15.out.cell
    have z0 := (HBX.out.at_ H7.out 0 rfl).lt
    rw [Nat.add_zero] at z0
    have y0 := Nat.ne_of_lt z0
    have z1 := (HBX.out.at_ H7.out 1 rfl).lt
    have y1 := Nat.ne_of_lt z1
    have zB9 := B9.out.lt
    have yB9 := Nat.ne_of_lt zB9
    have zB11 := B11.out.lt
    have yB11 := Nat.ne_of_lt zB11
    have zB13 := B13.out.lt
    have yB13 := Nat.ne_of_lt zB13
    have zB15 := B15.out.lt
    have yB15 := Nat.ne_of_lt zB15
    go_wp2_with fail
    clear z0 y0 z1 y1 zB9 yB9 zB11 yB11 zB13 yB13 zB15 yB15
    clear kB9 kB11 kB13 kB15 B9 B11 B13 B15 HD1 HD2 HY1 HY2
    have x0 := c0 0
    have x1 := c0 1
    have x2 := c0 2
    have x3 := c0 3
    have x4 := c0 4
    have x5 := c1 0
    have x6 := c1 1
    have x7 := c1 2
    have x8 := c1 3
    have x9 := c1 4
    simp only [List.getElem?_toArray, List.getElem?_cons_zero, List.getElem?_cons_succ] at x0 x1 x2 x3 x4 x5 x6 x7 x8 x9
    have q0 := x0
    have q1 := x1
    have q2 := x2
    have q3 := x3
    have q4 := x4
    have q5 := x5
    have q6 := x6
    have q7 := x7
    have q8 := x8
    have q9 := x9
    have KB := Lib.hid (Below.refl U7.heap.size U7)
    clear c0 c1
    go_region_held3 (fun w' => w'.cell? ⟨w.heap.size, 0, none⟩ = some (.slice o l0 k) ∧ w'.cell? ⟨w.heap.size, 1, none⟩ = some (.slice o1 n1 k1) ∧ w'.cell? ⟨w.heap.size, 2, none⟩ = some (.slice o2 n2 k2) ∧ w'.cell? ⟨w.heap.size, 3, none⟩ = some (.slice o3 l3 k3) ∧ w'.cell? ⟨w.heap.size, 4, none⟩ = some (.slice o4 n4 k4) ∧ w'.cell? ⟨w.heap.size + 1, 0, none⟩ = some (.int .i64 ta) ∧ w'.cell? ⟨w.heap.size + 1, 1, none⟩ = some (.string tp) ∧ w'.cell? ⟨w.heap.size + 1, 2, none⟩ = some (.string tq) ∧ w'.cell? ⟨w.heap.size + 1, 3, none⟩ = some (.int .i64 tm) ∧ w'.cell? ⟨w.heap.size + 1, 4, none⟩ = some (.slice tz te tk))
      (refine ⟨?_, ?_, ?_, ?_, ?_, ?_, ?_, ?_, ?_, ?_⟩ <;> (repeat (first | with_reducible assumption | with_reducible refine keepD ?_ | with_reducible refine keepA ?_)))
      ((first
        | (go_at_call 18; refine (HP.out.meth s t _ _ w _ HS.out HtY.out (by first | exact HBX.out.below (stepB H7.out KB.out (Nat.le_refl _)) | exact HBX.out.below (stepB H7.out KB.out.drew (Nat.le_refl _))) HFS.out).mono ?_; rintro e V ⟨m1, rfl, hm1, hb⟩; have HM1 := Lib.hid hm1; have KV := Lib.hid (Below.refl V.heap.size V); clear hm1; have kb : Below U7.heap.size U7 V := (by first | with_reducible exact stepB KB.out hb (Nat.le_refl _) | with_reducible exact stepB KB.out.drew hb (Nat.le_refl _)); clear KB hb q0 q1 q2 q3 q4 q5 q6 q7 q8 q9; have KB := Lib.hid kb; clear kb; have q0 := (KB.out.cell (World.block_lt_of_cell? _ _ x0)).trans x0; have q1 := (KB.out.cell (World.block_lt_of_cell? _ _ x1)).trans x1; have q2 := (KB.out.cell (World.block_lt_of_cell? _ _ x2)).trans x2; have q3 := (KB.out.cell (World.block_lt_of_cell? _ _ x3)).trans x3; have q4 := (KB.out.cell (World.block_lt_of_cell? _ _ x4)).trans x4; have q5 := (KB.out.cell (World.block_lt_of_cell? _ _ x5)).trans x5; have q6 := (KB.out.cell (World.block_lt_of_cell? _ _ x6)).trans x6; have q7 := (KB.out.cell (World.block_lt_of_cell? _ _ x7)).trans x7; have q8 := (KB.out.cell (World.block_lt_of_cell? _ _ x8)).trans x8; have q9 := (KB.out.cell (World.block_lt_of_cell? _ _ x9)).trans x9)
        | (go_at_call 19; refine (methR_any s t _ _ w _ HS.out HtY.out (by first | exact HBX.out.below (stepB H7.out KB.out (Nat.le_refl _)) | exact HBX.out.below (stepB H7.out KB.out.drew (Nat.le_refl _)))).mono ?_; rintro e V ⟨m2, rfl, hm2, hb⟩; (first | (have kv := stepB KV.out hb (Nat.le_refl _); have HMA := Lib.hid (HM1.out.below kv); clear kv) | (have kv := stepB KV.out.drew hb (Nat.le_refl _); have HMA := Lib.hid (HM1.out.below kv); clear kv)); have kb : Below U7.heap.size U7 V := (by first | with_reducible exact stepB KB.out hb (Nat.le_refl _) | with_reducible exact stepB KB.out.drew hb (Nat.le_refl _)); clear KB hb q0 q1 q2 q3 q4 q5 q6 q7 q8 q9; have KB := Lib.hid kb; clear kb; have q0 := (KB.out.cell (World.block_lt_of_cell? _ _ x0)).trans x0; have q1 := (KB.out.cell (World.block_lt_of_cell? _ _ x1)).trans x1; have q2 := (KB.out.cell (World.block_lt_of_cell? _ _ x2)).trans x2; have q3 := (KB.out.cell (World.block_lt_of_cell? _ _ x3)).trans x3; have q4 := (KB.out.cell (World.block_lt_of_cell? _ _ x4)).trans x4; have q5 := (KB.out.cell (World.block_lt_of_cell? _ _ x5)).trans x5; have q6 := (KB.out.cell (World.block_lt_of_cell? _ _ x6)).trans x6; have q7 := (KB.out.cell (World.block_lt_of_cell? _ _ x7)).trans x7; have q8 := (KB.out.cell (World.block_lt_of_cell? _ _ x8)).trans x8; have q9 := (KB.out.cell (World.block_lt_of_cell? _ _ x9)).trans x9; have HM2 := Lib.hid (hm2.below (HBX.out.below (stepB H7.out KB.out (Nat.le_refl _)))); clear hm2)
        | (go_at_call 17; refine (methsE_any (methS s t) _ _ _ _ HMA.out HM2.out (by first | exact Below.refl _ _ | exact (Below.refl _ _).drew)).mono ?_; rintro e V ⟨rfl, hb⟩; have kb : Below U7.heap.size U7 V := (by first | with_reducible exact stepB KB.out hb (Nat.le_refl _) | with_reducible exact stepB KB.out.drew hb (Nat.le_refl _)); clear KB hb q0 q1 q2 q3 q4 q5 q6 q7 q8 q9; have KB := Lib.hid kb; clear kb; have q0 := (KB.out.cell (World.block_lt_of_cell? _ _ x0)).trans x0; have q1 := (KB.out.cell (World.block_lt_of_cell? _ _ x1)).trans x1; have q2 := (KB.out.cell (World.block_lt_of_cell? _ _ x2)).trans x2; have q3 := (KB.out.cell (World.block_lt_of_cell? _ _ x3)).trans x3; have q4 := (KB.out.cell (World.block_lt_of_cell? _ _ x4)).trans x4; have q5 := (KB.out.cell (World.block_lt_of_cell? _ _ x5)).trans x5; have q6 := (KB.out.cell (World.block_lt_of_cell? _ _ x6)).trans x6; have q7 := (KB.out.cell (World.block_lt_of_cell? _ _ x7)).trans x7; have q8 := (KB.out.cell (World.block_lt_of_cell? _ _ x8)).trans x8; have q9 := (KB.out.cell (World.block_lt_of_cell? _ _ x9)).trans x9)))
    generalize R.isSome = RB at *
    generalize M.isSome = MB at *
    go_wp2_with fail
    go_region_held3 (fun w' => w'.cell? ⟨w.heap.size, 0, none⟩ = some (.slice o l0 k) ∧ w'.cell? ⟨w.heap.size, 1, none⟩ = some (.slice o1 n1 k1) ∧ w'.cell? ⟨w.heap.size, 2, none⟩ = some (.slice o2 n2 k2) ∧ w'.cell? ⟨w.heap.size, 3, none⟩ = some (.slice o3 l3 k3) ∧ w'.cell? ⟨w.heap.size, 4, none⟩ = some (.slice o4 n4 k4) ∧ w'.cell? ⟨w.heap.size + 1, 0, none⟩ = some (.int .i64 ta) ∧ w'.cell? ⟨w.heap.size + 1, 1, none⟩ = some (.string tp) ∧ w'.cell? ⟨w.heap.size + 1, 2, none⟩ = some (.string tq) ∧ w'.cell? ⟨w.heap.size + 1, 3, none⟩ = some (.int .i64 tm) ∧ w'.cell? ⟨w.heap.size + 1, 4, none⟩ = some (.slice tz te tk))
      (refine ⟨?_, ?_, ?_, ?_, ?_, ?_, ?_, ?_, ?_, ?_⟩ <;> (repeat (first | with_reducible assumption | with_reducible refine keepD ?_ | with_reducible refine keepA ?_)))
      ((first
        | (go_at_call 20; refine (HP.out.iface s t _ _ w _ HS.out HtY.out (by first | exact HBX.out.below (stepB H7.out KB.out (Nat.le_refl _)) | exact HBX.out.below (stepB H7.out KB.out.drew (Nat.le_refl _)))).mono ?_; rintro e V ⟨rfl, hb⟩; have kb : Below U7.heap.size U7 V := (by first | with_reducible exact stepB KB.out hb (Nat.le_refl _) | with_reducible exact stepB KB.out.drew hb (Nat.le_refl _)); clear KB hb q0 q1 q2 q3 q4 q5 q6 q7 q8 q9; have KB := Lib.hid kb; clear kb; have q0 := (KB.out.cell (World.block_lt_of_cell? _ _ x0)).trans x0; have q1 := (KB.out.cell (World.block_lt_of_cell? _ _ x1)).trans x1; have q2 := (KB.out.cell (World.block_lt_of_cell? _ _ x2)).trans x2; have q3 := (KB.out.cell (World.block_lt_of_cell? _ _ x3)).trans x3; have q4 := (KB.out.cell (World.block_lt_of_cell? _ _ x4)).trans x4; have q5 := (KB.out.cell (World.block_lt_of_cell? _ _ x5)).trans x5; have q6 := (KB.out.cell (World.block_lt_of_cell? _ _ x6)).trans x6; have q7 := (KB.out.cell (World.block_lt_of_cell? _ _ x7)).trans x7; have q8 := (KB.out.cell (World.block_lt_of_cell? _ _ x8)).trans x8; have q9 := (KB.out.cell (World.block_lt_of_cell? _ _ x9)).trans x9)
        | (go_at_call 21; refine (ifaceR_any s t _ _ w _ HS.out HtY.out (by first | exact HBX.out.below (stepB H7.out KB.out (Nat.le_refl _)) | exact HBX.out.below (stepB H7.out KB.out.drew (Nat.le_refl _)))).mono ?_; rintro e V ⟨rfl, hb⟩; have kb : Below U7.heap.size U7 V := (by first | with_reducible exact stepB KB.out hb (Nat.le_refl _) | with_reducible exact stepB KB.out.drew hb (Nat.le_refl _)); clear KB hb q0 q1 q2 q3 q4 q5 q6 q7 q8 q9; have KB := Lib.hid kb; clear kb; have q0 := (KB.out.cell (World.block_lt_of_cell? _ _ x0)).trans x0; have q1 := (KB.out.cell (World.block_lt_of_cell? _ _ x1)).trans x1; have q2 := (KB.out.cell (World.block_lt_of_cell? _ _ x2)).trans x2; have q3 := (KB.out.cell (World.block_lt_of_cell? _ _ x3)).trans x3; have q4 := (KB.out.cell (World.block_lt_of_cell? _ _ x4)).trans x4; have q5 := (KB.out.cell (World.block_lt_of_cell? _ _ x5)).trans x5; have q6 := (KB.out.cell (World.block_lt_of_cell? _ _ x6)).trans x6; have q7 := (KB.out.cell (World.block_lt_of_cell? _ _ x7)).trans x7; have q8 := (KB.out.cell (World.block_lt_of_cell? _ _ x8)).trans x8; have q9 := (KB.out.cell (World.block_lt_of_cell? _ _ x9)).trans x9)))
    go_wp2
    go_ret
    exact ⟨rfl, HBX.out.below (stepB H7.out KB.out (Nat.le_refl _))⟩
open Go.ChangeShapes Go.WideShapes Go.ChangeAt Go.ChangeMaps
theorem laidOut : laidOutB Try.prog = true := by kernel_rfl
theorem own : ownKnob Try.prog.godebug = none := by kernel_rfl

theorem int_range {n : Int} (h : (Lit.int .i64 n).wf = true) : -9223372036854775808 ≤ n ∧ n ≤ 9223372036854775807 := by
  have h2 : IntKind.i64.min ≤ n ∧ n ≤ IntKind.i64.max := by
    unfold Lit.wf at h
    simpa only [Bool.and_eq_true, decide_eq_true_eq] using h
  rw [show IntKind.i64.min = -9223372036854775808 by decide, show IntKind.i64.max = 9223372036854775807 by decide] at h2
  exact h2

set_option maxRecDepth 100000 in
theorem lifted (os : Os) (started : os.Started) (H : Type) (enc : TypeId × Value → H) :
    ReturnsInHanded {} Try.checked os 3 .any (Rows.setsTellsSpec.pre6 enc Try.prog Try.f3 Rows.setsTellsRow.domain false) (Rows.setsTellsSpec.post enc Try.prog Try.f3 false true false false) := by
  refine returnsInHanded_of_change_sized (C := Try.checked) own started (by kernel_rfl) Try.func3
    (ChangeSpec.witness6 (enc := enc) (C := Try.checked) false ⟨#[], #[.agg #[.slice none 0 0, .slice none 0 0, .slice none 0 0, .slice none 0 0, .slice none 0 0], .agg #[.int .i64 0, .string .empty, .string .empty, .int .i64 0, .slice none 0 0], .string .empty], []⟩ 8 (by kernel_rfl) (by kernel_rfl) (by kernel_rfl) (by kernel_rfl)) ?_
  intro W base args ds gs before hval0 hW hcnd hsz _
  have hval : ∀ (j : Nat) t v, Try.f3.params[j]? = some t → args[j]? = some v → Value.okWide Try.prog W .any base t v := hval0
  have hW' := hW
  obtain ⟨p, q, hA0, hV, rfl, hfz, hnd⟩ := hW
  have hA : DataW.TrodAll enc Try.prog W 0 (fun _ => true) true Try.f3.params.toList args.toList ds p := hA0
  rw [Try.params3] at hA hval
  obtain ⟨v0, vs0, d0, ds0, p0, q0, hargs, rfl, rfl, h0, r0⟩ := trodAll_cons hA
  obtain ⟨v1, vs1, d1, ds1, p1, q1, rfl, rfl, rfl, h1, r1⟩ := trodAll_cons r0
  obtain ⟨v2, vs2, d2, ds2, p2, q2, rfl, rfl, rfl, h2, r2⟩ := trodAll_cons r1
  obtain ⟨rfl, rfl, rfl⟩ := trodAll_nil r2
  obtain rfl : args = #[v0, v1, v2] := by cases args; simp_all
  obtain ⟨rfl, rfl⟩ := trodVars_none hV
  have t0 := h0
  obtain ⟨fl0, k0⟩ := h0
  have lt0 : ∀ x ∈ p0, x.block < W.heap.size := fun x hx => by simpa using hW'.lt x (by simp [hx])
  obtain ⟨cc0, rfl, _⟩ := okWide_struct Try.underlying27 (hval 0 27 v0 rfl rfl)
  have kk0 : DataW.trod enc Try.prog W 0 (fun _ => true) true fl0 27 cc0.toList = some (d0, p0) := k0
  obtain ⟨cl0, rfl⟩ : ∃ cl : List Value, cc0 = cl.toArray := ⟨cc0.toList, by simp⟩
  obtain ⟨sc0, g0, s0⟩ := open_sc fl0 _ _ kk0
  have m0 := s0 reachBytes (fun k hk => by simpa using List.all_eq_true.1 hsz k (DataW.weights_mem_each (j := 0) rfl rfl k hk))
  rw [show cl0.toArray.toList = cl0 from rfl] at g0
  have t1 := h1
  obtain ⟨fl1, k1⟩ := h1
  have lt1 : ∀ x ∈ p1, x.block < W.heap.size := fun x hx => by simpa using hW'.lt x (by simp [hx])
  obtain ⟨cc1, rfl, _⟩ := okWide_struct Try.underlying29 (hval 1 29 v1 rfl rfl)
  have kk1 : DataW.trod enc Try.prog W 0 (fun _ => true) true fl1 29 cc1.toList = some (d1, p1) := k1
  obtain ⟨y1, g1, _⟩ := open_y fl1 _ _ kk1
  rw [show cc1.toList.toArray = cc1 by simp] at g1
  obtain ⟨a2, rfl, rfl, rfl, w2⟩ := open_string Try.underlying9 (hval 2 9 v2 rfl rfl) h2
  clear hA0 hval0
  simp only [List.append_nil] at hW'
  refine (walk prg sc0 cl0 y1 _ a2 W g0 m0 g1).mono fun e W' ⟨he, hg⟩ => ?_
  subst he
  exact ⟨_, rfl, _, _, _, [], _, [], hW', (trodAll_cons_mk (shut_bool Try.underlying4 _) trodAll_mk0), (trodAll_cons_mk (Below.trod laidOut (by kernel_rfl) (of_decide_eq_true (by kernel_rfl)) t0 hg lt0) (trodAll_cons_mk (Below.trod laidOut (by kernel_rfl) (of_decide_eq_true (by kernel_rfl)) t1 hg lt1) (trodAll_cons_mk (shut_string Try.underlying9 w2) trodAll_mk0))), rfl, hg.frame _, fun h => by cases h⟩

theorem over : Rows.setsTellsRow.holds Try.pinned (OpenSpec.ofChange Rows.setsTellsSpec) :=
  OpenClaim.holds_of_wide 3 Try.f3 rfl rfl rfl rfl rfl rfl rfl ⟨rfl, rfl, rfl, rfl, rfl⟩ rfl rfl rfl rfl rfl (by kernel_rfl) Try.func3 (by kernel_rfl)
    (of_decide_eq_true (by kernel_rfl)) (by unfold Func.isWrapper; first | (rw [if_pos (by decide +kernel)]; kernel_rfl) | (rw [if_neg (by decide +kernel)]; exact ⟨rfl, rfl⟩))
    (fun os started H enc _ => lifted os started H enc)

/-- SetsTells answers true. -/
theorem proved : Rows.SetsTellsSaid :=
  over

end Go.Proofs.Ytmnhilgifjaocaa.setsTells
