/-
  SetsMore: packages more, behind all others of a scope, change nothing that was found. No condition.
-/
import Derived.Test.YtmnhilgifjaocaaSpz
import Derived.Test.YtmnhilgifjaocaaSlb
import Derived.Deep.RegionHeld3
import Derived.ProofKit
import Derived.OpenShut
import Derived.ChangeMaps5
namespace Go.Proofs.Ytmnhilgifjaocaa.setsMore
open Go.RowKit
open Go.Lib hiding intOf

set_option maxRecDepth 100000 in
set_option maxHeartbeats 16000000 in
theorem walk (hp : Prg) (s : SCP) (c : List Value) (a : GY) (va : Value) (b : GY) (vb : Value) (M : List IF) (om : Option Addr) (cm : Nat) (w : World) (hs : IsSc w s c) (hfs : FitS 140737488351232 s) (ha : IsY w a va) (hb : IsY w b vb) (hmr : IsRow 3 IsIf w om M) (hml : M.length ≤ cm) (hmc : cm ≤ maxLen) (hmz : om = none → cm = 0) (hmf : ∀ y ∈ M, FitI 140737488351232 y) :
    Calls Try.prog 8 #[.agg c.toArray, va, vb, .slice om M.length cm] w fun e w' => e = .returned (.bool true) ∧ Below w.heap.size w w' := by
  have HP := Lib.hid hp
  have HS := Lib.hid hs
  have HMR := Lib.hid hmr
  have HMF := Lib.hid hmf
  have HMZ := Lib.hid hmz
  have hqm : M.length ≤ 9223372036854775807 := by unfold maxLen at hmc; omega
  have HFS := Lib.hid hfs
  clear hfs
  obtain ⟨o, o1, o2, o3, o4, k, n1, k1, n2, k2, k3, n4, k4, rfl, hlw, hkw, hlb, hkb, hrw, hby, hzw⟩ := hs
  have HaY := Lib.hid ha
  obtain ⟨aa, am, ap, aq, az, ae, ak, rfl⟩ := ha.expl
  have HbY := Lib.hid hb
  obtain ⟨ba, bm, bp, bq, bz, be, bk, rfl⟩ := hb.expl
  have HRW := Lib.hid hrw
  have HZW := Lib.hid hzw
  have HLB := Lib.hid hlb
  have HKB := Lib.hid hkb
  have HBY := Lib.hid hby
  clear hlb hkb hby hmr hml hmc hmz hmf hrw hzw hkw hlw
  obtain ⟨lm, hlm⟩ : ∃ lm, M.length = lm := ⟨_, rfl⟩
  rw [hlm] at hqm
  rw [hlm]
  have HLM := Lib.hid hlm
  clear hlm
  obtain ⟨l0, hl0⟩ : ∃ l0, s.W.length = l0 := ⟨_, rfl⟩
  rw [hl0] at HS
  rw [hl0]
  have HL0 := Lib.hid hl0
  clear hl0
  obtain ⟨l3, hl3⟩ : ∃ l3, s.bounds.length = l3 := ⟨_, rfl⟩
  rw [hl3] at HS
  rw [hl3]
  have HL3 := Lib.hid hl3
  clear hl3
  obtain ⟨W1, hW1, HBX⟩ := bx3 w #[.slice o l0 k, .slice o1 n1 k1, .slice o2 n2 k2, .slice o3 l3 k3, .slice o4 n4 k4] #[.int .i64 aa, .string ap, .string aq, .int .i64 am, .slice az ae ak] #[.int .i64 ba, .string bp, .string bq, .int .i64 bm, .slice bz be bk] 27 29 29
  have HW := Lib.hid hW1
  clear hW1 hp ha hb
  go_enter Try.func8, Try.ntmps8
  go_wp2_with fail
  refine (awake_any HP.out _).mono ?_
  rintro e U0 ⟨rfl, hb⟩
  rw [HW.out] at hb
  have H0 := Lib.hid hb
  clear hb HW
  have c0 := (HBX.out.at_ H0.out 0 rfl).cell
  rw [Nat.add_zero] at c0
  have c1 := (HBX.out.at_ H0.out 1 rfl).cell
  have c2 := (HBX.out.at_ H0.out 2 rfl).cell
  go_wp2_with fail
  refine (small_any s [a, b] _ _ _ _ _ (HS.out.below ((HBX.out.below H0.out).alloc (HBX.out.below H0.out).size _)) (rowY2 (newAt rfl _ _) (HaY.out.below ((HBX.out.below H0.out).alloc (HBX.out.below H0.out).size _)) (HbY.out.below ((HBX.out.below H0.out).alloc (HBX.out.below H0.out).size _))) (by simp) (Below.refl _ _)).mono ?_
  rintro e U1 ⟨⟨b, rfl, h20⟩, hb⟩
  have H1 := Lib.hid (stepB (H0.out.alloc H0.out.size _) hb (Nat.le_refl _))
  clear hb c0 c1 c2
  have c0 := (HBX.out.at_ H1.out 0 rfl).cell
  rw [Nat.add_zero] at c0
  have c1 := (HBX.out.at_ H1.out 1 rfl).cell
  have c2 := (HBX.out.at_ H1.out 2 rfl).cell
  cases b with
  | false =>
    go_wp2
    go_ret
    exact ⟨rfl, HBX.out.below H1.out⟩
  | true =>
    have H20 : Hid (l0 ≤ 20) := by have := h20 rfl; rw [HL0.out] at this; exact this
    clear h20
    by_cases h10 : (lm : Int) > 10
    · go_wp2
      go_ret
      exact ⟨rfl, HBX.out.below H1.out⟩
    go_wp2_with fail
    refine (HP.out.find s a _ _ w _ HS.out HaY.out (HBX.out.below H1.out) HFS.out).mono ?_
    rintro e U2 ⟨d1, rfl, hd1, hb⟩
    have H2 := Lib.hid (stepB H1.out hb (Nat.le_refl _))
    generalize hF : findS s.W a = R at *
    have HFA := Lib.hid hF
    clear hF
    obtain ⟨p1, q1, j1, h1, rfl, _⟩ := hd1
    clear hb c0 c1 c2
    have c0 := (HBX.out.at_ H2.out 0 rfl).cell
    rw [Nat.add_zero] at c0
    have c1 := (HBX.out.at_ H2.out 1 rfl).cell
    have c2 := (HBX.out.at_ H2.out 2 rfl).cell
    have z0 := (HBX.out.at_ H2.out 0 rfl).lt
    rw [Nat.add_zero] at z0
    have y0 := Nat.ne_of_lt z0
    have z1 := (HBX.out.at_ H2.out 1 rfl).lt
    have y1 := Nat.ne_of_lt z1
    have z2 := (HBX.out.at_ H2.out 2 rfl).lt
    have y2 := Nat.ne_of_lt z2
    go_wp2_with fail
    clear z0 y0 z1 y1 z2 y2
    refine (HP.out.find s b _ _ w _ HS.out HbY.out ((HBX.out.below H2.out).alloc (HBX.out.below H2.out).size _) HFS.out).mono ?_
    rintro e U3 ⟨d2, rfl, hd2, hb⟩
    have H3 := Lib.hid (stepB H2.out (stepB (belowA (Below.refl _ _)) hb (Nat.le_refl _)) (Nat.le_refl _))
    generalize hF : findS s.W b = R2 at *
    have HFB := Lib.hid hF
    clear hF
    obtain ⟨p2, q2, j2, h2, rfl, _⟩ := hd2
    clear hb c0 c1 c2
    have c0 := (HBX.out.at_ H3.out 0 rfl).cell
    rw [Nat.add_zero] at c0
    have c1 := (HBX.out.at_ H3.out 1 rfl).cell
    have c2 := (HBX.out.at_ H3.out 2 rfl).cell
    have z0 := (HBX.out.at_ H3.out 0 rfl).lt
    rw [Nat.add_zero] at z0
    have y0 := Nat.ne_of_lt z0
    have z1 := (HBX.out.at_ H3.out 1 rfl).lt
    have y1 := Nat.ne_of_lt z1
    have z2 := (HBX.out.at_ H3.out 2 rfl).lt
    have y2 := Nat.ne_of_lt z2
    cases R with
    | none =>
      go_wp2
      go_ret
      exact ⟨rfl, (HBX.out.below H3.out).alloc (HBX.out.below H3.out).size _⟩
    | some d =>
      cases R2 with
      | none =>
        go_wp2
        go_ret
        exact ⟨rfl, (HBX.out.below H3.out).alloc (HBX.out.below H3.out).size _⟩
      | some e2 =>
        have nv1 : ¬ w.heap.size = U3.heap.size + 1 := by omega
        have nv2 : ¬ w.heap.size = U3.heap.size + 1 + 1 := by omega
        have nv3 : w.heap.size < U3.heap.size + 1 := by omega
        have nv4 : w.heap.size < U3.heap.size + 1 + 1 := by omega
        have hold := HBX.out.below H3.out
        have hsz : w.heap.size ≤ U3.heap.size := hold.size
        have HOLD := Lib.hid hold
        have h20' := H20.out
        have h10' : lm ≤ 10 := by omega
        clear hold
        go_wp2_with (first
          | (refine app_if rfl _ _ rfl w (below3 HOLD.out HOLD.out.size) (U3.heap.size + 1 + 1) (.slice (some ⟨U3.heap.size + 1 + 1, 0, none⟩) 0 0) s.W [] 0 l0 k o rfl (empty_row' (by simp)) rfl HL0.out HRW.out HZW.out (by omega) (by rw [World.size_alloc, World.size_alloc, World.size_alloc]; omega) ?_; intro v3 W3 ds1 hown1 hfl1 hbe1; have HO1 := Lib.hid hown1; have HF1 := Lib.hid hfl1; have HE1 := Lib.hid hbe1; have hs3 := hbe1.size; simp only [World.size_alloc] at hs3; clear hown1 hfl1 hbe1)
          | (refine app_if rfl _ _ rfl w (((below3 HOLD.out HOLD.out.size).trans (HE1.out.mono (by omega)))) (U3.heap.size + 1 + 1) v3 M ([] ++ ds1) (0 + l0) lm cm om rfl HO1.out rfl HLM.out HMR.out HMZ.out (by omega) (by omega) ?_; intro v4 W4 ds2 hown2 hfl2 hbe2; obtain ⟨o9, k9, rfl⟩ := own_slice hown2; have HO2 := Lib.hid hown2; have HF2 := Lib.hid hfl2; have hw1 : W1.heap.size ≤ U3.heap.size := H3.out.size; have HB4 := Lib.hid (((below3 HOLD.out HOLD.out.size).trans (HE1.out.mono (by omega))).trans (hbe2.mono (by omega))); have HW4 := Lib.hid (((below3 H3.out H3.out.size).trans (HE1.out.mono (by omega))).trans (hbe2.mono (by omega))); have b15 : Blk W4 (U3.heap.size + 1) 27 #[.slice o l0 k, .slice o1 n1 k1, .slice o2 n2 k2, .slice o3 l3 k3, .slice o4 n4 k4] := blkK (blkK (blkA (newAt (World.size_alloc ..) _ _) _) HE1.out (by omega)) hbe2 (by omega); have B15 := Lib.hid b15; have c15 := b15.cell; have f15 := b15.frozen; have hs4 := hbe2.size; clear hown2 hfl2 hbe2 b15 c0 c1 c2; have c0 := (HBX.out.at_ HW4.out 0 rfl).cell; rw [Nat.add_zero] at c0; have c1 := (HBX.out.at_ HW4.out 1 rfl).cell; have c2 := (HBX.out.at_ HW4.out 2 rfl).cell))
        obtain ⟨W5, hW5⟩ : ∃ W5, W4.setCell ⟨U3.heap.size + 1, 0, none⟩ (.slice o9 (l0 + lm) k9) = W5 := ⟨_, rfl⟩
        rw [hW5]
        have hb5 : Below w.heap.size w W5 := by rw [← hW5]; exact HB4.out.setCell (by simp only; omega) _
        have hw5 : Below W1.heap.size W1 W5 := by rw [← hW5]; exact HW4.out.setCell (by simp only; omega) _
        have b15 : Blk W5 (U3.heap.size + 1) 27 #[.slice o9 (l0 + lm) k9, .slice o1 n1 k1, .slice o2 n2 k2, .slice o3 l3 k3, .slice o4 n4 k4] := by rw [← hW5]; simpa using B15.out.set_ 0 (.slice o9 (l0 + lm) k9)
        have ho5 : W5.ownsRow (U3.heap.size + 1 + 1) 59 3 (.slice o9 (0 + l0 + lm) k9) (0 + l0 + lm) ([] ++ ds1 ++ ds2) := by rw [← hW5]; exact own_set HO2.out (by omega)
        obtain ⟨o', k', e9, g1, g2, g3, g4⟩ := row_of_flat ho5 ((HF1.out.app HF2.out).below hb5) (by rw [List.length_append, HL0.out, HLM.out]; omega)
        simp only [Value.slice.injEq] at e9
        obtain ⟨rfl, _, rfl⟩ := e9
        have HST : Hid (IsSc W5 ⟨s.W ++ M, s.bounds⟩ [.slice o9 (l0 + lm) k9, .slice o1 n1 k1, .slice o2 n2 k2, .slice o3 l3 k3, .slice o4 n4 k4]) := by
          have e1 : (s.W ++ M).length = l0 + lm := by rw [List.length_append, HL0.out, HLM.out]
          refine ⟨o9, o1, o2, o3, o4, k9, n1, k1, n2, k2, k3, n4, k4, by rw [e1, HL3.out], by show (s.W ++ M).length ≤ k9; omega, g2, HLB.out, HKB.out, g3, HBY.out.below hb5, g4⟩
        have HFST : Hid (FitS 140737488351232 ⟨s.W ++ M, s.bounds⟩) := ⟨fun p hp => (List.mem_append.1 hp).elim (HFS.out.1 p) (HMF.out p), HFS.out.2⟩
        have HB5 := Lib.hid hb5
        have HW5 := Lib.hid hw5
        have B15' := Lib.hid b15
        clear B15 hW5 hb5 hw5 ho5 g1 g2 g3 g4 b15 c15 f15 c0 c1 c2 HO1 HO2 HF1 HF2 HE1 HB4 HW4 nv1 nv2 nv3 nv4
        refine (HP.out.find s a _ _ w _ HS.out HaY.out HB5.out HFS.out).mono ?_
        rintro e U6 ⟨d3, rfl, hd3, hb⟩
        rw [HFA.out, Option.getD_some] at hd3
        rw [HFA.out, Option.isSome_some]
        have HD3 := Lib.hid hd3
        obtain ⟨p3, q3, j3, h3, rfl, _⟩ := hd3
        have HW6 := Lib.hid (stepB HW5.out hb (Nat.le_refl _))
        have HV6 := Lib.hid hb
        have b15 := blkB B15'.out hb
        have B156 := Lib.hid b15
        have c15 := b15.cell
        have z15 := b15.lt
        have y15 := Nat.ne_of_lt z15
        clear hb b15
        have c0 := (HBX.out.at_ HW6.out 0 rfl).cell
        rw [Nat.add_zero] at c0
        have c1 := (HBX.out.at_ HW6.out 1 rfl).cell
        have c2 := (HBX.out.at_ HW6.out 2 rfl).cell
        have z0 := (HBX.out.at_ HW6.out 0 rfl).lt
        rw [Nat.add_zero] at z0
        have y0 := Nat.ne_of_lt z0
        have z1 := (HBX.out.at_ HW6.out 1 rfl).lt
        have y1 := Nat.ne_of_lt z1
        have z2 := (HBX.out.at_ HW6.out 2 rfl).lt
        have y2 := Nat.ne_of_lt z2
        go_wp2_with fail
        clear z0 y0 z1 y1 z2 y2 z15 y15 c15 c0 c1 c2
        refine (HP.out.find ⟨s.W ++ M, s.bounds⟩ a _ _ W5 _ HST.out (HaY.out.below HB5.out) (HV6.out.alloc HV6.out.size _) HFST.out).mono ?_
        rintro e U7 ⟨d4, rfl, hd4, hb⟩
        rw [find_more HFA.out, Option.getD_some] at hd4
        rw [find_more HFA.out, Option.isSome_some]
        have HD4 := Lib.hid hd4
        obtain ⟨p4, q4, j4, h4, rfl, _⟩ := hd4
        have hn : Below U6.heap.size U6 U7 := stepB (belowA (Below.refl _ _)) hb (Nat.le_refl _)
        have b16 : Blk U7 U6.heap.size 35 #[.string d.name, .bool d.strct, .slice p3 d.fields.length j3, .slice q3 d.meths.length h3] := blkB (newAt rfl _ _) hb
        have c16 := b16.cell
        have z16 := b16.lt
        have y16 := Nat.ne_of_lt z16
        have HW7 := Lib.hid (stepB HW6.out hn (Nat.le_refl _))
        have HV7 := Lib.hid (stepB HV6.out hn (Nat.le_refl _))
        have HD3B := Lib.hid (HD3.out.below hn)
        have B157 := Lib.hid (blkB B156.out hn)
        clear hb hn b16 B156
        have c0 := (HBX.out.at_ HW7.out 0 rfl).cell
        rw [Nat.add_zero] at c0
        have c1 := (HBX.out.at_ HW7.out 1 rfl).cell
        have c2 := (HBX.out.at_ HW7.out 2 rfl).cell
        have z0 := (HBX.out.at_ HW7.out 0 rfl).lt
        rw [Nat.add_zero] at z0
        have y0 := Nat.ne_of_lt z0
        have z1 := (HBX.out.at_ HW7.out 1 rfl).lt
        have y1 := Nat.ne_of_lt z1
        have z2 := (HBX.out.at_ HW7.out 2 rfl).lt
        have y2 := Nat.ne_of_lt z2
        go_wp2_with fail
        clear z0 y0 z1 y1 z2 y2 z16 y16 c16 c0 c1 c2
        refine (declE_any d _ _ U7 _ HD3B.out HD4.out (belowA (Below.refl _ _))).mono ?_
        rintro e U8 ⟨rfl, hb⟩
        have hn : Below U7.heap.size U7 U8 := stepB (belowA (Below.refl _ _)) hb (Nat.le_refl _)
        have HW8 := Lib.hid (stepB HW7.out hn (Nat.le_refl _))
        have HV8 := Lib.hid (stepB HV7.out hn (Nat.le_refl _))
        have B158 := Lib.hid (blkB B157.out hn)
        clear hb hn B157
        have c0 := (HBX.out.at_ HW8.out 0 rfl).cell
        rw [Nat.add_zero] at c0
        have c1 := (HBX.out.at_ HW8.out 1 rfl).cell
        have c2 := (HBX.out.at_ HW8.out 2 rfl).cell
        have z0 := (HBX.out.at_ HW8.out 0 rfl).lt
        rw [Nat.add_zero] at z0
        have y0 := Nat.ne_of_lt z0
        have z1 := (HBX.out.at_ HW8.out 1 rfl).lt
        have y1 := Nat.ne_of_lt z1
        have z2 := (HBX.out.at_ HW8.out 2 rfl).lt
        have y2 := Nat.ne_of_lt z2
        have c15 := B158.out.cell
        clear z0 y0 z1 y1 z2 y2
        go_wp2_with fail
        have x0 := c0 0
        have x1 := c0 1
        have x2 := c0 2
        have x3 := c0 3
        have x4 := c0 4
        have x5 := c1 0
        have x6 := c1 1
        have x7 := c1 2
        have x8 := c1 3
        have x9 := c1 4
        have x10 := c2 0
        have x11 := c2 1
        have x12 := c2 2
        have x13 := c2 3
        have x14 := c2 4
        have x15 := c15 0
        have x16 := c15 1
        have x17 := c15 2
        have x18 := c15 3
        have x19 := c15 4
        simp only [List.getElem?_toArray, List.getElem?_cons_zero, List.getElem?_cons_succ] at x0 x1 x2 x3 x4 x5 x6 x7 x8 x9 x10 x11 x12 x13 x14 x15 x16 x17 x18 x19
        have q0' := x0
        have q1' := x1
        have q2' := x2
        have q3' := x3
        have q4' := x4
        have q5' := x5
        have q6' := x6
        have q7' := x7
        have q8' := x8
        have q9' := x9
        have q10' := x10
        have q11' := x11
        have q12' := x12
        have q13' := x13
        have q14' := x14
        have q15' := x15
        have q16' := x16
        have q17' := x17
        have q18' := x18
        have q19' := x19
        have KB := Lib.hid (Below.refl U8.heap.size U8)
        clear c0 c1 c2 c15
        go_region_held3 (fun w' => w'.cell? ⟨w.heap.size, 0, none⟩ = some (.slice o l0 k) ∧ w'.cell? ⟨w.heap.size, 1, none⟩ = some (.slice o1 n1 k1) ∧ w'.cell? ⟨w.heap.size, 2, none⟩ = some (.slice o2 n2 k2) ∧ w'.cell? ⟨w.heap.size, 3, none⟩ = some (.slice o3 l3 k3) ∧ w'.cell? ⟨w.heap.size, 4, none⟩ = some (.slice o4 n4 k4) ∧ w'.cell? ⟨w.heap.size + 1, 0, none⟩ = some (.int .i64 aa) ∧ w'.cell? ⟨w.heap.size + 1, 1, none⟩ = some (.string ap) ∧ w'.cell? ⟨w.heap.size + 1, 2, none⟩ = some (.string aq) ∧ w'.cell? ⟨w.heap.size + 1, 3, none⟩ = some (.int .i64 am) ∧ w'.cell? ⟨w.heap.size + 1, 4, none⟩ = some (.slice az ae ak) ∧ w'.cell? ⟨w.heap.size + 1 + 1, 0, none⟩ = some (.int .i64 ba) ∧ w'.cell? ⟨w.heap.size + 1 + 1, 1, none⟩ = some (.string bp) ∧ w'.cell? ⟨w.heap.size + 1 + 1, 2, none⟩ = some (.string bq) ∧ w'.cell? ⟨w.heap.size + 1 + 1, 3, none⟩ = some (.int .i64 bm) ∧ w'.cell? ⟨w.heap.size + 1 + 1, 4, none⟩ = some (.slice bz be bk) ∧ w'.cell? ⟨U3.heap.size + 1, 0, none⟩ = some (.slice o9 (l0 + lm) k9) ∧ w'.cell? ⟨U3.heap.size + 1, 1, none⟩ = some (.slice o1 n1 k1) ∧ w'.cell? ⟨U3.heap.size + 1, 2, none⟩ = some (.slice o2 n2 k2) ∧ w'.cell? ⟨U3.heap.size + 1, 3, none⟩ = some (.slice o3 l3 k3) ∧ w'.cell? ⟨U3.heap.size + 1, 4, none⟩ = some (.slice o4 n4 k4))
          (refine ⟨?_, ?_, ?_, ?_, ?_, ?_, ?_, ?_, ?_, ?_, ?_, ?_, ?_, ?_, ?_, ?_, ?_, ?_, ?_, ?_⟩ <;> (repeat (first | with_reducible assumption | with_reducible refine keepD ?_ | with_reducible refine keepA ?_)))
          ((first
            | (go_at_call 26; with_reducible refine (HP.out.assign s a b [.slice o l0 k, .slice o1 n1 k1, .slice o2 n2 k2, .slice o3 l3 k3, .slice o4 n4 k4] _ _ w _ HS.out HaY.out HbY.out (by first | exact HBX.out.below (stepB HW8.out KB.out (Nat.le_refl _)) | exact HBX.out.below (stepB HW8.out KB.out.drew (Nat.le_refl _))) HFS.out).mono ?_; rintro e V ⟨rfl, hb⟩; have kb : Below U8.heap.size U8 V := (by first | with_reducible exact stepB KB.out hb (Nat.le_refl _) | with_reducible exact stepB KB.out.drew hb (Nat.le_refl _)); clear KB hb q0' q1' q2' q3' q4' q5' q6' q7' q8' q9' q10' q11' q12' q13' q14' q15' q16' q17' q18' q19'; have KB := Lib.hid kb; clear kb; have q0' := (KB.out.cell (World.block_lt_of_cell? _ _ x0)).trans x0; have q1' := (KB.out.cell (World.block_lt_of_cell? _ _ x1)).trans x1; have q2' := (KB.out.cell (World.block_lt_of_cell? _ _ x2)).trans x2; have q3' := (KB.out.cell (World.block_lt_of_cell? _ _ x3)).trans x3; have q4' := (KB.out.cell (World.block_lt_of_cell? _ _ x4)).trans x4; have q5' := (KB.out.cell (World.block_lt_of_cell? _ _ x5)).trans x5; have q6' := (KB.out.cell (World.block_lt_of_cell? _ _ x6)).trans x6; have q7' := (KB.out.cell (World.block_lt_of_cell? _ _ x7)).trans x7; have q8' := (KB.out.cell (World.block_lt_of_cell? _ _ x8)).trans x8; have q9' := (KB.out.cell (World.block_lt_of_cell? _ _ x9)).trans x9; have q10' := (KB.out.cell (World.block_lt_of_cell? _ _ x10)).trans x10; have q11' := (KB.out.cell (World.block_lt_of_cell? _ _ x11)).trans x11; have q12' := (KB.out.cell (World.block_lt_of_cell? _ _ x12)).trans x12; have q13' := (KB.out.cell (World.block_lt_of_cell? _ _ x13)).trans x13; have q14' := (KB.out.cell (World.block_lt_of_cell? _ _ x14)).trans x14; have q15' := (KB.out.cell (World.block_lt_of_cell? _ _ x15)).trans x15; have q16' := (KB.out.cell (World.block_lt_of_cell? _ _ x16)).trans x16; have q17' := (KB.out.cell (World.block_lt_of_cell? _ _ x17)).trans x17; have q18' := (KB.out.cell (World.block_lt_of_cell? _ _ x18)).trans x18; have q19' := (KB.out.cell (World.block_lt_of_cell? _ _ x19)).trans x19)
            | (go_at_call 26; with_reducible refine (HP.out.assign ⟨s.W ++ M, s.bounds⟩ a b [.slice o9 (l0 + lm) k9, .slice o1 n1 k1, .slice o2 n2 k2, .slice o3 l3 k3, .slice o4 n4 k4] _ _ W5 _ HST.out (HaY.out.below HB5.out) (HbY.out.below HB5.out) (by first | exact stepB HV8.out KB.out (Nat.le_refl _) | exact stepB HV8.out KB.out.drew (Nat.le_refl _)) HFST.out).mono ?_; rintro e V ⟨rfl, hb⟩; rw [assign_more HFA.out HFB.out]; have kb : Below U8.heap.size U8 V := (by first | with_reducible exact stepB KB.out hb (Nat.le_refl _) | with_reducible exact stepB KB.out.drew hb (Nat.le_refl _)); clear KB hb q0' q1' q2' q3' q4' q5' q6' q7' q8' q9' q10' q11' q12' q13' q14' q15' q16' q17' q18' q19'; have KB := Lib.hid kb; clear kb; have q0' := (KB.out.cell (World.block_lt_of_cell? _ _ x0)).trans x0; have q1' := (KB.out.cell (World.block_lt_of_cell? _ _ x1)).trans x1; have q2' := (KB.out.cell (World.block_lt_of_cell? _ _ x2)).trans x2; have q3' := (KB.out.cell (World.block_lt_of_cell? _ _ x3)).trans x3; have q4' := (KB.out.cell (World.block_lt_of_cell? _ _ x4)).trans x4; have q5' := (KB.out.cell (World.block_lt_of_cell? _ _ x5)).trans x5; have q6' := (KB.out.cell (World.block_lt_of_cell? _ _ x6)).trans x6; have q7' := (KB.out.cell (World.block_lt_of_cell? _ _ x7)).trans x7; have q8' := (KB.out.cell (World.block_lt_of_cell? _ _ x8)).trans x8; have q9' := (KB.out.cell (World.block_lt_of_cell? _ _ x9)).trans x9; have q10' := (KB.out.cell (World.block_lt_of_cell? _ _ x10)).trans x10; have q11' := (KB.out.cell (World.block_lt_of_cell? _ _ x11)).trans x11; have q12' := (KB.out.cell (World.block_lt_of_cell? _ _ x12)).trans x12; have q13' := (KB.out.cell (World.block_lt_of_cell? _ _ x13)).trans x13; have q14' := (KB.out.cell (World.block_lt_of_cell? _ _ x14)).trans x14; have q15' := (KB.out.cell (World.block_lt_of_cell? _ _ x15)).trans x15; have q16' := (KB.out.cell (World.block_lt_of_cell? _ _ x16)).trans x16; have q17' := (KB.out.cell (World.block_lt_of_cell? _ _ x17)).trans x17; have q18' := (KB.out.cell (World.block_lt_of_cell? _ _ x18)).trans x18; have q19' := (KB.out.cell (World.block_lt_of_cell? _ _ x19)).trans x19)))
        go_wp2
        go_ret
        exact ⟨rfl, HBX.out.below (stepB HW8.out KB.out (Nat.le_refl _))⟩
open Go.ChangeShapes Go.WideShapes Go.ChangeAt Go.ChangeMaps
theorem laidOut : laidOutB Try.prog = true := by kernel_rfl
theorem own : ownKnob Try.prog.godebug = none := by kernel_rfl

theorem int_range {n : Int} (h : (Lit.int .i64 n).wf = true) : -9223372036854775808 ≤ n ∧ n ≤ 9223372036854775807 := by
  have h2 : IntKind.i64.min ≤ n ∧ n ≤ IntKind.i64.max := by
    unfold Lit.wf at h
    simpa only [Bool.and_eq_true, decide_eq_true_eq] using h
  rw [show IntKind.i64.min = -9223372036854775808 by decide, show IntKind.i64.max = 9223372036854775807 by decide] at h2
  exact h2

set_option maxRecDepth 100000 in
theorem lifted (os : Os) (started : os.Started) (H : Type) (enc : TypeId × Value → H) :
    ReturnsInHanded {} Try.checked os 8 .any (Rows.setsMoreSpec.pre6 enc Try.prog Try.f8 Rows.setsMoreRow.domain false) (Rows.setsMoreSpec.post enc Try.prog Try.f8 false true false false) := by
  refine returnsInHanded_of_change_sized (C := Try.checked) own started (by kernel_rfl) Try.func8
    (ChangeSpec.witness6 (enc := enc) (C := Try.checked) false ⟨#[], #[.agg #[.slice none 0 0, .slice none 0 0, .slice none 0 0, .slice none 0 0, .slice none 0 0], .agg #[.int .i64 0, .string .empty, .string .empty, .int .i64 0, .slice none 0 0], .agg #[.int .i64 0, .string .empty, .string .empty, .int .i64 0, .slice none 0 0], .slice none 0 0], []⟩ 8 (by kernel_rfl) (by kernel_rfl) (by kernel_rfl) (by kernel_rfl)) ?_
  intro W base args ds gs before hval0 hW hcnd hsz _
  have hval : ∀ (j : Nat) t v, Try.f8.params[j]? = some t → args[j]? = some v → Value.okWide Try.prog W .any base t v := hval0
  have hW' := hW
  obtain ⟨p, q, hA0, hV, rfl, hfz, hnd⟩ := hW
  have hA : DataW.TrodAll enc Try.prog W 0 (fun _ => true) true Try.f8.params.toList args.toList ds p := hA0
  rw [Try.params8] at hA hval
  obtain ⟨v0, vs0, d0, ds0, p0, q0, hargs, rfl, rfl, h0, r0⟩ := trodAll_cons hA
  obtain ⟨v1, vs1, d1, ds1, p1, q1, rfl, rfl, rfl, h1, r1⟩ := trodAll_cons r0
  obtain ⟨v2, vs2, d2, ds2, p2, q2, rfl, rfl, rfl, h2, r2⟩ := trodAll_cons r1
  obtain ⟨v3, vs3, d3, ds3, p3, q3, rfl, rfl, rfl, h3, r3⟩ := trodAll_cons r2
  obtain ⟨rfl, rfl, rfl⟩ := trodAll_nil r3
  obtain rfl : args = #[v0, v1, v2, v3] := by cases args; simp_all
  obtain ⟨rfl, rfl⟩ := trodVars_none hV
  have t0 := h0
  obtain ⟨fl0, k0⟩ := h0
  have lt0 : ∀ x ∈ p0, x.block < W.heap.size := fun x hx => by simpa using hW'.lt x (by simp [hx])
  obtain ⟨cc0, rfl, _⟩ := okWide_struct Try.underlying27 (hval 0 27 v0 rfl rfl)
  have kk0 : DataW.trod enc Try.prog W 0 (fun _ => true) true fl0 27 cc0.toList = some (d0, p0) := k0
  obtain ⟨cl0, rfl⟩ : ∃ cl : List Value, cc0 = cl.toArray := ⟨cc0.toList, by simp⟩
  obtain ⟨sc0, g0, s0⟩ := open_sc fl0 _ _ kk0
  have m0 := s0 reachBytes (fun k hk => by simpa using List.all_eq_true.1 hsz k (DataW.weights_mem_each (j := 0) rfl rfl k hk))
  rw [show cl0.toArray.toList = cl0 from rfl] at g0
  have t1 := h1
  obtain ⟨fl1, k1⟩ := h1
  have lt1 : ∀ x ∈ p1, x.block < W.heap.size := fun x hx => by simpa using hW'.lt x (by simp [hx])
  obtain ⟨cc1, rfl, _⟩ := okWide_struct Try.underlying29 (hval 1 29 v1 rfl rfl)
  have kk1 : DataW.trod enc Try.prog W 0 (fun _ => true) true fl1 29 cc1.toList = some (d1, p1) := k1
  obtain ⟨y1, g1, _⟩ := open_y fl1 _ _ kk1
  rw [show cc1.toList.toArray = cc1 by simp] at g1
  have t2 := h2
  obtain ⟨fl2, k2⟩ := h2
  have lt2 : ∀ x ∈ p2, x.block < W.heap.size := fun x hx => by simpa using hW'.lt x (by simp [hx])
  obtain ⟨cc2, rfl, _⟩ := okWide_struct Try.underlying29 (hval 2 29 v2 rfl rfl)
  have kk2 : DataW.trod enc Try.prog W 0 (fun _ => true) true fl2 29 cc2.toList = some (d2, p2) := k2
  obtain ⟨y2, g2, _⟩ := open_y fl2 _ _ kk2
  rw [show cc2.toList.toArray = cc2 by simp] at g2
  have t3 := h3
  obtain ⟨fl3, k3⟩ := h3
  have lt3 : ∀ x ∈ p3, x.block < W.heap.size := fun x hx => by simpa using hW'.lt x (by simp [hx])
  obtain ⟨oo3, ll3, cc3, rfl⟩ := okWide_slice Try.underlying22 (hval 3 22 v3 rfl rfl)
  have kk3 : DataW.trod enc Try.prog W 0 (fun _ => true) true fl3 22 [.slice oo3 ll3 cc3] = some (d3, p3) := k3
  obtain ⟨o3, l3, c3, e3, lc3, cm3, g3, z3, s3⟩ := open_ifs kk3
  have m3 := (s3 reachBytes (fun k hk => by simpa using List.all_eq_true.1 hsz k (DataW.weights_mem_each (j := 3) rfl rfl k hk))).1
  simp only [List.cons.injEq, and_true, Value.slice.injEq] at e3
  obtain ⟨rfl, rfl, rfl⟩ := e3
  clear hA0 hval0
  simp only [List.append_nil] at hW'
  refine (walk prg sc0 cl0 y1 _ y2 _ l3 oo3 cc3 W g0 m0 g1 g2 g3 lc3 cm3 z3 m3).mono fun e W' ⟨he, hg⟩ => ?_
  subst he
  exact ⟨_, rfl, _, _, _, [], _, [], hW', (trodAll_cons_mk (shut_bool Try.underlying4 _) trodAll_mk0), (trodAll_cons_mk (Below.trod laidOut (by kernel_rfl) (of_decide_eq_true (by kernel_rfl)) t0 hg lt0) (trodAll_cons_mk (Below.trod laidOut (by kernel_rfl) (of_decide_eq_true (by kernel_rfl)) t1 hg lt1) (trodAll_cons_mk (Below.trod laidOut (by kernel_rfl) (of_decide_eq_true (by kernel_rfl)) t2 hg lt2) (trodAll_cons_mk (Below.trod laidOut (by kernel_rfl) (of_decide_eq_true (by kernel_rfl)) t3 hg lt3) trodAll_mk0)))), rfl, hg.frame _, fun h => by cases h⟩

theorem over : Rows.setsMoreRow.holds Try.pinned (OpenSpec.ofChange Rows.setsMoreSpec) :=
  OpenClaim.holds_of_wide 8 Try.f8 rfl rfl rfl rfl rfl rfl rfl ⟨rfl, rfl, rfl, rfl, rfl⟩ rfl rfl rfl rfl rfl (by kernel_rfl) Try.func8 (by kernel_rfl)
    (of_decide_eq_true (by kernel_rfl)) (by unfold Func.isWrapper; first | (rw [if_pos (by decide +kernel)]; kernel_rfl) | (rw [if_neg (by decide +kernel)]; exact ⟨rfl, rfl⟩))
    (fun os started H enc _ => lifted os started H enc)

/-- SetsMore answers true. -/
theorem proved : Rows.SetsMoreSaid :=
  over

end Go.Proofs.Ytmnhilgifjaocaa.setsMore
