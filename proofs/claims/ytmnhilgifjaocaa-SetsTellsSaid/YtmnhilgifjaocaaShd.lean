/-
  The statements' own: whether a scope is small ends, and answers. No condition.
-/
import Derived.Test.YtmnhilgifjaocaaShc
namespace Go.Proofs.Ytmnhilgifjaocaa
open Go.RowKit
open Go.Lib hiding intOf

/-- It answers yes or no; yes just where there are few packages. -/
def IsB (n : Nat) (e : Ending) : Prop := ∃ b, e = .returned (.bool b) ∧ (b = true → n ≤ 20)
set_option maxRecDepth 100000 in
set_option maxHeartbeats 16000000 in
theorem small_any (s : SCP) (l : List GY) (o0 : Option Addr) (c0 : Nat) (c : List Value) (w0 w : World) (h : IsSc w0 s c) (hl : IsYs w0 o0 0 l) (hlc : l.length ≤ 9223372036854775807) (h0 : Below w0.heap.size w0 w) :
    Calls Try.prog 10 #[.agg c.toArray, .slice o0 l.length c0] w fun e w' => IsB s.W.length e ∧ Below w.heap.size w w' := by
  obtain ⟨o, o1, o2, o3, o4, k, n1, k1, n2, k2, k3, n4, k4, rfl, hlw, hkw, hlb, hkb, hrow, _⟩ := h
  have hq : s.W.length ≤ 9223372036854775807 := by unfold maxLen at hkw; omega
  have hqb : s.bounds.length ≤ 9223372036854775807 := by unfold maxLen at hkb; omega
  generalize s.bounds.length = nb at *
  obtain ⟨N, hN⟩ : ∃ N, s.W.length = N := ⟨_, rfl⟩
  obtain ⟨L, hL⟩ : ∃ L, l.length = L := ⟨_, rfl⟩
  rw [hN] at hq ⊢
  rw [hL] at hlc ⊢
  have HN := Lib.hid hN
  have HL := Lib.hid hL
  have HR := Lib.hid hrow
  have HY := Lib.hid hl
  have H0 := Lib.hid h0
  obtain ⟨W2, hW2, HBX⟩ := bx1 w #[.slice o N k, .slice o1 n1 k1, .slice o2 n2 k2, .slice o3 nb k3, .slice o4 n4 k4] 27
  have hb1 := HBX.out.2.1
  rw [← hW2] at hb1
  have HB1 := Lib.hid hb1
  have HW2 := Lib.hid hW2
  have HB0 := Lib.hid (Nat.zero_le N)
  have HB0L := Lib.hid (Nat.zero_le L)
  clear hb1 hW2 hlw hkw hlb hkb hrow hl h0 hN hL
  by_cases h20 : (N : Int) > 20
  · go_enter Try.func10, Try.ntmps10
    go_wp2
    refine bodyPost_ret (v := .bool false) (by simp [results, Try.results10, go_sem]) rfl ⟨⟨_, rfl, fun h => nomatch h⟩, HB1.out⟩
  by_cases h21 : (nb : Int) > 20
  · go_enter Try.func10, Try.ntmps10
    go_wp2
    refine bodyPost_ret (v := .bool false) (by simp [results, Try.results10, go_sem]) rfl ⟨⟨_, rfl, fun h => nomatch h⟩, HB1.out⟩
  go_enter Try.func10, Try.ntmps10
  go_wp2
  rw [HW2.out]
  go_loopw [5] (fun i wr => ∃ j : Nat, i = .int .i64 (j : Nat) ∧ Hid (j ≤ N) ∧ Hid (Below W2.heap.size W2 wr)) (fun i _ => N - (RowKit.intOf i).toNat)
  case atStart => exact ⟨0, rfl, HB0, Below.refl _ _⟩
  case round =>
    obtain ⟨j, rfl, HJ, HB⟩ := hrel
    clear HB0 HW2 HB1
    have c0 := (HBX.out.at_ HB.out 0 rfl).cell
    rw [Nat.add_zero] at c0
    have hww := HBX.out.below HB.out
    have HWW := Lib.hid hww
    by_cases hj : j < N
    · have hj' : ((j : Int) < (N : Int)) := by omega
      have hj0 : (0 : Int) ≤ (j : Int) := by omega
      have hwj := IntWalk.i64_in ((j : Int) + 1) ⟨by omega, by omega⟩
      obtain ⟨p, hp⟩ : ∃ p, s.W[j]? = some p := ⟨_, List.getElem?_eq_getElem (by rw [HN.out]; exact hj)⟩
      obtain ⟨a, cp, rfl, _, hc, hpp⟩ := HR.out j p hp
      obtain ⟨oT, oF, kT, nF, kF, rfl, hlT, hkT, hT⟩ := hpp
      have HC := Lib.hid (fun (W : World) (hb : Below w.heap.size w W) => mvc (old_step H0.out hb) hc)
      have HT := Lib.hid hT
      have hqT : p.types.length ≤ 9223372036854775807 := by unfold maxLen at hkT; omega
      obtain ⟨M, hM⟩ : ∃ M, p.types.length = M := ⟨_, rfl⟩
      rw [hM] at hqT HC
      have HM := Lib.hid hM
      have HM0 := Lib.hid (Nat.zero_le M)
      have e1 := atS (HC.out wr hww 1 _ rfl)
      clear hp hc hlT hkT hT hM hww
      by_cases h30 : (M : Int) > 30
      · go_wp2
        refine bodyPost_ret (v := .bool false) (by simp [results, Try.results10, go_sem]) rfl ⟨⟨_, rfl, fun h => nomatch h⟩, HWW.out⟩
      · go_wp2
        go_loopw [6] (fun i wr => ∃ q : Nat, i = .int .i64 (q : Nat) ∧ Hid (q ≤ M) ∧ Hid (Below W2.heap.size W2 wr)) (fun i _ => M - (RowKit.intOf i).toNat)
        case atStart => exact ⟨0, rfl, HM0, HB⟩
        case round =>
          obtain ⟨q, rfl, HQ, HB2⟩ := hrel
          clear HM0 c0 e1
          have c0 := (HBX.out.at_ HB2.out 0 rfl).cell
          rw [Nat.add_zero] at c0
          have hww := HBX.out.below HB2.out
          have HWW2 := Lib.hid hww
          have e1 := atS (HC.out wr hww 1 _ rfl)
          by_cases hqm : q < M
          · have hq' : ((q : Int) < (M : Int)) := by omega
            have hq0 : (0 : Int) ≤ (q : Int) := by omega
            have hwq := IntWalk.i64_in ((q : Int) + 1) ⟨by omega, by omega⟩
            obtain ⟨d, hd⟩ : ∃ d, p.types[q]? = some d := ⟨_, List.getElem?_eq_getElem (by rw [HM.out]; exact hqm)⟩
            obtain ⟨b, cd, rfl, _, hcd, hdd⟩ := HT.out q d hd
            obtain ⟨od, oe, kd, ke, rfl, _, hkd, _, hke, _, hme⟩ := hdd
            have hcd := mvc (old_step H0.out hww) hcd
            have d0 := at0 (hcd 0 _ rfl)
            have d1 := atS (hcd 1 _ rfl)
            have d2 := atS (hcd 2 _ rfl)
            have d3 := atS (hcd 3 _ rfl)
            have HME := Lib.hid hme
            have hqe : d.meths.length ≤ 9223372036854775807 := by unfold maxLen at hke; omega
            have hqd : d.fields.length ≤ 9223372036854775807 := by unfold maxLen at hkd; omega
            generalize d.fields.length = nf at *
            obtain ⟨E, hE⟩ : ∃ E, d.meths.length = E := ⟨_, rfl⟩
            rw [hE] at hqe d3
            have HE := Lib.hid hE
            have HE0 := Lib.hid (Nat.zero_le E)
            obtain ⟨W3, hW3⟩ : ∃ W3, wr.alloc (.cells #[.string d.name, .bool d.strct, .slice od nf kd, .slice oe E ke] 35) = W3 := ⟨_, rfl⟩
            have b3 : Blk W3 wr.heap.size 35 #[.string d.name, .bool d.strct, .slice od nf kd, .slice oe E ke] := by rw [← hW3]; exact Blk.new _ _ _
            have hb3 : Below wr.heap.size wr W3 := by rw [← hW3]; exact (Below.refl _ _).alloc (Nat.le_refl _) _
            have HB3 := Lib.hid b3
            have HW3 := Lib.hid hW3
            have HBW := Lib.hid (stepB HB2.out hb3 (Nat.le_refl _))
            clear hd hcd hkd hke hme hE hW3 b3 hb3 hww
            by_cases h31 : (E : Int) > 30
            · go_wp2
              rw [HW3.out]
              refine bodyPost_ret (v := .bool false) (by simp [results, Try.results10, go_sem]) rfl ⟨⟨_, rfl, fun h => nomatch h⟩, HBX.out.below HBW.out⟩
            by_cases h32 : (nf : Int) > 30
            · go_wp2
              rw [HW3.out]
              refine bodyPost_ret (v := .bool false) (by simp [results, Try.results10, go_sem]) rfl ⟨⟨_, rfl, fun h => nomatch h⟩, HBX.out.below HBW.out⟩
            go_wp2
            rw [HW3.out]
            clear HB2 HW3 HWW2 c0 e1 d0 d1 d2 d3
            go_loopw [8] (fun i wr' => ∃ r : Nat, i = .int .i64 (r : Nat) ∧ Hid (r ≤ E) ∧ Hid (Below W3.heap.size W3 wr')) (fun i _ => E - (RowKit.intOf i).toNat)
            case atStart => exact ⟨0, rfl, HE0, Below.refl _ _⟩
            case round =>
              obtain ⟨r, rfl, HRR, HB4⟩ := hrel
              clear HE0
              have c3 := (blkB HB3.out HB4.out).cell
              have hb5 := stepB HBW.out HB4.out (Nat.le_refl _)
              have HB5 := Lib.hid hb5
              have hww := HBX.out.below hb5
              have HWW5 := Lib.hid hww
              clear hb5
              by_cases hre : r < E
              · have hr' : ((r : Int) < (E : Int)) := by omega
                have hr0 : (0 : Int) ≤ (r : Int) := by omega
                have hwr := IntWalk.i64_in ((r : Int) + 1) ⟨by omega, by omega⟩
                obtain ⟨m, hm⟩ : ∃ m, d.meths[r]? = some m := ⟨_, List.getElem?_eq_getElem (by rw [HE.out]; exact hre)⟩
                obtain ⟨f, cm, rfl, _, hcm, hmm⟩ := HME.out r m hm
                obtain ⟨om, km, ma, mn, mp, mq, mo, me, mk, rfl, hkm, hlm, hmp, hmr⟩ := hmm.parts
                have HCM := Lib.hid (fun (W : World) (hb : Below w.heap.size w W) => mvc (old_step H0.out hb) hcm)
                have HMP := Lib.hid hmp
                have hqp : m.params.length ≤ 9223372036854775807 := by unfold maxLen at hkm; omega
                obtain ⟨P, hP⟩ : ∃ P, m.params.length = P := ⟨_, rfl⟩
                rw [hP] at hqp HCM
                have HP := Lib.hid hP
                have HP0 := Lib.hid (Nat.zero_le P)
                have HPA := Lib.hid (parts_any _ m.result _ 0 wr (Nat.lt_succ_self _) (hmr.below (old_step H0.out hww)) (by decide) (by decide))
                have m1 := atS (HCM.out wr hww 1 _ rfl)
                have m2 := atS (HCM.out wr hww 2 _ rfl)
                have m3 := atS (HCM.out wr hww 3 _ rfl)
                have m4 := atS (HCM.out wr hww 4 _ rfl)
                have m5 := atS (HCM.out wr hww 5 _ rfl)
                have m6 := atS (HCM.out wr hww 6 _ rfl)
                clear hm hcm hmm hkm hlm hmp hmr hP hww
                by_cases h33 : (P : Int) > 20
                · go_wp2
                  refine bodyPost_ret (v := .bool false) (by simp [results, Try.results10, go_sem]) rfl ⟨⟨_, rfl, fun h => nomatch h⟩, HWW5.out⟩
                go_wp2_with fail
                refine HPA.out.mono ?_
                rintro e w6 ⟨⟨q1, rfl, hq1, hq2⟩, hb⟩
                have hb6 := stepB HB5.out hb (Nat.le_refl _)
                have HB6 := Lib.hid hb6
                have HB7 := Lib.hid (stepB HB4.out hb (Nat.le_refl _))
                clear hb hb6 HPA m1 m2 m3 m4 m5 m6 c3
                by_cases h34 : q1 > 60
                · go_wp2
                  refine bodyPost_ret (v := .bool false) (by simp [results, Try.results10, go_sem]) rfl ⟨⟨_, rfl, fun h => nomatch h⟩, HBX.out.below HB6.out⟩
                go_wp2
                go_loopw [9] (fun i wr' => ∃ z : Nat, i = .int .i64 (z : Nat) ∧ Hid (z ≤ P) ∧ Hid (Below W3.heap.size W3 wr')) (fun i _ => P - (RowKit.intOf i).toNat)
                case atStart => exact ⟨0, rfl, HP0, HB7⟩
                case round =>
                  obtain ⟨z, rfl, HZ, HB8⟩ := hrel
                  clear HP0
                  have c3 := (blkB HB3.out HB8.out).cell
                  have hb9 := stepB HBW.out HB8.out (Nat.le_refl _)
                  have HB9 := Lib.hid hb9
                  have hww := HBX.out.below hb9
                  have HWW9 := Lib.hid hww
                  have m1 := atS (HCM.out _ hww 1 _ rfl)
                  clear hb9
                  by_cases hzp : z < P
                  · have hz' : ((z : Int) < (P : Int)) := by omega
                    have hz0 : (0 : Int) ≤ (z : Int) := by omega
                    have hwz := IntWalk.i64_in ((z : Int) + 1) ⟨by omega, by omega⟩
                    obtain ⟨y, hy⟩ : ∃ y, m.params[z]? = some y := ⟨_, List.getElem?_eq_getElem (by rw [HP.out]; exact hzp)⟩
                    obtain ⟨g, y0, y1, y2, y3, y4, rfl, hcy, hyy⟩ := HMP.out.at_ z hy
                    rw [Nat.zero_add] at hcy
                    have hoo := old_step H0.out hww
                    have HPB := Lib.hid (parts_any _ y _ 0 _ (Nat.lt_succ_self _) (hyy.below hoo) (by decide) (by decide))
                    have hcy := mvc hoo hcy
                    have g0 := at0 (hcy 0 _ rfl)
                    have g1 := atS (hcy 1 _ rfl)
                    have g2 := atS (hcy 2 _ rfl)
                    have g3 := atS (hcy 3 _ rfl)
                    have g4 := atS (hcy 4 _ rfl)
                    clear hcy hyy hoo hy hww
                    go_wp2_with fail
                    refine HPB.out.mono ?_
                    rintro e wA ⟨⟨q3, rfl, hq3, hq4⟩, hb⟩
                    have HBA := Lib.hid (stepB HB8.out hb (Nat.le_refl _))
                    have HBB := Lib.hid (stepB HWW9.out hb (Nat.le_refl _))
                    clear hb HPB g0 g1 g2 g3 g4 c3 m1
                    by_cases h35 : q3 > 60
                    · go_wp2
                      refine bodyPost_ret (v := .bool false) (by simp [results, Try.results10, go_sem]) rfl ⟨⟨_, rfl, fun h => nomatch h⟩, HBB.out⟩
                    go_wp2
                    case roundEnd => exact ⟨⟨z + 1, by push_cast; rfl, hzp, HBA⟩, by simp [RowKit.intOf]; omega⟩
                  · have hz' : ¬ ((z : Int) < (P : Int)) := by omega
                    clear hzp hww
                    go_wp2
                    case roundEnd => exact ⟨⟨r + 1, by push_cast; rfl, hre, HB8⟩, by simp [RowKit.intOf]; omega⟩
              · have hr' : ¬ ((r : Int) < (E : Int)) := by omega
                clear hre hww
                go_wp2
                case roundEnd => exact ⟨⟨q + 1, by push_cast; rfl, hqm, HB5⟩, by simp [RowKit.intOf]; omega⟩
          · have hq' : ¬ ((q : Int) < (M : Int)) := by omega
            clear hqm hww
            go_wp2
            case roundEnd => exact ⟨⟨j + 1, by push_cast; rfl, hj, HB2⟩, by simp [RowKit.intOf]; omega⟩
    · have hj' : ¬ ((j : Int) < (N : Int)) := by omega
      clear hj hww
      go_wp2
      go_loopw [10] (fun i wr' => ∃ z : Nat, i = .int .i64 (z : Nat) ∧ Hid (z ≤ L) ∧ Hid (Below w.heap.size w wr')) (fun i _ => L - (RowKit.intOf i).toNat)
      case atStart => exact ⟨0, rfl, HB0L, HWW⟩
      case round =>
        obtain ⟨z, rfl, HZ, HB8⟩ := hrel
        clear HB0L c0
        by_cases hzp : z < L
        · have hz' : ((z : Int) < (L : Int)) := by omega
          have hz0 : (0 : Int) ≤ (z : Int) := by omega
          have hwz := IntWalk.i64_in ((z : Int) + 1) ⟨by omega, by omega⟩
          obtain ⟨y, hy⟩ : ∃ y, l[z]? = some y := ⟨_, List.getElem?_eq_getElem (by rw [HL.out]; exact hzp)⟩
          obtain ⟨g, y0, y1, y2, y3, y4, rfl, hcy, hyy⟩ := HY.out.at_ z hy
          rw [Nat.zero_add] at hcy
          have hoo := old_step H0.out HB8.out
          have HPB := Lib.hid (parts_any _ y _ 0 _ (Nat.lt_succ_self _) (hyy.below hoo) (by decide) (by decide))
          have hcy := mvc hoo hcy
          have g0 := at0 (hcy 0 _ rfl)
          have g1 := atS (hcy 1 _ rfl)
          have g2 := atS (hcy 2 _ rfl)
          have g3 := atS (hcy 3 _ rfl)
          have g4 := atS (hcy 4 _ rfl)
          clear hcy hyy hoo hy
          go_wp2_with fail
          refine HPB.out.mono ?_
          rintro e wA ⟨⟨q3, rfl, hq3, hq4⟩, hb⟩
          have HBB := Lib.hid (stepB HB8.out hb (Nat.le_refl _))
          clear hb HPB g0 g1 g2 g3 g4
          by_cases h35 : q3 > 60
          · go_wp2
            refine bodyPost_ret (v := .bool false) (by simp [results, Try.results10, go_sem]) rfl ⟨⟨_, rfl, fun h => nomatch h⟩, HBB.out⟩
          go_wp2
          case roundEnd => exact ⟨⟨z + 1, by push_cast; rfl, hzp, HBB⟩, by simp [RowKit.intOf]; omega⟩
        · have hz' : ¬ ((z : Int) < (L : Int)) := by omega
          clear hzp
          go_wp2
          refine bodyPost_ret (v := .bool true) (by simp [results, Try.results10, go_sem]) rfl ⟨⟨_, rfl, fun _ => by omega⟩, HB8.out⟩
end Go.Proofs.Ytmnhilgifjaocaa
