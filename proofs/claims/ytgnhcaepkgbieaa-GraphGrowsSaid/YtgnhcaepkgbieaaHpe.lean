/-
  A heap of numbers in memory: one sinks. Condition: at most a hundred thousand numbers.
-/
import Derived.Test.YtgnhcaepkgbieaaHpd
namespace Go.Proofs.Ytgnhcaepkgbieaa
open Go.RowKit

theorem lessI_any (base g n cap i j : Nat) (x y : Int) (l : List Nat) (w : World) (h : RowI w base 3 g n cap l) (hn : l.length = n) (hi : i < n) (hj : j < n) (hx : x = (i : Int)) (hy : y = (j : Int)) :
    Calls Try.prog 102 #[.slice (some ⟨g, 0, none⟩) n cap, .int .i64 x, .int .i64 y] w fun e w' => e = .returned (.bool (decide (getH l i < getH l j))) ∧ Turn (fun _ => False) w w' := by
  subst hx hy
  exact lessP_any base g n cap i j l w h hn hi hj
theorem swapI_any (base g n cap i j : Nat) (x y : Int) (l : List Nat) (w : World) (h : RowI w base 3 g n cap l) (hn : l.length = n) (hi : i < n) (hj : j < n) (hx : x = (i : Int)) (hy : y = (j : Int)) :
    Calls Try.prog 103 #[.slice (some ⟨g, 0, none⟩) n cap, .int .i64 x, .int .i64 y] w fun e w' => e = .returned (.tuple #[]) ∧ RowI w' base 3 g n cap (swapH l i j) ∧ Turn (fun k => k = g) w w' := by
  subst hx hy
  exact swapP_any base g n cap i j l w h hn hi hj

set_option maxRecDepth 100000 in
set_option maxHeartbeats 4000000 in
/-- One sinks. -/
theorem downP_any (base b g cap n m : Nat) (H : List Nat) (w : World) (h : HpG w base b g cap n H) (hm : m < n) (hd : DownI H m 0) :
    Calls Try.prog 52 #[.iface 62 (.pointer (some ⟨b, 0, none⟩)), .int .i64 0, .int .i64 (m : Int)] w fun e w' => (∃ x, e = .returned (.bool x)) ∧ ∃ H', HpG w' base b g cap n H' ∧ HeapTo H' m ∧ H'.Perm H ∧ getH H' m = getH H m ∧ Turn (fun k => k = g) w w' := by
  have HH := Lib.hid h
  have HU := Lib.hid hd
  have HN := Lib.hid (show n ≤ 100000 by rw [← h.len]; exact h.hp.few)
  have HM := Lib.hid hm
  clear h hd hm
  go_enter Try.func52, Try.ntmps52
  go_wp2
  go_loopw [7] (fun v wr => ∃ (i : Nat) (L : List Nat), v = .int .i64 (i : Int) ∧ Hid (HpG wr base b g cap n L) ∧ Hid (DownI L m i) ∧ Hid (L.Perm H) ∧ Hid (getH L m = getH H m) ∧ Hid (i ≤ m) ∧ Hid (Turn (fun k => k = g) w wr)) (fun v _ => m - (RowKit.intOf v).toNat)
  case atStart => exact ⟨0, H, rfl, HH, HU, List.Perm.refl _, rfl, Nat.zero_le _, Turn.refl _ _⟩
  case round =>
    obtain ⟨i, L, rfl, HL, HI, HP, HG, HIM, HT⟩ := hrel
    have him := HIM.out
    have hmn := HM.out
    have hn := HN.out
    have b1 : -9223372036854775808 ≤ 2 * (i : Int) := by omega
    have b2 : 2 * (i : Int) ≤ 9223372036854775807 := by omega
    have b3 : -9223372036854775808 ≤ 2 * (i : Int) + 1 := by omega
    have b4 : 2 * (i : Int) + 1 ≤ 9223372036854775807 := by omega
    by_cases h1 : 2 * i + 1 < m
    · have h1' : ¬ ((m : Int) ≤ 2 * (i : Int) + 1) := by omega
      have h2' : ¬ (2 * (i : Int) + 1 < 0) := by omega
      have b5 : -9223372036854775808 ≤ 2 * (i : Int) + 1 + 1 := by omega
      have b6 : 2 * (i : Int) + 1 + 1 ≤ 9223372036854775807 := by omega
      have H1 := Lib.hid h1
      by_cases h3 : 2 * i + 1 + 1 < m
      · have h3' : 2 * (i : Int) + 1 + 1 < (m : Int) := by omega
        have hml := meth_less wr b _ HL.out.cell
        rw [typesSz] at hml
        have H3 := Lib.hid h3
        clear h1 h3 him hmn hn
        go_wp2_with fail
        refine (lessI_any base g n cap (2 * i + 1 + 1) (2 * i + 1) (2 * (i : Int) + 1 + 1) (2 * (i : Int) + 1) L wr HL.out.row HL.out.len (by have := H3.out; have := HM.out; omega) (by have := H3.out; have := HM.out; omega) (by omega) (by omega)).mono ?_
        rintro e w2 ⟨rfl, hT⟩
        have HL2 := Lib.hid (HL.out.turn hT (fun h => h) (fun h => h))
        have HTX := Lib.hid (HT.out.trans (hT.mono fun k _ hk => hk.elim))
        clear hT hml
        by_cases hlt : getH L (2 * i + 1 + 1) < getH L (2 * i + 1)
        · rw [decide_eq_true hlt]
          have HLT := Lib.hid hlt
          clear hlt
          have HC : Hid (ChildH L m i (2 * i + 1 + 1)) := child_right ⟨H3.out, HLT.out⟩
          have HLc := Lib.hid (lessI_any base g n cap (2 * i + 1 + 1) i (2 * (i : Int) + 1 + 1) (i : Int) L w2 HL2.out.row HL2.out.len (by have := HC.out.lt; have := HM.out; omega) (by have := HM.out; have := H1.out; omega) (by omega) rfl)
          have hml2 := meth_less w2 b _ HL2.out.cell
          rw [typesSz] at hml2
          go_wp2_with fail
          refine HLc.out.mono ?_
          rintro e w4 ⟨rfl, hT⟩
          have HL4 := Lib.hid (HL2.out.turn hT (fun h => h) (fun h => h))
          have HT4 := Lib.hid (HTX.out.trans (hT.mono fun k _ hk => hk.elim))
          clear hT hml2 HLc
          by_cases hlt2 : getH L (2 * i + 1 + 1) < getH L i
          · rw [decide_eq_true hlt2]
            have HLT2 := Lib.hid hlt2
            have hms := meth_swap w4 b _ HL4.out.cell
            rw [typesSz] at hms
            have HSW := Lib.hid (swapI_any base g n cap i (2 * i + 1 + 1) (i : Int) (2 * (i : Int) + 1 + 1) L w4 HL4.out.row HL4.out.len (by have := HM.out; have := H1.out; omega) (by have := HC.out.lt; have := HM.out; omega) rfl (by omega))
            clear hlt2
            go_wp2_with fail
            refine HSW.out.mono ?_
            rintro e w5 ⟨rfl, hrow, hT⟩
            have HL5 := Lib.hid (HL4.out.swap hrow hT)
            have HT5 := Lib.hid (HT4.out.trans hT)
            have HI5 := Lib.hid (HI.out.step (by have := HM.out; rw [HL.out.len]; omega) HC.out HLT2.out)
            have HP5 := Lib.hid ((swapH_perm (l := L) (i := i) (j := 2 * i + 1 + 1) (by have := HM.out; have := H1.out; rw [HL.out.len]; omega) (by have := HC.out.lt; have := HM.out; rw [HL.out.len]; omega)).trans HP.out)
            have HG5 : Hid (getH (swapH L i (2 * i + 1 + 1)) m = getH H m) := by
              have h1 := HC.out.lt
              have h2 := H1.out
              have h3 := HM.out
              show _ = _
              rw [swapH_get (by rw [HL.out.len]; omega) (by rw [HL.out.len]; omega), if_neg (by omega), if_neg (by omega)]
              exact HG.out
            clear hrow hT hms HSW
            go_wp2
            case roundEnd => exact ⟨⟨2 * i + 1 + 1, swapH L i (2 * i + 1 + 1), by push_cast; rfl, HL5, HI5, HP5, HG5, by have := HC.out.lt; show _ ≤ _; omega, HT5⟩, by have := HC.out.lt; simp [RowKit.intOf]; omega⟩
          · rw [decide_eq_false hlt2]
            have HS := Lib.hid (HI.out.stop HC.out hlt2)
            clear hlt2
            go_wp2
            go_ret
            exact ⟨⟨_, rfl⟩, L, HL4.out, HS.out, HP.out, HG.out, HT4.out⟩
        · rw [decide_eq_false hlt]
          have HNO : Hid (¬ (2 * i + 1 + 1 < m ∧ getH L (2 * i + 1 + 1) < getH L (2 * i + 1))) := fun h => hlt h.2
          clear hlt
          have HC : Hid (ChildH L m i (2 * i + 1)) := child_left H1.out HNO.out
          have HLc := Lib.hid (lessI_any base g n cap (2 * i + 1) i (2 * (i : Int) + 1) (i : Int) L w2 HL2.out.row HL2.out.len (by have := HC.out.lt; have := HM.out; omega) (by have := HM.out; have := H1.out; omega) (by omega) rfl)
          have hml2 := meth_less w2 b _ HL2.out.cell
          rw [typesSz] at hml2
          go_wp2_with fail
          refine HLc.out.mono ?_
          rintro e w4 ⟨rfl, hT⟩
          have HL4 := Lib.hid (HL2.out.turn hT (fun h => h) (fun h => h))
          have HT4 := Lib.hid (HTX.out.trans (hT.mono fun k _ hk => hk.elim))
          clear hT hml2 HLc
          by_cases hlt2 : getH L (2 * i + 1) < getH L i
          · rw [decide_eq_true hlt2]
            have HLT2 := Lib.hid hlt2
            have hms := meth_swap w4 b _ HL4.out.cell
            rw [typesSz] at hms
            have HSW := Lib.hid (swapI_any base g n cap i (2 * i + 1) (i : Int) (2 * (i : Int) + 1) L w4 HL4.out.row HL4.out.len (by have := HM.out; have := H1.out; omega) (by have := HC.out.lt; have := HM.out; omega) rfl (by omega))
            clear hlt2
            go_wp2_with fail
            refine HSW.out.mono ?_
            rintro e w5 ⟨rfl, hrow, hT⟩
            have HL5 := Lib.hid (HL4.out.swap hrow hT)
            have HT5 := Lib.hid (HT4.out.trans hT)
            have HI5 := Lib.hid (HI.out.step (by have := HM.out; rw [HL.out.len]; omega) HC.out HLT2.out)
            have HP5 := Lib.hid ((swapH_perm (l := L) (i := i) (j := 2 * i + 1) (by have := HM.out; have := H1.out; rw [HL.out.len]; omega) (by have := HC.out.lt; have := HM.out; rw [HL.out.len]; omega)).trans HP.out)
            have HG5 : Hid (getH (swapH L i (2 * i + 1)) m = getH H m) := by
              have h1 := HC.out.lt
              have h2 := H1.out
              have h3 := HM.out
              show _ = _
              rw [swapH_get (by rw [HL.out.len]; omega) (by rw [HL.out.len]; omega), if_neg (by omega), if_neg (by omega)]
              exact HG.out
            clear hrow hT hms HSW
            go_wp2
            case roundEnd => exact ⟨⟨2 * i + 1, swapH L i (2 * i + 1), by push_cast; rfl, HL5, HI5, HP5, HG5, by have := HC.out.lt; show _ ≤ _; omega, HT5⟩, by have := HC.out.lt; simp [RowKit.intOf]; omega⟩
          · rw [decide_eq_false hlt2]
            have HS := Lib.hid (HI.out.stop HC.out hlt2)
            clear hlt2
            go_wp2
            go_ret
            exact ⟨⟨_, rfl⟩, L, HL4.out, HS.out, HP.out, HG.out, HT4.out⟩
      · have h3' : ¬ (2 * (i : Int) + 1 + 1 < (m : Int)) := by omega
        have HNO : Hid (¬ (2 * i + 1 + 1 < m ∧ getH L (2 * i + 1 + 1) < getH L (2 * i + 1))) := fun h => h3 h.1
        have HTX := HT
        clear h1 h3 him hmn hn
        have HC : Hid (ChildH L m i (2 * i + 1)) := child_left H1.out HNO.out
        have HLc := Lib.hid (lessI_any base g n cap (2 * i + 1) i (2 * (i : Int) + 1) (i : Int) L wr HL.out.row HL.out.len (by have := HC.out.lt; have := HM.out; omega) (by have := HM.out; have := H1.out; omega) (by omega) rfl)
        have hml2 := meth_less wr b _ HL.out.cell
        rw [typesSz] at hml2
        go_wp2_with fail
        refine HLc.out.mono ?_
        rintro e w4 ⟨rfl, hT⟩
        have HL4 := Lib.hid (HL.out.turn hT (fun h => h) (fun h => h))
        have HT4 := Lib.hid (HTX.out.trans (hT.mono fun k _ hk => hk.elim))
        clear hT hml2 HLc
        by_cases hlt2 : getH L (2 * i + 1) < getH L i
        · rw [decide_eq_true hlt2]
          have HLT2 := Lib.hid hlt2
          have hms := meth_swap w4 b _ HL4.out.cell
          rw [typesSz] at hms
          have HSW := Lib.hid (swapI_any base g n cap i (2 * i + 1) (i : Int) (2 * (i : Int) + 1) L w4 HL4.out.row HL4.out.len (by have := HM.out; have := H1.out; omega) (by have := HC.out.lt; have := HM.out; omega) rfl (by omega))
          clear hlt2
          go_wp2_with fail
          refine HSW.out.mono ?_
          rintro e w5 ⟨rfl, hrow, hT⟩
          have HL5 := Lib.hid (HL4.out.swap hrow hT)
          have HT5 := Lib.hid (HT4.out.trans hT)
          have HI5 := Lib.hid (HI.out.step (by have := HM.out; rw [HL.out.len]; omega) HC.out HLT2.out)
          have HP5 := Lib.hid ((swapH_perm (l := L) (i := i) (j := 2 * i + 1) (by have := HM.out; have := H1.out; rw [HL.out.len]; omega) (by have := HC.out.lt; have := HM.out; rw [HL.out.len]; omega)).trans HP.out)
          have HG5 : Hid (getH (swapH L i (2 * i + 1)) m = getH H m) := by
            have h1 := HC.out.lt
            have h2 := H1.out
            have h3 := HM.out
            show _ = _
            rw [swapH_get (by rw [HL.out.len]; omega) (by rw [HL.out.len]; omega), if_neg (by omega), if_neg (by omega)]
            exact HG.out
          clear hrow hT hms HSW
          go_wp2
          case roundEnd => exact ⟨⟨2 * i + 1, swapH L i (2 * i + 1), by push_cast; rfl, HL5, HI5, HP5, HG5, by have := HC.out.lt; show _ ≤ _; omega, HT5⟩, by have := HC.out.lt; simp [RowKit.intOf]; omega⟩
        · rw [decide_eq_false hlt2]
          have HS := Lib.hid (HI.out.stop HC.out hlt2)
          clear hlt2
          go_wp2
          go_ret
          exact ⟨⟨_, rfl⟩, L, HL4.out, HS.out, HP.out, HG.out, HT4.out⟩
    · have h1' : (m : Int) ≤ 2 * (i : Int) + 1 := by omega
      have HS := Lib.hid (HI.out.leaf (by omega))
      clear h1 him hmn hn
      go_wp2
      go_ret
      exact ⟨⟨_, rfl⟩, L, HL.out, HS.out, HP.out, HG.out, HT.out⟩

end Go.Proofs.Ytgnhcaepkgbieaa
