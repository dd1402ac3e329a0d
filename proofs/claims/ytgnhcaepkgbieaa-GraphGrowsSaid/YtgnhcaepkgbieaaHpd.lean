/-
  A heap of numbers in memory: one rises, one sinks. Condition: at most a hundred thousand numbers.
-/
import Derived.Test.YtgnhcaepkgbieaaHpc
namespace Go.Proofs.Ytgnhcaepkgbieaa
open Go.RowKit

/-- The heap's row at one block. -/
structure HpG (w : World) (base b g cap n : Nat) (H : List Nat) : Prop where
  hp : IsHp w base b H (some ⟨g, 0, none⟩) cap
  len : H.length = n
theorem HpG.row {w : World} {base b g cap n : Nat} {H : List Nat} (h : HpG w base b g cap n H) : RowI w base 3 g n cap H := by have := h.hp.row; rw [h.len] at this; exact this
theorem HpG.cell {w : World} {base b g cap n : Nat} {H : List Nat} (h : HpG w base b g cap n H) : w.cell? ⟨b, 0, none⟩ = some (.slice (some ⟨g, 0, none⟩) n cap) := by have := h.hp.cell.1; rw [h.len] at this; exact this
theorem HpG.swap {w w' : World} {base b g cap n i j : Nat} {H : List Nat} (h : HpG w base b g cap n H) (hr : RowI w' base 3 g n cap (swapH H i j)) (hT : Turn (fun k => k = g) w w') : HpG w' base b g cap n (swapH H i j) := by
  have hl : (swapH H i j).length = n := by rw [swapH_len, h.len]
  have hgb : g ≠ b := by have := h.row.lt; have := h.hp.lt; omega
  refine ⟨⟨?_, by rw [hl]; exact hr, h.hp.lt, by rw [hl, ← h.len]; exact h.hp.few⟩, hl⟩
  rw [hl]
  have hb := h.hp.box
  rw [h.len] at hb
  exact (hT.block b h.hp.cell.2.2 (fun e => hgb e.symm)).trans hb
theorem HpG.turn {w w' : World} {S : Nat → Prop} {base b g cap n : Nat} {H : List Nat} (h : HpG w base b g cap n H) (hT : Turn S w w') (hb : ¬ S b) (hg : ¬ S g) : HpG w' base b g cap n H :=
  ⟨hT.isHp h.hp fun k hk => by
    rcases hk with rfl | hk
    · exact hb
    · simp only [Value.ownBlock, Option.some.injEq] at hk
      subst hk
      exact hg, h.len⟩

set_option maxRecDepth 100000 in
set_option maxHeartbeats 2000000 in
/-- One rises. -/
theorem upP_any (base b g cap n j : Nat) (H : List Nat) (w : World) (h : HpG w base b g cap n H) (hu : UpI H j) :
    Calls Try.prog 51 #[.iface 62 (.pointer (some ⟨b, 0, none⟩)), .int .i64 (j : Int)] w fun e w' => e = .returned (.tuple #[]) ∧ ∃ H', HpG w' base b g cap n H' ∧ HeapH H' ∧ H'.Perm H ∧ Turn (fun k => k = g) w w' := by
  have HH := Lib.hid h
  have HU := Lib.hid hu
  have HN := Lib.hid (show n ≤ 100000 by rw [← h.len]; exact h.hp.few)
  clear h hu
  go_enter Try.func51, Try.ntmps51
  go_wp2
  go_loopw [1] (fun v wr => ∃ (i : Nat) (L : List Nat), v = .int .i64 (i : Int) ∧ Hid (HpG wr base b g cap n L) ∧ Hid (UpI L i) ∧ Hid (L.Perm H) ∧ Hid (Turn (fun k => k = g) w wr)) (fun v _ => (RowKit.intOf v).toNat)
  case atStart => exact ⟨j, H, rfl, HH, HU, List.Perm.refl _, Turn.refl _ _⟩
  case round =>
    obtain ⟨i, L, rfl, HL, HI, HP, HT⟩ := hrel
    have hin : i < n := by have := HI.out.lt; rw [HL.out.len] at this; exact this
    have hn := HN.out
    by_cases h0 : i = 0
    · subst h0
      have HS := Lib.hid (HI.out.stop (.inl rfl))
      go_wp2
      go_end0
      exact ⟨rfl, L, HL.out, HS.out, HP.out, HT.out⟩
    · have hpl := parH_lt (k := i) (by omega)
      have hq : Int.tdiv ((i : Int) - 1) 2 = (parH i : Int) := by
        rw [show ((i : Int) - 1) = ((i - 1 : Nat) : Int) by omega]
        exact (Int.ofNat_tdiv _ _).symm
      have hi1 : (-9223372036854775808 : Int) ≤ (i : Int) - 1 := by omega
      have hi2 : (i : Int) - 1 ≤ 9223372036854775807 := by omega
      have hw := IntWalk.i64_in (parH i : Int) ⟨by omega, by omega⟩
      have hne : ¬ ((parH i : Int) = (i : Int)) := by omega
      have hml := meth_less wr b _ HL.out.cell
      rw [typesSz] at hml
      have HC := Lib.hid (lessP_any base g n cap i (parH i) L wr HL.out.row HL.out.len hin (by omega))
      have HPL := Lib.hid hpl
      generalize hp : parH i = p at *
      have HPE := Lib.hid hp
      have hne2 : (((p : Int) == (i : Int))) = false := by simpa using hne
      clear hn hp hpl
      go_wp2_with fail
      refine HC.out.mono ?_
      rintro e w2 ⟨rfl, hT⟩
      have HL2 := Lib.hid (HL.out.turn hT (fun h => h) (fun h => h))
      have HT2 := Lib.hid (HT.out.trans (hT.mono fun k _ hk => hk.elim))
      clear hT hml HC
      by_cases hlt : getH L i < getH L p
      · rw [decide_eq_true hlt]
        have HLT := Lib.hid hlt
        have hms := meth_swap w2 b _ HL2.out.cell
        rw [typesSz] at hms
        have HS := Lib.hid (swapP_any base g n cap p i L w2 HL2.out.row HL2.out.len (by have := HPL.out; omega) hin)
        clear hlt
        go_wp2_with fail
        refine HS.out.mono ?_
        rintro e w3 ⟨rfl, hrow, hT⟩
        have HL3 := Lib.hid (HL2.out.swap hrow hT)
        have HT3 := Lib.hid (HT2.out.trans hT)
        have HI3 : Hid (UpI (swapH L p i) p) := by
          have h := HI.out.step (by rw [HPE.out]; have := HPL.out; omega) (by rw [HPE.out]; exact HLT.out)
          rw [HPE.out] at h
          exact h
        have HP3 := Lib.hid ((swapH_perm (l := L) (i := p) (j := i) (by have := HPL.out; rw [HL.out.len]; omega) (by rw [HL.out.len]; exact hin)).trans HP.out)
        clear hrow hT hms HS
        go_wp2
        case roundEnd => exact ⟨⟨p, swapH L p i, rfl, HL3, HI3, HP3, HT3⟩, by have := HPL.out; simp [RowKit.intOf]; omega⟩
      · rw [decide_eq_false hlt]
        have HS := Lib.hid (HI.out.stop (.inr (by rw [HPE.out]; exact hlt)))
        clear hlt
        go_wp2
        go_end0
        exact ⟨rfl, L, HL2.out, HS.out, HP.out, HT2.out⟩

end Go.Proofs.Ytgnhcaepkgbieaa
