/-
  A heap of numbers in memory: one put in, the least taken. Condition: at most a hundred thousand numbers.
-/
import Derived.Test.YtgnhcaepkgbieaaHpe
namespace Go.Proofs.Ytgnhcaepkgbieaa
open Go.RowKit

theorem IsHp.at_ {w : World} {base b cap : Nat} {H : List Nat} {o : Option Addr} (h : IsHp w base b H o cap) (hn : 0 < H.length) : ∃ g, o = some ⟨g, 0, none⟩ ∧ HpG w base b g cap H.length H := by
  rcases h.row.2 with ⟨hv, h0⟩ | ⟨g, cap', cur, hv, _⟩
  · omega
  · obtain ⟨rfl, rfl⟩ : o = some ⟨g, 0, none⟩ ∧ cap = cap' := by simpa using hv
    exact ⟨g, rfl, ⟨h, rfl⟩⟩
theorem turn_row {w w1 w2 : World} {b g : Nat} {o : Option Addr} {n cap : Nat} (h1 : Turn (hpS b o n cap) w w1) (h2 : Turn (fun k => k = g) w1 w2) (hg : (Value.slice o n cap).ownBlock = some g ∨ w.heap.size ≤ g) : Turn (hpS b o n cap) w w2 :=
  ⟨h2.os.trans h1.os, h2.tape.trans h1.tape, h2.output.trans h1.output, Nat.le_trans h1.size h2.size, fun k hk hn => (h2.block k (Nat.lt_of_lt_of_le hk h1.size) (fun e => by
    subst e
    rcases hg with hg | hg
    · exact hn (.inr hg)
    · omega)).trans (h1.block k hk hn)⟩

set_option maxRecDepth 100000 in
set_option maxHeartbeats 2000000 in
/-- One put in. -/
theorem pushP_any (base b cap x : Nat) (H : List Nat) (o : Option Addr) (w : World) (h : IsHp w base b H o cap) (hh : HeapH H) (hb : base ≤ w.heap.size) (hn : H.length + 1 ≤ 100000) :
    Calls Try.prog 40 #[.iface 62 (.pointer (some ⟨b, 0, none⟩)), .iface 3 (.int .i64 (x : Int))] w fun e w' => e = .returned (.tuple #[]) ∧ ∃ H' o' cap', IsHp w' base b H' o' cap' ∧ HeapH H' ∧ H'.Perm (x :: H) ∧ Turn (hpS b o H.length cap) w w' ∧
      (∀ k, (Value.slice o' H'.length cap').ownBlock = some k → (Value.slice o H.length cap).ownBlock = some k ∨ w.heap.size ≤ k) := by
  have HP := Lib.hid (pushM_any base b cap x H o w h hb hn)
  have hmp := meth_push w b
  rw [typesSz] at hmp
  have HU := Lib.hid (UpI.start hh x)
  have HN := Lib.hid hn
  clear h hh hb hn
  go_enter Try.func40, Try.ntmps40
  go_wp2_with fail
  refine HP.out.mono ?_
  rintro e w1 ⟨rfl, o1, cap1, hI, hT, hW⟩
  obtain ⟨g, rfl, hG⟩ := hI.at_ (by simp)
  have hl : (H ++ [x]).length = H.length + 1 := by simp
  rw [hl] at hG
  have HG := Lib.hid hG
  have HT := Lib.hid hT
  have HW := Lib.hid (hW g rfl)
  have hml := meth_len w1 b _ hG.cell
  rw [typesSz] at hml
  have HL := Lib.hid (lenP_any (some ⟨g, 0, none⟩) (H.length + 1) cap1 w1)
  have HUP := Lib.hid (upP_any base b g cap1 (H.length + 1) H.length (H ++ [x]) w1 hG HU.out)
  have hN1 : ((H.length : Nat) : Int) ≤ 100000 := by have := HN.out; omega
  have hw := IntWalk.i64_in ((H.length : Nat) : Int) ⟨by omega, by omega⟩
  clear hI hT hW hG hl hmp HP hN1
  generalize hn : H.length = n at *
  have HNE := Lib.hid hn
  clear hn
  go_wp2_with fail
  refine HL.out.mono ?_
  rintro e w2 ⟨rfl, hw2⟩
  have hw' := hw2.symm
  subst hw'
  clear hw2 HL
  go_wp2_with fail
  refine HUP.out.mono ?_
  rintro e w3 ⟨rfl, H', hG', hH', hP', hT'⟩
  go_wp2
  go_end0
  have e := HNE.out
  subst e
  have hP2 : H'.Perm (x :: H) := hP'.trans (List.perm_append_singleton x H)
  refine ⟨rfl, H', some ⟨g, 0, none⟩, cap1, hG'.hp, hH', hP2, turn_row HT.out hT' HW.out, fun k hk => ?_⟩
  simp only [Value.ownBlock, Option.some.injEq] at hk
  subst hk
  exact HW.out

set_option maxRecDepth 100000 in
set_option maxHeartbeats 2000000 in
/-- The least taken. -/
theorem popP_any (base b cap n : Nat) (H : List Nat) (o : Option Addr) (w : World) (h : IsHp w base b H o cap) (hh : HeapH H) (hn : H.length = n + 1) :
    Calls Try.prog 41 #[.iface 62 (.pointer (some ⟨b, 0, none⟩))] w fun e w' => e = .returned (.iface 3 (.int .i64 (getH H 0 : Int))) ∧ ∃ R o' cap', IsHp w' base b R o' cap' ∧ HeapH R ∧ (getH H 0 :: R).Perm H ∧ (∀ y ∈ H, getH H 0 ≤ y) ∧ Turn (hpS b o H.length cap) w w' ∧
      (∀ k, (Value.slice o' R.length cap').ownBlock = some k → (Value.slice o H.length cap).ownBlock = some k ∨ w.heap.size ≤ k) := by
  obtain ⟨g, rfl, hG⟩ := h.at_ (by omega)
  rw [hn] at hG
  have HH := Lib.hid hh
  have HN := Lib.hid hn
  have HG := Lib.hid hG
  have hml := meth_len w b _ hG.cell
  have hms := meth_swap w b _ hG.cell
  rw [typesSz] at hml hms
  have HL := Lib.hid (lenP_any (some ⟨g, 0, none⟩) (n + 1) cap w)
  have HSW := Lib.hid (swapI_any base g (n + 1) cap 0 n 0 (n : Int) H w hG.row hn (by omega) (by omega) rfl rfl)
  have hN1 : ((n : Nat) : Int) ≤ 100000 := by have := h.few; omega
  have hw := IntWalk.i64_in ((n : Nat) : Int) ⟨by omega, by omega⟩
  clear h hh hG hN1 hn
  go_enter Try.func41, Try.ntmps41
  go_wp2_with fail
  refine HL.out.mono ?_
  rintro e w2 ⟨rfl, hw2⟩
  have hw' := hw2.symm
  subst hw'
  clear hw2 HL
  go_wp2_with fail
  refine HSW.out.mono ?_
  rintro e w3 ⟨rfl, hrow, hT⟩
  have HG3 := Lib.hid (HG.out.swap hrow hT)
  have HT3 := Lib.hid hT
  have HD := Lib.hid (downP_any base b g cap (n + 1) n (swapH H 0 n) w3 HG3.out (by omega) (DownI.start HH.out HN.out))
  clear hrow hT hml hms HSW
  go_wp2_with fail
  refine HD.out.mono ?_
  rintro e w4 ⟨⟨bb, rfl⟩, L, hG4, hH4, hP4, hE4, hT4⟩
  have HP4 := Lib.hid (hP4.trans (swapH_perm (by have := HN.out; omega) (by have := HN.out; omega)))
  have HT4 := Lib.hid (HT3.out.trans hT4)
  have hE : getH L n = getH H 0 := by
    rw [hE4, swapH_get (by have := HN.out; omega) (by have := HN.out; omega), if_pos rfl]
  have HE := Lib.hid hE
  have HLAST := Lib.hid (pop_last HP4.out hG4.len hH4 hE HH.out)
  have hpm := popM_any base b cap n L (some ⟨g, 0, none⟩) w4 hG4.hp hG4.len
  rw [hE] at hpm
  have HPM := Lib.hid hpm
  have HLL := Lib.hid hG4.len
  have hmp := meth_pop w4 b
  rw [typesSz] at hmp
  clear hG4 hH4 hP4 hE4 hT4 hpm hE HD
  go_wp2_with fail
  refine HPM.out.mono ?_
  rintro e w5 ⟨rfl, hI5, hT5⟩
  have HI5 := Lib.hid hI5
  have HT5 := Lib.hid hT5
  clear hI5 hT5 hmp HPM
  go_wp2
  go_ret
  refine ⟨rfl, L.take n, some ⟨g, 0, none⟩, cap, HI5.out, HLAST.out.1, HLAST.out.2.1, HLAST.out.2.2, ?_, fun k hk => .inl hk⟩
  exact (HT4.out.mono fun k _ hk => by subst hk; exact .inr rfl).trans (HT5.out.mono fun k _ hk => hk)

set_option maxRecDepth 100000 in
/-- One put in. -/
theorem addP_any (base b cap x : Nat) (H : List Nat) (o : Option Addr) (w : World) (h : IsHp w base b H o cap) (hh : HeapH H) (hb : base ≤ w.heap.size) (hn : H.length + 1 ≤ 100000) :
    Calls Try.prog 24 #[.pointer (some ⟨b, 0, none⟩), .int .i64 (x : Int)] w fun e w' => e = .returned (.tuple #[]) ∧ ∃ H' o' cap', IsHp w' base b H' o' cap' ∧ HeapH H' ∧ H'.Perm (x :: H) ∧ Turn (hpS b o H.length cap) w w' ∧
      (∀ k, (Value.slice o' H'.length cap').ownBlock = some k → (Value.slice o H.length cap).ownBlock = some k ∨ w.heap.size ≤ k) := by
  have HP := Lib.hid (pushP_any base b cap x H o w h hh hb hn)
  clear h hh hb hn
  go_enter Try.func24, Try.ntmps24
  go_wp2_with fail
  refine HP.out.mono ?_
  rintro e w1 ⟨rfl, hI⟩
  have HI := Lib.hid hI
  clear hI HP
  go_wp2
  go_end0
  exact ⟨rfl, HI.out⟩
set_option maxRecDepth 100000 in
/-- The least taken. -/
theorem takeP_any (base b cap n : Nat) (H : List Nat) (o : Option Addr) (w : World) (h : IsHp w base b H o cap) (hh : HeapH H) (hn : H.length = n + 1) :
    Calls Try.prog 25 #[.pointer (some ⟨b, 0, none⟩)] w fun e w' => e = .returned (.int .i64 (getH H 0 : Int)) ∧ ∃ R o' cap', IsHp w' base b R o' cap' ∧ HeapH R ∧ (getH H 0 :: R).Perm H ∧ (∀ y ∈ H, getH H 0 ≤ y) ∧ Turn (hpS b o H.length cap) w w' ∧
      (∀ k, (Value.slice o' R.length cap').ownBlock = some k → (Value.slice o H.length cap).ownBlock = some k ∨ w.heap.size ≤ k) := by
  have HP := Lib.hid (popP_any base b cap n H o w h hh hn)
  have hta := ta3 (getH H 0 : Int)
  clear h hh hn
  go_enter Try.func25, Try.ntmps25
  go_wp2_with fail
  refine HP.out.mono ?_
  rintro e w1 ⟨rfl, hI⟩
  have HI := Lib.hid hI
  clear hI HP
  go_wp2
  go_ret
  exact ⟨rfl, HI.out⟩

end Go.Proofs.Ytgnhcaepkgbieaa
