/-
  A heap of numbers in memory: one more behind, the last one taken. Condition: at most a hundred thousand numbers.
-/
import Derived.Test.YtgnhcaepkgbieaaHpb
import Derived.Deep.RegionLaw
namespace Go.Proofs.Ytgnhcaepkgbieaa
open Go.RowKit

theorem Turn.undrew {S : Nat → Prop} {w w' : World} (h : Turn S w.drew w') : Turn S w w' := ⟨h.os, h.tape, h.output, h.size, h.block⟩
theorem RowI.shrink {w : World} {base g n m cap : Nat} {e : TypeId} {l : List Nat} (h : RowI w base e g n cap l) (hm : m ≤ n) (hl : l.length = n) : RowI w base e g m cap (l.take m) := by
  obtain ⟨h0, ⟨hv, _⟩ | ⟨g', cap', cur, hv, h2, h3, h4, h5, h6, h7⟩⟩ := h
  · cases hv
  · obtain ⟨rfl, rfl⟩ : g = g' ∧ cap = cap' := by simpa using hv
    refine ⟨by rw [iC_len, List.length_take]; omega, .inr ⟨g, cap, cur, rfl, h2, h3, by omega, h5, h6, ?_⟩⟩
    have e : iC (l.take m) = (iC l).take m := List.map_take
    rw [e, ← h7, List.take_take, Nat.min_eq_left (by omega), Nat.mul_one]
theorem ta3 (x : Int) (W : World) : (Instr.typeAssert (.iface 3 (.int .i64 x)) 20 3 false).run Try.prog W = .ok (.int .i64 x) W := by kernel_rfl
set_option maxRecDepth 20000 in
set_option maxHeartbeats 1000000 in
/-- One more behind. -/
theorem pushM_any (base b cap x : Nat) (H : List Nat) (o : Option Addr) (w : World) (h : IsHp w base b H o cap) (hb : base ≤ w.heap.size) (hn : H.length + 1 ≤ 100000) :
    Calls Try.prog 105 #[.pointer (some ⟨b, 0, none⟩), .iface 3 (.int .i64 (x : Int))] w fun e w' => e = .returned (.tuple #[]) ∧ ∃ o' cap', IsHp w' base b (H ++ [x]) o' cap' ∧ Turn (hpS b o H.length cap) w w' ∧
      (∀ k, (Value.slice o' (H.length + 1) cap').ownBlock = some k → (Value.slice o H.length cap).ownBlock = some k ∨ w.heap.size ≤ k) := by
  have HH := Lib.hid h
  obtain ⟨c0, f0, l0⟩ := h.cell
  have hta := ta3 (x : Int)
  obtain ⟨o', cap', w', hrun, hrow, hT, hwh⟩ := run_append_one w.drew base 43 43 3 (.int .i64 0) (.int .i64 (x : Int)) 8 Try.underlying43 info3s rfl (.slice o H.length cap) H.length (iC H) h.row.drew rfl hb (by omega) (by unfold maxLen; omega)
  have HRUN : Hid ((Builtin.append_ #[43, 43] 43 #[.slice o H.length cap, .slice (some ⟨w.heap.size, 0, none⟩) 1 1]).run Try.prog ((w.alloc (.cells #[.int .i64 (x : Int)] 3)).drew) = .ok (.slice o' (H.length + 1) cap') w') := hrun
  have HROW := Lib.hid hrow
  have HT := Lib.hid hT
  have HWH := Lib.hid hwh
  have hnb : ¬ ((Value.slice o H.length cap).ownBlock = some b) := fun e => by have := (h.row.lt b e).1; have := h.lt; omega
  have hbox := (hT.block b l0 hnb).trans h.box
  have HBOX := Lib.hid hbox
  have c1 : w'.cell? ⟨b, 0, none⟩ = some (.slice o H.length cap) := by simp [World.cell?, hbox]
  have f1 : w'.frozen? ⟨b, 0, none⟩ = false := by simp [World.frozen?, hbox]
  clear h hrun hrow hT hwh hnb hbox
  go_enter Try.func105, Try.ntmps105
  go_wp2
  go_region_law (refine step_append rfl _ _ 43 rfl _ _ rfl rfl _ _ HRUN.out ?_)
  all_goals (
    go_end0
    have e : (H ++ [x]).length = H.length + 1 := by simp
    have hs := store_box (v := .slice o' (H.length + 1) cap') HBOX.out
    have hS : Turn (fun k => k = b) w' (w'.setCell ⟨b, 0, none⟩ (.slice o' (H.length + 1) cap')) := Turn.setCell (S := fun k => k = b) (p := ⟨b, 0, none⟩) (Turn.refl _ w') (fun _ => rfl) _
    have hT2 : Turn (hpS b o H.length cap) w w' := HT.out.undrew.mono fun k _ hk => Or.inr hk
    refine ⟨rfl, o', cap', ⟨by rw [e]; exact hs, ?_, HH.out.lt, by omega⟩, hT2.trans (hS.mono fun k _ hk => Or.inl hk), HWH.out⟩
    rw [e, iC_app]
    refine hS.row HROW.out fun k hk hkb => ?_
    subst hkb
    have := (HROW.out.lt k hk).1
    have := HH.out.lt
    omega)

set_option maxRecDepth 20000 in
set_option maxHeartbeats 1000000 in
/-- The last one taken. -/
theorem popM_any (base b cap n : Nat) (H : List Nat) (o : Option Addr) (w : World) (h : IsHp w base b H o cap) (hn : H.length = n + 1) :
    Calls Try.prog 104 #[.pointer (some ⟨b, 0, none⟩)] w fun e w' => e = .returned (.iface 3 (.int .i64 (getH H n : Int))) ∧ IsHp w' base b (H.take n) o cap ∧ Turn (hpS b o H.length cap) w w' := by
  have HH := Lib.hid h
  obtain ⟨c0, f0, l0⟩ := h.cell
  have hr := h.row
  have hb2 := h.box
  rw [hn] at c0 hr hb2
  rcases hr.2 with ⟨hv, _⟩ | ⟨g, cap', cur, hv, h2, h3, h4, h5, h6, h7⟩
  · cases hv
  obtain ⟨rfl, rfl⟩ : o = some ⟨g, 0, none⟩ ∧ cap = cap' := by simpa using hv
  have HROW : Hid (RowI w base 3 g (n + 1) cap H) := hr
  have cl := RowI.cell hr hn (i := n) (by omega)
  have hcap : ((n : Int)) ≤ (cap : Int) := by omega
  have hnn : n ≤ 100000 := by have := h.few; omega
  have hw := IntWalk.i64_in (n : Int) ⟨by omega, by omega⟩
  clear hnn
  have HCAP := Lib.hid h5
  have HBX := Lib.hid hb2
  clear h hr hv h2 h3 h4 h5 h6 h7 hb2
  have HN := Lib.hid hn
  clear hn
  go_enter Try.func104, Try.ntmps104
  go_wp2
  go_ret
  have hs := store_box (v := .slice (some ⟨g, 0, none⟩) n cap) HBX.out
  have hS : Turn (fun k => k = b) w (w.setCell ⟨b, 0, none⟩ (.slice (some ⟨g, 0, none⟩) n cap)) := Turn.setCell (S := fun k => k = b) (p := ⟨b, 0, none⟩) (Turn.refl _ w) (fun _ => rfl) _
  have e : (H.take n).length = n := by rw [List.length_take, HN.out]; omega
  refine ⟨rfl, ⟨by rw [e]; exact hs, ?_, HH.out.lt, by rw [e]; have := HH.out.few; have := HN.out; omega⟩, hS.mono fun k _ hk => Or.inl hk⟩
  rw [e]
  refine hS.row (HROW.out.shrink (by omega) HN.out) fun k hk hkb => ?_
  subst hkb
  have := (HROW.out.lt).1
  have := HH.out.lt
  simp only [Value.ownBlock, Option.some.injEq] at hk
  omega

end Go.Proofs.Ytgnhcaepkgbieaa
