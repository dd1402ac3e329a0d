/-
  The walk of the document's own 'Same' at two values of one type. Condition: both lie in memory as said.
-/
import Derived.Test.YtlgaphopjdeklaaGreatU09
namespace Go.Proofs.YtlgaphopjdeklaaGreat
open Go.RowKit
open Go.Lib hiding intOf
set_option maxRecDepth 20000 in
set_option maxHeartbeats 4000000 in
theorem sameT_any (x : TX) : ∀ (P P' : Nat → Prop) (v u : Value) (w : World), IsTP P w x v → IsTP P' w x u →
    Calls Tryz.prog 29 #[v, u] w fun e w' => e = .returned (.bool true) ∧ Below w.heap.size w w' := by
  induction x with
  | leaf k p g n =>
    intro P P' v u w hv hu
    obtain rfl : v = leafV k p g n := hv
    obtain rfl : u = leafV k p g n := hu
    unfold leafV
    have hb : Hid (Below w.heap.size w ((w.alloc (.cells #[.int .i64 k, .int .i64 p, .string g, .string n, .slice none 0 0] 36)).alloc (.cells #[.int .i64 k, .int .i64 p, .string g, .string n, .slice none 0 0] 36))) := ((Below.refl _ _).alloc (Nat.le_refl _) _).alloc (by simp) _
    go_enter Tryz.func29, Tryz.ntmps29
    go_wp2
    go_loopw [5] (fun i wr => i = .int .i64 0 ∧ wr = ((w.alloc (.cells #[.int .i64 k, .int .i64 p, .string g, .string n, .slice none 0 0] 36)).alloc (.cells #[.int .i64 k, .int .i64 p, .string g, .string n, .slice none 0 0] 36))) (fun _ _ => 0)
    case atStart => exact ⟨rfl, rfl⟩
    case round =>
      obtain ⟨rfl, rfl⟩ := hrel
      go_wp2
      go_ret
      exact ⟨rfl, hb.out⟩
  | list p x ih =>
    intro P P' v u w hv hu
    obtain ⟨b, y0, y1, y2, y3, y4, rfl, _, h0, h1, h2, h3, h4, hx⟩ := hv
    obtain ⟨b', z0, z1, z2, z3, z4, rfl, _, k0, k1, k2, k3, k4, hz⟩ := hu
    have HI := Lib.hid (fun (W : World) (hb : Below w.heap.size w W) => ih P P' (.agg #[y0, y1, y2, y3, y4]) (.agg #[z0, z1, z2, z3, z4]) W (IsTP.below hx hb) (IsTP.below hz hb))
    have hbl := World.block_lt_of_cell? _ _ h0
    have hbl' := World.block_lt_of_cell? _ _ k0
    simp only at hbl hbl'
    clear ih hx hz
    unfold listV
    have hb : Below w.heap.size w ((w.alloc (.cells #[.int .i64 5, .int .i64 p, .string ⟨#[]⟩, .string ⟨#[]⟩, .slice (some ⟨b, 0, none⟩) 1 1] 36)).alloc (.cells #[.int .i64 5, .int .i64 p, .string ⟨#[]⟩, .string ⟨#[]⟩, .slice (some ⟨b', 0, none⟩) 1 1] 36)) := ((Below.refl _ _).alloc (Nat.le_refl _) _).alloc (by simp) _
    have HB := Lib.hid hb
    clear hb
    go_enter Tryz.func29, Tryz.ntmps29
    go_wp2
    go_loopw [5, 6] (fun i _ wr => (i = .int .i64 0 ∧ wr = ((w.alloc (.cells #[.int .i64 5, .int .i64 p, .string ⟨#[]⟩, .string ⟨#[]⟩, .slice (some ⟨b, 0, none⟩) 1 1] 36)).alloc (.cells #[.int .i64 5, .int .i64 p, .string ⟨#[]⟩, .string ⟨#[]⟩, .slice (some ⟨b', 0, none⟩) 1 1] 36))) ∨
      (i = .int .i64 1 ∧ Hid (Below w.heap.size w wr) ∧ Hid (Blk wr w.heap.size 36 #[.int .i64 5, .int .i64 p, .string ⟨#[]⟩, .string ⟨#[]⟩, .slice (some ⟨b, 0, none⟩) 1 1]))) (fun i _ _ => 1 - (RowKit.intOf i).toNat)
    case atStart => exact .inl ⟨rfl, rfl⟩
    case round =>
      rcases hrel with ⟨rfl, rfl⟩ | ⟨rfl, hB, hX⟩
      · have hz1 : b < w.heap.size + 1 := by omega
        have hz2 : b' < w.heap.size + 1 := by omega
        have hn1 : b ≠ w.heap.size := by omega
        have hn2 : b' ≠ w.heap.size := by omega
        go_wp2_with fail
        go_region_with (go_at_call 29; refine (HI.out _ HB.out.drew).mono ?_; rintro e w2 ⟨rfl, hB⟩)
        all_goals go_wp2_with fail
        all_goals exact ⟨.inr ⟨rfl, Lib.hid (HB.out.trans (hB.undrew.mono HB.out.size)), Lib.hid (blk_mid2 hB.undrew)⟩, by simp [RowKit.intOf]⟩
      · have c0 := hX.out.cell
        go_wp2
        go_ret
        exact ⟨rfl, hB.out⟩
end Go.Proofs.YtlgaphopjdeklaaGreat
