/-
  The document's comparison of all of two types that are one. No condition.
-/
import Derived.Test.YtmnhilgifjaocaaTsc
namespace Go.Proofs.Ytmnhilgifjaocaa
open Go.RowKit
open Go.Lib hiding intOf

set_option maxRecDepth 100000 in
set_option maxHeartbeats 8000000 in
theorem equal_any : ∀ (s : Nat) (x : GY) (v u : Value) (w : World), SizeOf.sizeOf x < s → IsY w x v → IsY w x u →
    Calls Try.prog 16 #[v, u] w fun e w' => e = .returned (.bool true) ∧ Below w.heap.size w w' := by
  intro s
  induction s with
  | zero => intro x v u w h; omega
  | succ s ih =>
  rintro ⟨k, p, m, n, l⟩ v u w hs hv hu
  obtain ⟨o, c, rfl, hl, hc, ha⟩ := hv.parts
  obtain ⟨o', c', rfl, hl', hc', ha'⟩ := hu.parts
  have hq : l.length ≤ 9223372036854775807 := by unfold maxLen at hc; omega
  have HI : Hid (∀ z ∈ l, ∀ (v u : Value) (W : World), IsY W z v → IsY W z u → Calls Try.prog 16 #[v, u] W fun e W' => e = .returned (.bool true) ∧ Below W.heap.size W W') :=
    fun z hz v u W hv hu => ih z v u W (by have := List.sizeOf_lt_of_mem hz; simp at hs; omega) hv hu
  have HX := Lib.hid ha
  have HY := Lib.hid ha'
  clear ih hv hu ha ha' hl hl' hc hc' hs
  obtain ⟨N, hN⟩ : ∃ N, l.length = N := ⟨_, rfl⟩
  rw [hN] at hq ⊢
  have HN := Lib.hid hN
  clear hN
  obtain ⟨W2, hW2⟩ : ∃ W2, ((w.alloc (.cells #[.int .i64 k, .string p, .string m, .int .i64 n, .slice o N c] 29)).alloc (.cells #[.int .i64 k, .string p, .string m, .int .i64 n, .slice o' N c'] 29)) = W2 := ⟨_, rfl⟩
  have hbx := box2 w #[.int .i64 k, .string p, .string m, .int .i64 n, .slice o N c] #[.int .i64 k, .string p, .string m, .int .i64 n, .slice o' N c']
  rw [hW2] at hbx
  have HBX := Lib.hid hbx
  have HW2 := Lib.hid hW2
  have HB0 := Lib.hid (Nat.zero_le N)
  clear hbx hW2
  go_enter Try.func16, Try.ntmps16
  go_wp2
  change Code.wp Try.prog _ _ _ ((w.alloc (.cells #[.int .i64 k, .string p, .string m, .int .i64 n, .slice o N c] 29)).alloc (.cells #[.int .i64 k, .string p, .string m, .int .i64 n, .slice o' N c'] 29))
  rw [HW2.out]
  go_loopw [5] (fun i wr => ∃ j : Nat, i = .int .i64 (j : Nat) ∧ Hid (j ≤ N) ∧ Hid (j ≤ N) ∧ Hid (In2 W2 wr w.heap.size #[.int .i64 k, .string p, .string m, .int .i64 n, .slice o N c] #[.int .i64 k, .string p, .string m, .int .i64 n, .slice o' N c'])) (fun i _ => N - (RowKit.intOf i).toNat)
  case atStart => exact ⟨0, rfl, Nat.zero_le _, HB0, HBX.out.start⟩
  case round =>
    obtain ⟨j, rfl, HJ, HA, HR⟩ := hrel
    clear HB0 HW2
    have c4 : wr.cell? ⟨w.heap.size, 4, none⟩ = some (.slice o N c) := HR.out.one.cell 4
    have d4 : wr.cell? ⟨w.heap.size + 1, 4, none⟩ = some (.slice o' N c') := HR.out.two.cell 4
    by_cases hj : j < N
    · have hj' : ((j : Int) < (N : Int)) := by omega
      have hj0 : (0 : Int) ≤ (j : Int) := by omega
      have hwj := IntWalk.i64_in ((j : Int) + 1) ⟨by omega, by omega⟩
      obtain ⟨x, hx⟩ : ∃ x, l[j]? = some x := ⟨_, List.getElem?_eq_getElem (by rw [HN.out]; exact hj)⟩
      obtain ⟨y, hy⟩ : ∃ y, l[j]? = some y := ⟨_, List.getElem?_eq_getElem (by rw [HN.out]; exact hj)⟩
      have hmem := List.mem_of_getElem? hx
      have hmem' := List.mem_of_getElem? hy
      obtain ⟨a, a0, a1, a2, a3, a4, rfl, hc, hyx⟩ := HX.out.at_ j hx
      obtain ⟨b, b0, b1, b2, b3, b4, rfl, hd, hyy⟩ := HY.out.at_ j hy
      rw [Nat.zero_add] at hc hd
      have hww : Below w.heap.size w wr := HBX.out.below.trans (HR.out.below.mono (by omega))
      have HC : Hid (∀ (i : Nat) (v : Value), [a0, a1, a2, a3, a4][i]? = some v → wr.cell? ((a.add (j * 5)).add i) = some v) := fun i v h => (hww.cell (World.block_lt_of_cell? _ _ (hc i v h))).trans (hc i v h)
      have HDD : Hid (∀ (i : Nat) (v : Value), [b0, b1, b2, b3, b4][i]? = some v → wr.cell? ((b.add (j * 5)).add i) = some v) := fun i v h => (hww.cell (World.block_lt_of_cell? _ _ (hd i v h))).trans (hd i v h)
      obtain rfl : x = y := by rw [hx] at hy; injection hy
      have HF := Lib.hid (fun W (hb : Below wr.heap.size wr W) => HI.out x hmem _ _ W ((hyx.below hww).below hb) ((hyy.below hww).below hb))
      clear hc hd hmem hmem' hyx hyy hww hx hy
      go_wp2_with fail
      refine wp_region_still_tail 10 (by kernel_rfl) (by kernel_rfl) ?_
      simp only [List.take_succ_cons, List.take_zero, List.drop_succ_cons, List.drop_zero]
      iterate 4 still_step
      refine stillLoadG 29 5 size5 Try.underlying29 rfl _ rfl (a.add (j * 5)) rfl HC.out rfl ?_
      iterate 4 still_step
      refine stillLoadG 29 5 size5 Try.underlying29 rfl _ rfl (b.add (j * 5)) rfl HDD.out rfl ?_
      refine wpStill_nil ?_
      change wpList _ _ _ _ _ wr.drew
      go_wp2_with fail
      refine (HF.out _ (Below.refl _ _).drew).mono ?_
      rintro e w5 ⟨rfl, hb⟩
      have HR5 := Lib.hid (HR.out.step HBX.out.size (undrewY hb))
      clear hb HC HDD HF c4 d4
      go_wp2
      case roundEnd => exact ⟨⟨j + 1, by push_cast; rfl, hj, hj, HR5⟩, by simp [RowKit.intOf]; omega⟩
    · have hj' : ¬ ((j : Int) < (N : Int)) := by omega
      clear hj
      go_wp2
      go_ret
      exact ⟨rfl, HBX.out.below.trans (HR.out.below.mono (by omega))⟩
end Go.Proofs.Ytmnhilgifjaocaa
