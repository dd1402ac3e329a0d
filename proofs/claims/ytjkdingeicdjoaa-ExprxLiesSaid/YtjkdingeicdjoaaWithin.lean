/-
  The walk of the statements' own 'within'. Condition: the expression lies in memory as said.
-/
import Derived.Test.YtjkdingeicdjoaaExv0
namespace Go.Proofs.Ytjkdingeicdjoaa
open Go.RowKit
open Go.Lib hiding intOf

set_option maxRecDepth 20000 in
set_option maxHeartbeats 4000000 in
theorem within_any (x : EX) (P : Nat → Prop) (v : Value) (w : World) (hv : IsEP P w x v) (hl : lies x) (hn : x.args.length ≤ 9223372036854775807) (hns : ∀ (k : Nat) (y : EX), x.args[k]? = some y → ∀ (P : Nat → Prop) (v : Value) (w : World), IsEP P w y v → lies y → Calls Try.prog 10 #[v] w fun e w' => e = .returned (.bool true) ∧ Below w.heap.size w w') :
    Calls Try.prog 10 #[v] w fun e w' => e = .returned (.bool true) ∧ Below w.heap.size w w' := by
  obtain ⟨n, nm, tk, tp, tg, tn, tz, ta, o, c, rfl, ha⟩ := hv.parts
  have HA := Lib.hid ha
  have HN := Lib.hid hns
  have HC := Lib.hid (lies_chain hl)
  have HB := Lib.hid ((Below.refl w.heap.size w).alloc (Nat.le_refl _) (.cells #[.int .i64 x.kind, .int .i64 x.pos, .int .i64 x.stop, .string nm, .int .i64 n, .int .i64 tk, .int .i64 tp, .string tg, .string tn, .slice tz ta ta, .slice o x.args.length c] 33))
  have HX := Lib.hid (Blk.new w 33 #[.int .i64 x.kind, .int .i64 x.pos, .int .i64 x.stop, .string nm, .int .i64 n, .int .i64 tk, .int .i64 tp, .string tg, .string tn, .slice tz ta ta, .slice o x.args.length c])
  clear hv ha hns hl
  go_enter Try.func10, Try.ntmps10
  go_wp2
  go_loopw [3, 4] (fun s i wr => ∃ (cur : Int) (k : Nat), s = .int .i64 cur ∧ i = .int .i64 (k : Nat) ∧ k ≤ x.args.length ∧ Hid (chain cur x.stop (x.args.drop k)) ∧ Hid (Below w.heap.size w wr) ∧ w.heap.size < wr.heap.size ∧ Hid (Blk wr w.heap.size 33 #[.int .i64 x.kind, .int .i64 x.pos, .int .i64 x.stop, .string nm, .int .i64 n, .int .i64 tk, .int .i64 tp, .string tg, .string tn, .slice tz ta ta, .slice o x.args.length c])) (fun _ i _ => x.args.length - (RowKit.intOf i).toNat)
  case atStart => exact ⟨_, 0, rfl, rfl, Nat.zero_le _, HC, HB, by simp, HX⟩
  case round =>
    obtain ⟨cur, k, rfl, rfl, hk, hc, hb, hz, hx⟩ := hrel
    have x0 := hx.out.cell
    by_cases hlt : k < x.args.length
    · have hy := List.getElem?_eq_getElem hlt
      obtain ⟨r0, r1, r2, r3, r4⟩ := chain_drop hc.out hy
      have hat := (HA.out.below hb.out).at_ k hy
      rw [Nat.zero_add] at hat
      unfold IsEPs at hat
      obtain ⟨⟨b, c0, c1, c2, c3, c4, c5, c6, c7, c8, c9, c10, rfl, hP, h0, h1, h2, h3, h4, h5, h6, h7, h8, h9, h10, hye⟩, _⟩ := hat
      have HW := Lib.hid (HN.out k _ hy)
      have HY := Lib.hid hye
      obtain ⟨n', nm', tk', tp', tg', tn', tz', ta', o', c', e, _⟩ := hye.parts
      simp only [Value.agg.injEq, Array.mk.injEq, List.cons.injEq, and_true] at e
      obtain ⟨rfl, rfl, rfl, rfl, rfl, rfl, rfl, rfl, rfl, rfl, rfl⟩ := e
      generalize x.args[k] = y at *
      have HR := Lib.hid r3
      have HR4 := Lib.hid r4
      have hkz : (k : Int) < (x.args.length : Nat) := by omega
      have hk0 : (0 : Int) ≤ (k : Nat) := by omega
      have hbl : b < wr.heap.size := World.block_lt_of_cell? _ _ h0
      clear hye r3 r4 hy
      go_wp2_with fail
      refine (HW.out P _ _ (HY.out.below ((Below.refl _ _).alloc (Nat.le_refl _) _)) HR.out).mono ?_
      rintro e w2 ⟨rfl, hB⟩
      have d0 := (blk_mid3 hB).cell
      have hb2 : Below wr.heap.size wr w2 := ((Below.refl _ _).alloc (Nat.le_refl _) _).trans (hB.mono (by simp))
      have X2 := Lib.hid (hx.out.below hb2)
      have e0 := X2.out.cell
      have B2 := Lib.hid (hb.out.trans (hb2.mono hb.out.size))
      have hz2 : w.heap.size < w2.heap.size := Nat.lt_of_lt_of_le hz hb2.size
      have g1 : ¬ y.pos < cur := by omega
      have g2 : ¬ x.stop < y.stop := by omega
      have g3 : ¬ y.stop ≤ y.pos := by omega
      clear hB hb2 x0
      go_wp2
      go_roundw
      case rel => exact ⟨_, k + 1, rfl, by go_num, hlt, HR4, B2, hz2, X2⟩
      case measure => simp [RowKit.intOf]; omega
    · have hk0 : ¬ ((k : Nat) : Int) < (x.args.length : Nat) := by omega
      go_wp2
      go_ret
      exact ⟨rfl, hb.out⟩

end Go.Proofs.Ytjkdingeicdjoaa
