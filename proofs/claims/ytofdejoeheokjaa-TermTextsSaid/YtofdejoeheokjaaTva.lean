/-
  The statements' own helpers: a parameter, a list; how many parts. No condition.
-/
import Derived.Test.YtofdejoeheokjaaTph
import Derived.Test.YtofdejoeheokjaaTuc
import Derived.Test.YtofdejoeheokjaaTnc
namespace Go.Proofs.Ytofdejoeheokjaa
open Go.RowKit
open Go.Lib hiding intOf

set_option maxRecDepth 100000 in
set_option maxHeartbeats 4000000 in
/-- A parameter. -/
theorem param_any (n : Int) (s : ByteArray) (w : World) :
    Calls Try.prog 27 #[.int .i64 n, .string s] w fun e w' => e = .returned (.agg #[.int .i64 6, .string ⟨#[]⟩, .string s, .int .i64 n, .slice none 0 0]) ∧ Below w.heap.size w w' := by
  go_enter Try.func27, Try.ntmps27
  go_wp2_with (refine boxNewAt 25 5 size5 rfl _ _ rfl _ rfl rfl [.int .i64 6, .string ⟨#[]⟩, .string s, .int .i64 n, .slice none 0 0] rfl rfl rfl rfl ?_)
  refine bodyPost_ret (v := .agg #[.int .i64 6, .string ⟨#[]⟩, .string s, .int .i64 n, .slice none 0 0]) ?_ rfl ⟨rfl, (Below.refl _ _).alloc (Nat.le_refl _) _⟩
  exact boxRes 25 5 size5 Try.underlying25 Try.results27 _ w.heap.size rfl (Blk.new w _ _) rfl
theorem isY_plain (w : World) (k n : Int) (p m : ByteArray) : IsY w (.mk k p m n []) (.agg #[.int .i64 k, .string p, .string m, .int .i64 n, .slice none 0 0]) := IsY.of (Nat.le_refl _) (Nat.zero_le _) (IsYs.nil _ _ _)

set_option maxRecDepth 100000 in
set_option maxHeartbeats 4000000 in
/-- A list. -/
theorem list_any (x : GY) (v : Value) (w : World) (hv : IsY w x v) :
    Calls Try.prog 26 #[v] w fun e w' => ∃ u, e = .returned u ∧ IsY w' (.mk 5 ⟨#[]⟩ ⟨#[]⟩ 0 [x]) u ∧ Below w.heap.size w w' := by
  obtain ⟨k, p, m, n, l⟩ := x
  obtain ⟨o, c, rfl, hl, hc, ha⟩ := hv.parts
  have hbx := box2 w #[.int .i64 k, .string p, .string m, .int .i64 n, .slice o l.length c] #[.int .i64 0, .string ⟨#[]⟩, .string ⟨#[]⟩, .int .i64 0, .slice none 0 0]
  obtain ⟨W2, hW2⟩ : ∃ W2, ((w.alloc (.cells #[.int .i64 k, .string p, .string m, .int .i64 n, .slice o l.length c] 25)).alloc (.cells #[.int .i64 0, .string ⟨#[]⟩, .string ⟨#[]⟩, .int .i64 0, .slice none 0 0] 25)) = W2 := ⟨_, rfl⟩
  rw [hW2] at hbx
  obtain ⟨W3, hW3⟩ : ∃ W3, W2.alloc (.cells #[.int .i64 k, .string p, .string m, .int .i64 n, .slice o l.length c] 25) = W3 := ⟨_, rfl⟩
  have hb3 : Below W2.heap.size W2 W3 := by rw [← hW3]; exact (Below.refl _ _).alloc (Nat.le_refl _) _
  have hk3 : Blk W3 W2.heap.size 25 #[.int .i64 k, .string p, .string m, .int .i64 n, .slice o l.length c] := by rw [← hW3]; exact Blk.new W2 _ _
  have hs := hbx.size
  have hw3 : Below w.heap.size w W3 := hbx.below.trans (hb3.mono (by omega))
  have hk2 : Blk W3 (w.heap.size + 1) 25 #[.int .i64 0, .string ⟨#[]⟩, .string ⟨#[]⟩, .int .i64 0, .slice none 0 0] := (hb3.block _ (by omega)).trans hbx.two
  have HBX := Lib.hid hbx
  have HW2 := Lib.hid hW2
  have HW3 := Lib.hid hW3
  have HK2 := Lib.hid hk2
  have HK3 := Lib.hid hk3
  have HB := Lib.hid hw3
  have HV := Lib.hid hv
  have HS := Lib.hid hs
  clear hbx hW2 hW3 hb3 hk3 hs hw3 hk2 hv ha
  go_enter Try.func26, Try.ntmps26
  go_upto_region 1 with fail
  change Code.wp Try.prog _ _ _ ((w.alloc (.cells #[.int .i64 k, .string p, .string m, .int .i64 n, .slice o l.length c] 25)).alloc (.cells #[.int .i64 0, .string ⟨#[]⟩, .string ⟨#[]⟩, .int .i64 0, .slice none 0 0] 25))
  rw [HW2.out]
  go_wp2_with (first
    | (refine boxLoad 25 5 size5 Try.underlying25 rfl _ rfl (w.heap.size) rfl (cs := [.int .i64 k, .string p, .string m, .int .i64 n, .slice o l.length c]) HBX.out.one rfl ?_)
    | (refine boxRow1 23 25 5 (.agg #[.int .i64 0, .string ⟨#[]⟩, .string ⟨#[]⟩, .int .i64 0, .slice none 0 0]) Try.underlying23 (by kernel_rfl) rfl (by decide) rfl _ rfl [.int .i64 k, .string p, .string m, .int .i64 n, .slice o l.length c] rfl rfl ?_; change wpList _ _ _ _ _ (W2.alloc (.cells #[.int .i64 k, .string p, .string m, .int .i64 n, .slice o l.length c] 25)); rw [HW3.out])
    | (refine boxStore 25 5 size5 rfl _ _ rfl (w.heap.size + 1) rfl [.int .i64 5, .string ⟨#[]⟩, .string ⟨#[]⟩, .int .i64 0, .slice (some ⟨W2.heap.size, 0, none⟩) 1 1] rfl HK2.out rfl rfl rfl ?_))
  refine bodyPost_ret (v := .agg #[.int .i64 5, .string ⟨#[]⟩, .string ⟨#[]⟩, .int .i64 0, .slice (some ⟨W2.heap.size, 0, none⟩) 1 1]) ?_ rfl ⟨_, rfl, ?_, below_setRow HB.out (Nat.le_succ _) _⟩
  · exact boxRes 25 5 size5 Try.underlying25 Try.results26 _ (w.heap.size + 1) rfl (HK2.out.row _) rfl
  · have hv' : IsY (W3.setRow (w.heap.size + 1) #[.int .i64 5, .string ⟨#[]⟩, .string ⟨#[]⟩, .int .i64 0, .slice (some ⟨W2.heap.size, 0, none⟩) 1 1]) (.mk k p m n l) (.agg #[.int .i64 k, .string p, .string m, .int .i64 n, .slice o l.length c]) := HV.out.below (below_setRow HB.out (Nat.le_succ _) _)
    have hk : Blk (W3.setRow (w.heap.size + 1) #[.int .i64 5, .string ⟨#[]⟩, .string ⟨#[]⟩, .int .i64 0, .slice (some ⟨W2.heap.size, 0, none⟩) 1 1]) W2.heap.size 25 #[.int .i64 k, .string p, .string m, .int .i64 n, .slice o l.length c] := HK3.out.rowFar (by have := HS.out; omega) _
    refine IsY.of (args := [GY.mk k p m n l]) (Nat.le_refl _) (by show 1 ≤ maxLen; decide) (IsYs.mk' fun i y hy => ?_)
    have hi : i = 0 := by have := (List.getElem?_eq_some_iff.1 hy).1; simpa using this
    subst hi
    obtain rfl : GY.mk k p m n l = y := by simpa using hy
    refine ⟨_, _, _, _, _, fun j v h => ?_, hv'⟩
    have e : (⟨W2.heap.size, 0, none⟩ : Addr).add ((0 + 0) * 5 + j) = ⟨W2.heap.size, j, none⟩ := by unfold Addr.add; split <;> simp_all
    rw [e, hk.cell]
    simpa using h

end Go.Proofs.Ytofdejoeheokjaa
