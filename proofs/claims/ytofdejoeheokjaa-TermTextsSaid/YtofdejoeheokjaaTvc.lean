/-
  The statements' own helper: how many parts, up to so many. No condition.
-/
import Derived.Test.YtofdejoeheokjaaTsc
namespace Go.Proofs.Ytofdejoeheokjaa
open Go.RowKit
open Go.Lib hiding intOf

mutual
def nodY : GY → Int → Int
  | .mk _ _ _ _ l, n => nodYs l (n + 1)
def nodYs : List GY → Int → Int
  | [], n => n
  | y :: r, n => if n < 200 then nodYs r (nodY y n) else n
end
mutual
theorem nod_ge : ∀ (t : GY) (n : Int), n + 1 ≤ nodY t n
  | .mk _ _ _ _ l, n => by rw [nodY]; exact nods_ge l (n + 1)
theorem nods_ge : ∀ (l : List GY) (n : Int), n ≤ nodYs l n
  | [], n => by rw [nodYs]; exact Int.le_refl _
  | y :: r, n => by
    rw [nodYs]
    split
    · have := nod_ge y n
      have := nods_ge r (nodY y n)
      omega
    · exact Int.le_refl _
end
mutual
theorem nod_le : ∀ (t : GY) (n : Int), n < 200 → nodY t n ≤ 200
  | .mk _ _ _ _ l, n, h => by rw [nodY]; exact nods_le l (n + 1) (by omega)
theorem nods_le : ∀ (l : List GY) (n : Int), n ≤ 200 → nodYs l n ≤ 200
  | [], n, h => by rw [nodYs]; exact h
  | y :: r, n, h => by
    rw [nodYs]
    split
    · rename_i hn
      exact nods_le r _ (nod_le y n hn)
    · exact h
end
mutual
theorem nod_cnt : ∀ (t : GY) (n : Int), nodY t n < 200 → nodY t n = n + cntY t
  | .mk _ _ _ _ l, n, h => by
    rw [nodY] at h ⊢
    rw [nods_cnt l (n + 1) h, cntY]
    push_cast
    omega
theorem nods_cnt : ∀ (l : List GY) (n : Int), nodYs l n < 200 → nodYs l n = n + cntYs l
  | [], n, _ => by rw [nodYs, cntYs]; simp
  | y :: r, n, h => by
    rw [nodYs] at h ⊢
    rw [cntYs]
    split at h
    · rename_i hn
      rw [if_pos hn]
      have h1 := nods_ge r (nodY y n)
      rw [nods_cnt r _ h, nod_cnt y n (by omega)]
      push_cast
      omega
    · omega
end

/-- A box that stands. -/
structure In1 (W wr : World) (g : Nat) (A : Array Value) : Prop where
  below : Below (g + 1) W wr
  one : Blk wr g 25 A
theorem In1.step {W wr w' : World} {g : Nat} {A : Array Value} (h : In1 W wr g A) (hs : W.heap.size = g + 1) (hb : Below wr.heap.size wr w') : In1 W w' g A := by
  have := h.below.size
  exact ⟨h.below.trans (hb.mono (by omega)), (hb.block g h.one.lt).trans h.one⟩
theorem In1.start (w : World) (A : Array Value) : In1 (w.alloc (.cells A 25)) (w.alloc (.cells A 25)) w.heap.size A := ⟨Below.refl _ _, Blk.new w _ _⟩

set_option maxRecDepth 100000 in
set_option maxHeartbeats 4000000 in
theorem nodes_any : ∀ (s : Nat) (t : GY) (v : Value) (n : Int) (w : World), SizeOf.sizeOf t < s → IsY w t v → 0 ≤ n → n < 200 →
    Calls Try.prog 11 #[v, .int .i64 n] w fun e w' => e = .returned (.int .i64 (nodY t n)) ∧ Below w.heap.size w w' := by
  intro s
  induction s with
  | zero => intro t v n w h; omega
  | succ s ih =>
  rintro ⟨k, p, m, a, l⟩ v n w hs hv hn0 hn1
  obtain ⟨o, c, rfl, hl, hc, ha⟩ := hv.parts
  have hq : l.length ≤ 9223372036854775807 := by unfold maxLen at hc; omega
  have HI : Hid (∀ z ∈ l, ∀ (v : Value) (n : Int) (W : World), IsY W z v → 0 ≤ n → n < 200 → Calls Try.prog 11 #[v, .int .i64 n] W fun e w' => e = .returned (.int .i64 (nodY z n)) ∧ Below W.heap.size W w') :=
    fun z hz v n W hv h0 h1 => ih z v n W (by have := List.sizeOf_lt_of_mem hz; simp at hs; omega) hv h0 h1
  have HX := Lib.hid ha
  obtain ⟨N, hN⟩ : ∃ N, l.length = N := ⟨_, rfl⟩
  rw [hN] at hq ⊢
  have HN := Lib.hid hN
  rw [nodY]
  obtain ⟨R, hR⟩ : ∃ R, nodYs l (n + 1) = R := ⟨_, rfl⟩
  rw [hR]
  have HR0 : Hid (nodYs (l.drop 0) (n + 1) = R) := by show _ = _; rw [List.drop_zero]; exact hR
  obtain ⟨W2, hW2⟩ : ∃ W2, w.alloc (.cells #[.int .i64 k, .string p, .string m, .int .i64 a, .slice o N c] 25) = W2 := ⟨_, rfl⟩
  have hin : In1 W2 W2 w.heap.size #[.int .i64 k, .string p, .string m, .int .i64 a, .slice o N c] := by rw [← hW2]; exact In1.start w _
  have hbw : Below w.heap.size w W2 := by rw [← hW2]; exact (Below.refl _ _).alloc (Nat.le_refl _) _
  have hsz : W2.heap.size = w.heap.size + 1 := by rw [← hW2]; simp
  have HIN := Lib.hid hin
  have HBW := Lib.hid hbw
  have HSZ := Lib.hid hsz
  have HW2 := Lib.hid hW2
  have hwn := IntWalk.i64_in (n + 1) ⟨by omega, by omega⟩
  clear ih hv ha hl hc hs hN hR hin hbw hsz hW2
  go_enter Try.func11, Try.ntmps11
  go_wp2
  change Code.wp Try.prog _ _ _ (w.alloc (.cells #[.int .i64 k, .string p, .string m, .int .i64 a, .slice o N c] 25))
  rw [HW2.out]
  go_loopw [1, 5] (fun v i wr => ∃ (j : Nat) (b : Int), v = .int .i64 b ∧ i = .int .i64 (j : Nat) ∧ Hid (j ≤ N) ∧ Hid (0 ≤ b ∧ b ≤ 200) ∧ Hid (nodYs (l.drop j) b = R) ∧ Hid (In1 W2 wr w.heap.size #[.int .i64 k, .string p, .string m, .int .i64 a, .slice o N c])) (fun _ i _ => N - (RowKit.intOf i).toNat)
  case atStart => exact ⟨0, n + 1, rfl, rfl, Nat.zero_le _, ⟨by omega, by omega⟩, HR0, HIN⟩
  case round =>
    obtain ⟨j, b, rfl, rfl, HJ, HBB, HA, HRN⟩ := hrel
    clear HR0 hwn HW2
    have c4 : wr.cell? ⟨w.heap.size, 4, none⟩ = some (.slice o N c) := HRN.out.one.cell 4
    have hww : Below w.heap.size w wr := HBW.out.trans (HRN.out.below.mono (by omega))
    obtain ⟨hb0, hb1⟩ := HBB.out
    by_cases hj : j < N
    · have hj' : ((j : Int) < (N : Int)) := by omega
      obtain ⟨x, hx⟩ : ∃ x, l[j]? = some x := ⟨_, List.getElem?_eq_getElem (by rw [HN.out]; exact hj)⟩
      have hd : l.drop j = x :: l.drop (j + 1) := by
        obtain ⟨h1, rfl⟩ := List.getElem?_eq_some_iff.1 hx
        exact List.drop_eq_getElem_cons h1
      have hA := HA.out
      rw [hd, nodYs] at hA
      by_cases hb2 : b < 200
      · rw [if_pos hb2] at hA
        have hj0 : (0 : Int) ≤ (j : Int) := by omega
        have hwj := IntWalk.i64_in ((j : Int) + 1) ⟨by omega, by omega⟩
        have hmem := List.mem_of_getElem? hx
        obtain ⟨a', d0, d1, d2, d3, d4, rfl, hcx, hyx⟩ := HX.out.at_ j hx
        rw [Nat.zero_add] at hcx
        have HC : Hid (∀ (i : Nat) (v : Value), [d0, d1, d2, d3, d4][i]? = some v → wr.cell? ((a'.add (j * 5)).add i) = some v) := fun i v h => (hww.cell (World.block_lt_of_cell? _ _ (hcx i v h))).trans (hcx i v h)
        have HF := Lib.hid (HI.out x hmem _ b wr (hyx.below hww) hb0 hb2)
        have hge := nod_ge x b
        have hle := nod_le x b hb2
        have HA2 := Lib.hid hA
        obtain ⟨b', hb'⟩ : ∃ b', nodY x b = b' := ⟨_, rfl⟩
        rw [hb'] at HF HA2 hge hle
        have HB2 : Hid (0 ≤ b' ∧ b' ≤ 200) := ⟨by omega, hle⟩
        clear hcx hmem hyx hx hd hA hww hge hle hb'
        go_wp2_with (first
          | (refine boxLoadG 25 5 size5 Try.underlying25 rfl _ rfl _ rfl (cs := [d0, d1, d2, d3, d4]) HC.out rfl ?_)
          | (refine HF.out.mono ?_; rintro e w8 ⟨rfl, hb⟩; have HR8 := Lib.hid (HRN.out.step HSZ.out hb); clear hb))
        case roundEnd => exact ⟨⟨j + 1, b', rfl, by push_cast; rfl, hj, HB2, HA2, HR8⟩, by simp [RowKit.intOf]; omega⟩
      · rw [if_neg hb2] at hA
        have HA2 := Lib.hid hA
        have HWW := Lib.hid hww
        clear hx hd hA hww
        go_wp2
        go_ret
        exact ⟨congrArg (fun x => Ending.returned (.int .i64 x)) HA2.out, HWW.out⟩
    · have hj' : ¬ ((j : Int) < (N : Int)) := by omega
      have hA := HA.out
      rw [List.drop_of_length_le (by rw [HN.out]; omega), nodYs] at hA
      have HA2 := Lib.hid hA
      have HWW := Lib.hid hww
      clear hA hww
      go_wp2
      go_ret
      exact ⟨congrArg (fun x => Ending.returned (.int .i64 x)) HA2.out, HWW.out⟩

end Go.Proofs.Ytofdejoeheokjaa
