/-
  Sameness: the program's answer. No condition.
-/
import Derived.Test.YtmnhilgifjaocaaTmb
namespace Go.Proofs.Ytmnhilgifjaocaa
open Go.RowKit
open Go.Lib hiding intOf

theorem sames_len : ∀ {l q : List GY}, l.length ≠ q.length → sameYs l q = false
  | [], [], h => absurd rfl h
  | [], _ :: _, _ => by rw [sameYs] <;> simp
  | _ :: _, [], _ => by rw [sameYs] <;> simp
  | a :: r, b :: q, h => by rw [sameYs, sames_len (l := r) (q := q) (fun e => h (by simp [e])), Bool.and_false]
theorem sames_drop {l q : List GY} {j : Nat} {x y : GY} (hx : l[j]? = some x) (hy : q[j]? = some y) : sameYs (l.drop j) (q.drop j) = (sameY x y && sameYs (l.drop (j + 1)) (q.drop (j + 1))) := by
  obtain ⟨h1, rfl⟩ := List.getElem?_eq_some_iff.1 hx
  obtain ⟨h2, rfl⟩ := List.getElem?_eq_some_iff.1 hy
  rw [List.drop_eq_getElem_cons h1, List.drop_eq_getElem_cons h2, sameYs]

set_option maxRecDepth 100000 in
set_option maxHeartbeats 4000000 in
theorem eqf_any (l q : List GY) (o o' : Option Addr) (n m c c' : Nat) (w : World) (hn : l.length = n) (hm : q.length = m) (hn2 : n ≤ 9223372036854775807) (hm2 : m ≤ 9223372036854775807) (h : IsYs w o 0 l) (h' : IsYs w o' 0 q)
    (H : ∀ x ∈ l, ∀ (y : GY) (v u : Value) (W : World), IsY W x v → IsY W y u → Calls Try.prog 45 #[v, u] W fun e W' => e = .returned (.bool (sameY x y)) ∧ Below W.heap.size W W') :
    Calls Try.prog 44 #[.slice o n c, .slice o' m c', .func (.func 45) #[] #[]] w fun e w' => e = .returned (.bool (sameYs l q)) ∧ Below w.heap.size w w' := by
  by_cases hnm : n = m
  · subst hnm
    obtain ⟨B, hB⟩ : ∃ B, sameYs l q = B := ⟨_, rfl⟩
    rw [hB]
    have HB : Hid (sameYs (l.drop 0) (q.drop 0) = B) := by show _ = _; rw [List.drop_zero, List.drop_zero]; exact hB
    have HX := Lib.hid h
    have HY := Lib.hid h'
    have HN := Lib.hid hn
    have HM := Lib.hid hm
    have HH := Lib.hid H
    clear hB h h' H hn hm
    go_enter Try.func44, Try.ntmps44
    go_wp2
    go_loopw [17] (fun i wr => ∃ j : Nat, i = .int .i64 (j : Nat) ∧ Hid (j ≤ n) ∧ Hid (sameYs (l.drop j) (q.drop j) = B) ∧ Hid (Below w.heap.size w wr)) (fun i _ => n - (RowKit.intOf i).toNat)
    case atStart => exact ⟨0, rfl, Nat.zero_le _, HB, Below.refl _ _⟩
    case round =>
      obtain ⟨j, rfl, HJ, HA, HW⟩ := hrel
      clear HB
      by_cases hj : j < n
      · have hj' : ((j : Int) < (n : Int)) := by omega
        have hj0 : (0 : Int) ≤ (j : Int) := by omega
        have hwj := IntWalk.i64_in ((j : Int) + 1) ⟨by omega, by omega⟩
        obtain ⟨x, hx⟩ : ∃ x, l[j]? = some x := ⟨_, List.getElem?_eq_getElem (by rw [HN.out]; exact hj)⟩
        obtain ⟨y, hy⟩ : ∃ y, q[j]? = some y := ⟨_, List.getElem?_eq_getElem (by rw [HM.out]; exact hj)⟩
        have HD := Lib.hid (sames_drop hx hy)
        have hmem := List.mem_of_getElem? hx
        obtain ⟨a, c0, c1, c2, c3, c4, rfl, hc, hyx⟩ := HX.out.at_ j hx
        obtain ⟨b, d0, d1, d2, d3, d4, rfl, hd, hyy⟩ := HY.out.at_ j hy
        rw [Nat.zero_add] at hc hd
        have ho1 := hyx.ones
        have ho2 := hyy.ones
        have HC := Lib.hid hc
        have HDD := Lib.hid hd
        have HO1 := Lib.hid ho1
        have HO2 := Lib.hid ho2
        have HF := Lib.hid (fun W (hb : Below w.heap.size w W) => HH.out _ hmem y _ _ W (hyx.below hb) (hyy.below hb))
        have hbs := HW.out.size
        clear hc hd ho1 ho2 hyx hyy hmem hx hy
        have HW1 : Hid (Below w.heap.size w (wr.alloc (.cells #[c0, c1, c2, c3, c4] 29))) := HW.out.alloc hbs _
        have HW2 : Hid (Below w.heap.size w ((wr.alloc (.cells #[c0, c1, c2, c3, c4] 29)).alloc (.cells #[d0, d1, d2, d3, d4] 29))) := HW1.out.alloc (by simp; omega) _
        have K1 : Hid (Blk ((wr.alloc (.cells #[c0, c1, c2, c3, c4] 29)).alloc (.cells #[d0, d1, d2, d3, d4] 29)) wr.heap.size 29 #[c0, c1, c2, c3, c4]) := (Blk.new wr _ _).kept (World.grownBy_alloc _ _ none) (by simp)
        have K2 : Hid (Blk ((wr.alloc (.cells #[c0, c1, c2, c3, c4] 29)).alloc (.cells #[d0, d1, d2, d3, d4] 29)) (wr.heap.size + 1) 29 #[d0, d1, d2, d3, d4]) := by
          have := Blk.new (wr.alloc (.cells #[c0, c1, c2, c3, c4] 29)) 29 #[d0, d1, d2, d3, d4]
          rw [World.size_alloc] at this
          exact this
        obtain ⟨Z, hZ⟩ : ∃ Z, sameY x y = Z := ⟨_, rfl⟩
        rw [hZ] at HD HF
        clear hZ
        cases Z
        · have HBF : Hid (false = B) := by have h1 := HA.out; rw [HD.out, Bool.false_and] at h1; exact h1
          clear HA HD
          go_wp2_with (first
            | (refine boxLoad 29 5 size5 Try.underlying29 rfl _ rfl (wr.heap.size) rfl (cs := [c0, c1, c2, c3, c4]) K1.out rfl ?_)
            | (refine boxLoad 29 5 size5 Try.underlying29 rfl _ rfl (wr.heap.size + 1) rfl (cs := [d0, d1, d2, d3, d4]) K2.out rfl ?_)
            | (refine boxLoadG 29 5 size5 Try.underlying29 rfl _ rfl _ rfl (cs := [c0, c1, c2, c3, c4]) (fun i v h => (HW.out.cell (World.block_lt_of_cell? _ _ (HC.out i v h))).trans (HC.out i v h)) rfl ?_)
            | (refine boxLoadG 29 5 size5 Try.underlying29 rfl _ rfl _ rfl (cs := [d0, d1, d2, d3, d4]) (fun i v h => (HW1.out.cell (World.block_lt_of_cell? _ _ (HDD.out i v h))).trans (HDD.out i v h)) rfl ?_)
            | (refine boxNew 29 5 size5 rfl _ _ rfl rfl [c0, c1, c2, c3, c4] rfl rfl rfl HO1.out ?_)
            | (refine boxNewAt 29 5 size5 rfl _ _ rfl (wr.heap.size + 1) (World.size_alloc _ _) rfl [d0, d1, d2, d3, d4] rfl rfl rfl HO2.out ?_)
            | (refine (HF.out _ HW2.out).mono ?_; rintro e w5 ⟨rfl, hb⟩; have HB5 : Hid (Below w.heap.size w w5) := HW2.out.trans (hb.mono HW2.out.size); clear hb))
          go_ret
          exact ⟨by rw [← HBF.out]; rfl, HB5.out⟩
        · have HBT : Hid (sameYs (l.drop (j + 1)) (q.drop (j + 1)) = B) := by have h1 := HA.out; rw [HD.out, Bool.true_and] at h1; exact h1
          clear HA HD
          go_wp2_with (first
            | (refine boxLoad 29 5 size5 Try.underlying29 rfl _ rfl (wr.heap.size) rfl (cs := [c0, c1, c2, c3, c4]) K1.out rfl ?_)
            | (refine boxLoad 29 5 size5 Try.underlying29 rfl _ rfl (wr.heap.size + 1) rfl (cs := [d0, d1, d2, d3, d4]) K2.out rfl ?_)
            | (refine boxLoadG 29 5 size5 Try.underlying29 rfl _ rfl _ rfl (cs := [c0, c1, c2, c3, c4]) (fun i v h => (HW.out.cell (World.block_lt_of_cell? _ _ (HC.out i v h))).trans (HC.out i v h)) rfl ?_)
            | (refine boxLoadG 29 5 size5 Try.underlying29 rfl _ rfl _ rfl (cs := [d0, d1, d2, d3, d4]) (fun i v h => (HW1.out.cell (World.block_lt_of_cell? _ _ (HDD.out i v h))).trans (HDD.out i v h)) rfl ?_)
            | (refine boxNew 29 5 size5 rfl _ _ rfl rfl [c0, c1, c2, c3, c4] rfl rfl rfl HO1.out ?_)
            | (refine boxNewAt 29 5 size5 rfl _ _ rfl (wr.heap.size + 1) (World.size_alloc _ _) rfl [d0, d1, d2, d3, d4] rfl rfl rfl HO2.out ?_)
            | (refine (HF.out _ HW2.out).mono ?_; rintro e w5 ⟨rfl, hb⟩; have HB5 : Hid (Below w.heap.size w w5) := HW2.out.trans (hb.mono HW2.out.size); clear hb))
          case roundEnd => exact ⟨⟨j + 1, by push_cast; rfl, hj, HBT, HB5⟩, by simp [RowKit.intOf]; omega⟩
      · have hj' : ¬ ((j : Int) < (n : Int)) := by omega
        have hA := HA.out
        rw [List.drop_of_length_le (by rw [HN.out]; omega), List.drop_of_length_le (by rw [HM.out]; omega), sameYs] at hA
        subst hA
        go_wp2
        go_ret
        exact ⟨rfl, HW.out⟩
  · have hB : sameYs l q = false := sames_len (by omega)
    rw [hB]
    have hne : ¬ ((n : Int) = (m : Int)) := by omega
    clear hB h h' H hn hm
    go_enter Try.func44, Try.ntmps44
    go_wp2
    go_ret
    exact ⟨rfl, Below.refl _ _⟩

end Go.Proofs.Ytmnhilgifjaocaa
