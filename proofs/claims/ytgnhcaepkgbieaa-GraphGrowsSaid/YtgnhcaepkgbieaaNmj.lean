/-
  The document's own look whether two lists of names are the same. Condition: at most a million names.
-/
import Derived.Test.YtgnhcaepkgbieaaNmi
import Derived.BigQuiet
import Derived.BigRegion
namespace Go.Proofs.Ytgnhcaepkgbieaa
open Go.RowKit

theorem quietB (w : World) (n : Nat) {B : Nat} (_ : B ≤ w.heap.size) : Below B w (w.drewN n) := ⟨rfl, rfl, rfl, Nat.le_refl _, fun _ _ => rfl⟩
set_option maxRecDepth 100000 in
set_option maxHeartbeats 4000000 in
/-- Two lists of names. -/
theorem sameR_any (xs ys : List ByteArray) (o o' : Option Addr) (c c' : Nat) (w : World) (hx : AtS w o xs) (hy : AtS w o' ys) (hl : xs.length ≤ 1000000) (hl' : ys.length ≤ 1000000) :
    Calls Try.prog 14 #[.slice o xs.length c, .slice o' ys.length c'] w fun e w' => e = .returned (.bool (decide (nms xs = nms ys))) ∧ Below w.heap.size w w' := by
  have HX := Lib.hid hx
  have HY := Lib.hid hy
  clear hx hy
  by_cases hlen : xs.length = ys.length
  · have hlen' : ((xs.length : Nat) : Int) = ((ys.length : Nat) : Int) := by omega
    generalize hn : xs.length = n at *
    generalize hm : ys.length = m at *
    subst hlen
    have HXN := Lib.hid hn
    have HYN := Lib.hid hm
    clear hn hm hlen' hl'
    go_enter Try.func14, Try.ntmps14
    go_wp2
    go_loopw [5] (fun i wr => ∃ j : Nat, i = .int .i64 (j : Nat) ∧ Hid (j ≤ n) ∧ Hid (nms (xs.take j) = nms (ys.take j)) ∧ Hid (Below w.heap.size w wr)) (fun i _ => n - (RowKit.intOf i).toNat)
    case atStart => exact ⟨0, rfl, Nat.zero_le _, by show _ = _; rfl, Below.refl _ _⟩
    case round =>
      obtain ⟨j, rfl, HJ, HE, HB⟩ := hrel
      by_cases hj : j < n
      · have hj' : ((j : Int) < (n : Int)) := by omega
        have hj0 : (0 : Int) ≤ (j : Int) := by omega
        have hj1 : (j : Int) + 1 ≤ 9223372036854775807 := by omega
        have hj2 : -9223372036854775808 ≤ (j : Int) + 1 := by omega
        have hjx : j < xs.length := by have := HXN.out; omega
        have hjy : j < ys.length := by have := HYN.out; omega
        obtain ⟨a, ho, hc⟩ := HX.out j _ (List.getElem?_eq_getElem hjx)
        obtain ⟨a', ho', hc'⟩ := HY.out j _ (List.getElem?_eq_getElem hjy)
        subst ho; subst ho'
        have HTX : Hid (xs.take (j + 1) = xs.take j ++ [xs[j]]) := by show _ = _; rw [List.take_add_one, List.getElem?_eq_getElem hjx]; rfl
        have HTY : Hid (ys.take (j + 1) = ys.take j ++ [ys[j]]) := by show _ = _; rw [List.take_add_one, List.getElem?_eq_getElem hjy]; rfl
        have HQ := Lib.hid ((HB.out.cell (World.block_lt_of_cell? _ _ hc)).trans hc)
        have HQ' := Lib.hid ((HB.out.cell (World.block_lt_of_cell? _ _ hc')).trans hc')
        have he := nm_eq xs[j] ys[j]
        have hgx : xs[j]? = some xs[j] := List.getElem?_eq_getElem hjx
        have hgy : ys[j]? = some ys[j] := List.getElem?_eq_getElem hjy
        have HGX := Lib.hid hgx
        have HGY := Lib.hid hgy
        clear hc hc' hgx hgy
        generalize xs[j] = x at *
        generalize ys[j] = y at *
        have hq := HQ.out
        have hq' := HQ'.out
        by_cases hxy : nm x = nm y
        · rw [decide_eq_true hxy] at he
          have HE2 : Hid (nms (xs.take (j + 1)) = nms (ys.take (j + 1))) := by
            show _ = _
            rw [HTX.out, HTY.out, nms_app, nms_app, HE.out]
            unfold nms
            rw [List.map_cons, List.map_cons, hxy]
          have HJN := Lib.hid hj
          clear hxy hjx hjy hj
          go_wp2_with fail
          go_quiet (fail)
          go_wp2
          case roundEnd =>
            have := HJN.out
            exact ⟨⟨j + 1, by push_cast; rfl, by show _ ≤ _; omega, HE2, HB.out.trans (quietB _ _ HB.out.size)⟩, by simp [RowKit.intOf]; omega⟩
        · rw [decide_eq_false hxy] at he
          have hne : nms xs ≠ nms ys := fun h => hxy (by
            have := congrArg (fun l => l[j]?) h
            unfold nms at this
            simp only [List.getElem?_map, HGX.out, HGY.out, Option.map_some, Option.some.injEq] at this
            exact this)
          have HNE := Lib.hid hne
          clear hxy hne hjx hjy hj
          go_wp2_with fail
          go_quiet (fail)
          go_wp2
          go_ret
          exact ⟨by rw [decide_eq_false HNE.out]; rfl, HB.out.trans (quietB _ _ HB.out.size)⟩
      · have hj' : ¬ ((j : Int) < (n : Int)) := by omega
        have hle := HJ.out
        obtain rfl : j = n := by omega
        have h := HE.out
        rw [List.take_of_length_le (by rw [HXN.out]; omega), List.take_of_length_le (by rw [HYN.out]; omega)] at h
        have HE2 := Lib.hid h
        clear h hle
        go_wp2
        go_ret
        exact ⟨by rw [decide_eq_true HE2.out]; rfl, HB.out⟩
  · have hne : nms xs ≠ nms ys := fun h => hlen (by have := congrArg List.length h; unfold nms at this; simpa using this)
    have hlen' : ¬ ((xs.length : Nat) : Int) = ((ys.length : Nat) : Int) := by omega
    rw [decide_eq_false hne]
    clear hne hlen
    go_enter Try.func14, Try.ntmps14
    go_wp2
    go_ret
    exact ⟨by first | rfl | simp, Below.refl _ _⟩

end Go.Proofs.Ytgnhcaepkgbieaa
