/-
  TermTwice answers true, whatever it is given. No condition.
-/
import Derived.Test.YtofdejoeheokjaaTvb
import Derived.Test.YtofdejoeheokjaaTvc
import Derived.Test.YtofdejoeheokjaaTmc
import Derived.Test.YtofdejoeheokjaaTsd
import Derived.ProofKit
import Derived.OpenShut
namespace Go.Proofs.Ytofdejoeheokjaa.termTwice
open Go.ChangeShapes Go.WideShapes Go.ChangeAt Go.RowKit
open Go.Lib hiding intOf

structure Bx1 (w W : World) (A : Array Value) : Prop where
  b0 : Blk W w.heap.size 25 A
  below : Below w.heap.size w W
theorem Bx1.step {w W W' : World} {A : Array Value} (h : Bx1 w W A) (hb : Below W.heap.size W W') : Bx1 w W' A :=
  ⟨(hb.block _ h.b0.lt).trans h.b0, h.below.trans (hb.mono h.below.size)⟩
theorem five {w : World} {x : GY} {v : Value} (h : IsY w x v) : ∃ c0 c1 c2 c3 c4 : Value, v = .agg #[c0, c1, c2, c3, c4] := by
  obtain ⟨k, p, m, n, l⟩ := x
  obtain ⟨o, c, rfl, _⟩ := h.parts
  exact ⟨_, _, _, _, _, rfl⟩
/-- A result, in a box of the call's own. -/
structure Got (W : World) (g : Nat) (t : GY) (c0 c1 c2 c3 c4 : Value) : Prop where
  box : Blk W g 25 #[c0, c1, c2, c3, c4]
  is : IsY W t (.agg #[c0, c1, c2, c3, c4])
theorem Got.step {W W' : World} {g : Nat} {t : GY} {c0 c1 c2 c3 c4 : Value} (h : Got W g t c0 c1 c2 c3 c4) (hb : Below W.heap.size W W') : Got W' g t c0 c1 c2 c3 c4 := ⟨(hb.block _ h.box.lt).trans h.box, h.is.below hb⟩
theorem made (W : World) (A : Array Value) : ∃ W', W.alloc (.cells A 25) = W' ∧ Below W.heap.size W W' ∧ Blk W' W.heap.size 25 A := ⟨_, rfl, (Below.refl _ _).alloc (Nat.le_refl _) _, Blk.new W _ _⟩

mutual
theorem fit_sub {q : Nat} {us : List GY} (hu : FitYs q us) : ∀ {t : GY}, FitY q t → FitY q (subY us t)
  | .mk k p m n l, h => by
    rw [subY]
    split
    · rename_i hc
      have hlt : n.toNat < us.length := by omega
      rw [List.getD_eq_getElem?_getD, List.getElem?_eq_getElem hlt]
      exact FitYs.mem hu _ (List.getElem_mem hlt)
    · unfold FitY at h ⊢
      obtain ⟨h1, h2, h3, h4⟩ := h
      exact ⟨h1, h2, by rw [subs_map, List.length_map]; exact h3, fits_sub hu h4⟩
theorem fits_sub {q : Nat} {us : List GY} (hu : FitYs q us) : ∀ {l : List GY}, FitYs q l → FitYs q (subYs us l)
  | [], _ => by rw [subYs]; unfold FitYs; trivial
  | y :: r, h => by
    unfold FitYs at h
    rw [subYs]
    unfold FitYs
    exact ⟨fit_sub hu h.1, fits_sub hu h.2⟩
end

set_option maxRecDepth 100000 in
set_option maxHeartbeats 8000000 in
theorem walk (t : GY) (va : Value) (us : List GY) (ou : Option Addr) (nu cu : Nat) (bs : List GY) (ob : Option Addr) (nb cb : Nat) (w : World) (ha : IsY w t va) (hfa : FitY reachBytes t)
    (hus : IsYs w ou 0 us) (hnu : us.length = nu) (_ : nu ≤ cu) (_ : cu ≤ maxLen) (hfu : FitYs reachBytes us) (_ : nu * 72 ≤ reachBytes) (hbs : IsYs w ob 0 bs) (hnb : bs.length = nb) (_ : nb ≤ cb) (_ : cb ≤ maxLen) (hfb : FitYs reachBytes bs) (_ : nb * 72 ≤ reachBytes) :
    Calls Try.prog 9 #[va, .slice ou nu cu, .slice ob nb cb] w fun e w' => e = .returned (.bool true) ∧ Below w.heap.size w w' := by
  have hq : reachBytes ≤ 281474976710656 := by decide
  obtain ⟨a0, a1, a2, a3, a4, rfl⟩ := five ha
  have HNa := Lib.hid (fun W (h : Below w.heap.size w W) => nodes_any _ t _ 0 W (Nat.lt_succ_self _) (ha.below h) (by decide) (by decide))
  have HP1 := Lib.hid (fun W (h : Below w.heap.size w W) => substP_any reachBytes hq us ou nu cu hnu hfu t _ W hfa (ha.below h) (hus.below h))
  have HP2 := Lib.hid (fun (v : Value) W (h : Below w.heap.size w W) (hv : IsY W (subY us t) v) => substP_any reachBytes hq bs ob nb cb hnb hfb (subY us t) v W (fit_sub hfu hfa) hv (hbs.below h))
  have HPX := Lib.hid (fun (x : GY) (hx : x ∈ us) (v : Value) W (h : Below w.heap.size w W) (hv : IsY W x v) => substP_any reachBytes hq bs ob nb cb hnb hfb x v W (FitYs.mem hfu x hx) hv (hbs.below h))
  have hfp : FitYs reachBytes (us.map (subY bs)) := by rw [← subs_map]; exact fits_sub hfb hfu
  have HP3 := Lib.hid (fun (op : Option Addr) (cp : Nat) W (h : Below w.heap.size w W) (hp : IsYs W op 0 (us.map (subY bs))) => substP_any reachBytes hq (us.map (subY bs)) op nu cp (by rw [List.length_map]; exact hnu) hfp t _ W hfa (ha.below h) hp)
  have HUS := Lib.hid hus
  have HBS := Lib.hid hbs
  have HNU := Lib.hid hnu
  have HNB := Lib.hid hnb
  have HA := Lib.hid ha
  obtain ⟨W1, hW1, hb1, hk1⟩ := made w #[a0, a1, a2, a3, a4]
  have HB : Hid (Bx1 w W1 #[a0, a1, a2, a3, a4]) := ⟨hk1, hb1⟩
  have HW1 := Lib.hid hW1
  have hs1 : W1.heap.size = w.heap.size + 1 := by rw [← hW1]; simp
  have HS1 := Lib.hid hs1
  have hcnt := nod_cnt t 0
  clear ha hfa hus hnu hfu hW1 hb1 hk1 hq hbs hnb hfb hfp hs1
  go_enter Try.func9, Try.ntmps9
  go_upto_region 1 with fail
  change Code.wp Try.prog _ _ _ (w.alloc (.cells #[a0, a1, a2, a3, a4] 25))
  rw [HW1.out]
  clear HW1
  by_cases hna : 60 ≤ nodY t 0
  · have e0 := decide_eq_true hna
    clear hcnt
    generalize nodY t 0 = na at *
    go_wp2_with (first
      | (refine boxLoad 25 5 size5 Try.underlying25 rfl _ rfl w.heap.size rfl (cs := [a0, a1, a2, a3, a4]) HB.out.b0 rfl ?_)
      | (go_at_call 10; (with_reducible refine (awake_any _).mono ?_); rintro e w2 ⟨rfl, hb⟩; have HSN : Hid (w.heap.size + 1 ≤ w2.heap.size) := (by have := hb.size; have := HS1.out; show _ ≤ _; omega); have HB2 := Lib.hid (HB.out.step hb); clear HB hb; have HB := HB2; clear HB2)
      | (go_at_call 11; (with_reducible refine (HNa.out _ HB.out.below).mono ?_); rintro e w2 ⟨rfl, hb⟩; have HSN2 : Hid (w.heap.size + 1 ≤ w2.heap.size) := Nat.le_trans HSN.out hb.size; clear HSN; have HSN := HSN2; clear HSN2; have HB2 := Lib.hid (HB.out.step hb); clear HB hb; have HB := HB2; clear HB2))
    go_ret
    exact ⟨rfl, HB.out.below⟩
  have e0 := decide_eq_false hna
  have HCN : Hid (cntY t ≤ 1000) := by have := hcnt (by omega); show _ ≤ _; omega
  clear hcnt
  generalize nodY t 0 = na at *
  by_cases hn8 : 8 < nu
  · have hn8' : (8 : Int) < (nu : Int) := by omega
    go_wp2_with (first
      | (refine boxLoad 25 5 size5 Try.underlying25 rfl _ rfl w.heap.size rfl (cs := [a0, a1, a2, a3, a4]) HB.out.b0 rfl ?_)
      | (go_at_call 10; (with_reducible refine (awake_any _).mono ?_); rintro e w2 ⟨rfl, hb⟩; have HSN : Hid (w.heap.size + 1 ≤ w2.heap.size) := (by have := hb.size; have := HS1.out; show _ ≤ _; omega); have HB2 := Lib.hid (HB.out.step hb); clear HB hb; have HB := HB2; clear HB2)
      | (go_at_call 11; (with_reducible refine (HNa.out _ HB.out.below).mono ?_); rintro e w2 ⟨rfl, hb⟩; have HSN2 : Hid (w.heap.size + 1 ≤ w2.heap.size) := Nat.le_trans HSN.out hb.size; clear HSN; have HSN := HSN2; clear HSN2; have HB2 := Lib.hid (HB.out.step hb); clear HB hb; have HB := HB2; clear HB2))
    go_ret
    exact ⟨rfl, HB.out.below⟩
  have hn8' : ¬ (8 : Int) < (nu : Int) := by omega
  by_cases hb8 : 8 < nb
  · have hb8' : (8 : Int) < (nb : Int) := by omega
    go_wp2_with (first
      | (refine boxLoad 25 5 size5 Try.underlying25 rfl _ rfl w.heap.size rfl (cs := [a0, a1, a2, a3, a4]) HB.out.b0 rfl ?_)
      | (go_at_call 10; (with_reducible refine (awake_any _).mono ?_); rintro e w2 ⟨rfl, hb⟩; have HSN : Hid (w.heap.size + 1 ≤ w2.heap.size) := (by have := hb.size; have := HS1.out; show _ ≤ _; omega); have HB2 := Lib.hid (HB.out.step hb); clear HB hb; have HB := HB2; clear HB2)
      | (go_at_call 11; (with_reducible refine (HNa.out _ HB.out.below).mono ?_); rintro e w2 ⟨rfl, hb⟩; have HSN2 : Hid (w.heap.size + 1 ≤ w2.heap.size) := Nat.le_trans HSN.out hb.size; clear HSN; have HSN := HSN2; clear HSN2; have HB2 := Lib.hid (HB.out.step hb); clear HB hb; have HB := HB2; clear HB2))
    go_ret
    exact ⟨rfl, HB.out.below⟩
  have hb8' : ¬ (8 : Int) < (nb : Int) := by omega
  have HPA := Lib.hid (fun W (h : Below w.heap.size w W) => paramsP_any t HCN.out _ W (HA.out.below h))
  go_wp2_with (first
    | (refine boxLoad 25 5 size5 Try.underlying25 rfl _ rfl w.heap.size rfl (cs := [a0, a1, a2, a3, a4]) HB.out.b0 rfl ?_)
    | (go_at_call 10; (with_reducible refine (awake_any _).mono ?_); rintro e w2 ⟨rfl, hb⟩; have HSN : Hid (w.heap.size + 1 ≤ w2.heap.size) := (by have := hb.size; have := HS1.out; show _ ≤ _; omega); have HB2 := Lib.hid (HB.out.step hb); clear HB hb; have HB := HB2; clear HB2)
    | (go_at_call 11; (with_reducible refine (HNa.out _ HB.out.below).mono ?_); rintro e w2 ⟨rfl, hb⟩; have HSN2 : Hid (w.heap.size + 1 ≤ w2.heap.size) := Nat.le_trans HSN.out hb.size; clear HSN; have HSN := HSN2; clear HSN2; have HB2 := Lib.hid (HB.out.step hb); clear HB hb; have HB := HB2; clear HB2)
    | (go_at_call 13; (with_reducible refine (HPA.out _ HB.out.below).mono ?_); rintro e w1 ⟨L, ol, nl, cl, rfl, hL, hl2, hp, hz, hb⟩; have HSZ : Hid (w.heap.size + 1 ≤ w1.heap.size) := Nat.le_trans HSN.out hb.size; have HB2 := Lib.hid (HB.out.step hb); have HNL := Lib.hid hL; have HNL2 := Lib.hid hl2; have HPI := Lib.hid hp; have HZ := Lib.hid hz; clear HB hb hL hl2 hp hz HSN; have HB := HB2; clear HB2))
  clear HNa e0 hna HPA
  go_loopw [9] (fun i wr => ∃ j : Nat, i = .int .i64 (j : Nat) ∧ Hid (j ≤ nl) ∧ Hid (∀ (i : Nat) (x : Int), i < j → L[i]? = some x → 0 ≤ x ∧ x < (nu : Int)) ∧ wr = w1) (fun i _ => nl - (RowKit.intOf i).toNat)
  case atStart => exact ⟨0, rfl, Nat.zero_le _, by intro i x hi; omega, rfl⟩
  case round =>
    obtain ⟨j, rfl, HJ, HALL, rfl⟩ := hrel
    by_cases hj : j < nl
    · have hj' : ((j : Int) < (nl : Int)) := by omega
      have hj0 : (0 : Int) ≤ (j : Int) := by omega
      have hnl := HNL2.out
      have hwj := IntWalk.i64_in ((j : Int) + 1) ⟨by omega, by omega⟩
      obtain ⟨x, hx⟩ : ∃ x, L[j]? = some x := ⟨_, List.getElem?_eq_getElem (by rw [HNL.out]; exact hj)⟩
      obtain ⟨a, rfl, hcx⟩ := HZ.out j x hx
      have HXX := Lib.hid hx
      clear hx hnl
      by_cases hx0 : x < 0
      · have d0 := decide_eq_true hx0
        go_wp2
        go_ret
        exact ⟨rfl, HB.out.below⟩
      · have d0 := decide_eq_false hx0
        by_cases hx1 : (nu : Int) ≤ x
        · have d1 := decide_eq_true hx1
          go_wp2
          go_ret
          exact ⟨rfl, HB.out.below⟩
        · have d1 := decide_eq_false hx1
          have HN : Hid (∀ (i : Nat) (y : Int), i < j + 1 → L[i]? = some y → 0 ≤ y ∧ y < (nu : Int)) := fun i y hi hy => by
            by_cases hij : i = j
            · subst hij
              rw [HXX.out] at hy
              injection hy with hy
              subst hy
              exact ⟨by omega, by omega⟩
            · exact HALL.out i y (by omega) hy
          clear HALL
          go_wp2
          case roundEnd => exact ⟨⟨j + 1, by push_cast; rfl, hj, HN, by first | rfl | trivial⟩, by simp [RowKit.intOf]; omega⟩
    · have hj' : ¬ ((j : Int) < (nl : Int)) := by omega
      have hjn := HJ.out
      have HHAS : Hid (∀ k, hasY k t → 0 ≤ k ∧ k < (us.length : Int)) := fun k hk => by
        obtain ⟨i, hi, e⟩ := List.getElem_of_mem ((HPI.out.is k).2 hk)
        have := HALL.out i k (by have := HNL.out; omega) (by rw [List.getElem?_eq_getElem hi, e])
        rw [HNU.out]
        exact this
      clear HALL hjn
      go_wp2
      go_loopw [10, 11] (fun v i wr2 => ∃ (j : Nat) (op : Option Addr) (cp : Nat), v = .slice op j cp ∧ i = .int .i64 (j : Nat) ∧ Hid (j ≤ nu) ∧ Hid (Bx1 w wr2 #[a0, a1, a2, a3, a4]) ∧ Hid (w.heap.size + 1 ≤ wr2.heap.size) ∧ Hid (RowY w wr2 (w.heap.size + 1) 0 op j cp ((us.map (subY bs)).take j))) (fun _ i _ => nu - (RowKit.intOf i).toNat)
      case atStart => exact ⟨0, none, 0, rfl, rfl, Nat.zero_le _, HB, HSZ, by show RowY _ _ _ _ _ _ _ (List.take 0 _); rw [List.take_zero]; exact RowY.start _ _ _ _⟩
      case round =>
        obtain ⟨j2, op, cp, rfl, rfl, HJ2, HBR, HSR, HRY⟩ := hrel
        clear HB HSZ
        obtain ⟨w5, rfl⟩ : ∃ w5, w5 = wr := ⟨wr, rfl⟩
        by_cases hj2 : j2 < nu
        · have hj2' : ((j2 : Int) < (nu : Int)) := by omega
          have hj0 : (0 : Int) ≤ (j2 : Int) := by omega
          have hwj := IntWalk.i64_in ((j2 : Int) + 1) ⟨by omega, by omega⟩
          obtain ⟨x, hx⟩ : ∃ x, us[j2]? = some x := ⟨_, List.getElem?_eq_getElem (by rw [HNU.out]; exact hj2)⟩
          have hmem := List.mem_of_getElem? hx
          obtain ⟨a, d0, d1, d2, d3, d4, rfl, hcx, hyx⟩ := HUS.out.at_ j2 hx
          rw [Nat.zero_add] at hcx
          have hwr := HBR.out.below
          have HC : Hid (∀ W, Below w.heap.size w W → ∀ (i : Nat) (v : Value), [d0, d1, d2, d3, d4][i]? = some v → W.cell? ((a.add (j2 * 5)).add i) = some v) := fun W hW i v h => (hW.cell (World.block_lt_of_cell? _ _ (hcx i v h))).trans (hcx i v h)
          have HF := Lib.hid (nodes_any _ x _ 0 w5 (Nat.lt_succ_self _) (hyx.below hwr) (by decide) (by decide))
          have HYX := Lib.hid hyx
          have HMEM := Lib.hid hmem
          have HT : Hid ((us.map (subY bs)).take (j2 + 1) = (us.map (subY bs)).take j2 ++ [subY bs x]) := by
            show _ = _
            rw [List.take_add_one, List.getElem?_map, hx]
            rfl
          clear hcx hyx hwr hx hmem
          generalize nodY x 0 = nx at *
          by_cases hx2 : 60 ≤ nx
          · have e0 := decide_eq_true hx2
            go_wp2_with (first
              | (refine boxLoadG 25 5 size5 Try.underlying25 rfl _ rfl _ rfl (cs := [d0, d1, d2, d3, d4]) (HC.out _ HBR.out.below) rfl ?_)
              | (go_at_call 11; (with_reducible refine HF.out.mono ?_); rintro e w2 ⟨rfl, hb⟩; have HB2 := Lib.hid (HBR.out.step hb); clear hb))
            go_ret
            exact ⟨rfl, HB2.out.below⟩
          · have e0 := decide_eq_false hx2
            obtain ⟨i0, hi, hz0, hz1, hz2⟩ := info_parts infoTT
            go_wp2_with (first
              | (refine boxLoadG 25 5 size5 Try.underlying25 rfl _ rfl _ rfl (cs := [d0, d1, d2, d3, d4]) (HC.out _ HB2.out.below) rfl ?_)
              | (refine boxLoadG 25 5 size5 Try.underlying25 rfl _ rfl _ rfl (cs := [d0, d1, d2, d3, d4]) (HC.out _ HBR.out.below) rfl ?_)
              | (go_at_call 11; (with_reducible refine HF.out.mono ?_); rintro e w2 ⟨rfl, hb⟩; have HB2 := Lib.hid (HBR.out.step hb); have HRY2 := Lib.hid (HRY.out.below hb); have HSZ2 : Hid (w.heap.size + 1 ≤ w2.heap.size) := Nat.le_trans HSR.out hb.size; clear hb)
              | (go_at_call 24; refine (HPX.out x HMEM.out _ _ HB2.out.below (HYX.out.below HB2.out.below)).mono ?_; rintro e w8 ⟨u, rfl, hu, hb⟩; obtain ⟨b0, b1, b2, b3, b4, rfl, ho⟩ := hu.cells; have HO8 := Lib.hid ho; have HU8 := Lib.hid hu; have HB8 := Lib.hid (HB2.out.step hb); have HRY8 := Lib.hid (HRY2.out.below hb); have HSZ8 : Hid (w2.heap.size ≤ w8.heap.size) := hb.size; obtain ⟨⟨LL, hL1, hL2, hL3, hL4⟩, hL5⟩ := HRY8.out; have HL1 := Lib.hid hL1; have HL2 := Lib.hid hL2; have HL3 := Lib.hid hL3; have HL4 := Lib.hid hL4; have HL5 := Lib.hid hL5; clear ho hu hb hL1 hL2 hL3 hL4 hL5)
              | (refine boxRow1 23 25 5 (.agg #[.int .i64 0, .string ⟨#[]⟩, .string ⟨#[]⟩, .int .i64 0, .slice none 0 0]) Try.underlying23 (by kernel_rfl) rfl (by decide) rfl _ rfl [b0, b1, b2, b3, b4] rfl rfl ?_)
              | (refine wpList_append_tells w8 rfl _ _ 23 rfl (w.heap.size + 1) 25 i0 (.agg #[.int .i64 0, .string ⟨#[]⟩, .string ⟨#[]⟩, .int .i64 0, .slice none 0 0]) 5 72 Try.underlying23 hi hz0 hz1 hz2 rfl (by decide) (.slice op j2 cp) j2 (dY LL) rfl HL1.out _ [b0, b1, b2, b3, b4] rfl rfl (one_cells w8 b0 b1 b2 b3 b4) (by simpa using HO8.out) (by unfold maxLen; omega) (by omega) (by have := HSZ8.out; have := HSZ2.out; omega) ?_; intro o9 c9 w9 hrow hT9 hfr; have HROW := Lib.hid hrow; have HT9 := Lib.hid hT9; have HFR := Lib.hid hfr; clear hrow hT9 hfr))
            case roundEnd =>
              have hu8 : IsYP (fun k => (k < 0 ∨ w.heap.size + 1 ≤ k) ∧ (Value.slice op j2 cp).ownBlock ≠ some k) w8 (subY bs x) (.agg #[b0, b1, b2, b3, b4]) := HU8.out.toP fun k hk => by
                obtain ⟨L', hL', _⟩ := HRY2.out.row
                refine ⟨.inr (by have := HSZ2.out; omega), fun e => ?_⟩
                have := hL'.lt _ e
                omega
              have hN := RowY.next (w0 := w) HL1.out HL2.out HL3.out HL4.out HL5.out hu8 HROW.out HT9.out HFR.out
              have hT := HT9.out
              refine ⟨⟨j2 + 1, o9, c9, rfl, by push_cast; rfl, hj2, ⟨?_, ?_⟩, Nat.le_trans HSZ2.out (Nat.le_trans HSZ8.out hT.size), by show RowY _ _ _ _ _ _ _ _; rw [HT.out]; exact hN⟩, by simp [RowKit.intOf]; omega⟩
              · exact (hT.block _ HB8.out.b0.lt fun hk => by have := (HL1.out.lt _ hk).1; omega).trans HB8.out.b0
              · exact HB8.out.below.trans (hT.below HB8.out.below.size fun k hk => by have := (HL1.out.lt k hk).1; omega)
        · have hj2' : ¬ ((j2 : Int) < (nu : Int)) := by omega
          have hjn := HJ2.out
          obtain rfl : j2 = nu := by omega
          have hfull : (us.map (subY bs)).take j2 = us.map (subY bs) := List.take_of_length_le (by rw [List.length_map, HNU.out]; exact Nat.le_refl _)
          have hRY := HRY.out
          rw [hfull] at hRY
          have HPUT := Lib.hid (hRY.done (w' := w5) fun _ _ _ h => h).toYs
          have HB5 := Lib.hid HBR.out
          clear HRY HBR HSR hRY hfull
          go_wp2
          go_loopw [12] (fun i wr3 => ∃ j : Nat, i = .int .i64 (j : Nat) ∧ Hid (j ≤ nb) ∧ Hid (Bx1 w wr3 #[a0, a1, a2, a3, a4]) ∧ Hid (Below w5.heap.size w5 wr3)) (fun i _ => nb - (RowKit.intOf i).toNat)
          case atStart => exact ⟨0, rfl, Nat.zero_le _, HB5, Below.refl _ _⟩
          case round =>
            obtain ⟨j3, rfl, HJ3, HBR, HW5⟩ := hrel
            clear HB5
            by_cases hj3 : j3 < nb
            · have hj3' : ((j3 : Int) < (nb : Int)) := by omega
              have hj0 : (0 : Int) ≤ (j3 : Int) := by omega
              have hwj := IntWalk.i64_in ((j3 : Int) + 1) ⟨by omega, by omega⟩
              obtain ⟨x, hx⟩ : ∃ x, bs[j3]? = some x := ⟨_, List.getElem?_eq_getElem (by rw [HNB.out]; exact hj3)⟩
              obtain ⟨a, d0, d1, d2, d3, d4, rfl, hcx, hyx⟩ := HBS.out.at_ j3 hx
              rw [Nat.zero_add] at hcx
              have hwr := HBR.out.below
              have HC : Hid (∀ (i : Nat) (v : Value), [d0, d1, d2, d3, d4][i]? = some v → wr.cell? ((a.add (j3 * 5)).add i) = some v) := fun i v h => (hwr.cell (World.block_lt_of_cell? _ _ (hcx i v h))).trans (hcx i v h)
              have HF := Lib.hid (nodes_any _ x _ 0 wr (Nat.lt_succ_self _) (hyx.below hwr) (by decide) (by decide))
              clear hcx hyx hwr hx
              generalize nodY x 0 = nx at *
              by_cases hx2 : 60 ≤ nx
              · have e0 := decide_eq_true hx2
                go_wp2_with (first
                  | (refine boxLoadG 25 5 size5 Try.underlying25 rfl _ rfl _ rfl (cs := [d0, d1, d2, d3, d4]) HC.out rfl ?_)
                  | (go_at_call 11; (with_reducible refine HF.out.mono ?_); rintro e w2 ⟨rfl, hb⟩; have HB2 := Lib.hid (HBR.out.step hb); clear hb))
                go_ret
                exact ⟨rfl, HB2.out.below⟩
              · have e0 := decide_eq_false hx2
                go_wp2_with (first
                  | (refine boxLoadG 25 5 size5 Try.underlying25 rfl _ rfl _ rfl (cs := [d0, d1, d2, d3, d4]) HC.out rfl ?_)
                  | (go_at_call 11; (with_reducible refine HF.out.mono ?_); rintro e w2 ⟨rfl, hb⟩; have HB2 := Lib.hid (HBR.out.step hb); have HW52 := Lib.hid (HW5.out.trans (hb.mono HW5.out.size)); clear hb))
                case roundEnd => exact ⟨⟨j3 + 1, by push_cast; rfl, hj3, HB2, HW52⟩, by simp [RowKit.intOf]; omega⟩
            · have hj3' : ¬ ((j3 : Int) < (nb : Int)) := by omega
              have HTW := Lib.hid (sub_twice us bs t HHAS.out)
              go_wp2_with (first
                | (refine boxLoad 25 5 size5 Try.underlying25 rfl _ rfl w.heap.size rfl (cs := [a0, a1, a2, a3, a4]) HBR.out.b0 rfl ?_)
                | (go_at_call 25; refine (equal_any _ (subY (us.map (subY bs)) t) _ _ _ (Nat.lt_succ_self _) (HTW.out ▸ HG7.out.is) HG8.out.is).mono ?_; rintro e w10 ⟨rfl, hb⟩; have HBN := Lib.hid (HBR.out.step hb); clear HBR; have HBR := HBN; clear hb HBN)
                | (refine boxNewAt 25 5 size5 rfl _ _ rfl _ rfl rfl [h0, h1, h2, h3, h4] rfl rfl rfl HO8.out ?_; change wpList _ _ _ _ _ (_root_.Go.World.alloc _ (.cells #[h0, h1, h2, h3, h4] 25)); rw [HX8.out])
                | (go_at_call 24; have hmark := HG7.out; clear hmark; refine (HP3.out op cp _ HBR.out.below (HPUT.out.below HW5.out)).mono ?_; rintro e w8 ⟨u, rfl, hu, hb⟩; obtain ⟨h0, h1, h2, h3, h4, rfl, ho⟩ := hu.cells; obtain ⟨X8, hX8, hbX, hkX⟩ := made w8 #[h0, h1, h2, h3, h4]; have HG8 : Hid (Got X8 w8.heap.size (subY (us.map (subY bs)) t) h0 h1 h2 h3 h4) := ⟨hkX, hu.toY.below hbX⟩; have HG7N := Lib.hid ((HG7.out.step hb).step hbX); clear HG7; have HG7 := HG7N; have HBN := Lib.hid ((HBR.out.step hb).step hbX); clear HBR; have HBR := HBN; have HX8 := Lib.hid hX8; have HO8 := Lib.hid ho; have q0 := HG7.out.box.cell 0; have q1 := HG7.out.box.cell 1; have q2 := HG7.out.box.cell 2; have q3 := HG7.out.box.cell 3; have q4 := HG7.out.box.cell 4; have r0 := HG8.out.box.cell 0; have r1 := HG8.out.box.cell 1; have r2 := HG8.out.box.cell 2; have r3 := HG8.out.box.cell 3; have r4 := HG8.out.box.cell 4; simp only [List.getElem?_toArray, List.getElem?_cons_succ, List.getElem?_cons_zero] at q0 q1 q2 q3 q4 r0 r1 r2 r3 r4; clear hu hb hX8 hbX hkX ho HBN HG7N)
                | (refine boxNewAt 25 5 size5 rfl _ _ rfl _ rfl rfl [f0, f1, f2, f3, f4] rfl rfl rfl HO7.out ?_; change wpList _ _ _ _ _ (_root_.Go.World.alloc _ (.cells #[f0, f1, f2, f3, f4] 25)); rw [HX7.out])
                | (go_at_call 24; have hmark := HU6.out; clear hmark; refine (HP2.out _ _ HBR.out.below HU6.out).mono ?_; rintro e w7 ⟨u, rfl, hu, hb⟩; obtain ⟨f0, f1, f2, f3, f4, rfl, ho⟩ := hu.cells; obtain ⟨X7, hX7, hbX, hkX⟩ := made w7 #[f0, f1, f2, f3, f4]; have HG7 : Hid (Got X7 w7.heap.size (subY bs (subY us t)) f0 f1 f2 f3 f4) := ⟨hkX, hu.toY.below hbX⟩; have HBN := Lib.hid ((HBR.out.step hb).step hbX); clear HBR; have HBR := HBN; have HWN := Lib.hid (HW5.out.trans ((hb.mono HW5.out.size).trans (hbX.mono (Nat.le_trans HW5.out.size hb.size)))); clear HW5; have HW5 := HWN; have HX7 := Lib.hid hX7; have HO7 := Lib.hid ho; clear hu hb hX7 hbX hkX ho HBN HWN HU6)
                | (go_at_call 24; refine (HP1.out _ HBR.out.below).mono ?_; rintro e w6 ⟨u6, rfl, hu, hb⟩; have HU6 := Lib.hid hu.toY; have HBN := Lib.hid (HBR.out.step hb); clear HBR; have HBR := HBN; have HWN := Lib.hid (HW5.out.trans (hb.mono HW5.out.size)); clear HW5; have HW5 := HWN; clear hu hb HBN HWN))
              go_ret
              exact ⟨rfl, HBR.out.below⟩

theorem laidOut : laidOutB Try.prog = true := by kernel_rfl
theorem own : ownKnob Try.prog.godebug = none := by kernel_rfl

theorem int_range {n : Int} (h : (Lit.int .i64 n).wf = true) : -9223372036854775808 ≤ n ∧ n ≤ 9223372036854775807 := by
  have h2 : IntKind.i64.min ≤ n ∧ n ≤ IntKind.i64.max := by
    unfold Lit.wf at h
    simpa only [Bool.and_eq_true, decide_eq_true_eq] using h
  rw [show IntKind.i64.min = -9223372036854775808 by decide, show IntKind.i64.max = 9223372036854775807 by decide] at h2
  exact h2

set_option maxRecDepth 100000 in
theorem lifted (os : Os) (started : os.Started) (H : Type) (enc : TypeId × Value → H) :
    ReturnsInHanded {} Try.checked os 9 .any (Rows.termTwiceSpec.pre6 enc Try.prog Try.f9 Rows.termTwiceRow.domain false) (Rows.termTwiceSpec.post enc Try.prog Try.f9 false true false false) := by
  refine returnsInHanded_of_change_sized (C := Try.checked) own started (by kernel_rfl) Try.func9
    (ChangeSpec.witness6 (enc := enc) (C := Try.checked) false ⟨#[], #[.agg #[.int .i64 0, .string .empty, .string .empty, .int .i64 0, .slice none 0 0], .slice none 0 0, .slice none 0 0], []⟩ 8 (by kernel_rfl) (by kernel_rfl) (by kernel_rfl) (by kernel_rfl)) ?_
  intro W base args ds gs before hval0 hW hcnd hsz _
  have hval : ∀ (j : Nat) t v, Try.f9.params[j]? = some t → args[j]? = some v → Value.okWide Try.prog W .any base t v := hval0
  have hW' := hW
  obtain ⟨p, q, hA0, hV, rfl, hfz, hnd⟩ := hW
  have hA : DataW.TrodAll enc Try.prog W 0 (fun _ => true) true Try.f9.params.toList args.toList ds p := hA0
  rw [Try.params9] at hA hval
  obtain ⟨v0, vs0, d0, ds0, p0, q0, hargs, rfl, rfl, h0, r0⟩ := trodAll_cons hA
  obtain ⟨v1, vs1, d1, ds1, p1, q1, rfl, rfl, rfl, h1, r1⟩ := trodAll_cons r0
  obtain ⟨v2, vs2, d2, ds2, p2, q2, rfl, rfl, rfl, h2, r2⟩ := trodAll_cons r1
  obtain ⟨rfl, rfl, rfl⟩ := trodAll_nil r2
  obtain rfl : args = #[v0, v1, v2] := by cases args; simp_all
  obtain ⟨rfl, rfl⟩ := trodVars_none hV
  have t0 := h0
  obtain ⟨fl0, k0⟩ := h0
  have lt0 : ∀ x ∈ p0, x.block < W.heap.size := fun x hx => by simpa using hW'.lt x (by simp [hx])
  obtain ⟨cc0, rfl, _⟩ := okWide_struct Try.underlying25 (hval 0 25 v0 rfl rfl)
  have kk0 : DataW.trod enc Try.prog W 0 (fun _ => true) true fl0 25 cc0.toList = some (d0, p0) := k0
  obtain ⟨y0, g0, s0⟩ := open_y fl0 _ _ kk0
  have m0 := s0 reachBytes (fun k hk => by simpa using List.all_eq_true.1 hsz k (DataW.weights_mem_each (j := 0) rfl rfl k hk))
  rw [show cc0.toList.toArray = cc0 by simp] at g0
  have t1 := h1
  obtain ⟨fl1, k1⟩ := h1
  have lt1 : ∀ x ∈ p1, x.block < W.heap.size := fun x hx => by simpa using hW'.lt x (by simp [hx])
  obtain ⟨oo1, ll1, cc1, rfl⟩ := okWide_slice Try.underlying23 (hval 1 23 v1 rfl rfl)
  have kk1 : DataW.trod enc Try.prog W 0 (fun _ => true) true fl1 23 [.slice oo1 ll1 cc1] = some (d1, p1) := k1
  obtain ⟨o1, l1, c1, e1, lc1, cm1, g1, s1⟩ := open_ys kk1
  simp only [List.cons.injEq, and_true, Value.slice.injEq] at e1
  obtain ⟨rfl, rfl, rfl⟩ := e1
  have m1 := s1 reachBytes (fun k hk => by simpa using List.all_eq_true.1 hsz k (DataW.weights_mem_each (j := 1) rfl rfl k hk))
  have t2 := h2
  obtain ⟨fl2, k2⟩ := h2
  have lt2 : ∀ x ∈ p2, x.block < W.heap.size := fun x hx => by simpa using hW'.lt x (by simp [hx])
  obtain ⟨oo2, ll2, cc2, rfl⟩ := okWide_slice Try.underlying23 (hval 2 23 v2 rfl rfl)
  have kk2 : DataW.trod enc Try.prog W 0 (fun _ => true) true fl2 23 [.slice oo2 ll2 cc2] = some (d2, p2) := k2
  obtain ⟨o2, l2, c2, e2, lc2, cm2, g2, s2⟩ := open_ys kk2
  simp only [List.cons.injEq, and_true, Value.slice.injEq] at e2
  obtain ⟨rfl, rfl, rfl⟩ := e2
  have m2 := s2 reachBytes (fun k hk => by simpa using List.all_eq_true.1 hsz k (DataW.weights_mem_each (j := 2) rfl rfl k hk))
  clear hA0 hval0
  simp only [List.append_nil] at hW'
  refine (walk y0 _ l1 oo1 l1.length cc1 l2 oo2 l2.length cc2 W g0 m0 g1 rfl lc1 cm1 m1.1 m1.2 g2 rfl lc2 cm2 m2.1 m2.2).mono fun e W' ⟨he, hg⟩ => ?_
  subst he
  exact ⟨_, rfl, _, _, _, [], _, [], hW', (trodAll_cons_mk (shut_bool Try.underlying4 _) trodAll_mk0), (trodAll_cons_mk (Below.trod laidOut (by kernel_rfl) (of_decide_eq_true (by kernel_rfl)) t0 hg lt0) (trodAll_cons_mk (Below.trod laidOut (by kernel_rfl) (of_decide_eq_true (by kernel_rfl)) t1 hg lt1) (trodAll_cons_mk (Below.trod laidOut (by kernel_rfl) (of_decide_eq_true (by kernel_rfl)) t2 hg lt2) trodAll_mk0))), rfl, hg.frame _, fun h => by cases h⟩

theorem over : Rows.termTwiceRow.holds Try.pinned (OpenSpec.ofChange Rows.termTwiceSpec) :=
  OpenClaim.holds_of_wide 9 Try.f9 rfl rfl rfl rfl rfl rfl rfl ⟨rfl, rfl, rfl, rfl, rfl⟩ rfl rfl rfl rfl rfl (by kernel_rfl) Try.func9 (by kernel_rfl)
    (of_decide_eq_true (by kernel_rfl)) (by unfold Func.isWrapper; first | (rw [if_pos (by decide +kernel)]; kernel_rfl) | (rw [if_neg (by decide +kernel)]; exact ⟨rfl, rfl⟩))
    (fun os started H enc _ => lifted os started H enc)

/-- TermTwice answers true. -/
theorem proved : Rows.TermTwiceSaid :=
  over

end Go.Proofs.Ytofdejoeheokjaa.termTwice
