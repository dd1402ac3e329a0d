/-
  TermKeeps answers true, whatever it is given. No condition.
-/
import Derived.Test.YtofdejoeheokjaaTvb
import Derived.Test.YtofdejoeheokjaaTvc
import Derived.Test.YtofdejoeheokjaaTmc
import Derived.Test.YtofdejoeheokjaaTpe
import Derived.Test.YtofdejoeheokjaaTph
import Derived.Test.YtofdejoeheokjaaTuc
import Derived.ProofKit
import Derived.OpenShut
import Derived.BigQuiet
namespace Go.Proofs.Ytofdejoeheokjaa.termKeeps
open Go.ChangeShapes Go.WideShapes Go.ChangeAt Go.RowKit
open Go.Lib hiding intOf

structure Bx1 (w W : World) (A : Array Value) : Prop where
  b0 : Blk W w.heap.size 25 A
  below : Below w.heap.size w W
theorem Bx1.step {w W W' : World} {A : Array Value} (h : Bx1 w W A) (hb : Below W.heap.size W W') : Bx1 w W' A :=
  ⟨(hb.block _ h.b0.lt).trans h.b0, h.below.trans (hb.mono h.below.size)⟩
theorem five {w : World} {x : GY} {v : Value} (h : IsY w x v) : ∃ c0 c1 c2 c3 c4 : Value, v = .agg #[c0, c1, c2, c3, c4] := by
  obtain ⟨k, p, m, n, l⟩ := x
  obtain ⟨o, c, rfl, _⟩ := h.parts
  exact ⟨_, _, _, _, _, rfl⟩
/-- A result, in a box of the call's own. -/
structure Got (W : World) (g : Nat) (t : GY) (c0 c1 c2 c3 c4 : Value) : Prop where
  box : Blk W g 25 #[c0, c1, c2, c3, c4]
  is : IsY W t (.agg #[c0, c1, c2, c3, c4])
theorem Got.step {W W' : World} {g : Nat} {t : GY} {c0 c1 c2 c3 c4 : Value} (h : Got W g t c0 c1 c2 c3 c4) (hb : Below W.heap.size W W') : Got W' g t c0 c1 c2 c3 c4 := ⟨(hb.block _ h.box.lt).trans h.box, h.is.below hb⟩
theorem made (W : World) (A : Array Value) : ∃ W', W.alloc (.cells A 25) = W' ∧ Below W.heap.size W W' ∧ Blk W' W.heap.size 25 A := ⟨_, rfl, (Below.refl _ _).alloc (Nat.le_refl _) _, Blk.new W _ _⟩

mutual
theorem fit_sub {q : Nat} {us : List GY} (hu : FitYs q us) : ∀ {t : GY}, FitY q t → FitY q (subY us t)
  | .mk k p m n l, h => by
    rw [subY]
    split
    · rename_i hc
      have hlt : n.toNat < us.length := by omega
      rw [List.getD_eq_getElem?_getD, List.getElem?_eq_getElem hlt]
      exact FitYs.mem hu _ (List.getElem_mem hlt)
    · unfold FitY at h ⊢
      obtain ⟨h1, h2, h3, h4⟩ := h
      exact ⟨h1, h2, by rw [subs_map, List.length_map]; exact h3, fits_sub hu h4⟩
theorem fits_sub {q : Nat} {us : List GY} (hu : FitYs q us) : ∀ {l : List GY}, FitYs q l → FitYs q (subYs us l)
  | [], _ => by rw [subYs]; unfold FitYs; trivial
  | y :: r, h => by
    unfold FitYs at h
    rw [subYs]
    unfold FitYs
    exact ⟨fit_sub hu h.1, fits_sub hu h.2⟩
end


theorem quietB (w : World) (n : Nat) : Below w.heap.size w (w.drewN n) := ⟨rfl, rfl, rfl, Nat.le_refl _, fun _ _ => rfl⟩
theorem IsZ.at_ {W : World} {a : Addr} {L : List Int} {i : Nat} {x : Int} (h : IsZ W (some a) L) (hx : L[i]? = some x) : W.cell? (a.add i) = some (.int .i64 x) := by
  obtain ⟨_, e, hc⟩ := h i x hx
  cases e
  exact hc
/-- The argument's box and the row of parameters. -/
structure Bz (w : World) (A : Array Value) (o : Option Addr) (L : List Int) (W : World) : Prop where
  b : Bx1 w W A
  z : IsZ W o L
theorem Bz.step {w W W' : World} {A : Array Value} {o : Option Addr} {L : List Int} (h : Bz w A o L W) (hb : Below W.heap.size W W') : Bz w A o L W' := ⟨h.b.step hb, h.z.below hb⟩

set_option maxRecDepth 100000 in
set_option maxHeartbeats 8000000 in
theorem walk (t : GY) (va : Value) (us : List GY) (ou : Option Addr) (nu cu : Nat) (w : World) (ha : IsY w t va) (hfa : FitY reachBytes t)
    (hus : IsYs w ou 0 us) (hnu : us.length = nu) (_ : nu ≤ cu) (_ : cu ≤ maxLen) (hfu : FitYs reachBytes us) (_ : nu * 72 ≤ reachBytes) :
    Calls Try.prog 7 #[va, .slice ou nu cu] w fun e w' => e = .returned (.bool true) ∧ Below w.heap.size w w' := by
  have hq : reachBytes ≤ 281474976710656 := by decide
  have hq2 : reachBytes ≤ 9223372036854775807 := by decide
  obtain ⟨a0, a1, a2, a3, a4, rfl⟩ := five ha
  have HNa := Lib.hid (fun W (h : Below w.heap.size w W) => nodes_any _ t _ 0 W (Nat.lt_succ_self _) (ha.below h) (by decide) (by decide))
  have HP1 := Lib.hid (fun W (h : Below w.heap.size w W) => substP_any reachBytes hq us ou nu cu hnu hfu t _ W hfa (ha.below h) (hus.below h))
  have HUS := Lib.hid hus
  have HNU := Lib.hid hnu
  have HA := Lib.hid ha
  have HFA := Lib.hid hfa
  have HFS := Lib.hid (fit_sub hfu hfa)
  have HFU := Lib.hid hfu
  have HQ2 := Lib.hid hq2
  obtain ⟨W1, hW1, hb1, hk1⟩ := made w #[a0, a1, a2, a3, a4]
  have HB : Hid (Bx1 w W1 #[a0, a1, a2, a3, a4]) := ⟨hk1, hb1⟩
  have HW1 := Lib.hid hW1
  have hcnt := nod_cnt t 0
  clear ha hfa hus hnu hfu hW1 hb1 hk1 hq hq2
  go_enter Try.func7, Try.ntmps7
  go_upto_region 1 with fail
  change Code.wp Try.prog _ _ _ (w.alloc (.cells #[a0, a1, a2, a3, a4] 25))
  rw [HW1.out]
  clear HW1
  by_cases hna : 10 ≤ nodY t 0
  · have e0 := decide_eq_true hna
    clear hcnt
    generalize nodY t 0 = na at *
    go_wp2_with (first
      | (refine boxLoad 25 5 size5 Try.underlying25 rfl _ rfl w.heap.size rfl (cs := [a0, a1, a2, a3, a4]) HB.out.b0 rfl ?_)
      | (go_at_call 10; (with_reducible refine (awake_any _).mono ?_); rintro e w2 ⟨rfl, hb⟩; have HB2 := Lib.hid (HB.out.step hb); clear HB hb; have HB := HB2; clear HB2)
      | (go_at_call 11; (with_reducible refine (HNa.out _ HB.out.below).mono ?_); rintro e w2 ⟨rfl, hb⟩; have HB2 := Lib.hid (HB.out.step hb); clear HB hb; have HB := HB2; clear HB2))
    go_ret
    exact ⟨rfl, HB.out.below⟩
  have e0 := decide_eq_false hna
  have HCN : Hid (cntY t ≤ 9) := by have := hcnt (by omega); show _ ≤ _; omega
  clear hcnt
  generalize nodY t 0 = na at *
  by_cases hn8 : 16 < nu
  · have hn8' : (16 : Int) < (nu : Int) := by omega
    go_wp2_with (first
      | (refine boxLoad 25 5 size5 Try.underlying25 rfl _ rfl w.heap.size rfl (cs := [a0, a1, a2, a3, a4]) HB.out.b0 rfl ?_)
      | (go_at_call 10; (with_reducible refine (awake_any _).mono ?_); rintro e w2 ⟨rfl, hb⟩; have HB2 := Lib.hid (HB.out.step hb); clear HB hb; have HB := HB2; clear HB2)
      | (go_at_call 11; (with_reducible refine (HNa.out _ HB.out.below).mono ?_); rintro e w2 ⟨rfl, hb⟩; have HB2 := Lib.hid (HB.out.step hb); clear HB hb; have HB := HB2; clear HB2))
    go_ret
    exact ⟨rfl, HB.out.below⟩
  have hn8' : ¬ (16 : Int) < (nu : Int) := by omega
  obtain ⟨c0, hc0⟩ : ∃ c, chkY okN 0 t = c := ⟨_, rfl⟩
  have HCK : Hid (∀ W, Below w.heap.size w W → _) := fun W h => checkP_any t (Nat.le_trans HCN.out (by decide)) reachBytes HQ2.out HFA.out _ W (HA.out.below h)
  rw [hc0] at HCK
  have HC0 := Lib.hid hc0
  clear hc0
  go_wp2_with (first
    | (refine boxLoad 25 5 size5 Try.underlying25 rfl _ rfl w.heap.size rfl (cs := [a0, a1, a2, a3, a4]) HB.out.b0 rfl ?_)
    | (go_at_call 10; (with_reducible refine (awake_any _).mono ?_); rintro e w2 ⟨rfl, hb⟩; have HB2 := Lib.hid (HB.out.step hb); clear HB hb; have HB := HB2; clear HB2)
    | (go_at_call 11; (with_reducible refine (HNa.out _ HB.out.below).mono ?_); rintro e w2 ⟨rfl, hb⟩; have HB2 := Lib.hid (HB.out.step hb); clear HB hb; have HB := HB2; clear HB2)
    | (go_at_call 15; (with_reducible refine (HCK.out _ HB.out.below).mono ?_); rintro e w2 ⟨rfl, hb⟩; have HB2 := Lib.hid (HB.out.step hb); clear HB hb; have HB := HB2; clear HB2))
  clear HNa e0 hna HCK
  go_loopw [6, 7] (fun v i wr => ∃ (b : Bool) (j : Nat), v = .bool b ∧ i = .int .i64 (j : Nat) ∧ Hid (j ≤ nu) ∧ Hid (Bx1 w wr #[a0, a1, a2, a3, a4]) ∧ Hid (b = true → chkY okN 0 t = true ∧ ∀ (i : Nat) (u : GY), i < j → us[i]? = some u → cntY u ≤ 9 ∧ chkY okN 0 u = true)) (fun _ i _ => nu - (RowKit.intOf i).toNat)
  case atStart => exact ⟨c0, 0, rfl, rfl, Nat.zero_le _, HB, fun h => ⟨HC0.out.trans h, by intro i u hi; omega⟩⟩
  case round =>
    obtain ⟨b, j, rfl, rfl, HJ, HBR, HALL⟩ := hrel
    clear HB
    cases b
    · by_cases hj : j < nu
      · have hj' : ((j : Int) < (nu : Int)) := by omega
        go_wp2
        go_ret
        exact ⟨rfl, HBR.out.below⟩
      · have hj' : ¬ ((j : Int) < (nu : Int)) := by omega
        go_wp2
        go_ret
        exact ⟨rfl, HBR.out.below⟩
    by_cases hj : j < nu
    · have hj' : ((j : Int) < (nu : Int)) := by omega
      have hj0 : (0 : Int) ≤ (j : Int) := by omega
      have hwj := IntWalk.i64_in ((j : Int) + 1) ⟨by omega, by omega⟩
      obtain ⟨x, hx⟩ : ∃ x, us[j]? = some x := ⟨_, List.getElem?_eq_getElem (by rw [HNU.out]; exact hj)⟩
      have hmem := List.mem_of_getElem? hx
      obtain ⟨a, d0, d1, d2, d3, d4, rfl, hcx, hyx⟩ := HUS.out.at_ j hx
      rw [Nat.zero_add] at hcx
      have hwr := HBR.out.below
      have HC : Hid (∀ (i : Nat) (v : Value), [d0, d1, d2, d3, d4][i]? = some v → wr.cell? ((a.add (j * 5)).add i) = some v) := fun i v h => (hwr.cell (World.block_lt_of_cell? _ _ (hcx i v h))).trans (hcx i v h)
      have HCW : Hid (∀ W, Below wr.heap.size wr W → ∀ (i : Nat) (v : Value), [d0, d1, d2, d3, d4][i]? = some v → W.cell? ((a.add (j * 5)).add i) = some v) := fun W hW i v h => (hW.cell (World.block_lt_of_cell? _ _ (HC.out i v h))).trans (HC.out i v h)
      have HF := Lib.hid (nodes_any _ x _ 0 wr (Nat.lt_succ_self _) (hyx.below hwr) (by decide) (by decide))
      have HYX := Lib.hid hyx
      have HXX := Lib.hid hx
      have hcn := nod_cnt x 0
      have HFX := Lib.hid (FitYs.mem HFU.out x hmem)
      clear hcx hyx hwr hx hmem
      generalize nodY x 0 = nx at *
      by_cases hx2 : nx < 10
      · have e0 := decide_eq_true hx2
        have HCX : Hid (cntY x ≤ 9) := by have := hcn (by omega); show _ ≤ _; omega
        clear hcn
        obtain ⟨c1, hc1⟩ : ∃ c, chkY okN 0 x = c := ⟨_, rfl⟩
        have HCK : Hid (∀ W, Below w.heap.size w W → _) := fun W h => checkP_any x (Nat.le_trans HCX.out (by decide)) reachBytes HQ2.out HFX.out _ W (HYX.out.below h)
        rw [hc1] at HCK
        have HC1 := Lib.hid hc1
        clear hc1
        go_wp2_with (first
          | (refine boxLoadG 25 5 size5 Try.underlying25 rfl _ rfl _ rfl (cs := [d0, d1, d2, d3, d4]) HC.out rfl ?_)
          | (go_at_call 11; (with_reducible refine HF.out.mono ?_); rintro e w2 ⟨rfl, hb⟩; have HB2 := Lib.hid (HBR.out.step hb); have f0 : w2.cell? (a.add (j * 5)) = some d0 := HCW.out _ hb 0 d0 rfl; have f1 : w2.cell? { block := (a.add (j * 5)).block, off := (a.add (j * 5)).off + 1 } = some d1 := HCW.out _ hb 1 d1 rfl; have f2 : w2.cell? { block := (a.add (j * 5)).block, off := (a.add (j * 5)).off + 2 } = some d2 := HCW.out _ hb 2 d2 rfl; have f3 : w2.cell? { block := (a.add (j * 5)).block, off := (a.add (j * 5)).off + 3 } = some d3 := HCW.out _ hb 3 d3 rfl; have f4 : w2.cell? { block := (a.add (j * 5)).block, off := (a.add (j * 5)).off + 4 } = some d4 := HCW.out _ hb 4 d4 rfl; clear hb)
          | (go_at_call 15; (with_reducible refine (HCK.out _ HB2.out.below).mono ?_); rintro e w3 ⟨rfl, hb⟩; have HB3 := Lib.hid (HB2.out.step hb); clear hb f0 f1 f2 f3 f4))
        case roundEnd =>
          exact ⟨⟨c1, j + 1, rfl, by push_cast; rfl, hj, HB3, fun h => ⟨(HALL.out (by trivial)).1, fun i y hi hy => by
            by_cases hij : i = j
            · subst hij
              rw [HXX.out] at hy
              injection hy with hy
              subst hy
              exact ⟨HCX.out, HC1.out.trans h⟩
            · exact (HALL.out (by trivial)).2 i y (by omega) hy⟩⟩, by simp [RowKit.intOf]; omega⟩
      · have e0 := decide_eq_false hx2
        go_wp2_with (first
          | (refine boxLoadG 25 5 size5 Try.underlying25 rfl _ rfl _ rfl (cs := [d0, d1, d2, d3, d4]) HC.out rfl ?_)
          | (go_at_call 11; (with_reducible refine HF.out.mono ?_); rintro e w2 ⟨rfl, hb⟩; have HB2 := Lib.hid (HBR.out.step hb); clear hb))
        case roundEnd => exact ⟨⟨false, j + 1, rfl, by push_cast; rfl, hj, HB2, fun h => by cases h⟩, by simp [RowKit.intOf]; omega⟩
    · have hj' : ¬ ((j : Int) < (nu : Int)) := by omega
      have hjn := HJ.out
      have hje : j = nu := by omega
      have hT := (HALL.out (by trivial)).1
      have hU : ∀ u ∈ us, cntY u ≤ 9 ∧ chkY okN 0 u = true := fun u hu => by
        obtain ⟨i, hi, e⟩ := List.getElem_of_mem hu
        exact (HALL.out (by trivial)).2 i u (by rw [hje, ← HNU.out]; exact hi) (by rw [List.getElem?_eq_getElem hi, e])
      have hS := chk_sub okN (us := us) (fun u hu => (hU u hu).2) (m := 8) (fun u hu => by have := (chk_lis okN (hU u hu).2).1; have := (hU u hu).1; omega) (d := 0) hT (by have := (chk_lis okN hT).1; have := HCN.out; omega)
      have HU := Lib.hid hU
      have HSB := Lib.hid hS
      have HCS : Hid (cntY (subY us t) ≤ 1000) := by
        have h1 := (chk_lis okN hS.1).1
        have h2 := (chk_lis okN hT).1
        have h3 := HCN.out
        have h4 := hS.2.1
        show _ ≤ _
        omega
      have HCK : Hid (∀ W v, IsY W (subY us t) v → Calls Try.prog 15 #[v] W fun e w' => e = .returned (.bool true) ∧ Below W.heap.size W w') := fun W v hv => by
        have h := checkP_any (subY us t) HCS.out reachBytes HQ2.out HFS.out v W hv
        rw [hS.1] at h
        exact h
      have HPS : Hid (∀ W v, IsY W (subY us t) v → _) := fun W v hv => paramsP_any (subY us t) HCS.out v W hv
      have HPT : Hid (∀ W, Below w.heap.size w W → _) := fun W h => paramsP_any t (Nat.le_trans HCN.out (by decide)) _ W (HA.out.below h)
      clear HALL HJ hjn hT hU hS hje
      go_wp2_with (first
        | (refine boxLoad 25 5 size5 Try.underlying25 rfl _ rfl w.heap.size rfl (cs := [a0, a1, a2, a3, a4]) HBR.out.b0 rfl ?_)
        | (refine boxLoad 25 5 size5 Try.underlying25 rfl _ rfl w6.heap.size rfl (cs := [h0, h1, h2, h3, h4]) HG.out.box rfl ?_)
        | (go_at_call 24; refine (HP1.out _ HBR.out.below).mono ?_; rintro e w6 ⟨u6, rfl, hu, hb⟩; obtain ⟨h0, h1, h2, h3, h4, rfl, ho⟩ := hu.cells; obtain ⟨X6, hX6, hbX, hkX⟩ := made w6 #[h0, h1, h2, h3, h4]; have HG : Hid (Got X6 w6.heap.size (subY us t) h0 h1 h2 h3 h4) := ⟨hkX, hu.toY.below hbX⟩; have HBN := Lib.hid ((HBR.out.step hb).step hbX); clear HBR; have HBR := HBN; have HX6 := Lib.hid hX6; have HO6 := Lib.hid ho; clear hu hb hX6 hbX hkX ho HBN)
        | (refine boxNewAt 25 5 size5 rfl _ _ rfl _ rfl rfl [h0, h1, h2, h3, h4] rfl rfl rfl HO6.out ?_; change wpList _ _ _ _ _ (_root_.Go.World.alloc _ (.cells #[h0, h1, h2, h3, h4] 25)); rw [HX6.out])
        | (go_at_call 15; (with_reducible refine (HCK.out _ _ HG.out.is).mono ?_); rintro e w7 ⟨rfl, hb⟩; have HBN := Lib.hid (HBR.out.step hb); clear HBR; have HBR := HBN; have HGN := Lib.hid (HG.out.step hb); clear HG; have HG := HGN; clear hb HBN HGN)
        | (go_at_call 13; refine (HPS.out _ _ HG.out.is).mono ?_; rintro e w8 ⟨L, ol, nl, cl, rfl, hL, hl2, hp, hz, hb⟩; have HB8 := Lib.hid (HBR.out.step hb); clear HBR; have HNL := Lib.hid hL; have HNL2 := Lib.hid hl2; have HPI := Lib.hid hp; have HBZ : Hid (Bz w #[a0, a1, a2, a3, a4] ol L w8) := ⟨HB8.out, hz⟩; clear hb hL hl2 hp hz HB8 HG))
      clear HCK HPS HP1 HCS HFS HFA
      go_loopw [12] (fun i wr2 => ∃ j : Nat, i = .int .i64 (j : Nat) ∧ Hid (j ≤ nl) ∧ Hid (Bz w #[a0, a1, a2, a3, a4] ol L wr2)) (fun i _ => nl - (RowKit.intOf i).toNat)
      case atStart => exact ⟨0, rfl, Nat.zero_le _, HBZ⟩
      case round =>
        obtain ⟨j2, rfl, HJ2, HBZ2⟩ := hrel
        clear HBZ
        by_cases hj2 : j2 < nl
        · have hj2' : ((j2 : Int) < (nl : Int)) := by omega
          have hj20 : (0 : Int) ≤ (j2 : Int) := by omega
          have hwj2 := IntWalk.i64_in ((j2 : Int) + 1) ⟨by omega, by have := HNL2.out; omega⟩
          obtain ⟨x, hx⟩ : ∃ x, L[j2]? = some x := ⟨_, List.getElem?_eq_getElem (by rw [HNL.out]; exact hj2)⟩
          obtain ⟨ax, rfl, _⟩ := HBZ2.out.z j2 x hx
          have HXX := Lib.hid hx
          have HFR : Hid ((hasY x t ∧ (nu : Int) ≤ x) ∨ ∃ u ∈ us, hasY x u) := by
            have h := HSB.out.2.2 x ((HPI.out.is x).1 (List.mem_of_getElem? hx))
            rw [HNU.out] at h
            exact h
          clear hx
          go_wp2_with (first
            | (refine boxLoad 25 5 size5 Try.underlying25 rfl _ rfl w.heap.size rfl (cs := [a0, a1, a2, a3, a4]) HBZ2.out.b.b0 rfl ?_)
            | (go_at_call 13; refine (HPT.out _ HBZ2.out.b.below).mono ?_; rintro e w9 ⟨L1, o1, n1, c1, rfl, hL, hl2, hp, hz, hb⟩; have HBN := Lib.hid (HBZ2.out.step hb); clear HBZ2; have HBZ2 := HBN; have HNL1 := Lib.hid hL; have HNL12 := Lib.hid hl2; have HPI1 := Lib.hid hp; have HZ1 := Lib.hid hz; clear hb hL hl2 hp hz HBN))
          go_loopw [13, 15] (fun v i wr3 => ∃ (b : Bool) (j : Nat), v = .bool b ∧ i = .int .i64 (j : Nat) ∧ Hid (j ≤ n1) ∧ Hid (Bz w #[a0, a1, a2, a3, a4] (some ax) L wr3) ∧ Hid (IsZ wr3 o1 L1) ∧ Hid (∀ i, i < j → L1[i]? = some x → (nu : Int) ≤ x → b = true)) (fun _ i _ => n1 - (RowKit.intOf i).toNat)
          case atStart => exact ⟨false, 0, rfl, rfl, Nat.zero_le _, HBZ2, HZ1, by intro i hi; omega⟩
          case round =>
            obtain ⟨b, j3, rfl, rfl, HJ3, HBZ3, HZ3, HF3⟩ := hrel
            clear HBZ2 HZ1
            by_cases hj3 : j3 < n1
            · have hj3' : ((j3 : Int) < (n1 : Int)) := by omega
              have hj30 : (0 : Int) ≤ (j3 : Int) := by omega
              have hwj3 := IntWalk.i64_in ((j3 : Int) + 1) ⟨by omega, by have := HNL12.out; omega⟩
              obtain ⟨y, hy⟩ : ∃ y, L1[j3]? = some y := ⟨_, List.getElem?_eq_getElem (by rw [HNL1.out]; exact hj3)⟩
              obtain ⟨ay, rfl, hcy⟩ := HZ3.out j3 y hy
              have hcx := IsZ.at_ HBZ3.out.z HXX.out
              have HYY := Lib.hid hy
              have HJN := Lib.hid hj3
              clear hy
              cases b
              · by_cases hxy : y = x
                · have d0 : decide (y = x) = true := decide_eq_true hxy
                  have d0' : (y == x) = true := by simpa using hxy
                  by_cases hge : (nu : Int) ≤ y
                  · have d1 : decide ((nu : Int) ≤ y) = true := decide_eq_true hge
                    clear hxy hge hj2 hj3
                    go_wp2_with fail
                    go_quiet (fail)
                    go_wp2
                    case roundEnd => exact ⟨⟨true, j3 + 1, rfl, by push_cast; rfl, HJN.out, HBZ3.out.step (quietB _ _), HZ3.out.below (quietB _ _), fun _ _ _ _ => rfl⟩, by have := HJN.out; simp [RowKit.intOf]; omega⟩
                  · have d1 : decide ((nu : Int) ≤ y) = false := decide_eq_false hge
                    have HN : Hid (∀ i, i < j3 + 1 → L1[i]? = some x → (nu : Int) ≤ x → false = true) := fun i hi hx hn => by
                      rw [hxy] at hge
                      exact absurd hn hge
                    clear hxy hge hj2 hj3
                    go_wp2_with fail
                    go_quiet (fail)
                    go_wp2
                    case roundEnd => exact ⟨⟨false, j3 + 1, rfl, by push_cast; rfl, HJN.out, HBZ3.out.step (quietB _ _), HZ3.out.below (quietB _ _), HN⟩, by have := HJN.out; simp [RowKit.intOf]; omega⟩
                · 
                  have d0 : decide (y = x) = false := decide_eq_false hxy
                  have d0' : (y == x) = false := by simpa using hxy
                  have HN : Hid (∀ i, i < j3 + 1 → L1[i]? = some x → (nu : Int) ≤ x → false = true) := fun i hi hx hn => by
                    by_cases hij : i = j3
                    · subst hij
                      rw [HYY.out] at hx
                      injection hx with hx
                      exact absurd hx hxy
                    · exact HF3.out i (by omega) hx hn
                  clear hxy hj2 hj3
                  go_wp2_with fail
                  go_quiet (fail)
                  go_wp2
                  case roundEnd => exact ⟨⟨false, j3 + 1, rfl, by push_cast; rfl, HJN.out, HBZ3.out.step (quietB _ _), HZ3.out.below (quietB _ _), HN⟩, by have := HJN.out; simp [RowKit.intOf]; omega⟩
              · clear hj2 hj3
                go_wp2_with fail
                go_quiet (fail)
                go_wp2
                case roundEnd => exact ⟨⟨true, j3 + 1, rfl, by push_cast; rfl, HJN.out, HBZ3.out.step (quietB _ _), HZ3.out.below (quietB _ _), fun _ _ _ _ => rfl⟩, by have := HJN.out; simp [RowKit.intOf]; omega⟩
            · have hj3' : ¬ ((j3 : Int) < (n1 : Int)) := by omega
              have HBASE : Hid (hasY x t → (nu : Int) ≤ x → b = true) := fun h1 h2 => by
                obtain ⟨i, hi, e⟩ := List.getElem_of_mem ((HPI1.out.is x).2 h1)
                exact HF3.out i (by have := HNL1.out; have := HJ3.out; omega) (by rw [List.getElem?_eq_getElem hi, e]) h2
              clear HF3 HJ3 HZ3 hj3 HPI1
              go_wp2
              go_loopw [13, 16] (fun v i wr4 => ∃ (b : Bool) (j : Nat), v = .bool b ∧ i = .int .i64 (j : Nat) ∧ Hid (j ≤ nu) ∧ Hid (Bz w #[a0, a1, a2, a3, a4] (some ax) L wr4) ∧ Hid (hasY x t → (nu : Int) ≤ x → b = true) ∧ Hid (∀ (i : Nat) (u : GY), i < j → us[i]? = some u → hasY x u → b = true)) (fun _ i _ => nu - (RowKit.intOf i).toNat)
              case atStart => exact ⟨b, 0, rfl, rfl, Nat.zero_le _, HBZ3, HBASE, by intro i u hi; omega⟩
              case round =>
                clear HBASE HBZ3
                obtain ⟨b, j4, rfl, rfl, HJ4, HBZ4, HBASE, HF4⟩ := hrel
                by_cases hj4 : j4 < nu
                · have hj4' : ((j4 : Int) < (nu : Int)) := by omega
                  have hj40 : (0 : Int) ≤ (j4 : Int) := by omega
                  have hwj4 := IntWalk.i64_in ((j4 : Int) + 1) ⟨by omega, by omega⟩
                  obtain ⟨u, hu⟩ : ∃ u, us[j4]? = some u := ⟨_, List.getElem?_eq_getElem (by rw [HNU.out]; exact hj4)⟩
                  have hmem := List.mem_of_getElem? hu
                  obtain ⟨a, d0, d1, d2, d3, d4, rfl, hcx, hyx⟩ := HUS.out.at_ j4 hu
                  rw [Nat.zero_add] at hcx
                  have hwr := HBZ4.out.b.below
                  have HC : Hid (∀ (i : Nat) (v : Value), [d0, d1, d2, d3, d4][i]? = some v → wr.cell? ((a.add (j4 * 5)).add i) = some v) := fun i v h => (hwr.cell (World.block_lt_of_cell? _ _ (hcx i v h))).trans (hcx i v h)
                  have HPU := Lib.hid (paramsP_any u (Nat.le_trans (HU.out u hmem).1 (by decide)) _ wr (hyx.below hwr))
                  have HUU := Lib.hid hu
                  have HJN4 := Lib.hid hj4
                  clear hcx hyx hwr hu hmem
                  go_wp2_with (first
                    | (refine boxLoadG 25 5 size5 Try.underlying25 rfl _ rfl _ rfl (cs := [d0, d1, d2, d3, d4]) HC.out rfl ?_)
                    | (go_at_call 13; refine HPU.out.mono ?_; rintro e w10 ⟨L5, o5, n5, c5, rfl, hL, hl2, hp, hz, hb⟩; have HBN := Lib.hid (HBZ4.out.step hb); clear HBZ4; have HBZ4 := HBN; have HNL5 := Lib.hid hL; have HNL52 := Lib.hid hl2; have HPI5 := Lib.hid hp; have HZ5 := Lib.hid hz; clear hb hL hl2 hp hz HBN))
                  clear HPU HC
                  go_loopw [13, 18] (fun v i wr5 => ∃ (b5 : Bool) (j : Nat), v = .bool b5 ∧ i = .int .i64 (j : Nat) ∧ Hid (j ≤ n5) ∧ Hid (Bz w #[a0, a1, a2, a3, a4] (some ax) L wr5) ∧ Hid (IsZ wr5 o5 L5) ∧ Hid (b = true → b5 = true) ∧ Hid (∀ i, i < j → L5[i]? = some x → b5 = true)) (fun _ i _ => n5 - (RowKit.intOf i).toNat)
                  case atStart => exact ⟨b, 0, rfl, rfl, Nat.zero_le _, HBZ4, HZ5, fun h => h, by intro i hi; omega⟩
                  case round =>
                    obtain ⟨b5, j5, rfl, rfl, HJ5, HBZ5, HZ6, HBB, HF5⟩ := hrel
                    clear HBZ4 HZ5
                    by_cases hj5 : j5 < n5
                    · have hj5' : ((j5 : Int) < (n5 : Int)) := by omega
                      have hj50 : (0 : Int) ≤ (j5 : Int) := by omega
                      have hwj5 := IntWalk.i64_in ((j5 : Int) + 1) ⟨by omega, by have := HNL52.out; omega⟩
                      obtain ⟨y, hy⟩ : ∃ y, L5[j5]? = some y := ⟨_, List.getElem?_eq_getElem (by rw [HNL5.out]; exact hj5)⟩
                      obtain ⟨ay, rfl, hcy⟩ := HZ6.out j5 y hy
                      have hcx := IsZ.at_ HBZ5.out.z HXX.out
                      have HYY := Lib.hid hy
                      have HJN := Lib.hid hj5
                      clear hy
                      cases b5
                      · by_cases hxy : y = x
                        · have d0 : decide (y = x) = true := decide_eq_true hxy
                          have d0' : (y == x) = true := by simpa using hxy
                          clear hxy hj2 hj4 hj5
                          go_wp2_with fail
                          go_quiet (fail)
                          go_wp2
                          case roundEnd => exact ⟨⟨true, j5 + 1, rfl, by push_cast; rfl, HJN.out, HBZ5.out.step (quietB _ _), HZ6.out.below (quietB _ _), fun _ => rfl, fun _ _ _ => rfl⟩, by have := HJN.out; simp [RowKit.intOf]; omega⟩
                        · have d0 : decide (y = x) = false := decide_eq_false hxy
                          have d0' : (y == x) = false := by simpa using hxy
                          have HN : Hid (∀ i, i < j5 + 1 → L5[i]? = some x → false = true) := fun i hi hx => by
                            by_cases hij : i = j5
                            · subst hij
                              rw [HYY.out] at hx
                              injection hx with hx
                              exact absurd hx hxy
                            · exact HF5.out i (by omega) hx
                          clear hxy hj2 hj4 hj5
                          go_wp2_with fail
                          go_quiet (fail)
                          go_wp2
                          case roundEnd => exact ⟨⟨false, j5 + 1, rfl, by push_cast; rfl, HJN.out, HBZ5.out.step (quietB _ _), HZ6.out.below (quietB _ _), HBB, HN⟩, by have := HJN.out; simp [RowKit.intOf]; omega⟩
                      · clear hj2 hj4 hj5
                        go_wp2_with fail
                        go_quiet (fail)
                        go_wp2
                        case roundEnd => exact ⟨⟨true, j5 + 1, rfl, by push_cast; rfl, HJN.out, HBZ5.out.step (quietB _ _), HZ6.out.below (quietB _ _), fun _ => rfl, fun _ _ _ => rfl⟩, by have := HJN.out; simp [RowKit.intOf]; omega⟩
                    · have hj5' : ¬ ((j5 : Int) < (n5 : Int)) := by omega
                      have HN4 : Hid (∀ (i : Nat) (u : GY), i < j4 + 1 → us[i]? = some u → hasY x u → b5 = true) := fun i z hi hz hh => by
                        by_cases hij : i = j4
                        · subst hij
                          rw [HUU.out] at hz
                          injection hz with hz
                          subst hz
                          obtain ⟨k, hk, e⟩ := List.getElem_of_mem ((HPI5.out.is x).2 hh)
                          exact HF5.out k (by have := HNL5.out; have := HJ5.out; omega) (by rw [List.getElem?_eq_getElem hk, e])
                        · exact HBB.out (HF4.out i z (by omega) hz hh)
                      clear hj5
                      go_wp2
                      case roundEnd => exact ⟨⟨b5, j4 + 1, rfl, by push_cast; rfl, HJN4.out, HBZ5, fun h1 h2 => HBB.out (HBASE.out h1 h2), HN4⟩, by have := HJN4.out; simp [RowKit.intOf]; omega⟩
                · have hj4' : ¬ ((j4 : Int) < (nu : Int)) := by omega
                  have hb : b = true := by
                    rcases HFR.out with ⟨h1, h2⟩ | ⟨u, hu, h⟩
                    · exact HBASE.out h1 h2
                    · obtain ⟨i, hi, e⟩ := List.getElem_of_mem hu
                      exact HF4.out i u (by have := HNU.out; have := HJ4.out; omega) (by rw [List.getElem?_eq_getElem hi, e]) h
                  subst hb
                  have HJN2 := Lib.hid hj2
                  clear hj4 hj2
                  go_wp2
                  case roundEnd => exact ⟨⟨j2 + 1, by push_cast; rfl, HJN2.out, HBZ4⟩, by have := HJN2.out; simp [RowKit.intOf]; omega⟩
        · have hj2' : ¬ ((j2 : Int) < (nl : Int)) := by omega
          go_wp2
          go_ret
          exact ⟨rfl, HBZ2.out.b.below⟩

theorem laidOut : laidOutB Try.prog = true := by kernel_rfl
theorem own : ownKnob Try.prog.godebug = none := by kernel_rfl

theorem int_range {n : Int} (h : (Lit.int .i64 n).wf = true) : -9223372036854775808 ≤ n ∧ n ≤ 9223372036854775807 := by
  have h2 : IntKind.i64.min ≤ n ∧ n ≤ IntKind.i64.max := by
    unfold Lit.wf at h
    simpa only [Bool.and_eq_true, decide_eq_true_eq] using h
  rw [show IntKind.i64.min = -9223372036854775808 by decide, show IntKind.i64.max = 9223372036854775807 by decide] at h2
  exact h2

set_option maxRecDepth 100000 in
theorem lifted (os : Os) (started : os.Started) (H : Type) (enc : TypeId × Value → H) :
    ReturnsInHanded {} Try.checked os 7 .any (Rows.termKeepsSpec.pre6 enc Try.prog Try.f7 Rows.termKeepsRow.domain false) (Rows.termKeepsSpec.post enc Try.prog Try.f7 false true false false) := by
  refine returnsInHanded_of_change_sized (C := Try.checked) own started (by kernel_rfl) Try.func7
    (ChangeSpec.witness6 (enc := enc) (C := Try.checked) false ⟨#[], #[.agg #[.int .i64 0, .string .empty, .string .empty, .int .i64 0, .slice none 0 0], .slice none 0 0], []⟩ 8 (by kernel_rfl) (by kernel_rfl) (by kernel_rfl) (by kernel_rfl)) ?_
  intro W base args ds gs before hval0 hW hcnd hsz _
  have hval : ∀ (j : Nat) t v, Try.f7.params[j]? = some t → args[j]? = some v → Value.okWide Try.prog W .any base t v := hval0
  have hW' := hW
  obtain ⟨p, q, hA0, hV, rfl, hfz, hnd⟩ := hW
  have hA : DataW.TrodAll enc Try.prog W 0 (fun _ => true) true Try.f7.params.toList args.toList ds p := hA0
  rw [Try.params7] at hA hval
  obtain ⟨v0, vs0, d0, ds0, p0, q0, hargs, rfl, rfl, h0, r0⟩ := trodAll_cons hA
  obtain ⟨v1, vs1, d1, ds1, p1, q1, rfl, rfl, rfl, h1, r1⟩ := trodAll_cons r0
  obtain ⟨rfl, rfl, rfl⟩ := trodAll_nil r1
  obtain rfl : args = #[v0, v1] := by cases args; simp_all
  obtain ⟨rfl, rfl⟩ := trodVars_none hV
  have t0 := h0
  obtain ⟨fl0, k0⟩ := h0
  have lt0 : ∀ x ∈ p0, x.block < W.heap.size := fun x hx => by simpa using hW'.lt x (by simp [hx])
  obtain ⟨cc0, rfl, _⟩ := okWide_struct Try.underlying25 (hval 0 25 v0 rfl rfl)
  have kk0 : DataW.trod enc Try.prog W 0 (fun _ => true) true fl0 25 cc0.toList = some (d0, p0) := k0
  obtain ⟨y0, g0, s0⟩ := open_y fl0 _ _ kk0
  have m0 := s0 reachBytes (fun k hk => by simpa using List.all_eq_true.1 hsz k (DataW.weights_mem_each (j := 0) rfl rfl k hk))
  rw [show cc0.toList.toArray = cc0 by simp] at g0
  have t1 := h1
  obtain ⟨fl1, k1⟩ := h1
  have lt1 : ∀ x ∈ p1, x.block < W.heap.size := fun x hx => by simpa using hW'.lt x (by simp [hx])
  obtain ⟨oo1, ll1, cc1, rfl⟩ := okWide_slice Try.underlying23 (hval 1 23 v1 rfl rfl)
  have kk1 : DataW.trod enc Try.prog W 0 (fun _ => true) true fl1 23 [.slice oo1 ll1 cc1] = some (d1, p1) := k1
  obtain ⟨o1, l1, c1, e1, lc1, cm1, g1, s1⟩ := open_ys kk1
  simp only [List.cons.injEq, and_true, Value.slice.injEq] at e1
  obtain ⟨rfl, rfl, rfl⟩ := e1
  have m1 := s1 reachBytes (fun k hk => by simpa using List.all_eq_true.1 hsz k (DataW.weights_mem_each (j := 1) rfl rfl k hk))
  clear hA0 hval0
  simp only [List.append_nil] at hW'
  refine (walk y0 _ l1 oo1 l1.length cc1 W g0 m0 g1 rfl lc1 cm1 m1.1 m1.2).mono fun e W' ⟨he, hg⟩ => ?_
  subst he
  exact ⟨_, rfl, _, _, _, [], _, [], hW', (trodAll_cons_mk (shut_bool Try.underlying4 _) trodAll_mk0), (trodAll_cons_mk (Below.trod laidOut (by kernel_rfl) (of_decide_eq_true (by kernel_rfl)) t0 hg lt0) (trodAll_cons_mk (Below.trod laidOut (by kernel_rfl) (of_decide_eq_true (by kernel_rfl)) t1 hg lt1) trodAll_mk0)), rfl, hg.frame _, fun h => by cases h⟩

theorem over : Rows.termKeepsRow.holds Try.pinned (OpenSpec.ofChange Rows.termKeepsSpec) :=
  OpenClaim.holds_of_wide 7 Try.f7 rfl rfl rfl rfl rfl rfl rfl ⟨rfl, rfl, rfl, rfl, rfl⟩ rfl rfl rfl rfl rfl (by kernel_rfl) Try.func7 (by kernel_rfl)
    (of_decide_eq_true (by kernel_rfl)) (by unfold Func.isWrapper; first | (rw [if_pos (by decide +kernel)]; kernel_rfl) | (rw [if_neg (by decide +kernel)]; exact ⟨rfl, rfl⟩))
    (fun os started H enc _ => lifted os started H enc)

/-- TermKeeps answers true. -/
theorem proved : Rows.TermKeepsSaid :=
  over

end Go.Proofs.Ytofdejoeheokjaa.termKeeps
