/-
  The walk of 'list', out of what it calls. Condition: the parser lies in memory as said.
-/
import Derived.Test.YtoppknnjnfgbiaaPsr
namespace Go.Proofs.Ytoppknnjnfgbiaa
open Go.RowKit
open Go.Lib hiding intOf

def consE (y : EX) : EO (List EX) → EO (List EX)
  | .ok ys q => .ok (y :: ys) q
  | .err p c => .err p c
  | .out => .out
/-- Behind an expression of a list. -/
def aft (l : List TZ) (f : Nat) (z : UInt8) (d : Nat) (j : Int) : EO (List EX) :=
  if isS (tkAt l j) 44 then items l f z d (j + 1) else if isS (tkAt l j) z then .ok [] (j + 1) else .err (tkAt l j).pos 5
theorem items_ok {l : List TZ} {f : Nat} {z : UInt8} {d : Nat} {j : Int} {y : EX} {q : Int} (h : ex l f 1 (d + 1) j = .ok y q) : items l (f + 1) z d j = consE y (aft l f z d q) := by
  rw [items, h]
  unfold aft
  simp only []
  split
  · cases items l f z d (q + 1) <;> rfl
  · split <;> rfl
theorem items_err {l : List TZ} {f : Nat} {z : UInt8} {d : Nat} {j : Int} {p k : Int} (h : ex l f 1 (d + 1) j = .err p k) : items l (f + 1) z d j = .err p k := by
  rw [items, h]
theorem items_out {l : List TZ} {f : Nat} {z : UInt8} {d : Nat} {j : Int} (h : ex l f 1 (d + 1) j = .out) : items l (f + 1) z d j = .out := by
  rw [items, h]
def pre (ys : List EX) : EO (List EX) → EO (List EX)
  | .ok zs q => .ok (ys ++ zs) q
  | .err p c => .err p c
  | .out => .out
theorem pre_cons (ys : List EX) (y : EX) (r : EO (List EX)) : pre ys (consE y r) = pre (ys ++ [y]) r := by
  cases r <;> simp [pre, consE]
theorem pre_nil (r : EO (List EX)) : pre [] r = r := by cases r <;> rfl

/-- What is still to come, some having been read. -/
def rest (l : List TZ) (f : Nat) (z : UInt8) (d : Nat) (ys : List EX) (j : Int) : EO (List EX) :=
  if ys = [] then (if isS (tkAt l j) z then .ok [] (j + 1) else items l f z d j) else aft l f z d j

theorem isS_two {t : TZ} {x y : UInt8} (h : isS t x = true) (hxy : x ≠ y) : isS t y = false := by
  unfold isS at h ⊢
  simp only [Bool.and_eq_true, decide_eq_true_eq] at h
  rw [h.2, decide_eq_false (p := [x] = [y]) (fun e => hxy (by injection e)), Bool.and_false]
theorem rest_shut {l : List TZ} {f : Nat} {z : UInt8} {d : Nat} {ys : List EX} {j : Int} (hz : z ≠ 44) (h : isS (tkAt l j) z = true) : rest l f z d ys j = .ok [] (j + 1) := by
  unfold rest
  by_cases hy : ys = []
  · rw [if_pos hy, if_pos h]
  · rw [if_neg hy]
    unfold aft
    rw [if_neg (by rw [isS_two h hz]; decide), if_pos h]
theorem rest_nil {l : List TZ} {f : Nat} {z : UInt8} {d : Nat} {j : Int} (h : isS (tkAt l j) z = false) : rest l f z d [] j = items l f z d j := by
  unfold rest
  rw [if_pos rfl, if_neg (by rw [h]; decide)]
theorem rest_more {l : List TZ} {f : Nat} {z : UInt8} {d : Nat} {ys : List EX} {j : Int} (hy : ys ≠ []) (h : isS (tkAt l j) 44 = true) : rest l f z d ys j = items l f z d (j + 1) := by
  unfold rest aft
  rw [if_neg hy, if_pos h]
theorem rest_bad {l : List TZ} {f : Nat} {z : UInt8} {d : Nat} {ys : List EX} {j : Int} (hy : ys ≠ []) (hz : isS (tkAt l j) z = false) (h : isS (tkAt l j) 44 = false) : rest l f z d ys j = .err (tkAt l j).pos 5 := by
  unfold rest aft
  rw [if_neg hy, if_neg (by rw [h]; decide), if_neg (by rw [hz]; decide)]
theorem rest_snoc {l : List TZ} {f : Nat} {z : UInt8} {d : Nat} {ys : List EX} {y : EX} {j : Int} : rest l f z d (ys ++ [y]) j = aft l f z d j := by
  unfold rest
  rw [if_neg (by simp)]
theorem RowE.own_lt {base : Nat} {w : World} {v : Value} {xs : List EX} (h : RowE base w v xs) : ∀ g, v.ownBlock = some g → g < w.heap.size := by
  intro g hg
  obtain ⟨cs, h1, _⟩ := h
  rcases h1.2 with ⟨rfl, _⟩ | ⟨g', cap, cur, rfl, _, hh, _⟩
  · cases hg
  · simp only [Value.ownBlock, Option.some.injEq] at hg
    subst hg
    exact (Array.getElem?_eq_some_iff.1 hh).1

/-- What a method that reads a list leaves. -/
def TelL (b : Nat) (o : Option Addr) (c m : Nat) (l : List TZ) (d : Nat) (w : World) (r : EO (List EX)) (e : Ending) (w' : World) : Prop :=
  match r with
  | .ok ys j => ∃ o' cap, e = .returned (.slice o' ys.length cap) ∧ RowE w.heap.size w' (.slice o' ys.length cap) ys ∧ PS b o c m l j d w' ∧ Kp b w w'
  | .err p q => e = .panicked (thrown p q) ∧ Kp b w w'
  | .out => True

section
variable {b c m : Nat} {o : Option Addr} {l : List TZ}

set_option maxRecDepth 20000 in
set_option maxHeartbeats 4000000 in
theorem list_in {f : Nat} (hn : l.length ≤ 1073741824) (IH : ∀ g, g < f → LevC b o c m l g) (a z : UInt8) (hz : z ≠ 44) (d : Nat) (i : Int) (w : World) (hd : d < 30) (S : PS b o c m l i d w) (ha : isS (tkAt l i) a = true) (hr : rest l f z d [] (i + 1) ≠ .out) :
    Calls Try.prog 76 #[.pointer (some ⟨b, 0, none⟩), .string ⟨#[a]⟩, .string ⟨#[z]⟩] w (TelL b o c m l d w (rest l f z d [] (i + 1))) := by
  have hia := isS_real ha
  have H := Lib.hid S
  have hbl := S.lt
  have HN := Lib.hid hn
  have HZ := Lib.hid hz
  have HD1 : Hid (d + 1 ≤ 30) := by show d + 1 ≤ 30; omega
  have HIH := Lib.hid IH
  have hkt : isKT (tkAt l i) 4 ⟨#[a]⟩ = true := by rw [isKT_S]; exact ha
  have HX := Lib.hid (enter_ok (y := ⟨#[a]⟩) S hn hkt (by omega))
  have HSE := Lib.hid (fun (W : World) (j : Int) (h : PS b o c m l j ((d : Nat) + 1) W) => sees_any h (by have := HN.out; omega) ⟨#[z]⟩)
  obtain ⟨R, hR⟩ : ∃ R, rest l f z d [] (i + 1) = R := ⟨_, rfl⟩
  rw [hR] at hr ⊢
  have HRO := Lib.hid hr
  have HR : Hid (pre [] (rest l f z d [] (i + 1)) = R) := by show _ = _; rw [pre_nil]; exact hR
  have HI0 : Hid ((0 : Int) ≤ i + 1) := by show (0 : Int) ≤ i + 1; omega
  clear S hn hz IH hkt ha hr hR hd hia
  go_enter Try.func76, Try.ntmps76
  go_wp2_with fail
  refine HX.out.mono ?_
  rintro e w1 ⟨rfl, hS, hK⟩
  have S1 := Lib.hid hS
  have K1 := Lib.hid hK
  clear hS hK
  go_wp2_with fail
  go_loopg [7] f (fun g v wr => ∃ (ys : List EX) (j : Int) (o' : Option Addr) (cap : Nat), v = .slice o' ys.length cap ∧ Hid (pre ys (rest l g z d ys j) = R) ∧ Hid (RowE w.heap.size wr (.slice o' ys.length cap) ys) ∧ Hid (PS b o c m l j ((d : Nat) + 1) wr) ∧ Hid (Kp b w wr) ∧ g ≤ f ∧ Hid (((ys.length : Nat) : Int) ≤ j))
  case atStart => exact ⟨[], i + 1, none, 0, rfl, HR, RowE.nil _ _, S1, K1, Nat.le_refl _, HI0.out⟩
  case round =>
    clear S1 K1 HR
    obtain ⟨ys, j, o', cap, rfl, HR, HV, HS, HK, hgf, HYJ⟩ := hrel
    have HS2 := Lib.hid (HSE.out _ j HS.out)
    rw [isKT_S] at HS2
    cases hzj : isS (tkAt l j) z
    · rw [hzj] at HS2
      have HZJ := Lib.hid hzj
      clear hzj
      go_wp2_with fail
      refine HS2.out.mono ?_
      rintro e w3 ⟨rfl, hB⟩
      have S3 := Lib.hid (HS.out.step hB)
      have K3 := Lib.hid (HK.out.then_below hB)
      have V3 := Lib.hid (HV.out.kp (b := b) (.of_below hB) hbl)
      clear hB HS2
      rcases ys with _ | ⟨y0, yr⟩
      · have hb := HR.out
        rw [rest_nil HZJ.out] at hb
        cases gk with
        | zero => rw [items] at hb; exact (HRO.out hb.symm).elim
        | succ gg =>
          cases hq : ex l gg 1 (d + 1) (j) with
          | out => rw [items_out hq] at hb; exact (HRO.out hb.symm).elim
          | err p q =>
            have HC := Lib.hid (fun (W : World) (h : PS b o c m l (j) ((d + 1 : Nat) : Int) W) => HIH.out gg (by omega) 1 1 (d + 1) (j) W rfl (by decide) (by decide) HD1.out h (by rw [hq]; simp))
            rw [hq] at HC
            rw [items_err hq] at hb
            have HB := Lib.hid hb
            clear hb hq
            go_wp2_with fail
            refine (HC.out _ (by rw [Int.natCast_add]; exact S3.out)).mono ?_
            rintro e w4 ⟨rfl, hK⟩
            have K4 := Lib.hid (K3.out.trans hK)
            clear hK
            go_wp2
            refine ⟨rfl, ?_⟩
            rw [← HB.out]
            exact ⟨rfl, K4.out⟩
          | ok y q =>
            have HC := Lib.hid (fun (W : World) (h : PS b o c m l (j) ((d + 1 : Nat) : Int) W) => HIH.out gg (by omega) 1 1 (d + 1) (j) W rfl (by decide) (by decide) HD1.out h (by rw [hq]; simp))
            have hrng := (read_rng (l := l) gg).1 _ _ _ _ _ (by decide) hq
            rw [hq] at HC
            rw [items_ok hq, pre_cons] at hb
            have HB := Lib.hid hb
            have HQ := Lib.hid hrng
            clear hb hq hrng
            go_wp2_with fail
            refine (HC.out _ (by rw [Int.natCast_add]; exact S3.out)).mono ?_
            rintro e w4 ⟨v, rfl, hy, hS, hK⟩
            obtain ⟨n, nm, tk, tp, tg, tn, tz, ta, oy, cy, rfl, _⟩ := hy.parts
            rw [Int.natCast_add] at hS
            have S4 := Lib.hid hS
            have K4 := Lib.hid (K3.out.trans hK)
            have V4 := Lib.hid (V3.out.kp hK hbl)
            have OL := Lib.hid V3.out.own_lt
            have HY := Lib.hid hy
            have hz3 := K3.out.size
            have hz4 := hK.size
            have HLB : Hid (List.length ([] : List EX) + 1 ≤ 1073741824) := by
              have h1 := HQ.out
              have h2 := HYJ.out
              have h3 := HN.out
              show List.length ([] : List EX) + 1 ≤ 1073741824
              omega
            clear hy hS hK
            go_wp2_with (refine wpList_append_one rfl _ _ rfl w.heap.size w4 (.slice o' (List.length ([] : List EX)) cap) ([] : List EX) rfl rfl V4.out _ hz3 OL.out y _ _ _ _ _ _ _ _ _ _ _ HY.out hz4 HLB.out ?_; intro v' w' hrow hbel; obtain ⟨o2, cap2, rfl⟩ := hrow.slice; have V5 := Lib.hid hrow; have S5 := Lib.hid ((S4.out.alloc _).under (hbel.mono (by omega))); have K5 := Lib.hid ((K4.out.alloc _).then_base hbel); clear hrow hbel)
            go_roundg gg
            case measure => omega
            case rel =>
              exact ⟨([] : List EX) ++ [y], q, o2, cap2, rfl, HB.out, V5.out, S5.out, K5.out, by omega, by show ((List.length (([] : List EX) ++ [y]) : Nat) : Int) ≤ q; have h1 := HQ.out; have h2 := HYJ.out; rw [List.length_append, List.length_singleton]; omega⟩
      · have hlen : (0 : Int) < (((y0 :: yr).length : Nat) : Int) := by simp
        cases hcm : isS (tkAt l j) 44
        · have hb := HR.out
          rw [rest_bad (by simp) HZJ.out hcm] at hb
          have HB := Lib.hid hb
          have hkc : isKT (tkAt l j) 4 ⟨#[44]⟩ = false := by rw [isKT_S]; exact hcm
          have HE := Lib.hid (expect_no S3.out HN.out hkc)
          clear hb hkc hcm
          go_wp2_with fail
          refine HE.out.mono ?_
          rintro e w4 ⟨rfl, hK⟩
          have K4 := Lib.hid (K3.out.trans hK)
          clear hK
          go_wp2
          refine ⟨rfl, ?_⟩
          rw [← HB.out]
          exact ⟨rfl, K4.out⟩
        · have hb := HR.out
          rw [rest_more (by simp) hcm] at hb
          have hkc : isKT (tkAt l j) 4 ⟨#[44]⟩ = true := by rw [isKT_S]; exact hcm
          have HE := Lib.hid (expect_ok S3.out HN.out hkc)
          clear hkc hcm
          go_wp2_with fail
          refine HE.out.mono ?_
          rintro e w5 ⟨rfl, hS, hK⟩
          have S5' := Lib.hid hS
          have K5' := Lib.hid (K3.out.trans hK)
          have V5' := Lib.hid (V3.out.kp hK hbl)
          clear hS hK HE
          cases gk with
          | zero => rw [items] at hb; exact (HRO.out hb.symm).elim
          | succ gg =>
            cases hq : ex l gg 1 (d + 1) (j + 1) with
            | out => rw [items_out hq] at hb; exact (HRO.out hb.symm).elim
            | err p q =>
              have HC := Lib.hid (fun (W : World) (h : PS b o c m l (j + 1) ((d + 1 : Nat) : Int) W) => HIH.out gg (by omega) 1 1 (d + 1) (j + 1) W rfl (by decide) (by decide) HD1.out h (by rw [hq]; simp))
              rw [hq] at HC
              rw [items_err hq] at hb
              have HB := Lib.hid hb
              clear hb hq
              go_wp2_with fail
              refine (HC.out _ (by rw [Int.natCast_add]; exact S5'.out)).mono ?_
              rintro e w4 ⟨rfl, hK⟩
              have K4 := Lib.hid (K5'.out.trans hK)
              clear hK
              go_wp2
              refine ⟨rfl, ?_⟩
              rw [← HB.out]
              exact ⟨rfl, K4.out⟩
            | ok y q =>
              have HC := Lib.hid (fun (W : World) (h : PS b o c m l (j + 1) ((d + 1 : Nat) : Int) W) => HIH.out gg (by omega) 1 1 (d + 1) (j + 1) W rfl (by decide) (by decide) HD1.out h (by rw [hq]; simp))
              have hrng := (read_rng (l := l) gg).1 _ _ _ _ _ (by decide) hq
              rw [hq] at HC
              rw [items_ok hq, pre_cons] at hb
              have HB := Lib.hid hb
              have HQ := Lib.hid hrng
              clear hb hq hrng
              go_wp2_with fail
              refine (HC.out _ (by rw [Int.natCast_add]; exact S5'.out)).mono ?_
              rintro e w4 ⟨v, rfl, hy, hS, hK⟩
              obtain ⟨n, nm, tk, tp, tg, tn, tz, ta, oy, cy, rfl, _⟩ := hy.parts
              rw [Int.natCast_add] at hS
              have S4 := Lib.hid hS
              have K4 := Lib.hid (K5'.out.trans hK)
              have V4 := Lib.hid (V5'.out.kp hK hbl)
              have OL := Lib.hid V5'.out.own_lt
              have HY := Lib.hid hy
              have hz3 := K5'.out.size
              have hz4 := hK.size
              have HLB : Hid (List.length (y0 :: yr) + 1 ≤ 1073741824) := by
                have h1 := HQ.out
                have h2 := HYJ.out
                have h3 := HN.out
                show List.length (y0 :: yr) + 1 ≤ 1073741824
                omega
              clear hy hS hK
              go_wp2_with (refine wpList_append_one rfl _ _ rfl w.heap.size w4 (.slice o' (List.length (y0 :: yr)) cap) (y0 :: yr) rfl rfl V4.out _ hz3 OL.out y _ _ _ _ _ _ _ _ _ _ _ HY.out hz4 HLB.out ?_; intro v' w' hrow hbel; obtain ⟨o2, cap2, rfl⟩ := hrow.slice; have V5 := Lib.hid hrow; have S5 := Lib.hid ((S4.out.alloc _).under (hbel.mono (by omega))); have K5 := Lib.hid ((K4.out.alloc _).then_base hbel); clear hrow hbel)
              go_roundg gg
              case measure => omega
              case rel =>
                exact ⟨(y0 :: yr) ++ [y], q, o2, cap2, by rw [List.length_append]; rfl, by show _ = _; rw [rest_snoc]; exact HB.out, V5.out, S5.out, K5.out, by omega, by show ((List.length ((y0 :: yr) ++ [y]) : Nat) : Int) ≤ q; have h1 := HQ.out; have h2 := HYJ.out; rw [List.length_append, List.length_singleton]; omega⟩
    · rw [hzj] at HS2
      have hkz : isKT (tkAt l j) 4 ⟨#[z]⟩ = true := by rw [isKT_S]; exact hzj
      have HLV := Lib.hid (fun (W : World) (h : PS b o c m l j ((d : Nat) + 1) W) => leave_ok (y := ⟨#[z]⟩) h HN.out hkz (by have := HD1.out; omega))
      have hb := HR.out
      rw [rest_shut HZ.out hzj] at hb
      have HB := Lib.hid hb
      clear hb hkz hzj
      go_wp2_with fail
      refine HS2.out.mono ?_
      rintro e w3 ⟨rfl, hB⟩
      have S3 := Lib.hid (HS.out.step hB)
      have K3 := Lib.hid (HK.out.then_below hB)
      have V3 := Lib.hid (HV.out.kp (b := b) (.of_below hB) hbl)
      clear hB
      go_wp2_with fail
      refine (HLV.out _ S3.out).mono ?_
      rintro e w4 ⟨rfl, hS, hK⟩
      rw [show ((d : Nat) : Int) + 1 - 1 = (d : Nat) by omega] at hS
      have S4 := Lib.hid hS
      have K4 := Lib.hid (K3.out.trans hK)
      have V4 := Lib.hid (V3.out.kp hK hbl)
      clear hS hK
      go_wp2
      go_ret
      rw [← HB.out]
      show TelL b o c m l d w (.ok (ys ++ []) (j + 1)) _ _
      rw [List.append_nil]
      exact ⟨o', cap, rfl, V4.out, S4.out, K4.out⟩

theorem lst_deep {f : Nat} {z : UInt8} {d : Nat} {i : Int} (h : 30 ≤ d) : lst l (f + 1) z d i = .err (tkAt l i).pos 6 := by rw [lst, if_pos h]
theorem lst_in {f : Nat} {z : UInt8} {d : Nat} {i : Int} (h : ¬ 30 ≤ d) : lst l (f + 1) z d i = rest l f z d [] (i + 1) := by
  rw [lst, if_neg h]
  unfold rest
  rw [if_pos rfl, show i + 1 + 1 = i + 2 by omega]

set_option maxRecDepth 20000 in
set_option maxHeartbeats 4000000 in
theorem list_any {f : Nat} (hn : l.length ≤ 1073741824) (IH : ∀ g, g < f → LevC b o c m l g) (a z : UInt8) (hz : z ≠ 44) (d : Nat) (i : Int) (w : World) (hd : d ≤ 30) (S : PS b o c m l i d w) (ha : isS (tkAt l i) a = true) (hr : lst l (f + 1) z d i ≠ .out) :
    Calls Try.prog 76 #[.pointer (some ⟨b, 0, none⟩), .string ⟨#[a]⟩, .string ⟨#[z]⟩] w (TelL b o c m l d w (lst l (f + 1) z d i)) := by
  by_cases h30 : 30 ≤ d
  · rw [lst_deep h30]
    have hd30 : d = 30 := by omega
    subst hd30
    have hkt : isKT (tkAt l i) 4 ⟨#[a]⟩ = true := by rw [isKT_S]; exact ha
    have HX := Lib.hid (enter_deep (y := ⟨#[a]⟩) S hn hkt)
    clear S hn IH hz hd ha hr h30 hkt
    go_enter Try.func76, Try.ntmps76
    go_wp2_with fail
    refine HX.out.mono ?_
    rintro e w3 ⟨rfl, hK⟩
    have K3 := Lib.hid hK
    clear hK
    go_wp2
    exact ⟨rfl, rfl, K3.out⟩
  · rw [lst_in h30] at hr ⊢
    exact list_in hn IH a z hz d i w (by omega) S ha hr

set_option maxRecDepth 20000 in
set_option maxHeartbeats 4000000 in
/-- The bracket isn't there. -/
theorem list_no (hn : l.length ≤ 1073741824) (a z : UInt8) (d : Nat) (i : Int) (w : World) (S : PS b o c m l i d w) (ha : isS (tkAt l i) a = false) :
    Calls Try.prog 76 #[.pointer (some ⟨b, 0, none⟩), .string ⟨#[a]⟩, .string ⟨#[z]⟩] w fun e w' => e = .panicked (thrown (tkAt l i).pos 5) ∧ Kp b w w' := by
  have hkt : isKT (tkAt l i) 4 ⟨#[a]⟩ = false := by rw [isKT_S]; exact ha
  have HX := Lib.hid (enter_no (y := ⟨#[a]⟩) S hn hkt)
  clear S hn ha hkt
  go_enter Try.func76, Try.ntmps76
  go_wp2_with fail
  refine HX.out.mono ?_
  rintro e w3 ⟨rfl, hK⟩
  have K3 := Lib.hid hK
  clear hK
  go_wp2
  exact ⟨rfl, rfl, K3.out⟩

end

end Go.Proofs.Ytoppknnjnfgbiaa
