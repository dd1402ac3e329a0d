/-
  The statements' own: whether methods have a part that could not be made out; whether a scope is small. No condition.
-/
import Derived.Test.YtmnhilgifjaocaaShb
namespace Go.Proofs.Ytmnhilgifjaocaa
open Go.RowKit
open Go.Lib hiding intOf

theorem any_none {α : Type} {p : α → Bool} {l : List α} (h : ∀ (i : Nat) (x : α), l[i]? = some x → p x = false) : l.any p = false := by
  rw [List.any_eq_false]
  intro x hx
  obtain ⟨i, hi⟩ := List.getElem?_of_mem hx
  rw [h i x hi]
  simp
theorem any_some {α : Type} {p : α → Bool} {l : List α} {i : Nat} {x : α} (h : l[i]? = some x) (hp : p x = true) : l.any p = true := List.any_eq_true.2 ⟨x, List.mem_of_getElem? h, hp⟩

set_option maxRecDepth 100000 in
set_option maxHeartbeats 8000000 in
theorem bads_any (l : List MD) (v : Value) (w0 w : World) (h : IsMs w0 l v) (h0 : Below w0.heap.size w0 w) :
    Calls Try.prog 28 #[v] w fun e w' => e = .returned (.bool (l.any badM)) ∧ Below w.heap.size w w' := by
  obtain ⟨o, c, rfl, hl, hk, hx⟩ := h
  have hq : l.length ≤ 9223372036854775807 := by unfold maxLen at hk; omega
  obtain ⟨N, hN⟩ : ∃ N, l.length = N := ⟨_, rfl⟩
  rw [hN] at hq ⊢
  have HN := Lib.hid hN
  have HX := Lib.hid hx
  have H0 := Lib.hid h0
  have HB0 := Lib.hid (Nat.zero_le N)
  have HSO := Lib.hid (fun (i : Nat) (x : MD) h hp => any_some (p := badM) (l := l) (i := i) (x := x) h hp)
  have HNO := Lib.hid (fun h => any_none (p := badM) (l := l) h)
  generalize l.any badM = R at *
  clear hN hx h0 hl hk
  go_enter Try.func28, Try.ntmps28
  go_wp2
  go_loopw [3] (fun i wr => ∃ j : Nat, i = .int .i64 (j : Nat) ∧ Hid (j ≤ N) ∧ Hid (∀ (i : Nat) (m : MD), i < j → l[i]? = some m → badM m = false) ∧ Hid (Below w.heap.size w wr)) (fun i _ => N - (RowKit.intOf i).toNat)
  case atStart => exact ⟨0, rfl, HB0, fun i a h => by omega, Below.refl _ _⟩
  case round =>
    obtain ⟨j, rfl, HJ, HU, HR⟩ := hrel
    clear HB0
    by_cases hj : j < N
    · have hj' : ((j : Int) < (N : Int)) := by omega
      have hj0 : (0 : Int) ≤ (j : Int) := by omega
      have hwj := IntWalk.i64_in ((j : Int) + 1) ⟨by omega, by omega⟩
      obtain ⟨x, hx⟩ : ∃ x, l[j]? = some x := ⟨_, List.getElem?_eq_getElem (by rw [HN.out]; exact hj)⟩
      obtain ⟨a, ca, rfl, _, hc, hyx⟩ := HX.out j x hx
      obtain ⟨oa, ka, aa, an, ap, aq, ao, ae, ak, rfl, hka, hla, hap, har⟩ := hyx.parts
      have hpq : x.params.length ≤ 9223372036854775807 := by unfold maxLen at hka; omega
      have HC := Lib.hid (fun (W : World) (hb : Below w.heap.size w W) => mvc (old_step H0.out hb) hc)
      have HF := Lib.hid (bad_any _ x.result _ wr (Nat.lt_succ_self _) (har.below (old_step H0.out HR.out)))
      have HAP := Lib.hid hap
      have HXX := Lib.hid hx
      have e2 := atS (HC.out wr HR.out 2 _ rfl)
      have e3 := atS (HC.out wr HR.out 3 _ rfl)
      have e4 := atS (HC.out wr HR.out 4 _ rfl)
      have e5 := atS (HC.out wr HR.out 5 _ rfl)
      have e6 := atS (HC.out wr HR.out 6 _ rfl)
      obtain ⟨P, hP⟩ : ∃ P, x.params.length = P := ⟨_, rfl⟩
      rw [hP] at hpq HC
      have HP := Lib.hid hP
      have HP0 := Lib.hid (Nat.zero_le P)
      clear hc hyx hx hap har hP hka hla
      go_wp2_with fail
      refine HF.out.mono ?_
      rintro e w5 ⟨rfl, hb⟩
      have HR5 := Lib.hid (stepB HR.out hb (Nat.le_refl _))
      have HI0 : Hid ((badY x.result = true → badM x = true) ∧ (badY x.result = false → badY x.result = false ∧ ∀ (i : Nat) (y : GY), i < 0 → x.params[i]? = some y → badY y = false)) := ⟨fun h => by unfold badM; rw [h]; rfl, fun h => ⟨h, fun i y hi => by omega⟩⟩
      clear hb e2 e3 e4 e5 e6 HF
      go_wp2
      go_loopw [5, 4] (fun i t wr => ∃ (k : Nat) (b : Bool), i = .int .i64 (k : Nat) ∧ t = .bool b ∧ Hid (k ≤ P) ∧ Hid ((b = true → badM x = true) ∧ (b = false → badY x.result = false ∧ ∀ (i : Nat) (y : GY), i < k → x.params[i]? = some y → badY y = false)) ∧ Hid (Below w.heap.size w wr)) (fun i _ _ => P - (RowKit.intOf i).toNat)
      case atStart => exact ⟨0, _, rfl, rfl, HP0, HI0, HR5⟩
      case round =>
        obtain ⟨k, b, rfl, rfl, HK, HI, HRW⟩ := hrel
        clear HP0 HI0 HR5
        have e1 := atS (HC.out wr HRW.out 1 _ rfl)
        by_cases hk : k < P
        · have hk' : ((k : Int) < (P : Int)) := by omega
          have hk0 : (0 : Int) ≤ (k : Int) := by omega
          have hwk := IntWalk.i64_in ((k : Int) + 1) ⟨by omega, by omega⟩
          cases b with
          | true =>
            have HQ : Hid (R = true) := HSO.out j x HXX.out (HI.out.1 rfl)
            go_wp2
            go_ret
            rw [HQ.out]
            exact ⟨rfl, HRW.out⟩
          | false =>
            have HIF := Lib.hid (HI.out.2 rfl)
            clear HI
            obtain ⟨y, hy⟩ : ∃ y, x.params[k]? = some y := ⟨_, List.getElem?_eq_getElem (by rw [HP.out]; exact hk)⟩
            obtain ⟨g, b0, b1, b2, b3, b4, rfl, hd, hyy⟩ := HAP.out.at_ k hy
            rw [Nat.zero_add] at hd
            have hoo := old_step H0.out HRW.out
            have HF := Lib.hid (bad_any _ y _ wr (Nat.lt_succ_self _) (hyy.below hoo))
            have hd := mvc hoo hd
            have d0 := at0 (hd 0 _ rfl)
            have d1 := atS (hd 1 _ rfl)
            have d2 := atS (hd 2 _ rfl)
            have d3 := atS (hd 3 _ rfl)
            have d4 := atS (hd 4 _ rfl)
            have HYY := Lib.hid hy
            clear hd hyy hoo hy
            go_wp2_with fail
            refine HF.out.mono ?_
            rintro e w6 ⟨rfl, hb⟩
            have HR6 := Lib.hid (stepB HRW.out hb (Nat.le_refl _))
            have HI2 : Hid ((badY y = true → badM x = true) ∧ (badY y = false → badY x.result = false ∧ ∀ (i : Nat) (z : GY), i < k + 1 → x.params[i]? = some z → badY z = false)) := ⟨fun h => by unfold badM; rw [badys_some HYY.out h, Bool.or_true], fun h => ⟨HIF.out.1, fun i z hi hz => by
              by_cases e : i < k
              · exact HIF.out.2 i z e hz
              · obtain rfl : i = k := by omega
                rw [HYY.out] at hz
                cases hz
                exact h⟩⟩
            clear hb HF d0 d1 d2 d3 d4 e1
            go_wp2
            case roundEnd => exact ⟨⟨k + 1, _, by push_cast; rfl, rfl, hk, HI2, HR6⟩, by simp [RowKit.intOf]; omega⟩
        · have hk' : ¬ ((k : Int) < (P : Int)) := by omega
          cases b with
          | true =>
            have HQ : Hid (R = true) := HSO.out j x HXX.out (HI.out.1 rfl)
            clear hk
            go_wp2
            go_ret
            rw [HQ.out]
            exact ⟨rfl, HRW.out⟩
          | false =>
            have HU2 : Hid (∀ (i : Nat) (m : MD), i < j + 1 → l[i]? = some m → badM m = false) := fun i m hi hm => by
              by_cases e : i < j
              · exact HU.out i m e hm
              · obtain rfl : i = j := by omega
                rw [HXX.out] at hm
                cases hm
                unfold badM
                rw [(HI.out.2 rfl).1, badys_none fun i z hz => (HI.out.2 rfl).2 i z (by have h1 := (List.getElem?_eq_some_iff.1 hz).1; rw [HP.out] at h1; omega) hz]
                rfl
            clear hk
            go_wp2
            case roundEnd => exact ⟨⟨j + 1, by push_cast; rfl, hj, HU2, HRW⟩, by simp [RowKit.intOf]; omega⟩
    · have hj' : ¬ ((j : Int) < (N : Int)) := by omega
      have HQ : Hid (R = false) := HNO.out fun i x hx => HU.out i x (by have h1 := (List.getElem?_eq_some_iff.1 hx).1; rw [HN.out] at h1; omega) hx
      clear hj
      go_wp2
      go_ret
      rw [HQ.out]
      exact ⟨rfl, HR.out⟩
end Go.Proofs.Ytmnhilgifjaocaa
