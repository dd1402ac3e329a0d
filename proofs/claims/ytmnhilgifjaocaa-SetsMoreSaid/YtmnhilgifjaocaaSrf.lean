/-
  Alike: the document's answer. No condition.
-/
import Derived.Test.YtmnhilgifjaocaaSre
namespace Go.Proofs.Ytmnhilgifjaocaa
open Go.RowKit
open Go.Lib hiding intOf

theorem alikes_all : ∀ {l q : List GY}, l.length = q.length → (∀ (i : Nat) (a b : GY), l[i]? = some a → q[i]? = some b → alikeY a b = true) → alikeYs l q = true
  | [], [], _, _ => by rw [alikeYs]
  | a :: r, b :: q, hl, h => by
    rw [alikeYs, h 0 a b rfl rfl, alikes_all (by simpa using hl) fun i x y hx hy => h (i + 1) x y (by simpa using hx) (by simpa using hy)]
    rfl
  | [], _ :: _, h, _ => by simp at h
  | _ :: _, [], h, _ => by simp at h
theorem alikes_not : ∀ {l q : List GY} {i : Nat} {a b : GY}, l[i]? = some a → q[i]? = some b → alikeY a b = false → alikeYs l q = false
  | [], _, _, _, _, h, _, _ => by simp at h
  | _ :: _, [], _, _, _, _, h, _ => by simp at h
  | x :: r, y :: q, 0, a, b, h1, h2, h3 => by
    simp only [List.getElem?_cons_zero, Option.some.injEq] at h1 h2
    subst h1; subst h2
    rw [alikeYs, h3]; rfl
  | x :: r, y :: q, i + 1, a, b, h1, h2, h3 => by
    rw [alikeYs, alikes_not (l := r) (q := q) (i := i) (by simpa using h1) (by simpa using h2) h3, Bool.and_false]

set_option maxRecDepth 100000 in
set_option maxHeartbeats 8000000 in
theorem alikeR_any : ∀ (s : Nat) (x y : GY) (v u : Value) (w : World), SizeOf.sizeOf x < s → IsY w x v → IsY w y u →
    Calls Try.prog 23 #[v, u] w fun e w' => e = .returned (.bool (alikeY x y)) ∧ Below w.heap.size w w' := by
  intro s
  induction s with
  | zero => intro x y v u w h; omega
  | succ s ih =>
  rintro ⟨k, p, m, n, l⟩ ⟨k', p', m', n', l'⟩ v u w hs hv hu
  have HSM := Lib.hid (fun W (hb : Below w.heap.size w W) => sameR_any _ _ _ _ _ W (Nat.lt_succ_self _) (hv.below hb) (hu.below hb))
  have HA : Hid (alikeY (.mk k p m n l) (.mk k' p' m' n' l') = if k = 0 ∨ k' = 0 then true else if k = 5 ∧ k' = 5 then alikeYs l l' else sameY (.mk k p m n l) (.mk k' p' m' n' l')) := by show _ = _; rw [alikeY]
  obtain ⟨o, c, rfl, hl, hc, ha⟩ := hv.parts
  obtain ⟨o', c', rfl, hl', hc', ha'⟩ := hu.parts
  have hq : l.length ≤ 9223372036854775807 := by unfold maxLen at hc; omega
  have HI : Hid (∀ z ∈ l, ∀ (y : GY) (v u : Value) (W : World), IsY W z v → IsY W y u → Calls Try.prog 23 #[v, u] W fun e W' => e = .returned (.bool (alikeY z y)) ∧ Below W.heap.size W W') :=
    fun z hz y v u W hv hu => ih z y v u W (by have := List.sizeOf_lt_of_mem hz; simp at hs; omega) hv hu
  have HX := Lib.hid ha
  have HY := Lib.hid ha'
  generalize sameY (.mk k p m n l) (.mk k' p' m' n' l') = SB at *
  generalize alikeY (.mk k p m n l) (.mk k' p' m' n' l') = RB at *
  clear ih hv hu ha ha' hl hl' hc hc' hs
  obtain ⟨N, hN⟩ : ∃ N, l.length = N := ⟨_, rfl⟩
  obtain ⟨N', hN'⟩ : ∃ N', l'.length = N' := ⟨_, rfl⟩
  rw [hN] at hq HSM
  rw [hN'] at HSM
  rw [hN, hN']
  have HN := Lib.hid hN
  have HN' := Lib.hid hN'
  clear hN hN'
  obtain ⟨W2, hW2, HBX⟩ := bx2 w #[.int .i64 k, .string p, .string m, .int .i64 n, .slice o N c] #[.int .i64 k', .string p', .string m', .int .i64 n', .slice o' N' c'] 29 29
  have hb1 := HBX.out.2.1
  rw [← hW2] at hb1
  have HB1 := Lib.hid hb1
  have HW2 := Lib.hid hW2
  have HB0 := Lib.hid (Nat.zero_le N)
  clear hb1 hW2
  by_cases h0 : k = 0 ∨ k' = 0
  · have HQ := Lib.hid (HA.out.trans (if_pos h0))
    clear HA
    by_cases hk : k = 0
    · subst hk
      go_enter Try.func23, Try.ntmps23
      go_wp2
      go_ret
      rw [HQ.out]
      exact ⟨rfl, HB1.out⟩
    · obtain rfl : k' = 0 := h0.resolve_left hk
      have hkb : (k == 0) = false := by simpa using hk
      clear h0 hk
      go_enter Try.func23, Try.ntmps23
      go_wp2
      go_ret
      rw [HQ.out]
      exact ⟨rfl, HB1.out⟩
  · have HA1 := Lib.hid (HA.out.trans (if_neg h0))
    have hkb : (k == 0) = false := by simpa using fun e => h0 (.inl e)
    have hkb' : (k' == 0) = false := by simpa using fun e => h0 (.inr e)
    clear HA h0
    by_cases h5 : k = 5 ∧ k' = 5
    · have HA2 := Lib.hid (HA1.out.trans (if_pos h5))
      obtain ⟨rfl, rfl⟩ := h5
      clear HA1 hkb hkb'
      by_cases hnn : N = N'
      · subst hnn
        clear HSM
        go_enter Try.func23, Try.ntmps23
        go_wp2
        rw [HW2.out]
        go_loopw [5] (fun i wr => ∃ j : Nat, i = .int .i64 (j : Nat) ∧ Hid (j ≤ N) ∧ Hid (∀ (i : Nat) (a b : GY), i < j → l[i]? = some a → l'[i]? = some b → alikeY a b = true) ∧ Hid (Below W2.heap.size W2 wr)) (fun i _ => N - (RowKit.intOf i).toNat)
        case atStart => exact ⟨0, rfl, HB0, fun i a b h => by omega, Below.refl _ _⟩
        case round =>
          obtain ⟨j, rfl, HJ, HU, HR⟩ := hrel
          clear HB0 HW2
          have c4 : wr.cell? ⟨w.heap.size, 4, none⟩ = some (.slice o N c) := (HBX.out.at_ HR.out 0 rfl).cell 4
          have d4 : wr.cell? ⟨w.heap.size + 1, 4, none⟩ = some (.slice o' N c') := (HBX.out.at_ HR.out 1 rfl).cell 4
          have hww := HBX.out.below HR.out
          by_cases hj : j < N
          · have hj' : ((j : Int) < (N : Int)) := by omega
            have hj0 : (0 : Int) ≤ (j : Int) := by omega
            have hwj := IntWalk.i64_in ((j : Int) + 1) ⟨by omega, by omega⟩
            obtain ⟨x, hx⟩ : ∃ x, l[j]? = some x := ⟨_, List.getElem?_eq_getElem (by rw [HN.out]; exact hj)⟩
            obtain ⟨y, hy⟩ : ∃ y, l'[j]? = some y := ⟨_, List.getElem?_eq_getElem (by rw [HN'.out]; exact hj)⟩
            have hmem := List.mem_of_getElem? hx
            obtain ⟨a, a0, a1, a2, a3, a4, rfl, hc, hyx⟩ := HX.out.at_ j hx
            obtain ⟨b, b0, b1, b2, b3, b4, rfl, hd, hyy⟩ := HY.out.at_ j hy
            rw [Nat.zero_add] at hc hd
            have HC := Lib.hid (mvc hww hc)
            have HDD := Lib.hid (mvc hww hd)
            have HF := Lib.hid (fun W (hb : Below wr.heap.size wr W) => HI.out x hmem y _ _ W ((hyx.below hww).below hb) ((hyy.below hww).below hb))
            have HXX := Lib.hid hx
            have HYY := Lib.hid hy
            clear hc hd hmem hyx hyy hww hx hy
            go_wp2_with fail
            refine wp_region_still_tail 10 (by kernel_rfl) (by kernel_rfl) ?_
            simp only [List.take_succ_cons, List.take_zero, List.drop_succ_cons, List.drop_zero]
            iterate 4 still_step
            refine stillLoadG 29 5 size5 Try.underlying29 rfl _ rfl (a.add (j * 5)) rfl HC.out rfl ?_
            iterate 4 still_step
            refine stillLoadG 29 5 size5 Try.underlying29 rfl _ rfl (b.add (j * 5)) rfl HDD.out rfl ?_
            refine wpStill_nil ?_
            change wpList _ _ _ _ _ wr.drew
            go_wp2_with fail
            refine (HF.out _ (Below.refl _ _).drew).mono ?_
            rintro e w5 ⟨rfl, hb⟩
            have HR5 := Lib.hid (stepB HR.out (undrewY hb) (Nat.le_refl _))
            cases hal : alikeY x y with
            | false =>
              have HQ : Hid (RB = false) := by rw [HA2.out]; exact alikes_not HXX.out HYY.out hal
              clear hb HC HDD HF c4 d4 hal
              go_wp2
              go_ret
              rw [HQ.out]
              exact ⟨rfl, HBX.out.below HR5.out⟩
            | true =>
              have HU2 : Hid (∀ (i : Nat) (a b : GY), i < j + 1 → l[i]? = some a → l'[i]? = some b → alikeY a b = true) := fun i a b hi hx hy => by
                by_cases e : i < j
                · exact HU.out i a b e hx hy
                · obtain rfl : i = j := by omega
                  rw [HXX.out] at hx
                  rw [HYY.out] at hy
                  cases hx; cases hy
                  exact hal
              clear hb HC HDD HF c4 d4 hal
              go_wp2
              case roundEnd => exact ⟨⟨j + 1, by push_cast; rfl, hj, HU2, HR5⟩, by simp [RowKit.intOf]; omega⟩
          · have hj' : ¬ ((j : Int) < (N : Int)) := by omega
            have HQ : Hid (RB = true) := by
              rw [HA2.out]
              exact alikes_all (HN.out.trans HN'.out.symm) fun i a b hx hy => HU.out i a b (by have h1 := (List.getElem?_eq_some_iff.1 hx).1; rw [HN.out] at h1; omega) hx hy
            have HWW := Lib.hid hww
            clear hj hww
            go_wp2
            go_ret
            rw [HQ.out]
            exact ⟨rfl, HWW.out⟩
      · have HQ : Hid (RB = false) := by rw [HA2.out]; exact alikes_ne (by rw [HN.out, HN'.out]; exact hnn)
        have hnb : ((N : Int) != (N' : Int)) = true := by simpa using fun e => hnn (by omega)
        clear HA2 HSM hnn
        go_enter Try.func23, Try.ntmps23
        go_wp2
        go_ret
        rw [HQ.out]
        exact ⟨rfl, HB1.out⟩
    · have HA2 := Lib.hid (HA1.out.trans (if_neg h5))
      by_cases hk : k = 5
      · have hk2 : (k' != 5) = true := by simpa using fun e => h5 ⟨hk, e⟩
        subst hk
        clear h5 HA1 hkb
        go_enter Try.func23, Try.ntmps23
        go_wp2_with fail
        refine (HSM.out _ HB1.out).mono ?_
        rintro e V ⟨rfl, hb⟩
        have HV := Lib.hid (stepB HB1.out hb (Nat.le_refl _))
        clear hb
        go_wp2
        go_ret
        rw [HA2.out]
        exact ⟨rfl, HV.out⟩
      · have hk2 : (k != 5) = true := by simpa using hk
        clear h5 HA1 hk
        go_enter Try.func23, Try.ntmps23
        go_wp2_with fail
        refine (HSM.out _ HB1.out).mono ?_
        rintro e V ⟨rfl, hb⟩
        have HV := Lib.hid (stepB HB1.out hb (Nat.le_refl _))
        clear hb
        go_wp2
        go_ret
        rw [HA2.out]
        exact ⟨rfl, HV.out⟩
end Go.Proofs.Ytmnhilgifjaocaa
