/-
  Alike: the program's answer. No condition.
-/
import Derived.Test.YtmnhilgifjaocaaSmb
import Derived.Test.YtmnhilgifjaocaaSea
namespace Go.Proofs.Ytmnhilgifjaocaa
open Go.RowKit
open Go.Lib hiding intOf

theorem alikes_drop {l q : List GY} {j : Nat} {x y : GY} (hx : l[j]? = some x) (hy : q[j]? = some y) : alikeYs (l.drop j) (q.drop j) = (alikeY x y && alikeYs (l.drop (j + 1)) (q.drop (j + 1))) := by
  obtain ⟨h1, rfl⟩ := List.getElem?_eq_some_iff.1 hx
  obtain ⟨h2, rfl⟩ := List.getElem?_eq_some_iff.1 hy
  rw [List.drop_eq_getElem_cons h1, List.drop_eq_getElem_cons h2, alikeYs]

set_option maxRecDepth 100000 in
set_option maxHeartbeats 4000000 in
theorem eqa_any (l q : List GY) (o o' : Option Addr) (n m c c' : Nat) (w : World) (hn : l.length = n) (hm : q.length = m) (hn2 : n ≤ 9223372036854775807) (hm2 : m ≤ 9223372036854775807) (h : IsYs w o 0 l) (h' : IsYs w o' 0 q)
    (H : ∀ x ∈ l, ∀ (y : GY) (v u : Value) (W : World), IsY W x v → IsY W y u → Calls Try.prog 22 #[v, u] W fun e W' => e = .returned (.bool (alikeY x y)) ∧ Below W.heap.size W W') :
    Calls Try.prog 44 #[.slice o n c, .slice o' m c', .func (.func 22) #[] #[]] w fun e w' => e = .returned (.bool (alikeYs l q)) ∧ Below w.heap.size w w' := by
  by_cases hnm : n = m
  · subst hnm
    obtain ⟨B, hB⟩ : ∃ B, alikeYs l q = B := ⟨_, rfl⟩
    rw [hB]
    have HB : Hid (alikeYs (l.drop 0) (q.drop 0) = B) := by show _ = _; rw [List.drop_zero, List.drop_zero]; exact hB
    have HX := Lib.hid h
    have HY := Lib.hid h'
    have HN := Lib.hid hn
    have HM := Lib.hid hm
    have HH := Lib.hid H
    clear hB h h' H hn hm
    go_enter Try.func44, Try.ntmps44
    go_wp2
    go_loopw [17] (fun i wr => ∃ j : Nat, i = .int .i64 (j : Nat) ∧ Hid (j ≤ n) ∧ Hid (alikeYs (l.drop j) (q.drop j) = B) ∧ Hid (Below w.heap.size w wr)) (fun i _ => n - (RowKit.intOf i).toNat)
    case atStart => exact ⟨0, rfl, Nat.zero_le _, HB, Below.refl _ _⟩
    case round =>
      obtain ⟨j, rfl, HJ, HA, HW⟩ := hrel
      clear HB
      by_cases hj : j < n
      · have hj' : ((j : Int) < (n : Int)) := by omega
        have hj0 : (0 : Int) ≤ (j : Int) := by omega
        have hwj := IntWalk.i64_in ((j : Int) + 1) ⟨by omega, by omega⟩
        obtain ⟨x, hx⟩ : ∃ x, l[j]? = some x := ⟨_, List.getElem?_eq_getElem (by rw [HN.out]; exact hj)⟩
        obtain ⟨y, hy⟩ : ∃ y, q[j]? = some y := ⟨_, List.getElem?_eq_getElem (by rw [HM.out]; exact hj)⟩
        have HD := Lib.hid (alikes_drop hx hy)
        have hmem := List.mem_of_getElem? hx
        obtain ⟨a, c0, c1, c2, c3, c4, rfl, hc, hyx⟩ := HX.out.at_ j hx
        obtain ⟨b, d0, d1, d2, d3, d4, rfl, hd, hyy⟩ := HY.out.at_ j hy
        rw [Nat.zero_add] at hc hd
        have ho1 := hyx.ones
        have ho2 := hyy.ones
        have HC := Lib.hid hc
        have HDD := Lib.hid hd
        have HO1 := Lib.hid ho1
        have HO2 := Lib.hid ho2
        have HF := Lib.hid (fun W (hb : Below w.heap.size w W) => HH.out _ hmem y _ _ W (hyx.below hb) (hyy.below hb))
        have hbs := HW.out.size
        clear hc hd ho1 ho2 hyx hyy hmem hx hy
        have HW1 : Hid (Below w.heap.size w (wr.alloc (.cells #[c0, c1, c2, c3, c4] 29))) := HW.out.alloc hbs _
        have HW2 : Hid (Below w.heap.size w ((wr.alloc (.cells #[c0, c1, c2, c3, c4] 29)).alloc (.cells #[d0, d1, d2, d3, d4] 29))) := HW1.out.alloc (by simp; omega) _
        have K1 : Hid (Blk ((wr.alloc (.cells #[c0, c1, c2, c3, c4] 29)).alloc (.cells #[d0, d1, d2, d3, d4] 29)) wr.heap.size 29 #[c0, c1, c2, c3, c4]) := (Blk.new wr _ _).kept (World.grownBy_alloc _ _ none) (by simp)
        have K2 : Hid (Blk ((wr.alloc (.cells #[c0, c1, c2, c3, c4] 29)).alloc (.cells #[d0, d1, d2, d3, d4] 29)) (wr.heap.size + 1) 29 #[d0, d1, d2, d3, d4]) := by
          have := Blk.new (wr.alloc (.cells #[c0, c1, c2, c3, c4] 29)) 29 #[d0, d1, d2, d3, d4]
          rw [World.size_alloc] at this
          exact this
        obtain ⟨Z, hZ⟩ : ∃ Z, alikeY x y = Z := ⟨_, rfl⟩
        rw [hZ] at HD HF
        clear hZ
        cases Z
        · have HBF : Hid (false = B) := by have h1 := HA.out; rw [HD.out, Bool.false_and] at h1; exact h1
          clear HA HD
          go_wp2_with (first
            | (refine boxLoad 29 5 size5 Try.underlying29 rfl _ rfl (wr.heap.size) rfl (cs := [c0, c1, c2, c3, c4]) K1.out rfl ?_)
            | (refine boxLoad 29 5 size5 Try.underlying29 rfl _ rfl (wr.heap.size + 1) rfl (cs := [d0, d1, d2, d3, d4]) K2.out rfl ?_)
            | (refine boxLoadG 29 5 size5 Try.underlying29 rfl _ rfl _ rfl (cs := [c0, c1, c2, c3, c4]) (fun i v h => (HW.out.cell (World.block_lt_of_cell? _ _ (HC.out i v h))).trans (HC.out i v h)) rfl ?_)
            | (refine boxLoadG 29 5 size5 Try.underlying29 rfl _ rfl _ rfl (cs := [d0, d1, d2, d3, d4]) (fun i v h => (HW1.out.cell (World.block_lt_of_cell? _ _ (HDD.out i v h))).trans (HDD.out i v h)) rfl ?_)
            | (refine boxNew 29 5 size5 rfl _ _ rfl rfl [c0, c1, c2, c3, c4] rfl rfl rfl HO1.out ?_)
            | (refine boxNewAt 29 5 size5 rfl _ _ rfl (wr.heap.size + 1) (World.size_alloc _ _) rfl [d0, d1, d2, d3, d4] rfl rfl rfl HO2.out ?_)
            | (refine (HF.out _ HW2.out).mono ?_; rintro e w5 ⟨rfl, hb⟩; have HB5 : Hid (Below w.heap.size w w5) := HW2.out.trans (hb.mono HW2.out.size); clear hb))
          go_ret
          exact ⟨by rw [← HBF.out]; rfl, HB5.out⟩
        · have HBT : Hid (alikeYs (l.drop (j + 1)) (q.drop (j + 1)) = B) := by have h1 := HA.out; rw [HD.out, Bool.true_and] at h1; exact h1
          clear HA HD
          go_wp2_with (first
            | (refine boxLoad 29 5 size5 Try.underlying29 rfl _ rfl (wr.heap.size) rfl (cs := [c0, c1, c2, c3, c4]) K1.out rfl ?_)
            | (refine boxLoad 29 5 size5 Try.underlying29 rfl _ rfl (wr.heap.size + 1) rfl (cs := [d0, d1, d2, d3, d4]) K2.out rfl ?_)
            | (refine boxLoadG 29 5 size5 Try.underlying29 rfl _ rfl _ rfl (cs := [c0, c1, c2, c3, c4]) (fun i v h => (HW.out.cell (World.block_lt_of_cell? _ _ (HC.out i v h))).trans (HC.out i v h)) rfl ?_)
            | (refine boxLoadG 29 5 size5 Try.underlying29 rfl _ rfl _ rfl (cs := [d0, d1, d2, d3, d4]) (fun i v h => (HW1.out.cell (World.block_lt_of_cell? _ _ (HDD.out i v h))).trans (HDD.out i v h)) rfl ?_)
            | (refine boxNew 29 5 size5 rfl _ _ rfl rfl [c0, c1, c2, c3, c4] rfl rfl rfl HO1.out ?_)
            | (refine boxNewAt 29 5 size5 rfl _ _ rfl (wr.heap.size + 1) (World.size_alloc _ _) rfl [d0, d1, d2, d3, d4] rfl rfl rfl HO2.out ?_)
            | (refine (HF.out _ HW2.out).mono ?_; rintro e w5 ⟨rfl, hb⟩; have HB5 : Hid (Below w.heap.size w w5) := HW2.out.trans (hb.mono HW2.out.size); clear hb))
          case roundEnd => exact ⟨⟨j + 1, by push_cast; rfl, hj, HBT, HB5⟩, by simp [RowKit.intOf]; omega⟩
      · have hj' : ¬ ((j : Int) < (n : Int)) := by omega
        have hA := HA.out
        rw [List.drop_of_length_le (by rw [HN.out]; omega), List.drop_of_length_le (by rw [HM.out]; omega), alikeYs] at hA
        subst hA
        go_wp2
        go_ret
        exact ⟨rfl, HW.out⟩
  · have hB : alikeYs l q = false := alikes_ne (by omega)
    rw [hB]
    have hne : ¬ ((n : Int) = (m : Int)) := by omega
    clear hB h h' H hn hm
    go_enter Try.func44, Try.ntmps44
    go_wp2
    go_ret
    exact ⟨rfl, Below.refl _ _⟩


set_option maxRecDepth 100000 in
set_option maxHeartbeats 8000000 in
theorem alikeP_any : ∀ (s : Nat) (x y : GY) (v u : Value) (w : World), SizeOf.sizeOf x < s → IsY w x v → IsY w y u →
    Calls Try.prog 22 #[v, u] w fun e w' => e = .returned (.bool (alikeY x y)) ∧ Below w.heap.size w w' := by
  intro s
  induction s with
  | zero => intro x y v u w h; omega
  | succ s ih =>
  rintro ⟨k, p, m, n, l⟩ ⟨k', p', m', n', l'⟩ v u w hs hv hu
  have hA : alikeY (.mk k p m n l) (.mk k' p' m' n' l') = if k = 0 ∨ k' = 0 then true else if k = 5 ∧ k' = 5 then alikeYs l l' else sameY (.mk k p m n l) (.mk k' p' m' n' l') := by rw [alikeY]
  have hsm := fun W (hb : Below w.heap.size w W) => sameP_any _ _ _ _ _ W (Nat.lt_succ_self _) (hv.below hb) (hu.below hb)
  obtain ⟨o, c, rfl, hl, hc, ha⟩ := hv.parts
  obtain ⟨o', c', rfl, hl', hc', ha'⟩ := hu.parts
  have hq : l.length ≤ 9223372036854775807 := by unfold maxLen at hc; omega
  have hq' : l'.length ≤ 9223372036854775807 := by unfold maxLen at hc'; omega
  have HE := Lib.hid (fun (W : World) (hb : Below w.heap.size w W) => eqa_any l l' o o' l.length l'.length c c' W rfl rfl hq hq' (ha.below hb) (ha'.below hb)
    (fun z hz y v u W hv hu => ih z y v u W (by have := List.sizeOf_lt_of_mem hz; simp at hs; omega) hv hu))
  have HS := Lib.hid hsm
  clear ih hv hu ha ha' hl hl' hc hc' hs hsm
  generalize sameY (.mk k p m n l) (.mk k' p' m' n' l') = SB at *
  generalize alikeYs l l' = AB at *
  rw [hA]
  clear hA
  generalize l.length = N at *
  generalize l'.length = N' at *
  obtain ⟨W2, hW2, HBX⟩ := bx2 w #[.int .i64 k, .string p, .string m, .int .i64 n, .slice o N c] #[.int .i64 k', .string p', .string m', .int .i64 n', .slice o' N' c'] 29 29
  have hb1 := HBX.out.2.1
  rw [← hW2] at hb1
  have HB1 := Lib.hid hb1
  clear HBX hb1 hW2
  by_cases h0 : k = 0
  · subst h0
    rw [if_pos (by simp)]
    go_enter Try.func22, Try.ntmps22
    go_wp2
    go_ret
    exact ⟨rfl, HB1.out⟩
  have e0 : (k == 0) = false := beq_eq_false_iff_ne.2 h0
  by_cases h0' : k' = 0
  · subst h0'
    rw [if_pos (by simp)]
    go_enter Try.func22, Try.ntmps22
    go_wp2
    go_ret
    exact ⟨rfl, HB1.out⟩
  have e0' : (k' == 0) = false := beq_eq_false_iff_ne.2 h0'
  rw [if_neg (by rintro (e | e) <;> contradiction)]
  by_cases h5 : k = 5
  · subst h5
    by_cases h5' : k' = 5
    · subst h5'
      rw [if_pos ⟨rfl, rfl⟩]
      clear h0 h0' e0 e0' HS
      go_enter Try.func22, Try.ntmps22
      go_wp2_with fail
      refine (HE.out _ HB1.out).mono ?_
      rintro e V ⟨rfl, hb⟩
      have HV := Lib.hid (stepB HB1.out hb (Nat.le_refl _))
      clear hb
      go_wp2
      go_ret
      exact ⟨rfl, HV.out⟩
    · have e5 : (k' == 5) = false := beq_eq_false_iff_ne.2 h5'
      rw [if_neg (by rintro ⟨_, e⟩; contradiction)]
      clear h0 e0 HE h5'
      go_enter Try.func22, Try.ntmps22
      go_wp2_with fail
      refine (HS.out _ HB1.out).mono ?_
      rintro e V ⟨rfl, hb⟩
      have HV := Lib.hid (stepB HB1.out hb (Nat.le_refl _))
      clear hb
      go_wp2
      go_ret
      exact ⟨rfl, HV.out⟩
  · have e5 : (k == 5) = false := beq_eq_false_iff_ne.2 h5
    rw [if_neg (by rintro ⟨e, _⟩; contradiction)]
    clear HE
    go_enter Try.func22, Try.ntmps22
    go_wp2_with fail
    refine (HS.out _ HB1.out).mono ?_
    rintro e V ⟨rfl, hb⟩
    have HV := Lib.hid (stepB HB1.out hb (Nat.le_refl _))
    clear hb
    go_wp2
    go_ret
    exact ⟨rfl, HV.out⟩
end Go.Proofs.Ytmnhilgifjaocaa
