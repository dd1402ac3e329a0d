/-
  Sameness: the document's answer; the document's comparison of all of two types that are one. No condition.
-/
import Derived.Test.YtmnhilgifjaocaaTsb
namespace Go.Proofs.Ytmnhilgifjaocaa
open Go.RowKit
open Go.Lib hiding intOf

theorem run_loadG (T : TypeId) (n : Nat) (hi : (Try.prog.info? T).map (·.size) = some n) {fs : _} (hu : Try.prog.underlying T = some (.struct fs)) {o : Oper} {a : Act} {w : World} (x : Operand) (ho : o.op = .load T x) (g : Addr) (hx : a.eval x = .pointer (some g)) {cs : List Value} (hc : ∀ (j : Nat) (v : Value), cs[j]? = some v → w.cell? (g.add j) = some v) (hs : cs.length = n) :
    (execOp a.eval o).run Try.prog w = .ok (.value (.agg cs.toArray)) w := by
  have hl : (loadCells g cs.length).run Try.prog w = .ok cs.toArray w := run_loadCells_list (P := Try.prog) w g cs hc
  have hsv : (loadVar T g).run Try.prog w = .ok (.agg cs.toArray) w := by
    obtain ⟨i, hi, hi'⟩ := Option.map_eq_some_iff.1 hi
    have hagg : (isAgg T).run Try.prog w = .ok true w := by
      unfold isAgg
      rw [Sem.run_bind, run_underlying hu w]
      rfl
    rw [hs] at hl
    generalize cs.toArray = cs at *
    simp [loadVar, Sem.run_bind, hagg, sizeOf, typeInfo, hi, hi', hl]
  unfold execOp
  simp only [ho, hx, Instr.loadAt, Instr.sureAddr, Sem.run_bind, Sem.run_pure, Result.andThen_ok, hsv]
/-- A struct at any place read whole, among operations that only read. -/
theorem stillLoadG (T : TypeId) (n : Nat) (hi : (Try.prog.info? T).map (·.size) = some n) {fs : _} (hu : Try.prog.underlying T = some (.struct fs)) {ops : Array Oper} {rest : List Oper} {o : Oper} {a : Act} {w : World} {Q : Act → Prop} (hgd : o.guard = none) (x : Operand) (ho : o.op = .load T x) (g : Addr) (hx : a.eval x = .pointer (some g)) {cs : List Value} (hc : ∀ (j : Nat) (v : Value), cs[j]? = some v → w.cell? (g.add j) = some v) (hs : cs.length = n)
    (h : wpStill Try.prog ops w Q rest (a.put o.dst (.agg cs.toArray))) : wpStill Try.prog ops w Q (o :: rest) a := by
  have hr := run_loadG T n hi hu x ho g hx hc hs
  refine wpStill_step fun K hK => ?_
  have hw : Region.wanted o (yielded ops a.tmps) = true := by simp [Region.wanted, hgd]
  rw [if_pos hw]
  unfold Oper.still
  rw [hr, Oper.stillUpon_value]
  exact hK _ h
theorem undrewY {B : Nat} {w w' : World} (h : Below B w.drew w') : Below B w w' := ⟨h.os, h.tape, h.output, h.size, h.block⟩
/-- Two boxes behind each other. -/
structure Box2 (w W : World) (g : Nat) (A B : Array Value) : Prop where
  size : W.heap.size = g + 1 + 1
  below : Below g w W
  one : Blk W g 29 A
  two : Blk W (g + 1) 29 B
theorem box2 (w : World) (A B : Array Value) : Box2 w ((w.alloc (.cells A 29)).alloc (.cells B 29)) w.heap.size A B := by
  refine ⟨by simp, ((Below.refl _ _).alloc (Nat.le_refl _) _).alloc (by simp) _, (Blk.new w _ _).kept (World.grownBy_alloc _ _ none) (by simp), ?_⟩
  have := Blk.new (w.alloc (.cells A 29)) 29 B
  rw [World.size_alloc] at this
  exact this
/-- What stands later. -/
structure In2 (W wr : World) (g : Nat) (A B : Array Value) : Prop where
  below : Below (g + 1 + 1) W wr
  one : Blk wr g 29 A
  two : Blk wr (g + 1) 29 B
theorem Box2.start {w W : World} {g : Nat} {A B : Array Value} (h : Box2 w W g A B) : In2 W W g A B := ⟨Below.refl _ _, h.one, h.two⟩
theorem In2.step {W wr w' : World} {g : Nat} {A B : Array Value} (h : In2 W wr g A B) (hs : W.heap.size = g + 1 + 1) (hb : Below wr.heap.size wr w') : In2 W w' g A B := by
  have := h.below.size
  exact ⟨h.below.trans (hb.mono (by omega)), (hb.block g (by have := h.one.lt; omega)).trans h.one, (hb.block (g + 1) (by have := h.two.lt; omega)).trans h.two⟩

set_option maxRecDepth 100000 in
set_option maxHeartbeats 8000000 in
/-- The loop's own part. -/
theorem sameR_any : ∀ (s : Nat) (x y : GY) (v u : Value) (w : World), SizeOf.sizeOf x < s → IsY w x v → IsY w y u →
    Calls Try.prog 30 #[v, u] w fun e w' => e = .returned (.bool (sameY x y)) ∧ Below w.heap.size w w' := by
  intro s
  induction s with
  | zero => intro x y v u w h; omega
  | succ s ih =>
  rintro ⟨k, p, m, n, l⟩ ⟨k', p', m', n', l'⟩ v u w hs hv hu
  obtain ⟨o, c, rfl, hl, hc, ha⟩ := hv.parts
  obtain ⟨o', c', rfl, hl', hc', ha'⟩ := hu.parts
  have hB : Hid (Below w.heap.size w ((w.alloc (.cells #[.int .i64 k, .string p, .string m, .int .i64 n, .slice o l.length c] 29)).alloc (.cells #[.int .i64 k', .string p', .string m', .int .i64 n', .slice o' l'.length c'] 29))) :=
    ((Below.refl _ _).alloc (Nat.le_refl _) _).alloc (by simp) _
  have hq : l.length ≤ 9223372036854775807 := by unfold maxLen at hc; omega
  have hq' : l'.length ≤ 9223372036854775807 := by unfold maxLen at hc'; omega
  have HI : Hid (∀ z ∈ l, ∀ (y : GY) (v u : Value) (W : World), IsY W z v → IsY W y u → Calls Try.prog 30 #[v, u] W fun e W' => e = .returned (.bool (sameY z y)) ∧ Below W.heap.size W W') :=
    fun z hz y v u W hv hu => ih z y v u W (by have := List.sizeOf_lt_of_mem hz; simp at hs; omega) hv hu
  have HX := Lib.hid ha
  have HY := Lib.hid ha'
  clear ih hv hu ha ha' hl hl' hc hc' hs
  obtain ⟨N, hN⟩ : ∃ N, l.length = N := ⟨_, rfl⟩
  obtain ⟨N', hN'⟩ : ∃ N', l'.length = N' := ⟨_, rfl⟩
  rw [hN] at hB hq ⊢
  rw [hN'] at hB hq' ⊢
  have HN := Lib.hid hN
  have HN' := Lib.hid hN'
  clear hN hN'
  by_cases hk : k = k'
  · subst hk
    by_cases h4 : k = 4
    · subst h4
      rw [same_4]
      by_cases hp : p = p'
      · subst hp
        by_cases hm : m = m'
        · subst hm
          simp only [decide_true, Bool.and_true]
          go_enter Try.func30, Try.ntmps30
          go_wp2
          go_ret
          exact ⟨rfl, hB.out⟩
        · have e1 := bytes_ne hm
          simp only [decide_true, decide_eq_false hm, Bool.and_false]
          clear hm
          go_enter Try.func30, Try.ntmps30
          go_wp2
          go_ret
          exact ⟨rfl, hB.out⟩
      · have e1 := bytes_ne hp
        simp only [decide_eq_false hp, Bool.false_and]
        clear hp
        go_enter Try.func30, Try.ntmps30
        go_wp2
        go_ret
        exact ⟨rfl, hB.out⟩
    by_cases h6 : k = 6
    · subst h6
      rw [same_6]
      by_cases hn : n = n'
      · subst hn
        simp only [decide_true]
        go_enter Try.func30, Try.ntmps30
        go_wp2
        go_ret
        exact ⟨rfl, hB.out⟩
      · have e1 : (n == n') = false := beq_eq_false_iff_ne.2 hn
        simp only [decide_eq_false hn]
        clear hn
        go_enter Try.func30, Try.ntmps30
        go_wp2
        go_ret
        exact ⟨rfl, hB.out⟩
    by_cases h5 : k = 5
    · subst h5
      rw [same_5]
      by_cases hnm : N = N'
      · subst hnm
        obtain ⟨B, hBB⟩ : ∃ B, sameYs l l' = B := ⟨_, rfl⟩
        rw [hBB]
        have HB0 : Hid (sameYs (l.drop 0) (l'.drop 0) = B) := by show _ = _; rw [List.drop_zero, List.drop_zero]; exact hBB
        clear hBB
        obtain ⟨W2, hW2⟩ : ∃ W2, ((w.alloc (.cells #[.int .i64 5, .string p, .string m, .int .i64 n, .slice o N c] 29)).alloc (.cells #[.int .i64 5, .string p', .string m', .int .i64 n', .slice o' N c'] 29)) = W2 := ⟨_, rfl⟩
        have hbx := box2 w #[.int .i64 5, .string p, .string m, .int .i64 n, .slice o N c] #[.int .i64 5, .string p', .string m', .int .i64 n', .slice o' N c']
        rw [hW2] at hbx hB
        have HBX := Lib.hid hbx
        have HW2 := Lib.hid hW2
        clear hbx hW2
        go_enter Try.func30, Try.ntmps30
        go_wp2
        change Code.wp Try.prog _ _ _ ((w.alloc (.cells #[.int .i64 5, .string p, .string m, .int .i64 n, .slice o N c] 29)).alloc (.cells #[.int .i64 5, .string p', .string m', .int .i64 n', .slice o' N c'] 29))
        rw [HW2.out]
        go_loopw [6] (fun i wr => ∃ j : Nat, i = .int .i64 (j : Nat) ∧ Hid (j ≤ N) ∧ Hid (sameYs (l.drop j) (l'.drop j) = B) ∧ Hid (In2 W2 wr w.heap.size #[.int .i64 5, .string p, .string m, .int .i64 n, .slice o N c] #[.int .i64 5, .string p', .string m', .int .i64 n', .slice o' N c'])) (fun i _ => N - (RowKit.intOf i).toNat)
        case atStart => exact ⟨0, rfl, Nat.zero_le _, HB0, HBX.out.start⟩
        case round =>
          obtain ⟨j, rfl, HJ, HA, HR⟩ := hrel
          clear HB0 HW2
          have c4 : wr.cell? ⟨w.heap.size, 4, none⟩ = some (.slice o N c) := HR.out.one.cell 4
          have d4 : wr.cell? ⟨w.heap.size + 1, 4, none⟩ = some (.slice o' N c') := HR.out.two.cell 4
          by_cases hj : j < N
          · have hj' : ((j : Int) < (N : Int)) := by omega
            have hj0 : (0 : Int) ≤ (j : Int) := by omega
            have hwj := IntWalk.i64_in ((j : Int) + 1) ⟨by omega, by omega⟩
            obtain ⟨x, hx⟩ : ∃ x, l[j]? = some x := ⟨_, List.getElem?_eq_getElem (by rw [HN.out]; exact hj)⟩
            obtain ⟨y, hy⟩ : ∃ y, l'[j]? = some y := ⟨_, List.getElem?_eq_getElem (by rw [HN'.out]; exact hj)⟩
            have hmem := List.mem_of_getElem? hx
            have hmem' := List.mem_of_getElem? hy
            obtain ⟨a, a0, a1, a2, a3, a4, rfl, hc, hyx⟩ := HX.out.at_ j hx
            obtain ⟨b, b0, b1, b2, b3, b4, rfl, hd, hyy⟩ := HY.out.at_ j hy
            rw [Nat.zero_add] at hc hd
            have hww : Below w.heap.size w wr := HBX.out.below.trans (HR.out.below.mono (by omega))
            have HC : Hid (∀ (i : Nat) (v : Value), [a0, a1, a2, a3, a4][i]? = some v → wr.cell? ((a.add (j * 5)).add i) = some v) := fun i v h => (hww.cell (World.block_lt_of_cell? _ _ (hc i v h))).trans (hc i v h)
            have HDD : Hid (∀ (i : Nat) (v : Value), [b0, b1, b2, b3, b4][i]? = some v → wr.cell? ((b.add (j * 5)).add i) = some v) := fun i v h => (hww.cell (World.block_lt_of_cell? _ _ (hd i v h))).trans (hd i v h)
            have HD := Lib.hid (sames_drop hx hy)
            have HF := Lib.hid (fun W (hb : Below wr.heap.size wr W) => HI.out x hmem y _ _ W ((hyx.below hww).below hb) ((hyy.below hww).below hb))
            clear hc hd hmem hmem' hyx hyy hww hx hy
            obtain ⟨Z, hZ⟩ : ∃ Z, sameY x y = Z := ⟨_, rfl⟩
            rw [hZ] at HD HF
            clear hZ
            cases Z
            · have HBF : Hid (false = B) := by have h1 := HA.out; rw [HD.out, Bool.false_and] at h1; exact h1
              clear HA HD
              go_wp2_with fail
              refine wp_region_still_tail 10 (by kernel_rfl) (by kernel_rfl) ?_
              simp only [List.take_succ_cons, List.take_zero, List.drop_succ_cons, List.drop_zero]
              iterate 4 still_step
              refine stillLoadG 29 5 size5 Try.underlying29 rfl _ rfl (a.add (j * 5)) rfl HC.out rfl ?_
              iterate 4 still_step
              refine stillLoadG 29 5 size5 Try.underlying29 rfl _ rfl (b.add (j * 5)) rfl HDD.out rfl ?_
              refine wpStill_nil ?_
              change wpList _ _ _ _ _ wr.drew
              go_wp2_with fail
              refine (HF.out _ (Below.refl _ _).drew).mono ?_
              rintro e w5 ⟨rfl, hb⟩
              have HR5 := Lib.hid (HR.out.step HBX.out.size (undrewY hb))
              clear hb HC HDD HF c4 d4
              go_wp2
              go_ret
              exact ⟨by rw [← HBF.out]; rfl, HBX.out.below.trans (HR5.out.below.mono (by omega))⟩
            · have HBT : Hid (sameYs (l.drop (j + 1)) (l'.drop (j + 1)) = B) := by have h1 := HA.out; rw [HD.out, Bool.true_and] at h1; exact h1
              clear HA HD
              go_wp2_with fail
              refine wp_region_still_tail 10 (by kernel_rfl) (by kernel_rfl) ?_
              simp only [List.take_succ_cons, List.take_zero, List.drop_succ_cons, List.drop_zero]
              iterate 4 still_step
              refine stillLoadG 29 5 size5 Try.underlying29 rfl _ rfl (a.add (j * 5)) rfl HC.out rfl ?_
              iterate 4 still_step
              refine stillLoadG 29 5 size5 Try.underlying29 rfl _ rfl (b.add (j * 5)) rfl HDD.out rfl ?_
              refine wpStill_nil ?_
              change wpList _ _ _ _ _ wr.drew
              go_wp2_with fail
              refine (HF.out _ (Below.refl _ _).drew).mono ?_
              rintro e w5 ⟨rfl, hb⟩
              have HR5 := Lib.hid (HR.out.step HBX.out.size (undrewY hb))
              clear hb HC HDD HF c4 d4
              go_wp2
              case roundEnd => exact ⟨⟨j + 1, by push_cast; rfl, hj, HBT, HR5⟩, by simp [RowKit.intOf]; omega⟩
          · have hj' : ¬ ((j : Int) < (N : Int)) := by omega
            have hA := HA.out
            rw [List.drop_of_length_le (by rw [HN.out]; omega), List.drop_of_length_le (by rw [HN'.out]; omega), sameYs] at hA
            subst hA
            go_wp2
            go_ret
            exact ⟨rfl, HBX.out.below.trans (HR.out.below.mono (by omega))⟩
      · have e1 : (N == N') = false := beq_eq_false_iff_ne.2 hnm
        have hne : ¬ ((N : Int) = (N' : Int)) := by omega
        have e2 : ((N : Int) == (N' : Int)) = false := beq_eq_false_iff_ne.2 hne
        rw [sames_len (by rw [HN.out, HN'.out]; exact hnm)]
        clear hnm e1
        go_enter Try.func30, Try.ntmps30
        go_wp2
        go_ret
        exact ⟨rfl, hB.out⟩
    by_cases hkn : 0 ≤ k ∧ k ≤ 7
    · rw [same_pl (by omega)]
      have f4 : (k == 4) = false := beq_eq_false_iff_ne.2 h4
      have f5 : (k == 5) = false := beq_eq_false_iff_ne.2 h5
      have f6 : (k == 6) = false := beq_eq_false_iff_ne.2 h6
      obtain ⟨hk1, hk2⟩ := hkn
      go_enter Try.func30, Try.ntmps30
      go_wp2
      go_ret
      exact ⟨rfl, hB.out⟩
    have f4 : (k == 4) = false := beq_eq_false_iff_ne.2 h4
    have f5 : (k == 5) = false := beq_eq_false_iff_ne.2 h5
    have f6 : (k == 6) = false := beq_eq_false_iff_ne.2 h6
    have hx : knownK k = false := by unfold knownK; simpa using hkn
    rw [same_x hx]
    have hgd : decide ((0 : Int) ≤ k) = false ∨ (decide ((0 : Int) ≤ k) = true ∧ decide (k ≤ 7) = false) := by
      by_cases h : (0 : Int) ≤ k
      · exact .inr ⟨decide_eq_true h, decide_eq_false (fun h2 => hkn ⟨h, h2⟩)⟩
      · exact .inl (decide_eq_false h)
    clear hx hkn h4 h5 h6
    by_cases hp : p = p'
    case neg =>
      have e1 := bytes_ne hp
      simp only [decide_eq_false hp, Bool.false_and]
      clear hp
      rcases hgd with hg1 | ⟨hg1, hg2⟩
      all_goals
        go_enter Try.func30, Try.ntmps30
        go_wp2
        go_ret
        exact ⟨rfl, hB.out⟩
    subst hp
    by_cases hm : m = m'
    case neg =>
      have e1 := bytes_ne hm
      simp only [decide_true, decide_eq_false hm, Bool.true_and, Bool.false_and]
      clear hm
      rcases hgd with hg1 | ⟨hg1, hg2⟩
      all_goals
        go_enter Try.func30, Try.ntmps30
        go_wp2
        go_ret
        exact ⟨rfl, hB.out⟩
    subst hm
    by_cases hn : n = n'
    case neg =>
      have e1 : (n == n') = false := beq_eq_false_iff_ne.2 hn
      simp only [decide_true, decide_eq_false hn, Bool.true_and, Bool.false_and]
      clear hn
      rcases hgd with hg1 | ⟨hg1, hg2⟩
      all_goals
        go_enter Try.func30, Try.ntmps30
        go_wp2
        go_ret
        exact ⟨rfl, hB.out⟩
    subst hn
    simp only [decide_true, Bool.true_and]
    rcases hgd with hg1 | ⟨hg1, hg2⟩
    all_goals
      by_cases hnm : N = N'
      · subst hnm
        obtain ⟨B, hBB⟩ : ∃ B, sameYs l l' = B := ⟨_, rfl⟩
        rw [hBB]
        have HB0 : Hid (sameYs (l.drop 0) (l'.drop 0) = B) := by show _ = _; rw [List.drop_zero, List.drop_zero]; exact hBB
        clear hBB
        obtain ⟨W2, hW2⟩ : ∃ W2, ((w.alloc (.cells #[.int .i64 k, .string p, .string m, .int .i64 n, .slice o N c] 29)).alloc (.cells #[.int .i64 k, .string p, .string m, .int .i64 n, .slice o' N c'] 29)) = W2 := ⟨_, rfl⟩
        have hbx := box2 w #[.int .i64 k, .string p, .string m, .int .i64 n, .slice o N c] #[.int .i64 k, .string p, .string m, .int .i64 n, .slice o' N c']
        rw [hW2] at hbx hB
        have HBX := Lib.hid hbx
        have HW2 := Lib.hid hW2
        clear hbx hW2
        go_enter Try.func30, Try.ntmps30
        go_wp2
        change Code.wp Try.prog _ _ _ ((w.alloc (.cells #[.int .i64 k, .string p, .string m, .int .i64 n, .slice o N c] 29)).alloc (.cells #[.int .i64 k, .string p, .string m, .int .i64 n, .slice o' N c'] 29))
        rw [HW2.out]
        go_loopw [6] (fun i wr => ∃ j : Nat, i = .int .i64 (j : Nat) ∧ Hid (j ≤ N) ∧ Hid (sameYs (l.drop j) (l'.drop j) = B) ∧ Hid (In2 W2 wr w.heap.size #[.int .i64 k, .string p, .string m, .int .i64 n, .slice o N c] #[.int .i64 k, .string p, .string m, .int .i64 n, .slice o' N c'])) (fun i _ => N - (RowKit.intOf i).toNat)
        case atStart => exact ⟨0, rfl, Nat.zero_le _, HB0, HBX.out.start⟩
        case round =>
          obtain ⟨j, rfl, HJ, HA, HR⟩ := hrel
          clear HB0 HW2
          have c4 : wr.cell? ⟨w.heap.size, 4, none⟩ = some (.slice o N c) := HR.out.one.cell 4
          have d4 : wr.cell? ⟨w.heap.size + 1, 4, none⟩ = some (.slice o' N c') := HR.out.two.cell 4
          by_cases hj : j < N
          · have hj' : ((j : Int) < (N : Int)) := by omega
            have hj0 : (0 : Int) ≤ (j : Int) := by omega
            have hwj := IntWalk.i64_in ((j : Int) + 1) ⟨by omega, by omega⟩
            obtain ⟨x, hx⟩ : ∃ x, l[j]? = some x := ⟨_, List.getElem?_eq_getElem (by rw [HN.out]; exact hj)⟩
            obtain ⟨y, hy⟩ : ∃ y, l'[j]? = some y := ⟨_, List.getElem?_eq_getElem (by rw [HN'.out]; exact hj)⟩
            have hmem := List.mem_of_getElem? hx
            have hmem' := List.mem_of_getElem? hy
            obtain ⟨a, a0, a1, a2, a3, a4, rfl, hc, hyx⟩ := HX.out.at_ j hx
            obtain ⟨b, b0, b1, b2, b3, b4, rfl, hd, hyy⟩ := HY.out.at_ j hy
            rw [Nat.zero_add] at hc hd
            have hww : Below w.heap.size w wr := HBX.out.below.trans (HR.out.below.mono (by omega))
            have HC : Hid (∀ (i : Nat) (v : Value), [a0, a1, a2, a3, a4][i]? = some v → wr.cell? ((a.add (j * 5)).add i) = some v) := fun i v h => (hww.cell (World.block_lt_of_cell? _ _ (hc i v h))).trans (hc i v h)
            have HDD : Hid (∀ (i : Nat) (v : Value), [b0, b1, b2, b3, b4][i]? = some v → wr.cell? ((b.add (j * 5)).add i) = some v) := fun i v h => (hww.cell (World.block_lt_of_cell? _ _ (hd i v h))).trans (hd i v h)
            have HD := Lib.hid (sames_drop hx hy)
            have HF := Lib.hid (fun W (hb : Below wr.heap.size wr W) => HI.out x hmem y _ _ W ((hyx.below hww).below hb) ((hyy.below hww).below hb))
            clear hc hd hmem hmem' hyx hyy hww hx hy
            obtain ⟨Z, hZ⟩ : ∃ Z, sameY x y = Z := ⟨_, rfl⟩
            rw [hZ] at HD HF
            clear hZ
            cases Z
            · have HBF : Hid (false = B) := by have h1 := HA.out; rw [HD.out, Bool.false_and] at h1; exact h1
              clear HA HD
              go_wp2_with fail
              refine wp_region_still_tail 10 (by kernel_rfl) (by kernel_rfl) ?_
              simp only [List.take_succ_cons, List.take_zero, List.drop_succ_cons, List.drop_zero]
              iterate 4 still_step
              refine stillLoadG 29 5 size5 Try.underlying29 rfl _ rfl (a.add (j * 5)) rfl HC.out rfl ?_
              iterate 4 still_step
              refine stillLoadG 29 5 size5 Try.underlying29 rfl _ rfl (b.add (j * 5)) rfl HDD.out rfl ?_
              refine wpStill_nil ?_
              change wpList _ _ _ _ _ wr.drew
              go_wp2_with fail
              refine (HF.out _ (Below.refl _ _).drew).mono ?_
              rintro e w5 ⟨rfl, hb⟩
              have HR5 := Lib.hid (HR.out.step HBX.out.size (undrewY hb))
              clear hb HC HDD HF c4 d4
              go_wp2
              go_ret
              exact ⟨by rw [← HBF.out]; rfl, HBX.out.below.trans (HR5.out.below.mono (by omega))⟩
            · have HBT : Hid (sameYs (l.drop (j + 1)) (l'.drop (j + 1)) = B) := by have h1 := HA.out; rw [HD.out, Bool.true_and] at h1; exact h1
              clear HA HD
              go_wp2_with fail
              refine wp_region_still_tail 10 (by kernel_rfl) (by kernel_rfl) ?_
              simp only [List.take_succ_cons, List.take_zero, List.drop_succ_cons, List.drop_zero]
              iterate 4 still_step
              refine stillLoadG 29 5 size5 Try.underlying29 rfl _ rfl (a.add (j * 5)) rfl HC.out rfl ?_
              iterate 4 still_step
              refine stillLoadG 29 5 size5 Try.underlying29 rfl _ rfl (b.add (j * 5)) rfl HDD.out rfl ?_
              refine wpStill_nil ?_
              change wpList _ _ _ _ _ wr.drew
              go_wp2_with fail
              refine (HF.out _ (Below.refl _ _).drew).mono ?_
              rintro e w5 ⟨rfl, hb⟩
              have HR5 := Lib.hid (HR.out.step HBX.out.size (undrewY hb))
              clear hb HC HDD HF c4 d4
              go_wp2
              case roundEnd => exact ⟨⟨j + 1, by push_cast; rfl, hj, HBT, HR5⟩, by simp [RowKit.intOf]; omega⟩
          · have hj' : ¬ ((j : Int) < (N : Int)) := by omega
            have hA := HA.out
            rw [List.drop_of_length_le (by rw [HN.out]; omega), List.drop_of_length_le (by rw [HN'.out]; omega), sameYs] at hA
            subst hA
            go_wp2
            go_ret
            exact ⟨rfl, HBX.out.below.trans (HR.out.below.mono (by omega))⟩
      · have e1 : (N == N') = false := beq_eq_false_iff_ne.2 hnm
        have hne : ¬ ((N : Int) = (N' : Int)) := by omega
        have e2 : ((N : Int) == (N' : Int)) = false := beq_eq_false_iff_ne.2 hne
        rw [sames_len (by rw [HN.out, HN'.out]; exact hnm)]
        clear hnm e1
        go_enter Try.func30, Try.ntmps30
        go_wp2
        go_ret
        exact ⟨rfl, hB.out⟩
  · have e1 : (k == k') = false := beq_eq_false_iff_ne.2 hk
    rw [same_ne hk]
    clear hk
    go_enter Try.func30, Try.ntmps30
    go_wp2
    go_ret
    exact ⟨rfl, hB.out⟩

end Go.Proofs.Ytmnhilgifjaocaa
