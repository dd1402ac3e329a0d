/-
  Sameness: the program's answer, the document's, and the document's comparison of all of two types. No condition.
  Sameness: the document's answer; the document's comparison of all of two types that are one. No condition.
  The document's comparison of all of two types that are one. No condition.
  The boxes that a call begins with. No condition.
  What a package declares: the document's answer. No condition.
  Alike: the program's answer. No condition.
-/
import Derived.Test.YtlakmniaocpaaaaM02
import Derived.StillTailTactics
import Derived.BigQuiet
import Derived.Test.YtlakmniaocpaaaaM01
namespace Go.Proofs.Ytlakmniaocpaaaa
open Go.RowKit
open Go.Lib hiding intOf
section
variable {k k' n n' : Int} {p p' m m' : ByteArray} {l l' : List GY}
theorem same_ne (h : k ≠ k') : sameY (.mk k p m n l) (.mk k' p' m' n' l') = false := by rw [sameY, decide_eq_false h]; rfl
theorem same_pl (h : k = 0 ∨ k = 1 ∨ k = 2 ∨ k = 3 ∨ k = 7) : sameY (.mk k p m n l) (.mk k p' m' n' l') = true := by
  rw [sameY]
  rcases h with rfl | rfl | rfl | rfl | rfl <;> simp [knownK]
theorem same_4 : sameY (.mk 4 p m n l) (.mk 4 p' m' n' l') = (decide (p = p') && decide (m = m')) := by rw [sameY]; simp [knownK]
theorem same_5 : sameY (.mk 5 p m n l) (.mk 5 p' m' n' l') = sameYs l l' := by rw [sameY]; simp [knownK]
theorem same_6 : sameY (.mk 6 p m n l) (.mk 6 p' m' n' l') = decide (n = n') := by rw [sameY]; simp [knownK]
theorem same_x (h : knownK k = false) : sameY (.mk k p m n l) (.mk k p' m' n' l') = (decide (p = p') && decide (m = m') && decide (n = n') && sameYs l l') := by rw [sameY, h]; simp
end
theorem bytes_ne {p q : ByteArray} (h : ¬ p = q) : (p.toList == q.toList) = false :=
  beq_eq_false_iff_ne.2 fun e => h (by rw [ByteArray.toList_eq, ByteArray.toList_eq] at e; exact bytes_inj e)
set_option maxRecDepth 100000 in
set_option maxHeartbeats 8000000 in
theorem sameP_any : ∀ (s : Nat) (x y : GY) (v u : Value) (w : World), SizeOf.sizeOf x < s → IsY w x v → IsY w y u →
    Calls Try.prog 53 #[v, u] w fun e w' => e = .returned (.bool (sameY x y)) ∧ Below w.heap.size w w' := by
  intro s
  induction s with
  | zero => intro x y v u w h; omega
  | succ s ih =>
  rintro ⟨k, p, m, n, l⟩ ⟨k', p', m', n', l'⟩ v u w hs hv hu
  obtain ⟨o, c, rfl, hl, hc, ha⟩ := hv.parts
  obtain ⟨o', c', rfl, hl', hc', ha'⟩ := hu.parts
  have hB : Hid (Below w.heap.size w ((w.alloc (.cells #[.int .i64 k, .string p, .string m, .int .i64 n, .slice o l.length c] 34)).alloc (.cells #[.int .i64 k', .string p', .string m', .int .i64 n', .slice o' l'.length c'] 34))) :=
    ((Below.refl _ _).alloc (Nat.le_refl _) _).alloc (by simp) _
  have hq : l.length ≤ 9223372036854775807 := by unfold maxLen at hc; omega
  have hq' : l'.length ≤ 9223372036854775807 := by unfold maxLen at hc'; omega
  have HE := Lib.hid (fun (W : World) (hb : Below w.heap.size w W) => eqf_any l l' o o' l.length l'.length c c' W rfl rfl hq hq' (ha.below hb) (ha'.below hb)
    (fun z hz y v u W hv hu => ih z y v u W (by have := List.sizeOf_lt_of_mem hz; simp at hs; omega) hv hu))
  clear ih hv hu ha ha' hl hl' hc hc' hs
  generalize l.length = N at *
  generalize l'.length = N' at *
  by_cases hk : k = k'
  · subst hk
    by_cases h0 : k = 0
    · subst h0
      rw [same_pl (by simp)]
      go_enter Try.func53, Try.ntmps53
      go_wp2
      go_ret
      exact ⟨rfl, hB.out⟩
    by_cases h1 : k = 1
    · subst h1
      rw [same_pl (by simp)]
      go_enter Try.func53, Try.ntmps53
      go_wp2
      go_ret
      exact ⟨rfl, hB.out⟩
    by_cases h2 : k = 2
    · subst h2
      rw [same_pl (by simp)]
      go_enter Try.func53, Try.ntmps53
      go_wp2
      go_ret
      exact ⟨rfl, hB.out⟩
    by_cases h3 : k = 3
    · subst h3
      rw [same_pl (by simp)]
      go_enter Try.func53, Try.ntmps53
      go_wp2
      go_ret
      exact ⟨rfl, hB.out⟩
    by_cases h7 : k = 7
    · subst h7
      rw [same_pl (by simp)]
      go_enter Try.func53, Try.ntmps53
      go_wp2
      go_ret
      exact ⟨rfl, hB.out⟩
    by_cases h4 : k = 4
    · subst h4
      rw [same_4]
      by_cases hp : p = p'
      · subst hp
        by_cases hm : m = m'
        · subst hm
          simp only [decide_true, Bool.and_true]
          go_enter Try.func53, Try.ntmps53
          go_wp2
          go_ret
          exact ⟨rfl, hB.out⟩
        · have e1 := bytes_ne hm
          simp only [decide_true, decide_eq_false hm, Bool.and_false]
          clear hm
          go_enter Try.func53, Try.ntmps53
          go_wp2
          go_ret
          exact ⟨rfl, hB.out⟩
      · have e1 := bytes_ne hp
        simp only [decide_eq_false hp, Bool.false_and]
        clear hp
        go_enter Try.func53, Try.ntmps53
        go_wp2
        go_ret
        exact ⟨rfl, hB.out⟩
    by_cases h5 : k = 5
    · subst h5
      rw [same_5]
      go_enter Try.func53, Try.ntmps53
      go_wp2_with (refine (HE.out _ hB.out).mono ?_; rintro e w5 ⟨rfl, hb⟩; have HB5 : Hid (Below w.heap.size w w5) := hB.out.trans (hb.mono hB.out.size); clear hb)
      go_ret
      exact ⟨rfl, HB5.out⟩
    by_cases h6 : k = 6
    · subst h6
      rw [same_6]
      by_cases hn : n = n'
      · subst hn
        simp only [decide_true]
        go_enter Try.func53, Try.ntmps53
        go_wp2
        go_ret
        exact ⟨rfl, hB.out⟩
      · have e1 : (n == n') = false := beq_eq_false_iff_ne.2 hn
        simp only [decide_eq_false hn]
        clear hn
        go_enter Try.func53, Try.ntmps53
        go_wp2
        go_ret
        exact ⟨rfl, hB.out⟩
    have hx : knownK k = false := by unfold knownK; simp; omega
    rw [same_x hx]
    clear hx
    by_cases hp : p = p'
    · subst hp
      by_cases hm : m = m'
      · subst hm
        by_cases hn : n = n'
        · subst hn
          simp only [decide_true, Bool.true_and]
          go_enter Try.func53, Try.ntmps53
          go_wp2_with (refine (HE.out _ hB.out).mono ?_; rintro e w5 ⟨rfl, hb⟩; have HB5 : Hid (Below w.heap.size w w5) := hB.out.trans (hb.mono hB.out.size); clear hb)
          go_ret
          exact ⟨rfl, HB5.out⟩
        · have e1 : (n == n') = false := beq_eq_false_iff_ne.2 hn
          simp only [decide_true, decide_eq_false hn, Bool.true_and, Bool.false_and]
          clear hn
          go_enter Try.func53, Try.ntmps53
          go_wp2
          go_ret
          exact ⟨rfl, hB.out⟩
      · have e1 := bytes_ne hm
        simp only [decide_true, decide_eq_false hm, Bool.true_and, Bool.false_and]
        clear hm
        go_enter Try.func53, Try.ntmps53
        go_wp2
        go_ret
        exact ⟨rfl, hB.out⟩
    · have e1 := bytes_ne hp
      simp only [decide_eq_false hp, Bool.false_and]
      clear hp
      go_enter Try.func53, Try.ntmps53
      go_wp2
      go_ret
      exact ⟨rfl, hB.out⟩
  · have e1 : (k == k') = false := beq_eq_false_iff_ne.2 hk
    rw [same_ne hk]
    clear hk
    go_enter Try.func53, Try.ntmps53
    go_wp2
    go_ret
    exact ⟨rfl, hB.out⟩
end Go.Proofs.Ytlakmniaocpaaaa
namespace Go.Proofs.Ytlakmniaocpaaaa
open Go.RowKit
open Go.Lib hiding intOf
theorem run_loadG (T : TypeId) (n : Nat) (hi : (Try.prog.info? T).map (·.size) = some n) {fs : _} (hu : Try.prog.underlying T = some (.struct fs)) {o : Oper} {a : Act} {w : World} (x : Operand) (ho : o.op = .load T x) (g : Addr) (hx : a.eval x = .pointer (some g)) {cs : List Value} (hc : ∀ (j : Nat) (v : Value), cs[j]? = some v → w.cell? (g.add j) = some v) (hs : cs.length = n) :
    (execOp a.eval o).run Try.prog w = .ok (.value (.agg cs.toArray)) w := by
  have hl : (loadCells g cs.length).run Try.prog w = .ok cs.toArray w := run_loadCells_list (P := Try.prog) w g cs hc
  have hsv : (loadVar T g).run Try.prog w = .ok (.agg cs.toArray) w := by
    obtain ⟨i, hi, hi'⟩ := Option.map_eq_some_iff.1 hi
    have hagg : (isAgg T).run Try.prog w = .ok true w := by
      unfold isAgg
      rw [Sem.run_bind, run_underlying hu w]
      rfl
    rw [hs] at hl
    generalize cs.toArray = cs at *
    simp [loadVar, Sem.run_bind, hagg, sizeOf, typeInfo, hi, hi', hl]
  unfold execOp
  simp only [ho, hx, Instr.loadAt, Instr.sureAddr, Sem.run_bind, Sem.run_pure, Result.andThen_ok, hsv]
/-- A struct at any place read whole, among operations that only read. -/
theorem stillLoadG (T : TypeId) (n : Nat) (hi : (Try.prog.info? T).map (·.size) = some n) {fs : _} (hu : Try.prog.underlying T = some (.struct fs)) {ops : Array Oper} {rest : List Oper} {o : Oper} {a : Act} {w : World} {Q : Act → Prop} (hgd : o.guard = none) (x : Operand) (ho : o.op = .load T x) (g : Addr) (hx : a.eval x = .pointer (some g)) {cs : List Value} (hc : ∀ (j : Nat) (v : Value), cs[j]? = some v → w.cell? (g.add j) = some v) (hs : cs.length = n)
    (h : wpStill Try.prog ops w Q rest (a.put o.dst (.agg cs.toArray))) : wpStill Try.prog ops w Q (o :: rest) a := by
  have hr := run_loadG T n hi hu x ho g hx hc hs
  refine wpStill_step fun K hK => ?_
  have hw : Region.wanted o (yielded ops a.tmps) = true := by simp [Region.wanted, hgd]
  rw [if_pos hw]
  unfold Oper.still
  rw [hr, Oper.stillUpon_value]
  exact hK _ h
theorem undrewY {B : Nat} {w w' : World} (h : Below B w.drew w') : Below B w w' := ⟨h.os, h.tape, h.output, h.size, h.block⟩
/-- Two boxes behind each other. -/
structure Box2 (w W : World) (g : Nat) (A B : Array Value) : Prop where
  size : W.heap.size = g + 1 + 1
  below : Below g w W
  one : Blk W g 34 A
  two : Blk W (g + 1) 34 B
theorem box2 (w : World) (A B : Array Value) : Box2 w ((w.alloc (.cells A 34)).alloc (.cells B 34)) w.heap.size A B := by
  refine ⟨by simp, ((Below.refl _ _).alloc (Nat.le_refl _) _).alloc (by simp) _, (Blk.new w _ _).kept (World.grownBy_alloc _ _ none) (by simp), ?_⟩
  have := Blk.new (w.alloc (.cells A 34)) 34 B
  rw [World.size_alloc] at this
  exact this
/-- What stands later. -/
structure In2 (W wr : World) (g : Nat) (A B : Array Value) : Prop where
  below : Below (g + 1 + 1) W wr
  one : Blk wr g 34 A
  two : Blk wr (g + 1) 34 B
theorem Box2.start {w W : World} {g : Nat} {A B : Array Value} (h : Box2 w W g A B) : In2 W W g A B := ⟨Below.refl _ _, h.one, h.two⟩
theorem In2.step {W wr w' : World} {g : Nat} {A B : Array Value} (h : In2 W wr g A B) (hs : W.heap.size = g + 1 + 1) (hb : Below wr.heap.size wr w') : In2 W w' g A B := by
  have := h.below.size
  exact ⟨h.below.trans (hb.mono (by omega)), (hb.block g (by have := h.one.lt; omega)).trans h.one, (hb.block (g + 1) (by have := h.two.lt; omega)).trans h.two⟩
set_option maxRecDepth 100000 in
set_option maxHeartbeats 8000000 in
/-- The loop's own part. -/
theorem sameR_any : ∀ (s : Nat) (x y : GY) (v u : Value) (w : World), SizeOf.sizeOf x < s → IsY w x v → IsY w y u →
    Calls Try.prog 58 #[v, u] w fun e w' => e = .returned (.bool (sameY x y)) ∧ Below w.heap.size w w' := by
  intro s
  induction s with
  | zero => intro x y v u w h; omega
  | succ s ih =>
  rintro ⟨k, p, m, n, l⟩ ⟨k', p', m', n', l'⟩ v u w hs hv hu
  obtain ⟨o, c, rfl, hl, hc, ha⟩ := hv.parts
  obtain ⟨o', c', rfl, hl', hc', ha'⟩ := hu.parts
  have hB : Hid (Below w.heap.size w ((w.alloc (.cells #[.int .i64 k, .string p, .string m, .int .i64 n, .slice o l.length c] 34)).alloc (.cells #[.int .i64 k', .string p', .string m', .int .i64 n', .slice o' l'.length c'] 34))) :=
    ((Below.refl _ _).alloc (Nat.le_refl _) _).alloc (by simp) _
  have hq : l.length ≤ 9223372036854775807 := by unfold maxLen at hc; omega
  have hq' : l'.length ≤ 9223372036854775807 := by unfold maxLen at hc'; omega
  have HI : Hid (∀ z ∈ l, ∀ (y : GY) (v u : Value) (W : World), IsY W z v → IsY W y u → Calls Try.prog 58 #[v, u] W fun e W' => e = .returned (.bool (sameY z y)) ∧ Below W.heap.size W W') :=
    fun z hz y v u W hv hu => ih z y v u W (by have := List.sizeOf_lt_of_mem hz; simp at hs; omega) hv hu
  have HX := Lib.hid ha
  have HY := Lib.hid ha'
  clear ih hv hu ha ha' hl hl' hc hc' hs
  obtain ⟨N, hN⟩ : ∃ N, l.length = N := ⟨_, rfl⟩
  obtain ⟨N', hN'⟩ : ∃ N', l'.length = N' := ⟨_, rfl⟩
  rw [hN] at hB hq ⊢
  rw [hN'] at hB hq' ⊢
  have HN := Lib.hid hN
  have HN' := Lib.hid hN'
  clear hN hN'
  by_cases hk : k = k'
  · subst hk
    by_cases h4 : k = 4
    · subst h4
      rw [same_4]
      by_cases hp : p = p'
      · subst hp
        by_cases hm : m = m'
        · subst hm
          simp only [decide_true, Bool.and_true]
          go_enter Try.func58, Try.ntmps58
          go_wp2
          go_ret
          exact ⟨rfl, hB.out⟩
        · have e1 := bytes_ne hm
          simp only [decide_true, decide_eq_false hm, Bool.and_false]
          clear hm
          go_enter Try.func58, Try.ntmps58
          go_wp2
          go_ret
          exact ⟨rfl, hB.out⟩
      · have e1 := bytes_ne hp
        simp only [decide_eq_false hp, Bool.false_and]
        clear hp
        go_enter Try.func58, Try.ntmps58
        go_wp2
        go_ret
        exact ⟨rfl, hB.out⟩
    by_cases h6 : k = 6
    · subst h6
      rw [same_6]
      by_cases hn : n = n'
      · subst hn
        simp only [decide_true]
        go_enter Try.func58, Try.ntmps58
        go_wp2
        go_ret
        exact ⟨rfl, hB.out⟩
      · have e1 : (n == n') = false := beq_eq_false_iff_ne.2 hn
        simp only [decide_eq_false hn]
        clear hn
        go_enter Try.func58, Try.ntmps58
        go_wp2
        go_ret
        exact ⟨rfl, hB.out⟩
    by_cases h5 : k = 5
    · subst h5
      rw [same_5]
      by_cases hnm : N = N'
      · subst hnm
        obtain ⟨B, hBB⟩ : ∃ B, sameYs l l' = B := ⟨_, rfl⟩
        rw [hBB]
        have HB0 : Hid (sameYs (l.drop 0) (l'.drop 0) = B) := by show _ = _; rw [List.drop_zero, List.drop_zero]; exact hBB
        clear hBB
        obtain ⟨W2, hW2⟩ : ∃ W2, ((w.alloc (.cells #[.int .i64 5, .string p, .string m, .int .i64 n, .slice o N c] 34)).alloc (.cells #[.int .i64 5, .string p', .string m', .int .i64 n', .slice o' N c'] 34)) = W2 := ⟨_, rfl⟩
        have hbx := box2 w #[.int .i64 5, .string p, .string m, .int .i64 n, .slice o N c] #[.int .i64 5, .string p', .string m', .int .i64 n', .slice o' N c']
        rw [hW2] at hbx hB
        have HBX := Lib.hid hbx
        have HW2 := Lib.hid hW2
        clear hbx hW2
        go_enter Try.func58, Try.ntmps58
        go_wp2
        change Code.wp Try.prog _ _ _ ((w.alloc (.cells #[.int .i64 5, .string p, .string m, .int .i64 n, .slice o N c] 34)).alloc (.cells #[.int .i64 5, .string p', .string m', .int .i64 n', .slice o' N c'] 34))
        rw [HW2.out]
        go_loopw [6] (fun i wr => ∃ j : Nat, i = .int .i64 (j : Nat) ∧ Hid (j ≤ N) ∧ Hid (sameYs (l.drop j) (l'.drop j) = B) ∧ Hid (In2 W2 wr w.heap.size #[.int .i64 5, .string p, .string m, .int .i64 n, .slice o N c] #[.int .i64 5, .string p', .string m', .int .i64 n', .slice o' N c'])) (fun i _ => N - (RowKit.intOf i).toNat)
        case atStart => exact ⟨0, rfl, Nat.zero_le _, HB0, HBX.out.start⟩
        case round =>
          obtain ⟨j, rfl, HJ, HA, HR⟩ := hrel
          clear HB0 HW2
          have c4 : wr.cell? ⟨w.heap.size, 4, none⟩ = some (.slice o N c) := HR.out.one.cell 4
          have d4 : wr.cell? ⟨w.heap.size + 1, 4, none⟩ = some (.slice o' N c') := HR.out.two.cell 4
          by_cases hj : j < N
          · have hj' : ((j : Int) < (N : Int)) := by omega
            have hj0 : (0 : Int) ≤ (j : Int) := by omega
            have hwj := IntWalk.i64_in ((j : Int) + 1) ⟨by omega, by omega⟩
            obtain ⟨x, hx⟩ : ∃ x, l[j]? = some x := ⟨_, List.getElem?_eq_getElem (by rw [HN.out]; exact hj)⟩
            obtain ⟨y, hy⟩ : ∃ y, l'[j]? = some y := ⟨_, List.getElem?_eq_getElem (by rw [HN'.out]; exact hj)⟩
            have hmem := List.mem_of_getElem? hx
            have hmem' := List.mem_of_getElem? hy
            obtain ⟨a, a0, a1, a2, a3, a4, rfl, hc, hyx⟩ := HX.out.at_ j hx
            obtain ⟨b, b0, b1, b2, b3, b4, rfl, hd, hyy⟩ := HY.out.at_ j hy
            rw [Nat.zero_add] at hc hd
            have hww : Below w.heap.size w wr := HBX.out.below.trans (HR.out.below.mono (by omega))
            have HC : Hid (∀ (i : Nat) (v : Value), [a0, a1, a2, a3, a4][i]? = some v → wr.cell? ((a.add (j * 5)).add i) = some v) := fun i v h => (hww.cell (World.block_lt_of_cell? _ _ (hc i v h))).trans (hc i v h)
            have HDD : Hid (∀ (i : Nat) (v : Value), [b0, b1, b2, b3, b4][i]? = some v → wr.cell? ((b.add (j * 5)).add i) = some v) := fun i v h => (hww.cell (World.block_lt_of_cell? _ _ (hd i v h))).trans (hd i v h)
            have HD := Lib.hid (sames_drop hx hy)
            have HF := Lib.hid (fun W (hb : Below wr.heap.size wr W) => HI.out x hmem y _ _ W ((hyx.below hww).below hb) ((hyy.below hww).below hb))
            clear hc hd hmem hmem' hyx hyy hww hx hy
            obtain ⟨Z, hZ⟩ : ∃ Z, sameY x y = Z := ⟨_, rfl⟩
            rw [hZ] at HD HF
            clear hZ
            cases Z
            · have HBF : Hid (false = B) := by have h1 := HA.out; rw [HD.out, Bool.false_and] at h1; exact h1
              clear HA HD
              go_wp2_with fail
              refine wp_region_still_tail 10 (by kernel_rfl) (by kernel_rfl) ?_
              simp only [List.take_succ_cons, List.take_zero, List.drop_succ_cons, List.drop_zero]
              iterate 4 still_step
              refine stillLoadG 34 5 size5 Try.underlying34 rfl _ rfl (a.add (j * 5)) rfl HC.out rfl ?_
              iterate 4 still_step
              refine stillLoadG 34 5 size5 Try.underlying34 rfl _ rfl (b.add (j * 5)) rfl HDD.out rfl ?_
              refine wpStill_nil ?_
              change wpList _ _ _ _ _ wr.drew
              go_wp2_with fail
              refine (HF.out _ (Below.refl _ _).drew).mono ?_
              rintro e w5 ⟨rfl, hb⟩
              have HR5 := Lib.hid (HR.out.step HBX.out.size (undrewY hb))
              clear hb HC HDD HF c4 d4
              go_wp2
              go_ret
              exact ⟨by rw [← HBF.out]; rfl, HBX.out.below.trans (HR5.out.below.mono (by omega))⟩
            · have HBT : Hid (sameYs (l.drop (j + 1)) (l'.drop (j + 1)) = B) := by have h1 := HA.out; rw [HD.out, Bool.true_and] at h1; exact h1
              clear HA HD
              go_wp2_with fail
              refine wp_region_still_tail 10 (by kernel_rfl) (by kernel_rfl) ?_
              simp only [List.take_succ_cons, List.take_zero, List.drop_succ_cons, List.drop_zero]
              iterate 4 still_step
              refine stillLoadG 34 5 size5 Try.underlying34 rfl _ rfl (a.add (j * 5)) rfl HC.out rfl ?_
              iterate 4 still_step
              refine stillLoadG 34 5 size5 Try.underlying34 rfl _ rfl (b.add (j * 5)) rfl HDD.out rfl ?_
              refine wpStill_nil ?_
              change wpList _ _ _ _ _ wr.drew
              go_wp2_with fail
              refine (HF.out _ (Below.refl _ _).drew).mono ?_
              rintro e w5 ⟨rfl, hb⟩
              have HR5 := Lib.hid (HR.out.step HBX.out.size (undrewY hb))
              clear hb HC HDD HF c4 d4
              go_wp2
              case roundEnd => exact ⟨⟨j + 1, by push_cast; rfl, hj, HBT, HR5⟩, by simp [RowKit.intOf]; omega⟩
          · have hj' : ¬ ((j : Int) < (N : Int)) := by omega
            have hA := HA.out
            rw [List.drop_of_length_le (by rw [HN.out]; omega), List.drop_of_length_le (by rw [HN'.out]; omega), sameYs] at hA
            subst hA
            go_wp2
            go_ret
            exact ⟨rfl, HBX.out.below.trans (HR.out.below.mono (by omega))⟩
      · have e1 : (N == N') = false := beq_eq_false_iff_ne.2 hnm
        have hne : ¬ ((N : Int) = (N' : Int)) := by omega
        have e2 : ((N : Int) == (N' : Int)) = false := beq_eq_false_iff_ne.2 hne
        rw [sames_len (by rw [HN.out, HN'.out]; exact hnm)]
        clear hnm e1
        go_enter Try.func58, Try.ntmps58
        go_wp2
        go_ret
        exact ⟨rfl, hB.out⟩
    by_cases hkn : 0 ≤ k ∧ k ≤ 7
    · rw [same_pl (by omega)]
      have f4 : (k == 4) = false := beq_eq_false_iff_ne.2 h4
      have f5 : (k == 5) = false := beq_eq_false_iff_ne.2 h5
      have f6 : (k == 6) = false := beq_eq_false_iff_ne.2 h6
      obtain ⟨hk1, hk2⟩ := hkn
      go_enter Try.func58, Try.ntmps58
      go_wp2
      go_ret
      exact ⟨rfl, hB.out⟩
    have f4 : (k == 4) = false := beq_eq_false_iff_ne.2 h4
    have f5 : (k == 5) = false := beq_eq_false_iff_ne.2 h5
    have f6 : (k == 6) = false := beq_eq_false_iff_ne.2 h6
    have hx : knownK k = false := by unfold knownK; simpa using hkn
    rw [same_x hx]
    have hgd : decide ((0 : Int) ≤ k) = false ∨ (decide ((0 : Int) ≤ k) = true ∧ decide (k ≤ 7) = false) := by
      by_cases h : (0 : Int) ≤ k
      · exact .inr ⟨decide_eq_true h, decide_eq_false (fun h2 => hkn ⟨h, h2⟩)⟩
      · exact .inl (decide_eq_false h)
    clear hx hkn h4 h5 h6
    by_cases hp : p = p'
    case neg =>
      have e1 := bytes_ne hp
      simp only [decide_eq_false hp, Bool.false_and]
      clear hp
      rcases hgd with hg1 | ⟨hg1, hg2⟩
      all_goals
        go_enter Try.func58, Try.ntmps58
        go_wp2
        go_ret
        exact ⟨rfl, hB.out⟩
    subst hp
    by_cases hm : m = m'
    case neg =>
      have e1 := bytes_ne hm
      simp only [decide_true, decide_eq_false hm, Bool.true_and, Bool.false_and]
      clear hm
      rcases hgd with hg1 | ⟨hg1, hg2⟩
      all_goals
        go_enter Try.func58, Try.ntmps58
        go_wp2
        go_ret
        exact ⟨rfl, hB.out⟩
    subst hm
    by_cases hn : n = n'
    case neg =>
      have e1 : (n == n') = false := beq_eq_false_iff_ne.2 hn
      simp only [decide_true, decide_eq_false hn, Bool.true_and, Bool.false_and]
      clear hn
      rcases hgd with hg1 | ⟨hg1, hg2⟩
      all_goals
        go_enter Try.func58, Try.ntmps58
        go_wp2
        go_ret
        exact ⟨rfl, hB.out⟩
    subst hn
    simp only [decide_true, Bool.true_and]
    rcases hgd with hg1 | ⟨hg1, hg2⟩
    all_goals
      by_cases hnm : N = N'
      · subst hnm
        obtain ⟨B, hBB⟩ : ∃ B, sameYs l l' = B := ⟨_, rfl⟩
        rw [hBB]
        have HB0 : Hid (sameYs (l.drop 0) (l'.drop 0) = B) := by show _ = _; rw [List.drop_zero, List.drop_zero]; exact hBB
        clear hBB
        obtain ⟨W2, hW2⟩ : ∃ W2, ((w.alloc (.cells #[.int .i64 k, .string p, .string m, .int .i64 n, .slice o N c] 34)).alloc (.cells #[.int .i64 k, .string p, .string m, .int .i64 n, .slice o' N c'] 34)) = W2 := ⟨_, rfl⟩
        have hbx := box2 w #[.int .i64 k, .string p, .string m, .int .i64 n, .slice o N c] #[.int .i64 k, .string p, .string m, .int .i64 n, .slice o' N c']
        rw [hW2] at hbx hB
        have HBX := Lib.hid hbx
        have HW2 := Lib.hid hW2
        clear hbx hW2
        go_enter Try.func58, Try.ntmps58
        go_wp2
        change Code.wp Try.prog _ _ _ ((w.alloc (.cells #[.int .i64 k, .string p, .string m, .int .i64 n, .slice o N c] 34)).alloc (.cells #[.int .i64 k, .string p, .string m, .int .i64 n, .slice o' N c'] 34))
        rw [HW2.out]
        go_loopw [6] (fun i wr => ∃ j : Nat, i = .int .i64 (j : Nat) ∧ Hid (j ≤ N) ∧ Hid (sameYs (l.drop j) (l'.drop j) = B) ∧ Hid (In2 W2 wr w.heap.size #[.int .i64 k, .string p, .string m, .int .i64 n, .slice o N c] #[.int .i64 k, .string p, .string m, .int .i64 n, .slice o' N c'])) (fun i _ => N - (RowKit.intOf i).toNat)
        case atStart => exact ⟨0, rfl, Nat.zero_le _, HB0, HBX.out.start⟩
        case round =>
          obtain ⟨j, rfl, HJ, HA, HR⟩ := hrel
          clear HB0 HW2
          have c4 : wr.cell? ⟨w.heap.size, 4, none⟩ = some (.slice o N c) := HR.out.one.cell 4
          have d4 : wr.cell? ⟨w.heap.size + 1, 4, none⟩ = some (.slice o' N c') := HR.out.two.cell 4
          by_cases hj : j < N
          · have hj' : ((j : Int) < (N : Int)) := by omega
            have hj0 : (0 : Int) ≤ (j : Int) := by omega
            have hwj := IntWalk.i64_in ((j : Int) + 1) ⟨by omega, by omega⟩
            obtain ⟨x, hx⟩ : ∃ x, l[j]? = some x := ⟨_, List.getElem?_eq_getElem (by rw [HN.out]; exact hj)⟩
            obtain ⟨y, hy⟩ : ∃ y, l'[j]? = some y := ⟨_, List.getElem?_eq_getElem (by rw [HN'.out]; exact hj)⟩
            have hmem := List.mem_of_getElem? hx
            have hmem' := List.mem_of_getElem? hy
            obtain ⟨a, a0, a1, a2, a3, a4, rfl, hc, hyx⟩ := HX.out.at_ j hx
            obtain ⟨b, b0, b1, b2, b3, b4, rfl, hd, hyy⟩ := HY.out.at_ j hy
            rw [Nat.zero_add] at hc hd
            have hww : Below w.heap.size w wr := HBX.out.below.trans (HR.out.below.mono (by omega))
            have HC : Hid (∀ (i : Nat) (v : Value), [a0, a1, a2, a3, a4][i]? = some v → wr.cell? ((a.add (j * 5)).add i) = some v) := fun i v h => (hww.cell (World.block_lt_of_cell? _ _ (hc i v h))).trans (hc i v h)
            have HDD : Hid (∀ (i : Nat) (v : Value), [b0, b1, b2, b3, b4][i]? = some v → wr.cell? ((b.add (j * 5)).add i) = some v) := fun i v h => (hww.cell (World.block_lt_of_cell? _ _ (hd i v h))).trans (hd i v h)
            have HD := Lib.hid (sames_drop hx hy)
            have HF := Lib.hid (fun W (hb : Below wr.heap.size wr W) => HI.out x hmem y _ _ W ((hyx.below hww).below hb) ((hyy.below hww).below hb))
            clear hc hd hmem hmem' hyx hyy hww hx hy
            obtain ⟨Z, hZ⟩ : ∃ Z, sameY x y = Z := ⟨_, rfl⟩
            rw [hZ] at HD HF
            clear hZ
            cases Z
            · have HBF : Hid (false = B) := by have h1 := HA.out; rw [HD.out, Bool.false_and] at h1; exact h1
              clear HA HD
              go_wp2_with fail
              refine wp_region_still_tail 10 (by kernel_rfl) (by kernel_rfl) ?_
              simp only [List.take_succ_cons, List.take_zero, List.drop_succ_cons, List.drop_zero]
              iterate 4 still_step
              refine stillLoadG 34 5 size5 Try.underlying34 rfl _ rfl (a.add (j * 5)) rfl HC.out rfl ?_
              iterate 4 still_step
              refine stillLoadG 34 5 size5 Try.underlying34 rfl _ rfl (b.add (j * 5)) rfl HDD.out rfl ?_
              refine wpStill_nil ?_
              change wpList _ _ _ _ _ wr.drew
              go_wp2_with fail
              refine (HF.out _ (Below.refl _ _).drew).mono ?_
              rintro e w5 ⟨rfl, hb⟩
              have HR5 := Lib.hid (HR.out.step HBX.out.size (undrewY hb))
              clear hb HC HDD HF c4 d4
              go_wp2
              go_ret
              exact ⟨by rw [← HBF.out]; rfl, HBX.out.below.trans (HR5.out.below.mono (by omega))⟩
            · have HBT : Hid (sameYs (l.drop (j + 1)) (l'.drop (j + 1)) = B) := by have h1 := HA.out; rw [HD.out, Bool.true_and] at h1; exact h1
              clear HA HD
              go_wp2_with fail
              refine wp_region_still_tail 10 (by kernel_rfl) (by kernel_rfl) ?_
              simp only [List.take_succ_cons, List.take_zero, List.drop_succ_cons, List.drop_zero]
              iterate 4 still_step
              refine stillLoadG 34 5 size5 Try.underlying34 rfl _ rfl (a.add (j * 5)) rfl HC.out rfl ?_
              iterate 4 still_step
              refine stillLoadG 34 5 size5 Try.underlying34 rfl _ rfl (b.add (j * 5)) rfl HDD.out rfl ?_
              refine wpStill_nil ?_
              change wpList _ _ _ _ _ wr.drew
              go_wp2_with fail
              refine (HF.out _ (Below.refl _ _).drew).mono ?_
              rintro e w5 ⟨rfl, hb⟩
              have HR5 := Lib.hid (HR.out.step HBX.out.size (undrewY hb))
              clear hb HC HDD HF c4 d4
              go_wp2
              case roundEnd => exact ⟨⟨j + 1, by push_cast; rfl, hj, HBT, HR5⟩, by simp [RowKit.intOf]; omega⟩
          · have hj' : ¬ ((j : Int) < (N : Int)) := by omega
            have hA := HA.out
            rw [List.drop_of_length_le (by rw [HN.out]; omega), List.drop_of_length_le (by rw [HN'.out]; omega), sameYs] at hA
            subst hA
            go_wp2
            go_ret
            exact ⟨rfl, HBX.out.below.trans (HR.out.below.mono (by omega))⟩
      · have e1 : (N == N') = false := beq_eq_false_iff_ne.2 hnm
        have hne : ¬ ((N : Int) = (N' : Int)) := by omega
        have e2 : ((N : Int) == (N' : Int)) = false := beq_eq_false_iff_ne.2 hne
        rw [sames_len (by rw [HN.out, HN'.out]; exact hnm)]
        clear hnm e1
        go_enter Try.func58, Try.ntmps58
        go_wp2
        go_ret
        exact ⟨rfl, hB.out⟩
  · have e1 : (k == k') = false := beq_eq_false_iff_ne.2 hk
    rw [same_ne hk]
    clear hk
    go_enter Try.func58, Try.ntmps58
    go_wp2
    go_ret
    exact ⟨rfl, hB.out⟩
end Go.Proofs.Ytlakmniaocpaaaa
namespace Go.Proofs.Ytlakmniaocpaaaa
open Go.RowKit
open Go.Lib hiding intOf
set_option maxRecDepth 100000 in
set_option maxHeartbeats 8000000 in
theorem equal_any : ∀ (s : Nat) (x : GY) (v u : Value) (w : World), SizeOf.sizeOf x < s → IsY w x v → IsY w x u →
    Calls Try.prog 19 #[v, u] w fun e w' => e = .returned (.bool true) ∧ Below w.heap.size w w' := by
  intro s
  induction s with
  | zero => intro x v u w h; omega
  | succ s ih =>
  rintro ⟨k, p, m, n, l⟩ v u w hs hv hu
  obtain ⟨o, c, rfl, hl, hc, ha⟩ := hv.parts
  obtain ⟨o', c', rfl, hl', hc', ha'⟩ := hu.parts
  have hq : l.length ≤ 9223372036854775807 := by unfold maxLen at hc; omega
  have HI : Hid (∀ z ∈ l, ∀ (v u : Value) (W : World), IsY W z v → IsY W z u → Calls Try.prog 19 #[v, u] W fun e W' => e = .returned (.bool true) ∧ Below W.heap.size W W') :=
    fun z hz v u W hv hu => ih z v u W (by have := List.sizeOf_lt_of_mem hz; simp at hs; omega) hv hu
  have HX := Lib.hid ha
  have HY := Lib.hid ha'
  clear ih hv hu ha ha' hl hl' hc hc' hs
  obtain ⟨N, hN⟩ : ∃ N, l.length = N := ⟨_, rfl⟩
  rw [hN] at hq ⊢
  have HN := Lib.hid hN
  clear hN
  obtain ⟨W2, hW2⟩ : ∃ W2, ((w.alloc (.cells #[.int .i64 k, .string p, .string m, .int .i64 n, .slice o N c] 34)).alloc (.cells #[.int .i64 k, .string p, .string m, .int .i64 n, .slice o' N c'] 34)) = W2 := ⟨_, rfl⟩
  have hbx := box2 w #[.int .i64 k, .string p, .string m, .int .i64 n, .slice o N c] #[.int .i64 k, .string p, .string m, .int .i64 n, .slice o' N c']
  rw [hW2] at hbx
  have HBX := Lib.hid hbx
  have HW2 := Lib.hid hW2
  have HB0 := Lib.hid (Nat.zero_le N)
  clear hbx hW2
  go_enter Try.func19, Try.ntmps19
  go_wp2
  change Code.wp Try.prog _ _ _ ((w.alloc (.cells #[.int .i64 k, .string p, .string m, .int .i64 n, .slice o N c] 34)).alloc (.cells #[.int .i64 k, .string p, .string m, .int .i64 n, .slice o' N c'] 34))
  rw [HW2.out]
  go_loopw [5] (fun i wr => ∃ j : Nat, i = .int .i64 (j : Nat) ∧ Hid (j ≤ N) ∧ Hid (j ≤ N) ∧ Hid (In2 W2 wr w.heap.size #[.int .i64 k, .string p, .string m, .int .i64 n, .slice o N c] #[.int .i64 k, .string p, .string m, .int .i64 n, .slice o' N c'])) (fun i _ => N - (RowKit.intOf i).toNat)
  case atStart => exact ⟨0, rfl, Nat.zero_le _, HB0, HBX.out.start⟩
  case round =>
    obtain ⟨j, rfl, HJ, HA, HR⟩ := hrel
    clear HB0 HW2
    have c4 : wr.cell? ⟨w.heap.size, 4, none⟩ = some (.slice o N c) := HR.out.one.cell 4
    have d4 : wr.cell? ⟨w.heap.size + 1, 4, none⟩ = some (.slice o' N c') := HR.out.two.cell 4
    by_cases hj : j < N
    · have hj' : ((j : Int) < (N : Int)) := by omega
      have hj0 : (0 : Int) ≤ (j : Int) := by omega
      have hwj := IntWalk.i64_in ((j : Int) + 1) ⟨by omega, by omega⟩
      obtain ⟨x, hx⟩ : ∃ x, l[j]? = some x := ⟨_, List.getElem?_eq_getElem (by rw [HN.out]; exact hj)⟩
      obtain ⟨y, hy⟩ : ∃ y, l[j]? = some y := ⟨_, List.getElem?_eq_getElem (by rw [HN.out]; exact hj)⟩
      have hmem := List.mem_of_getElem? hx
      have hmem' := List.mem_of_getElem? hy
      obtain ⟨a, a0, a1, a2, a3, a4, rfl, hc, hyx⟩ := HX.out.at_ j hx
      obtain ⟨b, b0, b1, b2, b3, b4, rfl, hd, hyy⟩ := HY.out.at_ j hy
      rw [Nat.zero_add] at hc hd
      have hww : Below w.heap.size w wr := HBX.out.below.trans (HR.out.below.mono (by omega))
      have HC : Hid (∀ (i : Nat) (v : Value), [a0, a1, a2, a3, a4][i]? = some v → wr.cell? ((a.add (j * 5)).add i) = some v) := fun i v h => (hww.cell (World.block_lt_of_cell? _ _ (hc i v h))).trans (hc i v h)
      have HDD : Hid (∀ (i : Nat) (v : Value), [b0, b1, b2, b3, b4][i]? = some v → wr.cell? ((b.add (j * 5)).add i) = some v) := fun i v h => (hww.cell (World.block_lt_of_cell? _ _ (hd i v h))).trans (hd i v h)
      obtain rfl : x = y := by rw [hx] at hy; injection hy
      have HF := Lib.hid (fun W (hb : Below wr.heap.size wr W) => HI.out x hmem _ _ W ((hyx.below hww).below hb) ((hyy.below hww).below hb))
      clear hc hd hmem hmem' hyx hyy hww hx hy
      go_wp2_with fail
      refine wp_region_still_tail 10 (by kernel_rfl) (by kernel_rfl) ?_
      simp only [List.take_succ_cons, List.take_zero, List.drop_succ_cons, List.drop_zero]
      iterate 4 still_step
      refine stillLoadG 34 5 size5 Try.underlying34 rfl _ rfl (a.add (j * 5)) rfl HC.out rfl ?_
      iterate 4 still_step
      refine stillLoadG 34 5 size5 Try.underlying34 rfl _ rfl (b.add (j * 5)) rfl HDD.out rfl ?_
      refine wpStill_nil ?_
      change wpList _ _ _ _ _ wr.drew
      go_wp2_with fail
      refine (HF.out _ (Below.refl _ _).drew).mono ?_
      rintro e w5 ⟨rfl, hb⟩
      have HR5 := Lib.hid (HR.out.step HBX.out.size (undrewY hb))
      clear hb HC HDD HF c4 d4
      go_wp2
      case roundEnd => exact ⟨⟨j + 1, by push_cast; rfl, hj, hj, HR5⟩, by simp [RowKit.intOf]; omega⟩
    · have hj' : ¬ ((j : Int) < (N : Int)) := by omega
      clear hj
      go_wp2
      go_ret
      exact ⟨rfl, HBX.out.below.trans (HR.out.below.mono (by omega))⟩
end Go.Proofs.Ytlakmniaocpaaaa
namespace Go.Proofs.Ytlakmniaocpaaaa
open Go.RowKit
open Go.Lib hiding intOf
theorem blkB {W W' : World} {k : Nat} {t : TypeId} {cs : Array Value} (h : Blk W k t cs) (hb : Below W.heap.size W W') : Blk W' k t cs := (hb.block k h.lt).trans h
/-- The boxes that were made first. -/
def BX (w W : World) (L : List (TypeId × Array Value)) : Prop := W.heap.size = w.heap.size + L.length ∧ Below w.heap.size w W ∧ ∀ (i : Nat) (x : TypeId × Array Value), L[i]? = some x → Blk W (w.heap.size + i) x.1 x.2
theorem BX.nil (w : World) : BX w w [] := ⟨rfl, Below.refl _ _, fun i x h => by simp at h⟩
theorem BX.snoc {w W : World} {L : List (TypeId × Array Value)} (h : BX w W L) (cs : Array Value) (t : TypeId) : BX w (W.alloc (.cells cs t)) (L ++ [(t, cs)]) := by
  refine ⟨by rw [World.size_alloc, h.1, List.length_append]; simp; omega, h.2.1.alloc (by rw [h.1]; omega) _, fun i x hx => ?_⟩
  by_cases hi : i < L.length
  · rw [List.getElem?_append_left hi] at hx
    exact (h.2.2 i x hx).kept (World.grownBy_alloc _ _ none) (by simp)
  · rw [List.getElem?_append_right (by omega)] at hx
    have : i - L.length = 0 := by
      have := (List.getElem?_eq_some_iff.1 hx).1
      simp at this
      omega
    rw [this] at hx
    simp only [List.getElem?_cons_zero, Option.some.injEq] at hx
    subst hx
    have := Blk.new W t cs
    rw [h.1] at this
    rwa [show i = L.length by omega]
theorem BX.at_ {w W wr : World} {L : List (TypeId × Array Value)} (h : BX w W L) (hB : Below W.heap.size W wr) (i : Nat) {t : TypeId} {cs : Array Value} (hx : L[i]? = some (t, cs)) : Blk wr (w.heap.size + i) t cs := blkB (h.2.2 i _ hx) hB
theorem BX.below {w W wr : World} {L : List (TypeId × Array Value)} (h : BX w W L) (hB : Below W.heap.size W wr) : Below w.heap.size w wr := h.2.1.trans (hB.mono (by rw [h.1]; omega))
theorem bx1 (w : World) (c0 : Array Value) (t0 : TypeId) : ∃ W, w.alloc (.cells c0 t0) = W ∧ Hid (BX w W [(t0, c0)]) := ⟨_, rfl, (BX.nil w).snoc _ _⟩
theorem bx2 (w : World) (c0 c1 : Array Value) (t0 t1 : TypeId) : ∃ W, (w.alloc (.cells c0 t0)).alloc (.cells c1 t1) = W ∧ Hid (BX w W [(t0, c0), (t1, c1)]) := ⟨_, rfl, ((BX.nil w).snoc _ _).snoc _ _⟩
theorem bx3 (w : World) (c0 c1 c2 : Array Value) (t0 t1 t2 : TypeId) : ∃ W, ((w.alloc (.cells c0 t0)).alloc (.cells c1 t1)).alloc (.cells c2 t2) = W ∧ Hid (BX w W [(t0, c0), (t1, c1), (t2, c2)]) := ⟨_, rfl, (((BX.nil w).snoc _ _).snoc _ _).snoc _ _⟩
theorem at0 {w : World} {a : Addr} {u : Value} (h : w.cell? (a.add 0) = some u) : w.cell? a = some u := by
  rwa [show a.add 0 = a by unfold Addr.add; split <;> simp_all] at h
theorem atS {w : World} {a : Addr} {n : Nat} {u : Value} (h : w.cell? (a.add (n + 1)) = some u) : w.cell? ⟨a.block, a.off + (n + 1), none⟩ = some u := by
  rwa [show a.add (n + 1) = ⟨a.block, a.off + (n + 1), none⟩ by unfold Addr.add; simp] at h
theorem far1 {w : World} {p q : Addr} {u v : Value} (h : w.cell? p = some u) (hp : ¬ p.block = q.block) : (w.setCell q v).cell? p = some u := (World.cell?_of_block (Below.heap_setCell w q v p.block hp)).trans h
theorem far4 {w : World} {B : Nat} {p : Addr} {u v0 v1 v2 v3 : Value} (h : w.cell? p = some u) (hp : ¬ p.block = B) : ((((w.setCell ⟨B, 0, none⟩ v0).setCell ⟨B, 1, none⟩ v1).setCell ⟨B, 2, none⟩ v2).setCell ⟨B, 3, none⟩ v3).cell? p = some u := far1 (far1 (far1 (far1 h hp) hp) hp) hp
theorem below4 {B g : Nat} {w V : World} (h : Below B w V) (hg : B ≤ g) (v0 v1 v2 v3 : Value) : Below B w ((((V.setCell ⟨g, 0, none⟩ v0).setCell ⟨g, 1, none⟩ v1).setCell ⟨g, 2, none⟩ v2).setCell ⟨g, 3, none⟩ v3) := (((h.setCell hg v0).setCell hg v1).setCell hg v2).setCell hg v3
theorem below5 {B g : Nat} {w V : World} (h : Below B w V) (hg : B ≤ g) (v0 v1 v2 v3 v4 : Value) : Below B w (((((V.setCell ⟨g, 0, none⟩ v0).setCell ⟨g, 1, none⟩ v1).setCell ⟨g, 2, none⟩ v2).setCell ⟨g, 3, none⟩ v3).setCell ⟨g, 4, none⟩ v4) := (below4 h hg v0 v1 v2 v3).setCell hg v4
theorem IsTd.set4 {w V : World} {g : Nat} {d : TD} {c : List Value} (h : IsTd w d c) (hb : Below w.heap.size w V) (hg : w.heap.size ≤ g) (v0 v1 v2 v3 : Value) : IsTd ((((V.setCell ⟨g, 0, none⟩ v0).setCell ⟨g, 1, none⟩ v1).setCell ⟨g, 2, none⟩ v2).setCell ⟨g, 3, none⟩ v3) d c := h.below (below4 hb hg v0 v1 v2 v3)
theorem mvc {w W : World} {A : Addr} {c : List Value} (hb : Below w.heap.size w W) (hc : ∀ (j : Nat) (u : Value), c[j]? = some u → w.cell? (A.add j) = some u) (j : Nat) (u : Value) (h : c[j]? = some u) : W.cell? (A.add j) = some u := cells_below hb _ _ (hc j u h)
theorem stepB {B : Nat} {w W w' : World} (h : Below B w W) (hb : Below W.heap.size W w') (hB : B ≤ w.heap.size) : Below B w w' := h.trans (hb.mono (Nat.le_trans hB h.size))
theorem find_none {α : Type} {p : α → Bool} {l : List α} (h : ∀ (i : Nat) (x : α), l[i]? = some x → p x = false) : l.find? p = none := by
  rw [List.find?_eq_none]
  intro x hx
  obtain ⟨i, hi⟩ := List.getElem?_of_mem hx
  rw [h i x hi]
  simp
theorem find_at {α : Type} {p : α → Bool} : ∀ {l : List α} {j : Nat} {y : α}, l[j]? = some y → p y = true → (∀ (i : Nat) (x : α), i < j → l[i]? = some x → p x = false) → l.find? p = some y
  | [], j, y, h, _, _ => by simp at h
  | x :: r, 0, y, h, hp, _ => by
    simp only [List.getElem?_cons_zero, Option.some.injEq] at h
    subst h
    rw [List.find?_cons_of_pos hp]
  | x :: r, j + 1, y, h, hp, hb => by
    rw [List.find?_cons_of_neg (by rw [hb 0 x (by omega) rfl]; simp)]
    exact find_at (l := r) (j := j) (by simpa using h) hp fun i z hi hz => hb (i + 1) z (by omega) (by simpa using hz)
end Go.Proofs.Ytlakmniaocpaaaa
namespace Go.Proofs.Ytlakmniaocpaaaa
open Go.RowKit
open Go.Lib hiding intOf
set_option maxRecDepth 100000 in
set_option maxHeartbeats 8000000 in
theorem declR_any (p : IF) (m : ByteArray) (c : List Value) (w0 w : World) (h : IsIf w0 p c) (h0 : Below w0.heap.size w0 w) :
    Calls Try.prog 80 #[.agg c.toArray, .string m] w fun e w' => ∃ d, e = .returned (.tuple #[.agg d.toArray, .bool (declI p m).isSome]) ∧ IsTd w0 ((declI p m).getD zeroD) d ∧ Below w.heap.size w w' := by
  obtain ⟨o, o2, k, n2, k2, rfl, hl, hk, hrow⟩ := h
  obtain ⟨pkg, T⟩ := p
  dsimp only at hl hrow ⊢
  have hq : T.length ≤ 9223372036854775807 := by unfold maxLen at hk; omega
  obtain ⟨N, hN⟩ : ∃ N, T.length = N := ⟨_, rfl⟩
  rw [hN] at hq ⊢
  obtain ⟨W2, hW2, HBX⟩ := bx2 w #[.string pkg, .slice o N k, .slice o2 n2 k2] #[.string noB, .bool false, .slice none 0 0, .slice none 0 0] 62 58
  have HW2 := Lib.hid hW2
  have HN := Lib.hid hN
  have HR := Lib.hid hrow
  have H0 := Lib.hid h0
  have HB0 := Lib.hid (Nat.zero_le N)
  have HD : Hid (declI ⟨pkg, T⟩ m = T.find? fun d => decide (d.name = m)) := rfl
  have HU0 : Hid (∀ i (x : TD), i < 0 → T[i]? = some x → decide (x.name = m) = false) := fun i x hi => by omega
  clear hl hk hrow hW2 hN h0
  generalize declI ⟨pkg, T⟩ m = R at *
  go_enter Try.func80, Try.ntmps80
  go_wp2
  rw [HW2.out]
  go_loopw [6] (fun i wr => ∃ j : Nat, i = .int .i64 (j : Nat) ∧ Hid (j ≤ N) ∧ Hid (∀ i (x : TD), i < j → T[i]? = some x → decide (x.name = m) = false) ∧ Hid (Below W2.heap.size W2 wr)) (fun i _ => N - (RowKit.intOf i).toNat)
  case atStart => exact ⟨0, rfl, HB0, HU0, Below.refl _ _⟩
  case round =>
    obtain ⟨j, rfl, HJ, HA, HB⟩ := hrel
    clear HB0 HW2 HU0
    have c0 : ∀ i, wr.cell? ⟨w.heap.size, i, none⟩ = _ := (HBX.out.at_ HB.out 0 rfl).cell
    have c1 : ∀ i, wr.cell? ⟨w.heap.size + 1, i, none⟩ = _ := (HBX.out.at_ HB.out 1 rfl).cell
    have f1 := (HBX.out.at_ HB.out 1 rfl).frozen
    by_cases hj : j < N
    · have hj' : ((j : Int) < (N : Int)) := by omega
      have hj0 : (0 : Int) ≤ (j : Int) := by omega
      have hwj := IntWalk.i64_in ((j : Int) + 1) ⟨by omega, by omega⟩
      obtain ⟨x, hx⟩ : ∃ x, T[j]? = some x := ⟨_, List.getElem?_eq_getElem (by rw [HN.out]; exact hj)⟩
      obtain ⟨a, c, rfl, hlc, hc, hyx⟩ := HR.out j x hx
      have HT := Lib.hid hyx
      obtain ⟨o3, o4, k3, k4, rfl, g⟩ := hyx
      have hc := fun i u h => cells_below (H0.out.trans ((HBX.out.below HB.out).mono H0.out.size)) _ u (hc i u h)
      have e0 := at0 (hc 0 _ rfl)
      have HC := Lib.hid hc
      by_cases hm : x.name = m
      · subst hm
        have HQ : Hid (R = some x) := by
          rw [HD.out]
          exact find_at hx (by simp) fun i y hi hy => HA.out i y hi hy
        clear hc g hlc hx
        go_wp2_with (refine boxLoadG 58 4 (by kernel_rfl) Try.underlying58 rfl _ rfl (a.add (j * 4)) rfl HC.out rfl ?_)
        refine bodyPost_ret (v := .tuple #[.agg #[.string x.name, .bool x.strct, .slice o3 x.fields.length k3, .slice o4 x.meths.length k4], .bool true]) (by simp [results, Try.results80, go_sem, c1]) rfl ?_
        rw [HQ.out]
        have hb := below4 (g := w.heap.size + 1) (HBX.out.below HB.out) (Nat.le_succ _) (.string x.name) (.bool x.strct) (.slice o3 x.fields.length k3) (.slice o4 x.meths.length k4)
        exact ⟨_, rfl, HT.out, hb⟩
      · have hne := bytes_ne hm
        have HA2 : Hid (∀ i (y : TD), i < j + 1 → T[i]? = some y → decide (y.name = m) = false) := fun i y hi hy => by
          by_cases e : i < j
          · exact HA.out i y e hy
          · obtain rfl : i = j := by omega
            rw [hx] at hy
            cases hy
            exact decide_eq_false hm
        clear hc g hlc hx hm HC HT
        go_wp2
        case roundEnd => exact ⟨⟨j + 1, by push_cast; rfl, hj, HA2, HB⟩, by simp [RowKit.intOf]; omega⟩
    · have hj' : ¬ ((j : Int) < (N : Int)) := by omega
      have HQ : Hid (R = none) := by
        rw [HD.out]
        exact find_none fun i x hx => HA.out i x (by have := (List.getElem?_eq_some_iff.1 hx).1; have := HN.out; omega) hx
      clear hj
      go_wp2
      refine bodyPost_ret (v := .tuple #[.agg #[.string noB, .bool false, .slice none 0 0, .slice none 0 0], .bool false]) (by simp [results, Try.results80, go_sem, c1]) rfl ?_
      rw [HQ.out]
      have hb := below4 (g := w.heap.size + 1) (HBX.out.below HB.out) (Nat.le_succ _) (.string noB) (.bool false) (.slice none 0 0) (.slice none 0 0)
      exact ⟨_, rfl, IsTd.zero, hb⟩
end Go.Proofs.Ytlakmniaocpaaaa
namespace Go.Proofs.Ytlakmniaocpaaaa
open Go.RowKit
open Go.Lib hiding intOf
theorem alikes_drop {l q : List GY} {j : Nat} {x y : GY} (hx : l[j]? = some x) (hy : q[j]? = some y) : alikeYs (l.drop j) (q.drop j) = (alikeY x y && alikeYs (l.drop (j + 1)) (q.drop (j + 1))) := by
  obtain ⟨h1, rfl⟩ := List.getElem?_eq_some_iff.1 hx
  obtain ⟨h2, rfl⟩ := List.getElem?_eq_some_iff.1 hy
  rw [List.drop_eq_getElem_cons h1, List.drop_eq_getElem_cons h2, alikeYs]
set_option maxRecDepth 100000 in
set_option maxHeartbeats 4000000 in
theorem eqa_any (l q : List GY) (o o' : Option Addr) (n m c c' : Nat) (w : World) (hn : l.length = n) (hm : q.length = m) (hn2 : n ≤ 9223372036854775807) (hm2 : m ≤ 9223372036854775807) (h : IsYs w o 0 l) (h' : IsYs w o' 0 q)
    (H : ∀ x ∈ l, ∀ (y : GY) (v u : Value) (W : World), IsY W x v → IsY W y u → Calls Try.prog 40 #[v, u] W fun e W' => e = .returned (.bool (alikeY x y)) ∧ Below W.heap.size W W') :
    Calls Try.prog 52 #[.slice o n c, .slice o' m c', .func (.func 40) #[] #[]] w fun e w' => e = .returned (.bool (alikeYs l q)) ∧ Below w.heap.size w w' := by
  by_cases hnm : n = m
  · subst hnm
    obtain ⟨B, hB⟩ : ∃ B, alikeYs l q = B := ⟨_, rfl⟩
    rw [hB]
    have HB : Hid (alikeYs (l.drop 0) (q.drop 0) = B) := by show _ = _; rw [List.drop_zero, List.drop_zero]; exact hB
    have HX := Lib.hid h
    have HY := Lib.hid h'
    have HN := Lib.hid hn
    have HM := Lib.hid hm
    have HH := Lib.hid H
    clear hB h h' H hn hm
    go_enter Try.func52, Try.ntmps52
    go_wp2
    go_loopw [17] (fun i wr => ∃ j : Nat, i = .int .i64 (j : Nat) ∧ Hid (j ≤ n) ∧ Hid (alikeYs (l.drop j) (q.drop j) = B) ∧ Hid (Below w.heap.size w wr)) (fun i _ => n - (RowKit.intOf i).toNat)
    case atStart => exact ⟨0, rfl, Nat.zero_le _, HB, Below.refl _ _⟩
    case round =>
      obtain ⟨j, rfl, HJ, HA, HW⟩ := hrel
      clear HB
      by_cases hj : j < n
      · have hj' : ((j : Int) < (n : Int)) := by omega
        have hj0 : (0 : Int) ≤ (j : Int) := by omega
        have hwj := IntWalk.i64_in ((j : Int) + 1) ⟨by omega, by omega⟩
        obtain ⟨x, hx⟩ : ∃ x, l[j]? = some x := ⟨_, List.getElem?_eq_getElem (by rw [HN.out]; exact hj)⟩
        obtain ⟨y, hy⟩ : ∃ y, q[j]? = some y := ⟨_, List.getElem?_eq_getElem (by rw [HM.out]; exact hj)⟩
        have HD := Lib.hid (alikes_drop hx hy)
        have hmem := List.mem_of_getElem? hx
        obtain ⟨a, c0, c1, c2, c3, c4, rfl, hc, hyx⟩ := HX.out.at_ j hx
        obtain ⟨b, d0, d1, d2, d3, d4, rfl, hd, hyy⟩ := HY.out.at_ j hy
        rw [Nat.zero_add] at hc hd
        have ho1 := hyx.ones
        have ho2 := hyy.ones
        have HC := Lib.hid hc
        have HDD := Lib.hid hd
        have HO1 := Lib.hid ho1
        have HO2 := Lib.hid ho2
        have HF := Lib.hid (fun W (hb : Below w.heap.size w W) => HH.out _ hmem y _ _ W (hyx.below hb) (hyy.below hb))
        have hbs := HW.out.size
        clear hc hd ho1 ho2 hyx hyy hmem hx hy
        have HW1 : Hid (Below w.heap.size w (wr.alloc (.cells #[c0, c1, c2, c3, c4] 34))) := HW.out.alloc hbs _
        have HW2 : Hid (Below w.heap.size w ((wr.alloc (.cells #[c0, c1, c2, c3, c4] 34)).alloc (.cells #[d0, d1, d2, d3, d4] 34))) := HW1.out.alloc (by simp; omega) _
        have K1 : Hid (Blk ((wr.alloc (.cells #[c0, c1, c2, c3, c4] 34)).alloc (.cells #[d0, d1, d2, d3, d4] 34)) wr.heap.size 34 #[c0, c1, c2, c3, c4]) := (Blk.new wr _ _).kept (World.grownBy_alloc _ _ none) (by simp)
        have K2 : Hid (Blk ((wr.alloc (.cells #[c0, c1, c2, c3, c4] 34)).alloc (.cells #[d0, d1, d2, d3, d4] 34)) (wr.heap.size + 1) 34 #[d0, d1, d2, d3, d4]) := by
          have := Blk.new (wr.alloc (.cells #[c0, c1, c2, c3, c4] 34)) 34 #[d0, d1, d2, d3, d4]
          rw [World.size_alloc] at this
          exact this
        obtain ⟨Z, hZ⟩ : ∃ Z, alikeY x y = Z := ⟨_, rfl⟩
        rw [hZ] at HD HF
        clear hZ
        cases Z
        · have HBF : Hid (false = B) := by have h1 := HA.out; rw [HD.out, Bool.false_and] at h1; exact h1
          clear HA HD
          go_wp2_with (first
            | (refine boxLoad 34 5 size5 Try.underlying34 rfl _ rfl (wr.heap.size) rfl (cs := [c0, c1, c2, c3, c4]) K1.out rfl ?_)
            | (refine boxLoad 34 5 size5 Try.underlying34 rfl _ rfl (wr.heap.size + 1) rfl (cs := [d0, d1, d2, d3, d4]) K2.out rfl ?_)
            | (refine boxLoadG 34 5 size5 Try.underlying34 rfl _ rfl _ rfl (cs := [c0, c1, c2, c3, c4]) (fun i v h => (HW.out.cell (World.block_lt_of_cell? _ _ (HC.out i v h))).trans (HC.out i v h)) rfl ?_)
            | (refine boxLoadG 34 5 size5 Try.underlying34 rfl _ rfl _ rfl (cs := [d0, d1, d2, d3, d4]) (fun i v h => (HW1.out.cell (World.block_lt_of_cell? _ _ (HDD.out i v h))).trans (HDD.out i v h)) rfl ?_)
            | (refine boxNew 34 5 size5 rfl _ _ rfl rfl [c0, c1, c2, c3, c4] rfl rfl rfl HO1.out ?_)
            | (refine boxNewAt 34 5 size5 rfl _ _ rfl (wr.heap.size + 1) (World.size_alloc _ _) rfl [d0, d1, d2, d3, d4] rfl rfl rfl HO2.out ?_)
            | (refine (HF.out _ HW2.out).mono ?_; rintro e w5 ⟨rfl, hb⟩; have HB5 : Hid (Below w.heap.size w w5) := HW2.out.trans (hb.mono HW2.out.size); clear hb))
          go_ret
          exact ⟨by rw [← HBF.out]; rfl, HB5.out⟩
        · have HBT : Hid (alikeYs (l.drop (j + 1)) (q.drop (j + 1)) = B) := by have h1 := HA.out; rw [HD.out, Bool.true_and] at h1; exact h1
          clear HA HD
          go_wp2_with (first
            | (refine boxLoad 34 5 size5 Try.underlying34 rfl _ rfl (wr.heap.size) rfl (cs := [c0, c1, c2, c3, c4]) K1.out rfl ?_)
            | (refine boxLoad 34 5 size5 Try.underlying34 rfl _ rfl (wr.heap.size + 1) rfl (cs := [d0, d1, d2, d3, d4]) K2.out rfl ?_)
            | (refine boxLoadG 34 5 size5 Try.underlying34 rfl _ rfl _ rfl (cs := [c0, c1, c2, c3, c4]) (fun i v h => (HW.out.cell (World.block_lt_of_cell? _ _ (HC.out i v h))).trans (HC.out i v h)) rfl ?_)
            | (refine boxLoadG 34 5 size5 Try.underlying34 rfl _ rfl _ rfl (cs := [d0, d1, d2, d3, d4]) (fun i v h => (HW1.out.cell (World.block_lt_of_cell? _ _ (HDD.out i v h))).trans (HDD.out i v h)) rfl ?_)
            | (refine boxNew 34 5 size5 rfl _ _ rfl rfl [c0, c1, c2, c3, c4] rfl rfl rfl HO1.out ?_)
            | (refine boxNewAt 34 5 size5 rfl _ _ rfl (wr.heap.size + 1) (World.size_alloc _ _) rfl [d0, d1, d2, d3, d4] rfl rfl rfl HO2.out ?_)
            | (refine (HF.out _ HW2.out).mono ?_; rintro e w5 ⟨rfl, hb⟩; have HB5 : Hid (Below w.heap.size w w5) := HW2.out.trans (hb.mono HW2.out.size); clear hb))
          case roundEnd => exact ⟨⟨j + 1, by push_cast; rfl, hj, HBT, HB5⟩, by simp [RowKit.intOf]; omega⟩
      · have hj' : ¬ ((j : Int) < (n : Int)) := by omega
        have hA := HA.out
        rw [List.drop_of_length_le (by rw [HN.out]; omega), List.drop_of_length_le (by rw [HM.out]; omega), alikeYs] at hA
        subst hA
        go_wp2
        go_ret
        exact ⟨rfl, HW.out⟩
  · have hB : alikeYs l q = false := alikes_ne (by omega)
    rw [hB]
    have hne : ¬ ((n : Int) = (m : Int)) := by omega
    clear hB h h' H hn hm
    go_enter Try.func52, Try.ntmps52
    go_wp2
    go_ret
    exact ⟨rfl, Below.refl _ _⟩
set_option maxRecDepth 100000 in
set_option maxHeartbeats 8000000 in
theorem alikeP_any : ∀ (s : Nat) (x y : GY) (v u : Value) (w : World), SizeOf.sizeOf x < s → IsY w x v → IsY w y u →
    Calls Try.prog 40 #[v, u] w fun e w' => e = .returned (.bool (alikeY x y)) ∧ Below w.heap.size w w' := by
  intro s
  induction s with
  | zero => intro x y v u w h; omega
  | succ s ih =>
  rintro ⟨k, p, m, n, l⟩ ⟨k', p', m', n', l'⟩ v u w hs hv hu
  have hA : alikeY (.mk k p m n l) (.mk k' p' m' n' l') = if k = 0 ∨ k' = 0 then true else if k = 5 ∧ k' = 5 then alikeYs l l' else sameY (.mk k p m n l) (.mk k' p' m' n' l') := by rw [alikeY]
  have hsm := fun W (hb : Below w.heap.size w W) => sameP_any _ _ _ _ _ W (Nat.lt_succ_self _) (hv.below hb) (hu.below hb)
  obtain ⟨o, c, rfl, hl, hc, ha⟩ := hv.parts
  obtain ⟨o', c', rfl, hl', hc', ha'⟩ := hu.parts
  have hq : l.length ≤ 9223372036854775807 := by unfold maxLen at hc; omega
  have hq' : l'.length ≤ 9223372036854775807 := by unfold maxLen at hc'; omega
  have HE := Lib.hid (fun (W : World) (hb : Below w.heap.size w W) => eqa_any l l' o o' l.length l'.length c c' W rfl rfl hq hq' (ha.below hb) (ha'.below hb)
    (fun z hz y v u W hv hu => ih z y v u W (by have := List.sizeOf_lt_of_mem hz; simp at hs; omega) hv hu))
  have HS := Lib.hid hsm
  clear ih hv hu ha ha' hl hl' hc hc' hs hsm
  generalize sameY (.mk k p m n l) (.mk k' p' m' n' l') = SB at *
  generalize alikeYs l l' = AB at *
  rw [hA]
  clear hA
  generalize l.length = N at *
  generalize l'.length = N' at *
  obtain ⟨W2, hW2, HBX⟩ := bx2 w #[.int .i64 k, .string p, .string m, .int .i64 n, .slice o N c] #[.int .i64 k', .string p', .string m', .int .i64 n', .slice o' N' c'] 34 34
  have hb1 := HBX.out.2.1
  rw [← hW2] at hb1
  have HB1 := Lib.hid hb1
  clear HBX hb1 hW2
  by_cases h0 : k = 0
  · subst h0
    rw [if_pos (by simp)]
    go_enter Try.func40, Try.ntmps40
    go_wp2
    go_ret
    exact ⟨rfl, HB1.out⟩
  have e0 : (k == 0) = false := beq_eq_false_iff_ne.2 h0
  by_cases h0' : k' = 0
  · subst h0'
    rw [if_pos (by simp)]
    go_enter Try.func40, Try.ntmps40
    go_wp2
    go_ret
    exact ⟨rfl, HB1.out⟩
  have e0' : (k' == 0) = false := beq_eq_false_iff_ne.2 h0'
  rw [if_neg (by rintro (e | e) <;> contradiction)]
  by_cases h5 : k = 5
  · subst h5
    by_cases h5' : k' = 5
    · subst h5'
      rw [if_pos ⟨rfl, rfl⟩]
      clear h0 h0' e0 e0' HS
      go_enter Try.func40, Try.ntmps40
      go_wp2_with fail
      refine (HE.out _ HB1.out).mono ?_
      rintro e V ⟨rfl, hb⟩
      have HV := Lib.hid (stepB HB1.out hb (Nat.le_refl _))
      clear hb
      go_wp2
      go_ret
      exact ⟨rfl, HV.out⟩
    · have e5 : (k' == 5) = false := beq_eq_false_iff_ne.2 h5'
      rw [if_neg (by rintro ⟨_, e⟩; contradiction)]
      clear h0 e0 HE h5'
      go_enter Try.func40, Try.ntmps40
      go_wp2_with fail
      refine (HS.out _ HB1.out).mono ?_
      rintro e V ⟨rfl, hb⟩
      have HV := Lib.hid (stepB HB1.out hb (Nat.le_refl _))
      clear hb
      go_wp2
      go_ret
      exact ⟨rfl, HV.out⟩
  · have e5 : (k == 5) = false := beq_eq_false_iff_ne.2 h5
    rw [if_neg (by rintro ⟨e, _⟩; contradiction)]
    clear HE
    go_enter Try.func40, Try.ntmps40
    go_wp2_with fail
    refine (HS.out _ HB1.out).mono ?_
    rintro e V ⟨rfl, hb⟩
    have HV := Lib.hid (stepB HB1.out hb (Nat.le_refl _))
    clear hb
    go_wp2
    go_ret
    exact ⟨rfl, HV.out⟩
end Go.Proofs.Ytlakmniaocpaaaa
