/-
  What a type and what stands there tell: the document's answer. Condition: at most 2^62 types.
  What a type and what stands there tell, walked: the document's answer. Condition: at most 2^62 types.
  What arguments tell of parameters: the document's answer. No condition.
  A function that is called, and what is wrong with a call, in memory; one wrong more. Condition: at most a thousand.
  The first element of a name; what a type is declared to be; whether it is an interface: the program's answers. No condition.
  The first element of a name: one instance. No condition.
  The first element of a name: one instance. No condition.
  What a type is declared to be; whether it is an interface: the program's answers. No condition.
  A type's methods: the program's answers. Condition: names of at most 2^47 bytes, lists of at most 2^47 bytes where methods are copied.
  The first element of a name: one instance. No condition.
-/
import Derived.Test.YtlakmniaocpaaaaM06
import Derived.Test.YtlakmniaocpaaaaM01
import Derived.Test.YtlakmniaocpaaaaM16
import Derived.StillTailTactics
import Derived.Deep.RegionHeld
namespace Go.Proofs.Ytlakmniaocpaaaa
open Go.RowKit
open Go.Lib hiding intOf
/-- Types in a row of the call's own, their parts in the old world. -/
def RowT (w0 W : World) (g : Nat) (ys : List GY) : Prop := ∃ cur : List Value, Blk W g 34 cur.toArray ∧ cur.length = ys.length * 5 ∧ ∀ (i : Nat) (y : GY), ys[i]? = some y → ∃ c0 c1 c2 c3 c4 : Value, (∀ (j : Nat) (v : Value), [c0, c1, c2, c3, c4][j]? = some v → cur[i * 5 + j]? = some v) ∧ IsY w0 y (.agg #[c0, c1, c2, c3, c4])
theorem RowT.blk {w0 W W' : World} {g : Nat} {ys : List GY} (h : RowT w0 W g ys) (hb : ∀ cs, Blk W g 34 cs → Blk W' g 34 cs) : RowT w0 W' g ys := by
  obtain ⟨cur, h1, h2, h3⟩ := h
  exact ⟨cur, hb _ h1, h2, h3⟩
theorem RowT.below {w0 W W' : World} {g : Nat} {ys : List GY} (h : RowT w0 W g ys) (hb : Below W.heap.size W W') : RowT w0 W' g ys := h.blk fun _ h => blkB h hb
theorem RowT.lt {w0 W : World} {g : Nat} {ys : List GY} (h : RowT w0 W g ys) : g < W.heap.size := by
  obtain ⟨cur, h1, _⟩ := h
  exact h1.lt
theorem RowT.ys {w0 W : World} {g : Nat} {ys : List GY} (h : RowT w0 W g ys) (h0 : Below w0.heap.size w0 W) : IsYs W (some ⟨g, 0, none⟩) 0 ys := by
  obtain ⟨cur, h1, h2, h3⟩ := h
  refine IsYs.mk' fun k y hy => ?_
  obtain ⟨c0, c1, c2, c3, c4, g1, g2⟩ := h3 k y hy
  refine ⟨c0, c1, c2, c3, c4, fun j v hv => ?_, g2.below h0⟩
  rw [show (⟨g, 0, none⟩ : Addr).add ((0 + k) * 5 + j) = ⟨g, k * 5 + j, none⟩ by unfold Addr.add; split <;> simp_all, h1.cell]
  simpa using g1 j v hv
theorem tells_drop {ys l q : List GY} {j : Nat} {x y : GY} (hx : l[j]? = some x) (hy : q[j]? = some y) : tellsY ys (l.drop j) (q.drop j) = tellsY (tellY ys x y) (l.drop (j + 1)) (q.drop (j + 1)) := by
  obtain ⟨h1, rfl⟩ := List.getElem?_eq_some_iff.1 hx
  obtain ⟨h2, rfl⟩ := List.getElem?_eq_some_iff.1 hy
  rw [List.drop_eq_getElem_cons h1, List.drop_eq_getElem_cons h2, tellsY]
theorem tells_end {ys l q : List GY} {j : Nat} (h : l.length ≤ j ∨ q.length ≤ j) : tellsY ys (l.drop j) (q.drop j) = ys := by
  rcases h with h | h
  · rw [List.drop_of_length_le h, tellsY]; simp
  · rw [List.drop_of_length_le h]
    cases l.drop j <;> (rw [tellsY]; simp)
theorem turnG {w W W' : World} {g : Nat} (h : Below w.heap.size w W) (hT : Turn (fun k => k = g) W W') : Turn (fun k => k = g) w W' :=
  ((Turn.of_below h).mono fun k hk hs => by omega).trans hT
theorem belowT {w0 w w' : World} {g : Nat} (h : Below w0.heap.size w0 w) (hg : w0.heap.size ≤ g) (hT : Turn (fun k => k = g) w w') : Below w0.heap.size w0 w' := h.trans (hT.below h.size fun k hk => by omega)
theorem blkT {w w' : World} {g k : Nat} {t : TypeId} {cs : Array Value} (h : Blk w k t cs) (hT : Turn (fun k => k = g) w w') (hk : k ≠ g) : Blk w' k t cs := (hT.block k h.lt hk).trans h
/-- One stored. -/
theorem RowT.put {w0 W : World} {g : Nat} {ys : List GY} {cur : List Value} {j : Nat} {a : GY} {b0 b1 b2 b3 b4 : Value} (h1 : Blk W g 34 cur.toArray) (h2 : cur.length = ys.length * 5)
    (h3 : ∀ (i : Nat) (y : GY), ys[i]? = some y → ∃ c0 c1 c2 c3 c4 : Value, (∀ (j : Nat) (v : Value), [c0, c1, c2, c3, c4][j]? = some v → cur[i * 5 + j]? = some v) ∧ IsY w0 y (.agg #[c0, c1, c2, c3, c4])) (hj : j < ys.length) (ha : IsY w0 a (.agg #[b0, b1, b2, b3, b4])) :
    RowT w0 (W.setRow g (putL cur (j * 5) [b0, b1, b2, b3, b4]).toArray) g (ys.set j a) := by
  refine ⟨putL cur (j * 5) [b0, b1, b2, b3, b4], ?_, by rw [putL_len, List.length_set]; exact h2, fun i y hi => ?_⟩
  · exact h1.row _
  · rw [List.getElem?_set] at hi
    by_cases he : j = i
    · subst he
      rw [if_pos rfl, if_pos hj] at hi
      cases hi
      exact ⟨b0, b1, b2, b3, b4, fun k v hv => putL_in _ _ _ _ _ (by rw [h2]; show j * 5 + 5 ≤ _; omega) hv, ha⟩
    · rw [if_neg he] at hi
      obtain ⟨c0, c1, c2, c3, c4, g1, g2⟩ := h3 i y hi
      refine ⟨c0, c1, c2, c3, c4, fun k v hv => ?_, g2⟩
      have hk : k < 5 := (List.getElem?_eq_some_iff.1 hv).1
      rw [putL_out _ _ _ _ (by show _ ∨ j * 5 + 5 ≤ _; omega)]
      exact g1 k v hv
end Go.Proofs.Ytlakmniaocpaaaa
namespace Go.Proofs.Ytlakmniaocpaaaa
open Go.RowKit
open Go.Lib hiding intOf
set_option maxRecDepth 100000 in
set_option maxHeartbeats 8000000 in
theorem tellR_any (w0 : World) (g n : Nat) (hg : w0.heap.size ≤ g) : ∀ (s : Nat) (p a : GY) (v u : Value) (ys : List GY) (w : World), SizeOf.sizeOf p < s → IsY w0 p v → IsY w0 a u → RowT w0 w g ys → ys.length = n → Below w0.heap.size w0 w →
    Calls Try.prog 30 #[.slice (some ⟨g, 0, none⟩) n n, v, u] w fun e w' => (∃ x, e = .returned x) ∧ RowT w0 w' g (tellY ys p a) ∧ Turn (fun k => k = g) w w' := by
  intro s
  induction s with
  | zero => intro p a v u ys w h; omega
  | succ s ih =>
  rintro ⟨k, p, m, i, l⟩ ⟨k', p', m', i', l'⟩ v u ys w hs hv hu hr hl h0
  have hA : tellY ys (.mk k p m i l) (.mk k' p' m' i' l') = if k = 6 then (if 0 ≤ i ∧ i < ys.length ∧ (ys.getD i.toNat noY).kind = 0 ∧ k' ≠ 0 ∧ k' ≠ 7 then ys.set i.toNat (.mk k' p' m' i' l') else ys) else if k = 5 ∧ k' = 5 then tellsY ys l l' else ys := by rw [tellY]
  have HU := Lib.hid hu
  obtain ⟨o, c, rfl, hlc, hc, ha⟩ := hv.parts
  obtain ⟨o', c', rfl, hlc', hc', ha'⟩ := hu.parts
  have hq : l.length ≤ 9223372036854775807 := by unfold maxLen at hc; omega
  have hq' : l'.length ≤ 9223372036854775807 := by unfold maxLen at hc'; omega
  have HI : Hid (∀ z ∈ l, ∀ (a : GY) (v u : Value) (ys : List GY) (W : World), IsY w0 z v → IsY w0 a u → RowT w0 W g ys → ys.length = n → Below w0.heap.size w0 W → Calls Try.prog 30 #[.slice (some ⟨g, 0, none⟩) n n, v, u] W fun e w' => (∃ x, e = .returned x) ∧ RowT w0 w' g (tellY ys z a) ∧ Turn (fun k => k = g) W w') :=
    fun z hz a v u ys W => ih z a v u ys W (by have := List.sizeOf_lt_of_mem hz; simp at hs; omega)
  have HX := Lib.hid ha
  have HY := Lib.hid ha'
  obtain ⟨N, hN⟩ : ∃ N, l.length = N := ⟨_, rfl⟩
  obtain ⟨N', hN'⟩ : ∃ N', l'.length = N' := ⟨_, rfl⟩
  rw [hN] at hq
  rw [hN'] at hq' HU
  rw [hN, hN']
  have HN := Lib.hid hN
  have HN' := Lib.hid hN'
  have H0 := Lib.hid h0
  have HL := Lib.hid hl
  have HR := Lib.hid hr
  obtain ⟨W2, hW2, HBX⟩ := bx2 w #[.int .i64 k, .string p, .string m, .int .i64 i, .slice o N c] #[.int .i64 k', .string p', .string m', .int .i64 i', .slice o' N' c'] 34 34
  have HW2 := Lib.hid hW2
  have hb2 := HBX.out.2.1
  have HR2 := Lib.hid (hr.below hb2)
  have HT2 : Hid (Turn (fun k => k = g) w W2) := (Turn.of_below hb2).mono fun k hk hs => by omega
  have hgw := hr.lt
  have HGW := Lib.hid hgw
  generalize tellY ys (.mk k p m i l) (.mk k' p' m' i' l') = R at *
  have HA := Lib.hid hA
  clear ih hs hv hu hr hl h0 ha ha' hlc hc hlc' hc' hN hN' hW2 hb2 hA
  by_cases h6 : k = 6
  · subst h6
    have HA1 := Lib.hid (HA.out.trans (if_pos rfl))
    clear HA HI HX HY
    by_cases hi0 : 0 ≤ i
    · by_cases hi1 : i < (n : Int)
      · obtain ⟨j, rfl⟩ : ∃ j : Nat, i = (j : Int) := ⟨i.toNat, by omega⟩
        have hj : j < n := by omega
        obtain ⟨cur, hc1, hc2, hc3⟩ := HR2.out
        obtain ⟨y, hy⟩ : ∃ y, ys[j]? = some y := ⟨_, List.getElem?_eq_getElem (by rw [HL.out]; exact hj)⟩
        obtain ⟨c0, c1, c2, c3, c4, hcc, hyy⟩ := hc3 j y hy
        obtain ⟨yk, yp, ym, yi, yl⟩ := y
        obtain ⟨yo, yc, he, _⟩ := hyy.parts
        simp only [Value.agg.injEq, Array.mk.injEq, List.cons.injEq, and_true] at he
        obtain ⟨rfl, rfl, rfl, rfl, rfl⟩ := he
        have hg0 : W2.cell? ⟨g, j * 5, none⟩ = some (.int .i64 yk) := by
          rw [hc1.cell]
          have := hcc 0 _ rfl
          rw [Nat.add_zero] at this
          simpa using this
        have HA2 : Hid (R = if yk = 0 ∧ k' ≠ 0 ∧ k' ≠ 7 then ys.set j (.mk k' p' m' i' l') else ys) := by
          show _ = _
          rw [HA1.out, Int.toNat_natCast, List.getD_eq_getElem?_getD, hy, Option.getD_some]
          show (if 0 ≤ (j : Int) ∧ (j : Int) < (ys.length : Int) ∧ yk = 0 ∧ k' ≠ 0 ∧ k' ≠ 7 then _ else _) = _
          rw [HL.out]
          by_cases hh : yk = 0 ∧ k' ≠ 0 ∧ k' ≠ 7
          · rw [if_pos hh, if_pos ⟨hi0, hi1, hh⟩]
          · rw [if_neg hh, if_neg (fun h => hh h.2.2)]
        have HC1 := Lib.hid hc1
        have HC2 := Lib.hid hc2
        have HC3 := Lib.hid hc3
        clear hc1 hc2 hc3 hcc hyy hy HA1
        by_cases hy0 : yk = 0
        · subst hy0
          by_cases ha0 : k' = 0
          · subst ha0
            have HQ : Hid (R = ys) := HA2.out.trans (if_neg (by simp))
            clear HA2
            go_enter Try.func30, Try.ntmps30
            go_upto_region 1 with fail
            change Code.wp Try.prog _ _ _ ((w.alloc (.cells #[.int .i64 6, .string p, .string m, .int .i64 (j : Int), .slice o N c] 34)).alloc (.cells #[.int .i64 0, .string p', .string m', .int .i64 i', .slice o' N' c'] 34))
            rw [HW2.out]
            have b0 := (HBX.out.at_ (Below.refl _ _) 0 rfl).cell
            rw [Nat.add_zero] at b0
            have b1 := (HBX.out.at_ (Below.refl _ _) 1 rfl).cell
            go_wp2
            refine bodyPost_ret (results_none rfl _ _ _) rfl ?_
            rw [HQ.out]
            exact ⟨⟨_, rfl⟩, HR2.out, HT2.out⟩
          · have e0 : (k' != 0) = true := by simpa using ha0
            by_cases ha7 : k' = 7
            · subst ha7
              have HQ : Hid (R = ys) := HA2.out.trans (if_neg (by simp))
              clear HA2
              go_enter Try.func30, Try.ntmps30
              go_upto_region 1 with fail
              change Code.wp Try.prog _ _ _ ((w.alloc (.cells #[.int .i64 6, .string p, .string m, .int .i64 (j : Int), .slice o N c] 34)).alloc (.cells #[.int .i64 7, .string p', .string m', .int .i64 i', .slice o' N' c'] 34))
              rw [HW2.out]
              have b0 := (HBX.out.at_ (Below.refl _ _) 0 rfl).cell
              rw [Nat.add_zero] at b0
              have b1 := (HBX.out.at_ (Below.refl _ _) 1 rfl).cell
              go_wp2
              refine bodyPost_ret (results_none rfl _ _ _) rfl ?_
              rw [HQ.out]
              exact ⟨⟨_, rfl⟩, HR2.out, HT2.out⟩
            · have e7 : (k' != 7) = true := by simpa using ha7
              have HQ : Hid (R = ys.set j (.mk k' p' m' i' l')) := HA2.out.trans (if_pos ⟨rfl, ha0, ha7⟩)
              have hjj : j * 5 + 5 ≤ cur.length := by rw [HC2.out, HL.out]; omega
              have HJJ := Lib.hid hjj
              clear HA2 ha0 ha7 hjj
              go_enter Try.func30, Try.ntmps30
              go_upto_region 1 with fail
              change Code.wp Try.prog _ _ _ ((w.alloc (.cells #[.int .i64 6, .string p, .string m, .int .i64 (j : Int), .slice o N c] 34)).alloc (.cells #[.int .i64 k', .string p', .string m', .int .i64 i', .slice o' N' c'] 34))
              rw [HW2.out]
              have b0 := (HBX.out.at_ (Below.refl _ _) 0 rfl).cell
              rw [Nat.add_zero] at b0
              have b1 := (HBX.out.at_ (Below.refl _ _) 1 rfl).cell
              go_wp2_with (refine wpList_store_at rfl 34 _ _ rfl g (j * 5) #[.int .i64 k', .string p', .string m', .int .i64 i', .slice o' N' c'] rfl rfl _ cur HC1.out (by rw [size5]; rfl) (by show j * 5 + 5 ≤ _; exact HJJ.out) (by simp; exact ⟨rfl, rfl, rfl, rfl, rfl⟩) ?_)
              refine bodyPost_ret (results_none rfl _ _ _) rfl ?_
              rw [HQ.out]
              exact ⟨⟨_, rfl⟩, RowT.put HC1.out HC2.out HC3.out (by rw [HL.out]; exact hj) HU.out, HT2.out.trans ⟨rfl, rfl, rfl, by simp [World.setRow], fun k _ hk => setRow_other W2 g k _ hk⟩⟩
        · have ey : (yk == 0) = false := beq_eq_false_iff_ne.2 hy0
          have HQ : Hid (R = ys) := HA2.out.trans (if_neg (fun h => hy0 h.1))
          clear HA2 hy0
          go_enter Try.func30, Try.ntmps30
          go_upto_region 1 with fail
          change Code.wp Try.prog _ _ _ ((w.alloc (.cells #[.int .i64 6, .string p, .string m, .int .i64 (j : Int), .slice o N c] 34)).alloc (.cells #[.int .i64 k', .string p', .string m', .int .i64 i', .slice o' N' c'] 34))
          rw [HW2.out]
          have b0 := (HBX.out.at_ (Below.refl _ _) 0 rfl).cell
          rw [Nat.add_zero] at b0
          have b1 := (HBX.out.at_ (Below.refl _ _) 1 rfl).cell
          go_wp2
          refine bodyPost_ret (results_none rfl _ _ _) rfl ?_
          rw [HQ.out]
          exact ⟨⟨_, rfl⟩, HR2.out, HT2.out⟩
      · have HQ : Hid (R = ys) := HA1.out.trans (if_neg (fun h => hi1 (by rw [HL.out] at h; exact h.2.1)))
        clear HA1
        go_enter Try.func30, Try.ntmps30
        go_upto_region 1 with fail
        change Code.wp Try.prog _ _ _ ((w.alloc (.cells #[.int .i64 6, .string p, .string m, .int .i64 i, .slice o N c] 34)).alloc (.cells #[.int .i64 k', .string p', .string m', .int .i64 i', .slice o' N' c'] 34))
        rw [HW2.out]
        have b0 := (HBX.out.at_ (Below.refl _ _) 0 rfl).cell
        rw [Nat.add_zero] at b0
        have b1 := (HBX.out.at_ (Below.refl _ _) 1 rfl).cell
        go_wp2
        refine bodyPost_ret (results_none rfl _ _ _) rfl ?_
        rw [HQ.out]
        exact ⟨⟨_, rfl⟩, HR2.out, HT2.out⟩
    · have HQ : Hid (R = ys) := HA1.out.trans (if_neg (fun h => hi0 h.1))
      clear HA1
      go_enter Try.func30, Try.ntmps30
      go_upto_region 1 with fail
      change Code.wp Try.prog _ _ _ ((w.alloc (.cells #[.int .i64 6, .string p, .string m, .int .i64 i, .slice o N c] 34)).alloc (.cells #[.int .i64 k', .string p', .string m', .int .i64 i', .slice o' N' c'] 34))
      rw [HW2.out]
      have b0 := (HBX.out.at_ (Below.refl _ _) 0 rfl).cell
      rw [Nat.add_zero] at b0
      have b1 := (HBX.out.at_ (Below.refl _ _) 1 rfl).cell
      go_wp2
      refine bodyPost_ret (results_none rfl _ _ _) rfl ?_
      rw [HQ.out]
      exact ⟨⟨_, rfl⟩, HR2.out, HT2.out⟩
  · have HA1 := Lib.hid (HA.out.trans (if_neg h6))
    have e6 : (k == 6) = false := beq_eq_false_iff_ne.2 h6
    clear HA
    by_cases h5 : k = 5
    · subst h5
      by_cases h5' : k' = 5
      · subst h5'
        have HA2 : Hid (tellsY ys (l.drop 0) (l'.drop 0) = R) := by
          show _ = _
          rw [HA1.out, if_pos ⟨rfl, rfl⟩, List.drop_zero, List.drop_zero]
        clear HA1
        have HT0 : Hid (Turn (fun k => k = g) W2 W2) := Turn.refl _ _
        have HJ0 := Lib.hid (Nat.zero_le N)
        have HJ1 := Lib.hid (Nat.zero_le N')
        go_enter Try.func30, Try.ntmps30
        go_upto_region 1 with fail
        change Code.wp Try.prog _ _ _ ((w.alloc (.cells #[.int .i64 5, .string p, .string m, .int .i64 i, .slice o N c] 34)).alloc (.cells #[.int .i64 5, .string p', .string m', .int .i64 i', .slice o' N' c'] 34))
        rw [HW2.out]
        have b0 := (HBX.out.at_ (Below.refl _ _) 0 rfl).cell
        rw [Nat.add_zero] at b0
        have b1 := (HBX.out.at_ (Below.refl _ _) 1 rfl).cell
        go_wp2
        go_loopw [6] (fun q wr => ∃ (j : Nat) (yt : List GY), q = .int .i64 (j : Nat) ∧ Hid (j ≤ N) ∧ Hid (j ≤ N') ∧ Hid (tellsY yt (l.drop j) (l'.drop j) = R) ∧ Hid (yt.length = n) ∧ Hid (RowT w0 wr g yt) ∧ Hid (Turn (fun k => k = g) W2 wr)) (fun q _ => N - (RowKit.intOf q).toNat)
        case atStart => exact ⟨0, ys, rfl, HJ0, HJ1, HA2, HL, HR2, HT0⟩
        case round =>
          obtain ⟨j, yt, rfl, HJ, HJ', HS, HLT, HRT, HTR⟩ := hrel
          clear HJ0 HJ1 HA2 HT0 HR2 HR HL b0 b1
          have hgz := HGW.out
          have hgb : ∀ (k : Nat) (t : TypeId) (cs : Array Value), Blk W2 k t cs → k ≠ g → Blk wr k t cs := fun k t cs h hk => blkT h HTR.out hk
          have k0 := hgb _ _ _ (HBX.out.at_ (Below.refl _ _) 0 rfl) (by omega)
          have k1 := hgb _ _ _ (HBX.out.at_ (Below.refl _ _) 1 rfl) (by omega)
          have b0 := k0.cell
          rw [Nat.add_zero] at b0
          have b1 := k1.cell
          have hw0 : Below w0.heap.size w0 wr := belowT (H0.out.trans (HBX.out.2.1.mono H0.out.size)) hg HTR.out
          have HW0 := Lib.hid hw0
          by_cases hj : j < N
          · have hj1 : ((j : Int) < (N : Int)) := by omega
            have hj0 : (0 : Int) ≤ (j : Int) := by omega
            have hwj := IntWalk.i64_in ((j : Int) + 1) ⟨by omega, by omega⟩
            by_cases hj' : j < N'
            · have hj2 : ((j : Int) < (N' : Int)) := by omega
              obtain ⟨x, hx⟩ : ∃ x, l[j]? = some x := ⟨_, List.getElem?_eq_getElem (by rw [HN.out]; exact hj)⟩
              obtain ⟨y, hy⟩ : ∃ y, l'[j]? = some y := ⟨_, List.getElem?_eq_getElem (by rw [HN'.out]; exact hj')⟩
              obtain ⟨a, x0, x1, x2, x3, x4, rfl, hcx, hxx⟩ := HX.out.at_ j hx
              obtain ⟨a', y0, y1, y2, y3, y4, rfl, hcy, hyy⟩ := HY.out.at_ j hy
              rw [Nat.zero_add] at hcx hcy
              have HCX := Lib.hid (mvc hw0 hcx)
              have HCY := Lib.hid (mvc hw0 hcy)
              have HS2 : Hid (tellsY (tellY yt x y) (l.drop (j + 1)) (l'.drop (j + 1)) = R) := by show _ = _; rw [← tells_drop hx hy]; exact HS.out
              have HF := Lib.hid (fun W (hb : Below wr.heap.size wr W) => HI.out x (List.mem_of_getElem? hx) y _ _ yt W hxx hyy (HRT.out.below hb) HLT.out (old_step hw0 hb))
              clear hcx hcy hxx hyy hx hy k0 k1 hw0 hgb
              go_wp2_with fail
              refine wp_region_still_tail 11 (by kernel_rfl) (by kernel_rfl) ?_
              simp only [List.take_succ_cons, List.take_zero, List.drop_succ_cons, List.drop_zero]
              iterate 5 still_step
              refine stillLoadG 34 5 size5 Try.underlying34 rfl _ rfl (a.add (j * 5)) rfl HCX.out rfl ?_
              iterate 4 still_step
              refine stillLoadG 34 5 size5 Try.underlying34 rfl _ rfl (a'.add (j * 5)) rfl HCY.out rfl ?_
              refine wpStill_nil ?_
              change wpList _ _ _ _ _ wr.drew
              go_wp2_with fail
              refine (HF.out _ (Below.refl _ _).drew).mono ?_
              rintro e w6 ⟨⟨vv, rfl⟩, hr6, hT6⟩
              have HR6 := Lib.hid hr6
              have HT6 := Lib.hid (HTR.out.trans (turnG (Below.refl _ _).drew hT6))
              have HL6 : Hid ((tellY yt x y).length = n) := by show _ = _; rw [tell_len]; exact HLT.out
              clear hr6 hT6 b0 b1 HCX HCY HF
              go_wp2
              case roundEnd => exact ⟨⟨j + 1, _, by push_cast; rfl, hj, hj', HS2, HL6, HR6, HT6⟩, by simp [RowKit.intOf]; omega⟩
            · have hj2 : ¬ ((j : Int) < (N' : Int)) := by omega
              have HQ : Hid (R = yt) := HS.out.symm.trans (tells_end (.inr (by rw [HN'.out]; omega)))
              clear hj' k0 k1 hw0 hgb
              go_wp2
              refine bodyPost_end (results_none rfl _ _ _) rfl ?_
              rw [HQ.out]
              exact ⟨⟨_, rfl⟩, HRT.out, HT2.out.trans HTR.out⟩
          · have hj1 : ¬ ((j : Int) < (N : Int)) := by omega
            have HQ : Hid (R = yt) := HS.out.symm.trans (tells_end (.inl (by rw [HN.out]; omega)))
            clear hj k0 k1 hw0 hgb
            go_wp2
            refine bodyPost_end (results_none rfl _ _ _) rfl ?_
            rw [HQ.out]
            exact ⟨⟨_, rfl⟩, HRT.out, HT2.out.trans HTR.out⟩
      · have e5 : (k' != 5) = true := by simpa using h5'
        have HQ : Hid (R = ys) := HA1.out.trans (if_neg (fun h => h5' h.2))
        clear HA1 HI HX HY h5'
        go_enter Try.func30, Try.ntmps30
        go_upto_region 1 with fail
        change Code.wp Try.prog _ _ _ ((w.alloc (.cells #[.int .i64 5, .string p, .string m, .int .i64 i, .slice o N c] 34)).alloc (.cells #[.int .i64 k', .string p', .string m', .int .i64 i', .slice o' N' c'] 34))
        rw [HW2.out]
        have b0 := (HBX.out.at_ (Below.refl _ _) 0 rfl).cell
        rw [Nat.add_zero] at b0
        have b1 := (HBX.out.at_ (Below.refl _ _) 1 rfl).cell
        go_wp2
        refine bodyPost_ret (results_none rfl _ _ _) rfl ?_
        rw [HQ.out]
        exact ⟨⟨_, rfl⟩, HR2.out, HT2.out⟩
    · have e5 : (k != 5) = true := by simpa using h5
      have HQ : Hid (R = ys) := HA1.out.trans (if_neg (fun h => h5 h.1))
      clear HA1 HI HX HY h5 h6
      go_enter Try.func30, Try.ntmps30
      go_upto_region 1 with fail
      change Code.wp Try.prog _ _ _ ((w.alloc (.cells #[.int .i64 k, .string p, .string m, .int .i64 i, .slice o N c] 34)).alloc (.cells #[.int .i64 k', .string p', .string m', .int .i64 i', .slice o' N' c'] 34))
      rw [HW2.out]
      have b0 := (HBX.out.at_ (Below.refl _ _) 0 rfl).cell
      rw [Nat.add_zero] at b0
      have b1 := (HBX.out.at_ (Below.refl _ _) 1 rfl).cell
      go_wp2
      refine bodyPost_ret (results_none rfl _ _ _) rfl ?_
      rw [HQ.out]
      exact ⟨⟨_, rfl⟩, HR2.out, HT2.out⟩
end Go.Proofs.Ytlakmniaocpaaaa
namespace Go.Proofs.Ytlakmniaocpaaaa
open Go.RowKit
open Go.Lib hiding intOf
/-- A row of types made, of zeros. -/
theorem make_zeros (n : Nat) (hn : n * 72 ≤ 281474976710656) : ∃ Z : List Value, (Z.length = n * 5 ∧ ∀ i, i < n → ∀ (j : Nat) (v : Value), [Value.int .i64 0, .string ⟨#[]⟩, .string ⟨#[]⟩, .int .i64 0, .slice none 0 0][j]? = some v → Z[i * 5 + j]? = some v) ∧ ∀ W : World, (Instr.makeSlice 23 (.int .i64 (n : Int)) (.int .i64 (n : Int))).run Try.prog W = .ok (.slice (some ⟨W.heap.size, 0, none⟩) n n) (W.alloc (.cells Z.toArray 34)) := by
  obtain ⟨i0, hi, hi'⟩ := Option.map_eq_some_iff.1 infoTT
  simp only [Prod.mk.injEq] at hi'
  obtain ⟨hz0, hz1, hz2⟩ := hi'
  refine ⟨(madeCells (Value.cells (.agg #[.int .i64 0, .string ⟨#[]⟩, .string ⟨#[]⟩, .int .i64 0, .slice none 0 0])) (n * 5)).toList, ⟨by rw [Array.length_toList, size_madeCells], fun i hi j v hv => ?_⟩, fun W => ?_⟩
  · have hj : j < 5 := (List.getElem?_eq_some_iff.1 hv).1
    rw [Array.getElem?_toList]
    unfold madeCells
    rw [Array.getElem?_map, Array.getElem?_range, if_pos (by omega), Option.map_some]
    have hmod : (i * 5 + j) % (Value.cells (.agg #[.int .i64 0, .string ⟨#[]⟩, .string ⟨#[]⟩, .int .i64 0, .slice none 0 0])).size = j := by
      show (i * 5 + j) % 5 = j
      omega
    rw [hmod]
    match j, hj, hv with
    | 0, _, hv => exact hv
    | 1, _, hv => exact hv
    | 2, _, hv => exact hv
    | 3, _, hv => exact hv
    | 4, _, hv => exact hv
  · have hr := run_make (P := Try.prog) W 23 34 i0 _ Try.underlying23 hi hz0 .i64 .i64 n n (by omega) (Int.le_refl _) (by rw [hz2]; omega) (by omega)
    simp only [Int.toNat_natCast] at hr
    rw [hr, hz1]
theorem rowT_zeros {w W : World} {n : Nat} {Z : List Value} (h : Z.length = n * 5 ∧ ∀ i, i < n → ∀ (j : Nat) (v : Value), [Value.int .i64 0, .string ⟨#[]⟩, .string ⟨#[]⟩, .int .i64 0, .slice none 0 0][j]? = some v → Z[i * 5 + j]? = some v) : RowT w (W.alloc (.cells Z.toArray 34)) W.heap.size (List.replicate n noY) := by
  refine ⟨Z, Blk.new _ _ _, by rw [List.length_replicate]; exact h.1, fun i y hy => ?_⟩
  have hi := (List.getElem?_eq_some_iff.1 hy).1
  rw [List.length_replicate] at hi
  obtain rfl : noY = y := by
    rw [List.getElem?_replicate, if_pos hi] at hy
    exact Option.some.inj hy
  exact ⟨_, _, _, _, _, h.2 i hi, IsY.zero⟩
/-- The types that are told. -/
def toldY (P A : List GY) (n : Int) : List GY := if 1 ≤ n ∧ n ≤ 16 then unifyY P A n.toNat else []
/-- .. in a row of the call's own (or none), their parts in the old world. -/
def IsTold (w0 w' : World) (base : Nat) (T : List GY) (u : Value) : Prop := (T = [] ∧ u = .slice none 0 0) ∨ ∃ g, base ≤ g ∧ u = .slice (some ⟨g, 0, none⟩) T.length T.length ∧ RowT w0 w' g T
theorem toldY_len (P A : List GY) (n : Int) : (toldY P A n).length ≤ 16 := by
  unfold toldY unifyY
  split
  · rw [tells_len, List.length_replicate]; omega
  · exact Nat.zero_le _
theorem RowT.yps {w0 W : World} {g : Nat} {ys : List GY} (h : RowT w0 W g ys) (h0 : Below w0.heap.size w0 W) : IsYPs (fun k => k < w0.heap.size ∨ k = g) W (some ⟨g, 0, none⟩) 0 ys := by
  obtain ⟨cur, h1, h2, h3⟩ := h
  refine IsYPs.mk' (.inr rfl) fun k y hy => ?_
  obtain ⟨c0, c1, c2, c3, c4, g1, g2⟩ := h3 k y hy
  refine ⟨c0, c1, c2, c3, c4, fun j v hv => ?_, (g2.toP (Nat.le_refl _)).keep (fun _ _ h _ => .inl h) fun a u _ hc => (h0.cell (World.block_lt_of_cell? _ _ hc)).trans hc⟩
  rw [Nat.zero_add, h1.cell]
  simpa using g1 j v hv
/-- What is told, however it came; x: a block made between. -/
theorem IsTold.use {w0 w' : World} {base : Nat} {T : List GY} {u : Value} (h : IsTold w0 w' base T u) (h0 : Below w0.heap.size w0 w') (hT : T.length ≤ 16) (x : Nat) (hx : w0.heap.size ≤ x) (hb : x < base) :
    ∃ (Q : Nat → Prop) (o : Option Addr) (c : Nat), u = .slice o T.length c ∧ T.length ≤ c ∧ c ≤ maxLen ∧ (∀ k, k < w0.heap.size → Q k) ∧ (∀ k, Q k → k < w'.heap.size ∧ k ≠ x) ∧ IsYPs Q w' o 0 T := by
  rcases h with ⟨rfl, rfl⟩ | ⟨g, h1, rfl, h3⟩
  · exact ⟨fun k => k < w0.heap.size, none, 0, rfl, Nat.le_refl _, Nat.zero_le _, fun _ h => h, fun k hk => ⟨Nat.lt_of_lt_of_le hk h0.size, by omega⟩, by unfold IsYPs; trivial⟩
  · exact ⟨_, _, _, rfl, Nat.le_refl _, by unfold maxLen; omega, fun _ h => .inl h, fun k hk => ⟨hk.elim (fun h => Nat.lt_of_lt_of_le h h0.size) (fun h => by have := h3.lt; omega), hk.elim (fun h => by omega) (fun h => by omega)⟩, h3.yps h0⟩
set_option maxRecDepth 100000 in
set_option maxHeartbeats 8000000 in
theorem unifyR_any (P A : List GY) (oP oA : Option Addr) (cP cA : Nat) (n : Int) (w0 w : World) (hP : IsYs w0 oP 0 P) (hA : IsYs w0 oA 0 A) (hlP : P.length ≤ 9223372036854775807) (h0 : Below w0.heap.size w0 w) :
    Calls Try.prog 14 #[.slice oP P.length cP, .slice oA A.length cA, .int .i64 n] w fun e w' => (∃ u, e = .returned u ∧ IsTold w0 w' w.heap.size (toldY P A n) u) ∧ Below w.heap.size w w' := by
  have HX := Lib.hid hP
  have HY := Lib.hid hA
  have H0 := Lib.hid h0
  obtain ⟨N, hN⟩ : ∃ N, P.length = N := ⟨_, rfl⟩
  obtain ⟨N', hN'⟩ : ∃ N', A.length = N' := ⟨_, rfl⟩
  rw [hN] at hlP ⊢
  rw [hN']
  have HN := Lib.hid hN
  have HN' := Lib.hid hN'
  clear hP hA h0 hN hN'
  have HBR := Lib.hid (Below.refl w.heap.size w)
  by_cases h1 : n < 1
  · have HQ : Hid (toldY P A n = []) := if_neg (by omega)
    generalize toldY P A n = T at *
    go_enter Try.func14, Try.ntmps14
    go_wp2
    go_ret
    rw [HQ.out]
    exact ⟨⟨_, rfl, .inl ⟨rfl, rfl⟩⟩, HBR.out⟩
  by_cases h2 : 16 < n
  · have HQ : Hid (toldY P A n = []) := if_neg (by omega)
    generalize toldY P A n = T at *
    have h1' : ¬ n < 1 := h1
    go_enter Try.func14, Try.ntmps14
    go_wp2
    go_ret
    rw [HQ.out]
    exact ⟨⟨_, rfl, .inl ⟨rfl, rfl⟩⟩, HBR.out⟩
  obtain ⟨m, rfl⟩ : ∃ m : Nat, n = (m : Int) := ⟨n.toNat, by omega⟩
  have hm1 : ¬ ((m : Int) < 1) := by omega
  have hm2 : ¬ (16 < (m : Int)) := by omega
  have hm3 : m ≤ 16 := by omega
  have HQ : Hid (tellsY (List.replicate m noY) (P.drop 0) (A.drop 0) = toldY P A (m : Int)) := by
    show _ = _
    unfold toldY unifyY
    rw [if_pos (by omega), List.drop_zero, List.drop_zero, Int.toNat_natCast]
  have HTL : Hid ((toldY P A (m : Int)).length = m) := by
    show _ = _
    unfold toldY unifyY
    rw [if_pos (by omega), tells_len, List.length_replicate, Int.toNat_natCast]
  generalize toldY P A (m : Int) = R at *
  obtain ⟨Z, hZ, hmk⟩ := make_zeros m (by omega)
  have hmk' := hmk w
  obtain ⟨W1, hW1⟩ : ∃ W1, w.alloc (.cells Z.toArray 34) = W1 := ⟨_, rfl⟩
  have hr1 : RowT w0 W1 w.heap.size (List.replicate m noY) := by rw [← hW1]; exact rowT_zeros hZ
  have hb1 : Below w.heap.size w W1 := by rw [← hW1]; exact (Below.refl _ _).alloc (Nat.le_refl _) _
  rw [hW1] at hmk'
  have HR1 := Lib.hid hr1
  have HB1 := Lib.hid hb1
  have HT0 : Hid (Turn (fun k => k = w.heap.size) W1 W1) := Turn.refl _ _
  have HJ0 := Lib.hid (Nat.zero_le N)
  have HJ1 := Lib.hid (Nat.zero_le N')
  have HL0 : Hid ((List.replicate m noY).length = m) := List.length_replicate
  clear hmk hZ hW1 hr1 hb1 h1 h2
  go_enter Try.func14, Try.ntmps14
  go_wp2
  go_loopw [8] (fun q wr => ∃ (j : Nat) (yt : List GY), q = .int .i64 (j : Nat) ∧ Hid (j ≤ N) ∧ Hid (j ≤ N') ∧ Hid (tellsY yt (P.drop j) (A.drop j) = R) ∧ Hid (yt.length = m) ∧ Hid (RowT w0 wr w.heap.size yt) ∧ Hid (Turn (fun k => k = w.heap.size) W1 wr)) (fun q _ => N - (RowKit.intOf q).toNat)
  case atStart => exact ⟨0, _, rfl, HJ0, HJ1, HQ, HL0, HR1, HT0⟩
  case round =>
    obtain ⟨j, yt, rfl, HJ, HJ', HS, HLT, HRT, HTR⟩ := hrel
    clear HJ0 HJ1 HQ HT0 HR1 HL0 hmk'
    have hww : Below w.heap.size w wr := HB1.out.trans (HTR.out.below HB1.out.size fun k hk => by omega)
    have HWW := Lib.hid hww
    have hw0 := old_step H0.out hww
    by_cases hj : j < N
    · have hj1 : ((j : Int) < (N : Int)) := by omega
      have hj0 : (0 : Int) ≤ (j : Int) := by omega
      have hwj := IntWalk.i64_in ((j : Int) + 1) ⟨by omega, by omega⟩
      by_cases hj' : j < N'
      · have hj2 : ((j : Int) < (N' : Int)) := by omega
        obtain ⟨x, hx⟩ : ∃ x, P[j]? = some x := ⟨_, List.getElem?_eq_getElem (by rw [HN.out]; exact hj)⟩
        obtain ⟨y, hy⟩ : ∃ y, A[j]? = some y := ⟨_, List.getElem?_eq_getElem (by rw [HN'.out]; exact hj')⟩
        obtain ⟨a, x0, x1, x2, x3, x4, rfl, hcx, hxx⟩ := HX.out.at_ j hx
        obtain ⟨a', y0, y1, y2, y3, y4, rfl, hcy, hyy⟩ := HY.out.at_ j hy
        rw [Nat.zero_add] at hcx hcy
        have HCX := Lib.hid (mvc hw0 hcx)
        have HCY := Lib.hid (mvc hw0 hcy)
        have HS2 : Hid (tellsY (tellY yt x y) (P.drop (j + 1)) (A.drop (j + 1)) = R) := by show _ = _; rw [← tells_drop hx hy]; exact HS.out
        have HF := Lib.hid (fun W (hb : Below wr.heap.size wr W) => tellR_any w0 w.heap.size m H0.out.size _ x y _ _ yt W (Nat.lt_succ_self _) hxx hyy (HRT.out.below hb) HLT.out (old_step hw0 hb))
        clear hcx hcy hxx hyy hx hy hw0 hww
        go_wp2_with fail
        refine wp_region_still_tail 9 (by kernel_rfl) (by kernel_rfl) ?_
        simp only [List.take_succ_cons, List.take_zero, List.drop_succ_cons, List.drop_zero]
        iterate 4 still_step
        refine stillLoadG 34 5 size5 Try.underlying34 rfl _ rfl (a.add (j * 5)) rfl HCX.out rfl ?_
        iterate 3 still_step
        refine stillLoadG 34 5 size5 Try.underlying34 rfl _ rfl (a'.add (j * 5)) rfl HCY.out rfl ?_
        refine wpStill_nil ?_
        change wpList _ _ _ _ _ wr.drew
        go_wp2_with fail
        refine (HF.out _ (Below.refl _ _).drew).mono ?_
        rintro e w6 ⟨⟨vv, rfl⟩, hr6, hT6⟩
        have HR6 := Lib.hid hr6
        have HT6 := Lib.hid (HTR.out.trans (turnG (Below.refl _ _).drew hT6))
        have HL6 : Hid ((tellY yt x y).length = m) := by show _ = _; rw [tell_len]; exact HLT.out
        clear hr6 hT6 HCX HCY HF
        go_wp2
        case roundEnd => exact ⟨⟨j + 1, _, by push_cast; rfl, hj, hj', HS2, HL6, HR6, HT6⟩, by simp [RowKit.intOf]; omega⟩
      · have hj2 : ¬ ((j : Int) < (N' : Int)) := by omega
        have HQ : Hid (R = yt) := HS.out.symm.trans (tells_end (.inr (by rw [HN'.out]; omega)))
        clear hj' hw0 hww
        go_wp2
        go_ret
        exact ⟨⟨.slice (some ⟨w.heap.size, 0, none⟩) m m, rfl, .inr ⟨w.heap.size, Nat.le_refl _, by rw [HTL.out], by rw [HQ.out]; exact HRT.out⟩⟩, HWW.out⟩
    · have hj1 : ¬ ((j : Int) < (N : Int)) := by omega
      have HQ : Hid (R = yt) := HS.out.symm.trans (tells_end (.inl (by rw [HN.out]; omega)))
      clear hj hw0 hww
      go_wp2
      go_ret
      exact ⟨⟨.slice (some ⟨w.heap.size, 0, none⟩) m m, rfl, .inr ⟨w.heap.size, Nat.le_refl _, by rw [HTL.out], by rw [HQ.out]; exact HRT.out⟩⟩, HWW.out⟩
end Go.Proofs.Ytlakmniaocpaaaa
namespace Go.Proofs.Ytlakmniaocpaaaa
open Go.RowKit
open Go.Lib hiding intOf
structure FN where
  name : ByteArray
  bounds : List GY
  params : List GY
  result : GY
def IsFn (w : World) (f : FN) (c : List Value) : Prop := ∃ (oB : Option Addr) (kB : Nat) (oP : Option Addr) (kP : Nat) (ra : Int) (rp rq : ByteArray) (rn : Int) (ro : Option Addr) (re rk : Nat), c = [.string f.name, .slice oB f.bounds.length kB, .slice oP f.params.length kP, .int .i64 ra, .string rp, .string rq, .int .i64 rn, .slice ro re rk] ∧ f.bounds.length ≤ kB ∧ kB ≤ maxLen ∧ f.params.length ≤ kP ∧ kP ≤ maxLen ∧ IsYs w oB 0 f.bounds ∧ IsYs w oP 0 f.params ∧ IsY w f.result (.agg #[.int .i64 ra, .string rp, .string rq, .int .i64 rn, .slice ro re rk])
def IsWr (_ : World) (x : Int × Int) (c : List Value) : Prop := c = [.int .i64 x.1, .int .i64 x.2]
def WrP (_ : Nat → Prop) (_ : World) (x : Int × Int) (c : List Value) : Prop := c = [.int .i64 x.1, .int .i64 x.2]
theorem keepW : KeepsP WrP := fun _ _ _ _ _ _ _ _ h => h
def IsEs (w : World) (l : List (Int × Int)) (v : Value) : Prop := ∃ (o : Option Addr) (c : Nat), v = .slice o l.length c ∧ l.length ≤ c ∧ c ≤ maxLen ∧ IsRow 2 IsWr w o l
theorem infoW : (Try.prog.info? 51).map (fun i => (i.zero, i.size, i.bytes)) = some (some (.agg #[.int .i64 0, .int .i64 0]), 2, 16) := by kernel_rfl
/-- The errors so far. -/
abbrev RowE (w : World) (B : Nat) (o : Option Addr) (m c : Nat) (l : List (Int × Int)) : Prop := RowQ 51 2 WrP w B o m c l
theorem RowE.es {w : World} {B : Nat} {o : Option Addr} {m c : Nat} {l : List (Int × Int)} (h : RowE w B o m c l) : IsEs w l (.slice o m c) := by
  have hl := h.1
  obtain ⟨h1, h2, h3⟩ := RowQ.done keepW h
  exact ⟨o, c, by rw [hl], by omega, h2, h3.toR fun _ _ h => h⟩
theorem cells_two (w : World) (y : Int × Int) : ∀ (j : Nat) (u : Value), [Value.int .i64 y.1, .int .i64 y.2][j]? = some u → (w.alloc (.cells #[.int .i64 y.1, .int .i64 y.2] 51)).cell? ((⟨w.heap.size, 0, none⟩ : Addr).add j) = some u := fun j u hu => by
  have e : (⟨w.heap.size, 0, none⟩ : Addr).add j = ⟨w.heap.size, j, none⟩ := by unfold Addr.add; split <;> simp_all
  rw [e, (Blk.new w 51 #[.int .i64 y.1, .int .i64 y.2]).cell]
  simpa using hu
/-- One more. -/
theorem rowE_append {ops : Array Oper} {rest : List Oper} {op : Oper} {a : Act} {W : World} {Q : Exit → Act → World → Prop} (hgd : op.guard = none) (s x : Operand) (hop : op.op = .call { callee := .builtin .append, args := #[s, x], argTypes := #[39, 39] })
    (B m c : Nat) (o : Option Addr) (l : List (Int × Int)) (y : Int × Int) (hs : a.eval s = .slice o m c) (hx : a.eval x = .slice (some ⟨W.heap.size, 0, none⟩) 1 1) (hr : RowE W B o m c l) (b1 : m + 1 ≤ 1000) (b3 : B ≤ W.heap.size)
    (hK : ∀ o' c' w', RowE w' B o' (m + 1) c' (l ++ [y]) → Below B W w' → wpList Try.prog ops Q rest (a.put op.dst (.slice o' (m + 1) c')) w') : wpList Try.prog ops Q (op :: rest) a (W.alloc (.cells #[.int .i64 y.1, .int .i64 y.2] 51)) := by
  obtain ⟨i0, hi, hz0, hz1, hz2⟩ := info_parts infoW
  obtain ⟨h5, L, h1, h2, h3, h4⟩ := hr
  refine wpList_append_tells W hgd s x 39 hop B 51 i0 (.agg #[.int .i64 0, .int .i64 0]) 2 16 Try.underlying39 hi hz0 hz1 hz2 rfl (by decide) (.slice o m c) m L.flatten hs h1 _ [.int .i64 y.1, .int .i64 y.2] hx rfl (cells_two W y) (by simp; exact ⟨rfl, rfl⟩) (by unfold maxLen; omega) (by omega) b3 ?_
  intro o' c' w' hrow hT hfr
  refine hK o' c' w' (RowQ.next keepW h1 h2 h3 h4 h5 rfl rfl hrow hT hfr) (hT.below b3 fun k hk => (h1.lt k hk).1)
theorem RowE.far {w : World} {B g : Nat} {cs : Array Value} {o : Option Addr} {m c : Nat} {l : List (Int × Int)} (h : RowE w B o m c l) (hg : g < B) : RowE (w.setRow g cs) B o m c l := by
  obtain ⟨h5, L, h1, h2, h3, h4⟩ := h
  refine ⟨h5, L, ⟨h1.1, ?_⟩, h2, h3, h4⟩
  rcases h1.2 with h | ⟨k, cap, cur, e, hb, hk, r⟩
  · exact .inl h
  · exact .inr ⟨k, cap, cur, e, hb, (setRow_other w g k cs (by omega)).trans hk, r⟩
theorem told_types (B P A : List GY) : toldY P A (B.length : Int) = typesY B P A := by
  unfold toldY typesY
  by_cases h : 1 ≤ B.length ∧ B.length ≤ 16
  · rw [if_pos h, if_pos (by omega), Int.toNat_natCast]
  · rw [if_neg h, if_neg (by omega)]
theorem errB_drop {s : SCP} {B ts : List GY} {j : Nat} {b t : GY} (hb : B[j]? = some b) (ht : ts[j]? = some t) : errB s (B.drop j) (ts.drop j) = if wB s b t then (-1, 15) :: errB s (B.drop (j + 1)) (ts.drop (j + 1)) else errB s (B.drop (j + 1)) (ts.drop (j + 1)) := by
  obtain ⟨h1, rfl⟩ := List.getElem?_eq_some_iff.1 hb
  obtain ⟨h2, rfl⟩ := List.getElem?_eq_some_iff.1 ht
  rw [List.drop_eq_getElem_cons h1, List.drop_eq_getElem_cons h2, errB]
theorem errB_end {s : SCP} {B ts : List GY} {j : Nat} (h : B.length ≤ j ∨ ts.length ≤ j) : errB s (B.drop j) (ts.drop j) = [] := by
  rcases h with h | h
  · rw [List.drop_of_length_le h, errB_none]
  · rw [List.drop_of_length_le h]
    cases B.drop j <;> (rw [errB]; simp)
theorem errA_drop {s : SCP} {ts A P : List GY} {j : Nat} {a p : GY} (ha : A[j]? = some a) (hp : P[j]? = some p) : errA s ts j (A.drop j) (P.drop j) = if wA s ts a p then ((j : Int), 11) :: errA s ts (j + 1) (A.drop (j + 1)) (P.drop (j + 1)) else errA s ts (j + 1) (A.drop (j + 1)) (P.drop (j + 1)) := by
  obtain ⟨h1, rfl⟩ := List.getElem?_eq_some_iff.1 ha
  obtain ⟨h2, rfl⟩ := List.getElem?_eq_some_iff.1 hp
  rw [List.drop_eq_getElem_cons h1, List.drop_eq_getElem_cons h2, errA]
theorem errA_end {s : SCP} {ts A P : List GY} {j i : Nat} (h : A.length ≤ j ∨ P.length ≤ j) : errA s ts i (A.drop j) (P.drop j) = [] := by
  rcases h with h | h
  · rw [List.drop_of_length_le h, errA]; simp
  · rw [List.drop_of_length_le h]
    cases A.drop j <;> (rw [errA]; simp)
end Go.Proofs.Ytlakmniaocpaaaa
namespace Go.Proofs.Ytlakmniaocpaaaa
open Go.RowKit
open Go.Lib hiding intOf
def zeroI : IF := ⟨noB, []⟩
theorem IsIf.zero {w : World} : IsIf w zeroI [.string noB, .slice none 0 0, .slice none 0 0] := ⟨none, none, 0, 0, 0, rfl, Nat.le_refl _, Nat.zero_le _, IsRow.nil⟩
theorem IsFd.zero {w : World} : IsFd w (noB, zeroY) [.string noB, .int .i64 0, .string noB, .string noB, .int .i64 0, .slice none 0 0] := ⟨_, _, _, _, _, rfl, IsY.zero⟩
theorem below3s {B g : Nat} {w V : World} (h : Below B w V) (hg : B ≤ g) (v0 v1 v2 : Value) : Below B w (((V.setCell ⟨g, 0, none⟩ v0).setCell ⟨g, 1, none⟩ v1).setCell ⟨g, 2, none⟩ v2) := ((h.setCell hg v0).setCell hg v1).setCell hg v2
theorem below4s {B g : Nat} {w V : World} (h : Below B w V) (hg : B ≤ g) (v0 v1 v2 v3 : Value) : Below B w ((((V.setCell ⟨g, 0, none⟩ v0).setCell ⟨g, 1, none⟩ v1).setCell ⟨g, 2, none⟩ v2).setCell ⟨g, 3, none⟩ v3) := below4 h hg v0 v1 v2 v3
theorem below6s {B g : Nat} {w V : World} (h : Below B w V) (hg : B ≤ g) (v0 v1 v2 v3 v4 v5 : Value) : Below B w ((((((V.setCell ⟨g, 0, none⟩ v0).setCell ⟨g, 1, none⟩ v1).setCell ⟨g, 2, none⟩ v2).setCell ⟨g, 3, none⟩ v3).setCell ⟨g, 4, none⟩ v4).setCell ⟨g, 5, none⟩ v5) := (below5 h hg v0 v1 v2 v3 v4).setCell hg v5
end Go.Proofs.Ytlakmniaocpaaaa
namespace Go.Proofs.Ytlakmniaocpaaaa
open Go.RowKit
open Go.Lib hiding intOf
theorem namedI_any (x : IF) (c : List Value) (w : World) (h : IsIf w x c) : Calls Try.prog 74 #[.agg c.toArray] w fun e w' => e = .returned (.string x.pkg) ∧ Below w.heap.size w w' := by
  obtain ⟨o1, o2, k1, n2, k2, rfl, g⟩ := h
  have hB : Below w.heap.size w (w.alloc (.cells #[.string x.pkg, .slice o1 x.types.length k1, .slice o2 n2 k2] 62)) := (Below.refl _ w).alloc (Nat.le_refl _) _
  have hc := (Blk.new w 62 #[.string x.pkg, .slice o1 x.types.length k1, .slice o2 n2 k2]).cell
  have HB := Lib.hid hB
  clear hB g
  go_enter Try.func74, Try.ntmps74
  go_wp2
  go_ret
  exact ⟨rfl, HB.out⟩
set_option maxRecDepth 100000 in
set_option maxHeartbeats 8000000 in
theorem firstI_any (xs : List IF) (o : Option Addr) (N cp : Nat) (m : ByteArray) (w0 w : World) (hN : xs.length = N) (hq : N ≤ 9223372036854775807) (hrow : IsRow 3 IsIf w0 o xs) (h0 : Below w0.heap.size w0 w) :
    Calls Try.prog 73 #[.slice o N cp, .string m, .func (.func 74) #[] #[]] w fun e w' => ∃ d, e = .returned (.tuple #[.agg d.toArray, .bool (xs.find? fun p => decide (p.pkg = m)).isSome]) ∧ IsIf w0 ((xs.find? fun p => decide (p.pkg = m)).getD zeroI) d ∧ Below w.heap.size w w' := by
  obtain ⟨W2, hW2, HBX⟩ := bx1 w #[.string noB, .slice none 0 0, .slice none 0 0] 62
  have HW2 := Lib.hid hW2
  have HN := Lib.hid hN
  have HR := Lib.hid hrow
  have H0 := Lib.hid h0
  have HB0 := Lib.hid (Nat.zero_le N)
  have HU0 : Hid (∀ i (x : IF), i < 0 → xs[i]? = some x → decide (x.pkg = m) = false) := fun i x hi => by omega
  clear hrow hW2 hN h0
  obtain ⟨R, hR⟩ : ∃ R, (xs.find? fun p => decide (p.pkg = m)) = R := ⟨_, rfl⟩
  rw [hR]
  have HD := Lib.hid hR.symm
  clear hR
  go_enter Try.func73, Try.ntmps73
  go_wp2
  rw [HW2.out]
  go_loopw [13] (fun i wr => ∃ j : Nat, i = .int .i64 (j : Nat) ∧ Hid (j ≤ N) ∧ Hid (∀ i (x : IF), i < j → xs[i]? = some x → decide (x.pkg = m) = false) ∧ Hid (Below W2.heap.size W2 wr)) (fun i _ => N - (RowKit.intOf i).toNat)
  case atStart => exact ⟨0, rfl, HB0, HU0, Below.refl _ _⟩
  case round =>
    obtain ⟨j, rfl, HJ, HA, HB⟩ := hrel
    clear HB0 HW2 HU0
    have c1 : ∀ i, wr.cell? ⟨w.heap.size, i, none⟩ = _ := (HBX.out.at_ HB.out 0 rfl).cell
    have f1 : ∀ i, wr.frozen? ⟨w.heap.size, i, none⟩ = false := (HBX.out.at_ HB.out 0 rfl).frozen
    by_cases hj : j < N
    · have hj' : ((j : Int) < (N : Int)) := by omega
      have hj0 : (0 : Int) ≤ (j : Int) := by omega
      have hwj := IntWalk.i64_in ((j : Int) + 1) ⟨by omega, by omega⟩
      obtain ⟨x, hx⟩ : ∃ x, xs[j]? = some x := ⟨_, List.getElem?_eq_getElem (by rw [HN.out]; exact hj)⟩
      obtain ⟨a, c, rfl, hlc, hc, hyx⟩ := HR.out j x hx
      have HT := Lib.hid hyx
      have hww := HBX.out.below HB.out
      have HC : Hid (∀ (i : Nat) (v : Value), c[i]? = some v → wr.cell? ((a.add (j * 3)).add i) = some v) := fun i v h => cells_below (H0.out.trans (hww.mono H0.out.size)) _ v (hc i v h)
      obtain ⟨W8, hW8⟩ : ∃ W8, wr.alloc (.cells c.toArray 62) = W8 := ⟨_, rfl⟩
      have hb8 : Below wr.heap.size wr W8 := by rw [← hW8]; exact (Below.refl _ _).alloc (Nat.le_refl _) _
      have HBK : Hid (Blk W8 wr.heap.size 62 c.toArray) := by rw [← hW8]; exact Blk.new _ _ _
      have HB8 := Lib.hid hb8
      have HF := Lib.hid (namedI_any x c W8 (hyx.below ((H0.out.trans (hww.mono H0.out.size)).trans (hb8.mono (Nat.le_trans H0.out.size hww.size)))))
      obtain ⟨o1, o2, k1, n2, k2, rfl, g⟩ := hyx
      have HW8 := Lib.hid hW8
      have HWW := Lib.hid hww
      have HX := Lib.hid hx
      clear hc g hlc hx hb8 hW8 hww c1 f1
      by_cases hm : x.pkg = m
      · have HQ : Hid (R = some x) := by
          rw [HD.out]
          exact find_at HX.out (by simp [hm]) fun i y hi hy => HA.out i y hi hy
        subst hm
        go_wp2_with (first
          | (refine boxLoadG 62 3 size3 Try.underlying62 rfl _ rfl (a.add (j * 3)) rfl HC.out rfl ?_)
          | (refine boxNew 62 3 size3 rfl _ _ rfl rfl [.string x.pkg, .slice o1 x.types.length k1, .slice o2 n2 k2] rfl rfl rfl rfl ?_; rw [HW8.out])
          | (refine boxLoad 62 3 size3 Try.underlying62 rfl _ rfl wr.heap.size rfl (cs := [.string x.pkg, .slice o1 x.types.length k1, .slice o2 n2 k2]) HK9.out rfl ?_)
          | (refine boxLoad 62 3 size3 Try.underlying62 rfl _ rfl wr.heap.size rfl (cs := [.string x.pkg, .slice o1 x.types.length k1, .slice o2 n2 k2]) HBK.out rfl ?_)
          | (refine HF.out.mono ?_; rintro e w9 ⟨rfl, hb⟩; have HK9 := Lib.hid (blkB HBK.out hb); have hb9 := (stepB HB8.out hb (Nat.le_refl _)); have HB9 := Lib.hid hb9; have c9 : ∀ i, w9.cell? ⟨w.heap.size, i, none⟩ = _ := (blkB (HBX.out.at_ HB.out 0 rfl) hb9).cell; have f9 : ∀ i, w9.frozen? ⟨w.heap.size, i, none⟩ = false := (blkB (HBX.out.at_ HB.out 0 rfl) hb9).frozen; clear hb hb9))
        refine bodyPost_ret (v := .tuple #[.agg #[.string x.pkg, .slice o1 x.types.length k1, .slice o2 n2 k2], .bool true]) (by simp [results, Try.results73, go_sem, c9]) rfl ?_
        rw [HQ.out]
        exact ⟨_, rfl, HT.out, below3s (stepB HWW.out HB9.out (Nat.le_refl _)) (Nat.le_refl _) (.string x.pkg) (.slice o1 x.types.length k1) (.slice o2 n2 k2)⟩
      · have hne := bytes_ne hm
        have HA2 : Hid (∀ i (y : IF), i < j + 1 → xs[i]? = some y → decide (y.pkg = m) = false) := fun i y hi hy => by
          by_cases e : i < j
          · exact HA.out i y e hy
          · obtain rfl : i = j := by omega
            have hx := HX.out
            rw [hx] at hy
            cases hy
            exact decide_eq_false hm
        have HM := Lib.hid hm
        clear hm
        go_wp2_with (first
          | (refine boxLoadG 62 3 size3 Try.underlying62 rfl _ rfl (a.add (j * 3)) rfl HC.out rfl ?_)
          | (refine boxNew 62 3 size3 rfl _ _ rfl rfl [.string x.pkg, .slice o1 x.types.length k1, .slice o2 n2 k2] rfl rfl rfl rfl ?_; rw [HW8.out])
          | (refine boxLoad 62 3 size3 Try.underlying62 rfl _ rfl wr.heap.size rfl (cs := [.string x.pkg, .slice o1 x.types.length k1, .slice o2 n2 k2]) HBK.out rfl ?_)
          | (refine HF.out.mono ?_; rintro e w9 ⟨rfl, hb⟩; have HB9 := Lib.hid (stepB HB8.out hb (Nat.le_refl _)); clear hb))
        case roundEnd => exact ⟨⟨j + 1, by push_cast; rfl, hj, HA2, stepB HB.out HB9.out (Nat.le_refl _)⟩, by simp [RowKit.intOf]; omega⟩
    · have hj' : ¬ ((j : Int) < (N : Int)) := by omega
      have HQ : Hid (R = none) := by
        rw [HD.out]
        exact find_none fun i x hx => HA.out i x (by have := (List.getElem?_eq_some_iff.1 hx).1; have := HN.out; omega) hx
      have hlt : w.heap.size < wr.heap.size := (HBX.out.at_ HB.out 0 rfl).lt
      have hne := Nat.ne_of_lt hlt
      clear hj
      have hk1 : Blk wr w.heap.size 62 #[.string noB, .slice none 0 0, .slice none 0 0] := HBX.out.at_ HB.out 0 rfl
      have ca := ((hk1.kept (World.grownBy_alloc wr (.cells #[.string noB, .slice none 0 0, .slice none 0 0] 62) none) (by simp))).cell
      have HK1 := Lib.hid hk1
      have HCA := Lib.hid ca
      clear ca hk1
      go_wp2
      rw [setCell_same HK1.out rfl, setCell_same HK1.out rfl, setCell_same HK1.out rfl]
      have ca := HCA.out
      refine bodyPost_ret (v := .tuple #[.agg #[.string noB, .slice none 0 0, .slice none 0 0], .bool false]) (by simp [results, Try.results73, go_sem, ca]) rfl ?_
      rw [HQ.out]
      exact ⟨_, rfl, IsIf.zero, (HBX.out.below HB.out).alloc (HBX.out.below HB.out).size _⟩
end Go.Proofs.Ytlakmniaocpaaaa
namespace Go.Proofs.Ytlakmniaocpaaaa
open Go.RowKit
open Go.Lib hiding intOf
theorem namedD_any (x : TD) (c : List Value) (w : World) (h : IsTd w x c) : Calls Try.prog 76 #[.agg c.toArray] w fun e w' => e = .returned (.string x.name) ∧ Below w.heap.size w w' := by
  obtain ⟨o1, o2, k1, k2, rfl, g⟩ := h
  have hB : Below w.heap.size w (w.alloc (.cells #[.string x.name, .bool x.strct, .slice o1 x.fields.length k1, .slice o2 x.meths.length k2] 58)) := (Below.refl _ w).alloc (Nat.le_refl _) _
  have hc := (Blk.new w 58 #[.string x.name, .bool x.strct, .slice o1 x.fields.length k1, .slice o2 x.meths.length k2]).cell
  have HB := Lib.hid hB
  clear hB g
  go_enter Try.func76, Try.ntmps76
  go_wp2
  go_ret
  exact ⟨rfl, HB.out⟩
set_option maxRecDepth 100000 in
set_option maxHeartbeats 8000000 in
theorem firstD_any (xs : List TD) (o : Option Addr) (N cp : Nat) (m : ByteArray) (w0 w : World) (hN : xs.length = N) (hq : N ≤ 9223372036854775807) (hrow : IsRow 4 IsTd w0 o xs) (h0 : Below w0.heap.size w0 w) :
    Calls Try.prog 75 #[.slice o N cp, .string m, .func (.func 76) #[] #[]] w fun e w' => ∃ d, e = .returned (.tuple #[.agg d.toArray, .bool (xs.find? fun p => decide (p.name = m)).isSome]) ∧ IsTd w0 ((xs.find? fun p => decide (p.name = m)).getD zeroD) d ∧ Below w.heap.size w w' := by
  obtain ⟨W2, hW2, HBX⟩ := bx1 w #[.string noB, .bool false, .slice none 0 0, .slice none 0 0] 58
  have HW2 := Lib.hid hW2
  have HN := Lib.hid hN
  have HR := Lib.hid hrow
  have H0 := Lib.hid h0
  have HB0 := Lib.hid (Nat.zero_le N)
  have HU0 : Hid (∀ i (x : TD), i < 0 → xs[i]? = some x → decide (x.name = m) = false) := fun i x hi => by omega
  clear hrow hW2 hN h0
  obtain ⟨R, hR⟩ : ∃ R, (xs.find? fun p => decide (p.name = m)) = R := ⟨_, rfl⟩
  rw [hR]
  have HD := Lib.hid hR.symm
  clear hR
  go_enter Try.func75, Try.ntmps75
  go_wp2
  rw [HW2.out]
  go_loopw [13] (fun i wr => ∃ j : Nat, i = .int .i64 (j : Nat) ∧ Hid (j ≤ N) ∧ Hid (∀ i (x : TD), i < j → xs[i]? = some x → decide (x.name = m) = false) ∧ Hid (Below W2.heap.size W2 wr)) (fun i _ => N - (RowKit.intOf i).toNat)
  case atStart => exact ⟨0, rfl, HB0, HU0, Below.refl _ _⟩
  case round =>
    obtain ⟨j, rfl, HJ, HA, HB⟩ := hrel
    clear HB0 HW2 HU0
    have c1 : ∀ i, wr.cell? ⟨w.heap.size, i, none⟩ = _ := (HBX.out.at_ HB.out 0 rfl).cell
    have f1 : ∀ i, wr.frozen? ⟨w.heap.size, i, none⟩ = false := (HBX.out.at_ HB.out 0 rfl).frozen
    by_cases hj : j < N
    · have hj' : ((j : Int) < (N : Int)) := by omega
      have hj0 : (0 : Int) ≤ (j : Int) := by omega
      have hwj := IntWalk.i64_in ((j : Int) + 1) ⟨by omega, by omega⟩
      obtain ⟨x, hx⟩ : ∃ x, xs[j]? = some x := ⟨_, List.getElem?_eq_getElem (by rw [HN.out]; exact hj)⟩
      obtain ⟨a, c, rfl, hlc, hc, hyx⟩ := HR.out j x hx
      have HT := Lib.hid hyx
      have hww := HBX.out.below HB.out
      have HC : Hid (∀ (i : Nat) (v : Value), c[i]? = some v → wr.cell? ((a.add (j * 4)).add i) = some v) := fun i v h => cells_below (H0.out.trans (hww.mono H0.out.size)) _ v (hc i v h)
      obtain ⟨W8, hW8⟩ : ∃ W8, wr.alloc (.cells c.toArray 58) = W8 := ⟨_, rfl⟩
      have hb8 : Below wr.heap.size wr W8 := by rw [← hW8]; exact (Below.refl _ _).alloc (Nat.le_refl _) _
      have HBK : Hid (Blk W8 wr.heap.size 58 c.toArray) := by rw [← hW8]; exact Blk.new _ _ _
      have HB8 := Lib.hid hb8
      have HF := Lib.hid (namedD_any x c W8 (hyx.below ((H0.out.trans (hww.mono H0.out.size)).trans (hb8.mono (Nat.le_trans H0.out.size hww.size)))))
      obtain ⟨o1, o2, k1, k2, rfl, g⟩ := hyx
      have HW8 := Lib.hid hW8
      have HWW := Lib.hid hww
      have HX := Lib.hid hx
      clear hc g hlc hx hb8 hW8 hww c1 f1
      by_cases hm : x.name = m
      · have HQ : Hid (R = some x) := by
          rw [HD.out]
          exact find_at HX.out (by simp [hm]) fun i y hi hy => HA.out i y hi hy
        subst hm
        go_wp2_with (first
          | (refine boxLoadG 58 4 size4 Try.underlying58 rfl _ rfl (a.add (j * 4)) rfl HC.out rfl ?_)
          | (refine boxNew 58 4 size4 rfl _ _ rfl rfl [.string x.name, .bool x.strct, .slice o1 x.fields.length k1, .slice o2 x.meths.length k2] rfl rfl rfl rfl ?_; rw [HW8.out])
          | (refine boxLoad 58 4 size4 Try.underlying58 rfl _ rfl wr.heap.size rfl (cs := [.string x.name, .bool x.strct, .slice o1 x.fields.length k1, .slice o2 x.meths.length k2]) HK9.out rfl ?_)
          | (refine boxLoad 58 4 size4 Try.underlying58 rfl _ rfl wr.heap.size rfl (cs := [.string x.name, .bool x.strct, .slice o1 x.fields.length k1, .slice o2 x.meths.length k2]) HBK.out rfl ?_)
          | (refine HF.out.mono ?_; rintro e w9 ⟨rfl, hb⟩; have HK9 := Lib.hid (blkB HBK.out hb); have hb9 := (stepB HB8.out hb (Nat.le_refl _)); have HB9 := Lib.hid hb9; have c9 : ∀ i, w9.cell? ⟨w.heap.size, i, none⟩ = _ := (blkB (HBX.out.at_ HB.out 0 rfl) hb9).cell; have f9 : ∀ i, w9.frozen? ⟨w.heap.size, i, none⟩ = false := (blkB (HBX.out.at_ HB.out 0 rfl) hb9).frozen; clear hb hb9))
        refine bodyPost_ret (v := .tuple #[.agg #[.string x.name, .bool x.strct, .slice o1 x.fields.length k1, .slice o2 x.meths.length k2], .bool true]) (by simp [results, Try.results75, go_sem, c9]) rfl ?_
        rw [HQ.out]
        exact ⟨_, rfl, HT.out, below4s (stepB HWW.out HB9.out (Nat.le_refl _)) (Nat.le_refl _) (.string x.name) (.bool x.strct) (.slice o1 x.fields.length k1) (.slice o2 x.meths.length k2)⟩
      · have hne := bytes_ne hm
        have HA2 : Hid (∀ i (y : TD), i < j + 1 → xs[i]? = some y → decide (y.name = m) = false) := fun i y hi hy => by
          by_cases e : i < j
          · exact HA.out i y e hy
          · obtain rfl : i = j := by omega
            have hx := HX.out
            rw [hx] at hy
            cases hy
            exact decide_eq_false hm
        have HM := Lib.hid hm
        clear hm
        go_wp2_with (first
          | (refine boxLoadG 58 4 size4 Try.underlying58 rfl _ rfl (a.add (j * 4)) rfl HC.out rfl ?_)
          | (refine boxNew 58 4 size4 rfl _ _ rfl rfl [.string x.name, .bool x.strct, .slice o1 x.fields.length k1, .slice o2 x.meths.length k2] rfl rfl rfl rfl ?_; rw [HW8.out])
          | (refine boxLoad 58 4 size4 Try.underlying58 rfl _ rfl wr.heap.size rfl (cs := [.string x.name, .bool x.strct, .slice o1 x.fields.length k1, .slice o2 x.meths.length k2]) HBK.out rfl ?_)
          | (refine HF.out.mono ?_; rintro e w9 ⟨rfl, hb⟩; have HB9 := Lib.hid (stepB HB8.out hb (Nat.le_refl _)); clear hb))
        case roundEnd => exact ⟨⟨j + 1, by push_cast; rfl, hj, HA2, stepB HB.out HB9.out (Nat.le_refl _)⟩, by simp [RowKit.intOf]; omega⟩
    · have hj' : ¬ ((j : Int) < (N : Int)) := by omega
      have HQ : Hid (R = none) := by
        rw [HD.out]
        exact find_none fun i x hx => HA.out i x (by have := (List.getElem?_eq_some_iff.1 hx).1; have := HN.out; omega) hx
      have hlt : w.heap.size < wr.heap.size := (HBX.out.at_ HB.out 0 rfl).lt
      have hne := Nat.ne_of_lt hlt
      clear hj
      have hk1 : Blk wr w.heap.size 58 #[.string noB, .bool false, .slice none 0 0, .slice none 0 0] := HBX.out.at_ HB.out 0 rfl
      have ca := ((hk1.kept (World.grownBy_alloc wr (.cells #[.string noB, .bool false, .slice none 0 0, .slice none 0 0] 58) none) (by simp))).cell
      have HK1 := Lib.hid hk1
      have HCA := Lib.hid ca
      clear ca hk1
      go_wp2
      rw [setCell_same HK1.out rfl, setCell_same HK1.out rfl, setCell_same HK1.out rfl, setCell_same HK1.out rfl]
      have ca := HCA.out
      refine bodyPost_ret (v := .tuple #[.agg #[.string noB, .bool false, .slice none 0 0, .slice none 0 0], .bool false]) (by simp [results, Try.results75, go_sem, ca]) rfl ?_
      rw [HQ.out]
      exact ⟨_, rfl, IsTd.zero, (HBX.out.below HB.out).alloc (HBX.out.below HB.out).size _⟩
end Go.Proofs.Ytlakmniaocpaaaa
namespace Go.Proofs.Ytlakmniaocpaaaa
open Go.RowKit
open Go.Lib hiding intOf
theorem bind_zero {W : List IF} {f : IF → Bool} {m : ByteArray} : ((W.find? f).bind fun p => declI p m) = declI ((W.find? f).getD zeroI) m := by
  cases W.find? f with
  | some p => rfl
  | none => rfl
set_option maxRecDepth 100000 in
set_option maxHeartbeats 8000000 in
theorem declP_any (s : SCP) (t : GY) (c : List Value) (v : Value) (w0 w : World) (h : IsSc w0 s c) (ht : IsY w0 t v) (h0 : Below w0.heap.size w0 w) :
    Calls Try.prog 54 #[.agg c.toArray, v] w fun e w' => ∃ d, e = .returned (.tuple #[.agg d.toArray, .bool (findS s.W t).isSome]) ∧ IsTd w0 ((findS s.W t).getD zeroD) d ∧ Below w.heap.size w w' := by
  obtain ⟨o, o1, o2, o3, o4, k, n1, k1, n2, k2, k3, n4, k4, rfl, hl, hk, _, _, hrow, _⟩ := h
  obtain ⟨W, bs⟩ := s
  obtain ⟨tk, tp, tm, tn, ta⟩ := t
  obtain ⟨o5, k5, rfl, _⟩ := ht.parts
  dsimp only at hl hrow ⊢
  have hq : W.length ≤ 9223372036854775807 := by unfold maxLen at hk; omega
  obtain ⟨N, hN⟩ : ∃ N, W.length = N := ⟨_, rfl⟩
  generalize bs.length = nb
  generalize ta.length = na
  rw [hN] at hq ⊢
  obtain ⟨W2, hW2, HBX⟩ := bx3 w #[.slice o N k, .slice o1 n1 k1, .slice o2 n2 k2, .slice o3 nb k3, .slice o4 n4 k4] #[.int .i64 tk, .string tp, .string tm, .int .i64 tn, .slice o5 na k5] #[.string noB, .bool false, .slice none 0 0, .slice none 0 0] 32 34 58
  have HW2 := Lib.hid hW2
  have hww := HBX.out.2.1
  have HWW := Lib.hid hww
  have HD : Hid (findS W (.mk tk tp tm tn ta) = if tk = 4 then (W.find? fun p => decide (p.pkg = tp)).bind fun p => declI p tm else none) := rfl
  by_cases hk : tk = 4
  · have HI := Lib.hid (firstI_any W o N k tp w0 W2 hN hq hrow (h0.trans (hww.mono h0.size)))
    have HX : Hid (∀ (p : IF) (o : Option Addr) (k : Nat) (V : World), p.types.length ≤ k → k ≤ maxLen → IsRow 4 IsTd w0 o p.types → Below w.heap.size w V → Calls Try.prog 75 #[.slice o p.types.length k, .string tm, .func (.func 76) #[] #[]] V fun e w' => ∃ d, e = .returned (.tuple #[.agg d.toArray, .bool (declI p tm).isSome]) ∧ IsTd w0 ((declI p tm).getD zeroD) d ∧ Below V.heap.size V w') :=
      fun p o k V h1 h2 h3 hb => firstD_any p.types o _ k tm w0 V rfl (by unfold maxLen at h2; omega) h3 (h0.trans (hb.mono h0.size))
    have HD1 : Hid (findS W (.mk tk tp tm tn ta) = declI ((W.find? fun p => decide (p.pkg = tp)).getD zeroI) tm) := HD.out.trans ((if_pos hk).trans bind_zero)
    clear HD hl hrow hW2 hN ht h0 hww
    generalize findS W (.mk tk tp tm tn ta) = R at *
    generalize (W.find? fun p => decide (p.pkg = tp)) = F at *
    subst hk
    have c0 : ∀ i, W2.cell? ⟨w.heap.size, i, none⟩ = _ := (HBX.out.at_ (Below.refl _ _) 0 rfl).cell
    have c1 : ∀ i, W2.cell? ⟨w.heap.size + 1, i, none⟩ = _ := (HBX.out.at_ (Below.refl _ _) 1 rfl).cell
    go_enter Try.func54, Try.ntmps54
    go_wp2_with fail
    rw [HW2.out]
    refine HI.out.mono ?_
    rintro e V ⟨d, rfl, hd, hb⟩
    have hcc := hd
    obtain ⟨oT, oF, kT, nF, kF, rfl, hl, hk, hr⟩ := hd
    have hv := stepB HBX.out.2.1 hb (by have := HBX.out.1; omega)
    have hbx1 := HBX.out.at_ hb 1 rfl
    have hx := HX.out (F.getD zeroI) oT kT (V.alloc (.cells #[.string (F.getD zeroI).pkg, .slice oT (F.getD zeroI).types.length kT, .slice oF nF kF] 62)) hl hk hr (hv.alloc hv.size _)
    have HV : Hid (Below W2.heap.size W2 (V.alloc (.cells #[.string (F.getD zeroI).pkg, .slice oT (F.getD zeroI).types.length kT, .slice oF nF kF] 62))) := hb.alloc hb.size _
    have HXX := Lib.hid hx
    have c1' := hbx1.cell
    have l1 := hbx1.lt
    have hne := Nat.ne_of_lt l1
    have hlt2 : w.heap.size + 1 < V.heap.size + 1 := by omega
    clear hl hk hr hx c0 c1 HX HI hcc hv hbx1 hb
    generalize (F.getD zeroI).types.length = nT at *
    generalize (F.getD zeroI).pkg = gP at *
    go_wp2_with fail
    refine HXX.out.mono ?_
    rintro e X ⟨d, rfl, hd, hb⟩
    rw [← HD1.out] at hd ⊢
    have HT := Lib.hid hd
    obtain ⟨od, oe, kd, ke, rfl, _⟩ := hd
    have hx := stepB HV.out hb (Nat.le_refl _)
    have hb2 := HBX.out.at_ hx 2 rfl
    have c2 : ∀ i, X.cell? ⟨w.heap.size + 1 + 1, i, none⟩ = _ := hb2.cell
    have f2 : ∀ i, X.frozen? ⟨w.heap.size + 1 + 1, i, none⟩ = false := hb2.frozen
    have HX2 := Lib.hid (HBX.out.below hx)
    clear hx hb hb2
    go_wp2
    refine bodyPost_ret (v := .tuple #[.agg #[.string (R.getD zeroD).name, .bool (R.getD zeroD).strct, .slice od (R.getD zeroD).fields.length kd, .slice oe (R.getD zeroD).meths.length ke], .bool R.isSome]) (by simp [results, Try.results54, go_sem, c2]) rfl ?_
    exact ⟨_, rfl, HT.out, below4 HX2.out (by omega) _ _ _ _⟩
  · have hkb : (tk != 4) = true := by simpa using hk
    have HQ := Lib.hid (HD.out.trans (if_neg hk))
    rw [← hW2] at hww
    have HBB := Lib.hid hww
    clear HBX HW2 hww HD hl hrow hW2 hN ht h0 HWW
    generalize findS W (.mk tk tp tm tn ta) = R at *
    go_enter Try.func54, Try.ntmps54
    go_wp2
    refine bodyPost_ret (v := .tuple #[.agg #[.string noB, .bool false, .slice none 0 0, .slice none 0 0], .bool false]) (by simp [results, Try.results54, go_sem]) rfl ?_
    rw [HQ.out]
    exact ⟨_, rfl, IsTd.zero, HBB.out⟩
set_option maxRecDepth 100000 in
set_option maxHeartbeats 8000000 in
theorem ifaceP_any (s : SCP) (t : GY) (c : List Value) (v : Value) (w0 w : World) (h : IsSc w0 s c) (ht : IsY w0 t v) (h0 : Below w0.heap.size w0 w) :
    Calls Try.prog 79 #[.agg c.toArray, v] w fun e w' => e = .returned (.bool (ifaceS s.W t)) ∧ Below w.heap.size w w' := by
  have HF := Lib.hid (fun W (hb : Below w.heap.size w W) => declP_any s t c v w0 W h ht (old_step h0 hb))
  have HD : Hid (ifaceS s.W t = match findS s.W t with | some d => !d.strct | none => false) := rfl
  obtain ⟨o, o1, o2, o3, o4, k, n1, k1, n2, k2, k3, n4, k4, rfl, _⟩ := h
  obtain ⟨tk, tp, tm, tn, ta⟩ := t
  obtain ⟨o5, k5, rfl, _⟩ := ht.parts
  generalize findS s.W (.mk tk tp tm tn ta) = R at *
  generalize ifaceS s.W (.mk tk tp tm tn ta) = B at *
  generalize s.W.length = nW at *
  generalize s.bounds.length = nb at *
  generalize ta.length = na at *
  obtain ⟨W2, hW2, HBX⟩ := bx2 w #[.slice o nW k, .slice o1 n1 k1, .slice o2 n2 k2, .slice o3 nb k3, .slice o4 n4 k4] #[.int .i64 tk, .string tp, .string tm, .int .i64 tn, .slice o5 na k5] 32 34
  have hb1 := HBX.out.2.1
  rw [← hW2] at hb1
  have HB1 := Lib.hid hb1
  clear ht h0 hb1 hW2 HBX
  cases hR : R with
  | none =>
    subst hR
    have e : B = false := HD.out
    subst e
    go_enter Try.func79, Try.ntmps79
    go_wp2_with fail
    refine (HF.out _ HB1.out).mono ?_
    rintro e V ⟨d, rfl, hd, hb⟩
    obtain ⟨od, oe, kd, ke, rfl, _⟩ := hd
    have HV := Lib.hid (stepB HB1.out hb (Nat.le_refl _))
    clear hb
    go_wp2
    go_ret
    exact ⟨rfl, (HV.out.alloc HV.out.size _)⟩
  | some D =>
    subst hR
    have e : B = !D.strct := HD.out
    subst e
    go_enter Try.func79, Try.ntmps79
    go_wp2_with fail
    refine (HF.out _ HB1.out).mono ?_
    rintro e V ⟨d, rfl, hd, hb⟩
    obtain ⟨od, oe, kd, ke, rfl, _⟩ := hd
    have HV := Lib.hid (stepB HB1.out hb (Nat.le_refl _))
    clear hb
    go_wp2
    go_ret
    exact ⟨rfl, (HV.out.alloc HV.out.size _)⟩
end Go.Proofs.Ytlakmniaocpaaaa
namespace Go.Proofs.Ytlakmniaocpaaaa
open Go.RowKit
open Go.Lib hiding intOf
theorem sizeS : (Try.prog.info? 32).map (·.size) = some 5 := by kernel_rfl
theorem wpAnyH_done' {P : Program} {ops : Array Oper} {Q : Exit → Act → World → Prop} {md : Region.Mode} {S : World → Prop} {listed : Array Bool} {a : Act} {w : World} {fuel : Nat} (hr : Region.ready md ops listed = []) (b : Act) (hb : a = b) (h : Q .normal b w) : wpAnyH P md ops Q S fuel listed a w := by
  subst hb; exact wpAnyH_done hr h _
theorem blk_add0 {W : World} {g : Nat} {t : TypeId} {cs : List Value} (h : Blk W g t cs.toArray) : ∀ (j : Nat) (v : Value), cs[j]? = some v → W.cell? ((⟨g, 0, none⟩ : Addr).add j) = some v := fun j v hv => by
  have e : (⟨g, 0, none⟩ : Addr).add j = ⟨g, j, none⟩ := by unfold Addr.add; split <;> simp_all
  rw [e, h.cell]
  simpa using hv
set_option maxRecDepth 100000 in
set_option maxHeartbeats 8000000 in
theorem methP_any (s : SCP) (t : GY) (c : List Value) (v : Value) (w0 w : World) (h : IsSc w0 s c) (ht : IsY w0 t v) (h0 : Below w0.heap.size w0 w) :
    Calls Try.prog 56 #[.agg c.toArray, v] w fun e w' => ∃ u, e = .returned u ∧ IsMs w0 (methS s t) u ∧ Below w.heap.size w w' := by
  have HF := Lib.hid (fun (x : GY) (u : Value) (hx : IsY w0 x u) W (hb : Below w.heap.size w W) => declP_any s x c u w0 W h hx (old_step h0 hb))
  have HI := Lib.hid (fun (x : GY) (u : Value) (hx : IsY w0 x u) W (hb : Below w.heap.size w W) => ifaceP_any s x c u w0 W h hx (old_step h0 hb))
  have HTY := Lib.hid ht
  have H0 := Lib.hid h0
  obtain ⟨o, o1, o2, o3, o4, k, n1, k1, n2, k2, k3, n4, k4, rfl, _, _, hl3, hk3, _, hbs, _⟩ := h
  have hq : s.bounds.length ≤ 9223372036854775807 := by unfold maxLen at hk3; omega
  have HBS := Lib.hid hbs
  obtain ⟨tk, tp, tm, tn, ta⟩ := t
  have HM : Hid (methS s (.mk tk tp tm tn ta) = if tk = 6 then if tn < 0 ∨ (s.bounds.length : Int) ≤ tn then [] else if ifaceS s.W (s.bounds.getD tn.toNat zeroY) then methD s.W (s.bounds.getD tn.toNat zeroY) else [] else methD s.W (.mk tk tp tm tn ta)) := rfl
  obtain ⟨o5, k5, rfl, _⟩ := ht.parts
  generalize methS s (.mk tk tp tm tn ta) = M at *
  generalize s.W.length = nW at *
  generalize ta.length = na at *
  obtain ⟨N, hN⟩ : ∃ N, N = s.bounds.length := ⟨_, rfl⟩
  rw [← hN] at hq HM HF HI
  rw [← hN]
  have HN := Lib.hid hN
  obtain ⟨W2, hW2, HBX⟩ := bx2 w #[.slice o nW k, .slice o1 n1 k1, .slice o2 n2 k2, .slice o3 N k3, .slice o4 n4 k4] #[.int .i64 tk, .string tp, .string tm, .int .i64 tn, .slice o5 na k5] 32 34
  have hb1 := HBX.out.2.1
  rw [← hW2] at hb1
  have HB1 := Lib.hid hb1
  have HW2 := Lib.hid hW2
  clear ht h0 hb1 hW2 hN hl3 hk3 hbs
  by_cases hk : tk = 6
  · have HM1 := Lib.hid (HM.out.trans (if_pos hk))
    subst hk
    clear HM
    by_cases hn : tn < 0 ∨ (N : Int) ≤ tn
    · have HM2 := Lib.hid (HM1.out.trans (if_pos hn))
      clear HM1 HF HI
      rcases hn with hn | hn
      · have hnd := decide_eq_true hn
        go_enter Try.func56, Try.ntmps56
        go_wp2_with fail
        rw [HW2.out]
        have hS0 : (fun w' : World => Below W2.heap.size W2 w') W2.drew := (Below.refl _ _).drew
        refine wp_region_held_drew (S := (fun w' : World => Below W2.heap.size W2 w')) (by kernel_rfl) hS0 fun hS0 => ?_
        refine wpAnyH_take (i := 0) (v := .pointer (some ⟨w.heap.size + 1, 3, none⟩)) rfl (by kernel_rfl) (by kernel_rfl) (by kernel_rfl) (fun _ _ _ h => h) (Or.inl ⟨by kernel_rfl, fun w' hw' => ?_⟩) hS0 ?_
        · kernel_rfl
        refine wpAnyH_take (i := 1) (v := .int .i64 tn) rfl (by kernel_rfl) (by kernel_rfl) (by kernel_rfl) (fun _ _ _ h => h) (Or.inl ⟨by kernel_rfl, fun w' hw' => ?_⟩) hS0 ?_
        · have h3 : w'.cell? ⟨w.heap.size + 1, 3, none⟩ = some (.int .i64 tn) := (HBX.out.at_ hw' 1 rfl).cell 3
          go_simp
        refine wpAnyH_take (i := 2) (v := .bool true) rfl (by kernel_rfl) (by kernel_rfl) (by kernel_rfl) (fun _ _ _ h => h) (Or.inl ⟨by kernel_rfl, fun w' hw' => ?_⟩) hS0 ?_
        · go_simp
        refine wpAnyH_take (i := 3) (v := .bool true) rfl (by kernel_rfl) (by kernel_rfl) (by kernel_rfl) (fun _ _ _ h => h) (Or.inl ⟨by kernel_rfl, fun w' hw' => ?_⟩) hS0 ?_
        · kernel_rfl
        refine wpAnyH_take (i := 4) (v := undef) rfl (by kernel_rfl) (by kernel_rfl) (by kernel_rfl) (fun _ _ _ h => h) (Or.inr ⟨by kernel_rfl, by kernel_rfl⟩) hS0 ?_
        refine wpAnyH_take (i := 5) (v := undef) rfl (by kernel_rfl) (by kernel_rfl) (by kernel_rfl) (fun _ _ _ h => h) (Or.inr ⟨by kernel_rfl, by kernel_rfl⟩) hS0 ?_
        refine wpAnyH_take (i := 6) (v := undef) rfl (by kernel_rfl) (by kernel_rfl) (by kernel_rfl) (fun _ _ _ h => h) (Or.inr ⟨by kernel_rfl, by kernel_rfl⟩) hS0 ?_
        refine wpAnyH_take (i := 7) (v := undef) rfl (by kernel_rfl) (by kernel_rfl) (by kernel_rfl) (fun _ _ _ h => h) (Or.inr ⟨by kernel_rfl, by kernel_rfl⟩) hS0 ?_
        refine wpAnyH_take (i := 8) (v := undef) rfl (by kernel_rfl) (by kernel_rfl) (by kernel_rfl) (fun _ _ _ h => h) (Or.inr ⟨by kernel_rfl, by kernel_rfl⟩) hS0 ?_
        refine wpAnyH_take (i := 9) (v := undef) rfl (by kernel_rfl) (by kernel_rfl) (by kernel_rfl) (fun _ _ _ h => h) (Or.inr ⟨by kernel_rfl, by kernel_rfl⟩) hS0 ?_
        refine wpAnyH_take (i := 10) (v := .bool true) rfl (by kernel_rfl) (by kernel_rfl) (by kernel_rfl) (fun _ _ _ h => h) (Or.inl ⟨by kernel_rfl, fun w' hw' => ?_⟩) hS0 ?_
        · kernel_rfl
        refine wpAnyH_take (i := 11) (v := .bool true) rfl (by kernel_rfl) (by kernel_rfl) (by kernel_rfl) (fun _ _ _ h => h) (Or.inl ⟨by kernel_rfl, fun w' hw' => ?_⟩) hS0 ?_
        · kernel_rfl
        refine wpAnyH_take (i := 12) (v := undef) rfl (by kernel_rfl) (by kernel_rfl) (by kernel_rfl) (fun _ _ _ h => h) (Or.inr ⟨by kernel_rfl, by kernel_rfl⟩) hS0 ?_
        refine wpAnyH_take (i := 13) (v := undef) rfl (by kernel_rfl) (by kernel_rfl) (by kernel_rfl) (fun _ _ _ h => h) (Or.inr ⟨by kernel_rfl, by kernel_rfl⟩) hS0 ?_
        refine wpAnyH_take (i := 14) (v := undef) rfl (by kernel_rfl) (by kernel_rfl) (by kernel_rfl) (fun _ _ _ h => h) (Or.inr ⟨by kernel_rfl, by kernel_rfl⟩) hS0 ?_
        refine wpAnyH_take (i := 15) (v := undef) rfl (by kernel_rfl) (by kernel_rfl) (by kernel_rfl) (fun _ _ _ h => h) (Or.inr ⟨by kernel_rfl, by kernel_rfl⟩) hS0 ?_
        refine wpAnyH_take (i := 16) (v := undef) rfl (by kernel_rfl) (by kernel_rfl) (by kernel_rfl) (fun _ _ _ h => h) (Or.inr ⟨by kernel_rfl, by kernel_rfl⟩) hS0 ?_
        refine wpAnyH_take (i := 17) (v := undef) rfl (by kernel_rfl) (by kernel_rfl) (by kernel_rfl) (fun _ _ _ h => h) (Or.inr ⟨by kernel_rfl, by kernel_rfl⟩) hS0 ?_
        refine wpAnyH_take (i := 18) (v := undef) rfl (by kernel_rfl) (by kernel_rfl) (by kernel_rfl) (fun _ _ _ h => h) (Or.inr ⟨by kernel_rfl, by kernel_rfl⟩) hS0 ?_
        refine wpAnyH_take (i := 19) (v := undef) rfl (by kernel_rfl) (by kernel_rfl) (by kernel_rfl) (fun _ _ _ h => h) (Or.inr ⟨by kernel_rfl, by kernel_rfl⟩) hS0 ?_
        refine wpAnyH_take (i := 20) (v := undef) rfl (by kernel_rfl) (by kernel_rfl) (by kernel_rfl) (fun _ _ _ h => h) (Or.inr ⟨by kernel_rfl, by kernel_rfl⟩) hS0 ?_
        refine wpAnyH_take (i := 21) (v := .bool true) rfl (by kernel_rfl) (by kernel_rfl) (by kernel_rfl) (fun _ _ _ h => h) (Or.inl ⟨by kernel_rfl, fun w' hw' => ?_⟩) hS0 ?_
        · kernel_rfl
        refine wpAnyH_done' (by kernel_rfl) { tmps := #[.agg #[.slice o nW k, .slice o1 n1 k1, .slice o2 n2 k2, .slice o3 N k3, .slice o4 n4 k4], .agg #[.int .i64 6, .string tp, .string tm, .int .i64 tn, .slice o5 na k5], .pointer (some ⟨w.heap.size, 0, none⟩), .pointer (some ⟨w.heap.size + 1, 0, none⟩), .slice none 0 0, undef, undef, .pointer (some ⟨w.heap.size + 1, 0, none⟩), .int .i64 6, .bool true, .pointer (some ⟨w.heap.size + 1, 3, none⟩), .int .i64 tn, .bool true, .bool true, undef, undef, undef, undef, undef, undef, .bool true, .bool true, undef, undef, undef, undef, undef, undef, undef, undef, undef, .bool true, undef, undef, undef, undef, undef, undef, undef, undef, undef, undef, undef, undef, undef, undef], defers := [] } (by kernel_rfl) ?_
        have HS1 : Hid (Below w.heap.size w W2.drew) := HBX.out.below hS0
        clear hS0
        go_wp2_with fail
        go_ret
        rw [HM2.out]
        exact ⟨_, rfl, IsMs.nil, HS1.out⟩
      · have hn0 : ¬ tn < 0 := by omega
        have hnd := decide_eq_false hn0
        have hne := decide_eq_true hn
        go_enter Try.func56, Try.ntmps56
        go_wp2_with fail
        rw [HW2.out]
        have hS0 : (fun w' : World => Below W2.heap.size W2 w') W2.drew := (Below.refl _ _).drew
        refine wp_region_held_drew (S := (fun w' : World => Below W2.heap.size W2 w')) (by kernel_rfl) hS0 fun hS0 => ?_
        refine wpAnyH_take (i := 0) (v := .pointer (some ⟨w.heap.size + 1, 3, none⟩)) rfl (by kernel_rfl) (by kernel_rfl) (by kernel_rfl) (fun _ _ _ h => h) (Or.inl ⟨by kernel_rfl, fun w' hw' => ?_⟩) hS0 ?_
        · kernel_rfl
        refine wpAnyH_take (i := 1) (v := .int .i64 tn) rfl (by kernel_rfl) (by kernel_rfl) (by kernel_rfl) (fun _ _ _ h => h) (Or.inl ⟨by kernel_rfl, fun w' hw' => ?_⟩) hS0 ?_
        · have h3 : w'.cell? ⟨w.heap.size + 1, 3, none⟩ = some (.int .i64 tn) := (HBX.out.at_ hw' 1 rfl).cell 3
          go_simp
        refine wpAnyH_take (i := 2) (v := .bool false) rfl (by kernel_rfl) (by kernel_rfl) (by kernel_rfl) (fun _ _ _ h => h) (Or.inl ⟨by kernel_rfl, fun w' hw' => ?_⟩) hS0 ?_
        · go_simp
        refine wpAnyH_take (i := 3) (v := .bool false) rfl (by kernel_rfl) (by kernel_rfl) (by kernel_rfl) (fun _ _ _ h => h) (Or.inl ⟨by kernel_rfl, fun w' hw' => ?_⟩) hS0 ?_
        · kernel_rfl
        refine wpAnyH_take (i := 4) (v := .pointer (some ⟨w.heap.size + 1, 3, none⟩)) rfl (by kernel_rfl) (by kernel_rfl) (by kernel_rfl) (fun _ _ _ h => h) (Or.inl ⟨by kernel_rfl, fun w' hw' => ?_⟩) hS0 ?_
        · kernel_rfl
        refine wpAnyH_take (i := 5) (v := .int .i64 tn) rfl (by kernel_rfl) (by kernel_rfl) (by kernel_rfl) (fun _ _ _ h => h) (Or.inl ⟨by kernel_rfl, fun w' hw' => ?_⟩) hS0 ?_
        · have h3 : w'.cell? ⟨w.heap.size + 1, 3, none⟩ = some (.int .i64 tn) := (HBX.out.at_ hw' 1 rfl).cell 3
          go_simp
        refine wpAnyH_take (i := 6) (v := .pointer (some ⟨w.heap.size, 3, none⟩)) rfl (by kernel_rfl) (by kernel_rfl) (by kernel_rfl) (fun _ _ _ h => h) (Or.inl ⟨by kernel_rfl, fun w' hw' => ?_⟩) hS0 ?_
        · kernel_rfl
        refine wpAnyH_take (i := 7) (v := .slice o3 N k3) rfl (by kernel_rfl) (by kernel_rfl) (by kernel_rfl) (fun _ _ _ h => h) (Or.inl ⟨by kernel_rfl, fun w' hw' => ?_⟩) hS0 ?_
        · have h3 : w'.cell? ⟨w.heap.size, 3, none⟩ = some (.slice o3 N k3) := by have := (HBX.out.at_ hw' 0 rfl).cell 3; rwa [Nat.add_zero] at this
          go_simp
        refine wpAnyH_take (i := 8) (v := .int .i64 (N : Int)) rfl (by kernel_rfl) (by kernel_rfl) (by kernel_rfl) (fun _ _ _ h => h) (Or.inl ⟨by kernel_rfl, fun w' hw' => ?_⟩) hS0 ?_
        · kernel_rfl
        refine wpAnyH_take (i := 9) (v := .bool true) rfl (by kernel_rfl) (by kernel_rfl) (by kernel_rfl) (fun _ _ _ h => h) (Or.inl ⟨by kernel_rfl, fun w' hw' => ?_⟩) hS0 ?_
        · go_simp
        refine wpAnyH_take (i := 10) (v := .bool true) rfl (by kernel_rfl) (by kernel_rfl) (by kernel_rfl) (fun _ _ _ h => h) (Or.inl ⟨by kernel_rfl, fun w' hw' => ?_⟩) hS0 ?_
        · kernel_rfl
        refine wpAnyH_take (i := 11) (v := .bool true) rfl (by kernel_rfl) (by kernel_rfl) (by kernel_rfl) (fun _ _ _ h => h) (Or.inl ⟨by kernel_rfl, fun w' hw' => ?_⟩) hS0 ?_
        · kernel_rfl
        refine wpAnyH_take (i := 12) (v := undef) rfl (by kernel_rfl) (by kernel_rfl) (by kernel_rfl) (fun _ _ _ h => h) (Or.inr ⟨by kernel_rfl, by kernel_rfl⟩) hS0 ?_
        refine wpAnyH_take (i := 13) (v := undef) rfl (by kernel_rfl) (by kernel_rfl) (by kernel_rfl) (fun _ _ _ h => h) (Or.inr ⟨by kernel_rfl, by kernel_rfl⟩) hS0 ?_
        refine wpAnyH_take (i := 14) (v := undef) rfl (by kernel_rfl) (by kernel_rfl) (by kernel_rfl) (fun _ _ _ h => h) (Or.inr ⟨by kernel_rfl, by kernel_rfl⟩) hS0 ?_
        refine wpAnyH_take (i := 15) (v := undef) rfl (by kernel_rfl) (by kernel_rfl) (by kernel_rfl) (fun _ _ _ h => h) (Or.inr ⟨by kernel_rfl, by kernel_rfl⟩) hS0 ?_
        refine wpAnyH_take (i := 16) (v := undef) rfl (by kernel_rfl) (by kernel_rfl) (by kernel_rfl) (fun _ _ _ h => h) (Or.inr ⟨by kernel_rfl, by kernel_rfl⟩) hS0 ?_
        refine wpAnyH_take (i := 17) (v := undef) rfl (by kernel_rfl) (by kernel_rfl) (by kernel_rfl) (fun _ _ _ h => h) (Or.inr ⟨by kernel_rfl, by kernel_rfl⟩) hS0 ?_
        refine wpAnyH_take (i := 18) (v := undef) rfl (by kernel_rfl) (by kernel_rfl) (by kernel_rfl) (fun _ _ _ h => h) (Or.inr ⟨by kernel_rfl, by kernel_rfl⟩) hS0 ?_
        refine wpAnyH_take (i := 19) (v := undef) rfl (by kernel_rfl) (by kernel_rfl) (by kernel_rfl) (fun _ _ _ h => h) (Or.inr ⟨by kernel_rfl, by kernel_rfl⟩) hS0 ?_
        refine wpAnyH_take (i := 20) (v := undef) rfl (by kernel_rfl) (by kernel_rfl) (by kernel_rfl) (fun _ _ _ h => h) (Or.inr ⟨by kernel_rfl, by kernel_rfl⟩) hS0 ?_
        refine wpAnyH_take (i := 21) (v := .bool true) rfl (by kernel_rfl) (by kernel_rfl) (by kernel_rfl) (fun _ _ _ h => h) (Or.inl ⟨by kernel_rfl, fun w' hw' => ?_⟩) hS0 ?_
        · kernel_rfl
        refine wpAnyH_done' (by kernel_rfl) { tmps := #[.agg #[.slice o nW k, .slice o1 n1 k1, .slice o2 n2 k2, .slice o3 N k3, .slice o4 n4 k4], .agg #[.int .i64 6, .string tp, .string tm, .int .i64 tn, .slice o5 na k5], .pointer (some ⟨w.heap.size, 0, none⟩), .pointer (some ⟨w.heap.size + 1, 0, none⟩), .slice none 0 0, undef, undef, .pointer (some ⟨w.heap.size + 1, 0, none⟩), .int .i64 6, .bool true, .pointer (some ⟨w.heap.size + 1, 3, none⟩), .int .i64 tn, .bool false, .bool false, .pointer (some ⟨w.heap.size + 1, 3, none⟩), .int .i64 tn, .pointer (some ⟨w.heap.size, 3, none⟩), .slice o3 N k3, .int .i64 (N : Int), .bool true, .bool true, .bool true, undef, undef, undef, undef, undef, undef, undef, undef, undef, .bool true, undef, undef, undef, undef, undef, undef, undef, undef, undef, undef, undef, undef, undef, undef], defers := [] } (by kernel_rfl) ?_
        have HS1 : Hid (Below w.heap.size w W2.drew) := HBX.out.below hS0
        clear hS0
        go_wp2_with fail
        go_ret
        rw [HM2.out]
        exact ⟨_, rfl, IsMs.nil, HS1.out⟩
    · have HM2 := Lib.hid (HM1.out.trans (if_neg hn))
      obtain ⟨j, rfl⟩ : ∃ j : Nat, tn = (j : Int) := ⟨tn.toNat, by omega⟩
      have hjN : j < N := by omega
      obtain ⟨y, hy⟩ : ∃ y, s.bounds[j]? = some y := ⟨_, List.getElem?_eq_getElem (by rw [← HN.out]; exact hjN)⟩
      have HM3 : Hid (M = if ifaceS s.W y then methD s.W y else []) := by
        have e := HM2.out
        rw [Int.toNat_natCast, getD_some hy] at e
        exact e
      obtain ⟨a, d0, d1, d2, d3, d4, rfl, hc, hyy⟩ := HBS.out.at_ j hy
      have HYY := Lib.hid hyy
      obtain ⟨ya, yn, yp, yq, o6, e6, k6, hv⟩ := hyy.expl
      simp only [Value.agg.injEq, Array.mk.injEq, List.cons.injEq, and_true] at hv
      obtain ⟨rfl, rfl, rfl, rfl, rfl⟩ := hv
      rw [Nat.zero_add] at hc
      have HC := Lib.hid (fun (W : World) (hb : Below w.heap.size w W) (i : Nat) (u : Value) h => cells_below (old_step H0.out hb) _ u (hc i u h))
      have hj0 : (0 : Int) ≤ (j : Int) := by omega
      have hj1 : ¬ ((j : Int) < 0) := by omega
      have hj2 : ((j : Int) < (N : Int)) := by omega
      have hj3 : ¬ ((N : Int) ≤ (j : Int)) := by omega
      clear HM1 HM2 hn hy hc hyy
      go_enter Try.func56, Try.ntmps56
      go_wp2_with fail
      rw [HW2.out]
      have hjz : ¬ ((j : Int) < 0) := by omega
      have hjw : ¬ ((N : Int) ≤ (j : Int)) := by omega
      have hnd := decide_eq_false hjz
      have hne := decide_eq_false hjw
      have hS0 : (fun w' : World => Below W2.heap.size W2 w') W2.drew := (Below.refl _ _).drew
      refine wp_region_held_drew (S := (fun w' : World => Below W2.heap.size W2 w')) (by kernel_rfl) hS0 fun hS0 => ?_
      refine wpAnyH_take (i := 0) (v := .pointer (some ⟨w.heap.size + 1, 3, none⟩)) rfl (by kernel_rfl) (by kernel_rfl) (by kernel_rfl) (fun _ _ _ h => h) (Or.inl ⟨by kernel_rfl, fun w' hw' => ?_⟩) hS0 ?_
      · kernel_rfl
      refine wpAnyH_take (i := 1) (v := .int .i64 (j : Int)) rfl (by kernel_rfl) (by kernel_rfl) (by kernel_rfl) (fun _ _ _ h => h) (Or.inl ⟨by kernel_rfl, fun w' hw' => ?_⟩) hS0 ?_
      · have h3 : w'.cell? ⟨w.heap.size + 1, 3, none⟩ = some (.int .i64 (j : Int)) := (HBX.out.at_ hw' 1 rfl).cell 3
        go_simp
      refine wpAnyH_take (i := 2) (v := .bool false) rfl (by kernel_rfl) (by kernel_rfl) (by kernel_rfl) (fun _ _ _ h => h) (Or.inl ⟨by kernel_rfl, fun w' hw' => ?_⟩) hS0 ?_
      · go_simp
      refine wpAnyH_take (i := 3) (v := .bool false) rfl (by kernel_rfl) (by kernel_rfl) (by kernel_rfl) (fun _ _ _ h => h) (Or.inl ⟨by kernel_rfl, fun w' hw' => ?_⟩) hS0 ?_
      · kernel_rfl
      refine wpAnyH_take (i := 4) (v := .pointer (some ⟨w.heap.size + 1, 3, none⟩)) rfl (by kernel_rfl) (by kernel_rfl) (by kernel_rfl) (fun _ _ _ h => h) (Or.inl ⟨by kernel_rfl, fun w' hw' => ?_⟩) hS0 ?_
      · kernel_rfl
      refine wpAnyH_take (i := 5) (v := .int .i64 (j : Int)) rfl (by kernel_rfl) (by kernel_rfl) (by kernel_rfl) (fun _ _ _ h => h) (Or.inl ⟨by kernel_rfl, fun w' hw' => ?_⟩) hS0 ?_
      · have h3 : w'.cell? ⟨w.heap.size + 1, 3, none⟩ = some (.int .i64 (j : Int)) := (HBX.out.at_ hw' 1 rfl).cell 3
        go_simp
      refine wpAnyH_take (i := 6) (v := .pointer (some ⟨w.heap.size, 3, none⟩)) rfl (by kernel_rfl) (by kernel_rfl) (by kernel_rfl) (fun _ _ _ h => h) (Or.inl ⟨by kernel_rfl, fun w' hw' => ?_⟩) hS0 ?_
      · kernel_rfl
      refine wpAnyH_take (i := 7) (v := .slice (some a) N k3) rfl (by kernel_rfl) (by kernel_rfl) (by kernel_rfl) (fun _ _ _ h => h) (Or.inl ⟨by kernel_rfl, fun w' hw' => ?_⟩) hS0 ?_
      · have h3 : w'.cell? ⟨w.heap.size, 3, none⟩ = some (.slice (some a) N k3) := by have := (HBX.out.at_ hw' 0 rfl).cell 3; rwa [Nat.add_zero] at this
        go_simp
      refine wpAnyH_take (i := 8) (v := .int .i64 (N : Int)) rfl (by kernel_rfl) (by kernel_rfl) (by kernel_rfl) (fun _ _ _ h => h) (Or.inl ⟨by kernel_rfl, fun w' hw' => ?_⟩) hS0 ?_
      · kernel_rfl
      refine wpAnyH_take (i := 9) (v := .bool false) rfl (by kernel_rfl) (by kernel_rfl) (by kernel_rfl) (fun _ _ _ h => h) (Or.inl ⟨by kernel_rfl, fun w' hw' => ?_⟩) hS0 ?_
      · go_simp
      refine wpAnyH_take (i := 10) (v := .bool false) rfl (by kernel_rfl) (by kernel_rfl) (by kernel_rfl) (fun _ _ _ h => h) (Or.inl ⟨by kernel_rfl, fun w' hw' => ?_⟩) hS0 ?_
      · kernel_rfl
      refine wpAnyH_take (i := 11) (v := .bool false) rfl (by kernel_rfl) (by kernel_rfl) (by kernel_rfl) (fun _ _ _ h => h) (Or.inl ⟨by kernel_rfl, fun w' hw' => ?_⟩) hS0 ?_
      · kernel_rfl
      refine wpAnyH_take (i := 12) (v := .agg #[.slice o nW k, .slice o1 n1 k1, .slice o2 n2 k2, .slice (some a) N k3, .slice o4 n4 k4]) rfl (by kernel_rfl) (by kernel_rfl) (by kernel_rfl) (fun _ _ _ h => h) (Or.inl ⟨by kernel_rfl, fun w' hw' => ?_⟩) hS0 ?_
      · exact run_loadG 32 5 sizeS Try.underlying32 _ rfl ⟨w.heap.size, 0, none⟩ (by kernel_rfl) (cs := [.slice o nW k, .slice o1 n1 k1, .slice o2 n2 k2, .slice (some a) N k3, .slice o4 n4 k4]) (blk_add0 (by have := HBX.out.at_ hw' 0 rfl; rwa [Nat.add_zero] at this)) rfl
      refine wpAnyH_take (i := 13) (v := .pointer (some ⟨w.heap.size, 3, none⟩)) rfl (by kernel_rfl) (by kernel_rfl) (by kernel_rfl) (fun _ _ _ h => h) (Or.inl ⟨by kernel_rfl, fun w' hw' => ?_⟩) hS0 ?_
      · kernel_rfl
      refine wpAnyH_take (i := 14) (v := .slice (some a) N k3) rfl (by kernel_rfl) (by kernel_rfl) (by kernel_rfl) (fun _ _ _ h => h) (Or.inl ⟨by kernel_rfl, fun w' hw' => ?_⟩) hS0 ?_
      · have h3 : w'.cell? ⟨w.heap.size, 3, none⟩ = some (.slice (some a) N k3) := by have := (HBX.out.at_ hw' 0 rfl).cell 3; rwa [Nat.add_zero] at this
        go_simp
      refine wpAnyH_take (i := 15) (v := .pointer (some ⟨w.heap.size + 1, 3, none⟩)) rfl (by kernel_rfl) (by kernel_rfl) (by kernel_rfl) (fun _ _ _ h => h) (Or.inl ⟨by kernel_rfl, fun w' hw' => ?_⟩) hS0 ?_
      · kernel_rfl
      refine wpAnyH_take (i := 16) (v := .int .i64 (j : Int)) rfl (by kernel_rfl) (by kernel_rfl) (by kernel_rfl) (fun _ _ _ h => h) (Or.inl ⟨by kernel_rfl, fun w' hw' => ?_⟩) hS0 ?_
      · have h3 : w'.cell? ⟨w.heap.size + 1, 3, none⟩ = some (.int .i64 (j : Int)) := (HBX.out.at_ hw' 1 rfl).cell 3
        go_simp
      refine wpAnyH_take (i := 17) (v := .pointer (some (a.add (j * 5)))) rfl (by kernel_rfl) (by kernel_rfl) (by kernel_rfl) (fun _ _ _ h => h) (Or.inl ⟨by kernel_rfl, fun w' hw' => ?_⟩) hS0 ?_
      · go_simp
      refine wpAnyH_take (i := 18) (v := .agg #[.int .i64 ya, .string yp, .string yq, .int .i64 yn, .slice o6 e6 k6]) rfl (by kernel_rfl) (by kernel_rfl) (by kernel_rfl) (fun _ _ _ h => h) (Or.inl ⟨by kernel_rfl, fun w' hw' => ?_⟩) hS0 ?_
      · exact run_loadG 34 5 size5 Try.underlying34 _ rfl (a.add (j * 5)) (by kernel_rfl) (cs := [.int .i64 ya, .string yp, .string yq, .int .i64 yn, .slice o6 e6 k6]) (HC.out w' (HBX.out.below hw')) rfl
      refine wpAnyH_ready (rs := [19]) (by kernel_rfl) (by simp) (AllReadyH.cons rfl (fun KK hK => ?_) AllReadyH.nil)
      go_simp
      refine (HI.out _ _ HYY.out _ (HBX.out.below hS0)).mono ?_
      rintro e V ⟨rfl, hb⟩
      have hS1' : Below W2.heap.size W2 V := stepB hS0 hb (Nat.le_refl _)
      refine hK.out _ _ hS1' (fun hS1 => ?_)
      have hV2 := hS1'
      have HV := Lib.hid (HBX.out.below hS1')
      have b1 := HBX.out.at_ hV2 1 rfl
      have b0 := HBX.out.at_ hV2 0 rfl
      have c0 := b0.cell
      have c1 := b1.cell
      have f1 := b1.frozen
      rw [Nat.add_zero] at c0
      have HCV := Lib.hid (HC.out V HV.out)
      clear hb hV2 b0 b1
      cases hI : ifaceS s.W y with
      | false =>
        have HM4 : Hid (M = []) := by rw [hI] at HM3; exact HM3.out
        clear hI HM3
        refine wpAnyH_take (i := 20) (v := .bool true) rfl (by kernel_rfl) (by kernel_rfl) (by kernel_rfl) (fun _ _ _ h => h) (Or.inl ⟨by kernel_rfl, fun w' hw' => ?_⟩) hS1 ?_
        · kernel_rfl
        refine wpAnyH_take (i := 21) (v := .bool true) rfl (by kernel_rfl) (by kernel_rfl) (by kernel_rfl) (fun _ _ _ h => h) (Or.inl ⟨by kernel_rfl, fun w' hw' => ?_⟩) hS1 ?_
        · kernel_rfl
        refine wpAnyH_done' (by kernel_rfl) { tmps := #[.agg #[.slice o nW k, .slice o1 n1 k1, .slice o2 n2 k2, .slice (some a) N k3, .slice o4 n4 k4], .agg #[.int .i64 6, .string tp, .string tm, .int .i64 (j : Int), .slice o5 na k5], .pointer (some ⟨w.heap.size, 0, none⟩), .pointer (some ⟨w.heap.size + 1, 0, none⟩), .slice none 0 0, undef, undef, .pointer (some ⟨w.heap.size + 1, 0, none⟩), .int .i64 6, .bool true, .pointer (some ⟨w.heap.size + 1, 3, none⟩), .int .i64 (j : Int), .bool false, .bool false, .pointer (some ⟨w.heap.size + 1, 3, none⟩), .int .i64 (j : Int), .pointer (some ⟨w.heap.size, 3, none⟩), .slice (some a) N k3, .int .i64 (N : Int), .bool false, .bool false, .bool false, .agg #[.slice o nW k, .slice o1 n1 k1, .slice o2 n2 k2, .slice (some a) N k3, .slice o4 n4 k4], .pointer (some ⟨w.heap.size, 3, none⟩), .slice (some a) N k3, .pointer (some ⟨w.heap.size + 1, 3, none⟩), .int .i64 (j : Int), .pointer (some (a.add (j * 5))), .agg #[.int .i64 ya, .string yp, .string yq, .int .i64 yn, .slice o6 e6 k6], .bool false, .bool true, .bool true, undef, undef, undef, undef, undef, undef, undef, undef, undef, undef, undef, undef, undef, undef], defers := [] } (by kernel_rfl) ?_
        clear hS0 hS1 hS1' hK HC
        go_wp2
        go_ret
        rw [HM4.out]
        exact ⟨_, rfl, IsMs.nil, HV.out⟩
      | true =>
        have HM4 : Hid (M = methD s.W y) := by rw [hI] at HM3; exact HM3.out
        clear hI HM3
        refine wpAnyH_take (i := 20) (v := .bool false) rfl (by kernel_rfl) (by kernel_rfl) (by kernel_rfl) (fun _ _ _ h => h) (Or.inl ⟨by kernel_rfl, fun w' hw' => ?_⟩) hS1 ?_
        · kernel_rfl
        refine wpAnyH_take (i := 21) (v := .bool false) rfl (by kernel_rfl) (by kernel_rfl) (by kernel_rfl) (fun _ _ _ h => h) (Or.inl ⟨by kernel_rfl, fun w' hw' => ?_⟩) hS1 ?_
        · kernel_rfl
        refine wpAnyH_done' (by kernel_rfl) { tmps := #[.agg #[.slice o nW k, .slice o1 n1 k1, .slice o2 n2 k2, .slice (some a) N k3, .slice o4 n4 k4], .agg #[.int .i64 6, .string tp, .string tm, .int .i64 (j : Int), .slice o5 na k5], .pointer (some ⟨w.heap.size, 0, none⟩), .pointer (some ⟨w.heap.size + 1, 0, none⟩), .slice none 0 0, undef, undef, .pointer (some ⟨w.heap.size + 1, 0, none⟩), .int .i64 6, .bool true, .pointer (some ⟨w.heap.size + 1, 3, none⟩), .int .i64 (j : Int), .bool false, .bool false, .pointer (some ⟨w.heap.size + 1, 3, none⟩), .int .i64 (j : Int), .pointer (some ⟨w.heap.size, 3, none⟩), .slice (some a) N k3, .int .i64 (N : Int), .bool false, .bool false, .bool false, .agg #[.slice o nW k, .slice o1 n1 k1, .slice o2 n2 k2, .slice (some a) N k3, .slice o4 n4 k4], .pointer (some ⟨w.heap.size, 3, none⟩), .slice (some a) N k3, .pointer (some ⟨w.heap.size + 1, 3, none⟩), .int .i64 (j : Int), .pointer (some (a.add (j * 5))), .agg #[.int .i64 ya, .string yp, .string yq, .int .i64 yn, .slice o6 e6 k6], .bool true, .bool false, .bool false, undef, undef, undef, undef, undef, undef, undef, undef, undef, undef, undef, undef, undef, undef], defers := [] } (by kernel_rfl) ?_
        clear hS0 hS1 hS1' hK HC
        have e0 := at0 (HCV.out 0 _ rfl)
        have e1 := atS (HCV.out 1 _ rfl)
        have e2 := atS (HCV.out 2 _ rfl)
        have e3 := atS (HCV.out 3 _ rfl)
        have e4 := atS (HCV.out 4 _ rfl)
        clear HCV
        go_wp2_with fail
        have hvs := below5 (g := w.heap.size + 1) HV.out (Nat.le_succ _) (.int .i64 ya) (.string yp) (.string yq) (.int .i64 yn) (.slice o6 e6 k6)
        have HVS := Lib.hid hvs
        refine (HF.out _ _ HYY.out _ HVS.out).mono ?_
        rintro e X ⟨d, rfl, hd, hb⟩
        obtain ⟨od, oe, kd, ke, rfl, g1, g2, g3, g4, g5, g6⟩ := hd
        have HX := Lib.hid (stepB HVS.out hb (Nat.le_refl _))
        have HG : Hid (IsMs w0 M (.slice oe ((findS s.W y).getD zeroD).meths.length ke)) := by
          rw [HM4.out]
          exact ⟨oe, ke, rfl, g3, g4, g6⟩
        clear hb g1 g2 g3 g4 g5 g6 hvs
        go_wp2
        go_ret
        exact ⟨_, rfl, HG.out, (HX.out.alloc HX.out.size _)⟩
  · have HM1 := Lib.hid (HM.out.trans (if_neg hk))
    have hkb : (tk == 6) = false := by simpa using hk
    clear HM HI
    go_enter Try.func56, Try.ntmps56
    go_wp2_with fail
    refine (HF.out _ _ HTY.out _ HB1.out).mono ?_
    rintro e V ⟨d, rfl, hd, hb⟩
    obtain ⟨od, oe, kd, ke, rfl, g1, g2, g3, g4, g5, g6⟩ := hd
    have HV := Lib.hid (stepB HB1.out hb (Nat.le_refl _))
    have HG : Hid (IsMs w0 M (.slice oe ((findS s.W (.mk tk tp tm tn ta)).getD zeroD).meths.length ke)) := by
      rw [HM1.out]
      exact ⟨oe, ke, rfl, g3, g4, g6⟩
    clear hb g1 g2 g3 g4 g5 g6
    go_wp2
    go_ret
    exact ⟨_, rfl, HG.out, (HV.out.alloc HV.out.size _)⟩
end Go.Proofs.Ytlakmniaocpaaaa
namespace Go.Proofs.Ytlakmniaocpaaaa
open Go.RowKit
open Go.Lib hiding intOf
end Go.Proofs.Ytlakmniaocpaaaa
