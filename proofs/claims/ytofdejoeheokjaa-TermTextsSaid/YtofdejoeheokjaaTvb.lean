/-
  The statements' head: calls whose answers the chapter fixes. No condition.
-/
import Derived.Test.YtofdejoeheokjaaTva
import Derived.Test.YtofdejoeheokjaaTud
import Derived.Deep.RegionHeld
import Derived.Deep.DeepCutAuto
namespace Go.Proofs.Ytofdejoeheokjaa
open Go.RowKit
open Go.Lib hiding intOf

theorem step_store {P : Program} {ops : Array Oper} {o : Oper} {a : Act} {w : World} {K : Act → World → Prop} {Q : Exit → Act → World → Prop} {E : Prop}
    (hg : o.guard = none) (ty : TypeId) (x y : Operand) (ho : o.op = .store ty x y) (g : Nat) (cells : Array Value) (hx : a.eval x = .pointer (some ⟨g, 0, none⟩)) (hy : a.eval y = .agg cells)
    (t : TypeId) (old : Array Value) (hb : w.heap[g]? = some (.cells old t (0, 0))) (hi : (P.info? ty).map (·.size) = some cells.size) (hold : old.size = cells.size) (h1 : cells.all (·.oneCell') = true) (hK : K (a.put o.dst undef) (w.setRow g cells)) :
    if Region.wanted o (yielded ops a.tmps) = true then Oper.wp P o a w K Q else E := by
  rw [if_pos (by simp [Region.wanted, hg])]
  exact wp_store_row ty x y ho g cells hx hy t old hb hi hold h1 hK
/-- A block's cells. -/
theorem blk_add {W : World} {g : Nat} {t : TypeId} {cs : List Value} (h : Blk W g t cs.toArray) : ∀ (j : Nat) (v : Value), cs[j]? = some v → W.cell? ((⟨g, 0, none⟩ : Addr).add j) = some v := fun j v hv => by
  have e : (⟨g, 0, none⟩ : Addr).add j = ⟨g, j, none⟩ := by unfold Addr.add; split <;> simp_all
  rw [e, h.cell]
  simpa using hv
theorem fit_num : FitYs 100 [(GY.mk 1 ⟨#[]⟩ ⟨#[]⟩ 0 [])] := by unfold FitYs FitY FitYs; exact ⟨⟨by decide, by decide, by decide, trivial⟩, trivial⟩
theorem fit_lp : FitY 100 (GY.mk 5 ⟨#[]⟩ ⟨#[]⟩ 0 [(GY.mk 6 ⟨#[]⟩ ⟨#[80]⟩ 0 [])]) := by unfold FitY FitYs FitY FitYs; exact ⟨by decide, by decide, by decide, ⟨by decide, by decide, by decide, trivial⟩, trivial⟩
theorem sub_lp : subY [(GY.mk 1 ⟨#[]⟩ ⟨#[]⟩ 0 [])] (GY.mk 5 ⟨#[]⟩ ⟨#[]⟩ 0 [(GY.mk 6 ⟨#[]⟩ ⟨#[80]⟩ 0 [])]) = (GY.mk 5 ⟨#[]⟩ ⟨#[]⟩ 0 [(GY.mk 1 ⟨#[]⟩ ⟨#[]⟩ 0 [])]) := by
  rw [subY, if_neg (by decide), subYs, subYs, subY, if_pos (by decide)]
  rfl
theorem row_num {W : World} {g : Nat} (h : Blk W g 25 #[.int .i64 1, .string ⟨#[]⟩, .string ⟨#[]⟩, .int .i64 0, .slice none 0 0]) : IsYs W (some ⟨g, 0, none⟩) 0 [(GY.mk 1 ⟨#[]⟩ ⟨#[]⟩ 0 [])] := IsYs.mk' fun i y hy => by
  have hi : i = 0 := by have := (List.getElem?_eq_some_iff.1 hy).1; simpa using this
  subst hi
  obtain rfl : (GY.mk 1 ⟨#[]⟩ ⟨#[]⟩ 0 []) = y := by simpa using hy
  refine ⟨_, _, _, _, _, fun j v h' => ?_, isY_plain _ _ _ _ _⟩
  have e : (⟨g, 0, none⟩ : Addr).add ((0 + 0) * 5 + j) = ⟨g, j, none⟩ := by unfold Addr.add; split <;> simp_all
  rw [e, h.cell]
  simpa using h'
mutual
theorem IsYF.toP {w : World} {B : Nat} {P : Nat → Prop} (hP : ∀ k, B ≤ k → P k) : ∀ {x : GY} {v : Value}, IsYF w B x v → IsYP P w x v
  | .mk .., _, h => by
    unfold IsYF at h
    unfold IsYP
    obtain ⟨o, c, hv, hl, hc, ha⟩ := h
    exact ⟨o, c, hv, hl, hc, IsYFs.toPs hP ha⟩
theorem IsYFs.toPs {w : World} {B : Nat} {P : Nat → Prop} (hP : ∀ k, B ≤ k → P k) : ∀ {i : Nat} {xs : List GY} {o : Option Addr}, IsYFs w B o i xs → IsYPs P w o i xs
  | _, [], _, _ => by unfold IsYPs; trivial
  | i, y :: r, _, h => by
    unfold IsYFs at h
    unfold IsYPs
    obtain ⟨⟨a, c0, c1, c2, c3, c4, ho, hb, h0, h1, h2, h3, h4, hy⟩, hr⟩ := h
    exact ⟨⟨a, c0, c1, c2, c3, c4, ho, hP _ hb, h0, h1, h2, h3, h4, IsYF.toP hP hy⟩, IsYFs.toPs hP hr⟩
end
theorem cnt_1 (k n : Int) (p m : ByteArray) : cntY (.mk k p m n []) = 1 := by rw [cntY, cntYs]
theorem cnt_2 (k n k' n' : Int) (p m p' m' : ByteArray) : cntY (.mk k p m n [.mk k' p' m' n' []]) = 2 := by rw [cntY, cntYs, cntYs, cnt_1]
theorem params_3 (v : Value) (W : World) (h : IsY W (GY.mk 5 ⟨#[]⟩ ⟨#[]⟩ 0 [GY.mk 6 ⟨#[]⟩ ⟨#[80]⟩ 3 []]) v) : Calls Try.prog 13 #[v] W fun e W' => ∃ (a : Addr) (c : Nat), e = .returned (.slice (some a) 1 c) ∧ W'.cell? a = some (.int .i64 3) ∧ Below W.heap.size W W' := by
  refine (paramsP_any _ (by rw [cnt_2]; decide) v W h).mono ?_
  rintro e W' ⟨L, o, n, c, rfl, hn, _, hp, hz, hb⟩
  have hL : L = [3] := up_one hp.up (by simp) fun x => by
    rw [hp.is]
    unfold hasY hasYs hasY hasYs
    simp [eq_comm]
  subst hL
  obtain ⟨a, rfl, hc⟩ := hz 0 3 rfl
  exact ⟨a, c, by rw [← hn]; rfl, hc, hb⟩
theorem text_lt (v : Value) (W : World) (h : IsY W (GY.mk 5 ⟨#[]⟩ ⟨#[]⟩ 0 [(GY.mk 4 ⟨#[97]⟩ ⟨#[84]⟩ 0 [])]) v) : Calls Try.prog 17 #[v] W fun e W' => e = .returned (.string ⟨#[91, 93, 97, 46, 84]⟩) ∧ Below W.heap.size W W' := by
  have et : txtY (GY.mk 5 ⟨#[]⟩ ⟨#[]⟩ 0 [(GY.mk 4 ⟨#[97]⟩ ⟨#[84]⟩ 0 [])]) = [91, 93, 97, 46, 84] := by rw [txtY, txtY]; rfl
  refine (textP_any _ (by rw [cnt_2]; decide) (by rw [et]; decide) v W h).mono ?_
  rintro e W' ⟨rfl, hb⟩
  exact ⟨by rw [et], hb⟩
theorem text_ln (v : Value) (W : World) (h : IsY W (GY.mk 5 ⟨#[]⟩ ⟨#[]⟩ 0 [(GY.mk 1 ⟨#[]⟩ ⟨#[]⟩ 0 [])]) v) : Calls Try.prog 17 #[v] W fun e W' => e = .returned (.string ⟨#[91, 93, 105, 110, 116]⟩) ∧ Below W.heap.size W W' := by
  have et : txtY (GY.mk 5 ⟨#[]⟩ ⟨#[]⟩ 0 [(GY.mk 1 ⟨#[]⟩ ⟨#[]⟩ 0 [])]) = [91, 93, 105, 110, 116] := by rw [txtY, txtY]; rfl
  refine (textP_any _ (by rw [cnt_2]; decide) (by rw [et]; decide) v W h).mono ?_
  rintro e W' ⟨rfl, hb⟩
  exact ⟨by rw [et], hb⟩
theorem same_pq (W : World) : Calls Try.prog 21 #[.agg #[.int .i64 6, .string ⟨#[]⟩, .string ⟨#[80]⟩, .int .i64 0, .slice none 0 0], .agg #[.int .i64 6, .string ⟨#[]⟩, .string ⟨#[81]⟩, .int .i64 0, .slice none 0 0]] W fun e W' => e = .returned (.bool true) ∧ Below W.heap.size W W' :=
  sameP_any _ (GY.mk 6 ⟨#[]⟩ ⟨#[80]⟩ 0 []) (GY.mk 6 ⟨#[]⟩ ⟨#[81]⟩ 0 []) _ _ W (Nat.lt_succ_self _) (isY_plain _ _ _ _ _) (isY_plain _ _ _ _ _)
theorem same_nt (W : World) : Calls Try.prog 21 #[.agg #[.int .i64 1, .string ⟨#[]⟩, .string ⟨#[]⟩, .int .i64 0, .slice none 0 0], .agg #[.int .i64 4, .string ⟨#[97]⟩, .string ⟨#[84]⟩, .int .i64 0, .slice none 0 0]] W fun e W' => e = .returned (.bool false) ∧ Below W.heap.size W W' := by
  refine (sameP_any _ (GY.mk 1 ⟨#[]⟩ ⟨#[]⟩ 0 []) (GY.mk 4 ⟨#[97]⟩ ⟨#[84]⟩ 0 []) _ _ W (Nat.lt_succ_self _) (isY_plain _ _ _ _ _) (isY_plain _ _ _ _ _)).mono ?_
  rintro e W' ⟨rfl, hb⟩
  exact ⟨by rw [same_ne (by decide)], hb⟩
theorem fit_p (k n : Int) (p m : ByteArray) (hp : p.size ≤ 100) (hm : m.size ≤ 100) : FitY 100 (.mk k p m n []) := by unfold FitY FitYs; exact ⟨hp, hm, by decide, trivial⟩
theorem chk_4 (p m : ByteArray) : chkY okN 0 (.mk 4 p m 0 []) = (okN m && okN p) := by simp [chkY, knownK]
theorem check_t (W : World) : Calls Try.prog 15 #[.agg #[.int .i64 4, .string ⟨#[97]⟩, .string ⟨#[84]⟩, .int .i64 0, .slice none 0 0]] W fun e W' => e = .returned (.bool true) ∧ Below W.heap.size W W' := by
  refine (checkP_any (GY.mk 4 ⟨#[97]⟩ ⟨#[84]⟩ 0 []) (by rw [cnt_1]; decide) 100 (by decide) (fit_p _ _ _ _ (by decide) (by decide)) _ W (isY_plain _ _ _ _ _)).mono ?_
  rintro e W' ⟨rfl, hb⟩
  have e : (okN ⟨#[84]⟩ && okN ⟨#[97]⟩) = true := by decide +kernel
  exact ⟨by rw [chk_4, e], hb⟩
theorem check_i (W : World) : Calls Try.prog 15 #[.agg #[.int .i64 4, .string ⟨#[97]⟩, .string ⟨#[105, 110, 116]⟩, .int .i64 0, .slice none 0 0]] W fun e W' => e = .returned (.bool false) ∧ Below W.heap.size W W' := by
  refine (checkP_any (GY.mk 4 ⟨#[97]⟩ ⟨#[105, 110, 116]⟩ 0 []) (by rw [cnt_1]; decide) 100 (by decide) (fit_p _ _ _ _ (by decide) (by decide)) _ W (isY_plain _ _ _ _ _)).mono ?_
  rintro e W' ⟨rfl, hb⟩
  have e : (okN ⟨#[105, 110, 116]⟩ && okN ⟨#[97]⟩) = false := by decide +kernel
  exact ⟨by rw [chk_4, e], hb⟩
theorem name_x (W : World) : Calls Try.prog 19 #[.string ⟨#[120, 49]⟩] W fun e W' => e = .returned (.bool true) ∧ Below W.heap.size W W' := by
  refine (nameP_any ⟨#[120, 49]⟩ W (by decide)).mono ?_
  rintro e W' ⟨rfl, hb⟩
  have e : okN ⟨#[120, 49]⟩ = true := by decide +kernel
  exact ⟨by rw [e], hb⟩
theorem name_1 (W : World) : Calls Try.prog 19 #[.string ⟨#[49, 120]⟩] W fun e W' => e = .returned (.bool false) ∧ Below W.heap.size W W' := by
  refine (nameP_any ⟨#[49, 120]⟩ W (by decide)).mono ?_
  rintro e W' ⟨rfl, hb⟩
  have e : okN ⟨#[49, 120]⟩ = false := by decide +kernel
  exact ⟨by rw [e], hb⟩
/-- What awake has laid. -/
structure AwM (w W : World) (g : Nat) (c0 c1 c2 c3 c4 : Value) : Prop where
  b1 : Blk W w.heap.size 25 #[.int .i64 1, .string ⟨#[]⟩, .string ⟨#[]⟩, .int .i64 0, .slice none 0 0]
  b2 : Blk W (w.heap.size + 1) 25 #[.int .i64 4, .string ⟨#[97]⟩, .string ⟨#[84]⟩, .int .i64 0, .slice none 0 0]
  b3 : Blk W g 25 #[c0, c1, c2, c3, c4]
  s : IsY W (GY.mk 5 ⟨#[]⟩ ⟨#[]⟩ 0 [(GY.mk 1 ⟨#[]⟩ ⟨#[]⟩ 0 [])]) (.agg #[c0, c1, c2, c3, c4])
  below : Below w.heap.size w W
theorem AwM.step {w W W' : World} {g : Nat} {c0 c1 c2 c3 c4 : Value} (h : AwM w W g c0 c1 c2 c3 c4) (hb : Below W.heap.size W W') : AwM w W' g c0 c1 c2 c3 c4 :=
  ⟨(hb.block _ h.b1.lt).trans h.b1, (hb.block _ h.b2.lt).trans h.b2, (hb.block _ h.b3.lt).trans h.b3, h.s.below hb, h.below.trans (hb.mono h.below.size)⟩

set_option maxRecDepth 100000 in
set_option maxHeartbeats 8000000 in
theorem awake_any (w : World) : Calls Try.prog 10 #[] w fun e w' => e = .returned (.bool true) ∧ Below w.heap.size w w' := by
  have hbx := box2 w #[.int .i64 1, .string ⟨#[]⟩, .string ⟨#[]⟩, .int .i64 0, .slice none 0 0] #[.int .i64 4, .string ⟨#[97]⟩, .string ⟨#[84]⟩, .int .i64 0, .slice none 0 0]
  obtain ⟨W2, hW2⟩ : ∃ W2, ((w.alloc (.cells #[.int .i64 1, .string ⟨#[]⟩, .string ⟨#[]⟩, .int .i64 0, .slice none 0 0] 25)).alloc (.cells #[.int .i64 4, .string ⟨#[97]⟩, .string ⟨#[84]⟩, .int .i64 0, .slice none 0 0] 25)) = W2 := ⟨_, rfl⟩
  rw [hW2] at hbx
  have HBX := Lib.hid hbx
  have HW2 := Lib.hid hW2
  clear hbx hW2
  go_enter Try.func10, Try.ntmps10
  go_upto_region 3 with fail
  change Code.wp Try.prog _ _ _ ((w.alloc (.cells #[.int .i64 1, .string ⟨#[]⟩, .string ⟨#[]⟩, .int .i64 0, .slice none 0 0] 25)).alloc (.cells #[.int .i64 4, .string ⟨#[97]⟩, .string ⟨#[84]⟩, .int .i64 0, .slice none 0 0] 25))
  rw [HW2.out]
  go_cut [3] from 7 to 11 (fun v wx => ∃ (g : Nat) (c0 c1 c2 c3 c4 : Value), v = .pointer (some ⟨g, 0, none⟩) ∧ Blk wx g 25 #[c0, c1, c2, c3, c4] ∧ IsY wx (GY.mk 5 ⟨#[]⟩ ⟨#[]⟩ 0 [(GY.mk 1 ⟨#[]⟩ ⟨#[]⟩ 0 [])]) (.agg #[c0, c1, c2, c3, c4]) ∧ W2.heap.size ≤ g ∧ Below W2.heap.size W2 wx)
  case first =>
    have hS0 : (fun w' : World => Below W2.heap.size W2 w') W2.drew := (Below.refl _ _).drew
    refine wp_region_held_drew (S := (fun w' : World => Below W2.heap.size W2 w')) (by kernel_rfl) hS0 fun hS0 => ?_
    refine wpAnyH_take (i := 2) (v := .agg #[.int .i64 1, .string ⟨#[]⟩, .string ⟨#[]⟩, .int .i64 0, .slice none 0 0]) rfl (by kernel_rfl) (by kernel_rfl) (by kernel_rfl) (fun _ _ _ h => h) (Or.inl ⟨by kernel_rfl, fun w' hw' => ?_⟩) hS0 ?_
    · have hb : Blk w' w.heap.size 25 #[.int .i64 1, .string ⟨#[]⟩, .string ⟨#[]⟩, .int .i64 0, .slice none 0 0] := (Below.block hw' _ HBX.out.one.lt).trans HBX.out.one
      exact run_loadG 25 5 size5 Try.underlying25 _ rfl ⟨w.heap.size, 0, none⟩ (by kernel_rfl) (blk_add hb) rfl
    have k0 : Below W2.heap.size W2 W2.drew := hS0
    clear hS0
    generalize W2.drew = X0 at *
    refine wpAnyH_ready (rs := [0, 3, 5]) (by kernel_rfl) (by simp) (AllReadyH.cons rfl (fun KK hK => ?_) (AllReadyH.cons rfl (fun KK hK => ?_) (AllReadyH.cons rfl (fun KK hK => ?_) AllReadyH.nil)))
    · go_simp
      refine (param_any 0 ⟨#[80]⟩ _).mono ?_
      rintro e X1 ⟨rfl, hb1⟩
      have k1 : Below W2.heap.size W2 X1 := k0.trans (hb1.mono k0.size)
      refine hK.out _ _ k1 (fun _ => ?_)
      refine wpAnyH_ready (rs := [1, 3, 5]) (by kernel_rfl) (by simp) (AllReadyH.cons rfl (fun KK hK => ?_) (AllReadyH.cons rfl (fun KK hK => ?_) (AllReadyH.cons rfl (fun KK hK => ?_) AllReadyH.nil)))
      · go_simp
        refine (list_any (GY.mk 6 ⟨#[]⟩ ⟨#[80]⟩ 0 []) _ _ (isY_plain _ _ _ _ _)).mono ?_
        rintro e X2 ⟨u1, rfl, Lp2, hb2⟩
        have k2 : Below W2.heap.size W2 X2 := k1.trans (hb2.mono k1.size)
        refine hK.out _ _ k2 (fun _ => ?_)
        refine wpAnyH_ready (rs := [3, 5]) (by kernel_rfl) (by simp) (AllReadyH.cons rfl (fun KK hK => ?_) (AllReadyH.cons rfl (fun KK hK => ?_) AllReadyH.nil))
        · go_simp
          obtain ⟨X3, hX3⟩ : ∃ X, X2.alloc (.cells #[.int .i64 1, .string ⟨#[]⟩, .string ⟨#[]⟩, .int .i64 0, .slice none 0 0] 25) = X := ⟨_, rfl⟩
          obtain ⟨gR, hgR0⟩ : ∃ g, X2.heap.size = g := ⟨_, rfl⟩
          have hgR : W2.heap.size ≤ gR := by rw [← hgR0]; exact k2.size
          have hb3 : Below X2.heap.size X2 X3 := by rw [← hX3]; exact (Below.refl _ _).alloc (Nat.le_refl _) _
          have k3 : Below W2.heap.size W2 X3 := k2.trans (hb3.mono k2.size)
          have Lp3 := Lp2.below hb3
          have R3 : Blk X3 gR 25 #[.int .i64 1, .string ⟨#[]⟩, .string ⟨#[]⟩, .int .i64 0, .slice none 0 0] := by rw [← hX3, ← hgR0]; exact Blk.new _ _ _
          rw [hX3, hgR0]
          clear hX3 hgR0
          refine hK.out _ _ k3 (fun _ => ?_)
          refine wpAnyH_ready (rs := [4, 5]) (by kernel_rfl) (by simp) (AllReadyH.cons rfl (fun KK hK => ?_) (AllReadyH.cons rfl (fun KK hK => ?_) AllReadyH.nil))
          · go_simp
            refine (substP_any 100 (by decide) [(GY.mk 1 ⟨#[]⟩ ⟨#[]⟩ 0 [])] (some ⟨gR, 0, none⟩) 1 1 rfl fit_num (GY.mk 5 ⟨#[]⟩ ⟨#[]⟩ 0 [(GY.mk 6 ⟨#[]⟩ ⟨#[80]⟩ 0 [])]) u1 _ fit_lp Lp3 (row_num R3)).mono ?_
            rintro e X4 ⟨u4, rfl, hu4, hb4⟩
            obtain ⟨b0, b1, b2, b3, b4, rfl, ho⟩ := hu4.cells
            have U4 : IsY X4 (GY.mk 5 ⟨#[]⟩ ⟨#[]⟩ 0 [(GY.mk 1 ⟨#[]⟩ ⟨#[]⟩ 0 [])]) (.agg #[b0, b1, b2, b3, b4]) := by have := hu4.toY; rw [sub_lp] at this; exact this
            have k4 : Below W2.heap.size W2 X4 := k3.trans (hb4.mono k3.size)
            have Lp4 := Lp3.below hb4
            have R4 : Blk X4 gR 25 #[.int .i64 1, .string ⟨#[]⟩, .string ⟨#[]⟩, .int .i64 0, .slice none 0 0] := (hb4.block _ R3.lt).trans R3
            refine hK.out _ _ k4 (fun _ => ?_)
            refine wpAnyH_ready (rs := [5]) (by kernel_rfl) (by simp) (AllReadyH.cons rfl (fun KK hK => ?_) AllReadyH.nil)
            go_simp
            obtain ⟨X5, hX5⟩ : ∃ X, X4.alloc (.cells #[.int .i64 0, .string ⟨#[]⟩, .string ⟨#[]⟩, .int .i64 0, .slice none 0 0] 25) = X := ⟨_, rfl⟩
            obtain ⟨gA, hgA0⟩ : ∃ g, X4.heap.size = g := ⟨_, rfl⟩
            have hgA : W2.heap.size ≤ gA := by rw [← hgA0]; exact k4.size
            have hb5 : Below X4.heap.size X4 X5 := by rw [← hX5]; exact (Below.refl _ _).alloc (Nat.le_refl _) _
            have k5 : Below W2.heap.size W2 X5 := k4.trans (hb5.mono k4.size)
            have Lp5 := Lp4.below hb5
            have R5 : Blk X5 gR 25 #[.int .i64 1, .string ⟨#[]⟩, .string ⟨#[]⟩, .int .i64 0, .slice none 0 0] := (hb5.block _ R4.lt).trans R4
            have U5 := U4.below hb5
            have A5 : Blk X5 gA 25 #[.int .i64 0, .string ⟨#[]⟩, .string ⟨#[]⟩, .int .i64 0, .slice none 0 0] := by rw [← hX5, ← hgA0]; exact Blk.new _ _ _
            have V5 : IsYP (fun k => k ≠ gA) X5 (GY.mk 5 ⟨#[]⟩ ⟨#[]⟩ 0 [(GY.mk 1 ⟨#[]⟩ ⟨#[]⟩ 0 [])]) (.agg #[b0, b1, b2, b3, b4]) := ((U4.toP (Nat.le_refl _)).below hb5).keep (fun _ _ h _ => by have := h; omega) fun _ _ _ h => h
            rw [hX5, hgA0]
            clear hX5 hgA0
            refine hK.out _ _ k5 (fun _ => ?_)
            refine wpAnyH_ready (rs := [6]) (by kernel_rfl) (by simp) (AllReadyH.cons rfl (fun KK hK => ?_) AllReadyH.nil)
            refine step_store rfl 25 (.tmp 3) (.tmp 11) rfl gA #[b0, b1, b2, b3, b4] (by kernel_rfl) (by kernel_rfl) _ _ A5 (by rw [size5]; rfl) rfl (by simpa using ho) ?_
            have k6 : Below W2.heap.size W2 (X5.setRow gA #[b0, b1, b2, b3, b4]) := below_setRow k5 hgA _
            have A6 : Blk (X5.setRow gA #[b0, b1, b2, b3, b4]) gA 25 #[b0, b1, b2, b3, b4] := A5.row #[b0, b1, b2, b3, b4]
            have V6 : IsYP (fun k => k ≠ gA) (X5.setRow gA #[b0, b1, b2, b3, b4]) (GY.mk 5 ⟨#[]⟩ ⟨#[]⟩ 0 [(GY.mk 1 ⟨#[]⟩ ⟨#[]⟩ 0 [])]) (.agg #[b0, b1, b2, b3, b4]) := V5.keep (fun _ _ h _ => h) fun a u ha hc => (World.cell?_of_block (setRow_other _ gA a.block _ ha)).trans hc
            have U6 := V6.toY
            refine hK.out _ _ k6 (fun _ => ?_)
            generalize X5.setRow gA #[b0, b1, b2, b3, b4] = X6 at *
            refine wpAnyH_done (by kernel_rfl) ?_ _
            have KF := Lib.hid k6; have KA := Lib.hid A6; have KU := Lib.hid U6; have KG := Lib.hid hgA
            clear k6 A6 U6
            go_wp2_with fail
            go_meet
            exact ⟨_, _, _, _, _, _, rfl, KA.out, KU.out, KG.out, KF.out⟩
          · go_simp
            obtain ⟨X4, hX4⟩ : ∃ X, X3.alloc (.cells #[.int .i64 0, .string ⟨#[]⟩, .string ⟨#[]⟩, .int .i64 0, .slice none 0 0] 25) = X := ⟨_, rfl⟩
            obtain ⟨gA, hgA0⟩ : ∃ g, X3.heap.size = g := ⟨_, rfl⟩
            have hgA : W2.heap.size ≤ gA := by rw [← hgA0]; exact k3.size
            have hb4 : Below X3.heap.size X3 X4 := by rw [← hX4]; exact (Below.refl _ _).alloc (Nat.le_refl _) _
            have k4 : Below W2.heap.size W2 X4 := k3.trans (hb4.mono k3.size)
            have Lp4 := Lp3.below hb4
            have R4 : Blk X4 gR 25 #[.int .i64 1, .string ⟨#[]⟩, .string ⟨#[]⟩, .int .i64 0, .slice none 0 0] := (hb4.block _ R3.lt).trans R3
            have A4 : Blk X4 gA 25 #[.int .i64 0, .string ⟨#[]⟩, .string ⟨#[]⟩, .int .i64 0, .slice none 0 0] := by rw [← hX4, ← hgA0]; exact Blk.new _ _ _
            rw [hX4, hgA0]
            clear hX4 hgA0
            refine hK.out _ _ k4 (fun _ => ?_)
            refine wpAnyH_ready (rs := [4]) (by kernel_rfl) (by simp) (AllReadyH.cons rfl (fun KK hK => ?_) AllReadyH.nil)
            go_simp
            refine (substP_any 100 (by decide) [(GY.mk 1 ⟨#[]⟩ ⟨#[]⟩ 0 [])] (some ⟨gR, 0, none⟩) 1 1 rfl fit_num (GY.mk 5 ⟨#[]⟩ ⟨#[]⟩ 0 [(GY.mk 6 ⟨#[]⟩ ⟨#[80]⟩ 0 [])]) u1 _ fit_lp Lp4 (row_num R4)).mono ?_
            rintro e X5 ⟨u4, rfl, hu4, hb5⟩
            obtain ⟨b0, b1, b2, b3, b4, rfl, ho⟩ := hu4.cells
            have U5 : IsY X5 (GY.mk 5 ⟨#[]⟩ ⟨#[]⟩ 0 [(GY.mk 1 ⟨#[]⟩ ⟨#[]⟩ 0 [])]) (.agg #[b0, b1, b2, b3, b4]) := by have := hu4.toY; rw [sub_lp] at this; exact this
            have k5 : Below W2.heap.size W2 X5 := k4.trans (hb5.mono k4.size)
            have Lp5 := Lp4.below hb5
            have R5 : Blk X5 gR 25 #[.int .i64 1, .string ⟨#[]⟩, .string ⟨#[]⟩, .int .i64 0, .slice none 0 0] := (hb5.block _ R4.lt).trans R4
            have A5 : Blk X5 gA 25 #[.int .i64 0, .string ⟨#[]⟩, .string ⟨#[]⟩, .int .i64 0, .slice none 0 0] := (hb5.block _ A4.lt).trans A4
            have V5 : IsYP (fun k => k ≠ gA) X5 (GY.mk 5 ⟨#[]⟩ ⟨#[]⟩ 0 [(GY.mk 1 ⟨#[]⟩ ⟨#[]⟩ 0 [])]) (.agg #[b0, b1, b2, b3, b4]) := by have := hu4; rw [sub_lp] at this; exact this.toP fun k hk => by have := A4.lt; omega
            refine hK.out _ _ k5 (fun _ => ?_)
            refine wpAnyH_ready (rs := [6]) (by kernel_rfl) (by simp) (AllReadyH.cons rfl (fun KK hK => ?_) AllReadyH.nil)
            refine step_store rfl 25 (.tmp 3) (.tmp 11) rfl gA #[b0, b1, b2, b3, b4] (by kernel_rfl) (by kernel_rfl) _ _ A5 (by rw [size5]; rfl) rfl (by simpa using ho) ?_
            have k6 : Below W2.heap.size W2 (X5.setRow gA #[b0, b1, b2, b3, b4]) := below_setRow k5 hgA _
            have A6 : Blk (X5.setRow gA #[b0, b1, b2, b3, b4]) gA 25 #[b0, b1, b2, b3, b4] := A5.row #[b0, b1, b2, b3, b4]
            have V6 : IsYP (fun k => k ≠ gA) (X5.setRow gA #[b0, b1, b2, b3, b4]) (GY.mk 5 ⟨#[]⟩ ⟨#[]⟩ 0 [(GY.mk 1 ⟨#[]⟩ ⟨#[]⟩ 0 [])]) (.agg #[b0, b1, b2, b3, b4]) := V5.keep (fun _ _ h _ => h) fun a u ha hc => (World.cell?_of_block (setRow_other _ gA a.block _ ha)).trans hc
            have U6 := V6.toY
            refine hK.out _ _ k6 (fun _ => ?_)
            generalize X5.setRow gA #[b0, b1, b2, b3, b4] = X6 at *
            refine wpAnyH_done (by kernel_rfl) ?_ _
            have KF := Lib.hid k6; have KA := Lib.hid A6; have KU := Lib.hid U6; have KG := Lib.hid hgA
            clear k6 A6 U6
            go_wp2_with fail
            go_meet
            exact ⟨_, _, _, _, _, _, rfl, KA.out, KU.out, KG.out, KF.out⟩
        · go_simp
          obtain ⟨X3, hX3⟩ : ∃ X, X2.alloc (.cells #[.int .i64 0, .string ⟨#[]⟩, .string ⟨#[]⟩, .int .i64 0, .slice none 0 0] 25) = X := ⟨_, rfl⟩
          obtain ⟨gA, hgA0⟩ : ∃ g, X2.heap.size = g := ⟨_, rfl⟩
          have hgA : W2.heap.size ≤ gA := by rw [← hgA0]; exact k2.size
          have hb3 : Below X2.heap.size X2 X3 := by rw [← hX3]; exact (Below.refl _ _).alloc (Nat.le_refl _) _
          have k3 : Below W2.heap.size W2 X3 := k2.trans (hb3.mono k2.size)
          have Lp3 := Lp2.below hb3
          have A3 : Blk X3 gA 25 #[.int .i64 0, .string ⟨#[]⟩, .string ⟨#[]⟩, .int .i64 0, .slice none 0 0] := by rw [← hX3, ← hgA0]; exact Blk.new _ _ _
          rw [hX3, hgA0]
          clear hX3 hgA0
          refine hK.out _ _ k3 (fun _ => ?_)
          refine wpAnyH_ready (rs := [3]) (by kernel_rfl) (by simp) (AllReadyH.cons rfl (fun KK hK => ?_) AllReadyH.nil)
          go_simp
          obtain ⟨X4, hX4⟩ : ∃ X, X3.alloc (.cells #[.int .i64 1, .string ⟨#[]⟩, .string ⟨#[]⟩, .int .i64 0, .slice none 0 0] 25) = X := ⟨_, rfl⟩
          obtain ⟨gR, hgR0⟩ : ∃ g, X3.heap.size = g := ⟨_, rfl⟩
          have hgR : W2.heap.size ≤ gR := by rw [← hgR0]; exact k3.size
          have hb4 : Below X3.heap.size X3 X4 := by rw [← hX4]; exact (Below.refl _ _).alloc (Nat.le_refl _) _
          have k4 : Below W2.heap.size W2 X4 := k3.trans (hb4.mono k3.size)
          have Lp4 := Lp3.below hb4
          have A4 : Blk X4 gA 25 #[.int .i64 0, .string ⟨#[]⟩, .string ⟨#[]⟩, .int .i64 0, .slice none 0 0] := (hb4.block _ A3.lt).trans A3
          have R4 : Blk X4 gR 25 #[.int .i64 1, .string ⟨#[]⟩, .string ⟨#[]⟩, .int .i64 0, .slice none 0 0] := by rw [← hX4, ← hgR0]; exact Blk.new _ _ _
          rw [hX4, hgR0]
          clear hX4 hgR0
          refine hK.out _ _ k4 (fun _ => ?_)
          refine wpAnyH_ready (rs := [4]) (by kernel_rfl) (by simp) (AllReadyH.cons rfl (fun KK hK => ?_) AllReadyH.nil)
          go_simp
          refine (substP_any 100 (by decide) [(GY.mk 1 ⟨#[]⟩ ⟨#[]⟩ 0 [])] (some ⟨gR, 0, none⟩) 1 1 rfl fit_num (GY.mk 5 ⟨#[]⟩ ⟨#[]⟩ 0 [(GY.mk 6 ⟨#[]⟩ ⟨#[80]⟩ 0 [])]) u1 _ fit_lp Lp4 (row_num R4)).mono ?_
          rintro e X5 ⟨u4, rfl, hu4, hb5⟩
          obtain ⟨b0, b1, b2, b3, b4, rfl, ho⟩ := hu4.cells
          have U5 : IsY X5 (GY.mk 5 ⟨#[]⟩ ⟨#[]⟩ 0 [(GY.mk 1 ⟨#[]⟩ ⟨#[]⟩ 0 [])]) (.agg #[b0, b1, b2, b3, b4]) := by have := hu4.toY; rw [sub_lp] at this; exact this
          have k5 : Below W2.heap.size W2 X5 := k4.trans (hb5.mono k4.size)
          have Lp5 := Lp4.below hb5
          have R5 : Blk X5 gR 25 #[.int .i64 1, .string ⟨#[]⟩, .string ⟨#[]⟩, .int .i64 0, .slice none 0 0] := (hb5.block _ R4.lt).trans R4
          have A5 : Blk X5 gA 25 #[.int .i64 0, .string ⟨#[]⟩, .string ⟨#[]⟩, .int .i64 0, .slice none 0 0] := (hb5.block _ A4.lt).trans A4
          have V5 : IsYP (fun k => k ≠ gA) X5 (GY.mk 5 ⟨#[]⟩ ⟨#[]⟩ 0 [(GY.mk 1 ⟨#[]⟩ ⟨#[]⟩ 0 [])]) (.agg #[b0, b1, b2, b3, b4]) := by have := hu4; rw [sub_lp] at this; exact this.toP fun k hk => by have := A4.lt; omega
          refine hK.out _ _ k5 (fun _ => ?_)
          refine wpAnyH_ready (rs := [6]) (by kernel_rfl) (by simp) (AllReadyH.cons rfl (fun KK hK => ?_) AllReadyH.nil)
          refine step_store rfl 25 (.tmp 3) (.tmp 11) rfl gA #[b0, b1, b2, b3, b4] (by kernel_rfl) (by kernel_rfl) _ _ A5 (by rw [size5]; rfl) rfl (by simpa using ho) ?_
          have k6 : Below W2.heap.size W2 (X5.setRow gA #[b0, b1, b2, b3, b4]) := below_setRow k5 hgA _
          have A6 : Blk (X5.setRow gA #[b0, b1, b2, b3, b4]) gA 25 #[b0, b1, b2, b3, b4] := A5.row #[b0, b1, b2, b3, b4]
          have V6 : IsYP (fun k => k ≠ gA) (X5.setRow gA #[b0, b1, b2, b3, b4]) (GY.mk 5 ⟨#[]⟩ ⟨#[]⟩ 0 [(GY.mk 1 ⟨#[]⟩ ⟨#[]⟩ 0 [])]) (.agg #[b0, b1, b2, b3, b4]) := V5.keep (fun _ _ h _ => h) fun a u ha hc => (World.cell?_of_block (setRow_other _ gA a.block _ ha)).trans hc
          have U6 := V6.toY
          refine hK.out _ _ k6 (fun _ => ?_)
          generalize X5.setRow gA #[b0, b1, b2, b3, b4] = X6 at *
          refine wpAnyH_done (by kernel_rfl) ?_ _
          have KF := Lib.hid k6; have KA := Lib.hid A6; have KU := Lib.hid U6; have KG := Lib.hid hgA
          clear k6 A6 U6
          go_wp2_with fail
          go_meet
          exact ⟨_, _, _, _, _, _, rfl, KA.out, KU.out, KG.out, KF.out⟩
      · go_simp
        obtain ⟨X2, hX2⟩ : ∃ X, X1.alloc (.cells #[.int .i64 1, .string ⟨#[]⟩, .string ⟨#[]⟩, .int .i64 0, .slice none 0 0] 25) = X := ⟨_, rfl⟩
        obtain ⟨gR, hgR0⟩ : ∃ g, X1.heap.size = g := ⟨_, rfl⟩
        have hgR : W2.heap.size ≤ gR := by rw [← hgR0]; exact k1.size
        have hb2 : Below X1.heap.size X1 X2 := by rw [← hX2]; exact (Below.refl _ _).alloc (Nat.le_refl _) _
        have k2 : Below W2.heap.size W2 X2 := k1.trans (hb2.mono k1.size)
        have R2 : Blk X2 gR 25 #[.int .i64 1, .string ⟨#[]⟩, .string ⟨#[]⟩, .int .i64 0, .slice none 0 0] := by rw [← hX2, ← hgR0]; exact Blk.new _ _ _
        rw [hX2, hgR0]
        clear hX2 hgR0
        refine hK.out _ _ k2 (fun _ => ?_)
        refine wpAnyH_ready (rs := [1, 5]) (by kernel_rfl) (by simp) (AllReadyH.cons rfl (fun KK hK => ?_) (AllReadyH.cons rfl (fun KK hK => ?_) AllReadyH.nil))
        · go_simp
          refine (list_any (GY.mk 6 ⟨#[]⟩ ⟨#[80]⟩ 0 []) _ _ (isY_plain _ _ _ _ _)).mono ?_
          rintro e X3 ⟨u1, rfl, Lp3, hb3⟩
          have k3 : Below W2.heap.size W2 X3 := k2.trans (hb3.mono k2.size)
          have R3 : Blk X3 gR 25 #[.int .i64 1, .string ⟨#[]⟩, .string ⟨#[]⟩, .int .i64 0, .slice none 0 0] := (hb3.block _ R2.lt).trans R2
          refine hK.out _ _ k3 (fun _ => ?_)
          refine wpAnyH_ready (rs := [4, 5]) (by kernel_rfl) (by simp) (AllReadyH.cons rfl (fun KK hK => ?_) (AllReadyH.cons rfl (fun KK hK => ?_) AllReadyH.nil))
          · go_simp
            refine (substP_any 100 (by decide) [(GY.mk 1 ⟨#[]⟩ ⟨#[]⟩ 0 [])] (some ⟨gR, 0, none⟩) 1 1 rfl fit_num (GY.mk 5 ⟨#[]⟩ ⟨#[]⟩ 0 [(GY.mk 6 ⟨#[]⟩ ⟨#[80]⟩ 0 [])]) u1 _ fit_lp Lp3 (row_num R3)).mono ?_
            rintro e X4 ⟨u4, rfl, hu4, hb4⟩
            obtain ⟨b0, b1, b2, b3, b4, rfl, ho⟩ := hu4.cells
            have U4 : IsY X4 (GY.mk 5 ⟨#[]⟩ ⟨#[]⟩ 0 [(GY.mk 1 ⟨#[]⟩ ⟨#[]⟩ 0 [])]) (.agg #[b0, b1, b2, b3, b4]) := by have := hu4.toY; rw [sub_lp] at this; exact this
            have k4 : Below W2.heap.size W2 X4 := k3.trans (hb4.mono k3.size)
            have Lp4 := Lp3.below hb4
            have R4 : Blk X4 gR 25 #[.int .i64 1, .string ⟨#[]⟩, .string ⟨#[]⟩, .int .i64 0, .slice none 0 0] := (hb4.block _ R3.lt).trans R3
            refine hK.out _ _ k4 (fun _ => ?_)
            refine wpAnyH_ready (rs := [5]) (by kernel_rfl) (by simp) (AllReadyH.cons rfl (fun KK hK => ?_) AllReadyH.nil)
            go_simp
            obtain ⟨X5, hX5⟩ : ∃ X, X4.alloc (.cells #[.int .i64 0, .string ⟨#[]⟩, .string ⟨#[]⟩, .int .i64 0, .slice none 0 0] 25) = X := ⟨_, rfl⟩
            obtain ⟨gA, hgA0⟩ : ∃ g, X4.heap.size = g := ⟨_, rfl⟩
            have hgA : W2.heap.size ≤ gA := by rw [← hgA0]; exact k4.size
            have hb5 : Below X4.heap.size X4 X5 := by rw [← hX5]; exact (Below.refl _ _).alloc (Nat.le_refl _) _
            have k5 : Below W2.heap.size W2 X5 := k4.trans (hb5.mono k4.size)
            have Lp5 := Lp4.below hb5
            have R5 : Blk X5 gR 25 #[.int .i64 1, .string ⟨#[]⟩, .string ⟨#[]⟩, .int .i64 0, .slice none 0 0] := (hb5.block _ R4.lt).trans R4
            have U5 := U4.below hb5
            have A5 : Blk X5 gA 25 #[.int .i64 0, .string ⟨#[]⟩, .string ⟨#[]⟩, .int .i64 0, .slice none 0 0] := by rw [← hX5, ← hgA0]; exact Blk.new _ _ _
            have V5 : IsYP (fun k => k ≠ gA) X5 (GY.mk 5 ⟨#[]⟩ ⟨#[]⟩ 0 [(GY.mk 1 ⟨#[]⟩ ⟨#[]⟩ 0 [])]) (.agg #[b0, b1, b2, b3, b4]) := ((U4.toP (Nat.le_refl _)).below hb5).keep (fun _ _ h _ => by have := h; omega) fun _ _ _ h => h
            rw [hX5, hgA0]
            clear hX5 hgA0
            refine hK.out _ _ k5 (fun _ => ?_)
            refine wpAnyH_ready (rs := [6]) (by kernel_rfl) (by simp) (AllReadyH.cons rfl (fun KK hK => ?_) AllReadyH.nil)
            refine step_store rfl 25 (.tmp 3) (.tmp 11) rfl gA #[b0, b1, b2, b3, b4] (by kernel_rfl) (by kernel_rfl) _ _ A5 (by rw [size5]; rfl) rfl (by simpa using ho) ?_
            have k6 : Below W2.heap.size W2 (X5.setRow gA #[b0, b1, b2, b3, b4]) := below_setRow k5 hgA _
            have A6 : Blk (X5.setRow gA #[b0, b1, b2, b3, b4]) gA 25 #[b0, b1, b2, b3, b4] := A5.row #[b0, b1, b2, b3, b4]
            have V6 : IsYP (fun k => k ≠ gA) (X5.setRow gA #[b0, b1, b2, b3, b4]) (GY.mk 5 ⟨#[]⟩ ⟨#[]⟩ 0 [(GY.mk 1 ⟨#[]⟩ ⟨#[]⟩ 0 [])]) (.agg #[b0, b1, b2, b3, b4]) := V5.keep (fun _ _ h _ => h) fun a u ha hc => (World.cell?_of_block (setRow_other _ gA a.block _ ha)).trans hc
            have U6 := V6.toY
            refine hK.out _ _ k6 (fun _ => ?_)
            generalize X5.setRow gA #[b0, b1, b2, b3, b4] = X6 at *
            refine wpAnyH_done (by kernel_rfl) ?_ _
            have KF := Lib.hid k6; have KA := Lib.hid A6; have KU := Lib.hid U6; have KG := Lib.hid hgA
            clear k6 A6 U6
            go_wp2_with fail
            go_meet
            exact ⟨_, _, _, _, _, _, rfl, KA.out, KU.out, KG.out, KF.out⟩
          · go_simp
            obtain ⟨X4, hX4⟩ : ∃ X, X3.alloc (.cells #[.int .i64 0, .string ⟨#[]⟩, .string ⟨#[]⟩, .int .i64 0, .slice none 0 0] 25) = X := ⟨_, rfl⟩
            obtain ⟨gA, hgA0⟩ : ∃ g, X3.heap.size = g := ⟨_, rfl⟩
            have hgA : W2.heap.size ≤ gA := by rw [← hgA0]; exact k3.size
            have hb4 : Below X3.heap.size X3 X4 := by rw [← hX4]; exact (Below.refl _ _).alloc (Nat.le_refl _) _
            have k4 : Below W2.heap.size W2 X4 := k3.trans (hb4.mono k3.size)
            have Lp4 := Lp3.below hb4
            have R4 : Blk X4 gR 25 #[.int .i64 1, .string ⟨#[]⟩, .string ⟨#[]⟩, .int .i64 0, .slice none 0 0] := (hb4.block _ R3.lt).trans R3
            have A4 : Blk X4 gA 25 #[.int .i64 0, .string ⟨#[]⟩, .string ⟨#[]⟩, .int .i64 0, .slice none 0 0] := by rw [← hX4, ← hgA0]; exact Blk.new _ _ _
            rw [hX4, hgA0]
            clear hX4 hgA0
            refine hK.out _ _ k4 (fun _ => ?_)
            refine wpAnyH_ready (rs := [4]) (by kernel_rfl) (by simp) (AllReadyH.cons rfl (fun KK hK => ?_) AllReadyH.nil)
            go_simp
            refine (substP_any 100 (by decide) [(GY.mk 1 ⟨#[]⟩ ⟨#[]⟩ 0 [])] (some ⟨gR, 0, none⟩) 1 1 rfl fit_num (GY.mk 5 ⟨#[]⟩ ⟨#[]⟩ 0 [(GY.mk 6 ⟨#[]⟩ ⟨#[80]⟩ 0 [])]) u1 _ fit_lp Lp4 (row_num R4)).mono ?_
            rintro e X5 ⟨u4, rfl, hu4, hb5⟩
            obtain ⟨b0, b1, b2, b3, b4, rfl, ho⟩ := hu4.cells
            have U5 : IsY X5 (GY.mk 5 ⟨#[]⟩ ⟨#[]⟩ 0 [(GY.mk 1 ⟨#[]⟩ ⟨#[]⟩ 0 [])]) (.agg #[b0, b1, b2, b3, b4]) := by have := hu4.toY; rw [sub_lp] at this; exact this
            have k5 : Below W2.heap.size W2 X5 := k4.trans (hb5.mono k4.size)
            have Lp5 := Lp4.below hb5
            have R5 : Blk X5 gR 25 #[.int .i64 1, .string ⟨#[]⟩, .string ⟨#[]⟩, .int .i64 0, .slice none 0 0] := (hb5.block _ R4.lt).trans R4
            have A5 : Blk X5 gA 25 #[.int .i64 0, .string ⟨#[]⟩, .string ⟨#[]⟩, .int .i64 0, .slice none 0 0] := (hb5.block _ A4.lt).trans A4
            have V5 : IsYP (fun k => k ≠ gA) X5 (GY.mk 5 ⟨#[]⟩ ⟨#[]⟩ 0 [(GY.mk 1 ⟨#[]⟩ ⟨#[]⟩ 0 [])]) (.agg #[b0, b1, b2, b3, b4]) := by have := hu4; rw [sub_lp] at this; exact this.toP fun k hk => by have := A4.lt; omega
            refine hK.out _ _ k5 (fun _ => ?_)
            refine wpAnyH_ready (rs := [6]) (by kernel_rfl) (by simp) (AllReadyH.cons rfl (fun KK hK => ?_) AllReadyH.nil)
            refine step_store rfl 25 (.tmp 3) (.tmp 11) rfl gA #[b0, b1, b2, b3, b4] (by kernel_rfl) (by kernel_rfl) _ _ A5 (by rw [size5]; rfl) rfl (by simpa using ho) ?_
            have k6 : Below W2.heap.size W2 (X5.setRow gA #[b0, b1, b2, b3, b4]) := below_setRow k5 hgA _
            have A6 : Blk (X5.setRow gA #[b0, b1, b2, b3, b4]) gA 25 #[b0, b1, b2, b3, b4] := A5.row #[b0, b1, b2, b3, b4]
            have V6 : IsYP (fun k => k ≠ gA) (X5.setRow gA #[b0, b1, b2, b3, b4]) (GY.mk 5 ⟨#[]⟩ ⟨#[]⟩ 0 [(GY.mk 1 ⟨#[]⟩ ⟨#[]⟩ 0 [])]) (.agg #[b0, b1, b2, b3, b4]) := V5.keep (fun _ _ h _ => h) fun a u ha hc => (World.cell?_of_block (setRow_other _ gA a.block _ ha)).trans hc
            have U6 := V6.toY
            refine hK.out _ _ k6 (fun _ => ?_)
            generalize X5.setRow gA #[b0, b1, b2, b3, b4] = X6 at *
            refine wpAnyH_done (by kernel_rfl) ?_ _
            have KF := Lib.hid k6; have KA := Lib.hid A6; have KU := Lib.hid U6; have KG := Lib.hid hgA
            clear k6 A6 U6
            go_wp2_with fail
            go_meet
            exact ⟨_, _, _, _, _, _, rfl, KA.out, KU.out, KG.out, KF.out⟩
        · go_simp
          obtain ⟨X3, hX3⟩ : ∃ X, X2.alloc (.cells #[.int .i64 0, .string ⟨#[]⟩, .string ⟨#[]⟩, .int .i64 0, .slice none 0 0] 25) = X := ⟨_, rfl⟩
          obtain ⟨gA, hgA0⟩ : ∃ g, X2.heap.size = g := ⟨_, rfl⟩
          have hgA : W2.heap.size ≤ gA := by rw [← hgA0]; exact k2.size
          have hb3 : Below X2.heap.size X2 X3 := by rw [← hX3]; exact (Below.refl _ _).alloc (Nat.le_refl _) _
          have k3 : Below W2.heap.size W2 X3 := k2.trans (hb3.mono k2.size)
          have R3 : Blk X3 gR 25 #[.int .i64 1, .string ⟨#[]⟩, .string ⟨#[]⟩, .int .i64 0, .slice none 0 0] := (hb3.block _ R2.lt).trans R2
          have A3 : Blk X3 gA 25 #[.int .i64 0, .string ⟨#[]⟩, .string ⟨#[]⟩, .int .i64 0, .slice none 0 0] := by rw [← hX3, ← hgA0]; exact Blk.new _ _ _
          rw [hX3, hgA0]
          clear hX3 hgA0
          refine hK.out _ _ k3 (fun _ => ?_)
          refine wpAnyH_ready (rs := [1]) (by kernel_rfl) (by simp) (AllReadyH.cons rfl (fun KK hK => ?_) AllReadyH.nil)
          go_simp
          refine (list_any (GY.mk 6 ⟨#[]⟩ ⟨#[80]⟩ 0 []) _ _ (isY_plain _ _ _ _ _)).mono ?_
          rintro e X4 ⟨u1, rfl, Lp4, hb4⟩
          have k4 : Below W2.heap.size W2 X4 := k3.trans (hb4.mono k3.size)
          have R4 : Blk X4 gR 25 #[.int .i64 1, .string ⟨#[]⟩, .string ⟨#[]⟩, .int .i64 0, .slice none 0 0] := (hb4.block _ R3.lt).trans R3
          have A4 : Blk X4 gA 25 #[.int .i64 0, .string ⟨#[]⟩, .string ⟨#[]⟩, .int .i64 0, .slice none 0 0] := (hb4.block _ A3.lt).trans A3
          refine hK.out _ _ k4 (fun _ => ?_)
          refine wpAnyH_ready (rs := [4]) (by kernel_rfl) (by simp) (AllReadyH.cons rfl (fun KK hK => ?_) AllReadyH.nil)
          go_simp
          refine (substP_any 100 (by decide) [(GY.mk 1 ⟨#[]⟩ ⟨#[]⟩ 0 [])] (some ⟨gR, 0, none⟩) 1 1 rfl fit_num (GY.mk 5 ⟨#[]⟩ ⟨#[]⟩ 0 [(GY.mk 6 ⟨#[]⟩ ⟨#[80]⟩ 0 [])]) u1 _ fit_lp Lp4 (row_num R4)).mono ?_
          rintro e X5 ⟨u4, rfl, hu4, hb5⟩
          obtain ⟨b0, b1, b2, b3, b4, rfl, ho⟩ := hu4.cells
          have U5 : IsY X5 (GY.mk 5 ⟨#[]⟩ ⟨#[]⟩ 0 [(GY.mk 1 ⟨#[]⟩ ⟨#[]⟩ 0 [])]) (.agg #[b0, b1, b2, b3, b4]) := by have := hu4.toY; rw [sub_lp] at this; exact this
          have k5 : Below W2.heap.size W2 X5 := k4.trans (hb5.mono k4.size)
          have Lp5 := Lp4.below hb5
          have R5 : Blk X5 gR 25 #[.int .i64 1, .string ⟨#[]⟩, .string ⟨#[]⟩, .int .i64 0, .slice none 0 0] := (hb5.block _ R4.lt).trans R4
          have A5 : Blk X5 gA 25 #[.int .i64 0, .string ⟨#[]⟩, .string ⟨#[]⟩, .int .i64 0, .slice none 0 0] := (hb5.block _ A4.lt).trans A4
          have V5 : IsYP (fun k => k ≠ gA) X5 (GY.mk 5 ⟨#[]⟩ ⟨#[]⟩ 0 [(GY.mk 1 ⟨#[]⟩ ⟨#[]⟩ 0 [])]) (.agg #[b0, b1, b2, b3, b4]) := by have := hu4; rw [sub_lp] at this; exact this.toP fun k hk => by have := A4.lt; omega
          refine hK.out _ _ k5 (fun _ => ?_)
          refine wpAnyH_ready (rs := [6]) (by kernel_rfl) (by simp) (AllReadyH.cons rfl (fun KK hK => ?_) AllReadyH.nil)
          refine step_store rfl 25 (.tmp 3) (.tmp 11) rfl gA #[b0, b1, b2, b3, b4] (by kernel_rfl) (by kernel_rfl) _ _ A5 (by rw [size5]; rfl) rfl (by simpa using ho) ?_
          have k6 : Below W2.heap.size W2 (X5.setRow gA #[b0, b1, b2, b3, b4]) := below_setRow k5 hgA _
          have A6 : Blk (X5.setRow gA #[b0, b1, b2, b3, b4]) gA 25 #[b0, b1, b2, b3, b4] := A5.row #[b0, b1, b2, b3, b4]
          have V6 : IsYP (fun k => k ≠ gA) (X5.setRow gA #[b0, b1, b2, b3, b4]) (GY.mk 5 ⟨#[]⟩ ⟨#[]⟩ 0 [(GY.mk 1 ⟨#[]⟩ ⟨#[]⟩ 0 [])]) (.agg #[b0, b1, b2, b3, b4]) := V5.keep (fun _ _ h _ => h) fun a u ha hc => (World.cell?_of_block (setRow_other _ gA a.block _ ha)).trans hc
          have U6 := V6.toY
          refine hK.out _ _ k6 (fun _ => ?_)
          generalize X5.setRow gA #[b0, b1, b2, b3, b4] = X6 at *
          refine wpAnyH_done (by kernel_rfl) ?_ _
          have KF := Lib.hid k6; have KA := Lib.hid A6; have KU := Lib.hid U6; have KG := Lib.hid hgA
          clear k6 A6 U6
          go_wp2_with fail
          go_meet
          exact ⟨_, _, _, _, _, _, rfl, KA.out, KU.out, KG.out, KF.out⟩
      · go_simp
        obtain ⟨X2, hX2⟩ : ∃ X, X1.alloc (.cells #[.int .i64 0, .string ⟨#[]⟩, .string ⟨#[]⟩, .int .i64 0, .slice none 0 0] 25) = X := ⟨_, rfl⟩
        obtain ⟨gA, hgA0⟩ : ∃ g, X1.heap.size = g := ⟨_, rfl⟩
        have hgA : W2.heap.size ≤ gA := by rw [← hgA0]; exact k1.size
        have hb2 : Below X1.heap.size X1 X2 := by rw [← hX2]; exact (Below.refl _ _).alloc (Nat.le_refl _) _
        have k2 : Below W2.heap.size W2 X2 := k1.trans (hb2.mono k1.size)
        have A2 : Blk X2 gA 25 #[.int .i64 0, .string ⟨#[]⟩, .string ⟨#[]⟩, .int .i64 0, .slice none 0 0] := by rw [← hX2, ← hgA0]; exact Blk.new _ _ _
        rw [hX2, hgA0]
        clear hX2 hgA0
        refine hK.out _ _ k2 (fun _ => ?_)
        refine wpAnyH_ready (rs := [1, 3]) (by kernel_rfl) (by simp) (AllReadyH.cons rfl (fun KK hK => ?_) (AllReadyH.cons rfl (fun KK hK => ?_) AllReadyH.nil))
        · go_simp
          refine (list_any (GY.mk 6 ⟨#[]⟩ ⟨#[80]⟩ 0 []) _ _ (isY_plain _ _ _ _ _)).mono ?_
          rintro e X3 ⟨u1, rfl, Lp3, hb3⟩
          have k3 : Below W2.heap.size W2 X3 := k2.trans (hb3.mono k2.size)
          have A3 : Blk X3 gA 25 #[.int .i64 0, .string ⟨#[]⟩, .string ⟨#[]⟩, .int .i64 0, .slice none 0 0] := (hb3.block _ A2.lt).trans A2
          refine hK.out _ _ k3 (fun _ => ?_)
          refine wpAnyH_ready (rs := [3]) (by kernel_rfl) (by simp) (AllReadyH.cons rfl (fun KK hK => ?_) AllReadyH.nil)
          go_simp
          obtain ⟨X4, hX4⟩ : ∃ X, X3.alloc (.cells #[.int .i64 1, .string ⟨#[]⟩, .string ⟨#[]⟩, .int .i64 0, .slice none 0 0] 25) = X := ⟨_, rfl⟩
          obtain ⟨gR, hgR0⟩ : ∃ g, X3.heap.size = g := ⟨_, rfl⟩
          have hgR : W2.heap.size ≤ gR := by rw [← hgR0]; exact k3.size
          have hb4 : Below X3.heap.size X3 X4 := by rw [← hX4]; exact (Below.refl _ _).alloc (Nat.le_refl _) _
          have k4 : Below W2.heap.size W2 X4 := k3.trans (hb4.mono k3.size)
          have Lp4 := Lp3.below hb4
          have A4 : Blk X4 gA 25 #[.int .i64 0, .string ⟨#[]⟩, .string ⟨#[]⟩, .int .i64 0, .slice none 0 0] := (hb4.block _ A3.lt).trans A3
          have R4 : Blk X4 gR 25 #[.int .i64 1, .string ⟨#[]⟩, .string ⟨#[]⟩, .int .i64 0, .slice none 0 0] := by rw [← hX4, ← hgR0]; exact Blk.new _ _ _
          rw [hX4, hgR0]
          clear hX4 hgR0
          refine hK.out _ _ k4 (fun _ => ?_)
          refine wpAnyH_ready (rs := [4]) (by kernel_rfl) (by simp) (AllReadyH.cons rfl (fun KK hK => ?_) AllReadyH.nil)
          go_simp
          refine (substP_any 100 (by decide) [(GY.mk 1 ⟨#[]⟩ ⟨#[]⟩ 0 [])] (some ⟨gR, 0, none⟩) 1 1 rfl fit_num (GY.mk 5 ⟨#[]⟩ ⟨#[]⟩ 0 [(GY.mk 6 ⟨#[]⟩ ⟨#[80]⟩ 0 [])]) u1 _ fit_lp Lp4 (row_num R4)).mono ?_
          rintro e X5 ⟨u4, rfl, hu4, hb5⟩
          obtain ⟨b0, b1, b2, b3, b4, rfl, ho⟩ := hu4.cells
          have U5 : IsY X5 (GY.mk 5 ⟨#[]⟩ ⟨#[]⟩ 0 [(GY.mk 1 ⟨#[]⟩ ⟨#[]⟩ 0 [])]) (.agg #[b0, b1, b2, b3, b4]) := by have := hu4.toY; rw [sub_lp] at this; exact this
          have k5 : Below W2.heap.size W2 X5 := k4.trans (hb5.mono k4.size)
          have Lp5 := Lp4.below hb5
          have R5 : Blk X5 gR 25 #[.int .i64 1, .string ⟨#[]⟩, .string ⟨#[]⟩, .int .i64 0, .slice none 0 0] := (hb5.block _ R4.lt).trans R4
          have A5 : Blk X5 gA 25 #[.int .i64 0, .string ⟨#[]⟩, .string ⟨#[]⟩, .int .i64 0, .slice none 0 0] := (hb5.block _ A4.lt).trans A4
          have V5 : IsYP (fun k => k ≠ gA) X5 (GY.mk 5 ⟨#[]⟩ ⟨#[]⟩ 0 [(GY.mk 1 ⟨#[]⟩ ⟨#[]⟩ 0 [])]) (.agg #[b0, b1, b2, b3, b4]) := by have := hu4; rw [sub_lp] at this; exact this.toP fun k hk => by have := A4.lt; omega
          refine hK.out _ _ k5 (fun _ => ?_)
          refine wpAnyH_ready (rs := [6]) (by kernel_rfl) (by simp) (AllReadyH.cons rfl (fun KK hK => ?_) AllReadyH.nil)
          refine step_store rfl 25 (.tmp 3) (.tmp 11) rfl gA #[b0, b1, b2, b3, b4] (by kernel_rfl) (by kernel_rfl) _ _ A5 (by rw [size5]; rfl) rfl (by simpa using ho) ?_
          have k6 : Below W2.heap.size W2 (X5.setRow gA #[b0, b1, b2, b3, b4]) := below_setRow k5 hgA _
          have A6 : Blk (X5.setRow gA #[b0, b1, b2, b3, b4]) gA 25 #[b0, b1, b2, b3, b4] := A5.row #[b0, b1, b2, b3, b4]
          have V6 : IsYP (fun k => k ≠ gA) (X5.setRow gA #[b0, b1, b2, b3, b4]) (GY.mk 5 ⟨#[]⟩ ⟨#[]⟩ 0 [(GY.mk 1 ⟨#[]⟩ ⟨#[]⟩ 0 [])]) (.agg #[b0, b1, b2, b3, b4]) := V5.keep (fun _ _ h _ => h) fun a u ha hc => (World.cell?_of_block (setRow_other _ gA a.block _ ha)).trans hc
          have U6 := V6.toY
          refine hK.out _ _ k6 (fun _ => ?_)
          generalize X5.setRow gA #[b0, b1, b2, b3, b4] = X6 at *
          refine wpAnyH_done (by kernel_rfl) ?_ _
          have KF := Lib.hid k6; have KA := Lib.hid A6; have KU := Lib.hid U6; have KG := Lib.hid hgA
          clear k6 A6 U6
          go_wp2_with fail
          go_meet
          exact ⟨_, _, _, _, _, _, rfl, KA.out, KU.out, KG.out, KF.out⟩
        · go_simp
          obtain ⟨X3, hX3⟩ : ∃ X, X2.alloc (.cells #[.int .i64 1, .string ⟨#[]⟩, .string ⟨#[]⟩, .int .i64 0, .slice none 0 0] 25) = X := ⟨_, rfl⟩
          obtain ⟨gR, hgR0⟩ : ∃ g, X2.heap.size = g := ⟨_, rfl⟩
          have hgR : W2.heap.size ≤ gR := by rw [← hgR0]; exact k2.size
          have hb3 : Below X2.heap.size X2 X3 := by rw [← hX3]; exact (Below.refl _ _).alloc (Nat.le_refl _) _
          have k3 : Below W2.heap.size W2 X3 := k2.trans (hb3.mono k2.size)
          have A3 : Blk X3 gA 25 #[.int .i64 0, .string ⟨#[]⟩, .string ⟨#[]⟩, .int .i64 0, .slice none 0 0] := (hb3.block _ A2.lt).trans A2
          have R3 : Blk X3 gR 25 #[.int .i64 1, .string ⟨#[]⟩, .string ⟨#[]⟩, .int .i64 0, .slice none 0 0] := by rw [← hX3, ← hgR0]; exact Blk.new _ _ _
          rw [hX3, hgR0]
          clear hX3 hgR0
          refine hK.out _ _ k3 (fun _ => ?_)
          refine wpAnyH_ready (rs := [1]) (by kernel_rfl) (by simp) (AllReadyH.cons rfl (fun KK hK => ?_) AllReadyH.nil)
          go_simp
          refine (list_any (GY.mk 6 ⟨#[]⟩ ⟨#[80]⟩ 0 []) _ _ (isY_plain _ _ _ _ _)).mono ?_
          rintro e X4 ⟨u1, rfl, Lp4, hb4⟩
          have k4 : Below W2.heap.size W2 X4 := k3.trans (hb4.mono k3.size)
          have R4 : Blk X4 gR 25 #[.int .i64 1, .string ⟨#[]⟩, .string ⟨#[]⟩, .int .i64 0, .slice none 0 0] := (hb4.block _ R3.lt).trans R3
          have A4 : Blk X4 gA 25 #[.int .i64 0, .string ⟨#[]⟩, .string ⟨#[]⟩, .int .i64 0, .slice none 0 0] := (hb4.block _ A3.lt).trans A3
          refine hK.out _ _ k4 (fun _ => ?_)
          refine wpAnyH_ready (rs := [4]) (by kernel_rfl) (by simp) (AllReadyH.cons rfl (fun KK hK => ?_) AllReadyH.nil)
          go_simp
          refine (substP_any 100 (by decide) [(GY.mk 1 ⟨#[]⟩ ⟨#[]⟩ 0 [])] (some ⟨gR, 0, none⟩) 1 1 rfl fit_num (GY.mk 5 ⟨#[]⟩ ⟨#[]⟩ 0 [(GY.mk 6 ⟨#[]⟩ ⟨#[80]⟩ 0 [])]) u1 _ fit_lp Lp4 (row_num R4)).mono ?_
          rintro e X5 ⟨u4, rfl, hu4, hb5⟩
          obtain ⟨b0, b1, b2, b3, b4, rfl, ho⟩ := hu4.cells
          have U5 : IsY X5 (GY.mk 5 ⟨#[]⟩ ⟨#[]⟩ 0 [(GY.mk 1 ⟨#[]⟩ ⟨#[]⟩ 0 [])]) (.agg #[b0, b1, b2, b3, b4]) := by have := hu4.toY; rw [sub_lp] at this; exact this
          have k5 : Below W2.heap.size W2 X5 := k4.trans (hb5.mono k4.size)
          have Lp5 := Lp4.below hb5
          have R5 : Blk X5 gR 25 #[.int .i64 1, .string ⟨#[]⟩, .string ⟨#[]⟩, .int .i64 0, .slice none 0 0] := (hb5.block _ R4.lt).trans R4
          have A5 : Blk X5 gA 25 #[.int .i64 0, .string ⟨#[]⟩, .string ⟨#[]⟩, .int .i64 0, .slice none 0 0] := (hb5.block _ A4.lt).trans A4
          have V5 : IsYP (fun k => k ≠ gA) X5 (GY.mk 5 ⟨#[]⟩ ⟨#[]⟩ 0 [(GY.mk 1 ⟨#[]⟩ ⟨#[]⟩ 0 [])]) (.agg #[b0, b1, b2, b3, b4]) := by have := hu4; rw [sub_lp] at this; exact this.toP fun k hk => by have := A4.lt; omega
          refine hK.out _ _ k5 (fun _ => ?_)
          refine wpAnyH_ready (rs := [6]) (by kernel_rfl) (by simp) (AllReadyH.cons rfl (fun KK hK => ?_) AllReadyH.nil)
          refine step_store rfl 25 (.tmp 3) (.tmp 11) rfl gA #[b0, b1, b2, b3, b4] (by kernel_rfl) (by kernel_rfl) _ _ A5 (by rw [size5]; rfl) rfl (by simpa using ho) ?_
          have k6 : Below W2.heap.size W2 (X5.setRow gA #[b0, b1, b2, b3, b4]) := below_setRow k5 hgA _
          have A6 : Blk (X5.setRow gA #[b0, b1, b2, b3, b4]) gA 25 #[b0, b1, b2, b3, b4] := A5.row #[b0, b1, b2, b3, b4]
          have V6 : IsYP (fun k => k ≠ gA) (X5.setRow gA #[b0, b1, b2, b3, b4]) (GY.mk 5 ⟨#[]⟩ ⟨#[]⟩ 0 [(GY.mk 1 ⟨#[]⟩ ⟨#[]⟩ 0 [])]) (.agg #[b0, b1, b2, b3, b4]) := V5.keep (fun _ _ h _ => h) fun a u ha hc => (World.cell?_of_block (setRow_other _ gA a.block _ ha)).trans hc
          have U6 := V6.toY
          refine hK.out _ _ k6 (fun _ => ?_)
          generalize X5.setRow gA #[b0, b1, b2, b3, b4] = X6 at *
          refine wpAnyH_done (by kernel_rfl) ?_ _
          have KF := Lib.hid k6; have KA := Lib.hid A6; have KU := Lib.hid U6; have KG := Lib.hid hgA
          clear k6 A6 U6
          go_wp2_with fail
          go_meet
          exact ⟨_, _, _, _, _, _, rfl, KA.out, KU.out, KG.out, KF.out⟩
    · go_simp
      obtain ⟨X1, hX1⟩ : ∃ X, X0.alloc (.cells #[.int .i64 1, .string ⟨#[]⟩, .string ⟨#[]⟩, .int .i64 0, .slice none 0 0] 25) = X := ⟨_, rfl⟩
      obtain ⟨gR, hgR0⟩ : ∃ g, X0.heap.size = g := ⟨_, rfl⟩
      have hgR : W2.heap.size ≤ gR := by rw [← hgR0]; exact k0.size
      have hb1 : Below X0.heap.size X0 X1 := by rw [← hX1]; exact (Below.refl _ _).alloc (Nat.le_refl _) _
      have k1 : Below W2.heap.size W2 X1 := k0.trans (hb1.mono k0.size)
      have R1 : Blk X1 gR 25 #[.int .i64 1, .string ⟨#[]⟩, .string ⟨#[]⟩, .int .i64 0, .slice none 0 0] := by rw [← hX1, ← hgR0]; exact Blk.new _ _ _
      rw [hX1, hgR0]
      clear hX1 hgR0
      refine hK.out _ _ k1 (fun _ => ?_)
      refine wpAnyH_ready (rs := [0, 5]) (by kernel_rfl) (by simp) (AllReadyH.cons rfl (fun KK hK => ?_) (AllReadyH.cons rfl (fun KK hK => ?_) AllReadyH.nil))
      · go_simp
        refine (param_any 0 ⟨#[80]⟩ _).mono ?_
        rintro e X2 ⟨rfl, hb2⟩
        have k2 : Below W2.heap.size W2 X2 := k1.trans (hb2.mono k1.size)
        have R2 : Blk X2 gR 25 #[.int .i64 1, .string ⟨#[]⟩, .string ⟨#[]⟩, .int .i64 0, .slice none 0 0] := (hb2.block _ R1.lt).trans R1
        refine hK.out _ _ k2 (fun _ => ?_)
        refine wpAnyH_ready (rs := [1, 5]) (by kernel_rfl) (by simp) (AllReadyH.cons rfl (fun KK hK => ?_) (AllReadyH.cons rfl (fun KK hK => ?_) AllReadyH.nil))
        · go_simp
          refine (list_any (GY.mk 6 ⟨#[]⟩ ⟨#[80]⟩ 0 []) _ _ (isY_plain _ _ _ _ _)).mono ?_
          rintro e X3 ⟨u1, rfl, Lp3, hb3⟩
          have k3 : Below W2.heap.size W2 X3 := k2.trans (hb3.mono k2.size)
          have R3 : Blk X3 gR 25 #[.int .i64 1, .string ⟨#[]⟩, .string ⟨#[]⟩, .int .i64 0, .slice none 0 0] := (hb3.block _ R2.lt).trans R2
          refine hK.out _ _ k3 (fun _ => ?_)
          refine wpAnyH_ready (rs := [4, 5]) (by kernel_rfl) (by simp) (AllReadyH.cons rfl (fun KK hK => ?_) (AllReadyH.cons rfl (fun KK hK => ?_) AllReadyH.nil))
          · go_simp
            refine (substP_any 100 (by decide) [(GY.mk 1 ⟨#[]⟩ ⟨#[]⟩ 0 [])] (some ⟨gR, 0, none⟩) 1 1 rfl fit_num (GY.mk 5 ⟨#[]⟩ ⟨#[]⟩ 0 [(GY.mk 6 ⟨#[]⟩ ⟨#[80]⟩ 0 [])]) u1 _ fit_lp Lp3 (row_num R3)).mono ?_
            rintro e X4 ⟨u4, rfl, hu4, hb4⟩
            obtain ⟨b0, b1, b2, b3, b4, rfl, ho⟩ := hu4.cells
            have U4 : IsY X4 (GY.mk 5 ⟨#[]⟩ ⟨#[]⟩ 0 [(GY.mk 1 ⟨#[]⟩ ⟨#[]⟩ 0 [])]) (.agg #[b0, b1, b2, b3, b4]) := by have := hu4.toY; rw [sub_lp] at this; exact this
            have k4 : Below W2.heap.size W2 X4 := k3.trans (hb4.mono k3.size)
            have Lp4 := Lp3.below hb4
            have R4 : Blk X4 gR 25 #[.int .i64 1, .string ⟨#[]⟩, .string ⟨#[]⟩, .int .i64 0, .slice none 0 0] := (hb4.block _ R3.lt).trans R3
            refine hK.out _ _ k4 (fun _ => ?_)
            refine wpAnyH_ready (rs := [5]) (by kernel_rfl) (by simp) (AllReadyH.cons rfl (fun KK hK => ?_) AllReadyH.nil)
            go_simp
            obtain ⟨X5, hX5⟩ : ∃ X, X4.alloc (.cells #[.int .i64 0, .string ⟨#[]⟩, .string ⟨#[]⟩, .int .i64 0, .slice none 0 0] 25) = X := ⟨_, rfl⟩
            obtain ⟨gA, hgA0⟩ : ∃ g, X4.heap.size = g := ⟨_, rfl⟩
            have hgA : W2.heap.size ≤ gA := by rw [← hgA0]; exact k4.size
            have hb5 : Below X4.heap.size X4 X5 := by rw [← hX5]; exact (Below.refl _ _).alloc (Nat.le_refl _) _
            have k5 : Below W2.heap.size W2 X5 := k4.trans (hb5.mono k4.size)
            have Lp5 := Lp4.below hb5
            have R5 : Blk X5 gR 25 #[.int .i64 1, .string ⟨#[]⟩, .string ⟨#[]⟩, .int .i64 0, .slice none 0 0] := (hb5.block _ R4.lt).trans R4
            have U5 := U4.below hb5
            have A5 : Blk X5 gA 25 #[.int .i64 0, .string ⟨#[]⟩, .string ⟨#[]⟩, .int .i64 0, .slice none 0 0] := by rw [← hX5, ← hgA0]; exact Blk.new _ _ _
            have V5 : IsYP (fun k => k ≠ gA) X5 (GY.mk 5 ⟨#[]⟩ ⟨#[]⟩ 0 [(GY.mk 1 ⟨#[]⟩ ⟨#[]⟩ 0 [])]) (.agg #[b0, b1, b2, b3, b4]) := ((U4.toP (Nat.le_refl _)).below hb5).keep (fun _ _ h _ => by have := h; omega) fun _ _ _ h => h
            rw [hX5, hgA0]
            clear hX5 hgA0
            refine hK.out _ _ k5 (fun _ => ?_)
            refine wpAnyH_ready (rs := [6]) (by kernel_rfl) (by simp) (AllReadyH.cons rfl (fun KK hK => ?_) AllReadyH.nil)
            refine step_store rfl 25 (.tmp 3) (.tmp 11) rfl gA #[b0, b1, b2, b3, b4] (by kernel_rfl) (by kernel_rfl) _ _ A5 (by rw [size5]; rfl) rfl (by simpa using ho) ?_
            have k6 : Below W2.heap.size W2 (X5.setRow gA #[b0, b1, b2, b3, b4]) := below_setRow k5 hgA _
            have A6 : Blk (X5.setRow gA #[b0, b1, b2, b3, b4]) gA 25 #[b0, b1, b2, b3, b4] := A5.row #[b0, b1, b2, b3, b4]
            have V6 : IsYP (fun k => k ≠ gA) (X5.setRow gA #[b0, b1, b2, b3, b4]) (GY.mk 5 ⟨#[]⟩ ⟨#[]⟩ 0 [(GY.mk 1 ⟨#[]⟩ ⟨#[]⟩ 0 [])]) (.agg #[b0, b1, b2, b3, b4]) := V5.keep (fun _ _ h _ => h) fun a u ha hc => (World.cell?_of_block (setRow_other _ gA a.block _ ha)).trans hc
            have U6 := V6.toY
            refine hK.out _ _ k6 (fun _ => ?_)
            generalize X5.setRow gA #[b0, b1, b2, b3, b4] = X6 at *
            refine wpAnyH_done (by kernel_rfl) ?_ _
            have KF := Lib.hid k6; have KA := Lib.hid A6; have KU := Lib.hid U6; have KG := Lib.hid hgA
            clear k6 A6 U6
            go_wp2_with fail
            go_meet
            exact ⟨_, _, _, _, _, _, rfl, KA.out, KU.out, KG.out, KF.out⟩
          · go_simp
            obtain ⟨X4, hX4⟩ : ∃ X, X3.alloc (.cells #[.int .i64 0, .string ⟨#[]⟩, .string ⟨#[]⟩, .int .i64 0, .slice none 0 0] 25) = X := ⟨_, rfl⟩
            obtain ⟨gA, hgA0⟩ : ∃ g, X3.heap.size = g := ⟨_, rfl⟩
            have hgA : W2.heap.size ≤ gA := by rw [← hgA0]; exact k3.size
            have hb4 : Below X3.heap.size X3 X4 := by rw [← hX4]; exact (Below.refl _ _).alloc (Nat.le_refl _) _
            have k4 : Below W2.heap.size W2 X4 := k3.trans (hb4.mono k3.size)
            have Lp4 := Lp3.below hb4
            have R4 : Blk X4 gR 25 #[.int .i64 1, .string ⟨#[]⟩, .string ⟨#[]⟩, .int .i64 0, .slice none 0 0] := (hb4.block _ R3.lt).trans R3
            have A4 : Blk X4 gA 25 #[.int .i64 0, .string ⟨#[]⟩, .string ⟨#[]⟩, .int .i64 0, .slice none 0 0] := by rw [← hX4, ← hgA0]; exact Blk.new _ _ _
            rw [hX4, hgA0]
            clear hX4 hgA0
            refine hK.out _ _ k4 (fun _ => ?_)
            refine wpAnyH_ready (rs := [4]) (by kernel_rfl) (by simp) (AllReadyH.cons rfl (fun KK hK => ?_) AllReadyH.nil)
            go_simp
            refine (substP_any 100 (by decide) [(GY.mk 1 ⟨#[]⟩ ⟨#[]⟩ 0 [])] (some ⟨gR, 0, none⟩) 1 1 rfl fit_num (GY.mk 5 ⟨#[]⟩ ⟨#[]⟩ 0 [(GY.mk 6 ⟨#[]⟩ ⟨#[80]⟩ 0 [])]) u1 _ fit_lp Lp4 (row_num R4)).mono ?_
            rintro e X5 ⟨u4, rfl, hu4, hb5⟩
            obtain ⟨b0, b1, b2, b3, b4, rfl, ho⟩ := hu4.cells
            have U5 : IsY X5 (GY.mk 5 ⟨#[]⟩ ⟨#[]⟩ 0 [(GY.mk 1 ⟨#[]⟩ ⟨#[]⟩ 0 [])]) (.agg #[b0, b1, b2, b3, b4]) := by have := hu4.toY; rw [sub_lp] at this; exact this
            have k5 : Below W2.heap.size W2 X5 := k4.trans (hb5.mono k4.size)
            have Lp5 := Lp4.below hb5
            have R5 : Blk X5 gR 25 #[.int .i64 1, .string ⟨#[]⟩, .string ⟨#[]⟩, .int .i64 0, .slice none 0 0] := (hb5.block _ R4.lt).trans R4
            have A5 : Blk X5 gA 25 #[.int .i64 0, .string ⟨#[]⟩, .string ⟨#[]⟩, .int .i64 0, .slice none 0 0] := (hb5.block _ A4.lt).trans A4
            have V5 : IsYP (fun k => k ≠ gA) X5 (GY.mk 5 ⟨#[]⟩ ⟨#[]⟩ 0 [(GY.mk 1 ⟨#[]⟩ ⟨#[]⟩ 0 [])]) (.agg #[b0, b1, b2, b3, b4]) := by have := hu4; rw [sub_lp] at this; exact this.toP fun k hk => by have := A4.lt; omega
            refine hK.out _ _ k5 (fun _ => ?_)
            refine wpAnyH_ready (rs := [6]) (by kernel_rfl) (by simp) (AllReadyH.cons rfl (fun KK hK => ?_) AllReadyH.nil)
            refine step_store rfl 25 (.tmp 3) (.tmp 11) rfl gA #[b0, b1, b2, b3, b4] (by kernel_rfl) (by kernel_rfl) _ _ A5 (by rw [size5]; rfl) rfl (by simpa using ho) ?_
            have k6 : Below W2.heap.size W2 (X5.setRow gA #[b0, b1, b2, b3, b4]) := below_setRow k5 hgA _
            have A6 : Blk (X5.setRow gA #[b0, b1, b2, b3, b4]) gA 25 #[b0, b1, b2, b3, b4] := A5.row #[b0, b1, b2, b3, b4]
            have V6 : IsYP (fun k => k ≠ gA) (X5.setRow gA #[b0, b1, b2, b3, b4]) (GY.mk 5 ⟨#[]⟩ ⟨#[]⟩ 0 [(GY.mk 1 ⟨#[]⟩ ⟨#[]⟩ 0 [])]) (.agg #[b0, b1, b2, b3, b4]) := V5.keep (fun _ _ h _ => h) fun a u ha hc => (World.cell?_of_block (setRow_other _ gA a.block _ ha)).trans hc
            have U6 := V6.toY
            refine hK.out _ _ k6 (fun _ => ?_)
            generalize X5.setRow gA #[b0, b1, b2, b3, b4] = X6 at *
            refine wpAnyH_done (by kernel_rfl) ?_ _
            have KF := Lib.hid k6; have KA := Lib.hid A6; have KU := Lib.hid U6; have KG := Lib.hid hgA
            clear k6 A6 U6
            go_wp2_with fail
            go_meet
            exact ⟨_, _, _, _, _, _, rfl, KA.out, KU.out, KG.out, KF.out⟩
        · go_simp
          obtain ⟨X3, hX3⟩ : ∃ X, X2.alloc (.cells #[.int .i64 0, .string ⟨#[]⟩, .string ⟨#[]⟩, .int .i64 0, .slice none 0 0] 25) = X := ⟨_, rfl⟩
          obtain ⟨gA, hgA0⟩ : ∃ g, X2.heap.size = g := ⟨_, rfl⟩
          have hgA : W2.heap.size ≤ gA := by rw [← hgA0]; exact k2.size
          have hb3 : Below X2.heap.size X2 X3 := by rw [← hX3]; exact (Below.refl _ _).alloc (Nat.le_refl _) _
          have k3 : Below W2.heap.size W2 X3 := k2.trans (hb3.mono k2.size)
          have R3 : Blk X3 gR 25 #[.int .i64 1, .string ⟨#[]⟩, .string ⟨#[]⟩, .int .i64 0, .slice none 0 0] := (hb3.block _ R2.lt).trans R2
          have A3 : Blk X3 gA 25 #[.int .i64 0, .string ⟨#[]⟩, .string ⟨#[]⟩, .int .i64 0, .slice none 0 0] := by rw [← hX3, ← hgA0]; exact Blk.new _ _ _
          rw [hX3, hgA0]
          clear hX3 hgA0
          refine hK.out _ _ k3 (fun _ => ?_)
          refine wpAnyH_ready (rs := [1]) (by kernel_rfl) (by simp) (AllReadyH.cons rfl (fun KK hK => ?_) AllReadyH.nil)
          go_simp
          refine (list_any (GY.mk 6 ⟨#[]⟩ ⟨#[80]⟩ 0 []) _ _ (isY_plain _ _ _ _ _)).mono ?_
          rintro e X4 ⟨u1, rfl, Lp4, hb4⟩
          have k4 : Below W2.heap.size W2 X4 := k3.trans (hb4.mono k3.size)
          have R4 : Blk X4 gR 25 #[.int .i64 1, .string ⟨#[]⟩, .string ⟨#[]⟩, .int .i64 0, .slice none 0 0] := (hb4.block _ R3.lt).trans R3
          have A4 : Blk X4 gA 25 #[.int .i64 0, .string ⟨#[]⟩, .string ⟨#[]⟩, .int .i64 0, .slice none 0 0] := (hb4.block _ A3.lt).trans A3
          refine hK.out _ _ k4 (fun _ => ?_)
          refine wpAnyH_ready (rs := [4]) (by kernel_rfl) (by simp) (AllReadyH.cons rfl (fun KK hK => ?_) AllReadyH.nil)
          go_simp
          refine (substP_any 100 (by decide) [(GY.mk 1 ⟨#[]⟩ ⟨#[]⟩ 0 [])] (some ⟨gR, 0, none⟩) 1 1 rfl fit_num (GY.mk 5 ⟨#[]⟩ ⟨#[]⟩ 0 [(GY.mk 6 ⟨#[]⟩ ⟨#[80]⟩ 0 [])]) u1 _ fit_lp Lp4 (row_num R4)).mono ?_
          rintro e X5 ⟨u4, rfl, hu4, hb5⟩
          obtain ⟨b0, b1, b2, b3, b4, rfl, ho⟩ := hu4.cells
          have U5 : IsY X5 (GY.mk 5 ⟨#[]⟩ ⟨#[]⟩ 0 [(GY.mk 1 ⟨#[]⟩ ⟨#[]⟩ 0 [])]) (.agg #[b0, b1, b2, b3, b4]) := by have := hu4.toY; rw [sub_lp] at this; exact this
          have k5 : Below W2.heap.size W2 X5 := k4.trans (hb5.mono k4.size)
          have Lp5 := Lp4.below hb5
          have R5 : Blk X5 gR 25 #[.int .i64 1, .string ⟨#[]⟩, .string ⟨#[]⟩, .int .i64 0, .slice none 0 0] := (hb5.block _ R4.lt).trans R4
          have A5 : Blk X5 gA 25 #[.int .i64 0, .string ⟨#[]⟩, .string ⟨#[]⟩, .int .i64 0, .slice none 0 0] := (hb5.block _ A4.lt).trans A4
          have V5 : IsYP (fun k => k ≠ gA) X5 (GY.mk 5 ⟨#[]⟩ ⟨#[]⟩ 0 [(GY.mk 1 ⟨#[]⟩ ⟨#[]⟩ 0 [])]) (.agg #[b0, b1, b2, b3, b4]) := by have := hu4; rw [sub_lp] at this; exact this.toP fun k hk => by have := A4.lt; omega
          refine hK.out _ _ k5 (fun _ => ?_)
          refine wpAnyH_ready (rs := [6]) (by kernel_rfl) (by simp) (AllReadyH.cons rfl (fun KK hK => ?_) AllReadyH.nil)
          refine step_store rfl 25 (.tmp 3) (.tmp 11) rfl gA #[b0, b1, b2, b3, b4] (by kernel_rfl) (by kernel_rfl) _ _ A5 (by rw [size5]; rfl) rfl (by simpa using ho) ?_
          have k6 : Below W2.heap.size W2 (X5.setRow gA #[b0, b1, b2, b3, b4]) := below_setRow k5 hgA _
          have A6 : Blk (X5.setRow gA #[b0, b1, b2, b3, b4]) gA 25 #[b0, b1, b2, b3, b4] := A5.row #[b0, b1, b2, b3, b4]
          have V6 : IsYP (fun k => k ≠ gA) (X5.setRow gA #[b0, b1, b2, b3, b4]) (GY.mk 5 ⟨#[]⟩ ⟨#[]⟩ 0 [(GY.mk 1 ⟨#[]⟩ ⟨#[]⟩ 0 [])]) (.agg #[b0, b1, b2, b3, b4]) := V5.keep (fun _ _ h _ => h) fun a u ha hc => (World.cell?_of_block (setRow_other _ gA a.block _ ha)).trans hc
          have U6 := V6.toY
          refine hK.out _ _ k6 (fun _ => ?_)
          generalize X5.setRow gA #[b0, b1, b2, b3, b4] = X6 at *
          refine wpAnyH_done (by kernel_rfl) ?_ _
          have KF := Lib.hid k6; have KA := Lib.hid A6; have KU := Lib.hid U6; have KG := Lib.hid hgA
          clear k6 A6 U6
          go_wp2_with fail
          go_meet
          exact ⟨_, _, _, _, _, _, rfl, KA.out, KU.out, KG.out, KF.out⟩
      · go_simp
        obtain ⟨X2, hX2⟩ : ∃ X, X1.alloc (.cells #[.int .i64 0, .string ⟨#[]⟩, .string ⟨#[]⟩, .int .i64 0, .slice none 0 0] 25) = X := ⟨_, rfl⟩
        obtain ⟨gA, hgA0⟩ : ∃ g, X1.heap.size = g := ⟨_, rfl⟩
        have hgA : W2.heap.size ≤ gA := by rw [← hgA0]; exact k1.size
        have hb2 : Below X1.heap.size X1 X2 := by rw [← hX2]; exact (Below.refl _ _).alloc (Nat.le_refl _) _
        have k2 : Below W2.heap.size W2 X2 := k1.trans (hb2.mono k1.size)
        have R2 : Blk X2 gR 25 #[.int .i64 1, .string ⟨#[]⟩, .string ⟨#[]⟩, .int .i64 0, .slice none 0 0] := (hb2.block _ R1.lt).trans R1
        have A2 : Blk X2 gA 25 #[.int .i64 0, .string ⟨#[]⟩, .string ⟨#[]⟩, .int .i64 0, .slice none 0 0] := by rw [← hX2, ← hgA0]; exact Blk.new _ _ _
        rw [hX2, hgA0]
        clear hX2 hgA0
        refine hK.out _ _ k2 (fun _ => ?_)
        refine wpAnyH_ready (rs := [0]) (by kernel_rfl) (by simp) (AllReadyH.cons rfl (fun KK hK => ?_) AllReadyH.nil)
        go_simp
        refine (param_any 0 ⟨#[80]⟩ _).mono ?_
        rintro e X3 ⟨rfl, hb3⟩
        have k3 : Below W2.heap.size W2 X3 := k2.trans (hb3.mono k2.size)
        have R3 : Blk X3 gR 25 #[.int .i64 1, .string ⟨#[]⟩, .string ⟨#[]⟩, .int .i64 0, .slice none 0 0] := (hb3.block _ R2.lt).trans R2
        have A3 : Blk X3 gA 25 #[.int .i64 0, .string ⟨#[]⟩, .string ⟨#[]⟩, .int .i64 0, .slice none 0 0] := (hb3.block _ A2.lt).trans A2
        refine hK.out _ _ k3 (fun _ => ?_)
        refine wpAnyH_ready (rs := [1]) (by kernel_rfl) (by simp) (AllReadyH.cons rfl (fun KK hK => ?_) AllReadyH.nil)
        go_simp
        refine (list_any (GY.mk 6 ⟨#[]⟩ ⟨#[80]⟩ 0 []) _ _ (isY_plain _ _ _ _ _)).mono ?_
        rintro e X4 ⟨u1, rfl, Lp4, hb4⟩
        have k4 : Below W2.heap.size W2 X4 := k3.trans (hb4.mono k3.size)
        have R4 : Blk X4 gR 25 #[.int .i64 1, .string ⟨#[]⟩, .string ⟨#[]⟩, .int .i64 0, .slice none 0 0] := (hb4.block _ R3.lt).trans R3
        have A4 : Blk X4 gA 25 #[.int .i64 0, .string ⟨#[]⟩, .string ⟨#[]⟩, .int .i64 0, .slice none 0 0] := (hb4.block _ A3.lt).trans A3
        refine hK.out _ _ k4 (fun _ => ?_)
        refine wpAnyH_ready (rs := [4]) (by kernel_rfl) (by simp) (AllReadyH.cons rfl (fun KK hK => ?_) AllReadyH.nil)
        go_simp
        refine (substP_any 100 (by decide) [(GY.mk 1 ⟨#[]⟩ ⟨#[]⟩ 0 [])] (some ⟨gR, 0, none⟩) 1 1 rfl fit_num (GY.mk 5 ⟨#[]⟩ ⟨#[]⟩ 0 [(GY.mk 6 ⟨#[]⟩ ⟨#[80]⟩ 0 [])]) u1 _ fit_lp Lp4 (row_num R4)).mono ?_
        rintro e X5 ⟨u4, rfl, hu4, hb5⟩
        obtain ⟨b0, b1, b2, b3, b4, rfl, ho⟩ := hu4.cells
        have U5 : IsY X5 (GY.mk 5 ⟨#[]⟩ ⟨#[]⟩ 0 [(GY.mk 1 ⟨#[]⟩ ⟨#[]⟩ 0 [])]) (.agg #[b0, b1, b2, b3, b4]) := by have := hu4.toY; rw [sub_lp] at this; exact this
        have k5 : Below W2.heap.size W2 X5 := k4.trans (hb5.mono k4.size)
        have Lp5 := Lp4.below hb5
        have R5 : Blk X5 gR 25 #[.int .i64 1, .string ⟨#[]⟩, .string ⟨#[]⟩, .int .i64 0, .slice none 0 0] := (hb5.block _ R4.lt).trans R4
        have A5 : Blk X5 gA 25 #[.int .i64 0, .string ⟨#[]⟩, .string ⟨#[]⟩, .int .i64 0, .slice none 0 0] := (hb5.block _ A4.lt).trans A4
        have V5 : IsYP (fun k => k ≠ gA) X5 (GY.mk 5 ⟨#[]⟩ ⟨#[]⟩ 0 [(GY.mk 1 ⟨#[]⟩ ⟨#[]⟩ 0 [])]) (.agg #[b0, b1, b2, b3, b4]) := by have := hu4; rw [sub_lp] at this; exact this.toP fun k hk => by have := A4.lt; omega
        refine hK.out _ _ k5 (fun _ => ?_)
        refine wpAnyH_ready (rs := [6]) (by kernel_rfl) (by simp) (AllReadyH.cons rfl (fun KK hK => ?_) AllReadyH.nil)
        refine step_store rfl 25 (.tmp 3) (.tmp 11) rfl gA #[b0, b1, b2, b3, b4] (by kernel_rfl) (by kernel_rfl) _ _ A5 (by rw [size5]; rfl) rfl (by simpa using ho) ?_
        have k6 : Below W2.heap.size W2 (X5.setRow gA #[b0, b1, b2, b3, b4]) := below_setRow k5 hgA _
        have A6 : Blk (X5.setRow gA #[b0, b1, b2, b3, b4]) gA 25 #[b0, b1, b2, b3, b4] := A5.row #[b0, b1, b2, b3, b4]
        have V6 : IsYP (fun k => k ≠ gA) (X5.setRow gA #[b0, b1, b2, b3, b4]) (GY.mk 5 ⟨#[]⟩ ⟨#[]⟩ 0 [(GY.mk 1 ⟨#[]⟩ ⟨#[]⟩ 0 [])]) (.agg #[b0, b1, b2, b3, b4]) := V5.keep (fun _ _ h _ => h) fun a u ha hc => (World.cell?_of_block (setRow_other _ gA a.block _ ha)).trans hc
        have U6 := V6.toY
        refine hK.out _ _ k6 (fun _ => ?_)
        generalize X5.setRow gA #[b0, b1, b2, b3, b4] = X6 at *
        refine wpAnyH_done (by kernel_rfl) ?_ _
        have KF := Lib.hid k6; have KA := Lib.hid A6; have KU := Lib.hid U6; have KG := Lib.hid hgA
        clear k6 A6 U6
        go_wp2_with fail
        go_meet
        exact ⟨_, _, _, _, _, _, rfl, KA.out, KU.out, KG.out, KF.out⟩
    · go_simp
      obtain ⟨X1, hX1⟩ : ∃ X, X0.alloc (.cells #[.int .i64 0, .string ⟨#[]⟩, .string ⟨#[]⟩, .int .i64 0, .slice none 0 0] 25) = X := ⟨_, rfl⟩
      obtain ⟨gA, hgA0⟩ : ∃ g, X0.heap.size = g := ⟨_, rfl⟩
      have hgA : W2.heap.size ≤ gA := by rw [← hgA0]; exact k0.size
      have hb1 : Below X0.heap.size X0 X1 := by rw [← hX1]; exact (Below.refl _ _).alloc (Nat.le_refl _) _
      have k1 : Below W2.heap.size W2 X1 := k0.trans (hb1.mono k0.size)
      have A1 : Blk X1 gA 25 #[.int .i64 0, .string ⟨#[]⟩, .string ⟨#[]⟩, .int .i64 0, .slice none 0 0] := by rw [← hX1, ← hgA0]; exact Blk.new _ _ _
      rw [hX1, hgA0]
      clear hX1 hgA0
      refine hK.out _ _ k1 (fun _ => ?_)
      refine wpAnyH_ready (rs := [0, 3]) (by kernel_rfl) (by simp) (AllReadyH.cons rfl (fun KK hK => ?_) (AllReadyH.cons rfl (fun KK hK => ?_) AllReadyH.nil))
      · go_simp
        refine (param_any 0 ⟨#[80]⟩ _).mono ?_
        rintro e X2 ⟨rfl, hb2⟩
        have k2 : Below W2.heap.size W2 X2 := k1.trans (hb2.mono k1.size)
        have A2 : Blk X2 gA 25 #[.int .i64 0, .string ⟨#[]⟩, .string ⟨#[]⟩, .int .i64 0, .slice none 0 0] := (hb2.block _ A1.lt).trans A1
        refine hK.out _ _ k2 (fun _ => ?_)
        refine wpAnyH_ready (rs := [1, 3]) (by kernel_rfl) (by simp) (AllReadyH.cons rfl (fun KK hK => ?_) (AllReadyH.cons rfl (fun KK hK => ?_) AllReadyH.nil))
        · go_simp
          refine (list_any (GY.mk 6 ⟨#[]⟩ ⟨#[80]⟩ 0 []) _ _ (isY_plain _ _ _ _ _)).mono ?_
          rintro e X3 ⟨u1, rfl, Lp3, hb3⟩
          have k3 : Below W2.heap.size W2 X3 := k2.trans (hb3.mono k2.size)
          have A3 : Blk X3 gA 25 #[.int .i64 0, .string ⟨#[]⟩, .string ⟨#[]⟩, .int .i64 0, .slice none 0 0] := (hb3.block _ A2.lt).trans A2
          refine hK.out _ _ k3 (fun _ => ?_)
          refine wpAnyH_ready (rs := [3]) (by kernel_rfl) (by simp) (AllReadyH.cons rfl (fun KK hK => ?_) AllReadyH.nil)
          go_simp
          obtain ⟨X4, hX4⟩ : ∃ X, X3.alloc (.cells #[.int .i64 1, .string ⟨#[]⟩, .string ⟨#[]⟩, .int .i64 0, .slice none 0 0] 25) = X := ⟨_, rfl⟩
          obtain ⟨gR, hgR0⟩ : ∃ g, X3.heap.size = g := ⟨_, rfl⟩
          have hgR : W2.heap.size ≤ gR := by rw [← hgR0]; exact k3.size
          have hb4 : Below X3.heap.size X3 X4 := by rw [← hX4]; exact (Below.refl _ _).alloc (Nat.le_refl _) _
          have k4 : Below W2.heap.size W2 X4 := k3.trans (hb4.mono k3.size)
          have Lp4 := Lp3.below hb4
          have A4 : Blk X4 gA 25 #[.int .i64 0, .string ⟨#[]⟩, .string ⟨#[]⟩, .int .i64 0, .slice none 0 0] := (hb4.block _ A3.lt).trans A3
          have R4 : Blk X4 gR 25 #[.int .i64 1, .string ⟨#[]⟩, .string ⟨#[]⟩, .int .i64 0, .slice none 0 0] := by rw [← hX4, ← hgR0]; exact Blk.new _ _ _
          rw [hX4, hgR0]
          clear hX4 hgR0
          refine hK.out _ _ k4 (fun _ => ?_)
          refine wpAnyH_ready (rs := [4]) (by kernel_rfl) (by simp) (AllReadyH.cons rfl (fun KK hK => ?_) AllReadyH.nil)
          go_simp
          refine (substP_any 100 (by decide) [(GY.mk 1 ⟨#[]⟩ ⟨#[]⟩ 0 [])] (some ⟨gR, 0, none⟩) 1 1 rfl fit_num (GY.mk 5 ⟨#[]⟩ ⟨#[]⟩ 0 [(GY.mk 6 ⟨#[]⟩ ⟨#[80]⟩ 0 [])]) u1 _ fit_lp Lp4 (row_num R4)).mono ?_
          rintro e X5 ⟨u4, rfl, hu4, hb5⟩
          obtain ⟨b0, b1, b2, b3, b4, rfl, ho⟩ := hu4.cells
          have U5 : IsY X5 (GY.mk 5 ⟨#[]⟩ ⟨#[]⟩ 0 [(GY.mk 1 ⟨#[]⟩ ⟨#[]⟩ 0 [])]) (.agg #[b0, b1, b2, b3, b4]) := by have := hu4.toY; rw [sub_lp] at this; exact this
          have k5 : Below W2.heap.size W2 X5 := k4.trans (hb5.mono k4.size)
          have Lp5 := Lp4.below hb5
          have R5 : Blk X5 gR 25 #[.int .i64 1, .string ⟨#[]⟩, .string ⟨#[]⟩, .int .i64 0, .slice none 0 0] := (hb5.block _ R4.lt).trans R4
          have A5 : Blk X5 gA 25 #[.int .i64 0, .string ⟨#[]⟩, .string ⟨#[]⟩, .int .i64 0, .slice none 0 0] := (hb5.block _ A4.lt).trans A4
          have V5 : IsYP (fun k => k ≠ gA) X5 (GY.mk 5 ⟨#[]⟩ ⟨#[]⟩ 0 [(GY.mk 1 ⟨#[]⟩ ⟨#[]⟩ 0 [])]) (.agg #[b0, b1, b2, b3, b4]) := by have := hu4; rw [sub_lp] at this; exact this.toP fun k hk => by have := A4.lt; omega
          refine hK.out _ _ k5 (fun _ => ?_)
          refine wpAnyH_ready (rs := [6]) (by kernel_rfl) (by simp) (AllReadyH.cons rfl (fun KK hK => ?_) AllReadyH.nil)
          refine step_store rfl 25 (.tmp 3) (.tmp 11) rfl gA #[b0, b1, b2, b3, b4] (by kernel_rfl) (by kernel_rfl) _ _ A5 (by rw [size5]; rfl) rfl (by simpa using ho) ?_
          have k6 : Below W2.heap.size W2 (X5.setRow gA #[b0, b1, b2, b3, b4]) := below_setRow k5 hgA _
          have A6 : Blk (X5.setRow gA #[b0, b1, b2, b3, b4]) gA 25 #[b0, b1, b2, b3, b4] := A5.row #[b0, b1, b2, b3, b4]
          have V6 : IsYP (fun k => k ≠ gA) (X5.setRow gA #[b0, b1, b2, b3, b4]) (GY.mk 5 ⟨#[]⟩ ⟨#[]⟩ 0 [(GY.mk 1 ⟨#[]⟩ ⟨#[]⟩ 0 [])]) (.agg #[b0, b1, b2, b3, b4]) := V5.keep (fun _ _ h _ => h) fun a u ha hc => (World.cell?_of_block (setRow_other _ gA a.block _ ha)).trans hc
          have U6 := V6.toY
          refine hK.out _ _ k6 (fun _ => ?_)
          generalize X5.setRow gA #[b0, b1, b2, b3, b4] = X6 at *
          refine wpAnyH_done (by kernel_rfl) ?_ _
          have KF := Lib.hid k6; have KA := Lib.hid A6; have KU := Lib.hid U6; have KG := Lib.hid hgA
          clear k6 A6 U6
          go_wp2_with fail
          go_meet
          exact ⟨_, _, _, _, _, _, rfl, KA.out, KU.out, KG.out, KF.out⟩
        · go_simp
          obtain ⟨X3, hX3⟩ : ∃ X, X2.alloc (.cells #[.int .i64 1, .string ⟨#[]⟩, .string ⟨#[]⟩, .int .i64 0, .slice none 0 0] 25) = X := ⟨_, rfl⟩
          obtain ⟨gR, hgR0⟩ : ∃ g, X2.heap.size = g := ⟨_, rfl⟩
          have hgR : W2.heap.size ≤ gR := by rw [← hgR0]; exact k2.size
          have hb3 : Below X2.heap.size X2 X3 := by rw [← hX3]; exact (Below.refl _ _).alloc (Nat.le_refl _) _
          have k3 : Below W2.heap.size W2 X3 := k2.trans (hb3.mono k2.size)
          have A3 : Blk X3 gA 25 #[.int .i64 0, .string ⟨#[]⟩, .string ⟨#[]⟩, .int .i64 0, .slice none 0 0] := (hb3.block _ A2.lt).trans A2
          have R3 : Blk X3 gR 25 #[.int .i64 1, .string ⟨#[]⟩, .string ⟨#[]⟩, .int .i64 0, .slice none 0 0] := by rw [← hX3, ← hgR0]; exact Blk.new _ _ _
          rw [hX3, hgR0]
          clear hX3 hgR0
          refine hK.out _ _ k3 (fun _ => ?_)
          refine wpAnyH_ready (rs := [1]) (by kernel_rfl) (by simp) (AllReadyH.cons rfl (fun KK hK => ?_) AllReadyH.nil)
          go_simp
          refine (list_any (GY.mk 6 ⟨#[]⟩ ⟨#[80]⟩ 0 []) _ _ (isY_plain _ _ _ _ _)).mono ?_
          rintro e X4 ⟨u1, rfl, Lp4, hb4⟩
          have k4 : Below W2.heap.size W2 X4 := k3.trans (hb4.mono k3.size)
          have R4 : Blk X4 gR 25 #[.int .i64 1, .string ⟨#[]⟩, .string ⟨#[]⟩, .int .i64 0, .slice none 0 0] := (hb4.block _ R3.lt).trans R3
          have A4 : Blk X4 gA 25 #[.int .i64 0, .string ⟨#[]⟩, .string ⟨#[]⟩, .int .i64 0, .slice none 0 0] := (hb4.block _ A3.lt).trans A3
          refine hK.out _ _ k4 (fun _ => ?_)
          refine wpAnyH_ready (rs := [4]) (by kernel_rfl) (by simp) (AllReadyH.cons rfl (fun KK hK => ?_) AllReadyH.nil)
          go_simp
          refine (substP_any 100 (by decide) [(GY.mk 1 ⟨#[]⟩ ⟨#[]⟩ 0 [])] (some ⟨gR, 0, none⟩) 1 1 rfl fit_num (GY.mk 5 ⟨#[]⟩ ⟨#[]⟩ 0 [(GY.mk 6 ⟨#[]⟩ ⟨#[80]⟩ 0 [])]) u1 _ fit_lp Lp4 (row_num R4)).mono ?_
          rintro e X5 ⟨u4, rfl, hu4, hb5⟩
          obtain ⟨b0, b1, b2, b3, b4, rfl, ho⟩ := hu4.cells
          have U5 : IsY X5 (GY.mk 5 ⟨#[]⟩ ⟨#[]⟩ 0 [(GY.mk 1 ⟨#[]⟩ ⟨#[]⟩ 0 [])]) (.agg #[b0, b1, b2, b3, b4]) := by have := hu4.toY; rw [sub_lp] at this; exact this
          have k5 : Below W2.heap.size W2 X5 := k4.trans (hb5.mono k4.size)
          have Lp5 := Lp4.below hb5
          have R5 : Blk X5 gR 25 #[.int .i64 1, .string ⟨#[]⟩, .string ⟨#[]⟩, .int .i64 0, .slice none 0 0] := (hb5.block _ R4.lt).trans R4
          have A5 : Blk X5 gA 25 #[.int .i64 0, .string ⟨#[]⟩, .string ⟨#[]⟩, .int .i64 0, .slice none 0 0] := (hb5.block _ A4.lt).trans A4
          have V5 : IsYP (fun k => k ≠ gA) X5 (GY.mk 5 ⟨#[]⟩ ⟨#[]⟩ 0 [(GY.mk 1 ⟨#[]⟩ ⟨#[]⟩ 0 [])]) (.agg #[b0, b1, b2, b3, b4]) := by have := hu4; rw [sub_lp] at this; exact this.toP fun k hk => by have := A4.lt; omega
          refine hK.out _ _ k5 (fun _ => ?_)
          refine wpAnyH_ready (rs := [6]) (by kernel_rfl) (by simp) (AllReadyH.cons rfl (fun KK hK => ?_) AllReadyH.nil)
          refine step_store rfl 25 (.tmp 3) (.tmp 11) rfl gA #[b0, b1, b2, b3, b4] (by kernel_rfl) (by kernel_rfl) _ _ A5 (by rw [size5]; rfl) rfl (by simpa using ho) ?_
          have k6 : Below W2.heap.size W2 (X5.setRow gA #[b0, b1, b2, b3, b4]) := below_setRow k5 hgA _
          have A6 : Blk (X5.setRow gA #[b0, b1, b2, b3, b4]) gA 25 #[b0, b1, b2, b3, b4] := A5.row #[b0, b1, b2, b3, b4]
          have V6 : IsYP (fun k => k ≠ gA) (X5.setRow gA #[b0, b1, b2, b3, b4]) (GY.mk 5 ⟨#[]⟩ ⟨#[]⟩ 0 [(GY.mk 1 ⟨#[]⟩ ⟨#[]⟩ 0 [])]) (.agg #[b0, b1, b2, b3, b4]) := V5.keep (fun _ _ h _ => h) fun a u ha hc => (World.cell?_of_block (setRow_other _ gA a.block _ ha)).trans hc
          have U6 := V6.toY
          refine hK.out _ _ k6 (fun _ => ?_)
          generalize X5.setRow gA #[b0, b1, b2, b3, b4] = X6 at *
          refine wpAnyH_done (by kernel_rfl) ?_ _
          have KF := Lib.hid k6; have KA := Lib.hid A6; have KU := Lib.hid U6; have KG := Lib.hid hgA
          clear k6 A6 U6
          go_wp2_with fail
          go_meet
          exact ⟨_, _, _, _, _, _, rfl, KA.out, KU.out, KG.out, KF.out⟩
      · go_simp
        obtain ⟨X2, hX2⟩ : ∃ X, X1.alloc (.cells #[.int .i64 1, .string ⟨#[]⟩, .string ⟨#[]⟩, .int .i64 0, .slice none 0 0] 25) = X := ⟨_, rfl⟩
        obtain ⟨gR, hgR0⟩ : ∃ g, X1.heap.size = g := ⟨_, rfl⟩
        have hgR : W2.heap.size ≤ gR := by rw [← hgR0]; exact k1.size
        have hb2 : Below X1.heap.size X1 X2 := by rw [← hX2]; exact (Below.refl _ _).alloc (Nat.le_refl _) _
        have k2 : Below W2.heap.size W2 X2 := k1.trans (hb2.mono k1.size)
        have A2 : Blk X2 gA 25 #[.int .i64 0, .string ⟨#[]⟩, .string ⟨#[]⟩, .int .i64 0, .slice none 0 0] := (hb2.block _ A1.lt).trans A1
        have R2 : Blk X2 gR 25 #[.int .i64 1, .string ⟨#[]⟩, .string ⟨#[]⟩, .int .i64 0, .slice none 0 0] := by rw [← hX2, ← hgR0]; exact Blk.new _ _ _
        rw [hX2, hgR0]
        clear hX2 hgR0
        refine hK.out _ _ k2 (fun _ => ?_)
        refine wpAnyH_ready (rs := [0]) (by kernel_rfl) (by simp) (AllReadyH.cons rfl (fun KK hK => ?_) AllReadyH.nil)
        go_simp
        refine (param_any 0 ⟨#[80]⟩ _).mono ?_
        rintro e X3 ⟨rfl, hb3⟩
        have k3 : Below W2.heap.size W2 X3 := k2.trans (hb3.mono k2.size)
        have R3 : Blk X3 gR 25 #[.int .i64 1, .string ⟨#[]⟩, .string ⟨#[]⟩, .int .i64 0, .slice none 0 0] := (hb3.block _ R2.lt).trans R2
        have A3 : Blk X3 gA 25 #[.int .i64 0, .string ⟨#[]⟩, .string ⟨#[]⟩, .int .i64 0, .slice none 0 0] := (hb3.block _ A2.lt).trans A2
        refine hK.out _ _ k3 (fun _ => ?_)
        refine wpAnyH_ready (rs := [1]) (by kernel_rfl) (by simp) (AllReadyH.cons rfl (fun KK hK => ?_) AllReadyH.nil)
        go_simp
        refine (list_any (GY.mk 6 ⟨#[]⟩ ⟨#[80]⟩ 0 []) _ _ (isY_plain _ _ _ _ _)).mono ?_
        rintro e X4 ⟨u1, rfl, Lp4, hb4⟩
        have k4 : Below W2.heap.size W2 X4 := k3.trans (hb4.mono k3.size)
        have R4 : Blk X4 gR 25 #[.int .i64 1, .string ⟨#[]⟩, .string ⟨#[]⟩, .int .i64 0, .slice none 0 0] := (hb4.block _ R3.lt).trans R3
        have A4 : Blk X4 gA 25 #[.int .i64 0, .string ⟨#[]⟩, .string ⟨#[]⟩, .int .i64 0, .slice none 0 0] := (hb4.block _ A3.lt).trans A3
        refine hK.out _ _ k4 (fun _ => ?_)
        refine wpAnyH_ready (rs := [4]) (by kernel_rfl) (by simp) (AllReadyH.cons rfl (fun KK hK => ?_) AllReadyH.nil)
        go_simp
        refine (substP_any 100 (by decide) [(GY.mk 1 ⟨#[]⟩ ⟨#[]⟩ 0 [])] (some ⟨gR, 0, none⟩) 1 1 rfl fit_num (GY.mk 5 ⟨#[]⟩ ⟨#[]⟩ 0 [(GY.mk 6 ⟨#[]⟩ ⟨#[80]⟩ 0 [])]) u1 _ fit_lp Lp4 (row_num R4)).mono ?_
        rintro e X5 ⟨u4, rfl, hu4, hb5⟩
        obtain ⟨b0, b1, b2, b3, b4, rfl, ho⟩ := hu4.cells
        have U5 : IsY X5 (GY.mk 5 ⟨#[]⟩ ⟨#[]⟩ 0 [(GY.mk 1 ⟨#[]⟩ ⟨#[]⟩ 0 [])]) (.agg #[b0, b1, b2, b3, b4]) := by have := hu4.toY; rw [sub_lp] at this; exact this
        have k5 : Below W2.heap.size W2 X5 := k4.trans (hb5.mono k4.size)
        have Lp5 := Lp4.below hb5
        have R5 : Blk X5 gR 25 #[.int .i64 1, .string ⟨#[]⟩, .string ⟨#[]⟩, .int .i64 0, .slice none 0 0] := (hb5.block _ R4.lt).trans R4
        have A5 : Blk X5 gA 25 #[.int .i64 0, .string ⟨#[]⟩, .string ⟨#[]⟩, .int .i64 0, .slice none 0 0] := (hb5.block _ A4.lt).trans A4
        have V5 : IsYP (fun k => k ≠ gA) X5 (GY.mk 5 ⟨#[]⟩ ⟨#[]⟩ 0 [(GY.mk 1 ⟨#[]⟩ ⟨#[]⟩ 0 [])]) (.agg #[b0, b1, b2, b3, b4]) := by have := hu4; rw [sub_lp] at this; exact this.toP fun k hk => by have := A4.lt; omega
        refine hK.out _ _ k5 (fun _ => ?_)
        refine wpAnyH_ready (rs := [6]) (by kernel_rfl) (by simp) (AllReadyH.cons rfl (fun KK hK => ?_) AllReadyH.nil)
        refine step_store rfl 25 (.tmp 3) (.tmp 11) rfl gA #[b0, b1, b2, b3, b4] (by kernel_rfl) (by kernel_rfl) _ _ A5 (by rw [size5]; rfl) rfl (by simpa using ho) ?_
        have k6 : Below W2.heap.size W2 (X5.setRow gA #[b0, b1, b2, b3, b4]) := below_setRow k5 hgA _
        have A6 : Blk (X5.setRow gA #[b0, b1, b2, b3, b4]) gA 25 #[b0, b1, b2, b3, b4] := A5.row #[b0, b1, b2, b3, b4]
        have V6 : IsYP (fun k => k ≠ gA) (X5.setRow gA #[b0, b1, b2, b3, b4]) (GY.mk 5 ⟨#[]⟩ ⟨#[]⟩ 0 [(GY.mk 1 ⟨#[]⟩ ⟨#[]⟩ 0 [])]) (.agg #[b0, b1, b2, b3, b4]) := V5.keep (fun _ _ h _ => h) fun a u ha hc => (World.cell?_of_block (setRow_other _ gA a.block _ ha)).trans hc
        have U6 := V6.toY
        refine hK.out _ _ k6 (fun _ => ?_)
        generalize X5.setRow gA #[b0, b1, b2, b3, b4] = X6 at *
        refine wpAnyH_done (by kernel_rfl) ?_ _
        have KF := Lib.hid k6; have KA := Lib.hid A6; have KU := Lib.hid U6; have KG := Lib.hid hgA
        clear k6 A6 U6
        go_wp2_with fail
        go_meet
        exact ⟨_, _, _, _, _, _, rfl, KA.out, KU.out, KG.out, KF.out⟩
  case rest =>
    obtain ⟨g, c0, c1, c2, c3, c4, rfl, hbg, hs, hg, hbw⟩ := hcut
    have hA : AwM w wc g c0 c1 c2 c3 c4 := ⟨(hbw.block _ HBX.out.one.lt).trans HBX.out.one, (hbw.block _ HBX.out.two.lt).trans HBX.out.two, hbg, hs, HBX.out.below.trans (hbw.mono HBX.out.below.size)⟩
    have HA := Lib.hid hA
    clear hbg hs hg hbw hA HBX HW2
    go_wp2_with (first
      | (go_at_call 27; with_reducible refine (param_any 3 ⟨#[80]⟩ wc).mono ?_; rintro e w1 ⟨rfl, hb⟩; have H1 := Lib.hid (HA.out.step hb); clear hb)
      | (go_at_call 26; with_reducible refine (list_any (GY.mk 6 ⟨#[]⟩ ⟨#[80]⟩ 3 []) _ w1 (isY_plain _ _ _ _ _)).mono ?_; rintro e w2 ⟨u2, rfl, hl, hb⟩; have H2 := Lib.hid (H1.out.step hb); have HL2 := Lib.hid hl; clear hl hb)
      | (go_at_call 13; with_reducible refine (params_3 u2 w2 HL2.out).mono ?_; rintro e w3 ⟨a3, c3', rfl, hz, hb⟩; have H3 := Lib.hid (H2.out.step hb); have HZ3 := Lib.hid hz; clear hz hb)
      | (refine boxLoad 25 5 size5 Try.underlying25 rfl _ rfl (w.heap.size + 1) rfl (cs := [.int .i64 4, .string ⟨#[97]⟩, .string ⟨#[84]⟩, .int .i64 0, .slice none 0 0]) H3.out.b2 rfl ?_)
      | (go_at_call 26; with_reducible refine (list_any (GY.mk 4 ⟨#[97]⟩ ⟨#[84]⟩ 0 []) _ w3 (isY_plain _ _ _ _ _)).mono ?_; rintro e w4 ⟨u4, rfl, hl, hb⟩; have H4 := Lib.hid (H3.out.step hb); have HZ4 := Lib.hid ((hb.cell (World.block_lt_of_cell? _ _ HZ3.out)).trans HZ3.out); have HL4 := Lib.hid hl; clear hl hb)
      | (go_at_call 17; with_reducible refine (text_lt u4 w4 HL4.out).mono ?_; rintro e w5 ⟨rfl, hb⟩; have H5 := Lib.hid (H4.out.step hb); have HZ5 := Lib.hid ((hb.cell (World.block_lt_of_cell? _ _ HZ4.out)).trans HZ4.out); have q0 := H5.out.b3.cell 0; have q1 := H5.out.b3.cell 1; have q2 := H5.out.b3.cell 2; have q3 := H5.out.b3.cell 3; have q4 := H5.out.b3.cell 4; simp only [List.getElem?_toArray, List.getElem?_cons_succ, List.getElem?_cons_zero] at q0 q1 q2 q3 q4; clear hb)
      | (go_at_call 17; with_reducible refine (text_ln _ w5 H5.out.s).mono ?_; rintro e w6 ⟨rfl, hb⟩; have H6 := Lib.hid (H5.out.step hb); have HZ6 := Lib.hid ((hb.cell (World.block_lt_of_cell? _ _ HZ5.out)).trans HZ5.out); clear hb q0 q1 q2 q3 q4)
      | (go_at_call 27; with_reducible refine (param_any 0 ⟨#[80]⟩ w6).mono ?_; rintro e w7 ⟨rfl, hb⟩; have H7 := Lib.hid (H6.out.step hb); have HZ7 := Lib.hid ((hb.cell (World.block_lt_of_cell? _ _ HZ6.out)).trans HZ6.out); clear hb)
      | (go_at_call 27; with_reducible refine (param_any 0 ⟨#[81]⟩ w7).mono ?_; rintro e w8 ⟨rfl, hb⟩; have H8 := Lib.hid (H7.out.step hb); have HZ8 := Lib.hid ((hb.cell (World.block_lt_of_cell? _ _ HZ7.out)).trans HZ7.out); clear hb)
      | (go_at_call 21; with_reducible refine (same_pq w8).mono ?_; rintro e w9 ⟨rfl, hb⟩; have H9 := Lib.hid (H8.out.step hb); have HZ9 := Lib.hid ((hb.cell (World.block_lt_of_cell? _ _ HZ8.out)).trans HZ8.out); have q0 := H9.out.b1.cell 0; have q1 := H9.out.b1.cell 1; have q2 := H9.out.b1.cell 2; have q3 := H9.out.b1.cell 3; have q4 := H9.out.b1.cell 4; have r0 := H9.out.b2.cell 0; have r1 := H9.out.b2.cell 1; have r2 := H9.out.b2.cell 2; have r3 := H9.out.b2.cell 3; have r4 := H9.out.b2.cell 4; simp only [List.getElem?_toArray, List.getElem?_cons_succ, List.getElem?_cons_zero] at q0 q1 q2 q3 q4 r0 r1 r2 r3 r4; clear hb)
      | (go_at_call 21; with_reducible refine (same_nt w9).mono ?_; rintro e w10 ⟨rfl, hb⟩; have H10 := Lib.hid (H9.out.step hb); have HZ10 := Lib.hid ((hb.cell (World.block_lt_of_cell? _ _ HZ9.out)).trans HZ9.out); clear q0 q1 q2 q3 q4 r0 r1 r2 r3 r4; have r0 := H10.out.b2.cell 0; have r1 := H10.out.b2.cell 1; have r2 := H10.out.b2.cell 2; have r3 := H10.out.b2.cell 3; have r4 := H10.out.b2.cell 4; simp only [List.getElem?_toArray, List.getElem?_cons_succ, List.getElem?_cons_zero] at r0 r1 r2 r3 r4; clear hb)
      | (go_at_call 15; with_reducible refine (check_t w10).mono ?_; rintro e w11 ⟨rfl, hb⟩; have H11 := Lib.hid (H10.out.step hb); have HZ11 := Lib.hid ((hb.cell (World.block_lt_of_cell? _ _ HZ10.out)).trans HZ10.out); clear hb r0 r1 r2 r3 r4)
      | (go_at_call 15; with_reducible refine (check_i w11).mono ?_; rintro e w12 ⟨rfl, hb⟩; have H12 := Lib.hid (H11.out.step hb); have hz12 := (hb.cell (World.block_lt_of_cell? _ _ HZ11.out)).trans HZ11.out; clear hb)
      | (go_at_call 19; with_reducible refine (name_x w12).mono ?_; rintro e w13 ⟨rfl, hb⟩; have H13 := Lib.hid (H12.out.step hb); clear hb)
      | (go_at_call 19; with_reducible refine (name_1 w13).mono ?_; rintro e w14 ⟨rfl, hb⟩; have H14 := Lib.hid (H13.out.step hb); clear hb))
    go_ret
    exact ⟨rfl, H14.out.below⟩

end Go.Proofs.Ytofdejoeheokjaa
