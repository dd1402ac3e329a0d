/-
  A type's methods: the program's answers. Condition: names of at most 2^47 bytes, lists of at most 2^47 bytes where methods are copied.
-/
import Derived.Test.YtmnhilgifjaocaaSda
import Derived.Test.YtmnhilgifjaocaaScb
namespace Go.Proofs.Ytmnhilgifjaocaa
open Go.RowKit
open Go.Lib hiding intOf

theorem sizeS : (Try.prog.info? 27).map (·.size) = some 5 := by kernel_rfl
theorem wpAnyH_done' {P : Program} {ops : Array Oper} {Q : Exit → Act → World → Prop} {md : Region.Mode} {S : World → Prop} {listed : Array Bool} {a : Act} {w : World} {fuel : Nat} (hr : Region.ready md ops listed = []) (b : Act) (hb : a = b) (h : Q .normal b w) : wpAnyH P md ops Q S fuel listed a w := by
  subst hb; exact wpAnyH_done hr h _
theorem blk_add0 {W : World} {g : Nat} {t : TypeId} {cs : List Value} (h : Blk W g t cs.toArray) : ∀ (j : Nat) (v : Value), cs[j]? = some v → W.cell? ((⟨g, 0, none⟩ : Addr).add j) = some v := fun j v hv => by
  have e : (⟨g, 0, none⟩ : Addr).add j = ⟨g, j, none⟩ := by unfold Addr.add; split <;> simp_all
  rw [e, h.cell]
  simpa using hv

set_option maxRecDepth 100000 in
set_option maxHeartbeats 8000000 in
theorem methP_any (s : SCP) (t : GY) (c : List Value) (v : Value) (w0 w : World) (h : IsSc w0 s c) (ht : IsY w0 t v) (h0 : Below w0.heap.size w0 w) :
    Calls Try.prog 42 #[.agg c.toArray, v] w fun e w' => ∃ u, e = .returned u ∧ IsMs w0 (methS s t) u ∧ Below w.heap.size w w' := by
  have HF := Lib.hid (fun (x : GY) (u : Value) (hx : IsY w0 x u) W (hb : Below w.heap.size w W) => declP_any s x c u w0 W h hx (old_step h0 hb))
  have HI := Lib.hid (fun (x : GY) (u : Value) (hx : IsY w0 x u) W (hb : Below w.heap.size w W) => ifaceP_any s x c u w0 W h hx (old_step h0 hb))
  have HTY := Lib.hid ht
  have H0 := Lib.hid h0
  obtain ⟨o, o1, o2, o3, o4, k, n1, k1, n2, k2, k3, n4, k4, rfl, _, _, hl3, hk3, _, hbs, _⟩ := h
  have hq : s.bounds.length ≤ 9223372036854775807 := by unfold maxLen at hk3; omega
  have HBS := Lib.hid hbs
  obtain ⟨tk, tp, tm, tn, ta⟩ := t
  have HM : Hid (methS s (.mk tk tp tm tn ta) = if tk = 6 then if tn < 0 ∨ (s.bounds.length : Int) ≤ tn then [] else if ifaceS s.W (s.bounds.getD tn.toNat zeroY) then methD s.W (s.bounds.getD tn.toNat zeroY) else [] else methD s.W (.mk tk tp tm tn ta)) := rfl
  obtain ⟨o5, k5, rfl, _⟩ := ht.parts
  generalize methS s (.mk tk tp tm tn ta) = M at *
  generalize s.W.length = nW at *
  generalize ta.length = na at *
  obtain ⟨N, hN⟩ : ∃ N, N = s.bounds.length := ⟨_, rfl⟩
  rw [← hN] at hq HM HF HI
  rw [← hN]
  have HN := Lib.hid hN
  obtain ⟨W2, hW2, HBX⟩ := bx2 w #[.slice o nW k, .slice o1 n1 k1, .slice o2 n2 k2, .slice o3 N k3, .slice o4 n4 k4] #[.int .i64 tk, .string tp, .string tm, .int .i64 tn, .slice o5 na k5] 27 29
  have hb1 := HBX.out.2.1
  rw [← hW2] at hb1
  have HB1 := Lib.hid hb1
  have HW2 := Lib.hid hW2
  clear ht h0 hb1 hW2 hN hl3 hk3 hbs
  by_cases hk : tk = 6
  · have HM1 := Lib.hid (HM.out.trans (if_pos hk))
    subst hk
    clear HM
    by_cases hn : tn < 0 ∨ (N : Int) ≤ tn
    · have HM2 := Lib.hid (HM1.out.trans (if_pos hn))
      clear HM1 HF HI
      rcases hn with hn | hn
      · have hnd := decide_eq_true hn
        go_enter Try.func42, Try.ntmps42
        go_wp2_with fail
        rw [HW2.out]
        have hS0 : (fun w' : World => Below W2.heap.size W2 w') W2.drew := (Below.refl _ _).drew
        refine wp_region_held_drew (S := (fun w' : World => Below W2.heap.size W2 w')) (by kernel_rfl) hS0 fun hS0 => ?_
        refine wpAnyH_take (i := 0) (v := .pointer (some ⟨w.heap.size + 1, 3, none⟩)) rfl (by kernel_rfl) (by kernel_rfl) (by kernel_rfl) (fun _ _ _ h => h) (Or.inl ⟨by kernel_rfl, fun w' hw' => ?_⟩) hS0 ?_
        · kernel_rfl
        refine wpAnyH_take (i := 1) (v := .int .i64 tn) rfl (by kernel_rfl) (by kernel_rfl) (by kernel_rfl) (fun _ _ _ h => h) (Or.inl ⟨by kernel_rfl, fun w' hw' => ?_⟩) hS0 ?_
        · have h3 : w'.cell? ⟨w.heap.size + 1, 3, none⟩ = some (.int .i64 tn) := (HBX.out.at_ hw' 1 rfl).cell 3
          go_simp
        refine wpAnyH_take (i := 2) (v := .bool true) rfl (by kernel_rfl) (by kernel_rfl) (by kernel_rfl) (fun _ _ _ h => h) (Or.inl ⟨by kernel_rfl, fun w' hw' => ?_⟩) hS0 ?_
        · go_simp
        refine wpAnyH_take (i := 3) (v := .bool true) rfl (by kernel_rfl) (by kernel_rfl) (by kernel_rfl) (fun _ _ _ h => h) (Or.inl ⟨by kernel_rfl, fun w' hw' => ?_⟩) hS0 ?_
        · kernel_rfl
        refine wpAnyH_take (i := 4) (v := undef) rfl (by kernel_rfl) (by kernel_rfl) (by kernel_rfl) (fun _ _ _ h => h) (Or.inr ⟨by kernel_rfl, by kernel_rfl⟩) hS0 ?_
        refine wpAnyH_take (i := 5) (v := undef) rfl (by kernel_rfl) (by kernel_rfl) (by kernel_rfl) (fun _ _ _ h => h) (Or.inr ⟨by kernel_rfl, by kernel_rfl⟩) hS0 ?_
        refine wpAnyH_take (i := 6) (v := undef) rfl (by kernel_rfl) (by kernel_rfl) (by kernel_rfl) (fun _ _ _ h => h) (Or.inr ⟨by kernel_rfl, by kernel_rfl⟩) hS0 ?_
        refine wpAnyH_take (i := 7) (v := undef) rfl (by kernel_rfl) (by kernel_rfl) (by kernel_rfl) (fun _ _ _ h => h) (Or.inr ⟨by kernel_rfl, by kernel_rfl⟩) hS0 ?_
        refine wpAnyH_take (i := 8) (v := undef) rfl (by kernel_rfl) (by kernel_rfl) (by kernel_rfl) (fun _ _ _ h => h) (Or.inr ⟨by kernel_rfl, by kernel_rfl⟩) hS0 ?_
        refine wpAnyH_take (i := 9) (v := undef) rfl (by kernel_rfl) (by kernel_rfl) (by kernel_rfl) (fun _ _ _ h => h) (Or.inr ⟨by kernel_rfl, by kernel_rfl⟩) hS0 ?_
        refine wpAnyH_take (i := 10) (v := .bool true) rfl (by kernel_rfl) (by kernel_rfl) (by kernel_rfl) (fun _ _ _ h => h) (Or.inl ⟨by kernel_rfl, fun w' hw' => ?_⟩) hS0 ?_
        · kernel_rfl
        refine wpAnyH_take (i := 11) (v := .bool true) rfl (by kernel_rfl) (by kernel_rfl) (by kernel_rfl) (fun _ _ _ h => h) (Or.inl ⟨by kernel_rfl, fun w' hw' => ?_⟩) hS0 ?_
        · kernel_rfl
        refine wpAnyH_take (i := 12) (v := undef) rfl (by kernel_rfl) (by kernel_rfl) (by kernel_rfl) (fun _ _ _ h => h) (Or.inr ⟨by kernel_rfl, by kernel_rfl⟩) hS0 ?_
        refine wpAnyH_take (i := 13) (v := undef) rfl (by kernel_rfl) (by kernel_rfl) (by kernel_rfl) (fun _ _ _ h => h) (Or.inr ⟨by kernel_rfl, by kernel_rfl⟩) hS0 ?_
        refine wpAnyH_take (i := 14) (v := undef) rfl (by kernel_rfl) (by kernel_rfl) (by kernel_rfl) (fun _ _ _ h => h) (Or.inr ⟨by kernel_rfl, by kernel_rfl⟩) hS0 ?_
        refine wpAnyH_take (i := 15) (v := undef) rfl (by kernel_rfl) (by kernel_rfl) (by kernel_rfl) (fun _ _ _ h => h) (Or.inr ⟨by kernel_rfl, by kernel_rfl⟩) hS0 ?_
        refine wpAnyH_take (i := 16) (v := undef) rfl (by kernel_rfl) (by kernel_rfl) (by kernel_rfl) (fun _ _ _ h => h) (Or.inr ⟨by kernel_rfl, by kernel_rfl⟩) hS0 ?_
        refine wpAnyH_take (i := 17) (v := undef) rfl (by kernel_rfl) (by kernel_rfl) (by kernel_rfl) (fun _ _ _ h => h) (Or.inr ⟨by kernel_rfl, by kernel_rfl⟩) hS0 ?_
        refine wpAnyH_take (i := 18) (v := undef) rfl (by kernel_rfl) (by kernel_rfl) (by kernel_rfl) (fun _ _ _ h => h) (Or.inr ⟨by kernel_rfl, by kernel_rfl⟩) hS0 ?_
        refine wpAnyH_take (i := 19) (v := undef) rfl (by kernel_rfl) (by kernel_rfl) (by kernel_rfl) (fun _ _ _ h => h) (Or.inr ⟨by kernel_rfl, by kernel_rfl⟩) hS0 ?_
        refine wpAnyH_take (i := 20) (v := undef) rfl (by kernel_rfl) (by kernel_rfl) (by kernel_rfl) (fun _ _ _ h => h) (Or.inr ⟨by kernel_rfl, by kernel_rfl⟩) hS0 ?_
        refine wpAnyH_take (i := 21) (v := .bool true) rfl (by kernel_rfl) (by kernel_rfl) (by kernel_rfl) (fun _ _ _ h => h) (Or.inl ⟨by kernel_rfl, fun w' hw' => ?_⟩) hS0 ?_
        · kernel_rfl
        refine wpAnyH_done' (by kernel_rfl) { tmps := #[.agg #[.slice o nW k, .slice o1 n1 k1, .slice o2 n2 k2, .slice o3 N k3, .slice o4 n4 k4], .agg #[.int .i64 6, .string tp, .string tm, .int .i64 tn, .slice o5 na k5], .pointer (some ⟨w.heap.size, 0, none⟩), .pointer (some ⟨w.heap.size + 1, 0, none⟩), .slice none 0 0, undef, undef, .pointer (some ⟨w.heap.size + 1, 0, none⟩), .int .i64 6, .bool true, .pointer (some ⟨w.heap.size + 1, 3, none⟩), .int .i64 tn, .bool true, .bool true, undef, undef, undef, undef, undef, undef, .bool true, .bool true, undef, undef, undef, undef, undef, undef, undef, undef, undef, .bool true, undef, undef, undef, undef, undef, undef, undef, undef, undef, undef, undef, undef, undef, undef], defers := [] } (by kernel_rfl) ?_
        have HS1 : Hid (Below w.heap.size w W2.drew) := HBX.out.below hS0
        clear hS0
        go_wp2_with fail
        go_ret
        rw [HM2.out]
        exact ⟨_, rfl, IsMs.nil, HS1.out⟩
      · have hn0 : ¬ tn < 0 := by omega
        have hnd := decide_eq_false hn0
        have hne := decide_eq_true hn
        go_enter Try.func42, Try.ntmps42
        go_wp2_with fail
        rw [HW2.out]
        have hS0 : (fun w' : World => Below W2.heap.size W2 w') W2.drew := (Below.refl _ _).drew
        refine wp_region_held_drew (S := (fun w' : World => Below W2.heap.size W2 w')) (by kernel_rfl) hS0 fun hS0 => ?_
        refine wpAnyH_take (i := 0) (v := .pointer (some ⟨w.heap.size + 1, 3, none⟩)) rfl (by kernel_rfl) (by kernel_rfl) (by kernel_rfl) (fun _ _ _ h => h) (Or.inl ⟨by kernel_rfl, fun w' hw' => ?_⟩) hS0 ?_
        · kernel_rfl
        refine wpAnyH_take (i := 1) (v := .int .i64 tn) rfl (by kernel_rfl) (by kernel_rfl) (by kernel_rfl) (fun _ _ _ h => h) (Or.inl ⟨by kernel_rfl, fun w' hw' => ?_⟩) hS0 ?_
        · have h3 : w'.cell? ⟨w.heap.size + 1, 3, none⟩ = some (.int .i64 tn) := (HBX.out.at_ hw' 1 rfl).cell 3
          go_simp
        refine wpAnyH_take (i := 2) (v := .bool false) rfl (by kernel_rfl) (by kernel_rfl) (by kernel_rfl) (fun _ _ _ h => h) (Or.inl ⟨by kernel_rfl, fun w' hw' => ?_⟩) hS0 ?_
        · go_simp
        refine wpAnyH_take (i := 3) (v := .bool false) rfl (by kernel_rfl) (by kernel_rfl) (by kernel_rfl) (fun _ _ _ h => h) (Or.inl ⟨by kernel_rfl, fun w' hw' => ?_⟩) hS0 ?_
        · kernel_rfl
        refine wpAnyH_take (i := 4) (v := .pointer (some ⟨w.heap.size + 1, 3, none⟩)) rfl (by kernel_rfl) (by kernel_rfl) (by kernel_rfl) (fun _ _ _ h => h) (Or.inl ⟨by kernel_rfl, fun w' hw' => ?_⟩) hS0 ?_
        · kernel_rfl
        refine wpAnyH_take (i := 5) (v := .int .i64 tn) rfl (by kernel_rfl) (by kernel_rfl) (by kernel_rfl) (fun _ _ _ h => h) (Or.inl ⟨by kernel_rfl, fun w' hw' => ?_⟩) hS0 ?_
        · have h3 : w'.cell? ⟨w.heap.size + 1, 3, none⟩ = some (.int .i64 tn) := (HBX.out.at_ hw' 1 rfl).cell 3
          go_simp
        refine wpAnyH_take (i := 6) (v := .pointer (some ⟨w.heap.size, 3, none⟩)) rfl (by kernel_rfl) (by kernel_rfl) (by kernel_rfl) (fun _ _ _ h => h) (Or.inl ⟨by kernel_rfl, fun w' hw' => ?_⟩) hS0 ?_
        · kernel_rfl
        refine wpAnyH_take (i := 7) (v := .slice o3 N k3) rfl (by kernel_rfl) (by kernel_rfl) (by kernel_rfl) (fun _ _ _ h => h) (Or.inl ⟨by kernel_rfl, fun w' hw' => ?_⟩) hS0 ?_
        · have h3 : w'.cell? ⟨w.heap.size, 3, none⟩ = some (.slice o3 N k3) := by have := (HBX.out.at_ hw' 0 rfl).cell 3; rwa [Nat.add_zero] at this
          go_simp
        refine wpAnyH_take (i := 8) (v := .int .i64 (N : Int)) rfl (by kernel_rfl) (by kernel_rfl) (by kernel_rfl) (fun _ _ _ h => h) (Or.inl ⟨by kernel_rfl, fun w' hw' => ?_⟩) hS0 ?_
        · kernel_rfl
        refine wpAnyH_take (i := 9) (v := .bool true) rfl (by kernel_rfl) (by kernel_rfl) (by kernel_rfl) (fun _ _ _ h => h) (Or.inl ⟨by kernel_rfl, fun w' hw' => ?_⟩) hS0 ?_
        · go_simp
        refine wpAnyH_take (i := 10) (v := .bool true) rfl (by kernel_rfl) (by kernel_rfl) (by kernel_rfl) (fun _ _ _ h => h) (Or.inl ⟨by kernel_rfl, fun w' hw' => ?_⟩) hS0 ?_
        · kernel_rfl
        refine wpAnyH_take (i := 11) (v := .bool true) rfl (by kernel_rfl) (by kernel_rfl) (by kernel_rfl) (fun _ _ _ h => h) (Or.inl ⟨by kernel_rfl, fun w' hw' => ?_⟩) hS0 ?_
        · kernel_rfl
        refine wpAnyH_take (i := 12) (v := undef) rfl (by kernel_rfl) (by kernel_rfl) (by kernel_rfl) (fun _ _ _ h => h) (Or.inr ⟨by kernel_rfl, by kernel_rfl⟩) hS0 ?_
        refine wpAnyH_take (i := 13) (v := undef) rfl (by kernel_rfl) (by kernel_rfl) (by kernel_rfl) (fun _ _ _ h => h) (Or.inr ⟨by kernel_rfl, by kernel_rfl⟩) hS0 ?_
        refine wpAnyH_take (i := 14) (v := undef) rfl (by kernel_rfl) (by kernel_rfl) (by kernel_rfl) (fun _ _ _ h => h) (Or.inr ⟨by kernel_rfl, by kernel_rfl⟩) hS0 ?_
        refine wpAnyH_take (i := 15) (v := undef) rfl (by kernel_rfl) (by kernel_rfl) (by kernel_rfl) (fun _ _ _ h => h) (Or.inr ⟨by kernel_rfl, by kernel_rfl⟩) hS0 ?_
        refine wpAnyH_take (i := 16) (v := undef) rfl (by kernel_rfl) (by kernel_rfl) (by kernel_rfl) (fun _ _ _ h => h) (Or.inr ⟨by kernel_rfl, by kernel_rfl⟩) hS0 ?_
        refine wpAnyH_take (i := 17) (v := undef) rfl (by kernel_rfl) (by kernel_rfl) (by kernel_rfl) (fun _ _ _ h => h) (Or.inr ⟨by kernel_rfl, by kernel_rfl⟩) hS0 ?_
        refine wpAnyH_take (i := 18) (v := undef) rfl (by kernel_rfl) (by kernel_rfl) (by kernel_rfl) (fun _ _ _ h => h) (Or.inr ⟨by kernel_rfl, by kernel_rfl⟩) hS0 ?_
        refine wpAnyH_take (i := 19) (v := undef) rfl (by kernel_rfl) (by kernel_rfl) (by kernel_rfl) (fun _ _ _ h => h) (Or.inr ⟨by kernel_rfl, by kernel_rfl⟩) hS0 ?_
        refine wpAnyH_take (i := 20) (v := undef) rfl (by kernel_rfl) (by kernel_rfl) (by kernel_rfl) (fun _ _ _ h => h) (Or.inr ⟨by kernel_rfl, by kernel_rfl⟩) hS0 ?_
        refine wpAnyH_take (i := 21) (v := .bool true) rfl (by kernel_rfl) (by kernel_rfl) (by kernel_rfl) (fun _ _ _ h => h) (Or.inl ⟨by kernel_rfl, fun w' hw' => ?_⟩) hS0 ?_
        · kernel_rfl
        refine wpAnyH_done' (by kernel_rfl) { tmps := #[.agg #[.slice o nW k, .slice o1 n1 k1, .slice o2 n2 k2, .slice o3 N k3, .slice o4 n4 k4], .agg #[.int .i64 6, .string tp, .string tm, .int .i64 tn, .slice o5 na k5], .pointer (some ⟨w.heap.size, 0, none⟩), .pointer (some ⟨w.heap.size + 1, 0, none⟩), .slice none 0 0, undef, undef, .pointer (some ⟨w.heap.size + 1, 0, none⟩), .int .i64 6, .bool true, .pointer (some ⟨w.heap.size + 1, 3, none⟩), .int .i64 tn, .bool false, .bool false, .pointer (some ⟨w.heap.size + 1, 3, none⟩), .int .i64 tn, .pointer (some ⟨w.heap.size, 3, none⟩), .slice o3 N k3, .int .i64 (N : Int), .bool true, .bool true, .bool true, undef, undef, undef, undef, undef, undef, undef, undef, undef, .bool true, undef, undef, undef, undef, undef, undef, undef, undef, undef, undef, undef, undef, undef, undef], defers := [] } (by kernel_rfl) ?_
        have HS1 : Hid (Below w.heap.size w W2.drew) := HBX.out.below hS0
        clear hS0
        go_wp2_with fail
        go_ret
        rw [HM2.out]
        exact ⟨_, rfl, IsMs.nil, HS1.out⟩
    · have HM2 := Lib.hid (HM1.out.trans (if_neg hn))
      obtain ⟨j, rfl⟩ : ∃ j : Nat, tn = (j : Int) := ⟨tn.toNat, by omega⟩
      have hjN : j < N := by omega
      obtain ⟨y, hy⟩ : ∃ y, s.bounds[j]? = some y := ⟨_, List.getElem?_eq_getElem (by rw [← HN.out]; exact hjN)⟩
      have HM3 : Hid (M = if ifaceS s.W y then methD s.W y else []) := by
        have e := HM2.out
        rw [Int.toNat_natCast, getD_some hy] at e
        exact e
      obtain ⟨a, d0, d1, d2, d3, d4, rfl, hc, hyy⟩ := HBS.out.at_ j hy
      have HYY := Lib.hid hyy
      obtain ⟨ya, yn, yp, yq, o6, e6, k6, hv⟩ := hyy.expl
      simp only [Value.agg.injEq, Array.mk.injEq, List.cons.injEq, and_true] at hv
      obtain ⟨rfl, rfl, rfl, rfl, rfl⟩ := hv
      rw [Nat.zero_add] at hc
      have HC := Lib.hid (fun (W : World) (hb : Below w.heap.size w W) (i : Nat) (u : Value) h => cells_below (old_step H0.out hb) _ u (hc i u h))
      have hj0 : (0 : Int) ≤ (j : Int) := by omega
      have hj1 : ¬ ((j : Int) < 0) := by omega
      have hj2 : ((j : Int) < (N : Int)) := by omega
      have hj3 : ¬ ((N : Int) ≤ (j : Int)) := by omega
      clear HM1 HM2 hn hy hc hyy
      go_enter Try.func42, Try.ntmps42
      go_wp2_with fail
      rw [HW2.out]
      have hjz : ¬ ((j : Int) < 0) := by omega
      have hjw : ¬ ((N : Int) ≤ (j : Int)) := by omega
      have hnd := decide_eq_false hjz
      have hne := decide_eq_false hjw
      have hS0 : (fun w' : World => Below W2.heap.size W2 w') W2.drew := (Below.refl _ _).drew
      refine wp_region_held_drew (S := (fun w' : World => Below W2.heap.size W2 w')) (by kernel_rfl) hS0 fun hS0 => ?_
      refine wpAnyH_take (i := 0) (v := .pointer (some ⟨w.heap.size + 1, 3, none⟩)) rfl (by kernel_rfl) (by kernel_rfl) (by kernel_rfl) (fun _ _ _ h => h) (Or.inl ⟨by kernel_rfl, fun w' hw' => ?_⟩) hS0 ?_
      · kernel_rfl
      refine wpAnyH_take (i := 1) (v := .int .i64 (j : Int)) rfl (by kernel_rfl) (by kernel_rfl) (by kernel_rfl) (fun _ _ _ h => h) (Or.inl ⟨by kernel_rfl, fun w' hw' => ?_⟩) hS0 ?_
      · have h3 : w'.cell? ⟨w.heap.size + 1, 3, none⟩ = some (.int .i64 (j : Int)) := (HBX.out.at_ hw' 1 rfl).cell 3
        go_simp
      refine wpAnyH_take (i := 2) (v := .bool false) rfl (by kernel_rfl) (by kernel_rfl) (by kernel_rfl) (fun _ _ _ h => h) (Or.inl ⟨by kernel_rfl, fun w' hw' => ?_⟩) hS0 ?_
      · go_simp
      refine wpAnyH_take (i := 3) (v := .bool false) rfl (by kernel_rfl) (by kernel_rfl) (by kernel_rfl) (fun _ _ _ h => h) (Or.inl ⟨by kernel_rfl, fun w' hw' => ?_⟩) hS0 ?_
      · kernel_rfl
      refine wpAnyH_take (i := 4) (v := .pointer (some ⟨w.heap.size + 1, 3, none⟩)) rfl (by kernel_rfl) (by kernel_rfl) (by kernel_rfl) (fun _ _ _ h => h) (Or.inl ⟨by kernel_rfl, fun w' hw' => ?_⟩) hS0 ?_
      · kernel_rfl
      refine wpAnyH_take (i := 5) (v := .int .i64 (j : Int)) rfl (by kernel_rfl) (by kernel_rfl) (by kernel_rfl) (fun _ _ _ h => h) (Or.inl ⟨by kernel_rfl, fun w' hw' => ?_⟩) hS0 ?_
      · have h3 : w'.cell? ⟨w.heap.size + 1, 3, none⟩ = some (.int .i64 (j : Int)) := (HBX.out.at_ hw' 1 rfl).cell 3
        go_simp
      refine wpAnyH_take (i := 6) (v := .pointer (some ⟨w.heap.size, 3, none⟩)) rfl (by kernel_rfl) (by kernel_rfl) (by kernel_rfl) (fun _ _ _ h => h) (Or.inl ⟨by kernel_rfl, fun w' hw' => ?_⟩) hS0 ?_
      · kernel_rfl
      refine wpAnyH_take (i := 7) (v := .slice (some a) N k3) rfl (by kernel_rfl) (by kernel_rfl) (by kernel_rfl) (fun _ _ _ h => h) (Or.inl ⟨by kernel_rfl, fun w' hw' => ?_⟩) hS0 ?_
      · have h3 : w'.cell? ⟨w.heap.size, 3, none⟩ = some (.slice (some a) N k3) := by have := (HBX.out.at_ hw' 0 rfl).cell 3; rwa [Nat.add_zero] at this
        go_simp
      refine wpAnyH_take (i := 8) (v := .int .i64 (N : Int)) rfl (by kernel_rfl) (by kernel_rfl) (by kernel_rfl) (fun _ _ _ h => h) (Or.inl ⟨by kernel_rfl, fun w' hw' => ?_⟩) hS0 ?_
      · kernel_rfl
      refine wpAnyH_take (i := 9) (v := .bool false) rfl (by kernel_rfl) (by kernel_rfl) (by kernel_rfl) (fun _ _ _ h => h) (Or.inl ⟨by kernel_rfl, fun w' hw' => ?_⟩) hS0 ?_
      · go_simp
      refine wpAnyH_take (i := 10) (v := .bool false) rfl (by kernel_rfl) (by kernel_rfl) (by kernel_rfl) (fun _ _ _ h => h) (Or.inl ⟨by kernel_rfl, fun w' hw' => ?_⟩) hS0 ?_
      · kernel_rfl
      refine wpAnyH_take (i := 11) (v := .bool false) rfl (by kernel_rfl) (by kernel_rfl) (by kernel_rfl) (fun _ _ _ h => h) (Or.inl ⟨by kernel_rfl, fun w' hw' => ?_⟩) hS0 ?_
      · kernel_rfl
      refine wpAnyH_take (i := 12) (v := .agg #[.slice o nW k, .slice o1 n1 k1, .slice o2 n2 k2, .slice (some a) N k3, .slice o4 n4 k4]) rfl (by kernel_rfl) (by kernel_rfl) (by kernel_rfl) (fun _ _ _ h => h) (Or.inl ⟨by kernel_rfl, fun w' hw' => ?_⟩) hS0 ?_
      · exact run_loadG 27 5 sizeS Try.underlying27 _ rfl ⟨w.heap.size, 0, none⟩ (by kernel_rfl) (cs := [.slice o nW k, .slice o1 n1 k1, .slice o2 n2 k2, .slice (some a) N k3, .slice o4 n4 k4]) (blk_add0 (by have := HBX.out.at_ hw' 0 rfl; rwa [Nat.add_zero] at this)) rfl
      refine wpAnyH_take (i := 13) (v := .pointer (some ⟨w.heap.size, 3, none⟩)) rfl (by kernel_rfl) (by kernel_rfl) (by kernel_rfl) (fun _ _ _ h => h) (Or.inl ⟨by kernel_rfl, fun w' hw' => ?_⟩) hS0 ?_
      · kernel_rfl
      refine wpAnyH_take (i := 14) (v := .slice (some a) N k3) rfl (by kernel_rfl) (by kernel_rfl) (by kernel_rfl) (fun _ _ _ h => h) (Or.inl ⟨by kernel_rfl, fun w' hw' => ?_⟩) hS0 ?_
      · have h3 : w'.cell? ⟨w.heap.size, 3, none⟩ = some (.slice (some a) N k3) := by have := (HBX.out.at_ hw' 0 rfl).cell 3; rwa [Nat.add_zero] at this
        go_simp
      refine wpAnyH_take (i := 15) (v := .pointer (some ⟨w.heap.size + 1, 3, none⟩)) rfl (by kernel_rfl) (by kernel_rfl) (by kernel_rfl) (fun _ _ _ h => h) (Or.inl ⟨by kernel_rfl, fun w' hw' => ?_⟩) hS0 ?_
      · kernel_rfl
      refine wpAnyH_take (i := 16) (v := .int .i64 (j : Int)) rfl (by kernel_rfl) (by kernel_rfl) (by kernel_rfl) (fun _ _ _ h => h) (Or.inl ⟨by kernel_rfl, fun w' hw' => ?_⟩) hS0 ?_
      · have h3 : w'.cell? ⟨w.heap.size + 1, 3, none⟩ = some (.int .i64 (j : Int)) := (HBX.out.at_ hw' 1 rfl).cell 3
        go_simp
      refine wpAnyH_take (i := 17) (v := .pointer (some (a.add (j * 5)))) rfl (by kernel_rfl) (by kernel_rfl) (by kernel_rfl) (fun _ _ _ h => h) (Or.inl ⟨by kernel_rfl, fun w' hw' => ?_⟩) hS0 ?_
      · go_simp
      refine wpAnyH_take (i := 18) (v := .agg #[.int .i64 ya, .string yp, .string yq, .int .i64 yn, .slice o6 e6 k6]) rfl (by kernel_rfl) (by kernel_rfl) (by kernel_rfl) (fun _ _ _ h => h) (Or.inl ⟨by kernel_rfl, fun w' hw' => ?_⟩) hS0 ?_
      · exact run_loadG 29 5 size5 Try.underlying29 _ rfl (a.add (j * 5)) (by kernel_rfl) (cs := [.int .i64 ya, .string yp, .string yq, .int .i64 yn, .slice o6 e6 k6]) (HC.out w' (HBX.out.below hw')) rfl
      refine wpAnyH_ready (rs := [19]) (by kernel_rfl) (by simp) (AllReadyH.cons rfl (fun KK hK => ?_) AllReadyH.nil)
      go_simp
      refine (HI.out _ _ HYY.out _ (HBX.out.below hS0)).mono ?_
      rintro e V ⟨rfl, hb⟩
      have hS1' : Below W2.heap.size W2 V := stepB hS0 hb (Nat.le_refl _)
      refine hK.out _ _ hS1' (fun hS1 => ?_)
      have hV2 := hS1'
      have HV := Lib.hid (HBX.out.below hS1')
      have b1 := HBX.out.at_ hV2 1 rfl
      have b0 := HBX.out.at_ hV2 0 rfl
      have c0 := b0.cell
      have c1 := b1.cell
      have f1 := b1.frozen
      rw [Nat.add_zero] at c0
      have HCV := Lib.hid (HC.out V HV.out)
      clear hb hV2 b0 b1
      cases hI : ifaceS s.W y with
      | false =>
        have HM4 : Hid (M = []) := by rw [hI] at HM3; exact HM3.out
        clear hI HM3
        refine wpAnyH_take (i := 20) (v := .bool true) rfl (by kernel_rfl) (by kernel_rfl) (by kernel_rfl) (fun _ _ _ h => h) (Or.inl ⟨by kernel_rfl, fun w' hw' => ?_⟩) hS1 ?_
        · kernel_rfl
        refine wpAnyH_take (i := 21) (v := .bool true) rfl (by kernel_rfl) (by kernel_rfl) (by kernel_rfl) (fun _ _ _ h => h) (Or.inl ⟨by kernel_rfl, fun w' hw' => ?_⟩) hS1 ?_
        · kernel_rfl
        refine wpAnyH_done' (by kernel_rfl) { tmps := #[.agg #[.slice o nW k, .slice o1 n1 k1, .slice o2 n2 k2, .slice (some a) N k3, .slice o4 n4 k4], .agg #[.int .i64 6, .string tp, .string tm, .int .i64 (j : Int), .slice o5 na k5], .pointer (some ⟨w.heap.size, 0, none⟩), .pointer (some ⟨w.heap.size + 1, 0, none⟩), .slice none 0 0, undef, undef, .pointer (some ⟨w.heap.size + 1, 0, none⟩), .int .i64 6, .bool true, .pointer (some ⟨w.heap.size + 1, 3, none⟩), .int .i64 (j : Int), .bool false, .bool false, .pointer (some ⟨w.heap.size + 1, 3, none⟩), .int .i64 (j : Int), .pointer (some ⟨w.heap.size, 3, none⟩), .slice (some a) N k3, .int .i64 (N : Int), .bool false, .bool false, .bool false, .agg #[.slice o nW k, .slice o1 n1 k1, .slice o2 n2 k2, .slice (some a) N k3, .slice o4 n4 k4], .pointer (some ⟨w.heap.size, 3, none⟩), .slice (some a) N k3, .pointer (some ⟨w.heap.size + 1, 3, none⟩), .int .i64 (j : Int), .pointer (some (a.add (j * 5))), .agg #[.int .i64 ya, .string yp, .string yq, .int .i64 yn, .slice o6 e6 k6], .bool false, .bool true, .bool true, undef, undef, undef, undef, undef, undef, undef, undef, undef, undef, undef, undef, undef, undef], defers := [] } (by kernel_rfl) ?_
        clear hS0 hS1 hS1' hK HC
        go_wp2
        go_ret
        rw [HM4.out]
        exact ⟨_, rfl, IsMs.nil, HV.out⟩
      | true =>
        have HM4 : Hid (M = methD s.W y) := by rw [hI] at HM3; exact HM3.out
        clear hI HM3
        refine wpAnyH_take (i := 20) (v := .bool false) rfl (by kernel_rfl) (by kernel_rfl) (by kernel_rfl) (fun _ _ _ h => h) (Or.inl ⟨by kernel_rfl, fun w' hw' => ?_⟩) hS1 ?_
        · kernel_rfl
        refine wpAnyH_take (i := 21) (v := .bool false) rfl (by kernel_rfl) (by kernel_rfl) (by kernel_rfl) (fun _ _ _ h => h) (Or.inl ⟨by kernel_rfl, fun w' hw' => ?_⟩) hS1 ?_
        · kernel_rfl
        refine wpAnyH_done' (by kernel_rfl) { tmps := #[.agg #[.slice o nW k, .slice o1 n1 k1, .slice o2 n2 k2, .slice (some a) N k3, .slice o4 n4 k4], .agg #[.int .i64 6, .string tp, .string tm, .int .i64 (j : Int), .slice o5 na k5], .pointer (some ⟨w.heap.size, 0, none⟩), .pointer (some ⟨w.heap.size + 1, 0, none⟩), .slice none 0 0, undef, undef, .pointer (some ⟨w.heap.size + 1, 0, none⟩), .int .i64 6, .bool true, .pointer (some ⟨w.heap.size + 1, 3, none⟩), .int .i64 (j : Int), .bool false, .bool false, .pointer (some ⟨w.heap.size + 1, 3, none⟩), .int .i64 (j : Int), .pointer (some ⟨w.heap.size, 3, none⟩), .slice (some a) N k3, .int .i64 (N : Int), .bool false, .bool false, .bool false, .agg #[.slice o nW k, .slice o1 n1 k1, .slice o2 n2 k2, .slice (some a) N k3, .slice o4 n4 k4], .pointer (some ⟨w.heap.size, 3, none⟩), .slice (some a) N k3, .pointer (some ⟨w.heap.size + 1, 3, none⟩), .int .i64 (j : Int), .pointer (some (a.add (j * 5))), .agg #[.int .i64 ya, .string yp, .string yq, .int .i64 yn, .slice o6 e6 k6], .bool true, .bool false, .bool false, undef, undef, undef, undef, undef, undef, undef, undef, undef, undef, undef, undef, undef, undef], defers := [] } (by kernel_rfl) ?_
        clear hS0 hS1 hS1' hK HC
        have e0 := at0 (HCV.out 0 _ rfl)
        have e1 := atS (HCV.out 1 _ rfl)
        have e2 := atS (HCV.out 2 _ rfl)
        have e3 := atS (HCV.out 3 _ rfl)
        have e4 := atS (HCV.out 4 _ rfl)
        clear HCV
        go_wp2_with fail
        have hvs := below5 (g := w.heap.size + 1) HV.out (Nat.le_succ _) (.int .i64 ya) (.string yp) (.string yq) (.int .i64 yn) (.slice o6 e6 k6)
        have HVS := Lib.hid hvs
        refine (HF.out _ _ HYY.out _ HVS.out).mono ?_
        rintro e X ⟨d, rfl, hd, hb⟩
        obtain ⟨od, oe, kd, ke, rfl, g1, g2, g3, g4, g5, g6⟩ := hd
        have HX := Lib.hid (stepB HVS.out hb (Nat.le_refl _))
        have HG : Hid (IsMs w0 M (.slice oe ((findS s.W y).getD zeroD).meths.length ke)) := by
          rw [HM4.out]
          exact ⟨oe, ke, rfl, g3, g4, g6⟩
        clear hb g1 g2 g3 g4 g5 g6 hvs
        go_wp2
        go_ret
        exact ⟨_, rfl, HG.out, (HX.out.alloc HX.out.size _)⟩
  · have HM1 := Lib.hid (HM.out.trans (if_neg hk))
    have hkb : (tk == 6) = false := by simpa using hk
    clear HM HI
    go_enter Try.func42, Try.ntmps42
    go_wp2_with fail
    refine (HF.out _ _ HTY.out _ HB1.out).mono ?_
    rintro e V ⟨d, rfl, hd, hb⟩
    obtain ⟨od, oe, kd, ke, rfl, g1, g2, g3, g4, g5, g6⟩ := hd
    have HV := Lib.hid (stepB HB1.out hb (Nat.le_refl _))
    have HG : Hid (IsMs w0 M (.slice oe ((findS s.W (.mk tk tp tm tn ta)).getD zeroD).meths.length ke)) := by
      rw [HM1.out]
      exact ⟨oe, ke, rfl, g3, g4, g6⟩
    clear hb g1 g2 g3 g4 g5 g6
    go_wp2
    go_ret
    exact ⟨_, rfl, HG.out, (HV.out.alloc HV.out.size _)⟩
end Go.Proofs.Ytmnhilgifjaocaa
