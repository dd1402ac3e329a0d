/-
  Copies of a type, a field, a method, a declared type. Condition: names of at most 2^47 bytes, lists of at most 2^47 bytes.
-/
import Derived.Test.YtmnhilgifjaocaaSca
import Derived.Deep.RegionHeld
namespace Go.Proofs.Ytmnhilgifjaocaa
open Go.RowKit
open Go.Lib hiding intOf

theorem blk_at {W : World} {g : Nat} {t : TypeId} {cs : List Value} (h : Blk W g t cs.toArray) (off : Nat) (ds : List Value) (hd : ∀ (j : Nat) (v : Value), ds[j]? = some v → cs[off + j]? = some v) : ∀ (j : Nat) (v : Value), ds[j]? = some v → W.cell? ((⟨g, off, none⟩ : Addr).add j) = some v := fun j v hv => by
  have e : (⟨g, off, none⟩ : Addr).add j = ⟨g, off + j, none⟩ := by unfold Addr.add; split <;> simp_all
  rw [e, h.cell]
  simpa using hd j v hv
theorem IsYF.five {w : World} {B : Nat} {y : GY} {v : Value} (h : IsYF w B y v) : ∃ c0 c1 c2 c3 c4 : Value, v = .agg #[c0, c1, c2, c3, c4] ∧ IsYPc (fun k => B ≤ k) w y [c0, c1, c2, c3, c4] := by
  obtain ⟨c0, c1, c2, c3, c4, rfl, ho⟩ := h.cells
  exact ⟨c0, c1, c2, c3, c4, rfl, rfl, ho, h.toP⟩
theorem IsYPc.five {w : World} {P : Nat → Prop} {y : GY} {d : List Value} (h : IsYPc P w y d) : ∃ c0 c1 c2 c3 c4 : Value, d = [c0, c1, c2, c3, c4] := by
  obtain ⟨hl, _⟩ := h
  match d, hl with
  | [c0, c1, c2, c3, c4], _ => exact ⟨_, _, _, _, _, rfl⟩
theorem IsRowP.mono {α : Type} {n : Nat} {E : (Nat → Prop) → World → α → List Value → Prop} (hE : KeepsP E) {w w' : World} {B B' : Nat} {o : Option Addr} {xs : List α} (hn : 0 < n) (h : IsRowP n E (fun k => B ≤ k) w o xs) (hB : B' ≤ B) (hk : ∀ (a : Addr) (u : Value), B ≤ a.block → w.cell? a = some u → w'.cell? a = some u) : IsRowP n E (fun k => B' ≤ k) w' o xs :=
  IsRowP.keep hE hn (fun _ _ h _ => Nat.le_trans hB h) hk h
theorem set_far {w : World} {g : Nat} {cs : Array Value} {B : Nat} (hg : g < B) (a : Addr) (u : Value) (ha : B ≤ a.block) (h : w.cell? a = some u) : (w.setRow g cs).cell? a = some u :=
  (World.cell?_of_block (setRow_other w g a.block _ (by omega))).trans h
theorem below_cell {w w' : World} (hb : Below w.heap.size w w') (a : Addr) (u : Value) (h : w.cell? a = some u) : w'.cell? a = some u := (hb.cell (World.block_lt_of_cell? _ _ h)).trans h

set_option maxRecDepth 100000 in
set_option maxHeartbeats 4000000 in
theorem copyY_any (q : Nat) (hq : q ≤ 281474976710656) (y : GY) (hf : FitY q y) : CopY y := by
  rintro c w ⟨hl, ho, hy⟩
  match c, hl with
  | [a0, a1, a2, a3, a4], _ =>
  obtain ⟨W2, hW2, HBX⟩ := bx2 w #[a0, a1, a2, a3, a4] #[.int .i64 0, .string noB, .string noB, .int .i64 0, .slice none 0 0] 29 29
  have HW2 := Lib.hid hW2
  have HO := Lib.hid ho
  have HB0 : Hid (Blk W2 w.heap.size 29 #[a0, a1, a2, a3, a4]) := HBX.out.2.2 0 _ rfl
  have HF := Lib.hid (subst_nil q hq y _ W2 hf (hy.below HBX.out.2.1))
  clear hW2 ho hy
  go_enter Try.func39, Try.ntmps39
  go_upto_region 1 with fail
  change Code.wp Try.prog _ _ _ ((w.alloc (.cells #[a0, a1, a2, a3, a4] 29)).alloc (.cells #[.int .i64 0, .string noB, .string noB, .int .i64 0, .slice none 0 0] 29))
  rw [HW2.out]
  go_wp2_with (first
    | (refine boxLoad 29 5 size5 Try.underlying29 rfl _ rfl w.heap.size rfl (cs := [a0, a1, a2, a3, a4]) HB0.out rfl ?_)
    | (refine HF.out.mono ?_; rintro e w5 ⟨u, rfl, hu, hb⟩; obtain ⟨b0, b1, b2, b3, b4, rfl, hu2⟩ := hu.five; have HU := Lib.hid hu2; have HB5 := Lib.hid hb; have K5 : Hid (Blk w5 (w.heap.size + 1) 29 #[.int .i64 0, .string noB, .string noB, .int .i64 0, .slice none 0 0]) := blkB (HBX.out.2.2 1 _ rfl) hb; clear hu hu2 hb)
    | (refine boxStore 29 5 size5 rfl _ _ rfl (w.heap.size + 1) rfl [b0, b1, b2, b3, b4] rfl K5.out rfl rfl HU.out.2.1 ?_))
  have hb5 : Below w.heap.size w w5 := HBX.out.below HB5.out
  have hsz := HBX.out.1
  simp only [List.length_cons, List.length_nil] at hsz
  refine bodyPost_ret (v := .agg #[b0, b1, b2, b3, b4]) ?_ rfl ⟨[b0, b1, b2, b3, b4], rfl, ?_, below_setRow hb5 (Nat.le_succ _) _⟩
  · exact boxRes 29 5 size5 Try.underlying29 Try.results39 _ (w.heap.size + 1) rfl (cs := [b0, b1, b2, b3, b4]) (K5.out.row _) rfl
  · exact keepY _ _ _ _ _ _ (fun a u h _ => by omega) (fun a u h hc => set_far (by omega) a u h hc) HU.out


set_option maxRecDepth 100000 in
set_option maxHeartbeats 4000000 in
theorem copyF_any (q : Nat) (hq : q ≤ 281474976710656) (f : ByteArray × GY) (hf : FitF q f) : CopF f := by
  rintro c w ⟨r0, r1, r2, r3, r4, rfl, hy⟩
  obtain ⟨hf1, hf2⟩ := hf
  have ho := hy.ones
  obtain ⟨W2, hW2, HBX⟩ := bx2 w #[.string f.1, r0, r1, r2, r3, r4] #[.string noB, .int .i64 0, .string noB, .string noB, .int .i64 0, .slice none 0 0] 63 63
  have HW2 := Lib.hid hW2
  have HB0 : Hid (Blk W2 w.heap.size 63 #[.string f.1, r0, r1, r2, r3, r4]) := HBX.out.2.2 0 _ rfl
  have hsz := HBX.out.1
  simp only [List.length_cons, List.length_nil] at hsz
  have HSZ := Lib.hid hsz
  clear hW2 hsz
  go_enter Try.func55, Try.ntmps55
  go_wp2_with fail
  change Code.wp Try.prog _ _ _ ((w.alloc (.cells #[.string f.1, r0, r1, r2, r3, r4] 63)).alloc (.cells #[.string noB, .int .i64 0, .string noB, .string noB, .int .i64 0, .slice none 0 0] 63))
  rw [HW2.out]
  have hS0 : (fun w' : World => Below (w.heap.size + 1) W2 w') W2.drew := (Below.refl _ _).drew
  refine wp_region_held_drew (S := (fun w' : World => Below (w.heap.size + 1) W2 w')) (by kernel_rfl) hS0 fun hS0 => ?_
  have hk0 : Below W2.heap.size W2 W2.drew := (Below.refl _ _).drew
  refine wpAnyH_take (i := 0) (v := .pointer (some ⟨w.heap.size, 0, none⟩)) rfl (by kernel_rfl) (by kernel_rfl) (by kernel_rfl) (fun _ _ _ h => h) (Or.inl ⟨by kernel_rfl, fun w' hw' => ?_⟩) hS0 ?_
  · go_simp
  refine wpAnyH_take (i := 1) (v := .string f.1) rfl (by kernel_rfl) (by kernel_rfl) (by kernel_rfl) (fun _ _ _ h => h) (Or.inl ⟨by kernel_rfl, fun w' hw' => ?_⟩) hS0 ?_
  · have h3 : w'.cell? ⟨w.heap.size, 0, none⟩ = some (.string f.1) := (show Blk w' w.heap.size 63 #[.string f.1, r0, r1, r2, r3, r4] from (hw'.block w.heap.size (Nat.lt_succ_self _)).trans HB0.out).cell 0
    go_simp
  refine wpAnyH_take (i := 3) (v := .pointer (some ⟨w.heap.size, 1, none⟩)) rfl (by kernel_rfl) (by kernel_rfl) (by kernel_rfl) (fun _ _ _ h => h) (Or.inl ⟨by kernel_rfl, fun w' hw' => ?_⟩) hS0 ?_
  · go_simp
  refine wpAnyH_take (i := 4) (v := .agg #[r0, r1, r2, r3, r4]) rfl (by kernel_rfl) (by kernel_rfl) (by kernel_rfl) (fun _ _ _ h => h) (Or.inl ⟨by kernel_rfl, fun w' hw' => ?_⟩) hS0 ?_
  · exact run_loadG 29 5 size5 Try.underlying29 _ rfl ⟨w.heap.size, 1, none⟩ (by kernel_rfl) (cs := [r0, r1, r2, r3, r4]) (blk_at (cs := [.string f.1, r0, r1, r2, r3, r4]) ((hw'.block w.heap.size (Nat.lt_succ_self _)).trans HB0.out) 1 [r0, r1, r2, r3, r4] (by intro j v hv; match j, hv with | 0, h => exact h | 1, h => exact h | 2, h => exact h | 3, h => exact h | 4, h => exact h)) rfl
  refine wpAnyH_ready (rs := [2]) (by kernel_rfl) (by simp) (AllReadyH.cons rfl (fun KK hK => ?_) AllReadyH.nil)
  go_simp
  refine (cloneS_any f.1 _ (by omega)).mono ?_
  rintro e w3 ⟨rfl, hb0⟩
  have hk1 := stepB hk0 hb0 (Nat.le_refl _)
  refine hK.out _ _ (hk1.mono (by have := HSZ.out; omega)) (fun hS1 => ?_)
  refine wpAnyH_ready (rs := [5]) (by kernel_rfl) (by simp) (AllReadyH.cons rfl (fun KK hK => ?_) AllReadyH.nil)
  go_simp
  refine (copyY_any q hq f.2 hf2 [r0, r1, r2, r3, r4] _ ⟨rfl, ho, hy.below (HBX.out.below hk1)⟩).mono ?_
  rintro e w4 ⟨d, rfl, hd, hb1⟩
  obtain ⟨b0, b1, b2, b3, b4, rfl⟩ := hd.five
  have hk2 := stepB hk1 hb1 (Nat.le_refl _)
  refine hK.out _ _ (hk2.mono (by have := HSZ.out; omega)) (fun hS2 => ?_)
  refine wpAnyH_take (i := 6) (v := .agg #[.string f.1, b0, b1, b2, b3, b4]) rfl (by kernel_rfl) (by kernel_rfl) (by kernel_rfl) (fun _ _ _ h => h) (Or.inl ⟨by kernel_rfl, fun w' hw' => ?_⟩) hS2 ?_
  · go_simp
  refine wpAnyH_ready (rs := [7]) (by kernel_rfl) (by simp) (AllReadyH.cons rfl (fun KK hK => ?_) AllReadyH.nil)
  have hB1 : Blk w4 (w.heap.size + 1) 63 #[.string noB, .int .i64 0, .string noB, .string noB, .int .i64 0, .slice none 0 0] := blkB (HBX.out.2.2 1 _ rfl) hk2
  refine wp_store_row (P := Try.prog) 63 _ _ rfl (w.heap.size + 1) #[.string f.1, b0, b1, b2, b3, b4] (by kernel_rfl) (by kernel_rfl) 63 #[.string noB, .int .i64 0, .string noB, .string noB, .int .i64 0, .slice none 0 0] hB1 (by rw [size6]; rfl) rfl (by have h := hd.2.1; simp at h; simp [h]; rfl) ?_
  refine hK.out _ _ (below_setRow hS2 (Nat.le_refl _) _) (fun hSS => ?_)
  refine wpAnyH_done (by kernel_rfl) ?_ _
  go_wp2_with fail
  have hsz := HSZ.out
  refine bodyPost_ret (v := .agg #[.string f.1, b0, b1, b2, b3, b4]) ?_ rfl ⟨[.string f.1, b0, b1, b2, b3, b4], rfl, ?_, below_setRow (HBX.out.below hk2) (Nat.le_succ _) _⟩
  · exact boxRes 63 6 size6 Try.underlying63 Try.results55 _ (w.heap.size + 1) rfl (cs := [.string f.1, b0, b1, b2, b3, b4]) (hB1.row _) rfl
  · refine ⟨b0, b1, b2, b3, b4, rfl, hd.2.2.keep (fun a u h _ => ?_) (fun a u h hc => set_far ?_ a u h hc)⟩
    · have := hk1.size; omega
    · have := hk1.size; omega


set_option maxRecDepth 100000 in
set_option maxHeartbeats 4000000 in
theorem copyM_any (q : Nat) (hq : q ≤ 140737488351232) (m : MD) (hf : FitM q m) : CopM m := by
  rintro c w ⟨o, k, r0, r1, r2, r3, r4, rfl, hlk, hkm, hp, hy⟩
  obtain ⟨hf1, hf2, hf3, hf4⟩ := hf
  have ho := hy.ones
  have HP : ∀ x ∈ m.params, CopY x := fun x hx => copyY_any q (by omega) x (FitYs.mem hf2 x hx)
  obtain ⟨W2, hW2, HBX⟩ := bx2 w #[.string m.name, .slice o m.params.length k, r0, r1, r2, r3, r4] #[.string noB, .slice none 0 0, .int .i64 0, .string noB, .string noB, .int .i64 0, .slice none 0 0] 50 50
  have HW2 := Lib.hid hW2
  have HB0 : Hid (Blk W2 w.heap.size 50 #[.string m.name, .slice o m.params.length k, r0, r1, r2, r3, r4]) := HBX.out.2.2 0 _ rfl
  have hsz := HBX.out.1
  simp only [List.length_cons, List.length_nil] at hsz
  have HSZ := Lib.hid hsz
  clear hW2 hsz
  go_enter Try.func43, Try.ntmps43
  go_wp2_with fail
  change Code.wp Try.prog _ _ _ ((w.alloc (.cells #[.string m.name, .slice o m.params.length k, r0, r1, r2, r3, r4] 50)).alloc (.cells #[.string noB, .slice none 0 0, .int .i64 0, .string noB, .string noB, .int .i64 0, .slice none 0 0] 50))
  rw [HW2.out]
  have hS0 : (fun w' : World => Below (w.heap.size + 1) W2 w') W2.drew := (Below.refl _ _).drew
  refine wp_region_held_drew (S := (fun w' : World => Below (w.heap.size + 1) W2 w')) (by kernel_rfl) hS0 fun hS0 => ?_
  have hk0 : Below W2.heap.size W2 W2.drew := (Below.refl _ _).drew
  refine wpAnyH_take (i := 0) (v := .pointer (some ⟨w.heap.size, 0, none⟩)) rfl (by kernel_rfl) (by kernel_rfl) (by kernel_rfl) (fun _ _ _ h => h) (Or.inl ⟨by kernel_rfl, fun w' hw' => ?_⟩) hS0 ?_
  · go_simp
  refine wpAnyH_take (i := 1) (v := .string m.name) rfl (by kernel_rfl) (by kernel_rfl) (by kernel_rfl) (fun _ _ _ h => h) (Or.inl ⟨by kernel_rfl, fun w' hw' => ?_⟩) hS0 ?_
  · have h3 : w'.cell? ⟨w.heap.size, 0, none⟩ = some (.string m.name) := (show Blk w' w.heap.size 50 #[.string m.name, .slice o m.params.length k, r0, r1, r2, r3, r4] from (hw'.block w.heap.size (Nat.lt_succ_self _)).trans HB0.out).cell 0
    go_simp
  refine wpAnyH_take (i := 3) (v := .pointer (some ⟨w.heap.size, 1, none⟩)) rfl (by kernel_rfl) (by kernel_rfl) (by kernel_rfl) (fun _ _ _ h => h) (Or.inl ⟨by kernel_rfl, fun w' hw' => ?_⟩) hS0 ?_
  · go_simp
  refine wpAnyH_take (i := 4) (v := .slice o m.params.length k) rfl (by kernel_rfl) (by kernel_rfl) (by kernel_rfl) (fun _ _ _ h => h) (Or.inl ⟨by kernel_rfl, fun w' hw' => ?_⟩) hS0 ?_
  · have h3 : w'.cell? ⟨w.heap.size, 1, none⟩ = some (.slice o m.params.length k) := (show Blk w' w.heap.size 50 #[.string m.name, .slice o m.params.length k, r0, r1, r2, r3, r4] from (hw'.block w.heap.size (Nat.lt_succ_self _)).trans HB0.out).cell 1
    go_simp
  refine wpAnyH_take (i := 6) (v := .pointer (some ⟨w.heap.size, 2, none⟩)) rfl (by kernel_rfl) (by kernel_rfl) (by kernel_rfl) (fun _ _ _ h => h) (Or.inl ⟨by kernel_rfl, fun w' hw' => ?_⟩) hS0 ?_
  · go_simp
  refine wpAnyH_take (i := 7) (v := .agg #[r0, r1, r2, r3, r4]) rfl (by kernel_rfl) (by kernel_rfl) (by kernel_rfl) (fun _ _ _ h => h) (Or.inl ⟨by kernel_rfl, fun w' hw' => ?_⟩) hS0 ?_
  · exact run_loadG 29 5 size5 Try.underlying29 _ rfl ⟨w.heap.size, 2, none⟩ (by kernel_rfl) (cs := [r0, r1, r2, r3, r4]) (blk_at (cs := [.string m.name, .slice o m.params.length k, r0, r1, r2, r3, r4]) ((hw'.block w.heap.size (Nat.lt_succ_self _)).trans HB0.out) 2 [r0, r1, r2, r3, r4] (by intro j v hv; match j, hv with | 0, h => exact h | 1, h => exact h | 2, h => exact h | 3, h => exact h | 4, h => exact h)) rfl
  refine wpAnyH_ready (rs := [2]) (by kernel_rfl) (by simp) (AllReadyH.cons rfl (fun KK hK => ?_) AllReadyH.nil)
  go_simp
  refine (cloneS_any m.name _ (by omega)).mono ?_
  rintro e w3 ⟨rfl, hb0⟩
  have hk1 := stepB hk0 hb0 (Nat.le_refl _)
  refine hK.out _ _ (hk1.mono (by have := HSZ.out; omega)) (fun hS1 => ?_)
  refine wpAnyH_ready (rs := [5]) (by kernel_rfl) (by simp) (AllReadyH.cons rfl (fun KK hK => ?_) AllReadyH.nil)
  go_simp
  refine (eachY_any m.params o m.params.length k _ rfl (by omega) (hp.below (HBX.out.below hk1)).toR HP).mono ?_
  rintro e w4 ⟨o9, c9, rfl, hd9, hb1⟩
  have hk2 := stepB hk1 hb1 (Nat.le_refl _)
  refine hK.out _ _ (hk2.mono (by have := HSZ.out; omega)) (fun hS2 => ?_)
  refine wpAnyH_ready (rs := [8]) (by kernel_rfl) (by simp) (AllReadyH.cons rfl (fun KK hK => ?_) AllReadyH.nil)
  go_simp
  refine (copyY_any q (by omega) m.result hf4 [r0, r1, r2, r3, r4] _ ⟨rfl, ho, hy.below (HBX.out.below hk2)⟩).mono ?_
  rintro e w5 ⟨d, rfl, hd, hb2⟩
  obtain ⟨b0, b1, b2, b3, b4, rfl⟩ := hd.five
  have hk3 := stepB hk2 hb2 (Nat.le_refl _)
  refine hK.out _ _ (hk3.mono (by have := HSZ.out; omega)) (fun hS3 => ?_)
  refine wpAnyH_take (i := 9) (v := .agg #[.string m.name, .slice o9 m.params.length c9, b0, b1, b2, b3, b4]) rfl (by kernel_rfl) (by kernel_rfl) (by kernel_rfl) (fun _ _ _ h => h) (Or.inl ⟨by kernel_rfl, fun w' hw' => ?_⟩) hS3 ?_
  · go_simp
  refine wpAnyH_ready (rs := [10]) (by kernel_rfl) (by simp) (AllReadyH.cons rfl (fun KK hK => ?_) AllReadyH.nil)
  have hB1 : Blk w5 (w.heap.size + 1) 50 #[.string noB, .slice none 0 0, .int .i64 0, .string noB, .string noB, .int .i64 0, .slice none 0 0] := blkB (HBX.out.2.2 1 _ rfl) hk3
  refine wp_store_row (P := Try.prog) 50 _ _ rfl (w.heap.size + 1) #[.string m.name, .slice o9 m.params.length c9, b0, b1, b2, b3, b4] (by kernel_rfl) (by kernel_rfl) 50 #[.string noB, .slice none 0 0, .int .i64 0, .string noB, .string noB, .int .i64 0, .slice none 0 0] hB1 (by rw [size7]; rfl) rfl (by have h := hd.2.1; simp at h; simp [h]; exact ⟨rfl, rfl⟩) ?_
  refine hK.out _ _ (below_setRow hS3 (Nat.le_refl _) _) (fun hSS => ?_)
  refine wpAnyH_done (by kernel_rfl) ?_ _
  go_wp2_with fail
  have hsz := HSZ.out
  refine bodyPost_ret (v := .agg #[.string m.name, .slice o9 m.params.length c9, b0, b1, b2, b3, b4]) ?_ rfl ⟨[.string m.name, .slice o9 m.params.length c9, b0, b1, b2, b3, b4], rfl, ?_, below_setRow (HBX.out.below hk3) (Nat.le_succ _) _⟩
  · exact boxRes 50 7 size7 Try.underlying50 Try.results43 _ (w.heap.size + 1) rfl (cs := [.string m.name, .slice o9 m.params.length c9, b0, b1, b2, b3, b4]) (hB1.row _) rfl
  · refine ⟨o9, c9, b0, b1, b2, b3, b4, rfl, hd9.1, hd9.2.1, hd9.2.2.mono keepY (by decide) ?_ (fun a u h hc => set_far (by have := hk1.size; omega) a u h (below_cell hb2 a u hc)), hd.2.2.keep (fun a u h _ => ?_) (fun a u h hc => set_far ?_ a u h hc)⟩
    · have := hk1.size; omega
    · have := hk2.size; omega
    · have := hk2.size; omega


def CopD (x : TD) : Prop := ∀ (c : List Value) (W : World), IsTd W x c → Calls Try.prog 35 #[.agg c.toArray] W fun e W' => ∃ d, e = .returned (.agg d.toArray) ∧ IsTdP (fun k => W.heap.size ≤ k) W' x d ∧ Below W.heap.size W W'
set_option maxRecDepth 100000 in
set_option maxHeartbeats 4000000 in
theorem copyD_any (q : Nat) (hq : q ≤ 140737488351232) (t : TD) (hf : FitT q t) : CopD t := by
  rintro c w ⟨o1, o2, k1, k2, rfl, hl1, hm1, hl2, hm2, hp1, hp2⟩
  obtain ⟨hf1, hf2, hf3, hf4, hf5⟩ := hf
  have HP : ∀ x ∈ t.fields, CopF x := fun x hx => copyF_any q (by omega) x (hf2 x hx)
  have HM : ∀ x ∈ t.meths, CopM x := fun x hx => copyM_any q hq x (hf4 x hx)
  obtain ⟨W2, hW2, HBX⟩ := bx2 w #[.string t.name, .bool t.strct, .slice o1 t.fields.length k1, .slice o2 t.meths.length k2] #[.string noB, .bool false, .slice none 0 0, .slice none 0 0] 35 35
  have HW2 := Lib.hid hW2
  have HB0 : Hid (Blk W2 w.heap.size 35 #[.string t.name, .bool t.strct, .slice o1 t.fields.length k1, .slice o2 t.meths.length k2]) := HBX.out.2.2 0 _ rfl
  have hsz := HBX.out.1
  simp only [List.length_cons, List.length_nil] at hsz
  have HSZ := Lib.hid hsz
  clear hW2 hsz
  go_enter Try.func35, Try.ntmps35
  go_wp2_with fail
  change Code.wp Try.prog _ _ _ ((w.alloc (.cells #[.string t.name, .bool t.strct, .slice o1 t.fields.length k1, .slice o2 t.meths.length k2] 35)).alloc (.cells #[.string noB, .bool false, .slice none 0 0, .slice none 0 0] 35))
  rw [HW2.out]
  have hS0 : (fun w' : World => Below (w.heap.size + 1) W2 w') W2.drew := (Below.refl _ _).drew
  refine wp_region_held_drew (S := (fun w' : World => Below (w.heap.size + 1) W2 w')) (by kernel_rfl) hS0 fun hS0 => ?_
  have hk0 : Below W2.heap.size W2 W2.drew := (Below.refl _ _).drew
  refine wpAnyH_take (i := 0) (v := .pointer (some ⟨w.heap.size, 0, none⟩)) rfl (by kernel_rfl) (by kernel_rfl) (by kernel_rfl) (fun _ _ _ h => h) (Or.inl ⟨by kernel_rfl, fun w' hw' => ?_⟩) hS0 ?_
  · go_simp
  refine wpAnyH_take (i := 1) (v := .string t.name) rfl (by kernel_rfl) (by kernel_rfl) (by kernel_rfl) (fun _ _ _ h => h) (Or.inl ⟨by kernel_rfl, fun w' hw' => ?_⟩) hS0 ?_
  · have h3 : w'.cell? ⟨w.heap.size, 0, none⟩ = some (.string t.name) := (show Blk w' w.heap.size 35 #[.string t.name, .bool t.strct, .slice o1 t.fields.length k1, .slice o2 t.meths.length k2] from (hw'.block w.heap.size (Nat.lt_succ_self _)).trans HB0.out).cell 0
    go_simp
  refine wpAnyH_take (i := 3) (v := .pointer (some ⟨w.heap.size, 1, none⟩)) rfl (by kernel_rfl) (by kernel_rfl) (by kernel_rfl) (fun _ _ _ h => h) (Or.inl ⟨by kernel_rfl, fun w' hw' => ?_⟩) hS0 ?_
  · go_simp
  refine wpAnyH_take (i := 4) (v := .bool t.strct) rfl (by kernel_rfl) (by kernel_rfl) (by kernel_rfl) (fun _ _ _ h => h) (Or.inl ⟨by kernel_rfl, fun w' hw' => ?_⟩) hS0 ?_
  · have h3 : w'.cell? ⟨w.heap.size, 1, none⟩ = some (.bool t.strct) := (show Blk w' w.heap.size 35 #[.string t.name, .bool t.strct, .slice o1 t.fields.length k1, .slice o2 t.meths.length k2] from (hw'.block w.heap.size (Nat.lt_succ_self _)).trans HB0.out).cell 1
    go_simp
  refine wpAnyH_take (i := 5) (v := .pointer (some ⟨w.heap.size, 2, none⟩)) rfl (by kernel_rfl) (by kernel_rfl) (by kernel_rfl) (fun _ _ _ h => h) (Or.inl ⟨by kernel_rfl, fun w' hw' => ?_⟩) hS0 ?_
  · go_simp
  refine wpAnyH_take (i := 6) (v := .slice o1 t.fields.length k1) rfl (by kernel_rfl) (by kernel_rfl) (by kernel_rfl) (fun _ _ _ h => h) (Or.inl ⟨by kernel_rfl, fun w' hw' => ?_⟩) hS0 ?_
  · have h3 : w'.cell? ⟨w.heap.size, 2, none⟩ = some (.slice o1 t.fields.length k1) := (show Blk w' w.heap.size 35 #[.string t.name, .bool t.strct, .slice o1 t.fields.length k1, .slice o2 t.meths.length k2] from (hw'.block w.heap.size (Nat.lt_succ_self _)).trans HB0.out).cell 2
    go_simp
  refine wpAnyH_take (i := 8) (v := .pointer (some ⟨w.heap.size, 3, none⟩)) rfl (by kernel_rfl) (by kernel_rfl) (by kernel_rfl) (fun _ _ _ h => h) (Or.inl ⟨by kernel_rfl, fun w' hw' => ?_⟩) hS0 ?_
  · go_simp
  refine wpAnyH_take (i := 9) (v := .slice o2 t.meths.length k2) rfl (by kernel_rfl) (by kernel_rfl) (by kernel_rfl) (fun _ _ _ h => h) (Or.inl ⟨by kernel_rfl, fun w' hw' => ?_⟩) hS0 ?_
  · have h3 : w'.cell? ⟨w.heap.size, 3, none⟩ = some (.slice o2 t.meths.length k2) := (show Blk w' w.heap.size 35 #[.string t.name, .bool t.strct, .slice o1 t.fields.length k1, .slice o2 t.meths.length k2] from (hw'.block w.heap.size (Nat.lt_succ_self _)).trans HB0.out).cell 3
    go_simp
  refine wpAnyH_ready (rs := [2]) (by kernel_rfl) (by simp) (AllReadyH.cons rfl (fun KK hK => ?_) AllReadyH.nil)
  go_simp
  refine (cloneS_any t.name _ (by omega)).mono ?_
  rintro e w3 ⟨rfl, hb0⟩
  have hk1 := stepB hk0 hb0 (Nat.le_refl _)
  refine hK.out _ _ (hk1.mono (by have := HSZ.out; omega)) (fun hS1 => ?_)
  refine wpAnyH_ready (rs := [7]) (by kernel_rfl) (by simp) (AllReadyH.cons rfl (fun KK hK => ?_) AllReadyH.nil)
  go_simp
  refine (eachF_any t.fields o1 t.fields.length k1 _ rfl (by omega) (rowFs_below hp1 (HBX.out.below hk1)) HP).mono ?_
  rintro e w4 ⟨o9, c9, rfl, hd9, hb1⟩
  have hk2 := stepB hk1 hb1 (Nat.le_refl _)
  refine hK.out _ _ (hk2.mono (by have := HSZ.out; omega)) (fun hS2 => ?_)
  refine wpAnyH_ready (rs := [10]) (by kernel_rfl) (by simp) (AllReadyH.cons rfl (fun KK hK => ?_) AllReadyH.nil)
  go_simp
  refine (eachM_any t.meths o2 t.meths.length k2 _ rfl (by omega) (rowMs_below hp2 (HBX.out.below hk2)) HM).mono ?_
  rintro e w5 ⟨o8, c8, rfl, hd8, hb2⟩
  have hk3 := stepB hk2 hb2 (Nat.le_refl _)
  refine hK.out _ _ (hk3.mono (by have := HSZ.out; omega)) (fun hS3 => ?_)
  refine wpAnyH_take (i := 11) (v := .agg #[.string t.name, .bool t.strct, .slice o9 t.fields.length c9, .slice o8 t.meths.length c8]) rfl (by kernel_rfl) (by kernel_rfl) (by kernel_rfl) (fun _ _ _ h => h) (Or.inl ⟨by kernel_rfl, fun w' hw' => ?_⟩) hS3 ?_
  · go_simp
  refine wpAnyH_ready (rs := [12]) (by kernel_rfl) (by simp) (AllReadyH.cons rfl (fun KK hK => ?_) AllReadyH.nil)
  have hB1 : Blk w5 (w.heap.size + 1) 35 #[.string noB, .bool false, .slice none 0 0, .slice none 0 0] := blkB (HBX.out.2.2 1 _ rfl) hk3
  refine wp_store_row (P := Try.prog) 35 _ _ rfl (w.heap.size + 1) #[.string t.name, .bool t.strct, .slice o9 t.fields.length c9, .slice o8 t.meths.length c8] (by kernel_rfl) (by kernel_rfl) 35 #[.string noB, .bool false, .slice none 0 0, .slice none 0 0] hB1 (by rw [size4]; rfl) rfl (by simp; exact ⟨rfl, rfl, rfl, rfl⟩) ?_
  refine hK.out _ _ (below_setRow hS3 (Nat.le_refl _) _) (fun hSS => ?_)
  refine wpAnyH_done (by kernel_rfl) ?_ _
  go_wp2_with fail
  have hsz := HSZ.out
  refine bodyPost_ret (v := .agg #[.string t.name, .bool t.strct, .slice o9 t.fields.length c9, .slice o8 t.meths.length c8]) ?_ rfl ⟨[.string t.name, .bool t.strct, .slice o9 t.fields.length c9, .slice o8 t.meths.length c8], rfl, ?_, below_setRow (HBX.out.below hk3) (Nat.le_succ _) _⟩
  · exact boxRes 35 4 size4 Try.underlying35 Try.results35 _ (w.heap.size + 1) rfl (cs := [.string t.name, .bool t.strct, .slice o9 t.fields.length c9, .slice o8 t.meths.length c8]) (hB1.row _) rfl
  · refine ⟨o9, o8, c9, c8, rfl, hd9.1, hd9.2.1, hd8.1, hd8.2.1, hd9.2.2.mono keepF (by decide) ?_ (fun a u h hc => set_far (by have := hk1.size; omega) a u h (below_cell hb2 a u hc)), hd8.2.2.mono keepM (by decide) ?_ (fun a u h hc => set_far (by have := hk2.size; omega) a u h hc)⟩
    · have := hk1.size; omega
    · have := hk2.size; omega

end Go.Proofs.Ytmnhilgifjaocaa
