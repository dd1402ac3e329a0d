/-
  What is put in: the program's answer, one step. Condition: names of at most 2^48 bytes.
-/
import Derived.Test.YtmnhilgifjaocaaTua
import Derived.Laws.Cover3
namespace Go.Proofs.Ytmnhilgifjaocaa
open Go.RowKit
open Go.Lib hiding intOf

/-- What a call of Subst answers. -/
def SubR (us : List GY) (t : GY) (w : World) (e : Ending) (w' : World) : Prop := ∃ u, e = .returned u ∧ IsYF w' w.heap.size (subY us t) u ∧ Below w.heap.size w w'

theorem infoTT : (Try.prog.info? 29).map (fun i => (i.zero, i.size, i.bytes)) = some (some (.agg #[.int .i64 0, .string ⟨#[]⟩, .string ⟨#[]⟩, .int .i64 0, .slice none 0 0]), 5, 72) := by kernel_rfl
/-- A row of types made. -/
theorem make_ys (n : Nat) (hn : n * 72 ≤ 281474976710656) : ∃ Z : List Value, Z.length = n * 5 ∧ ∀ W : World, (Instr.makeSlice 24 (.int .i64 (n : Int)) (.int .i64 (n : Int))).run Try.prog W = .ok (.slice (some ⟨W.heap.size, 0, none⟩) n n) (W.alloc (.cells Z.toArray 29)) := by
  obtain ⟨i0, hi, hi'⟩ := Option.map_eq_some_iff.1 infoTT
  simp only [Prod.mk.injEq] at hi'
  obtain ⟨hz0, hz1, hz2⟩ := hi'
  refine ⟨(madeCells (Value.cells (.agg #[.int .i64 0, .string ⟨#[]⟩, .string ⟨#[]⟩, .int .i64 0, .slice none 0 0])) (n * 5)).toList, by rw [Array.length_toList, size_madeCells], fun W => ?_⟩
  have hr := run_make (P := Try.prog) W 24 29 i0 _ Try.underlying24 hi hz0 .i64 .i64 n n (by omega) (Int.le_refl _) (by rw [hz2]; omega) (by omega)
  simp only [Int.toNat_natCast] at hr
  rw [hr, hz1]
/-- Some have been put in. -/
structure SubL (us l : List GY) (w wc wr : World) (g N j : Nat) (A B : Array Value) : Prop where
  in2 : In2 wc wr w.heap.size A B
  ge : w.heap.size + 1 + 1 ≤ g
  row : ∃ cur : List Value, Blk wr g 29 cur.toArray ∧ cur.length = N * 5 ∧ ∀ (i : Nat) (y : GY), i < j → l[i]? = some y → ∃ c0 c1 c2 c3 c4 : Value, (∀ (e : Nat) (v : Value), [c0, c1, c2, c3, c4][e]? = some v → cur[i * 5 + e]? = some v) ∧ IsYF wr (g + 1) (subY us y) (.agg #[c0, c1, c2, c3, c4])
theorem SubL.alloc {us l : List GY} {w wc wr : World} {g N j : Nat} {A B : Array Value} (h : SubL us l w wc wr g N j A B) (hs : wc.heap.size = w.heap.size + 1 + 1) {w' : World} (hb : Below wr.heap.size wr w') : SubL us l w wc w' g N j A B := by
  refine ⟨h.in2.step hs hb, h.ge, ?_⟩
  obtain ⟨cur, h1, h2, h3⟩ := h.row
  refine ⟨cur, (hb.block g h1.lt).trans h1, h2, fun i y hi hy => ?_⟩
  obtain ⟨c0, c1, c2, c3, c4, hc, hy⟩ := h3 i y hi hy
  exact ⟨c0, c1, c2, c3, c4, hc, hy.below hb⟩
/-- One more put in. -/
theorem SubL.put {us l : List GY} {w wc wr : World} {g N j : Nat} {A B : Array Value} {x : GY} {b0 b1 b2 b3 b4 : Value} {cur : List Value} (h : SubL us l w wc wr g N j A B) (hx : l[j]? = some x) (hj : j < N) (hcur : Blk wr g 29 cur.toArray) (hu : IsYF wr (g + 1) (subY us x) (.agg #[b0, b1, b2, b3, b4])) :
    SubL us l w wc (wr.setRow g (putL cur (j * 5) [b0, b1, b2, b3, b4]).toArray) g N (j + 1) A B := by
  have hge := h.ge
  have hk : ∀ (a : Addr) (u : Value), g + 1 ≤ a.block → wr.cell? a = some u → (wr.setRow g (putL cur (j * 5) [b0, b1, b2, b3, b4]).toArray).cell? a = some u := fun a u ha hc => (World.cell?_of_block (setRow_other wr g a.block _ (by omega))).trans hc
  refine ⟨⟨below_setRow h.in2.below hge _, h.in2.one.rowFar (by omega) _, h.in2.two.rowFar (by omega) _⟩, hge, putL cur (j * 5) [b0, b1, b2, b3, b4], hcur.row _, ?_, fun i y hi hy => ?_⟩
  · obtain ⟨cur', h1, h2, _⟩ := h.row
    have : cur' = cur := by
      unfold Blk at h1 hcur
      rw [hcur] at h1
      simpa using h1.symm
    rw [putL_len, ← this, h2]
  · obtain ⟨cur', h1, h2, h3⟩ := h.row
    obtain rfl : cur' = cur := by
      unfold Blk at h1 hcur
      rw [hcur] at h1
      simpa using h1.symm
    by_cases hij : i = j
    · subst hij
      obtain rfl : x = y := by rw [hx] at hy; injection hy
      exact ⟨b0, b1, b2, b3, b4, fun e v hv => putL_in _ _ _ _ _ (by rw [h2]; simp only [List.length_cons, List.length_nil]; omega) hv, hu.keep (Nat.le_refl _) hk⟩
    · obtain ⟨c0, c1, c2, c3, c4, hc, hy⟩ := h3 i y (by omega) hy
      refine ⟨c0, c1, c2, c3, c4, fun e v hv => ?_, hy.keep (Nat.le_refl _) hk⟩
      have he : e < 5 := (List.getElem?_eq_some_iff.1 hv).1
      rw [putL_out _ _ _ _ (by left; omega)]
      exact hc e v hv
/-- All put in: the list that they make. -/
theorem SubL.done {us l : List GY} {w wc wr w' : World} {g N : Nat} {A B : Array Value} (h : SubL us l w wc wr g N N A B) (hN : l.length = N) (hk : ∀ (a : Addr) (u : Value), g ≤ a.block → wr.cell? a = some u → w'.cell? a = some u) : IsYFs w' w.heap.size (some ⟨g, 0, none⟩) 0 (subYs us l) := by
  have hge := h.ge
  obtain ⟨cur, h1, h2, h3⟩ := h.row
  refine IsYFs.mk' (by omega) fun i y hy => ?_
  rw [subs_map, List.getElem?_map] at hy
  obtain ⟨x, hx, rfl⟩ := Option.map_eq_some_iff.1 hy
  have hi : i < N := by rw [← hN]; exact (List.getElem?_eq_some_iff.1 hx).1
  obtain ⟨c0, c1, c2, c3, c4, hc, hy⟩ := h3 i x hi hx
  refine ⟨c0, c1, c2, c3, c4, fun e v hv => ?_, hy.keep (by omega) fun a u ha hcc => hk a u (by omega) hcc⟩
  refine hk ⟨g, (0 + i) * 5 + e, none⟩ v (Nat.le_refl _) ?_
  rw [h1.cell, Nat.zero_add]
  simpa using hc e v hv

set_option maxRecDepth 100000 in
set_option maxHeartbeats 8000000 in
theorem subst_step (us : List GY) (ou : Option Addr) (nu cu : Nat) (hnu : us.length = nu) (q : Nat) (hq : q ≤ 281474976710656)
    (HU : ∀ (i : Nat) (y : GY), us[i]? = some y → ∀ (v : Value) (W : World), IsY W y v → Calls Try.prog 56 #[v, .slice none 0 0] W fun e W' => ∃ u, e = .returned u ∧ IsYF W' W.heap.size y u ∧ Below W.heap.size W W') :
    ∀ (s : Nat) (t : GY) (v : Value) (w : World), SizeOf.sizeOf t < s → FitY q t → IsY w t v → IsYs w ou 0 us → Calls Try.prog 56 #[v, .slice ou nu cu] w fun e w' => SubR us t w e w' := by
  intro s
  induction s with
  | zero => intro t v w h; omega
  | succ s ih =>
  rintro ⟨k, p, m, n, l⟩ v w hs hfit hv hus
  obtain ⟨o, c, rfl, hl, hc, ha⟩ := hv.parts
  have hfit' := hfit
  unfold FitY at hfit'
  obtain ⟨hp, hm, hlq, hfl⟩ := hfit'
  obtain ⟨N, hN⟩ : ∃ N, l.length = N := ⟨_, rfl⟩
  have HI : Hid (∀ z ∈ l, ∀ (v : Value) (W : World), IsY W z v → Below w.heap.size w W → Calls Try.prog 56 #[v, .slice ou nu cu] W fun e w' => SubR us z W e w') :=
    fun z hz v W hv hb => ih z v W (by have := List.sizeOf_lt_of_mem hz; simp at hs; omega) (FitYs.mem hfl z hz) hv (hus.below hb)
  rw [hN] at hl ⊢
  have HN := Lib.hid hN
  have HX := Lib.hid ha
  have HUS := Lib.hid hus
  have HNU := Lib.hid hnu
  have hbx := box2 w #[.int .i64 k, .string p, .string m, .int .i64 n, .slice o N c] #[.int .i64 0, .string ⟨#[]⟩, .string ⟨#[]⟩, .int .i64 0, .slice none 0 0]
  obtain ⟨W2, hW2⟩ : ∃ W2, ((w.alloc (.cells #[.int .i64 k, .string p, .string m, .int .i64 n, .slice o N c] 29)).alloc (.cells #[.int .i64 0, .string ⟨#[]⟩, .string ⟨#[]⟩, .int .i64 0, .slice none 0 0] 29)) = W2 := ⟨_, rfl⟩
  rw [hW2] at hbx
  have HBX := Lib.hid hbx
  have HW2 := Lib.hid hW2
  have HUU := Lib.hid HU
  clear hv ha hus hfit hfl hs ih hN hnu hbx hW2 HU
  by_cases hin : k = 6 ∧ 0 ≤ n ∧ n < nu
  · obtain ⟨rfl, hn0, hn1⟩ := hin
    obtain ⟨i, rfl⟩ : ∃ i : Nat, n = (i : Int) := ⟨n.toNat, by omega⟩
    have hi : i < nu := by omega
    obtain ⟨y, hy⟩ : ∃ y, us[i]? = some y := ⟨_, List.getElem?_eq_getElem (by rw [HNU.out]; exact hi)⟩
    have hsub : subY us (.mk 6 p m (i : Int) l) = y := by
      rw [subY, if_pos ⟨rfl, hn0, by rw [HNU.out]; exact hn1⟩, List.getD_eq_getElem?_getD]
      simp [hy]
    obtain ⟨a, a0, a1, a2, a3, a4, rfl, hca, hya⟩ := HUS.out.at_ i hy
    rw [Nat.zero_add] at hca
    have hww : Below w.heap.size w W2 := HBX.out.below
    have HC : Hid (∀ (j : Nat) (v : Value), [a0, a1, a2, a3, a4][j]? = some v → W2.cell? ((a.add (i * 5)).add j) = some v) := fun j v h => (hww.cell (World.block_lt_of_cell? _ _ (hca j v h))).trans (hca j v h)
    have HF := Lib.hid (HUU.out i y hy _ W2 (hya.below hww))
    have HSUB := Lib.hid hsub
    have c0 : W2.cell? ⟨w.heap.size, 0, none⟩ = some (.int .i64 6) := HBX.out.one.cell 0
    have c3 : W2.cell? ⟨w.heap.size, 3, none⟩ = some (.int .i64 (i : Int)) := HBX.out.one.cell 3
    clear hca hya hww hsub hy
    go_enter Try.func56, Try.ntmps56
    go_upto_if 22 with fail
    change Code.wp Try.prog _ _ _ ((w.alloc (.cells #[.int .i64 6, .string p, .string m, .int .i64 (i : Int), .slice o N c] 29)).alloc (.cells #[.int .i64 0, .string ⟨#[]⟩, .string ⟨#[]⟩, .int .i64 0, .slice none 0 0] 29))
    rw [HW2.out]
    go_wp2_with (first
      | (refine boxLoadG 29 5 size5 Try.underlying29 rfl _ rfl _ rfl (cs := [a0, a1, a2, a3, a4]) HC.out rfl ?_)
      | (refine HF.out.mono ?_; rintro e w5 ⟨u, rfl, hu, hb⟩; obtain ⟨b0, b1, b2, b3, b4, rfl, ho⟩ := hu.cells; have HO := Lib.hid ho; have HU5 := Lib.hid hu; have HB5 := Lib.hid hb; have K5 : Hid (Blk w5 (w.heap.size + 1) 29 #[.int .i64 0, .string ⟨#[]⟩, .string ⟨#[]⟩, .int .i64 0, .slice none 0 0]) := (hb.block _ (by have := HBX.out.size; omega)).trans HBX.out.two; clear ho hu hb)
      | (refine boxStore 29 5 size5 rfl _ _ rfl (w.heap.size + 1) rfl [b0, b1, b2, b3, b4] rfl K5.out rfl rfl HO.out ?_))
    have hb5 : Below w.heap.size w w5 := HBX.out.below.trans (HB5.out.mono (by have := HBX.out.size; omega))
    refine bodyPost_ret (v := .agg #[b0, b1, b2, b3, b4]) ?_ rfl ⟨_, rfl, ?_, below_setRow hb5 (Nat.le_succ _) _⟩
    · exact boxRes 29 5 size5 Try.underlying29 Try.results56 _ (w.heap.size + 1) rfl (K5.out.row _) rfl
    · rw [HSUB.out]
      refine HU5.out.keep (by have := HBX.out.size; omega) fun x u hx hc => ?_
      exact (World.cell?_of_block (setRow_other w5 (w.heap.size + 1) x.block _ (by have := HBX.out.size; omega))).trans hc
  · have c0 : W2.cell? ⟨w.heap.size, 0, none⟩ = some (.int .i64 k) := HBX.out.one.cell 0
    go_enter Try.func56, Try.ntmps56
    go_upto_region 1 with fail
    change Code.wp Try.prog _ _ _ ((w.alloc (.cells #[.int .i64 k, .string p, .string m, .int .i64 n, .slice o N c] 29)).alloc (.cells #[.int .i64 0, .string ⟨#[]⟩, .string ⟨#[]⟩, .int .i64 0, .slice none 0 0] 29))
    rw [HW2.out]
    go_cut [1, 2, 4, 22] from 8 to 21 (fun v1 v2 v4 v22 wx => v1 = .slice ou nu cu ∧ v2 = .pointer (some ⟨w.heap.size, 0, none⟩) ∧ v4 = .pointer (some ⟨w.heap.size + 1, 0, none⟩) ∧ v22 = .bool false ∧ wx = W2)
    case first =>
      have c3 : W2.cell? ⟨w.heap.size, 3, none⟩ = some (.int .i64 n) := HBX.out.one.cell 3
      by_cases h6 : k = 6
      · subst h6
        by_cases hn0 : 0 ≤ n
        · have hn1 : ¬ n < nu := fun h => hin ⟨rfl, hn0, h⟩
          have e0 := decide_eq_true hn0
          have e1 := decide_eq_false hn1
          clear hin
          go_wp2
          go_meet
          exact ⟨rfl, rfl, rfl, rfl, rfl⟩
        · have e0 := decide_eq_false hn0
          clear hin
          go_wp2
          go_meet
          exact ⟨rfl, rfl, rfl, rfl, rfl⟩
      · have e0 : (k == 6) = false := beq_eq_false_iff_ne.2 h6
        clear hin
        go_wp2
        go_meet
        exact ⟨rfl, rfl, rfl, rfl, rfl⟩
    case rest =>
      obtain ⟨rfl, rfl, rfl, rfl, rfl⟩ := hcut
      clear c0
      go_wp2_with fail
      have hS0 : (fun w' : World => In2 wc w' w.heap.size #[.int .i64 k, .string p, .string m, .int .i64 n, .slice o N c] #[.int .i64 0, .string ⟨#[]⟩, .string ⟨#[]⟩, .int .i64 0, .slice none 0 0]) wc.drew := ⟨(Below.refl _ _).drew, HBX.out.one, HBX.out.two⟩
      refine wp_region_held_drew (S := (fun w' : World => In2 wc w' w.heap.size #[.int .i64 k, .string p, .string m, .int .i64 n, .slice o N c] #[.int .i64 0, .string ⟨#[]⟩, .string ⟨#[]⟩, .int .i64 0, .slice none 0 0])) (by kernel_rfl) hS0 fun hS0 => ?_
      refine wpAnyH_take (i := 0) (v := .pointer (some ⟨w.heap.size, 1, none⟩)) rfl (by kernel_rfl) (by kernel_rfl) (by kernel_rfl) (fun _ _ _ h => h) (Or.inl ⟨by kernel_rfl, fun w' hw' => ?_⟩) hS0 ?_
      · go_simp
      refine wpAnyH_take (i := 1) (v := .string p) rfl (by kernel_rfl) (by kernel_rfl) (by kernel_rfl) (fun _ _ _ h => h) (Or.inl ⟨by kernel_rfl, fun w' hw' => ?_⟩) hS0 ?_
      · have h3 : w'.cell? ⟨w.heap.size, 1, none⟩ = some (.string p) := hw'.one.cell 1
        go_simp
      refine wpAnyH_take (i := 3) (v := .pointer (some ⟨w.heap.size, 2, none⟩)) rfl (by kernel_rfl) (by kernel_rfl) (by kernel_rfl) (fun _ _ _ h => h) (Or.inl ⟨by kernel_rfl, fun w' hw' => ?_⟩) hS0 ?_
      · go_simp
      refine wpAnyH_take (i := 4) (v := .string m) rfl (by kernel_rfl) (by kernel_rfl) (by kernel_rfl) (fun _ _ _ h => h) (Or.inl ⟨by kernel_rfl, fun w' hw' => ?_⟩) hS0 ?_
      · have h3 : w'.cell? ⟨w.heap.size, 2, none⟩ = some (.string m) := hw'.one.cell 2
        go_simp
      refine wpAnyH_ready (rs := [2]) (by kernel_rfl) (by simp) (AllReadyH.cons rfl (fun KK hK => ?_) AllReadyH.nil)
      go_simp
      refine (cloneS_any p _ (by omega)).mono ?_
      rintro e wa ⟨rfl, hBa⟩
      refine hK.out _ _ (hS0.step HBX.out.size hBa) (fun hS1 => ?_)
      refine wpAnyH_take (i := 6) (v := .pointer (some ⟨w.heap.size, 1, none⟩)) rfl (by kernel_rfl) (by kernel_rfl) (by kernel_rfl) (fun _ _ _ h => h) (Or.inl ⟨by kernel_rfl, fun w' hw' => ?_⟩) hS1 ?_
      · go_simp
      refine wpAnyH_ready (rs := [5]) (by kernel_rfl) (by simp) (AllReadyH.cons rfl (fun KK hK => ?_) AllReadyH.nil)
      go_simp
      refine (cloneS_any m _ (by omega)).mono ?_
      rintro e wb ⟨rfl, hBb⟩
      refine hK.out _ _ (hS1.step HBX.out.size hBb) (fun hS2 => ?_)
      refine wpAnyH_ready (rs := [7]) (by kernel_rfl) (by simp) (AllReadyH.cons rfl (fun KK hK => ?_) AllReadyH.nil)
      have h1 : wb.cell? ⟨w.heap.size, 1, none⟩ = some (.string p) := hS2.one.cell 1
      have h2 : wb.frozen? ⟨w.heap.size, 1, none⟩ = false := hS2.one.frozen 1
      go_simp
      rw [setCell_same hS2.one rfl]
      refine hK.out _ _ hS2 (fun hS3 => ?_)
      refine wpAnyH_take (i := 8) (v := .pointer (some ⟨w.heap.size, 2, none⟩)) rfl (by kernel_rfl) (by kernel_rfl) (by kernel_rfl) (fun _ _ _ h => h) (Or.inl ⟨by kernel_rfl, fun w' hw' => ?_⟩) hS3 ?_
      · go_simp
      refine wpAnyH_ready (rs := [9]) (by kernel_rfl) (by simp) (AllReadyH.cons rfl (fun KK hK => ?_) AllReadyH.nil)
      have h3 : wb.cell? ⟨w.heap.size, 2, none⟩ = some (.string m) := hS2.one.cell 2
      have h4 : wb.frozen? ⟨w.heap.size, 2, none⟩ = false := hS2.one.frozen 2
      go_simp
      rw [setCell_same hS2.one rfl]
      refine hK.out _ _ hS2 (fun hS4 => ?_)
      refine wpAnyH_done (by kernel_rfl) ?_ _
      have H2 := Lib.hid hS2
      have c4 : wb.cell? ⟨w.heap.size, 4, none⟩ = some (.slice o N c) := hS2.one.cell 4
      have hsub : subY us (.mk k p m n l) = .mk k p m n (subYs us l) := by rw [subY, if_neg (by rw [HNU.out]; exact hin)]
      have HSUB := Lib.hid hsub
      have hww : Below w.heap.size w wb := HBX.out.below.trans (hS2.below.mono (by omega))
      have HWW := Lib.hid hww
      have hsl : (subYs us l).length = N := by rw [subs_map, List.length_map]; exact HN.out
      have HSL := Lib.hid hsl
      clear h1 h2 h3 h4 hS0 hS1 hS2 hS3 hS4 hBa hBb hK hsub hww hsl hin
      cases o with
      | none =>
        obtain rfl : l = [] := by
          cases l with
          | nil => rfl
          | cons y r =>
            have := HX.out
            unfold IsYs at this
            obtain ⟨⟨a, _, _, _, _, _, h, _⟩, _⟩ := this
            cases h
        obtain rfl : 0 = N := HN.out
        have hnil : (binOp .neq 24 (.slice none 0 c) (.slice none 0 0)).run Try.prog wb = .ok (.bool false) wb := run_neq_slice_nil wb _ _ none 0 c Try.underlying24
        go_wp2_with (first
          | (refine boxLoad 29 5 size5 Try.underlying29 rfl _ rfl (w.heap.size) rfl (cs := [.int .i64 k, .string p, .string m, .int .i64 n, .slice none 0 c]) H2.out.one rfl ?_)
          | (refine boxStore 29 5 size5 rfl _ _ rfl (w.heap.size + 1) rfl [.int .i64 k, .string p, .string m, .int .i64 n, .slice none 0 c] rfl H2.out.two rfl rfl rfl ?_))
        refine bodyPost_ret (v := .agg #[.int .i64 k, .string p, .string m, .int .i64 n, .slice none 0 c]) ?_ rfl ⟨_, rfl, ?_, below_setRow HWW.out (Nat.le_succ _) _⟩
        · exact boxRes 29 5 size5 Try.underlying29 Try.results56 _ (w.heap.size + 1) rfl (H2.out.two.row _) rfl
        · rw [HSUB.out, subYs]
          exact IsYF.of rfl (Nat.zero_le _) hc (IsYFs.nil _ _ _ _)
      | some a =>
        have hNq : N * 72 ≤ 281474976710656 := by have := HN.out; omega
        obtain ⟨Z, hZl, hmk⟩ := make_ys N hNq
        obtain ⟨g, hg⟩ : ∃ g, wb.heap.size = g := ⟨_, rfl⟩
        have hmk' := hmk wb
        rw [hg] at hmk'
        obtain ⟨w6, hw6⟩ : ∃ w6, wb.alloc (.cells Z.toArray 29) = w6 := ⟨_, rfl⟩
        have hS6 : SubL us l w wc w6 g N 0 #[.int .i64 k, .string p, .string m, .int .i64 n, .slice (some a) N c] #[.int .i64 0, .string ⟨#[]⟩, .string ⟨#[]⟩, .int .i64 0, .slice none 0 0] := by
          have hb6 : Below wb.heap.size wb w6 := by rw [← hw6]; exact (Below.refl _ _).alloc (Nat.le_refl _) _
          refine ⟨H2.out.step HBX.out.size hb6, by have := H2.out.below.size; have := HBX.out.size; omega, Z, ?_, hZl, fun i y hi => by omega⟩
          rw [← hw6, ← hg]
          exact Blk.new wb _ _
        have c46 : w6.cell? ⟨w.heap.size, 4, none⟩ = some (.slice (some a) N c) := hS6.in2.one.cell 4
        rw [hw6] at hmk'
        have hnil : (binOp .neq 24 (.slice (some a) N c) (.slice none 0 0)).run Try.prog wb = .ok (.bool true) wb := run_neq_slice_nil wb _ _ (some a) N c Try.underlying24
        have HS6 := Lib.hid hS6
        have HG := Lib.hid hg
        clear hmk hw6 hS6 hg hZl
        go_wp2
        go_loopw [47] (fun i wr => ∃ j : Nat, i = .int .i64 (j : Nat) ∧ Hid (j ≤ N) ∧ Hid (SubL us l w wc wr g N j #[.int .i64 k, .string p, .string m, .int .i64 n, .slice (some a) N c] #[.int .i64 0, .string ⟨#[]⟩, .string ⟨#[]⟩, .int .i64 0, .slice none 0 0])) (fun i _ => N - (RowKit.intOf i).toNat)
        case atStart => exact ⟨0, rfl, Nat.zero_le _, HS6⟩
        case round =>
          obtain ⟨j, rfl, HJ, HR⟩ := hrel
          clear hmk' c4 c46 HS6 hnil
          by_cases hj : j < N
          · have hj' : ((j : Int) < (N : Int)) := by omega
            have hj0 : (0 : Int) ≤ (j : Int) := by omega
            have hwj := IntWalk.i64_in ((j : Int) + 1) ⟨by omega, by omega⟩
            obtain ⟨x, hx⟩ : ∃ x, l[j]? = some x := ⟨_, List.getElem?_eq_getElem (by rw [HN.out]; exact hj)⟩
            have hmem := List.mem_of_getElem? hx
            obtain ⟨a', d0, d1, d2, d3, d4, ha', hcx, hyx⟩ := HX.out.at_ j hx
            obtain rfl : a = a' := by injection ha'
            rw [Nat.zero_add] at hcx
            have hwr : Below w.heap.size w wr := HBX.out.below.trans (HR.out.in2.below.mono (by omega))
            have HC : Hid (∀ (i : Nat) (v : Value), [d0, d1, d2, d3, d4][i]? = some v → wr.cell? ((a.add (j * 5)).add i) = some v) := fun i v h => (hwr.cell (World.block_lt_of_cell? _ _ (hcx i v h))).trans (hcx i v h)
            have HO := Lib.hid hyx.ones
            obtain ⟨w7, hw7⟩ : ∃ w7, wr.alloc (.cells #[d0, d1, d2, d3, d4] 29) = w7 := ⟨_, rfl⟩
            have hb7 : Below wr.heap.size wr w7 := by rw [← hw7]; exact (Below.refl _ _).alloc (Nat.le_refl _) _
            have hk7 : Blk w7 wr.heap.size 29 #[d0, d1, d2, d3, d4] := by rw [← hw7]; exact Blk.new wr _ _
            have hw7w : Below w.heap.size w w7 := hwr.trans (hb7.mono hwr.size)
            have HF := Lib.hid (HI.out x hmem _ w7 (hyx.below hw7w) hw7w)
            have HR7 := Lib.hid (HR.out.alloc HBX.out.size hb7)
            have HK7 := Lib.hid hk7
            have HW7 := Lib.hid hw7
            have HXX := Lib.hid hx
            obtain ⟨cur7, hcur7, hcl7, _⟩ := HR7.out.row
            have hg7 : g < w7.heap.size := hcur7.lt
            have HCU := Lib.hid hcur7
            have HCL := Lib.hid hcl7
            have HJN := Lib.hid hj
            clear hcx hmem hyx hwr hw7 hb7 hk7 hw7w hx hcur7 hcl7
            go_wp2_with (first
              | (refine boxLoad 29 5 size5 Try.underlying29 rfl _ rfl (wr.heap.size) rfl (cs := [d0, d1, d2, d3, d4]) HK7.out rfl ?_)
              | (refine boxLoadG 29 5 size5 Try.underlying29 rfl _ rfl _ rfl (cs := [d0, d1, d2, d3, d4]) HC.out rfl ?_)
              | (refine boxNewAt 29 5 size5 rfl _ _ rfl _ rfl rfl [d0, d1, d2, d3, d4] rfl rfl rfl HO.out ?_; change wpList _ _ _ _ _ (wr.alloc (.cells #[d0, d1, d2, d3, d4] 29)); rw [HW7.out])
              | (refine HF.out.mono ?_; rintro e w8 ⟨u, rfl, hu, hb⟩; obtain ⟨b0, b1, b2, b3, b4, rfl, ho⟩ := hu.cells; have HO8 := Lib.hid ho; have HU8 := Lib.hid hu; have HR8 := Lib.hid (HR7.out.alloc HBX.out.size hb); have HCU8 : Hid (Blk w8 g 29 cur7.toArray) := (hb.block g hg7).trans HCU.out; clear ho hu hb)
              | (refine wpList_store_at rfl 29 _ _ rfl g (j * 5) #[b0, b1, b2, b3, b4] rfl rfl _ cur7 HCU8.out (by rw [size5]; rfl) (by rw [HCL.out]; show j * 5 + 5 ≤ _; have := HJN.out; omega) (by simpa using HO8.out) ?_))
            case roundEnd =>
              exact ⟨⟨j + 1, by push_cast; rfl, hj, HR8.out.put HXX.out hj HCU8.out (HU8.out.mono hg7)⟩, by simp [RowKit.intOf]; omega⟩
          · have hj' : ¬ ((j : Int) < (N : Int)) := by omega
            have hjN := HJ.out
            obtain rfl : j = N := by omega
            have f4 : wr.frozen? ⟨w.heap.size, 4, none⟩ = false := HR.out.in2.one.frozen 4
            have c4 : wr.cell? ⟨w.heap.size, 4, none⟩ = some (.slice (some a) j c) := HR.out.in2.one.cell 4
            obtain ⟨w9, hw9⟩ : ∃ w9, wr.setCell ⟨w.heap.size, 4, none⟩ (.slice (some ⟨g, 0, none⟩) j j) = w9 := ⟨_, rfl⟩
            have hk9 : Blk w9 w.heap.size 29 #[.int .i64 k, .string p, .string m, .int .i64 n, .slice (some ⟨g, 0, none⟩) j j] := by rw [← hw9]; exact HR.out.in2.one.set_ 4 _
            have hk9' : Blk w9 (w.heap.size + 1) 29 #[.int .i64 0, .string ⟨#[]⟩, .string ⟨#[]⟩, .int .i64 0, .slice none 0 0] := by rw [← hw9]; exact HR.out.in2.two.far (by show w.heap.size + 1 ≠ w.heap.size; omega) _
            have hb9 : Below w.heap.size w w9 := by
              have h0 : Below w.heap.size w wr := HBX.out.below.trans (HR.out.in2.below.mono (by omega))
              rw [← hw9]
              exact h0.setCell (p := ⟨w.heap.size, 4, none⟩) (Nat.le_refl _) _
            have HKC : Hid (∀ (x : Addr) (u : Value), g ≤ x.block → wr.cell? x = some u → (w9.setRow (w.heap.size + 1) #[.int .i64 k, .string p, .string m, .int .i64 n, .slice (some ⟨g, 0, none⟩) j j]).cell? x = some u) := fun x u hx hc => by
              have hge := HR.out.ge
              refine (World.cell?_of_block (setRow_other w9 (w.heap.size + 1) x.block _ (by omega))).trans ?_
              rw [← hw9]
              exact (World.cell?_of_block (Below.heap_setCell wr ⟨w.heap.size, 4, none⟩ _ x.block (by show x.block ≠ w.heap.size; omega))).trans hc
            have HK9 := Lib.hid hk9
            have HK9' := Lib.hid hk9'
            have HB9 := Lib.hid hb9
            have HW9 := Lib.hid hw9
            clear hk9 hk9' hb9 hw9
            go_wp2_with (first
              | (change wpList _ _ _ _ _ (wr.setCell ⟨w.heap.size, 4, none⟩ (.slice (some ⟨g, 0, none⟩) j j)); rw [HW9.out])
              | (refine boxLoad 29 5 size5 Try.underlying29 rfl _ rfl (w.heap.size) rfl (cs := [.int .i64 k, .string p, .string m, .int .i64 n, .slice (some ⟨g, 0, none⟩) j j]) HK9.out rfl ?_)
              | (refine boxStore 29 5 size5 rfl _ _ rfl (w.heap.size + 1) rfl [.int .i64 k, .string p, .string m, .int .i64 n, .slice (some ⟨g, 0, none⟩) j j] rfl HK9'.out rfl rfl rfl ?_))
            refine bodyPost_ret (v := .agg #[.int .i64 k, .string p, .string m, .int .i64 n, .slice (some ⟨g, 0, none⟩) j j]) ?_ rfl ⟨_, rfl, ?_, below_setRow HB9.out (Nat.le_succ _) _⟩
            · exact boxRes 29 5 size5 Try.underlying29 Try.results56 _ (w.heap.size + 1) rfl (HK9'.out.row _) rfl
            · rw [HSUB.out]
              exact IsYF.of HSL.out (Nat.le_refl _) (Nat.le_trans hl hc) (HR.out.done HN.out HKC.out)

end Go.Proofs.Ytmnhilgifjaocaa
