/-
  What is put in: the program's answer, one step. Condition: names of at most 2^48 bytes.
  What is put in: the program's answer. Condition: names of at most 2^48 bytes.
  Types whose parts lie in blocks of a kind; an append, told. No condition.
  What is put in: the document's answer. Condition: at most a million parts in a list.
  All elements of a row copied. Condition: rows of at most 2^47 bytes.
  Copies of a type, a field, a method, a declared type. Condition: names of at most 2^47 bytes, lists of at most 2^47 bytes.
-/
import Derived.Test.YtlakmniaocpaaaaM05
import Derived.Laws.Cover3
import Derived.Test.YtlakmniaocpaaaaM02
import Derived.Deep.RegionHeld
import Derived.Test.YtlakmniaocpaaaaM03
namespace Go.Proofs.Ytlakmniaocpaaaa
open Go.RowKit
open Go.Lib hiding intOf
/-- What a call of Subst answers. -/
def SubR (us : List GY) (t : GY) (w : World) (e : Ending) (w' : World) : Prop := ∃ u, e = .returned u ∧ IsYF w' w.heap.size (subY us t) u ∧ Below w.heap.size w w'
theorem infoTT : (Try.prog.info? 34).map (fun i => (i.zero, i.size, i.bytes)) = some (some (.agg #[.int .i64 0, .string ⟨#[]⟩, .string ⟨#[]⟩, .int .i64 0, .slice none 0 0]), 5, 72) := by kernel_rfl
/-- A row of types made. -/
theorem make_ys (n : Nat) (hn : n * 72 ≤ 281474976710656) : ∃ Z : List Value, Z.length = n * 5 ∧ ∀ W : World, (Instr.makeSlice 23 (.int .i64 (n : Int)) (.int .i64 (n : Int))).run Try.prog W = .ok (.slice (some ⟨W.heap.size, 0, none⟩) n n) (W.alloc (.cells Z.toArray 34)) := by
  obtain ⟨i0, hi, hi'⟩ := Option.map_eq_some_iff.1 infoTT
  simp only [Prod.mk.injEq] at hi'
  obtain ⟨hz0, hz1, hz2⟩ := hi'
  refine ⟨(madeCells (Value.cells (.agg #[.int .i64 0, .string ⟨#[]⟩, .string ⟨#[]⟩, .int .i64 0, .slice none 0 0])) (n * 5)).toList, by rw [Array.length_toList, size_madeCells], fun W => ?_⟩
  have hr := run_make (P := Try.prog) W 23 34 i0 _ Try.underlying23 hi hz0 .i64 .i64 n n (by omega) (Int.le_refl _) (by rw [hz2]; omega) (by omega)
  simp only [Int.toNat_natCast] at hr
  rw [hr, hz1]
/-- Some have been put in. -/
structure SubL (us l : List GY) (w wc wr : World) (g N j : Nat) (A B : Array Value) : Prop where
  in2 : In2 wc wr w.heap.size A B
  ge : w.heap.size + 1 + 1 ≤ g
  row : ∃ cur : List Value, Blk wr g 34 cur.toArray ∧ cur.length = N * 5 ∧ ∀ (i : Nat) (y : GY), i < j → l[i]? = some y → ∃ c0 c1 c2 c3 c4 : Value, (∀ (e : Nat) (v : Value), [c0, c1, c2, c3, c4][e]? = some v → cur[i * 5 + e]? = some v) ∧ IsYF wr (g + 1) (subY us y) (.agg #[c0, c1, c2, c3, c4])
theorem SubL.alloc {us l : List GY} {w wc wr : World} {g N j : Nat} {A B : Array Value} (h : SubL us l w wc wr g N j A B) (hs : wc.heap.size = w.heap.size + 1 + 1) {w' : World} (hb : Below wr.heap.size wr w') : SubL us l w wc w' g N j A B := by
  refine ⟨h.in2.step hs hb, h.ge, ?_⟩
  obtain ⟨cur, h1, h2, h3⟩ := h.row
  refine ⟨cur, (hb.block g h1.lt).trans h1, h2, fun i y hi hy => ?_⟩
  obtain ⟨c0, c1, c2, c3, c4, hc, hy⟩ := h3 i y hi hy
  exact ⟨c0, c1, c2, c3, c4, hc, hy.below hb⟩
/-- One more put in. -/
theorem SubL.put {us l : List GY} {w wc wr : World} {g N j : Nat} {A B : Array Value} {x : GY} {b0 b1 b2 b3 b4 : Value} {cur : List Value} (h : SubL us l w wc wr g N j A B) (hx : l[j]? = some x) (hj : j < N) (hcur : Blk wr g 34 cur.toArray) (hu : IsYF wr (g + 1) (subY us x) (.agg #[b0, b1, b2, b3, b4])) :
    SubL us l w wc (wr.setRow g (putL cur (j * 5) [b0, b1, b2, b3, b4]).toArray) g N (j + 1) A B := by
  have hge := h.ge
  have hk : ∀ (a : Addr) (u : Value), g + 1 ≤ a.block → wr.cell? a = some u → (wr.setRow g (putL cur (j * 5) [b0, b1, b2, b3, b4]).toArray).cell? a = some u := fun a u ha hc => (World.cell?_of_block (setRow_other wr g a.block _ (by omega))).trans hc
  refine ⟨⟨below_setRow h.in2.below hge _, h.in2.one.rowFar (by omega) _, h.in2.two.rowFar (by omega) _⟩, hge, putL cur (j * 5) [b0, b1, b2, b3, b4], hcur.row _, ?_, fun i y hi hy => ?_⟩
  · obtain ⟨cur', h1, h2, _⟩ := h.row
    have : cur' = cur := by
      unfold Blk at h1 hcur
      rw [hcur] at h1
      simpa using h1.symm
    rw [putL_len, ← this, h2]
  · obtain ⟨cur', h1, h2, h3⟩ := h.row
    obtain rfl : cur' = cur := by
      unfold Blk at h1 hcur
      rw [hcur] at h1
      simpa using h1.symm
    by_cases hij : i = j
    · subst hij
      obtain rfl : x = y := by rw [hx] at hy; injection hy
      exact ⟨b0, b1, b2, b3, b4, fun e v hv => putL_in _ _ _ _ _ (by rw [h2]; simp only [List.length_cons, List.length_nil]; omega) hv, hu.keep (Nat.le_refl _) hk⟩
    · obtain ⟨c0, c1, c2, c3, c4, hc, hy⟩ := h3 i y (by omega) hy
      refine ⟨c0, c1, c2, c3, c4, fun e v hv => ?_, hy.keep (Nat.le_refl _) hk⟩
      have he : e < 5 := (List.getElem?_eq_some_iff.1 hv).1
      rw [putL_out _ _ _ _ (by left; omega)]
      exact hc e v hv
/-- All put in: the list that they make. -/
theorem SubL.done {us l : List GY} {w wc wr w' : World} {g N : Nat} {A B : Array Value} (h : SubL us l w wc wr g N N A B) (hN : l.length = N) (hk : ∀ (a : Addr) (u : Value), g ≤ a.block → wr.cell? a = some u → w'.cell? a = some u) : IsYFs w' w.heap.size (some ⟨g, 0, none⟩) 0 (subYs us l) := by
  have hge := h.ge
  obtain ⟨cur, h1, h2, h3⟩ := h.row
  refine IsYFs.mk' (by omega) fun i y hy => ?_
  rw [subs_map, List.getElem?_map] at hy
  obtain ⟨x, hx, rfl⟩ := Option.map_eq_some_iff.1 hy
  have hi : i < N := by rw [← hN]; exact (List.getElem?_eq_some_iff.1 hx).1
  obtain ⟨c0, c1, c2, c3, c4, hc, hy⟩ := h3 i x hi hx
  refine ⟨c0, c1, c2, c3, c4, fun e v hv => ?_, hy.keep (by omega) fun a u ha hcc => hk a u (by omega) hcc⟩
  refine hk ⟨g, (0 + i) * 5 + e, none⟩ v (Nat.le_refl _) ?_
  rw [h1.cell, Nat.zero_add]
  simpa using hc e v hv
set_option maxRecDepth 100000 in
set_option maxHeartbeats 8000000 in
theorem subst_step (us : List GY) (ou : Option Addr) (nu cu : Nat) (hnu : us.length = nu) (q : Nat) (hq : q ≤ 281474976710656)
    (HU : ∀ (i : Nat) (y : GY), us[i]? = some y → ∀ (v : Value) (W : World), IsY W y v → Calls Try.prog 23 #[v, .slice none 0 0] W fun e W' => ∃ u, e = .returned u ∧ IsYF W' W.heap.size y u ∧ Below W.heap.size W W') :
    ∀ (s : Nat) (t : GY) (v : Value) (w : World), SizeOf.sizeOf t < s → FitY q t → IsY w t v → IsYs w ou 0 us → Calls Try.prog 23 #[v, .slice ou nu cu] w fun e w' => SubR us t w e w' := by
  intro s
  induction s with
  | zero => intro t v w h; omega
  | succ s ih =>
  rintro ⟨k, p, m, n, l⟩ v w hs hfit hv hus
  obtain ⟨o, c, rfl, hl, hc, ha⟩ := hv.parts
  have hfit' := hfit
  unfold FitY at hfit'
  obtain ⟨hp, hm, hlq, hfl⟩ := hfit'
  obtain ⟨N, hN⟩ : ∃ N, l.length = N := ⟨_, rfl⟩
  have HI : Hid (∀ z ∈ l, ∀ (v : Value) (W : World), IsY W z v → Below w.heap.size w W → Calls Try.prog 23 #[v, .slice ou nu cu] W fun e w' => SubR us z W e w') :=
    fun z hz v W hv hb => ih z v W (by have := List.sizeOf_lt_of_mem hz; simp at hs; omega) (FitYs.mem hfl z hz) hv (hus.below hb)
  rw [hN] at hl ⊢
  have HN := Lib.hid hN
  have HX := Lib.hid ha
  have HUS := Lib.hid hus
  have HNU := Lib.hid hnu
  have hbx := box2 w #[.int .i64 k, .string p, .string m, .int .i64 n, .slice o N c] #[.int .i64 0, .string ⟨#[]⟩, .string ⟨#[]⟩, .int .i64 0, .slice none 0 0]
  obtain ⟨W2, hW2⟩ : ∃ W2, ((w.alloc (.cells #[.int .i64 k, .string p, .string m, .int .i64 n, .slice o N c] 34)).alloc (.cells #[.int .i64 0, .string ⟨#[]⟩, .string ⟨#[]⟩, .int .i64 0, .slice none 0 0] 34)) = W2 := ⟨_, rfl⟩
  rw [hW2] at hbx
  have HBX := Lib.hid hbx
  have HW2 := Lib.hid hW2
  have HUU := Lib.hid HU
  clear hv ha hus hfit hfl hs ih hN hnu hbx hW2 HU
  by_cases hin : k = 6 ∧ 0 ≤ n ∧ n < nu
  · obtain ⟨rfl, hn0, hn1⟩ := hin
    obtain ⟨i, rfl⟩ : ∃ i : Nat, n = (i : Int) := ⟨n.toNat, by omega⟩
    have hi : i < nu := by omega
    obtain ⟨y, hy⟩ : ∃ y, us[i]? = some y := ⟨_, List.getElem?_eq_getElem (by rw [HNU.out]; exact hi)⟩
    have hsub : subY us (.mk 6 p m (i : Int) l) = y := by
      rw [subY, if_pos ⟨rfl, hn0, by rw [HNU.out]; exact hn1⟩, List.getD_eq_getElem?_getD]
      simp [hy]
    obtain ⟨a, a0, a1, a2, a3, a4, rfl, hca, hya⟩ := HUS.out.at_ i hy
    rw [Nat.zero_add] at hca
    have hww : Below w.heap.size w W2 := HBX.out.below
    have HC : Hid (∀ (j : Nat) (v : Value), [a0, a1, a2, a3, a4][j]? = some v → W2.cell? ((a.add (i * 5)).add j) = some v) := fun j v h => (hww.cell (World.block_lt_of_cell? _ _ (hca j v h))).trans (hca j v h)
    have HF := Lib.hid (HUU.out i y hy _ W2 (hya.below hww))
    have HSUB := Lib.hid hsub
    have c0 : W2.cell? ⟨w.heap.size, 0, none⟩ = some (.int .i64 6) := HBX.out.one.cell 0
    have c3 : W2.cell? ⟨w.heap.size, 3, none⟩ = some (.int .i64 (i : Int)) := HBX.out.one.cell 3
    clear hca hya hww hsub hy
    go_enter Try.func23, Try.ntmps23
    go_upto_if 22 with fail
    change Code.wp Try.prog _ _ _ ((w.alloc (.cells #[.int .i64 6, .string p, .string m, .int .i64 (i : Int), .slice o N c] 34)).alloc (.cells #[.int .i64 0, .string ⟨#[]⟩, .string ⟨#[]⟩, .int .i64 0, .slice none 0 0] 34))
    rw [HW2.out]
    go_wp2_with (first
      | (refine boxLoadG 34 5 size5 Try.underlying34 rfl _ rfl _ rfl (cs := [a0, a1, a2, a3, a4]) HC.out rfl ?_)
      | (refine HF.out.mono ?_; rintro e w5 ⟨u, rfl, hu, hb⟩; obtain ⟨b0, b1, b2, b3, b4, rfl, ho⟩ := hu.cells; have HO := Lib.hid ho; have HU5 := Lib.hid hu; have HB5 := Lib.hid hb; have K5 : Hid (Blk w5 (w.heap.size + 1) 34 #[.int .i64 0, .string ⟨#[]⟩, .string ⟨#[]⟩, .int .i64 0, .slice none 0 0]) := (hb.block _ (by have := HBX.out.size; omega)).trans HBX.out.two; clear ho hu hb)
      | (refine boxStore 34 5 size5 rfl _ _ rfl (w.heap.size + 1) rfl [b0, b1, b2, b3, b4] rfl K5.out rfl rfl HO.out ?_))
    have hb5 : Below w.heap.size w w5 := HBX.out.below.trans (HB5.out.mono (by have := HBX.out.size; omega))
    refine bodyPost_ret (v := .agg #[b0, b1, b2, b3, b4]) ?_ rfl ⟨_, rfl, ?_, below_setRow hb5 (Nat.le_succ _) _⟩
    · exact boxRes 34 5 size5 Try.underlying34 Try.results23 _ (w.heap.size + 1) rfl (K5.out.row _) rfl
    · rw [HSUB.out]
      refine HU5.out.keep (by have := HBX.out.size; omega) fun x u hx hc => ?_
      exact (World.cell?_of_block (setRow_other w5 (w.heap.size + 1) x.block _ (by have := HBX.out.size; omega))).trans hc
  · have c0 : W2.cell? ⟨w.heap.size, 0, none⟩ = some (.int .i64 k) := HBX.out.one.cell 0
    go_enter Try.func23, Try.ntmps23
    go_upto_region 1 with fail
    change Code.wp Try.prog _ _ _ ((w.alloc (.cells #[.int .i64 k, .string p, .string m, .int .i64 n, .slice o N c] 34)).alloc (.cells #[.int .i64 0, .string ⟨#[]⟩, .string ⟨#[]⟩, .int .i64 0, .slice none 0 0] 34))
    rw [HW2.out]
    go_cut [1, 2, 4, 22] from 8 to 21 (fun v1 v2 v4 v22 wx => v1 = .slice ou nu cu ∧ v2 = .pointer (some ⟨w.heap.size, 0, none⟩) ∧ v4 = .pointer (some ⟨w.heap.size + 1, 0, none⟩) ∧ v22 = .bool false ∧ wx = W2)
    case first =>
      have c3 : W2.cell? ⟨w.heap.size, 3, none⟩ = some (.int .i64 n) := HBX.out.one.cell 3
      by_cases h6 : k = 6
      · subst h6
        by_cases hn0 : 0 ≤ n
        · have hn1 : ¬ n < nu := fun h => hin ⟨rfl, hn0, h⟩
          have e0 := decide_eq_true hn0
          have e1 := decide_eq_false hn1
          clear hin
          go_wp2
          go_meet
          exact ⟨rfl, rfl, rfl, rfl, rfl⟩
        · have e0 := decide_eq_false hn0
          clear hin
          go_wp2
          go_meet
          exact ⟨rfl, rfl, rfl, rfl, rfl⟩
      · have e0 : (k == 6) = false := beq_eq_false_iff_ne.2 h6
        clear hin
        go_wp2
        go_meet
        exact ⟨rfl, rfl, rfl, rfl, rfl⟩
    case rest =>
      obtain ⟨rfl, rfl, rfl, rfl, rfl⟩ := hcut
      clear c0
      go_wp2_with fail
      have hS0 : (fun w' : World => In2 wc w' w.heap.size #[.int .i64 k, .string p, .string m, .int .i64 n, .slice o N c] #[.int .i64 0, .string ⟨#[]⟩, .string ⟨#[]⟩, .int .i64 0, .slice none 0 0]) wc.drew := ⟨(Below.refl _ _).drew, HBX.out.one, HBX.out.two⟩
      refine wp_region_held_drew (S := (fun w' : World => In2 wc w' w.heap.size #[.int .i64 k, .string p, .string m, .int .i64 n, .slice o N c] #[.int .i64 0, .string ⟨#[]⟩, .string ⟨#[]⟩, .int .i64 0, .slice none 0 0])) (by kernel_rfl) hS0 fun hS0 => ?_
      refine wpAnyH_take (i := 0) (v := .pointer (some ⟨w.heap.size, 1, none⟩)) rfl (by kernel_rfl) (by kernel_rfl) (by kernel_rfl) (fun _ _ _ h => h) (Or.inl ⟨by kernel_rfl, fun w' hw' => ?_⟩) hS0 ?_
      · go_simp
      refine wpAnyH_take (i := 1) (v := .string p) rfl (by kernel_rfl) (by kernel_rfl) (by kernel_rfl) (fun _ _ _ h => h) (Or.inl ⟨by kernel_rfl, fun w' hw' => ?_⟩) hS0 ?_
      · have h3 : w'.cell? ⟨w.heap.size, 1, none⟩ = some (.string p) := hw'.one.cell 1
        go_simp
      refine wpAnyH_take (i := 3) (v := .pointer (some ⟨w.heap.size, 2, none⟩)) rfl (by kernel_rfl) (by kernel_rfl) (by kernel_rfl) (fun _ _ _ h => h) (Or.inl ⟨by kernel_rfl, fun w' hw' => ?_⟩) hS0 ?_
      · go_simp
      refine wpAnyH_take (i := 4) (v := .string m) rfl (by kernel_rfl) (by kernel_rfl) (by kernel_rfl) (fun _ _ _ h => h) (Or.inl ⟨by kernel_rfl, fun w' hw' => ?_⟩) hS0 ?_
      · have h3 : w'.cell? ⟨w.heap.size, 2, none⟩ = some (.string m) := hw'.one.cell 2
        go_simp
      refine wpAnyH_ready (rs := [2]) (by kernel_rfl) (by simp) (AllReadyH.cons rfl (fun KK hK => ?_) AllReadyH.nil)
      go_simp
      refine (cloneS_any p _ (by omega)).mono ?_
      rintro e wa ⟨rfl, hBa⟩
      refine hK.out _ _ (hS0.step HBX.out.size hBa) (fun hS1 => ?_)
      refine wpAnyH_take (i := 6) (v := .pointer (some ⟨w.heap.size, 1, none⟩)) rfl (by kernel_rfl) (by kernel_rfl) (by kernel_rfl) (fun _ _ _ h => h) (Or.inl ⟨by kernel_rfl, fun w' hw' => ?_⟩) hS1 ?_
      · go_simp
      refine wpAnyH_ready (rs := [5]) (by kernel_rfl) (by simp) (AllReadyH.cons rfl (fun KK hK => ?_) AllReadyH.nil)
      go_simp
      refine (cloneS_any m _ (by omega)).mono ?_
      rintro e wb ⟨rfl, hBb⟩
      refine hK.out _ _ (hS1.step HBX.out.size hBb) (fun hS2 => ?_)
      refine wpAnyH_ready (rs := [7]) (by kernel_rfl) (by simp) (AllReadyH.cons rfl (fun KK hK => ?_) AllReadyH.nil)
      have h1 : wb.cell? ⟨w.heap.size, 1, none⟩ = some (.string p) := hS2.one.cell 1
      have h2 : wb.frozen? ⟨w.heap.size, 1, none⟩ = false := hS2.one.frozen 1
      go_simp
      rw [setCell_same hS2.one rfl]
      refine hK.out _ _ hS2 (fun hS3 => ?_)
      refine wpAnyH_take (i := 8) (v := .pointer (some ⟨w.heap.size, 2, none⟩)) rfl (by kernel_rfl) (by kernel_rfl) (by kernel_rfl) (fun _ _ _ h => h) (Or.inl ⟨by kernel_rfl, fun w' hw' => ?_⟩) hS3 ?_
      · go_simp
      refine wpAnyH_ready (rs := [9]) (by kernel_rfl) (by simp) (AllReadyH.cons rfl (fun KK hK => ?_) AllReadyH.nil)
      have h3 : wb.cell? ⟨w.heap.size, 2, none⟩ = some (.string m) := hS2.one.cell 2
      have h4 : wb.frozen? ⟨w.heap.size, 2, none⟩ = false := hS2.one.frozen 2
      go_simp
      rw [setCell_same hS2.one rfl]
      refine hK.out _ _ hS2 (fun hS4 => ?_)
      refine wpAnyH_done (by kernel_rfl) ?_ _
      have H2 := Lib.hid hS2
      have c4 : wb.cell? ⟨w.heap.size, 4, none⟩ = some (.slice o N c) := hS2.one.cell 4
      have hsub : subY us (.mk k p m n l) = .mk k p m n (subYs us l) := by rw [subY, if_neg (by rw [HNU.out]; exact hin)]
      have HSUB := Lib.hid hsub
      have hww : Below w.heap.size w wb := HBX.out.below.trans (hS2.below.mono (by omega))
      have HWW := Lib.hid hww
      have hsl : (subYs us l).length = N := by rw [subs_map, List.length_map]; exact HN.out
      have HSL := Lib.hid hsl
      clear h1 h2 h3 h4 hS0 hS1 hS2 hS3 hS4 hBa hBb hK hsub hww hsl hin
      cases o with
      | none =>
        obtain rfl : l = [] := by
          cases l with
          | nil => rfl
          | cons y r =>
            have := HX.out
            unfold IsYs at this
            obtain ⟨⟨a, _, _, _, _, _, h, _⟩, _⟩ := this
            cases h
        obtain rfl : 0 = N := HN.out
        have hnil : (binOp .neq 23 (.slice none 0 c) (.slice none 0 0)).run Try.prog wb = .ok (.bool false) wb := run_neq_slice_nil wb _ _ none 0 c Try.underlying23
        go_wp2_with (first
          | (refine boxLoad 34 5 size5 Try.underlying34 rfl _ rfl (w.heap.size) rfl (cs := [.int .i64 k, .string p, .string m, .int .i64 n, .slice none 0 c]) H2.out.one rfl ?_)
          | (refine boxStore 34 5 size5 rfl _ _ rfl (w.heap.size + 1) rfl [.int .i64 k, .string p, .string m, .int .i64 n, .slice none 0 c] rfl H2.out.two rfl rfl rfl ?_))
        refine bodyPost_ret (v := .agg #[.int .i64 k, .string p, .string m, .int .i64 n, .slice none 0 c]) ?_ rfl ⟨_, rfl, ?_, below_setRow HWW.out (Nat.le_succ _) _⟩
        · exact boxRes 34 5 size5 Try.underlying34 Try.results23 _ (w.heap.size + 1) rfl (H2.out.two.row _) rfl
        · rw [HSUB.out, subYs]
          exact IsYF.of rfl (Nat.zero_le _) hc (IsYFs.nil _ _ _ _)
      | some a =>
        have hNq : N * 72 ≤ 281474976710656 := by have := HN.out; omega
        obtain ⟨Z, hZl, hmk⟩ := make_ys N hNq
        obtain ⟨g, hg⟩ : ∃ g, wb.heap.size = g := ⟨_, rfl⟩
        have hmk' := hmk wb
        rw [hg] at hmk'
        obtain ⟨w6, hw6⟩ : ∃ w6, wb.alloc (.cells Z.toArray 34) = w6 := ⟨_, rfl⟩
        have hS6 : SubL us l w wc w6 g N 0 #[.int .i64 k, .string p, .string m, .int .i64 n, .slice (some a) N c] #[.int .i64 0, .string ⟨#[]⟩, .string ⟨#[]⟩, .int .i64 0, .slice none 0 0] := by
          have hb6 : Below wb.heap.size wb w6 := by rw [← hw6]; exact (Below.refl _ _).alloc (Nat.le_refl _) _
          refine ⟨H2.out.step HBX.out.size hb6, by have := H2.out.below.size; have := HBX.out.size; omega, Z, ?_, hZl, fun i y hi => by omega⟩
          rw [← hw6, ← hg]
          exact Blk.new wb _ _
        have c46 : w6.cell? ⟨w.heap.size, 4, none⟩ = some (.slice (some a) N c) := hS6.in2.one.cell 4
        rw [hw6] at hmk'
        have hnil : (binOp .neq 23 (.slice (some a) N c) (.slice none 0 0)).run Try.prog wb = .ok (.bool true) wb := run_neq_slice_nil wb _ _ (some a) N c Try.underlying23
        have HS6 := Lib.hid hS6
        have HG := Lib.hid hg
        clear hmk hw6 hS6 hg hZl
        go_wp2
        go_loopw [47] (fun i wr => ∃ j : Nat, i = .int .i64 (j : Nat) ∧ Hid (j ≤ N) ∧ Hid (SubL us l w wc wr g N j #[.int .i64 k, .string p, .string m, .int .i64 n, .slice (some a) N c] #[.int .i64 0, .string ⟨#[]⟩, .string ⟨#[]⟩, .int .i64 0, .slice none 0 0])) (fun i _ => N - (RowKit.intOf i).toNat)
        case atStart => exact ⟨0, rfl, Nat.zero_le _, HS6⟩
        case round =>
          obtain ⟨j, rfl, HJ, HR⟩ := hrel
          clear hmk' c4 c46 HS6 hnil
          by_cases hj : j < N
          · have hj' : ((j : Int) < (N : Int)) := by omega
            have hj0 : (0 : Int) ≤ (j : Int) := by omega
            have hwj := IntWalk.i64_in ((j : Int) + 1) ⟨by omega, by omega⟩
            obtain ⟨x, hx⟩ : ∃ x, l[j]? = some x := ⟨_, List.getElem?_eq_getElem (by rw [HN.out]; exact hj)⟩
            have hmem := List.mem_of_getElem? hx
            obtain ⟨a', d0, d1, d2, d3, d4, ha', hcx, hyx⟩ := HX.out.at_ j hx
            obtain rfl : a = a' := by injection ha'
            rw [Nat.zero_add] at hcx
            have hwr : Below w.heap.size w wr := HBX.out.below.trans (HR.out.in2.below.mono (by omega))
            have HC : Hid (∀ (i : Nat) (v : Value), [d0, d1, d2, d3, d4][i]? = some v → wr.cell? ((a.add (j * 5)).add i) = some v) := fun i v h => (hwr.cell (World.block_lt_of_cell? _ _ (hcx i v h))).trans (hcx i v h)
            have HO := Lib.hid hyx.ones
            obtain ⟨w7, hw7⟩ : ∃ w7, wr.alloc (.cells #[d0, d1, d2, d3, d4] 34) = w7 := ⟨_, rfl⟩
            have hb7 : Below wr.heap.size wr w7 := by rw [← hw7]; exact (Below.refl _ _).alloc (Nat.le_refl _) _
            have hk7 : Blk w7 wr.heap.size 34 #[d0, d1, d2, d3, d4] := by rw [← hw7]; exact Blk.new wr _ _
            have hw7w : Below w.heap.size w w7 := hwr.trans (hb7.mono hwr.size)
            have HF := Lib.hid (HI.out x hmem _ w7 (hyx.below hw7w) hw7w)
            have HR7 := Lib.hid (HR.out.alloc HBX.out.size hb7)
            have HK7 := Lib.hid hk7
            have HW7 := Lib.hid hw7
            have HXX := Lib.hid hx
            obtain ⟨cur7, hcur7, hcl7, _⟩ := HR7.out.row
            have hg7 : g < w7.heap.size := hcur7.lt
            have HCU := Lib.hid hcur7
            have HCL := Lib.hid hcl7
            have HJN := Lib.hid hj
            clear hcx hmem hyx hwr hw7 hb7 hk7 hw7w hx hcur7 hcl7
            go_wp2_with (first
              | (refine boxLoad 34 5 size5 Try.underlying34 rfl _ rfl (wr.heap.size) rfl (cs := [d0, d1, d2, d3, d4]) HK7.out rfl ?_)
              | (refine boxLoadG 34 5 size5 Try.underlying34 rfl _ rfl _ rfl (cs := [d0, d1, d2, d3, d4]) HC.out rfl ?_)
              | (refine boxNewAt 34 5 size5 rfl _ _ rfl _ rfl rfl [d0, d1, d2, d3, d4] rfl rfl rfl HO.out ?_; change wpList _ _ _ _ _ (wr.alloc (.cells #[d0, d1, d2, d3, d4] 34)); rw [HW7.out])
              | (refine HF.out.mono ?_; rintro e w8 ⟨u, rfl, hu, hb⟩; obtain ⟨b0, b1, b2, b3, b4, rfl, ho⟩ := hu.cells; have HO8 := Lib.hid ho; have HU8 := Lib.hid hu; have HR8 := Lib.hid (HR7.out.alloc HBX.out.size hb); have HCU8 : Hid (Blk w8 g 34 cur7.toArray) := (hb.block g hg7).trans HCU.out; clear ho hu hb)
              | (refine wpList_store_at rfl 34 _ _ rfl g (j * 5) #[b0, b1, b2, b3, b4] rfl rfl _ cur7 HCU8.out (by rw [size5]; rfl) (by rw [HCL.out]; show j * 5 + 5 ≤ _; have := HJN.out; omega) (by simpa using HO8.out) ?_))
            case roundEnd =>
              exact ⟨⟨j + 1, by push_cast; rfl, hj, HR8.out.put HXX.out hj HCU8.out (HU8.out.mono hg7)⟩, by simp [RowKit.intOf]; omega⟩
          · have hj' : ¬ ((j : Int) < (N : Int)) := by omega
            have hjN := HJ.out
            obtain rfl : j = N := by omega
            have f4 : wr.frozen? ⟨w.heap.size, 4, none⟩ = false := HR.out.in2.one.frozen 4
            have c4 : wr.cell? ⟨w.heap.size, 4, none⟩ = some (.slice (some a) j c) := HR.out.in2.one.cell 4
            obtain ⟨w9, hw9⟩ : ∃ w9, wr.setCell ⟨w.heap.size, 4, none⟩ (.slice (some ⟨g, 0, none⟩) j j) = w9 := ⟨_, rfl⟩
            have hk9 : Blk w9 w.heap.size 34 #[.int .i64 k, .string p, .string m, .int .i64 n, .slice (some ⟨g, 0, none⟩) j j] := by rw [← hw9]; exact HR.out.in2.one.set_ 4 _
            have hk9' : Blk w9 (w.heap.size + 1) 34 #[.int .i64 0, .string ⟨#[]⟩, .string ⟨#[]⟩, .int .i64 0, .slice none 0 0] := by rw [← hw9]; exact HR.out.in2.two.far (by show w.heap.size + 1 ≠ w.heap.size; omega) _
            have hb9 : Below w.heap.size w w9 := by
              have h0 : Below w.heap.size w wr := HBX.out.below.trans (HR.out.in2.below.mono (by omega))
              rw [← hw9]
              exact h0.setCell (p := ⟨w.heap.size, 4, none⟩) (Nat.le_refl _) _
            have HKC : Hid (∀ (x : Addr) (u : Value), g ≤ x.block → wr.cell? x = some u → (w9.setRow (w.heap.size + 1) #[.int .i64 k, .string p, .string m, .int .i64 n, .slice (some ⟨g, 0, none⟩) j j]).cell? x = some u) := fun x u hx hc => by
              have hge := HR.out.ge
              refine (World.cell?_of_block (setRow_other w9 (w.heap.size + 1) x.block _ (by omega))).trans ?_
              rw [← hw9]
              exact (World.cell?_of_block (Below.heap_setCell wr ⟨w.heap.size, 4, none⟩ _ x.block (by show x.block ≠ w.heap.size; omega))).trans hc
            have HK9 := Lib.hid hk9
            have HK9' := Lib.hid hk9'
            have HB9 := Lib.hid hb9
            have HW9 := Lib.hid hw9
            clear hk9 hk9' hb9 hw9
            go_wp2_with (first
              | (change wpList _ _ _ _ _ (wr.setCell ⟨w.heap.size, 4, none⟩ (.slice (some ⟨g, 0, none⟩) j j)); rw [HW9.out])
              | (refine boxLoad 34 5 size5 Try.underlying34 rfl _ rfl (w.heap.size) rfl (cs := [.int .i64 k, .string p, .string m, .int .i64 n, .slice (some ⟨g, 0, none⟩) j j]) HK9.out rfl ?_)
              | (refine boxStore 34 5 size5 rfl _ _ rfl (w.heap.size + 1) rfl [.int .i64 k, .string p, .string m, .int .i64 n, .slice (some ⟨g, 0, none⟩) j j] rfl HK9'.out rfl rfl rfl ?_))
            refine bodyPost_ret (v := .agg #[.int .i64 k, .string p, .string m, .int .i64 n, .slice (some ⟨g, 0, none⟩) j j]) ?_ rfl ⟨_, rfl, ?_, below_setRow HB9.out (Nat.le_succ _) _⟩
            · exact boxRes 34 5 size5 Try.underlying34 Try.results23 _ (w.heap.size + 1) rfl (HK9'.out.row _) rfl
            · rw [HSUB.out]
              exact IsYF.of HSL.out (Nat.le_refl _) (Nat.le_trans hl hc) (HR.out.done HN.out HKC.out)
end Go.Proofs.Ytlakmniaocpaaaa
namespace Go.Proofs.Ytlakmniaocpaaaa
open Go.RowKit
theorem subst_nil (q : Nat) (hq : q ≤ 281474976710656) (t : GY) (v : Value) (w : World) (hfit : FitY q t) (hv : IsY w t v) :
    Calls Try.prog 23 #[v, .slice none 0 0] w fun e w' => ∃ u, e = .returned u ∧ IsYF w' w.heap.size t u ∧ Below w.heap.size w w' := by
  refine (subst_step [] none 0 0 rfl q hq (fun i y h => by simp at h) (SizeOf.sizeOf t + 1) t v w (by omega) hfit hv (IsYs.nil _ _ _)).mono ?_
  rintro e w' ⟨u, rfl, h1, h2⟩
  rw [sub_none] at h1
  exact ⟨u, rfl, h1, h2⟩
/-- What is put in, in memory of the call's own. -/
theorem substP_any (q : Nat) (hq : q ≤ 281474976710656) (us : List GY) (ou : Option Addr) (nu cu : Nat) (hnu : us.length = nu) (hus : FitYs q us) (t : GY) (v : Value) (w : World) (hfit : FitY q t) (hv : IsY w t v) (hu : IsYs w ou 0 us) :
    Calls Try.prog 23 #[v, .slice ou nu cu] w fun e w' => SubR us t w e w' :=
  subst_step us ou nu cu hnu q hq (fun _ y h v W hv => subst_nil q hq y v W (FitYs.mem hus y (List.mem_of_getElem? h)) hv) (SizeOf.sizeOf t + 1) t v w (by omega) hfit hv hu
end Go.Proofs.Ytlakmniaocpaaaa
namespace Go.Proofs.Ytlakmniaocpaaaa
open Go.RowKit
open Go.Lib hiding intOf
mutual
/-- A value is such a type, all of its parts in blocks of which P holds. -/
def IsYP (P : Nat → Prop) (w : World) : GY → Value → Prop
  | .mk k p m n args, v => ∃ (o : Option Addr) (c : Nat), v = .agg #[.int .i64 k, .string p, .string m, .int .i64 n, .slice o args.length c] ∧ args.length ≤ c ∧ c ≤ maxLen ∧ IsYPs P w o 0 args
def IsYPs (P : Nat → Prop) (w : World) (o : Option Addr) : Nat → List GY → Prop
  | _, [] => True
  | i, y :: r => (∃ (a : Addr) (c0 c1 c2 c3 c4 : Value), o = some a ∧ P a.block ∧ w.cell? (a.add (i * 5)) = some c0 ∧ w.cell? (a.add (i * 5 + 1)) = some c1 ∧ w.cell? (a.add (i * 5 + 2)) = some c2 ∧ w.cell? (a.add (i * 5 + 3)) = some c3 ∧ w.cell? (a.add (i * 5 + 4)) = some c4 ∧
      IsYP P w y (.agg #[c0, c1, c2, c3, c4])) ∧ IsYPs P w o (i + 1) r
end
mutual
theorem IsYP.keep {w w' : World} {P P' : Nat → Prop} (hP : ∀ (a : Addr) (u : Value), P a.block → w.cell? a = some u → P' a.block) (hk : ∀ (a : Addr) (u : Value), P a.block → w.cell? a = some u → w'.cell? a = some u) : ∀ {x : GY} {v : Value}, IsYP P w x v → IsYP P' w' x v
  | .mk .., _, h => by
    unfold IsYP at h ⊢
    obtain ⟨o, c, hv, hl, hc, ha⟩ := h
    exact ⟨o, c, hv, hl, hc, IsYPs.keep hP hk ha⟩
theorem IsYPs.keep {w w' : World} {P P' : Nat → Prop} (hP : ∀ (a : Addr) (u : Value), P a.block → w.cell? a = some u → P' a.block) (hk : ∀ (a : Addr) (u : Value), P a.block → w.cell? a = some u → w'.cell? a = some u) : ∀ {i : Nat} {xs : List GY} {o : Option Addr}, IsYPs P w o i xs → IsYPs P' w' o i xs
  | _, [], _, _ => by unfold IsYPs; trivial
  | i, y :: r, _, h => by
    unfold IsYPs at h ⊢
    obtain ⟨⟨a, c0, c1, c2, c3, c4, ho, hb, h0, h1, h2, h3, h4, hy⟩, hr⟩ := h
    have hbl : ∀ j, (a.add j).block = a.block := fun j => by unfold Addr.add; split <;> rfl
    have key : ∀ (j : Nat) (u : Value), w.cell? (a.add j) = some u → w'.cell? (a.add j) = some u := fun j u h => hk _ _ (by rw [hbl]; exact hb) h
    exact ⟨⟨a, c0, c1, c2, c3, c4, ho, by have := hP _ _ (by rw [hbl]; exact hb) h0; rwa [hbl] at this, key _ _ h0, key _ _ h1, key _ _ h2, key _ _ h3, key _ _ h4, IsYP.keep hP hk hy⟩, IsYPs.keep hP hk hr⟩
end
mutual
theorem IsYP.toY {w : World} {P : Nat → Prop} : ∀ {x : GY} {v : Value}, IsYP P w x v → IsY w x v
  | .mk .., _, h => by
    unfold IsYP at h
    unfold IsY
    obtain ⟨o, c, hv, hl, hc, ha⟩ := h
    exact ⟨o, c, hv, hl, hc, IsYPs.toYs ha⟩
theorem IsYPs.toYs {w : World} {P : Nat → Prop} : ∀ {i : Nat} {xs : List GY} {o : Option Addr}, IsYPs P w o i xs → IsYs w o i xs
  | _, [], _, _ => by unfold IsYs; trivial
  | i, y :: r, _, h => by
    unfold IsYPs at h
    unfold IsYs
    obtain ⟨⟨a, c0, c1, c2, c3, c4, ho, _, h0, h1, h2, h3, h4, hy⟩, hr⟩ := h
    exact ⟨⟨a, c0, c1, c2, c3, c4, ho, h0, h1, h2, h3, h4, IsYP.toY hy⟩, IsYPs.toYs hr⟩
end
mutual
/-- All that lies there lies below the heap's size. -/
theorem IsY.toP {w : World} {q : Nat} (hq : w.heap.size ≤ q) : ∀ {x : GY} {v : Value}, IsY w x v → IsYP (fun k => k < q) w x v
  | .mk .., _, h => by
    unfold IsY at h
    unfold IsYP
    obtain ⟨o, c, hv, hl, hc, ha⟩ := h
    exact ⟨o, c, hv, hl, hc, IsYs.toPs hq ha⟩
theorem IsYs.toPs {w : World} {q : Nat} (hq : w.heap.size ≤ q) : ∀ {i : Nat} {xs : List GY} {o : Option Addr}, IsYs w o i xs → IsYPs (fun k => k < q) w o i xs
  | _, [], _, _ => by unfold IsYPs; trivial
  | i, y :: r, _, h => by
    unfold IsYs at h
    unfold IsYPs
    obtain ⟨⟨a, c0, c1, c2, c3, c4, ho, h0, h1, h2, h3, h4, hy⟩, hr⟩ := h
    have hb := World.block_lt_of_cell? _ _ h0
    rw [show (a.add (i * 5)).block = a.block by unfold Addr.add; split <;> rfl] at hb
    exact ⟨⟨a, c0, c1, c2, c3, c4, ho, by omega, h0, h1, h2, h3, h4, IsY.toP hq hy⟩, IsYs.toPs hq hr⟩
end
theorem IsYP.below {P : Nat → Prop} {w w' : World} {x : GY} {v : Value} (h : IsYP P w x v) (hb : Below w.heap.size w w') : IsYP P w' x v :=
  h.keep (fun _ _ h _ => h) fun _ _ _ hc => (hb.cell (World.block_lt_of_cell? _ _ hc)).trans hc
theorem IsYPs.below {P : Nat → Prop} {w w' : World} {o : Option Addr} {i : Nat} {xs : List GY} (h : IsYPs P w o i xs) (hb : Below w.heap.size w w') : IsYPs P w' o i xs :=
  h.keep (fun _ _ h _ => h) fun _ _ _ hc => (hb.cell (World.block_lt_of_cell? _ _ hc)).trans hc
theorem IsYP.parts {P : Nat → Prop} {w : World} {k n : Int} {p m : ByteArray} {args : List GY} {v : Value} (h : IsYP P w (.mk k p m n args) v) : ∃ (o : Option Addr) (c : Nat), v = .agg #[.int .i64 k, .string p, .string m, .int .i64 n, .slice o args.length c] ∧ args.length ≤ c ∧ c ≤ maxLen ∧ IsYPs P w o 0 args := by
  unfold IsYP at h; exact h
theorem IsYP.cells {P : Nat → Prop} {w : World} {x : GY} {v : Value} (h : IsYP P w x v) : ∃ c0 c1 c2 c3 c4 : Value, v = .agg #[c0, c1, c2, c3, c4] ∧ ([c0, c1, c2, c3, c4] : List Value).all (·.oneCell') = true := by
  obtain ⟨k, p, m, n, args⟩ := x
  obtain ⟨o, c, rfl, _⟩ := h.parts
  exact ⟨_, _, _, _, _, rfl, rfl⟩
theorem IsYPs.at_ {P : Nat → Prop} {w : World} {o : Option Addr} : ∀ {xs : List GY} {i : Nat} (k : Nat) {y : GY}, IsYPs P w o i xs → xs[k]? = some y →
    ∃ (a : Addr) (c0 c1 c2 c3 c4 : Value), o = some a ∧ (∀ (j : Nat) (v : Value), [c0, c1, c2, c3, c4][j]? = some v → w.cell? ((a.add ((i + k) * 5)).add j) = some v) ∧ IsYP P w y (.agg #[c0, c1, c2, c3, c4])
  | [], _, _, _, _, h => by simp at h
  | x :: r, i, 0, y, h, hy => by
    simp at hy; subst hy
    unfold IsYPs at h
    obtain ⟨⟨a, c0, c1, c2, c3, c4, ho, _, h0, h1, h2, h3, h4, hy⟩, _⟩ := h
    exact ⟨a, c0, c1, c2, c3, c4, ho, row5 h0 h1 h2 h3 h4, hy⟩
  | x :: r, i, k + 1, y, h, hy => by
    unfold IsYPs at h
    have := IsYPs.at_ (i := i + 1) k h.2 (by simpa using hy)
    rwa [show i + 1 + k = i + (k + 1) by omega] at this
theorem IsYPs.mk' {P : Nat → Prop} {w : World} {g : Nat} (hg : P g) : ∀ {xs : List GY} {i : Nat}, (∀ (k : Nat) (y : GY), xs[k]? = some y → ∃ c0 c1 c2 c3 c4 : Value, (∀ (j : Nat) (v : Value), [c0, c1, c2, c3, c4][j]? = some v → w.cell? ⟨g, (i + k) * 5 + j, none⟩ = some v) ∧ IsYP P w y (.agg #[c0, c1, c2, c3, c4])) → IsYPs P w (some ⟨g, 0, none⟩) i xs
  | [], i, _ => by unfold IsYPs; trivial
  | y :: r, i, h => by
    unfold IsYPs
    obtain ⟨c0, c1, c2, c3, c4, hc, hy⟩ := h 0 y rfl
    rw [Nat.add_zero] at hc
    have e : ∀ j, (⟨g, 0, none⟩ : Addr).add j = ⟨g, j, none⟩ := fun j => by unfold Addr.add; split <;> simp_all
    refine ⟨⟨⟨g, 0, none⟩, c0, c1, c2, c3, c4, rfl, hg, by rw [e]; exact hc 0 _ rfl, by rw [e]; exact hc 1 _ rfl, by rw [e]; exact hc 2 _ rfl, by rw [e]; exact hc 3 _ rfl, by rw [e]; exact hc 4 _ rfl, hy⟩, IsYPs.mk' hg fun k z hz => ?_⟩
    have := h (k + 1) z (by simpa using hz)
    rwa [show i + (k + 1) = i + 1 + k by omega] at this
/-- An append onto a row of the call's own: where it lies, what has turned. -/
theorem run_append_tells {P : Program} (w : World) (base : Nat) (t ty e : TypeId) (i : TypeInfo) (z : Value) (size bytes : Nat) (ht : P.underlying t = some (.slice e)) (hi : P.info? e = some i) (hz : i.zero = some z)
    (hsize : i.size = size) (hby : i.bytes = bytes) (hzs : z.cells.size = size) (hsz : 0 < size)
    (v : Value) (n : Nat) (xs : List Value) (hown : w.ownsRow base e size v n xs)
    (a : Addr) (m c : Nat) (news : List Value) (hl : news.length = m * size) (hnews : ∀ j u, news[j]? = some u → w.cell? (a.add j) = some u) (h1 : ∀ u ∈ news, u.oneCell' = true)
    (h63 : n + m ≤ maxLen) (hbytes : (n + m) * bytes ≤ 140737488355328) (hbase : base ≤ w.heap.size) (hm : 0 < m) :
    ∃ v' w', (Builtin.append_ #[t, t] ty #[v, .slice (some a) m c]).run P w = .ok v' w' ∧ w'.ownsRow base e size v' (n + m) (xs ++ news) ∧
      ((∃ cap, v' = .slice (some ⟨w.heap.size, 0, none⟩) (n + m) cap ∧ w.grownBy w' none) ∨ ∃ g cap, v = .slice (some ⟨g, 0, none⟩) n cap ∧ v' = .slice (some ⟨g, 0, none⟩) (n + m) cap ∧ w.grownBy w' (some g)) := by
  obtain ⟨v', w', hrun, r1, r2, _⟩ := run_append_own (P := P) w base t ty e i z size bytes ht hi hz hsize hby hzs hsz v n xs hown a m c news hl hnews h1 h63 hbytes hbase
  refine ⟨v', w', hrun, r1, ?_⟩
  have hlim : n + m ≤ 9223372036854775807 := by simp only [maxLen] at h63; omega
  have fresh : ∀ o : Obj, w.grownBy (w.drew.alloc o) none := fun o => ⟨rfl, rfl, rfl, by simp, fun k hk _ => Below.heap_alloc w.drew _ k hk⟩
  rcases hown.2 with ⟨rfl, rfl⟩ | ⟨g, cap, cur, rfl, hbg, hg, hnc, hcm, hcs, htake⟩
  · have hr := run_append_nil (P := P) w t ty e i z ht hi hz a m c news (by rw [hsize]; exact hl) hnews hm (by omega) (by rw [hby]; have hb := hbytes; simp only [Nat.zero_add] at hb; omega)
    have hh := hrun.symm.trans hr
    injection hh with hv hw
    subst hw
    exact .inl ⟨_, by rw [hv, Nat.zero_add], fresh _⟩
  · by_cases hroom : n + m ≤ cap
    · obtain ⟨w2, hr, _, _⟩ := run_append_fits (P := P) w base t ty e i size ht hi hsize g n cap xs hown a m c news hl hnews h1 hroom
      have hh := hrun.symm.trans hr
      injection hh with hv hw
      exact .inr ⟨g, cap, rfl, hv, r2⟩
    · have hr := run_append_grow (P := P) w t ty e i z ht hi hz ⟨g, 0, none⟩ n cap xs (by rw [hsize]; exact hown.1) (hown.cells (g := g) rfl) a m c news (by rw [hsize]; exact hl) hnews (by omega) (by omega) (by rw [hby]; exact growslice_fits (by omega) hbytes)
      have hh := hrun.symm.trans hr
      injection hh with hv hw
      subst hw
      exact .inl ⟨_, hv, fresh _⟩
theorem wpList_append_tells (w : World) {ops : Array Oper} {rest : List Oper} {o : Oper} {a : Act} {Q : Exit → Act → World → Prop}
    (hg : o.guard = none) (s x : Operand) (t : TypeId) (hop : o.op = Op.call { callee := Callee.builtin Builtin.append, args := #[s, x], argTypes := #[t, t] })
    (base : Nat) (e : TypeId) (i : TypeInfo) (z : Value) (size bytes : Nat) (h1 : Try.prog.underlying t = some (.slice e)) (h2 : Try.prog.info? e = some i) (h3 : i.zero = some z) (h4 : i.size = size) (h5 : i.bytes = bytes) (h6 : z.cells.size = size) (h7 : 0 < size)
    (v : Value) (k : Nat) (xs : List Value) (hs : a.eval s = v) (hown : w.ownsRow base e size v k xs) (ob : Obj) (news : List Value) (hx : a.eval x = .slice (some ⟨w.heap.size, 0, none⟩) 1 1) (hn : news.length = size)
    (hc : ∀ j u, news[j]? = some u → (w.alloc ob).cell? ((⟨w.heap.size, 0, none⟩ : Addr).add j) = some u) (h1c : ∀ u ∈ news, u.oneCell' = true) (b1 : k + 1 ≤ maxLen) (b2 : (k + 1) * bytes ≤ 140737488355328) (b3 : base ≤ w.heap.size)
    (hK : ∀ o' c' w', w'.ownsRow base e size (.slice o' (k + 1) c') (k + 1) (xs ++ news) → Turn (fun k => v.ownBlock = some k) w w' → (∀ j, (Value.slice o' (k + 1) c').ownBlock = some j → v.ownBlock = some j ∨ w.heap.size ≤ j) → wpList Try.prog ops Q rest (a.put o.dst (.slice o' (k + 1) c')) w') :
    wpList Try.prog ops Q (o :: rest) a (w.alloc ob) := by
  refine wpList_plain hg fun K hK' => ?_
  obtain ⟨v', w', hrun, r1, r2⟩ := run_append_tells (P := Try.prog) (w.alloc ob) base t o.type e i z size bytes h1 h2 h3 h4 h5 h6 h7 v k xs (hown.alloc _) ⟨w.heap.size, 0, none⟩ 1 1 news (by rw [hn]; omega) hc h1c b1 b2 (by rw [World.size_alloc]; omega) (by decide)
  have h0 : Turn (fun k => v.ownBlock = some k) w (w.alloc ob) := (Turn.refl _ w).alloc _
  obtain ⟨o', c', rfl, hT, hfr⟩ : ∃ o' c', v' = .slice o' (k + 1) c' ∧ Turn (fun k => v.ownBlock = some k) w w' ∧ ∀ j, (Value.slice o' (k + 1) c').ownBlock = some j → v.ownBlock = some j ∨ w.heap.size ≤ j := by
    rcases r2 with ⟨cap, rfl, hg⟩ | ⟨g, cap, rfl, rfl, hg⟩
    · refine ⟨_, _, rfl, h0.trans ((Turn.of_grown hg).mono fun k _ hk => by cases hk), fun j hj => .inr ?_⟩
      simp only [Value.ownBlock, Option.some.injEq] at hj
      subst hj
      simp
    · exact ⟨_, _, rfl, h0.trans ((Turn.of_grown hg).mono fun k _ hk => by rw [hk]; rfl), fun j hj => .inl hj⟩
  unfold Oper.wp
  simp [execOp, hop, resolve, invoke, builtin, hs, hx, hrun, Result.andThen]
  exact hK' _ _ (hK o' c' w' r1 hT hfr)
mutual
theorem IsYF.toP {w : World} {B : Nat} : ∀ {x : GY} {v : Value}, IsYF w B x v → IsYP (fun k => B ≤ k) w x v
  | .mk .., _, h => by
    unfold IsYF at h
    unfold IsYP
    obtain ⟨o, c, hv, hl, hc, ha⟩ := h
    exact ⟨o, c, hv, hl, hc, IsYFs.toPs ha⟩
theorem IsYFs.toPs {w : World} {B : Nat} : ∀ {i : Nat} {xs : List GY} {o : Option Addr}, IsYFs w B o i xs → IsYPs (fun k => B ≤ k) w o i xs
  | _, [], _, _ => by unfold IsYPs; trivial
  | i, y :: r, _, h => by
    unfold IsYFs at h
    unfold IsYPs
    obtain ⟨⟨a, c0, c1, c2, c3, c4, ho, hb, h0, h1, h2, h3, h4, hy⟩, hr⟩ := h
    exact ⟨⟨a, c0, c1, c2, c3, c4, ho, hb, h0, h1, h2, h3, h4, IsYF.toP hy⟩, IsYFs.toPs hr⟩
end
/-! ### rows of any elements, their parts in blocks of a kind -/
/-- A row of elements of n cells each, in blocks of which P holds. -/
def IsRowP {α : Type} (n : Nat) (E : (Nat → Prop) → World → α → List Value → Prop) (P : Nat → Prop) (w : World) (o : Option Addr) (xs : List α) : Prop :=
  ∀ (i : Nat) (x : α), xs[i]? = some x → ∃ (a : Addr) (c : List Value), o = some a ∧ P a.block ∧ c.length = n ∧ (∀ (j : Nat) (u : Value), c[j]? = some u → w.cell? ((a.add (i * n)).add j) = some u) ∧ E P w x c
/-- What an element's fact stands. -/
def KeepsP {α : Type} (E : (Nat → Prop) → World → α → List Value → Prop) : Prop :=
  ∀ (w w' : World) (P P' : Nat → Prop) (x : α) (c : List Value), (∀ (a : Addr) (u : Value), P a.block → w.cell? a = some u → P' a.block) → (∀ (a : Addr) (u : Value), P a.block → w.cell? a = some u → w'.cell? a = some u) → E P w x c → E P' w' x c
theorem add_block (a : Addr) (j : Nat) : (a.add j).block = a.block := by unfold Addr.add; split <;> rfl
theorem IsRowP.keep {α : Type} {n : Nat} {E : (Nat → Prop) → World → α → List Value → Prop} (hE : KeepsP E) {w w' : World} {P P' : Nat → Prop} {o : Option Addr} {xs : List α} (hn : 0 < n) (hP : ∀ (a : Addr) (u : Value), P a.block → w.cell? a = some u → P' a.block) (hk : ∀ (a : Addr) (u : Value), P a.block → w.cell? a = some u → w'.cell? a = some u) (h : IsRowP n E P w o xs) : IsRowP n E P' w' o xs := fun i x hx => by
  obtain ⟨a, c, h1, h2, h3, h4, h5⟩ := h i x hx
  refine ⟨a, c, h1, ?_, h3, fun j u hu => hk _ _ (by rw [add_block, add_block]; exact h2) (h4 j u hu), hE _ _ _ _ _ _ hP hk h5⟩
  obtain ⟨u, hu⟩ : ∃ u, c[0]? = some u := ⟨_, List.getElem?_eq_getElem (by omega)⟩
  have := hP _ _ (by rw [add_block, add_block]; exact h2) (h4 0 u hu)
  rwa [add_block, add_block] at this
/-- Elements in a row of the call's own; their parts lie elsewhere. -/
def RowQ {α : Type} (T : TypeId) (n : Nat) (E : (Nat → Prop) → World → α → List Value → Prop) (w : World) (B : Nat) (o : Option Addr) (m c : Nat) (xs : List α) : Prop :=
  xs.length = m ∧ ∃ L : List (List Value), w.ownsRow B T n (.slice o m c) m L.flatten ∧ L.length = m ∧ (∀ x ∈ L, x.length = n) ∧ ∀ (i : Nat) (y : α) (x : List Value), xs[i]? = some y → L[i]? = some x → E (fun k => B ≤ k ∧ (Value.slice o m c).ownBlock ≠ some k) w y x
theorem flat_len {n : Nat} : ∀ {L : List (List Value)}, (∀ x ∈ L, x.length = n) → L.flatten.length = L.length * n
  | [], _ => by simp
  | y :: r, h => by
    rw [List.flatten_cons, List.length_append, h y (by simp), flat_len (L := r) fun x hx => h x (List.mem_cons_of_mem _ hx), List.length_cons, Nat.succ_mul]
    omega
theorem flat_at {n : Nat} : ∀ {L : List (List Value)} {i j : Nat} {x : List Value} {v : Value}, (∀ x ∈ L, x.length = n) → L[i]? = some x → x[j]? = some v → L.flatten[i * n + j]? = some v
  | [], _, _, _, _, _, h, _ => by simp at h
  | y :: r, 0, j, x, v, hl, h, hv => by
    simp at h; subst h
    have hj : j < y.length := (List.getElem?_eq_some_iff.1 hv).1
    rw [Nat.zero_mul, Nat.zero_add, List.flatten_cons, List.getElem?_append_left hj]
    exact hv
  | y :: r, i + 1, j, x, v, hl, h, hv => by
    have h5 : y.length = n := hl y (by simp)
    rw [List.flatten_cons, List.getElem?_append_right (by rw [h5, Nat.succ_mul]; omega), h5, show (i + 1) * n + j - n = i * n + j by rw [Nat.succ_mul]; omega]
    exact flat_at (L := r) (fun x hx => hl x (List.mem_cons_of_mem _ hx)) (by simpa using h) hv
section
variable {α : Type} {T : TypeId} {n : Nat} {E : (Nat → Prop) → World → α → List Value → Prop}
theorem RowQ.start (w : World) (B : Nat) : RowQ T n E w B none 0 0 [] :=
  ⟨rfl, [], World.ownsRow_nil _ _ _ _, rfl, fun x h => by simp at h, fun i y x h => by simp at h⟩
theorem RowQ.below (hE : KeepsP E) {w w' : World} {B : Nat} {o : Option Addr} {m c : Nat} {xs : List α} (h : RowQ T n E w B o m c xs) (hb : Below w.heap.size w w') : RowQ T n E w' B o m c xs := by
  obtain ⟨h5, L, h1, h2, h3, h4⟩ := h
  exact ⟨h5, L, (Turn.of_below hb).row h1 (fun k hk => by have := (h1.lt k hk).2; omega), h2, h3, fun i y x hy hx => hE _ _ _ _ _ _ (fun _ _ h _ => h) (fun _ _ _ hc => (hb.cell (World.block_lt_of_cell? _ _ hc)).trans hc) (h4 i y x hy hx)⟩
/-- One more. -/
theorem RowQ.next (hE : KeepsP E) {wr w' : World} {B : Nat} {o o' : Option Addr} {m c c' : Nat} {ys : List α} {y : α} {d : List Value} {L : List (List Value)}
    (h1 : wr.ownsRow B T n (.slice o m c) m L.flatten) (h2 : L.length = m) (h3 : ∀ x ∈ L, x.length = n) (h4 : ∀ (i : Nat) (y : α) (x : List Value), ys[i]? = some y → L[i]? = some x → E (fun k => B ≤ k ∧ (Value.slice o m c).ownBlock ≠ some k) wr y x) (h5 : ys.length = m)
    (hd : d.length = n) (hy : E (fun k => B ≤ k ∧ (Value.slice o m c).ownBlock ≠ some k) wr y d)
    (hrow : w'.ownsRow B T n (.slice o' (m + 1) c') (m + 1) (L.flatten ++ d))
    (hT : Turn (fun k => (Value.slice o m c).ownBlock = some k) wr w')
    (hfr : ∀ k, (Value.slice o' (m + 1) c').ownBlock = some k → (Value.slice o m c).ownBlock = some k ∨ wr.heap.size ≤ k) :
    RowQ T n E w' B o' (m + 1) c' (ys ++ [y]) := by
  have hkeep : ∀ {z : α} {x : List Value}, E (fun k => B ≤ k ∧ (Value.slice o m c).ownBlock ≠ some k) wr z x → E (fun k => B ≤ k ∧ (Value.slice o' (m + 1) c').ownBlock ≠ some k) w' z x := fun h =>
    hE _ _ _ _ _ _ (fun a u ha hc => ⟨ha.1, fun e => by
      rcases hfr _ e with h | h
      · exact ha.2 h
      · have := World.block_lt_of_cell? _ _ hc; omega⟩) (fun a u ha hc => hT.cell hc ha.2) h
  refine ⟨by simp [h5], L ++ [d], ?_, by simp [h2], fun x hx => ?_, fun i z x hz hx => ?_⟩
  · rw [List.flatten_append]
    simpa using hrow
  · rcases List.mem_append.1 hx with hx | hx
    · exact h3 x hx
    · rw [List.mem_singleton.1 hx]; exact hd
  · by_cases hi : i < m
    · rw [List.getElem?_append_left (by omega)] at hz hx
      exact hkeep (h4 i z x hz hx)
    · have hi' : i = m := by have := (List.getElem?_eq_some_iff.1 hz).1; simp [h5] at this; omega
      subst hi'
      rw [List.getElem?_append_right (by omega), h5, Nat.sub_self] at hz
      rw [List.getElem?_append_right (by omega), h2, Nat.sub_self] at hx
      simp at hz hx
      subst hz; subst hx
      exact hkeep hy
/-- The whole. -/
theorem RowQ.done (hE : KeepsP E) {w : World} {B : Nat} {o : Option Addr} {m c : Nat} {ys : List α} (h : RowQ T n E w B o m c ys) : m ≤ c ∧ c ≤ maxLen ∧ IsRowP n E (fun k => B ≤ k) w o ys := by
  obtain ⟨h5, L, h1, h2, h3, h4⟩ := h
  rcases h1.2 with ⟨e, h0⟩ | ⟨g, cap, cur, e, hg, _, g1, g2, _⟩
  · simp only [Value.slice.injEq] at e
    obtain ⟨rfl, rfl, rfl⟩ := e
    obtain rfl : ys = [] := List.length_eq_zero_iff.1 (by omega)
    exact ⟨Nat.le_refl _, Nat.zero_le _, fun i x h => by simp at h⟩
  · simp only [Value.slice.injEq] at e
    obtain ⟨rfl, _, rfl⟩ := e
    refine ⟨g1, g2, fun i y hy => ?_⟩
    have hi : i < m := by rw [← h5]; exact (List.getElem?_eq_some_iff.1 hy).1
    obtain ⟨x, hx⟩ : ∃ x, L[i]? = some x := ⟨_, List.getElem?_eq_getElem (by omega)⟩
    have hx5 := h3 x (List.mem_of_getElem? hx)
    refine ⟨_, x, rfl, hg, hx5, fun j v hv => ?_, hE _ _ _ _ _ _ (fun _ _ h _ => h.1) (fun _ _ _ hc => hc) (h4 i y x hy hx)⟩
    have hj : j < n := by rw [← hx5]; exact (List.getElem?_eq_some_iff.1 hv).1
    have e2 : ((⟨g, 0, none⟩ : Addr).add (i * n)).add j = ⟨g, i * n + j, none⟩ := by rw [add_more']; unfold Addr.add; split <;> simp_all
    have hlt : i * n + j < m * n := by have := Nat.mul_le_mul_right n (show i + 1 ≤ m by omega); rw [Nat.succ_mul] at this; omega
    rw [e2, h1.cellAt (i * n + j) hlt]
    exact flat_at h3 hx hv
end
/-! ### what was copied -/
def IsYPc (P : Nat → Prop) (w : World) (y : GY) (c : List Value) : Prop := c.length = 5 ∧ c.all (·.oneCell') = true ∧ IsYP P w y (.agg c.toArray)
theorem keepY : KeepsP IsYPc := fun _ _ _ _ _ _ hP hk h => ⟨h.1, h.2.1, h.2.2.keep hP hk⟩
def IsMdP (P : Nat → Prop) (w : World) (m : MD) (c : List Value) : Prop := ∃ (o : Option Addr) (k : Nat) (r0 r1 r2 r3 r4 : Value), c = [.string m.name, .slice o m.params.length k, r0, r1, r2, r3, r4] ∧ m.params.length ≤ k ∧ k ≤ maxLen ∧ IsRowP 5 IsYPc P w o m.params ∧ IsYP P w m.result (.agg #[r0, r1, r2, r3, r4])
theorem keepM : KeepsP IsMdP := fun _ _ _ _ _ _ hP hk ⟨o, k, r0, r1, r2, r3, r4, h1, h2, h3, h4, h5⟩ => ⟨o, k, r0, r1, r2, r3, r4, h1, h2, h3, IsRowP.keep (n := 5) keepY (by decide) hP hk h4, h5.keep hP hk⟩
def IsFdP (P : Nat → Prop) (w : World) (f : ByteArray × GY) (c : List Value) : Prop := ∃ (r0 r1 r2 r3 r4 : Value), c = [.string f.1, r0, r1, r2, r3, r4] ∧ IsYP P w f.2 (.agg #[r0, r1, r2, r3, r4])
theorem keepF : KeepsP IsFdP := fun _ _ _ _ _ _ hP hk ⟨r0, r1, r2, r3, r4, h1, h5⟩ => ⟨r0, r1, r2, r3, r4, h1, h5.keep hP hk⟩
def IsTdP (P : Nat → Prop) (w : World) (d : TD) (c : List Value) : Prop := ∃ (o1 o2 : Option Addr) (k1 k2 : Nat), c = [.string d.name, .bool d.strct, .slice o1 d.fields.length k1, .slice o2 d.meths.length k2] ∧ d.fields.length ≤ k1 ∧ k1 ≤ maxLen ∧ d.meths.length ≤ k2 ∧ k2 ≤ maxLen ∧ IsRowP 6 IsFdP P w o1 d.fields ∧ IsRowP 7 IsMdP P w o2 d.meths
theorem keepT : KeepsP IsTdP := fun _ _ _ _ _ _ hP hk ⟨o1, o2, k1, k2, h1, h2, h3, h4, h5, h6, h7⟩ => ⟨o1, o2, k1, k2, h1, h2, h3, h4, h5, IsRowP.keep (n := 6) keepF (by decide) hP hk h6, IsRowP.keep (n := 7) keepM (by decide) hP hk h7⟩
theorem IsRowP.toYs {P : Nat → Prop} {w : World} {o : Option Addr} {xs : List GY} (h : IsRowP 5 IsYPc P w o xs) : IsYs w o 0 xs := by
  cases o with
  | none =>
    cases xs with
    | nil => exact IsYs.nil _ _ _
    | cons y r => obtain ⟨_, _, e, _⟩ := h 0 y rfl; cases e
  | some a =>
    refine IsYs.mk' fun k y hy => ?_
    obtain ⟨a', c, e, _, h3, h4, h5, h6, h7⟩ := h k y hy
    cases e
    match c, h3, h4, h7 with
    | [c0, c1, c2, c3, c4], _, h4, h7 =>
      refine ⟨c0, c1, c2, c3, c4, fun j v hv => ?_, h7.toY⟩
      rw [Nat.zero_add, ← add_more']
      exact h4 j v hv
theorem IsMdP.toM {P : Nat → Prop} {w : World} {m : MD} {c : List Value} (h : IsMdP P w m c) : IsMd w m c := by
  obtain ⟨o, k, r0, r1, r2, r3, r4, h1, h2, h3, h4, h5⟩ := h
  exact ⟨o, k, r0, r1, r2, r3, r4, h1, h2, h3, h4.toYs, h5.toY⟩
theorem IsFdP.toF {P : Nat → Prop} {w : World} {m : ByteArray × GY} {c : List Value} (h : IsFdP P w m c) : IsFd w m c := by
  obtain ⟨r0, r1, r2, r3, r4, h1, h5⟩ := h
  exact ⟨r0, r1, r2, r3, r4, h1, h5.toY⟩
theorem IsRowP.toR {α : Type} {n : Nat} {E : (Nat → Prop) → World → α → List Value → Prop} {F : World → α → List Value → Prop} {P : Nat → Prop} {w : World} {o : Option Addr} {xs : List α} (hF : ∀ x c, E P w x c → F w x c) (h : IsRowP n E P w o xs) : IsRow n F w o xs := fun i x hx => by
  obtain ⟨a, c, h1, _, h3, h4, h5⟩ := h i x hx
  exact ⟨a, c, h1, h3, h4, hF _ _ h5⟩
theorem IsTdP.toT {P : Nat → Prop} {w : World} {d : TD} {c : List Value} (h : IsTdP P w d c) : IsTd w d c := by
  obtain ⟨o1, o2, k1, k2, h1, h2, h3, h4, h5, h6, h7⟩ := h
  exact ⟨o1, o2, k1, k2, h1, h2, h3, h4, h5, h6.toR fun _ _ h => h.toF, h7.toR fun _ _ h => h.toM⟩
theorem IsMdP.ones {P : Nat → Prop} {w : World} {m : MD} {c : List Value} (h : IsMdP P w m c) : c.length = 7 ∧ c.all (·.oneCell') = true := h.toM.ones
theorem IsFdP.ones {P : Nat → Prop} {w : World} {m : ByteArray × GY} {c : List Value} (h : IsFdP P w m c) : c.length = 6 ∧ c.all (·.oneCell') = true := by
  obtain ⟨r0, r1, r2, r3, r4, rfl, h5⟩ := h
  have := h5.toY.ones
  simp only [List.all_cons, List.all_nil, Bool.and_true, Bool.and_eq_true] at this ⊢
  exact ⟨rfl, rfl, this⟩
theorem IsYPc.ones {P : Nat → Prop} {w : World} {m : GY} {c : List Value} (h : IsYPc P w m c) : c.length = 5 ∧ c.all (·.oneCell') = true := ⟨h.1, h.2.1⟩
end Go.Proofs.Ytlakmniaocpaaaa
namespace Go.Proofs.Ytlakmniaocpaaaa
open Go.RowKit
open Go.Lib hiding intOf
/-! ### a row of types of the call's own -/
def dY (L : List (List Value)) : List Value := L.flatten
/-- Types in a row of the call's own: each one's cells, and what they say; their parts lie elsewhere. -/
structure RowY (w0 wr : World) (B : Nat) (Q : Nat → Prop) (o : Option Addr) (n c : Nat) (ys : List GY) : Prop where
  row : ∃ L : List (List Value), wr.ownsRow B 34 5 (.slice o n c) n (dY L) ∧ L.length = n ∧ (∀ x ∈ L, x.length = 5) ∧ ∀ (i : Nat) (y : GY) (x : List Value), ys[i]? = some y → L[i]? = some x → IsYP (fun k => (Q k ∨ B ≤ k) ∧ (Value.slice o n c).ownBlock ≠ some k) wr y (.agg x.toArray)
  len : ys.length = n
theorem dY_at : ∀ {L : List (List Value)} {i j : Nat} {x : List Value} {v : Value}, (∀ x ∈ L, x.length = 5) → L[i]? = some x → x[j]? = some v → (dY L)[i * 5 + j]? = some v
  | [], _, _, _, _, _, h, _ => by simp at h
  | y :: r, 0, j, x, v, hl, h, hv => by
    simp at h; subst h
    have hj : j < y.length := (List.getElem?_eq_some_iff.1 hv).1
    rw [Nat.zero_mul, Nat.zero_add]
    show (List.flatten (y :: r))[j]? = _
    rw [List.flatten_cons, List.getElem?_append_left hj]
    exact hv
  | y :: r, i + 1, j, x, v, hl, h, hv => by
    have h5 : y.length = 5 := hl y (by simp)
    show (List.flatten (y :: r))[(i + 1) * 5 + j]? = _
    rw [List.flatten_cons, List.getElem?_append_right (by omega), h5, show (i + 1) * 5 + j - 5 = i * 5 + j by omega]
    exact dY_at (L := r) (fun x hx => hl x (List.mem_cons_of_mem _ hx)) (by simpa using h) hv
theorem dY_len : ∀ {L : List (List Value)}, (∀ x ∈ L, x.length = 5) → (dY L).length = L.length * 5
  | [], _ => rfl
  | y :: r, h => by
    show (List.flatten (y :: r)).length = _
    rw [List.flatten_cons, List.length_append, h y (by simp)]
    have := dY_len (L := r) fun x hx => h x (List.mem_cons_of_mem _ hx)
    unfold dY at this
    rw [this, List.length_cons]
    omega
theorem RowY.start (w0 wr : World) (B : Nat) (Q : Nat → Prop) : RowY w0 wr B Q none 0 0 [] := by
  refine ⟨⟨[], World.ownsRow_nil _ _ _ _, rfl, ?_, ?_⟩, rfl⟩
  · intro x h; simp at h
  · intro i y x h; simp at h
theorem RowY.below {w0 wr w' : World} {B : Nat} {Q : Nat → Prop} {o : Option Addr} {n c : Nat} {ys : List GY} (h : RowY w0 wr B Q o n c ys) (hb : Below wr.heap.size wr w') : RowY w0 w' B Q o n c ys := by
  obtain ⟨⟨L, h1, h2, h3, h4⟩, h5⟩ := h
  exact ⟨⟨L, (Turn.of_below hb).row h1 (fun k hk => by have := (h1.lt k hk).2; omega), h2, h3, fun i y x hy hx => (h4 i y x hy hx).below hb⟩, h5⟩
/-- One more. -/
theorem RowY.next {w0 wr w' : World} {B : Nat} {Q : Nat → Prop} {o o' : Option Addr} {n c c' : Nat} {ys : List GY} {y : GY} {c0 c1 c2 c3 c4 : Value} {L : List (List Value)}
    (h1 : wr.ownsRow B 34 5 (.slice o n c) n (dY L)) (h2 : L.length = n) (h3 : ∀ x ∈ L, x.length = 5) (h4 : ∀ (i : Nat) (y : GY) (x : List Value), ys[i]? = some y → L[i]? = some x → IsYP (fun k => (Q k ∨ B ≤ k) ∧ (Value.slice o n c).ownBlock ≠ some k) wr y (.agg x.toArray)) (h5 : ys.length = n)
    (hy : IsYP (fun k => (Q k ∨ B ≤ k) ∧ (Value.slice o n c).ownBlock ≠ some k) wr y (.agg #[c0, c1, c2, c3, c4]))
    (hrow : w'.ownsRow B 34 5 (.slice o' (n + 1) c') (n + 1) (dY L ++ [c0, c1, c2, c3, c4]))
    (hT : Turn (fun k => (Value.slice o n c).ownBlock = some k) wr w')
    (hfr : ∀ k, (Value.slice o' (n + 1) c').ownBlock = some k → (Value.slice o n c).ownBlock = some k ∨ wr.heap.size ≤ k) :
    RowY w0 w' B Q o' (n + 1) c' (ys ++ [y]) := by
  have hkeep : ∀ {z : GY} {v : Value}, IsYP (fun k => (Q k ∨ B ≤ k) ∧ (Value.slice o n c).ownBlock ≠ some k) wr z v → IsYP (fun k => (Q k ∨ B ≤ k) ∧ (Value.slice o' (n + 1) c').ownBlock ≠ some k) w' z v := fun h =>
    h.keep (fun a u ha hc => ⟨ha.1, fun e => by
      rcases hfr _ e with h | h
      · exact ha.2 h
      · have := World.block_lt_of_cell? _ _ hc; omega⟩) fun a u ha hc => hT.cell hc ha.2
  refine ⟨⟨L ++ [[c0, c1, c2, c3, c4]], ?_, by simp [h2], fun x hx => ?_, fun i z x hz hx => ?_⟩, by simp [h5]⟩
  · show World.ownsRow _ _ _ _ _ _ (List.flatten (L ++ [[c0, c1, c2, c3, c4]]))
    rw [List.flatten_append]
    simpa [dY] using hrow
  · rcases List.mem_append.1 hx with hx | hx
    · exact h3 x hx
    · rw [List.mem_singleton.1 hx]; rfl
  · by_cases hi : i < n
    · rw [List.getElem?_append_left (by omega)] at hz hx
      exact hkeep (h4 i z x hz hx)
    · have hi' : i = n := by have := (List.getElem?_eq_some_iff.1 hz).1; simp [h5] at this; omega
      subst hi'
      rw [List.getElem?_append_right (by omega), h5, Nat.sub_self] at hz
      rw [List.getElem?_append_right (by omega), h2, Nat.sub_self] at hx
      simp at hz hx
      subst hz; subst hx
      exact hkeep hy
/-- The whole. -/
theorem RowY.done {w0 wr w' : World} {B : Nat} {Q : Nat → Prop} {o : Option Addr} {n c : Nat} {ys : List GY} (h : RowY w0 wr B Q o n c ys) (hk : ∀ (a : Addr) (u : Value), (Q a.block ∨ B ≤ a.block) → wr.cell? a = some u → w'.cell? a = some u) : IsYPs (fun k => Q k ∨ B ≤ k) w' o 0 ys := by
  obtain ⟨⟨L, h1, h2, h3, h4⟩, h5⟩ := h
  rcases h1.2 with ⟨e, h0⟩ | ⟨g, cap, cur, e, hg, _⟩
  · obtain rfl : ys = [] := List.length_eq_zero_iff.1 (by omega)
    unfold IsYPs; trivial
  · simp only [Value.slice.injEq] at e
    obtain ⟨rfl, _, rfl⟩ := e
    refine IsYPs.mk' (.inr hg) fun i y hy => ?_
    have hi : i < n := by rw [← h5]; exact (List.getElem?_eq_some_iff.1 hy).1
    obtain ⟨x, hx⟩ : ∃ x, L[i]? = some x := ⟨_, List.getElem?_eq_getElem (by omega)⟩
    have hx5 := h3 x (List.mem_of_getElem? hx)
    have hiy := h4 i y x hy hx
    match x, hx5, hx, hiy with
    | [c0, c1, c2, c3, c4], _, hx, hiy =>
      refine ⟨c0, c1, c2, c3, c4, fun j v hv => ?_, hiy.keep (fun _ _ h _ => h.1) fun a u ha hc => hk a u ha.1 hc⟩
      refine hk ⟨g, (0 + i) * 5 + j, none⟩ v (.inr hg) ?_
      have hj : j < 5 := (List.getElem?_eq_some_iff.1 hv).1
      rw [Nat.zero_add, h1.cellAt (i * 5 + j) (by omega)]
      exact dY_at h3 hx hv
theorem cnt_pos : ∀ y : GY, 1 ≤ cntY y
  | .mk .. => by rw [cntY]; omega
theorem cnt_len : ∀ l : List GY, l.length ≤ cntYs l
  | [] => by rw [cntYs]; exact Nat.le_refl _
  | y :: r => by
    have := cnt_len r
    have := cnt_pos y
    rw [cntYs, List.length_cons]
    omega
theorem cnt_mem (z : GY) : ∀ l : List GY, z ∈ l → cntY z ≤ cntYs l
  | [], h => by cases h
  | y :: r, h => by
    rw [cntYs]
    rcases List.mem_cons.1 h with rfl | h
    · omega
    · have := cnt_mem z r h; omega
theorem one_cells (w : World) (b0 b1 b2 b3 b4 : Value) : ∀ (j : Nat) (u : Value), [b0, b1, b2, b3, b4][j]? = some u → (w.alloc (.cells #[b0, b1, b2, b3, b4] 34)).cell? ((⟨w.heap.size, 0, none⟩ : Addr).add j) = some u := fun j u hu => by
  have e : (⟨w.heap.size, 0, none⟩ : Addr).add j = ⟨w.heap.size, j, none⟩ := by unfold Addr.add; split <;> simp_all
  rw [e, (Blk.new w 34 #[b0, b1, b2, b3, b4]).cell]
  simpa using hu
/-! ### the document's -/
def SubQ (us : List GY) (Q : Nat → Prop) (t : GY) (w : World) (e : Ending) (w' : World) : Prop := ∃ u, e = .returned u ∧ IsYP (fun k => Q k ∨ w.heap.size ≤ k) w' (subY us t) u ∧ Below w.heap.size w w'
set_option maxRecDepth 100000 in
set_option maxHeartbeats 8000000 in
theorem subR_any (us : List GY) (ou : Option Addr) (nu cu : Nat) (hnu : us.length = nu) (Q : Nat → Prop) :
    ∀ (s : Nat) (t : GY) (v : Value) (w : World), SizeOf.sizeOf t < s → cntY t ≤ 1000000 → (∀ k, Q k → k < w.heap.size) → IsYP (fun k => Q k) w t v → IsYPs (fun k => Q k) w ou 0 us → Calls Try.prog 34 #[v, .slice ou nu cu] w fun e w' => SubQ us Q t w e w' := by
  intro s
  induction s with
  | zero => intro t v w h; omega
  | succ s ih =>
  rintro ⟨k, p, m, n, l⟩ v w hs hcn hqw hv hus
  obtain ⟨o, c, rfl, hl, hc, ha⟩ := hv.parts
  rw [cntY] at hcn
  obtain ⟨N, hN⟩ : ∃ N, l.length = N := ⟨_, rfl⟩
  have hN1 : N ≤ 1000000 := by
    have : l.length ≤ cntYs l := cnt_len l
    omega
  have HI : Hid (∀ z ∈ l, ∀ (v : Value) (W : World), IsYP (fun k => Q k) W z v → Below w.heap.size w W → Calls Try.prog 34 #[v, .slice ou nu cu] W fun e w' => SubQ us Q z W e w') :=
    fun z hz v W hv hb => ih z v W (by have := List.sizeOf_lt_of_mem hz; simp at hs; omega) (by have := cnt_mem z l hz; omega) (fun k hk => Nat.lt_of_lt_of_le (hqw k hk) hb.size) hv (hus.below hb)
  rw [hN] at hl ⊢
  have HN := Lib.hid hN
  have HX := Lib.hid ha
  have HUS := Lib.hid hus
  have HNU := Lib.hid hnu
  have HQ := Lib.hid hqw
  have hbx := box2 w #[.int .i64 k, .string p, .string m, .int .i64 n, .slice o N c] #[.int .i64 0, .string ⟨#[]⟩, .string ⟨#[]⟩, .int .i64 0, .slice none 0 0]
  obtain ⟨W2, hW2⟩ : ∃ W2, ((w.alloc (.cells #[.int .i64 k, .string p, .string m, .int .i64 n, .slice o N c] 34)).alloc (.cells #[.int .i64 0, .string ⟨#[]⟩, .string ⟨#[]⟩, .int .i64 0, .slice none 0 0] 34)) = W2 := ⟨_, rfl⟩
  rw [hW2] at hbx
  have HBX := Lib.hid hbx
  have HW2 := Lib.hid hW2
  clear hv ha hus hs ih hN hnu hbx hW2 hcn hqw
  by_cases hin : k = 6 ∧ 0 ≤ n ∧ n < nu
  · obtain ⟨rfl, hn0, hn1⟩ := hin
    obtain ⟨i, rfl⟩ : ∃ i : Nat, n = (i : Int) := ⟨n.toNat, by omega⟩
    have hi : i < nu := by omega
    obtain ⟨y, hy⟩ : ∃ y, us[i]? = some y := ⟨_, List.getElem?_eq_getElem (by rw [HNU.out]; exact hi)⟩
    have hsub : subY us (.mk 6 p m (i : Int) l) = y := by
      rw [subY, if_pos ⟨rfl, hn0, by rw [HNU.out]; exact hn1⟩, List.getD_eq_getElem?_getD]
      simp [hy]
    obtain ⟨a, a0, a1, a2, a3, a4, rfl, hca, hya⟩ := HUS.out.at_ i hy
    rw [Nat.zero_add] at hca
    have hww : Below w.heap.size w W2 := HBX.out.below
    have HC : Hid (∀ (j : Nat) (v : Value), [a0, a1, a2, a3, a4][j]? = some v → W2.cell? ((a.add (i * 5)).add j) = some v) := fun j v h => (hww.cell (World.block_lt_of_cell? _ _ (hca j v h))).trans (hca j v h)
    have HO := Lib.hid hya.toY.ones
    have HY := Lib.hid hya
    have HSUB := Lib.hid hsub
    have HWW := Lib.hid hww
    have c0 : W2.cell? ⟨w.heap.size, 0, none⟩ = some (.int .i64 6) := HBX.out.one.cell 0
    have c3 : W2.cell? ⟨w.heap.size, 3, none⟩ = some (.int .i64 (i : Int)) := HBX.out.one.cell 3
    clear hca hya hww hsub hy
    go_enter Try.func34, Try.ntmps34
    go_upto_if 21 with fail
    change Code.wp Try.prog _ _ _ ((w.alloc (.cells #[.int .i64 6, .string p, .string m, .int .i64 (i : Int), .slice o N c] 34)).alloc (.cells #[.int .i64 0, .string ⟨#[]⟩, .string ⟨#[]⟩, .int .i64 0, .slice none 0 0] 34))
    rw [HW2.out]
    go_wp2_with (first
      | (refine boxLoadG 34 5 size5 Try.underlying34 rfl _ rfl _ rfl (cs := [a0, a1, a2, a3, a4]) HC.out rfl ?_)
      | (refine boxStore 34 5 size5 rfl _ _ rfl (w.heap.size + 1) rfl [a0, a1, a2, a3, a4] rfl HBX.out.two rfl rfl HO.out ?_))
    refine bodyPost_ret (v := .agg #[a0, a1, a2, a3, a4]) ?_ rfl ⟨_, rfl, ?_, below_setRow HWW.out (Nat.le_succ _) _⟩
    · exact boxRes 34 5 size5 Try.underlying34 Try.results34 _ (w.heap.size + 1) rfl (HBX.out.two.row _) rfl
    · rw [HSUB.out]
      exact HY.out.keep (fun a u h _ => .inl h) fun x u hx hc => ((below_setRow HWW.out (Nat.le_succ _) _).cell (by have := HQ.out _ hx; omega)).trans hc
  · have c0 : W2.cell? ⟨w.heap.size, 0, none⟩ = some (.int .i64 k) := HBX.out.one.cell 0
    go_enter Try.func34, Try.ntmps34
    go_upto_region 1 with fail
    change Code.wp Try.prog _ _ _ ((w.alloc (.cells #[.int .i64 k, .string p, .string m, .int .i64 n, .slice o N c] 34)).alloc (.cells #[.int .i64 0, .string ⟨#[]⟩, .string ⟨#[]⟩, .int .i64 0, .slice none 0 0] 34))
    rw [HW2.out]
    go_cut [1, 2, 4, 21] from 7 to 20 (fun v1 v2 v4 v21 wx => v1 = .slice ou nu cu ∧ v2 = .pointer (some ⟨w.heap.size, 0, none⟩) ∧ v4 = .pointer (some ⟨w.heap.size + 1, 0, none⟩) ∧ v21 = .bool false ∧ wx = W2)
    case first =>
      have c3 : W2.cell? ⟨w.heap.size, 3, none⟩ = some (.int .i64 n) := HBX.out.one.cell 3
      by_cases h6 : k = 6
      · subst h6
        by_cases hn0 : 0 ≤ n
        · have hn1 : ¬ n < nu := fun h => hin ⟨rfl, hn0, h⟩
          have e0 := decide_eq_true hn0
          have e1 := decide_eq_false hn1
          clear hin
          go_wp2
          go_meet
          exact ⟨rfl, rfl, rfl, rfl, rfl⟩
        · have e0 := decide_eq_false hn0
          clear hin
          go_wp2
          go_meet
          exact ⟨rfl, rfl, rfl, rfl, rfl⟩
      · have e0 : (k == 6) = false := beq_eq_false_iff_ne.2 h6
        clear hin
        go_wp2
        go_meet
        exact ⟨rfl, rfl, rfl, rfl, rfl⟩
    case rest =>
      obtain ⟨rfl, rfl, rfl, rfl, rfl⟩ := hcut
      clear c0
      have hsub : subY us (.mk k p m n l) = .mk k p m n (subYs us l) := by rw [subY, if_neg (by rw [HNU.out]; exact hin)]
      have HSUB := Lib.hid hsub
      clear hsub hin
      go_wp2
      go_loopw [5, 6] (fun v i wr => ∃ (j : Nat) (o' : Option Addr) (c' : Nat), v = .slice o' j c' ∧ i = .int .i64 (j : Nat) ∧ Hid (j ≤ N) ∧ Hid (In2 wc wr w.heap.size #[.int .i64 k, .string p, .string m, .int .i64 n, .slice o N c] #[.int .i64 0, .string ⟨#[]⟩, .string ⟨#[]⟩, .int .i64 0, .slice none 0 0]) ∧ Hid (RowY w wr (w.heap.size + 1 + 1) Q o' j c' ((subYs us l).take j))) (fun _ i _ => N - (RowKit.intOf i).toNat)
      case atStart => exact ⟨0, none, 0, rfl, rfl, Nat.zero_le _, HBX.out.start, by show RowY _ _ _ _ _ _ _ (List.take 0 _); rw [List.take_zero]; exact RowY.start _ _ _ _⟩
      case round =>
        obtain ⟨j, o', c', rfl, rfl, HJ, HR, HRY⟩ := hrel
        have c4 : wr.cell? ⟨w.heap.size, 4, none⟩ = some (.slice o N c) := HR.out.one.cell 4
        have hsz : w.heap.size + 1 + 1 ≤ wr.heap.size := by have := HR.out.two.lt; omega
        by_cases hj : j < N
        · have hj' : ((j : Int) < (N : Int)) := by omega
          have hj0 : (0 : Int) ≤ (j : Int) := by omega
          have hwj := IntWalk.i64_in ((j : Int) + 1) ⟨by omega, by omega⟩
          obtain ⟨x, hx⟩ : ∃ x, l[j]? = some x := ⟨_, List.getElem?_eq_getElem (by rw [HN.out]; exact hj)⟩
          have hmem := List.mem_of_getElem? hx
          obtain ⟨a', d0, d1, d2, d3, d4, rfl, hcx, hyx⟩ := HX.out.at_ j hx
          rw [Nat.zero_add] at hcx
          have hwr : Below w.heap.size w wr := HBX.out.below.trans (HR.out.below.mono (by omega))
          have HC : Hid (∀ (i : Nat) (v : Value), [d0, d1, d2, d3, d4][i]? = some v → wr.cell? ((a'.add (j * 5)).add i) = some v) := fun i v h => (hwr.cell (World.block_lt_of_cell? _ _ (hcx i v h))).trans (hcx i v h)
          have HF := Lib.hid (HI.out x hmem _ wr (hyx.below hwr) hwr)
          have HT : Hid ((subYs us l).take (j + 1) = (subYs us l).take j ++ [subY us x]) := by
            show _ = _
            rw [List.take_add_one, subs_map, List.getElem?_map, hx]
            rfl
          obtain ⟨i0, hi, hz0, hz1, hz2⟩ := info_parts infoTT
          have HJN := Lib.hid hj
          clear hcx hmem hyx hwr hx
          go_wp2_with (first
            | (refine boxLoadG 34 5 size5 Try.underlying34 rfl _ rfl _ rfl (cs := [d0, d1, d2, d3, d4]) HC.out rfl ?_)
            | (refine HF.out.mono ?_; rintro e w8 ⟨u, rfl, hu, hb⟩; obtain ⟨b0, b1, b2, b3, b4, rfl, ho⟩ := hu.cells; have HO8 := Lib.hid ho; have HU8 := Lib.hid hu; have HR8 := Lib.hid (HR.out.step HBX.out.size hb); have HRY8 := Lib.hid (HRY.out.below hb); have HSZ8 : Hid (wr.heap.size ≤ w8.heap.size) := hb.size; obtain ⟨⟨L, hL1, hL2, hL3, hL4⟩, hL5⟩ := HRY8.out; have HL1 := Lib.hid hL1; have HL2 := Lib.hid hL2; have HL3 := Lib.hid hL3; have HL4 := Lib.hid hL4; have HL5 := Lib.hid hL5; clear ho hu hb hL1 hL2 hL3 hL4 hL5)
            | (refine boxRow1 23 34 5 (.agg #[.int .i64 0, .string ⟨#[]⟩, .string ⟨#[]⟩, .int .i64 0, .slice none 0 0]) Try.underlying23 (by kernel_rfl) rfl (by decide) rfl _ rfl [b0, b1, b2, b3, b4] rfl rfl ?_)
            | (refine wpList_append_tells w8 rfl _ _ 23 rfl (w.heap.size + 1 + 1) 34 i0 (.agg #[.int .i64 0, .string ⟨#[]⟩, .string ⟨#[]⟩, .int .i64 0, .slice none 0 0]) 5 72 Try.underlying23 hi hz0 hz1 hz2 rfl (by decide) (.slice o' j c') j (dY L) rfl HL1.out _ [b0, b1, b2, b3, b4] rfl rfl (one_cells w8 b0 b1 b2 b3 b4) (by simpa using HO8.out) (by unfold maxLen; omega) (by omega) (by have := HSZ8.out; omega) ?_; intro o9 c9 w9 hrow hT9 hfr; have HROW := Lib.hid hrow; have HT9 := Lib.hid hT9; have HFR := Lib.hid hfr; clear hrow hT9 hfr))
          case roundEnd =>
            have hu8 : IsYP (fun k => (Q k ∨ w.heap.size + 1 + 1 ≤ k) ∧ (Value.slice o' j c').ownBlock ≠ some k) w8 (subY us x) (.agg #[b0, b1, b2, b3, b4]) := HU8.out.keep (fun a u h _ => by
              have hrow := HRY.out.row
              obtain ⟨L', hL', _⟩ := hrow
              refine ⟨h.imp id fun h => by omega, fun e => ?_⟩
              have := hL'.lt _ e
              rcases h with h | h
              · have := HQ.out _ h; omega
              · omega) fun _ _ _ h => h
            have hN := RowY.next (w0 := w) HL1.out HL2.out HL3.out HL4.out HL5.out hu8 HROW.out HT9.out HFR.out
            have hT := HT9.out
            refine ⟨⟨j + 1, o9, c9, rfl, by push_cast; rfl, hj, ⟨?_, ?_, ?_⟩, by show RowY _ _ _ _ _ _ _ _; rw [HT.out]; exact hN⟩, by simp [RowKit.intOf]; omega⟩
            · exact HR8.out.below.trans (hT.below (by have := HSZ8.out; omega) fun k hk => by have := (HL1.out.lt k hk).1; omega)
            · exact (hT.block _ HR8.out.one.lt fun hk => by have := (HL1.out.lt _ hk).1; omega).trans HR8.out.one
            · exact (hT.block _ HR8.out.two.lt fun hk => by have := (HL1.out.lt _ hk).1; omega).trans HR8.out.two
        · have hj' : ¬ ((j : Int) < (N : Int)) := by omega
          have hjN := HJ.out
          obtain rfl : j = N := by omega
          have hfull : (subYs us l).take j = subYs us l := List.take_of_length_le (by rw [subs_map, List.length_map, HN.out]; exact Nat.le_refl _)
          have hRY := HRY.out
          rw [hfull] at hRY
          have f4 : wr.frozen? ⟨w.heap.size, 4, none⟩ = false := HR.out.one.frozen 4
          obtain ⟨w9, hw9⟩ : ∃ w9, wr.setCell ⟨w.heap.size, 4, none⟩ (.slice o' j c') = w9 := ⟨_, rfl⟩
          have hk9 : Blk w9 w.heap.size 34 #[.int .i64 k, .string p, .string m, .int .i64 n, .slice o' j c'] := by rw [← hw9]; exact HR.out.one.set_ 4 _
          have hk9' : Blk w9 (w.heap.size + 1) 34 #[.int .i64 0, .string ⟨#[]⟩, .string ⟨#[]⟩, .int .i64 0, .slice none 0 0] := by rw [← hw9]; exact HR.out.two.far (by show w.heap.size + 1 ≠ w.heap.size; omega) _
          have hb9 : Below w.heap.size w w9 := by
            have h0 : Below w.heap.size w wr := HBX.out.below.trans (HR.out.below.mono (by omega))
            rw [← hw9]
            exact h0.setCell (p := ⟨w.heap.size, 4, none⟩) (Nat.le_refl _) _
          have hkc : ∀ (x : Addr) (u : Value), (Q x.block ∨ w.heap.size + 1 + 1 ≤ x.block) → wr.cell? x = some u → (w9.setRow (w.heap.size + 1) #[.int .i64 k, .string p, .string m, .int .i64 n, .slice o' j c']).cell? x = some u := fun x u hx hc => by
            have := hx.imp (HQ.out _) id
            refine (World.cell?_of_block (setRow_other w9 (w.heap.size + 1) x.block _ (by omega))).trans ?_
            rw [← hw9]
            exact (World.cell?_of_block (Below.heap_setCell wr ⟨w.heap.size, 4, none⟩ _ x.block (by show x.block ≠ w.heap.size; omega))).trans hc
          have HFIN := Lib.hid (hRY.done hkc)
          obtain ⟨L, hL1, _⟩ := hRY.row
          have hcap : j ≤ c' ∧ c' ≤ maxLen := by
            rcases hL1.2 with ⟨e, h0⟩ | ⟨g, cap, cur, e, _, _, h1, h2, _⟩
            · simp only [Value.slice.injEq] at e
              obtain ⟨_, h1, h2⟩ := e
              rw [h1, h2]
              exact ⟨Nat.le_refl _, Nat.zero_le _⟩
            · simp only [Value.slice.injEq] at e
              obtain ⟨_, _, rfl⟩ := e
              exact ⟨h1, h2⟩
          have HCAP := Lib.hid hcap
          have HLEN : Hid ((subYs us l).length = j) := by show _ = _; rw [subs_map, List.length_map]; exact HN.out
          have HK9 := Lib.hid hk9
          have HK9' := Lib.hid hk9'
          have HB9 := Lib.hid hb9
          have HW9 := Lib.hid hw9
          clear hk9 hk9' hb9 hw9 hkc hfull hRY hL1 hcap
          go_wp2_with (first
            | (change wpList _ _ _ _ _ (wr.setCell ⟨w.heap.size, 4, none⟩ (.slice o' j c')); rw [HW9.out])
            | (refine boxLoad 34 5 size5 Try.underlying34 rfl _ rfl (w.heap.size) rfl (cs := [.int .i64 k, .string p, .string m, .int .i64 n, .slice o' j c']) HK9.out rfl ?_)
            | (refine boxStore 34 5 size5 rfl _ _ rfl (w.heap.size + 1) rfl [.int .i64 k, .string p, .string m, .int .i64 n, .slice o' j c'] rfl HK9'.out rfl rfl rfl ?_))
          refine bodyPost_ret (v := .agg #[.int .i64 k, .string p, .string m, .int .i64 n, .slice o' j c']) ?_ rfl ⟨_, rfl, ?_, below_setRow HB9.out (Nat.le_succ _) _⟩
          · exact boxRes 34 5 size5 Try.underlying34 Try.results34 _ (w.heap.size + 1) rfl (HK9'.out.row _) rfl
          · rw [HSUB.out]
            unfold IsYP
            refine ⟨o', c', by rw [HLEN.out], by rw [HLEN.out]; exact HCAP.out.1, HCAP.out.2, HFIN.out.keep (fun a u h _ => h.imp id fun h => by omega) fun _ _ _ h => h⟩
end Go.Proofs.Ytlakmniaocpaaaa
namespace Go.Proofs.Ytlakmniaocpaaaa
open Go.RowKit
open Go.Lib hiding intOf
def IsYr (w : World) (y : GY) (c : List Value) : Prop := c.length = 5 ∧ c.all (·.oneCell') = true ∧ IsY w y (.agg c.toArray)
theorem IsYs.toR {w : World} {o : Option Addr} {xs : List GY} (h : IsYs w o 0 xs) : IsRow 5 IsYr w o xs := fun i y hy => by
  obtain ⟨a, c0, c1, c2, c3, c4, rfl, hc, hyx⟩ := h.at_ i hy
  rw [Nat.zero_add] at hc
  exact ⟨a, [c0, c1, c2, c3, c4], rfl, rfl, hc, rfl, hyx.ones, hyx⟩
theorem IsYr.below {w w' : World} {y : GY} {c : List Value} (h : IsYr w y c) (hb : Below w.heap.size w w') : IsYr w' y c := ⟨h.1, h.2.1, h.2.2.below hb⟩
theorem IsFd.ones {w : World} {f : ByteArray × GY} {c : List Value} (h : IsFd w f c) : c.length = 6 ∧ c.all (·.oneCell') = true := by
  obtain ⟨r0, r1, r2, r3, r4, rfl, h5⟩ := h
  have := h5.ones
  simp only [List.all_cons, List.all_nil, Bool.and_true, Bool.and_eq_true] at this ⊢
  exact ⟨rfl, rfl, this⟩
theorem IsYr.ones {w : World} {m : GY} {c : List Value} (h : IsYr w m c) : c.length = 5 ∧ c.all (·.oneCell') = true := ⟨h.1, h.2.1⟩
theorem size6 : (Try.prog.info? 151).map (·.size) = some 6 := by kernel_rfl
theorem size7 : (Try.prog.info? 54).map (·.size) = some 7 := by kernel_rfl
theorem size4 : (Try.prog.info? 58).map (·.size) = some 4 := by kernel_rfl
theorem size3 : (Try.prog.info? 62).map (·.size) = some 3 := by kernel_rfl
theorem info6 : (Try.prog.info? 151).map (fun i => (i.zero, i.size, i.bytes)) = some (some (.agg #[.string noB, .int .i64 0, .string noB, .string noB, .int .i64 0, .slice none 0 0]), 6, 88) := by kernel_rfl
theorem info7 : (Try.prog.info? 54).map (fun i => (i.zero, i.size, i.bytes)) = some (some (.agg #[.string noB, .slice none 0 0, .int .i64 0, .string noB, .string noB, .int .i64 0, .slice none 0 0]), 7, 112) := by kernel_rfl
/-- A part of a struct's cells, one by one. -/
theorem cells_new (w : World) (T : TypeId) (d : List Value) : ∀ (j : Nat) (u : Value), d[j]? = some u → (w.alloc (.cells d.toArray T)).cell? ((⟨w.heap.size, 0, none⟩ : Addr).add j) = some u := fun j u hu => by
  have e : (⟨w.heap.size, 0, none⟩ : Addr).add j = ⟨w.heap.size, j, none⟩ := by unfold Addr.add; split <;> simp_all
  rw [e, (Blk.new w T d.toArray).cell]
  simpa using hu
end Go.Proofs.Ytlakmniaocpaaaa
namespace Go.Proofs.Ytlakmniaocpaaaa
open Go.RowKit
open Go.Lib hiding intOf
theorem blk_at {W : World} {g : Nat} {t : TypeId} {cs : List Value} (h : Blk W g t cs.toArray) (off : Nat) (ds : List Value) (hd : ∀ (j : Nat) (v : Value), ds[j]? = some v → cs[off + j]? = some v) : ∀ (j : Nat) (v : Value), ds[j]? = some v → W.cell? ((⟨g, off, none⟩ : Addr).add j) = some v := fun j v hv => by
  have e : (⟨g, off, none⟩ : Addr).add j = ⟨g, off + j, none⟩ := by unfold Addr.add; split <;> simp_all
  rw [e, h.cell]
  simpa using hd j v hv
theorem IsYF.five {w : World} {B : Nat} {y : GY} {v : Value} (h : IsYF w B y v) : ∃ c0 c1 c2 c3 c4 : Value, v = .agg #[c0, c1, c2, c3, c4] ∧ IsYPc (fun k => B ≤ k) w y [c0, c1, c2, c3, c4] := by
  obtain ⟨c0, c1, c2, c3, c4, rfl, ho⟩ := h.cells
  exact ⟨c0, c1, c2, c3, c4, rfl, rfl, ho, h.toP⟩
theorem IsYPc.five {w : World} {P : Nat → Prop} {y : GY} {d : List Value} (h : IsYPc P w y d) : ∃ c0 c1 c2 c3 c4 : Value, d = [c0, c1, c2, c3, c4] := by
  obtain ⟨hl, _⟩ := h
  match d, hl with
  | [c0, c1, c2, c3, c4], _ => exact ⟨_, _, _, _, _, rfl⟩
theorem IsRowP.mono {α : Type} {n : Nat} {E : (Nat → Prop) → World → α → List Value → Prop} (hE : KeepsP E) {w w' : World} {B B' : Nat} {o : Option Addr} {xs : List α} (hn : 0 < n) (h : IsRowP n E (fun k => B ≤ k) w o xs) (hB : B' ≤ B) (hk : ∀ (a : Addr) (u : Value), B ≤ a.block → w.cell? a = some u → w'.cell? a = some u) : IsRowP n E (fun k => B' ≤ k) w' o xs :=
  IsRowP.keep hE hn (fun _ _ h _ => Nat.le_trans hB h) hk h
theorem set_far {w : World} {g : Nat} {cs : Array Value} {B : Nat} (hg : g < B) (a : Addr) (u : Value) (ha : B ≤ a.block) (h : w.cell? a = some u) : (w.setRow g cs).cell? a = some u :=
  (World.cell?_of_block (setRow_other w g a.block _ (by omega))).trans h
theorem below_cell {w w' : World} (hb : Below w.heap.size w w') (a : Addr) (u : Value) (h : w.cell? a = some u) : w'.cell? a = some u := (hb.cell (World.block_lt_of_cell? _ _ h)).trans h
end Go.Proofs.Ytlakmniaocpaaaa
