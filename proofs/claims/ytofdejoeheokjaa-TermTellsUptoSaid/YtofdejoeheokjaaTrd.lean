/-
  The document's with: a number into its place in a rising row. Condition: at most 1000 numbers.
-/
import Derived.Test.YtofdejoeheokjaaTrb
import Derived.Test.YtofdejoeheokjaaTph
import Derived.Laws.OwnMore
import Derived.Deep.RegionLaw
import Derived.Deep.RegionHeld
import Derived.Deep.RegionHeld3
namespace Go.Proofs.Ytofdejoeheokjaa.ref
open Go.RowKit
open Go.Lib hiding intOf

theorem step_append {P : Program} {ops : Array Oper} {o : Oper} {a : Act} {w : World} {K : Act → World → Prop} {Q : Exit → Act → World → Prop} {E : Prop}
    (hg : o.guard = none) (s x : Operand) (t : TypeId) (hop : o.op = Op.call { callee := Callee.builtin Builtin.append, args := #[s, x], argTypes := #[t, t] }) (v1 v2 : Value) (hs : a.eval s = v1) (hx : a.eval x = v2)
    (v' : Value) (w' : World) (hrun : (Builtin.append_ #[t, t] o.type #[v1, v2]).run P w = .ok v' w') (hK : K (a.put o.dst v') w') :
    if Region.wanted o (yielded ops a.tmps) = true then Oper.wp P o a w K Q else E := by
  have hw : Region.wanted o (yielded ops a.tmps) = true := by simp [Region.wanted, hg]
  rw [if_pos hw]
  unfold Oper.wp
  simp [execOp, hop, resolve, invoke, builtin, hs, hx, hrun, Result.andThen]
  exact hK
theorem step_append_ex {P : Program} {ops : Array Oper} {o : Oper} {a : Act} {w : World} {K : Act → World → Prop} {Q : Exit → Act → World → Prop} {E : Prop} {R : Value → World → Prop}
    (hg : o.guard = none) (s x : Operand) (t : TypeId) (hop : o.op = Op.call { callee := Callee.builtin Builtin.append, args := #[s, x], argTypes := #[t, t] }) (v1 v2 : Value) (hs : a.eval s = v1) (hx : a.eval x = v2)
    (hrun : ∀ ty, ∃ v' w', (Builtin.append_ #[t, t] ty #[v1, v2]).run P w = .ok v' w' ∧ R v' w') (hK : ∀ v' w', R v' w' → K (a.put o.dst v') w') :
    if Region.wanted o (yielded ops a.tmps) = true then Oper.wp P o a w K Q else E := by
  obtain ⟨v', w', h1, h2⟩ := hrun o.type
  exact step_append hg s x t hop v1 v2 hs hx v' w' h1 (hK v' w' h2)

theorem add_add' (a : Addr) (m n : Nat) : (a.add m).add n = a.add (m + n) := by
  unfold Addr.add
  by_cases h1 : m = 0
  · subst h1; simp
  · by_cases h2 : n = 0
    · subst h2; simp [h1]
    · simp [h1, h2, Nat.add_assoc]
theorem add_block (a : Addr) (m : Nat) : (a.add m).block = a.block := by unfold Addr.add; split <;> rfl
/-- Numbers, as cells. -/
def zC (L : List Int) : List Value := L.map (Value.int .i64)
theorem zC_len (L : List Int) : (zC L).length = L.length := List.length_map _
theorem zC_app (a b : List Int) : zC (a ++ b) = zC a ++ zC b := List.map_append
theorem zC_one (l : List Int) : ∀ u ∈ zC l, u.oneCell' = true := by
  intro u hu
  obtain ⟨x, _, rfl⟩ := List.mem_map.1 hu
  rfl
theorem zC_at {L : List Int} {i : Nat} {x : Int} (h : L[i]? = some x) : (zC L)[i]? = some (.int .i64 x) := by unfold zC; rw [List.getElem?_map, h]; rfl
/-- A row of the call's own that holds numbers. -/
structure RowI (B : Nat) (L : List Int) (n : Nat) (v : Value) (w : World) : Prop where
  row : w.ownsRow B 3 1 v n (zC L)
  size : B ≤ w.heap.size
theorem RowI.alloc {B : Nat} {L : List Int} {n : Nat} {v : Value} {w : World} (h : RowI B L n v w) (o : Obj) : RowI B L n v (w.alloc o) := ⟨h.row.alloc o, by have := h.size; simp; omega⟩
theorem RowI.empty (B : Nat) (w : World) (h : B ≤ w.heap.size) : RowI B [] 0 (.slice (some ⟨w.heap.size, 0, none⟩) 0 0) (w.alloc (.cells #[] 3)) :=
  ⟨by have := World.ownsRow_lit (base := B) (e := 3) (size := 1) w #[] 0 h (Nat.zero_le _) rfl; simpa [zC] using this, by simp; omega⟩
structure AppR (B : Nat) (L : List Int) (n : Nat) (v0 : Value) (w : World) (v : Value) (w' : World) : Prop where
  row : RowI B L n v w'
  below : Below B w w'
  grown : w.grownBy w' v0.ownBlock
theorem run_app (w : World) (B : Nat) (v : Value) (n : Nat) (L : List Int) (h : RowI B L n v w) (o : Option Addr) (m c : Nat) (M : List Int) (hM : M.length = m) (hz : IsZ w o M) (ho : o = none → c = 0) (hn : n + m ≤ 100000) (ty : TypeId) :
    ∃ v' w', (Builtin.append_ #[28, 28] ty #[v, .slice o m c]).run Try.prog w = .ok v' w' ∧ AppR B (L ++ M) (n + m) v w v' w' := by
  obtain ⟨i0, hi, hz0, hz1, hz2⟩ := info_parts infoI
  cases o with
  | none =>
    obtain rfl := ho rfl
    have hM0 : M = [] := by
      cases M with
      | nil => rfl
      | cons x r => obtain ⟨_, e, _⟩ := hz 0 x rfl; cases e
    subst hM0
    simp only [List.length_nil] at hM
    subst hM
    rw [List.append_nil, Nat.add_zero]
    exact ⟨v, w, run_append_owned_none (P := Try.prog) w B 28 ty 3 i0 1 Try.underlying28 hi v n _ h.row, h, Below.refl _ _, ⟨rfl, rfl, rfl, Nat.le_refl _, fun _ _ _ => rfl⟩⟩
  | some ad =>
    have hcells : ∀ j u, (zC M)[j]? = some u → w.cell? (ad.add j) = some u := fun j u hu => by
      unfold zC at hu
      rw [List.getElem?_map] at hu
      obtain ⟨x, hx, rfl⟩ := Option.map_eq_some_iff.1 hu
      obtain ⟨_, e, hc⟩ := hz j x hx
      cases e
      exact hc
    obtain ⟨v', w', hrun, r1, hgr, _⟩ := run_append_own (P := Try.prog) w B 28 ty 3 i0 (.int .i64 0) 1 8 Try.underlying28 hi hz0 hz1 hz2 rfl (by decide) v n _ h.row ad m c (zC M) (by rw [zC_len, hM, Nat.mul_one])
      hcells (zC_one M) (by unfold maxLen; omega) (by omega) h.size
    exact ⟨v', w', hrun, ⟨by rw [zC_app]; exact r1, Nat.le_trans h.size hgr.size⟩, (Below.refl B w).grown hgr h.size fun k hk => (h.row.lt k hk).1, hgr⟩
/-- A row of numbers, wherever it lies. -/
structure IsR (W : World) (L : List Int) (o : Option Addr) (n c : Nat) : Prop where
  len : L.length = n
  nc : n ≤ c
  cm : c ≤ maxLen
  nil : o = none → c = 0
  is : IsZ W o L
theorem IsR.below {w w' : World} {L : List Int} {o : Option Addr} {n c : Nat} (h : IsR w L o n c) (hb : Below w.heap.size w w') : IsR w' L o n c := ⟨h.len, h.nc, h.cm, h.nil, h.is.below hb⟩
theorem RowI.isZ {B : Nat} {L : List Int} {n : Nat} {v : Value} {w : World} (h : RowI B L n v w) (hl : L.length = n) : ∃ (o : Option Addr) (c : Nat), v = .slice o n c ∧ IsR w L o n c := by
  rcases h.row.2 with ⟨e, h0⟩ | ⟨g, cap, cur, e, _, _, h1, h2, _⟩
  · subst h0
    obtain rfl : L = [] := List.length_eq_zero_iff.1 hl
    exact ⟨none, 0, e, rfl, Nat.le_refl _, Nat.zero_le _, fun _ => rfl, fun i x hx => by simp at hx⟩
  · refine ⟨some ⟨g, 0, none⟩, cap, e, hl, h1, h2, (fun h => by cases h), fun i x hx => ⟨_, rfl, ?_⟩⟩
    exact h.row.cells (g := g) (by rw [e]; rfl) i _ (zC_at hx)
theorem one_z (W : World) (x : Int) : IsZ (W.alloc (.cells #[.int .i64 x] 3)) (some ⟨W.heap.size, 0, none⟩) [x] := fun i y hy => by
  cases i with
  | zero =>
    injection hy with hy
    subst hy
    exact ⟨_, rfl, (Blk.new W 3 #[.int .i64 x]).cell 0⟩
  | succ i => simp at hy
theorem IsZ.alloc {W : World} {o : Option Addr} {L : List Int} (h : IsZ W o L) (b : Obj) : IsZ (W.alloc b) o L := h.below ((Below.refl _ _).alloc (Nat.le_refl _) _)
theorem IsZ.grown {W W' : World} {g b : Nat} {L : List Int} (h : IsZ W (some ⟨g, 0, none⟩) L) (hg : W.grownBy W' (some b)) (hne : b ≠ g) : IsZ W' (some ⟨g, 0, none⟩) L :=
  h.turn (Turn.of_grown hg) fun a e => by cases e; intro h; injection h with h; exact hne h.symm
theorem IsZ.lt {W : World} {g : Nat} {x : Int} (h : IsZ W (some ⟨g, 0, none⟩) [x]) : g < W.heap.size := by
  obtain ⟨_, e, hc⟩ := h 0 x rfl
  cases e
  exact World.block_lt_of_cell? _ _ hc
theorem IsZ.take {W : World} {o : Option Addr} {L : List Int} (h : IsZ W o L) (j : Nat) : IsZ W o (L.take j) := fun i x hx => h i x (by
  rw [List.getElem?_take] at hx
  split at hx
  · exact hx
  · cases hx)
theorem IsZ.drop {W : World} {a : Addr} {L : List Int} (h : IsZ W (some a) L) (j : Nat) : IsZ W (some (a.add j)) (L.drop j) := fun i x hx => by
  rw [List.getElem?_drop] at hx
  obtain ⟨_, e, hc⟩ := h (j + i) x hx
  cases e
  exact ⟨_, rfl, by rw [add_add']; exact hc⟩
theorem ins_spec {L : List Int} {x : Int} {j : Nat} (hup : L.Pairwise (· < ·)) (h1 : ∀ (i : Nat) (y : Int), i < j → L[i]? = some y → y < x) (h2 : ∀ (i : Nat) (y : Int), j ≤ i → L[i]? = some y → x < y) :
    (L.take j ++ [x] ++ L.drop j).Pairwise (· < ·) ∧ ∀ y, y ∈ L.take j ++ [x] ++ L.drop j ↔ y ∈ L ∨ y = x := by
  have m1 : ∀ a ∈ L.take j, a < x := fun a ha => by
    obtain ⟨i, hi, e⟩ := List.getElem_of_mem ha
    rw [List.length_take] at hi
    rw [List.getElem_take] at e
    exact h1 i a (by omega) (by rw [List.getElem?_eq_getElem (by omega), e])
  have m2 : ∀ a ∈ L.drop j, x < a := fun a ha => by
    obtain ⟨i, hi, e⟩ := List.getElem_of_mem ha
    rw [List.length_drop] at hi
    rw [List.getElem_drop] at e
    exact h2 (j + i) a (by omega) (by rw [List.getElem?_eq_getElem (by omega), e])
  refine ⟨?_, fun y => ?_⟩
  · rw [List.pairwise_append, List.pairwise_append]
    refine ⟨⟨hup.sublist (List.take_sublist _ _), by simp, fun a ha b hb => ?_⟩, hup.sublist (List.drop_sublist _ _), fun a ha b hb => ?_⟩
    · simp only [List.mem_singleton] at hb
      subst hb
      exact m1 a ha
    · rcases List.mem_append.1 ha with ha | ha
      · have := m1 a ha
        have := m2 b hb
        omega
      · simp only [List.mem_singleton] at ha
        subst ha
        exact m2 b hb
  · have e : y ∈ L ↔ y ∈ L.take j ∨ y ∈ L.drop j := by rw [← List.mem_append, List.take_append_drop]
    rw [e]
    simp only [List.mem_append, List.mem_singleton]
    constructor
    · rintro ((h | h) | h)
      · exact .inl (.inl h)
      · exact .inr h
      · exact .inl (.inr h)
    · rintro ((h | h) | h)
      · exact .inl (.inl h)
      · exact .inr h
      · exact .inl (.inr h)
theorem up_at {L : List Int} (hup : L.Pairwise (· < ·)) {j : Nat} {y x : Int} (hj : L[j]? = some y) (hx : x < y) : ∀ (i : Nat) (z : Int), j ≤ i → L[i]? = some z → x < z := fun i z hi hz => by
  obtain ⟨h1, e1⟩ := List.getElem?_eq_some_iff.1 hj
  obtain ⟨h2, e2⟩ := List.getElem?_eq_some_iff.1 hz
  rcases Nat.lt_or_ge j i with h | h
  · have := (List.pairwise_iff_getElem.1 hup) j i h1 h2 h
    rw [e1, e2] at this
    omega
  · obtain rfl : i = j := by omega
    rw [hj] at hz
    injection hz with hz
    omega

set_option maxRecDepth 100000 in
set_option maxHeartbeats 8000000 in
theorem withR_any (L : List Int) (x : Int) (o : Option Addr) (n c : Nat) (w : World) (hup : L.Pairwise (· < ·)) (hn2 : n ≤ 1000) (hL : IsR w L o n c) :
    Calls Try.prog 31 #[.slice o n c, .int .i64 x] w fun e w' => ∃ (M : List Int) (o' : Option Addr) (n' c' : Nat), e = .returned (.slice o' n' c') ∧ IsR w' M o' n' c' ∧ n' ≤ n + 1 ∧ M.Pairwise (· < ·) ∧ (∀ y, y ∈ M ↔ y ∈ L ∨ y = x) ∧ Below w.heap.size w w' := by
  have HUP := Lib.hid hup
  have HLR := Lib.hid hL
  have hnc := hL.nc
  have hn3 : n ≤ 9223372036854775807 := by omega
  have HN2 := Lib.hid hn2
  clear hup hL hn2
  go_enter Try.func31, Try.ntmps31
  go_wp2
  go_loopw [5] (fun i wr => ∃ j : Nat, i = .int .i64 (j : Nat) ∧ Hid (j ≤ n) ∧ Hid (∀ (i : Nat) (y : Int), i < j → L[i]? = some y → y < x) ∧ wr = w) (fun i _ => n - (RowKit.intOf i).toNat)
  case atStart => exact ⟨0, rfl, Nat.zero_le _, by intro i y hi; omega, rfl⟩
  case round =>
    obtain ⟨j, rfl, HJ, HALL, hwr⟩ := hrel
    have hwr' := hwr.symm
    clear hwr
    subst hwr'
    by_cases hj : j < n
    · have hj' : ((j : Int) < (n : Int)) := by omega
      have hj0 : (0 : Int) ≤ (j : Int) := by omega
      have hjc : (j : Int) ≤ (c : Int) := by omega
      have hwj := IntWalk.i64_in ((j : Int) + 1) ⟨by omega, by have := HN2.out; omega⟩
      obtain ⟨y, hy⟩ : ∃ y, L[j]? = some y := ⟨_, List.getElem?_eq_getElem (by rw [HLR.out.len]; exact hj)⟩
      obtain ⟨a, rfl, hcy⟩ := HLR.out.is j y hy
      have HYY := Lib.hid hy
      have HJN := Lib.hid hj
      by_cases hyx : y < x
      · have d0 := decide_eq_true hyx
        have HN : Hid (∀ (i : Nat) (z : Int), i < j + 1 → L[i]? = some z → z < x) := fun i z hi hz => by
          by_cases hij : i = j
          · subst hij
            rw [HYY.out] at hz
            injection hz with hz
            omega
          · exact HALL.out i z (by omega) hz
        clear hyx hy
        go_wp2
        case roundEnd => exact ⟨⟨j + 1, by push_cast; rfl, HJN.out, HN, by first | rfl | trivial⟩, by have := HJN.out; simp [RowKit.intOf]; omega⟩
      · have d0 := decide_eq_false hyx
        by_cases hye : y = x
        · have d1 : (y == x) = true := by simpa using hye
          have HM : Hid (x ∈ L) := by rw [← hye]; exact List.mem_of_getElem? hy
          clear hyx hy hye
          go_wp2
          go_ret
          exact ⟨L, _, n, c, rfl, HLR.out, by omega, HUP.out, fun y => ⟨.inl, fun h => h.elim id fun e => e ▸ HM.out⟩, Below.refl _ _⟩
        · have d1 : (y == x) = false := by simpa using hye
          have HSP := Lib.hid (ins_spec HUP.out HALL.out (up_at HUP.out hy (by omega)))
          have HTL : Hid ((L.take j).length = j) := by show _ = _; rw [List.length_take, HLR.out.len]; omega
          have HDL : Hid ((L.drop j).length = n - j) := by show _ = _; rw [List.length_drop, HLR.out.len]
          have HNB : Hid (n ≤ 1000 ∧ j ≤ n) := ⟨HN2.out, by omega⟩
          have HZ := Lib.hid HLR.out.is
          have HOC := Lib.hid (fun (e : some a = none) => show c = 0 from by cases e)
          have HDC := Lib.hid (fun (e : some (a.add j) = none) => show c - j = 0 from by cases e)
          have HDZ := Lib.hid (fun W (h : Below w.heap.size w W) => IsZ.drop (HLR.out.is.below h) j)
          have hjn : j ≤ n := by omega
          have hcj : ¬ c = j := by omega
          clear hyx hy hye HALL HJ HYY HJN
          go_wp2
          have hS0 : (fun w' : World => Below w.heap.size w w') w.drew := (Below.refl _ _).drew
          refine wp_region_held_drew (S := (fun w' : World => Below w.heap.size w w')) (by kernel_rfl) hS0 fun hS0 => ?_
          refine wpAnyH_take (i := 1) (v := .slice (some a) n c) rfl (by kernel_rfl) (by kernel_rfl) (by kernel_rfl) (fun _ _ _ h => h) (Or.inl ⟨by kernel_rfl, fun w' hw' => ?_⟩) hS0 ?_
          · kernel_rfl
          refine wpAnyH_take (i := 2) (v := .int .i64 (j : Nat)) rfl (by kernel_rfl) (by kernel_rfl) (by kernel_rfl) (fun _ _ _ h => h) (Or.inl ⟨by kernel_rfl, fun w' hw' => ?_⟩) hS0 ?_
          · kernel_rfl
          refine wpAnyH_take (i := 3) (v := .slice (some a) j c) rfl (by kernel_rfl) (by kernel_rfl) (by kernel_rfl) (fun _ _ _ h => h) (Or.inl ⟨by kernel_rfl, fun w' hw' => ?_⟩) hS0 ?_
          · go_simp
          refine wpAnyH_take (i := 5) (v := .int .i64 x) rfl (by kernel_rfl) (by kernel_rfl) (by kernel_rfl) (fun _ _ _ h => h) (Or.inl ⟨by kernel_rfl, fun w' hw' => ?_⟩) hS0 ?_
          · kernel_rfl
          refine wpAnyH_take (i := 8) (v := .slice (some a) n c) rfl (by kernel_rfl) (by kernel_rfl) (by kernel_rfl) (fun _ _ _ h => h) (Or.inl ⟨by kernel_rfl, fun w' hw' => ?_⟩) hS0 ?_
          · kernel_rfl
          refine wpAnyH_take (i := 9) (v := .int .i64 (j : Nat)) rfl (by kernel_rfl) (by kernel_rfl) (by kernel_rfl) (fun _ _ _ h => h) (Or.inl ⟨by kernel_rfl, fun w' hw' => ?_⟩) hS0 ?_
          · kernel_rfl
          refine wpAnyH_take (i := 10) (v := .slice (some (a.add j)) (n - j) (c - j)) rfl (by kernel_rfl) (by kernel_rfl) (by kernel_rfl) (fun _ _ _ h => h) (Or.inl ⟨by kernel_rfl, fun w' hw' => ?_⟩) hS0 ?_
          · go_simp
          generalize w.drew = W0 at *
          refine wpAnyH_ready (rs := [0, 6]) (by kernel_rfl) (by simp) (AllReadyH.cons rfl (fun KK hK => ?_) (AllReadyH.cons rfl (fun KK hK => ?_) AllReadyH.nil))
          · go_simp
            have k1 := (hS0.alloc hS0.size (.cells #[] 3))
            have HE := Lib.hid (RowI.empty w.heap.size W0 hS0.size)
            refine hK.out _ _ k1 (fun k1' => ?_)
            generalize W0.alloc (.cells #[] 3) = W1 at *
            generalize W0.heap.size = b0 at *
            refine wpAnyH_ready (rs := [4, 6]) (by kernel_rfl) (by simp) (AllReadyH.cons rfl (fun KK hK => ?_) (AllReadyH.cons rfl (fun KK hK => ?_) AllReadyH.nil))
            · refine step_append_ex rfl (.tmp 33) (.tmp 36) 28 rfl (.slice (some ⟨b0, 0, none⟩) 0 0) (.slice (some a) j c) (by kernel_rfl) (by kernel_rfl) (fun ty => run_app W1 w.heap.size _ 0 [] HE.out (some a) j c (L.take j) HTL.out (IsZ.take (HZ.out.below k1) _) HOC.out (by have := HNB.out; omega) ty) fun v7 W2 hR => ?_
              have k2 : Below w.heap.size w W2 := k1.trans hR.below
              have HR : Hid (RowI w.heap.size (L.take j) j v7 W2) := by have h := hR.row; rw [List.nil_append, Nat.zero_add] at h; exact h
              clear hR
              refine hK.out _ _ k2 (fun k2' => ?_)
              refine wpAnyH_ready (rs := [6]) (by kernel_rfl) (by simp) (AllReadyH.cons rfl (fun KK hK => ?_) AllReadyH.nil)
              go_simp
              have k3 := (k2.alloc k2.size (.cells #[.int .i64 x] 3))
              have HO := Lib.hid (one_z W2 x)
              have HR2 := Lib.hid (HR.out.alloc (.cells #[.int .i64 x] 3)); clear HR; have HR := HR2; clear HR2
              refine hK.out _ _ k3 (fun k3' => ?_)
              generalize W2.alloc (.cells #[.int .i64 x] 3) = W3 at *
              generalize W2.heap.size = g at *
              refine wpAnyH_ready (rs := [7]) (by kernel_rfl) (by simp) (AllReadyH.cons rfl (fun KK hK => ?_) AllReadyH.nil)
              refine step_append_ex rfl (.tmp 37) (.tmp 39) 28 rfl v7 (.slice (some ⟨g, 0, none⟩) 1 1) (by kernel_rfl) (by kernel_rfl) (fun ty => run_app W3 w.heap.size _ _ _ HR.out (some ⟨g, 0, none⟩) 1 1 [x] rfl HO.out (fun e => by cases e) (by have := HNB.out; omega) ty) fun v8 W8 hR => ?_
              have k8 : Below w.heap.size w W8 := k3.trans hR.below
              have HR8 := Lib.hid hR.row
              clear hR
              refine hK.out _ _ k8 (fun k8' => ?_)
              refine wpAnyH_ready (rs := [11]) (by kernel_rfl) (by simp) (AllReadyH.cons rfl (fun KK hK => ?_) AllReadyH.nil)
              refine step_append_ex rfl (.tmp 40) (.tmp 43) 28 rfl v8 (.slice (some (a.add j)) (n - j) (c - j)) (by kernel_rfl) (by kernel_rfl) (fun ty => run_app W8 w.heap.size _ _ _ HR8.out (some (a.add j)) (n - j) (c - j) (L.drop j) HDL.out (HDZ.out W8 k8) HDC.out (by have := HNB.out; omega) ty) fun v9 W9 hR => ?_
              have k9 : Below w.heap.size w W9 := k8.trans hR.below
              have HR9 := Lib.hid hR.row
              clear hR
              refine hK.out _ _ k9 (fun k9' => ?_)
              refine wpAnyH_take (i := 12) (v := v9) rfl (by kernel_rfl) (by kernel_rfl) (by kernel_rfl) (fun _ _ _ h => h) (Or.inl ⟨by kernel_rfl, fun w' hw' => ?_⟩) k9' ?_
              · kernel_rfl
              refine wpAnyH_done (by kernel_rfl) ?_ _
              have K9 := Lib.hid k9
              obtain ⟨o9, c9, rfl, hz9⟩ := HR9.out.isZ (by rw [List.length_append, List.length_append, HTL.out, HDL.out]; simp)
              have HZ9 := Lib.hid hz9
              clear hz9 k1 k1' k2 k2' k3 k3' k8 k8' k9 k9'
              go_wp2
              all_goals go_ret
              all_goals exact ⟨_, o9, _, c9, rfl, HZ9.out, by have := HNB.out; omega, HSP.out.1, HSP.out.2, K9.out⟩
            · go_simp
              have k2 := (k1.alloc k1.size (.cells #[.int .i64 x] 3))
              have HO := Lib.hid (one_z W1 x)
              have HG : Hid (b0 ≠ W1.heap.size) := by have := (HE.out.row.lt b0 rfl).2; show _ ≠ _; omega
              have HR2 := Lib.hid (HE.out.alloc (.cells #[.int .i64 x] 3)); clear HE; have HE := HR2; clear HR2
              refine hK.out _ _ k2 (fun k2' => ?_)
              generalize W1.alloc (.cells #[.int .i64 x] 3) = W2 at *
              generalize W1.heap.size = g at *
              refine wpAnyH_ready (rs := [4]) (by kernel_rfl) (by simp) (AllReadyH.cons rfl (fun KK hK => ?_) AllReadyH.nil)
              refine step_append_ex rfl (.tmp 33) (.tmp 36) 28 rfl (.slice (some ⟨b0, 0, none⟩) 0 0) (.slice (some a) j c) (by kernel_rfl) (by kernel_rfl) (fun ty => run_app W2 w.heap.size _ 0 [] HE.out (some a) j c (L.take j) HTL.out (IsZ.take (HZ.out.below k2) _) HOC.out (by have := HNB.out; omega) ty) fun v7 W3 hR => ?_
              have k3 : Below w.heap.size w W3 := k2.trans hR.below
              have HR : Hid (RowI w.heap.size (L.take j) j v7 W3) := by have h := hR.row; rw [List.nil_append, Nat.zero_add] at h; exact h
              have HO2 := Lib.hid (IsZ.grown HO.out hR.grown HG.out); clear HO; have HO := HO2; clear HO2
              clear hR
              refine hK.out _ _ k3 (fun k3' => ?_)
              refine wpAnyH_ready (rs := [7]) (by kernel_rfl) (by simp) (AllReadyH.cons rfl (fun KK hK => ?_) AllReadyH.nil)
              refine step_append_ex rfl (.tmp 37) (.tmp 39) 28 rfl v7 (.slice (some ⟨g, 0, none⟩) 1 1) (by kernel_rfl) (by kernel_rfl) (fun ty => run_app W3 w.heap.size _ _ _ HR.out (some ⟨g, 0, none⟩) 1 1 [x] rfl HO.out (fun e => by cases e) (by have := HNB.out; omega) ty) fun v8 W8 hR => ?_
              have k8 : Below w.heap.size w W8 := k3.trans hR.below
              have HR8 := Lib.hid hR.row
              clear hR
              refine hK.out _ _ k8 (fun k8' => ?_)
              refine wpAnyH_ready (rs := [11]) (by kernel_rfl) (by simp) (AllReadyH.cons rfl (fun KK hK => ?_) AllReadyH.nil)
              refine step_append_ex rfl (.tmp 40) (.tmp 43) 28 rfl v8 (.slice (some (a.add j)) (n - j) (c - j)) (by kernel_rfl) (by kernel_rfl) (fun ty => run_app W8 w.heap.size _ _ _ HR8.out (some (a.add j)) (n - j) (c - j) (L.drop j) HDL.out (HDZ.out W8 k8) HDC.out (by have := HNB.out; omega) ty) fun v9 W9 hR => ?_
              have k9 : Below w.heap.size w W9 := k8.trans hR.below
              have HR9 := Lib.hid hR.row
              clear hR
              refine hK.out _ _ k9 (fun k9' => ?_)
              refine wpAnyH_take (i := 12) (v := v9) rfl (by kernel_rfl) (by kernel_rfl) (by kernel_rfl) (fun _ _ _ h => h) (Or.inl ⟨by kernel_rfl, fun w' hw' => ?_⟩) k9' ?_
              · kernel_rfl
              refine wpAnyH_done (by kernel_rfl) ?_ _
              have K9 := Lib.hid k9
              obtain ⟨o9, c9, rfl, hz9⟩ := HR9.out.isZ (by rw [List.length_append, List.length_append, HTL.out, HDL.out]; simp)
              have HZ9 := Lib.hid hz9
              clear hz9 k1 k1' k2 k2' k3 k3' k8 k8' k9 k9'
              go_wp2
              all_goals go_ret
              all_goals exact ⟨_, o9, _, c9, rfl, HZ9.out, by have := HNB.out; omega, HSP.out.1, HSP.out.2, K9.out⟩
          · go_simp
            have k1 := (hS0.alloc hS0.size (.cells #[.int .i64 x] 3))
            have HO := Lib.hid (one_z W0 x)
            refine hK.out _ _ k1 (fun k1' => ?_)
            generalize W0.alloc (.cells #[.int .i64 x] 3) = W1 at *
            generalize W0.heap.size = g at *
            refine wpAnyH_ready (rs := [0]) (by kernel_rfl) (by simp) (AllReadyH.cons rfl (fun KK hK => ?_) AllReadyH.nil)
            go_simp
            have k2 := (k1.alloc k1.size (.cells #[] 3))
            have HE := Lib.hid (RowI.empty w.heap.size W1 k1.size)
            have HG : Hid (W1.heap.size ≠ g) := by have := IsZ.lt HO.out; show _ ≠ _; omega
            have HO2 := Lib.hid (IsZ.alloc HO.out (.cells #[] 3)); clear HO; have HO := HO2; clear HO2
            refine hK.out _ _ k2 (fun k2' => ?_)
            generalize W1.alloc (.cells #[] 3) = W2 at *
            generalize W1.heap.size = b0 at *
            refine wpAnyH_ready (rs := [4]) (by kernel_rfl) (by simp) (AllReadyH.cons rfl (fun KK hK => ?_) AllReadyH.nil)
            refine step_append_ex rfl (.tmp 33) (.tmp 36) 28 rfl (.slice (some ⟨b0, 0, none⟩) 0 0) (.slice (some a) j c) (by kernel_rfl) (by kernel_rfl) (fun ty => run_app W2 w.heap.size _ 0 [] HE.out (some a) j c (L.take j) HTL.out (IsZ.take (HZ.out.below k2) _) HOC.out (by have := HNB.out; omega) ty) fun v7 W3 hR => ?_
            have k3 : Below w.heap.size w W3 := k2.trans hR.below
            have HR : Hid (RowI w.heap.size (L.take j) j v7 W3) := by have h := hR.row; rw [List.nil_append, Nat.zero_add] at h; exact h
            have HO2 := Lib.hid (IsZ.grown HO.out hR.grown HG.out); clear HO; have HO := HO2; clear HO2
            clear hR
            refine hK.out _ _ k3 (fun k3' => ?_)
            refine wpAnyH_ready (rs := [7]) (by kernel_rfl) (by simp) (AllReadyH.cons rfl (fun KK hK => ?_) AllReadyH.nil)
            refine step_append_ex rfl (.tmp 37) (.tmp 39) 28 rfl v7 (.slice (some ⟨g, 0, none⟩) 1 1) (by kernel_rfl) (by kernel_rfl) (fun ty => run_app W3 w.heap.size _ _ _ HR.out (some ⟨g, 0, none⟩) 1 1 [x] rfl HO.out (fun e => by cases e) (by have := HNB.out; omega) ty) fun v8 W8 hR => ?_
            have k8 : Below w.heap.size w W8 := k3.trans hR.below
            have HR8 := Lib.hid hR.row
            clear hR
            refine hK.out _ _ k8 (fun k8' => ?_)
            refine wpAnyH_ready (rs := [11]) (by kernel_rfl) (by simp) (AllReadyH.cons rfl (fun KK hK => ?_) AllReadyH.nil)
            refine step_append_ex rfl (.tmp 40) (.tmp 43) 28 rfl v8 (.slice (some (a.add j)) (n - j) (c - j)) (by kernel_rfl) (by kernel_rfl) (fun ty => run_app W8 w.heap.size _ _ _ HR8.out (some (a.add j)) (n - j) (c - j) (L.drop j) HDL.out (HDZ.out W8 k8) HDC.out (by have := HNB.out; omega) ty) fun v9 W9 hR => ?_
            have k9 : Below w.heap.size w W9 := k8.trans hR.below
            have HR9 := Lib.hid hR.row
            clear hR
            refine hK.out _ _ k9 (fun k9' => ?_)
            refine wpAnyH_take (i := 12) (v := v9) rfl (by kernel_rfl) (by kernel_rfl) (by kernel_rfl) (fun _ _ _ h => h) (Or.inl ⟨by kernel_rfl, fun w' hw' => ?_⟩) k9' ?_
            · kernel_rfl
            refine wpAnyH_done (by kernel_rfl) ?_ _
            have K9 := Lib.hid k9
            obtain ⟨o9, c9, rfl, hz9⟩ := HR9.out.isZ (by rw [List.length_append, List.length_append, HTL.out, HDL.out]; simp)
            have HZ9 := Lib.hid hz9
            clear hz9 k1 k1' k2 k2' k3 k3' k8 k8' k9 k9'
            go_wp2
            all_goals go_ret
            all_goals exact ⟨_, o9, _, c9, rfl, HZ9.out, by have := HNB.out; omega, HSP.out.1, HSP.out.2, K9.out⟩
    · have hj' : ¬ ((j : Int) < (n : Int)) := by omega
      have hje : j = n := by have := HJ.out; omega
      have HSP := Lib.hid (ins_spec HUP.out HALL.out (fun i y hi hy => by have := (List.getElem?_eq_some_iff.1 hy).1; have := HLR.out.len; omega))
      have HTL : Hid ((L.take j).length = j) := by show _ = _; rw [List.length_take, HLR.out.len]; omega
      have HDL : Hid ((L.drop j).length = n - j) := by show _ = _; rw [List.length_drop, HLR.out.len]
      have HNB : Hid (n ≤ 1000 ∧ j ≤ n) := ⟨HN2.out, by omega⟩
      have hj0 : (0 : Int) ≤ (j : Int) := by omega
      have hjc : (j : Int) ≤ (c : Int) := by omega
      cases o with
      | some a =>
        have HZ := Lib.hid HLR.out.is
        have HOC := Lib.hid (fun (e : some a = none) => show c = 0 from by cases e)
        have HDC := Lib.hid (fun (e : (if c = j then some a else some (a.add j)) = none) => show c - j = 0 from by split at e <;> cases e)
        have HDZ := Lib.hid (fun W (_ : Below w.heap.size w W) => show IsZ W (if c = j then some a else some (a.add j)) (L.drop j) from fun i y hy => by rw [List.drop_of_length_le (by rw [HLR.out.len]; omega)] at hy; simp at hy)
        have hjn : j ≤ n := by omega
        clear hje HALL HJ
        go_wp2
        have hS0 : (fun w' : World => Below w.heap.size w w') w.drew := (Below.refl _ _).drew
        refine wp_region_held_drew (S := (fun w' : World => Below w.heap.size w w')) (by kernel_rfl) hS0 fun hS0 => ?_
        refine wpAnyH_take (i := 1) (v := .slice (some a) n c) rfl (by kernel_rfl) (by kernel_rfl) (by kernel_rfl) (fun _ _ _ h => h) (Or.inl ⟨by kernel_rfl, fun w' hw' => ?_⟩) hS0 ?_
        · kernel_rfl
        refine wpAnyH_take (i := 2) (v := .int .i64 (j : Nat)) rfl (by kernel_rfl) (by kernel_rfl) (by kernel_rfl) (fun _ _ _ h => h) (Or.inl ⟨by kernel_rfl, fun w' hw' => ?_⟩) hS0 ?_
        · kernel_rfl
        refine wpAnyH_take (i := 3) (v := .slice (some a) j c) rfl (by kernel_rfl) (by kernel_rfl) (by kernel_rfl) (fun _ _ _ h => h) (Or.inl ⟨by kernel_rfl, fun w' hw' => ?_⟩) hS0 ?_
        · go_simp
        refine wpAnyH_take (i := 5) (v := .int .i64 x) rfl (by kernel_rfl) (by kernel_rfl) (by kernel_rfl) (fun _ _ _ h => h) (Or.inl ⟨by kernel_rfl, fun w' hw' => ?_⟩) hS0 ?_
        · kernel_rfl
        refine wpAnyH_take (i := 8) (v := .slice (some a) n c) rfl (by kernel_rfl) (by kernel_rfl) (by kernel_rfl) (fun _ _ _ h => h) (Or.inl ⟨by kernel_rfl, fun w' hw' => ?_⟩) hS0 ?_
        · kernel_rfl
        refine wpAnyH_take (i := 9) (v := .int .i64 (j : Nat)) rfl (by kernel_rfl) (by kernel_rfl) (by kernel_rfl) (fun _ _ _ h => h) (Or.inl ⟨by kernel_rfl, fun w' hw' => ?_⟩) hS0 ?_
        · kernel_rfl
        refine wpAnyH_take (i := 10) (v := .slice (if c = j then some a else some (a.add j)) (n - j) (c - j)) rfl (by kernel_rfl) (by kernel_rfl) (by kernel_rfl) (fun _ _ _ h => h) (Or.inl ⟨by kernel_rfl, fun w' hw' => ?_⟩) hS0 ?_
        · go_simp
        generalize w.drew = W0 at *
        refine wpAnyH_ready (rs := [0, 6]) (by kernel_rfl) (by simp) (AllReadyH.cons rfl (fun KK hK => ?_) (AllReadyH.cons rfl (fun KK hK => ?_) AllReadyH.nil))
        · go_simp
          have k1 := (hS0.alloc hS0.size (.cells #[] 3))
          have HE := Lib.hid (RowI.empty w.heap.size W0 hS0.size)
          refine hK.out _ _ k1 (fun k1' => ?_)
          generalize W0.alloc (.cells #[] 3) = W1 at *
          generalize W0.heap.size = b0 at *
          refine wpAnyH_ready (rs := [4, 6]) (by kernel_rfl) (by simp) (AllReadyH.cons rfl (fun KK hK => ?_) (AllReadyH.cons rfl (fun KK hK => ?_) AllReadyH.nil))
          · refine step_append_ex rfl (.tmp 33) (.tmp 36) 28 rfl (.slice (some ⟨b0, 0, none⟩) 0 0) (.slice (some a) j c) (by kernel_rfl) (by kernel_rfl) (fun ty => run_app W1 w.heap.size _ 0 [] HE.out (some a) j c (L.take j) HTL.out (IsZ.take (HZ.out.below k1) _) HOC.out (by have := HNB.out; omega) ty) fun v7 W2 hR => ?_
            have k2 : Below w.heap.size w W2 := k1.trans hR.below
            have HR : Hid (RowI w.heap.size (L.take j) j v7 W2) := by have h := hR.row; rw [List.nil_append, Nat.zero_add] at h; exact h
            clear hR
            refine hK.out _ _ k2 (fun k2' => ?_)
            refine wpAnyH_ready (rs := [6]) (by kernel_rfl) (by simp) (AllReadyH.cons rfl (fun KK hK => ?_) AllReadyH.nil)
            go_simp
            have k3 := (k2.alloc k2.size (.cells #[.int .i64 x] 3))
            have HO := Lib.hid (one_z W2 x)
            have HR2 := Lib.hid (HR.out.alloc (.cells #[.int .i64 x] 3)); clear HR; have HR := HR2; clear HR2
            refine hK.out _ _ k3 (fun k3' => ?_)
            generalize W2.alloc (.cells #[.int .i64 x] 3) = W3 at *
            generalize W2.heap.size = g at *
            refine wpAnyH_ready (rs := [7]) (by kernel_rfl) (by simp) (AllReadyH.cons rfl (fun KK hK => ?_) AllReadyH.nil)
            refine step_append_ex rfl (.tmp 37) (.tmp 39) 28 rfl v7 (.slice (some ⟨g, 0, none⟩) 1 1) (by kernel_rfl) (by kernel_rfl) (fun ty => run_app W3 w.heap.size _ _ _ HR.out (some ⟨g, 0, none⟩) 1 1 [x] rfl HO.out (fun e => by cases e) (by have := HNB.out; omega) ty) fun v8 W8 hR => ?_
            have k8 : Below w.heap.size w W8 := k3.trans hR.below
            have HR8 := Lib.hid hR.row
            clear hR
            refine hK.out _ _ k8 (fun k8' => ?_)
            refine wpAnyH_ready (rs := [11]) (by kernel_rfl) (by simp) (AllReadyH.cons rfl (fun KK hK => ?_) AllReadyH.nil)
            refine step_append_ex rfl (.tmp 40) (.tmp 43) 28 rfl v8 (.slice (if c = j then some a else some (a.add j)) (n - j) (c - j)) (by kernel_rfl) (by kernel_rfl) (fun ty => run_app W8 w.heap.size _ _ _ HR8.out (if c = j then some a else some (a.add j)) (n - j) (c - j) (L.drop j) HDL.out (HDZ.out W8 k8) HDC.out (by have := HNB.out; omega) ty) fun v9 W9 hR => ?_
            have k9 : Below w.heap.size w W9 := k8.trans hR.below
            have HR9 := Lib.hid hR.row
            clear hR
            refine hK.out _ _ k9 (fun k9' => ?_)
            refine wpAnyH_take (i := 12) (v := v9) rfl (by kernel_rfl) (by kernel_rfl) (by kernel_rfl) (fun _ _ _ h => h) (Or.inl ⟨by kernel_rfl, fun w' hw' => ?_⟩) k9' ?_
            · kernel_rfl
            refine wpAnyH_done (by kernel_rfl) ?_ _
            have K9 := Lib.hid k9
            obtain ⟨o9, c9, rfl, hz9⟩ := HR9.out.isZ (by rw [List.length_append, List.length_append, HTL.out, HDL.out]; simp)
            have HZ9 := Lib.hid hz9
            clear hz9 k1 k1' k2 k2' k3 k3' k8 k8' k9 k9'
            go_wp2
            all_goals go_ret
            all_goals exact ⟨_, o9, _, c9, rfl, HZ9.out, by have := HNB.out; omega, HSP.out.1, HSP.out.2, K9.out⟩
          · go_simp
            have k2 := (k1.alloc k1.size (.cells #[.int .i64 x] 3))
            have HO := Lib.hid (one_z W1 x)
            have HG : Hid (b0 ≠ W1.heap.size) := by have := (HE.out.row.lt b0 rfl).2; show _ ≠ _; omega
            have HR2 := Lib.hid (HE.out.alloc (.cells #[.int .i64 x] 3)); clear HE; have HE := HR2; clear HR2
            refine hK.out _ _ k2 (fun k2' => ?_)
            generalize W1.alloc (.cells #[.int .i64 x] 3) = W2 at *
            generalize W1.heap.size = g at *
            refine wpAnyH_ready (rs := [4]) (by kernel_rfl) (by simp) (AllReadyH.cons rfl (fun KK hK => ?_) AllReadyH.nil)
            refine step_append_ex rfl (.tmp 33) (.tmp 36) 28 rfl (.slice (some ⟨b0, 0, none⟩) 0 0) (.slice (some a) j c) (by kernel_rfl) (by kernel_rfl) (fun ty => run_app W2 w.heap.size _ 0 [] HE.out (some a) j c (L.take j) HTL.out (IsZ.take (HZ.out.below k2) _) HOC.out (by have := HNB.out; omega) ty) fun v7 W3 hR => ?_
            have k3 : Below w.heap.size w W3 := k2.trans hR.below
            have HR : Hid (RowI w.heap.size (L.take j) j v7 W3) := by have h := hR.row; rw [List.nil_append, Nat.zero_add] at h; exact h
            have HO2 := Lib.hid (IsZ.grown HO.out hR.grown HG.out); clear HO; have HO := HO2; clear HO2
            clear hR
            refine hK.out _ _ k3 (fun k3' => ?_)
            refine wpAnyH_ready (rs := [7]) (by kernel_rfl) (by simp) (AllReadyH.cons rfl (fun KK hK => ?_) AllReadyH.nil)
            refine step_append_ex rfl (.tmp 37) (.tmp 39) 28 rfl v7 (.slice (some ⟨g, 0, none⟩) 1 1) (by kernel_rfl) (by kernel_rfl) (fun ty => run_app W3 w.heap.size _ _ _ HR.out (some ⟨g, 0, none⟩) 1 1 [x] rfl HO.out (fun e => by cases e) (by have := HNB.out; omega) ty) fun v8 W8 hR => ?_
            have k8 : Below w.heap.size w W8 := k3.trans hR.below
            have HR8 := Lib.hid hR.row
            clear hR
            refine hK.out _ _ k8 (fun k8' => ?_)
            refine wpAnyH_ready (rs := [11]) (by kernel_rfl) (by simp) (AllReadyH.cons rfl (fun KK hK => ?_) AllReadyH.nil)
            refine step_append_ex rfl (.tmp 40) (.tmp 43) 28 rfl v8 (.slice (if c = j then some a else some (a.add j)) (n - j) (c - j)) (by kernel_rfl) (by kernel_rfl) (fun ty => run_app W8 w.heap.size _ _ _ HR8.out (if c = j then some a else some (a.add j)) (n - j) (c - j) (L.drop j) HDL.out (HDZ.out W8 k8) HDC.out (by have := HNB.out; omega) ty) fun v9 W9 hR => ?_
            have k9 : Below w.heap.size w W9 := k8.trans hR.below
            have HR9 := Lib.hid hR.row
            clear hR
            refine hK.out _ _ k9 (fun k9' => ?_)
            refine wpAnyH_take (i := 12) (v := v9) rfl (by kernel_rfl) (by kernel_rfl) (by kernel_rfl) (fun _ _ _ h => h) (Or.inl ⟨by kernel_rfl, fun w' hw' => ?_⟩) k9' ?_
            · kernel_rfl
            refine wpAnyH_done (by kernel_rfl) ?_ _
            have K9 := Lib.hid k9
            obtain ⟨o9, c9, rfl, hz9⟩ := HR9.out.isZ (by rw [List.length_append, List.length_append, HTL.out, HDL.out]; simp)
            have HZ9 := Lib.hid hz9
            clear hz9 k1 k1' k2 k2' k3 k3' k8 k8' k9 k9'
            go_wp2
            all_goals go_ret
            all_goals exact ⟨_, o9, _, c9, rfl, HZ9.out, by have := HNB.out; omega, HSP.out.1, HSP.out.2, K9.out⟩
        · go_simp
          have k1 := (hS0.alloc hS0.size (.cells #[.int .i64 x] 3))
          have HO := Lib.hid (one_z W0 x)
          refine hK.out _ _ k1 (fun k1' => ?_)
          generalize W0.alloc (.cells #[.int .i64 x] 3) = W1 at *
          generalize W0.heap.size = g at *
          refine wpAnyH_ready (rs := [0]) (by kernel_rfl) (by simp) (AllReadyH.cons rfl (fun KK hK => ?_) AllReadyH.nil)
          go_simp
          have k2 := (k1.alloc k1.size (.cells #[] 3))
          have HE := Lib.hid (RowI.empty w.heap.size W1 k1.size)
          have HG : Hid (W1.heap.size ≠ g) := by have := IsZ.lt HO.out; show _ ≠ _; omega
          have HO2 := Lib.hid (IsZ.alloc HO.out (.cells #[] 3)); clear HO; have HO := HO2; clear HO2
          refine hK.out _ _ k2 (fun k2' => ?_)
          generalize W1.alloc (.cells #[] 3) = W2 at *
          generalize W1.heap.size = b0 at *
          refine wpAnyH_ready (rs := [4]) (by kernel_rfl) (by simp) (AllReadyH.cons rfl (fun KK hK => ?_) AllReadyH.nil)
          refine step_append_ex rfl (.tmp 33) (.tmp 36) 28 rfl (.slice (some ⟨b0, 0, none⟩) 0 0) (.slice (some a) j c) (by kernel_rfl) (by kernel_rfl) (fun ty => run_app W2 w.heap.size _ 0 [] HE.out (some a) j c (L.take j) HTL.out (IsZ.take (HZ.out.below k2) _) HOC.out (by have := HNB.out; omega) ty) fun v7 W3 hR => ?_
          have k3 : Below w.heap.size w W3 := k2.trans hR.below
          have HR : Hid (RowI w.heap.size (L.take j) j v7 W3) := by have h := hR.row; rw [List.nil_append, Nat.zero_add] at h; exact h
          have HO2 := Lib.hid (IsZ.grown HO.out hR.grown HG.out); clear HO; have HO := HO2; clear HO2
          clear hR
          refine hK.out _ _ k3 (fun k3' => ?_)
          refine wpAnyH_ready (rs := [7]) (by kernel_rfl) (by simp) (AllReadyH.cons rfl (fun KK hK => ?_) AllReadyH.nil)
          refine step_append_ex rfl (.tmp 37) (.tmp 39) 28 rfl v7 (.slice (some ⟨g, 0, none⟩) 1 1) (by kernel_rfl) (by kernel_rfl) (fun ty => run_app W3 w.heap.size _ _ _ HR.out (some ⟨g, 0, none⟩) 1 1 [x] rfl HO.out (fun e => by cases e) (by have := HNB.out; omega) ty) fun v8 W8 hR => ?_
          have k8 : Below w.heap.size w W8 := k3.trans hR.below
          have HR8 := Lib.hid hR.row
          clear hR
          refine hK.out _ _ k8 (fun k8' => ?_)
          refine wpAnyH_ready (rs := [11]) (by kernel_rfl) (by simp) (AllReadyH.cons rfl (fun KK hK => ?_) AllReadyH.nil)
          refine step_append_ex rfl (.tmp 40) (.tmp 43) 28 rfl v8 (.slice (if c = j then some a else some (a.add j)) (n - j) (c - j)) (by kernel_rfl) (by kernel_rfl) (fun ty => run_app W8 w.heap.size _ _ _ HR8.out (if c = j then some a else some (a.add j)) (n - j) (c - j) (L.drop j) HDL.out (HDZ.out W8 k8) HDC.out (by have := HNB.out; omega) ty) fun v9 W9 hR => ?_
          have k9 : Below w.heap.size w W9 := k8.trans hR.below
          have HR9 := Lib.hid hR.row
          clear hR
          refine hK.out _ _ k9 (fun k9' => ?_)
          refine wpAnyH_take (i := 12) (v := v9) rfl (by kernel_rfl) (by kernel_rfl) (by kernel_rfl) (fun _ _ _ h => h) (Or.inl ⟨by kernel_rfl, fun w' hw' => ?_⟩) k9' ?_
          · kernel_rfl
          refine wpAnyH_done (by kernel_rfl) ?_ _
          have K9 := Lib.hid k9
          obtain ⟨o9, c9, rfl, hz9⟩ := HR9.out.isZ (by rw [List.length_append, List.length_append, HTL.out, HDL.out]; simp)
          have HZ9 := Lib.hid hz9
          clear hz9 k1 k1' k2 k2' k3 k3' k8 k8' k9 k9'
          go_wp2
          all_goals go_ret
          all_goals exact ⟨_, o9, _, c9, rfl, HZ9.out, by have := HNB.out; omega, HSP.out.1, HSP.out.2, K9.out⟩
      | none =>
        obtain rfl := HLR.out.nil rfl
        obtain rfl : n = 0 := by omega
        obtain rfl : j = 0 := hje
        have HZ := Lib.hid HLR.out.is
        have HOC := Lib.hid (fun (_ : (none : Option Addr) = none) => (rfl : (0 : Nat) = 0))
        have HDC := HOC
        have HDZ := Lib.hid (fun W (h : Below w.heap.size w W) => HLR.out.is.below h)
        rw [List.drop_zero] at HDL HSP
        clear HALL HJ
        go_wp2
        have hS0 : (fun w' : World => Below w.heap.size w w') w.drew := (Below.refl _ _).drew
        refine wp_region_held_drew (S := (fun w' : World => Below w.heap.size w w')) (by kernel_rfl) hS0 fun hS0 => ?_
        refine wpAnyH_take (i := 1) (v := .slice none 0 0) rfl (by kernel_rfl) (by kernel_rfl) (by kernel_rfl) (fun _ _ _ h => h) (Or.inl ⟨by kernel_rfl, fun w' hw' => ?_⟩) hS0 ?_
        · kernel_rfl
        refine wpAnyH_take (i := 2) (v := .int .i64 (0 : Nat)) rfl (by kernel_rfl) (by kernel_rfl) (by kernel_rfl) (fun _ _ _ h => h) (Or.inl ⟨by kernel_rfl, fun w' hw' => ?_⟩) hS0 ?_
        · kernel_rfl
        refine wpAnyH_take (i := 3) (v := .slice none 0 0) rfl (by kernel_rfl) (by kernel_rfl) (by kernel_rfl) (fun _ _ _ h => h) (Or.inl ⟨by kernel_rfl, fun w' hw' => ?_⟩) hS0 ?_
        · go_simp
        refine wpAnyH_take (i := 5) (v := .int .i64 x) rfl (by kernel_rfl) (by kernel_rfl) (by kernel_rfl) (fun _ _ _ h => h) (Or.inl ⟨by kernel_rfl, fun w' hw' => ?_⟩) hS0 ?_
        · kernel_rfl
        refine wpAnyH_take (i := 8) (v := .slice none 0 0) rfl (by kernel_rfl) (by kernel_rfl) (by kernel_rfl) (fun _ _ _ h => h) (Or.inl ⟨by kernel_rfl, fun w' hw' => ?_⟩) hS0 ?_
        · kernel_rfl
        refine wpAnyH_take (i := 9) (v := .int .i64 (0 : Nat)) rfl (by kernel_rfl) (by kernel_rfl) (by kernel_rfl) (fun _ _ _ h => h) (Or.inl ⟨by kernel_rfl, fun w' hw' => ?_⟩) hS0 ?_
        · kernel_rfl
        refine wpAnyH_take (i := 10) (v := .slice none 0 0) rfl (by kernel_rfl) (by kernel_rfl) (by kernel_rfl) (fun _ _ _ h => h) (Or.inl ⟨by kernel_rfl, fun w' hw' => ?_⟩) hS0 ?_
        · go_simp
        generalize w.drew = W0 at *
        refine wpAnyH_ready (rs := [0, 6]) (by kernel_rfl) (by simp) (AllReadyH.cons rfl (fun KK hK => ?_) (AllReadyH.cons rfl (fun KK hK => ?_) AllReadyH.nil))
        · go_simp
          have k1 := (hS0.alloc hS0.size (.cells #[] 3))
          have HE := Lib.hid (RowI.empty w.heap.size W0 hS0.size)
          refine hK.out _ _ k1 (fun k1' => ?_)
          generalize W0.alloc (.cells #[] 3) = W1 at *
          generalize W0.heap.size = b0 at *
          refine wpAnyH_ready (rs := [4, 6]) (by kernel_rfl) (by simp) (AllReadyH.cons rfl (fun KK hK => ?_) (AllReadyH.cons rfl (fun KK hK => ?_) AllReadyH.nil))
          · refine step_append_ex rfl (.tmp 33) (.tmp 36) 28 rfl (.slice (some ⟨b0, 0, none⟩) 0 0) (.slice none 0 0) (by kernel_rfl) (by kernel_rfl) (fun ty => run_app W1 w.heap.size _ 0 [] HE.out none 0 0 (L.take 0) HTL.out (IsZ.take (HZ.out.below k1) _) (fun _ => rfl) (by have := HNB.out; omega) ty) fun v7 W2 hR => ?_
            have k2 : Below w.heap.size w W2 := k1.trans hR.below
            have HR : Hid (RowI w.heap.size (L.take 0) 0 v7 W2) := by have h := hR.row; rw [List.nil_append, Nat.zero_add] at h; exact h
            clear hR
            refine hK.out _ _ k2 (fun k2' => ?_)
            refine wpAnyH_ready (rs := [6]) (by kernel_rfl) (by simp) (AllReadyH.cons rfl (fun KK hK => ?_) AllReadyH.nil)
            go_simp
            have k3 := (k2.alloc k2.size (.cells #[.int .i64 x] 3))
            have HO := Lib.hid (one_z W2 x)
            have HR2 := Lib.hid (HR.out.alloc (.cells #[.int .i64 x] 3)); clear HR; have HR := HR2; clear HR2
            refine hK.out _ _ k3 (fun k3' => ?_)
            generalize W2.alloc (.cells #[.int .i64 x] 3) = W3 at *
            generalize W2.heap.size = g at *
            refine wpAnyH_ready (rs := [7]) (by kernel_rfl) (by simp) (AllReadyH.cons rfl (fun KK hK => ?_) AllReadyH.nil)
            refine step_append_ex rfl (.tmp 37) (.tmp 39) 28 rfl v7 (.slice (some ⟨g, 0, none⟩) 1 1) (by kernel_rfl) (by kernel_rfl) (fun ty => run_app W3 w.heap.size _ _ _ HR.out (some ⟨g, 0, none⟩) 1 1 [x] rfl HO.out (fun e => by cases e) (by have := HNB.out; omega) ty) fun v8 W8 hR => ?_
            have k8 : Below w.heap.size w W8 := k3.trans hR.below
            have HR8 := Lib.hid hR.row
            clear hR
            refine hK.out _ _ k8 (fun k8' => ?_)
            refine wpAnyH_ready (rs := [11]) (by kernel_rfl) (by simp) (AllReadyH.cons rfl (fun KK hK => ?_) AllReadyH.nil)
            refine step_append_ex rfl (.tmp 40) (.tmp 43) 28 rfl v8 (.slice none 0 0) (by kernel_rfl) (by kernel_rfl) (fun ty => run_app W8 w.heap.size _ _ _ HR8.out none 0 0 (L) HDL.out (HDZ.out W8 k8) (fun _ => rfl) (by have := HNB.out; omega) ty) fun v9 W9 hR => ?_
            have k9 : Below w.heap.size w W9 := k8.trans hR.below
            have HR9 := Lib.hid hR.row
            clear hR
            refine hK.out _ _ k9 (fun k9' => ?_)
            refine wpAnyH_take (i := 12) (v := v9) rfl (by kernel_rfl) (by kernel_rfl) (by kernel_rfl) (fun _ _ _ h => h) (Or.inl ⟨by kernel_rfl, fun w' hw' => ?_⟩) k9' ?_
            · kernel_rfl
            refine wpAnyH_done (by kernel_rfl) ?_ _
            have K9 := Lib.hid k9
            obtain ⟨o9, c9, rfl, hz9⟩ := HR9.out.isZ (by rw [List.length_append, List.length_append, HTL.out, HDL.out]; simp)
            have HZ9 := Lib.hid hz9
            clear hz9 k1 k1' k2 k2' k3 k3' k8 k8' k9 k9'
            go_wp2
            all_goals go_ret
            all_goals exact ⟨_, o9, _, c9, rfl, HZ9.out, by have := HNB.out; omega, HSP.out.1, HSP.out.2, K9.out⟩
          · go_simp
            have k2 := (k1.alloc k1.size (.cells #[.int .i64 x] 3))
            have HO := Lib.hid (one_z W1 x)
            have HG : Hid (b0 ≠ W1.heap.size) := by have := (HE.out.row.lt b0 rfl).2; show _ ≠ _; omega
            have HR2 := Lib.hid (HE.out.alloc (.cells #[.int .i64 x] 3)); clear HE; have HE := HR2; clear HR2
            refine hK.out _ _ k2 (fun k2' => ?_)
            generalize W1.alloc (.cells #[.int .i64 x] 3) = W2 at *
            generalize W1.heap.size = g at *
            refine wpAnyH_ready (rs := [4]) (by kernel_rfl) (by simp) (AllReadyH.cons rfl (fun KK hK => ?_) AllReadyH.nil)
            refine step_append_ex rfl (.tmp 33) (.tmp 36) 28 rfl (.slice (some ⟨b0, 0, none⟩) 0 0) (.slice none 0 0) (by kernel_rfl) (by kernel_rfl) (fun ty => run_app W2 w.heap.size _ 0 [] HE.out none 0 0 (L.take 0) HTL.out (IsZ.take (HZ.out.below k2) _) (fun _ => rfl) (by have := HNB.out; omega) ty) fun v7 W3 hR => ?_
            have k3 : Below w.heap.size w W3 := k2.trans hR.below
            have HR : Hid (RowI w.heap.size (L.take 0) 0 v7 W3) := by have h := hR.row; rw [List.nil_append, Nat.zero_add] at h; exact h
            have HO2 := Lib.hid (IsZ.grown HO.out hR.grown HG.out); clear HO; have HO := HO2; clear HO2
            clear hR
            refine hK.out _ _ k3 (fun k3' => ?_)
            refine wpAnyH_ready (rs := [7]) (by kernel_rfl) (by simp) (AllReadyH.cons rfl (fun KK hK => ?_) AllReadyH.nil)
            refine step_append_ex rfl (.tmp 37) (.tmp 39) 28 rfl v7 (.slice (some ⟨g, 0, none⟩) 1 1) (by kernel_rfl) (by kernel_rfl) (fun ty => run_app W3 w.heap.size _ _ _ HR.out (some ⟨g, 0, none⟩) 1 1 [x] rfl HO.out (fun e => by cases e) (by have := HNB.out; omega) ty) fun v8 W8 hR => ?_
            have k8 : Below w.heap.size w W8 := k3.trans hR.below
            have HR8 := Lib.hid hR.row
            clear hR
            refine hK.out _ _ k8 (fun k8' => ?_)
            refine wpAnyH_ready (rs := [11]) (by kernel_rfl) (by simp) (AllReadyH.cons rfl (fun KK hK => ?_) AllReadyH.nil)
            refine step_append_ex rfl (.tmp 40) (.tmp 43) 28 rfl v8 (.slice none 0 0) (by kernel_rfl) (by kernel_rfl) (fun ty => run_app W8 w.heap.size _ _ _ HR8.out none 0 0 (L) HDL.out (HDZ.out W8 k8) (fun _ => rfl) (by have := HNB.out; omega) ty) fun v9 W9 hR => ?_
            have k9 : Below w.heap.size w W9 := k8.trans hR.below
            have HR9 := Lib.hid hR.row
            clear hR
            refine hK.out _ _ k9 (fun k9' => ?_)
            refine wpAnyH_take (i := 12) (v := v9) rfl (by kernel_rfl) (by kernel_rfl) (by kernel_rfl) (fun _ _ _ h => h) (Or.inl ⟨by kernel_rfl, fun w' hw' => ?_⟩) k9' ?_
            · kernel_rfl
            refine wpAnyH_done (by kernel_rfl) ?_ _
            have K9 := Lib.hid k9
            obtain ⟨o9, c9, rfl, hz9⟩ := HR9.out.isZ (by rw [List.length_append, List.length_append, HTL.out, HDL.out]; simp)
            have HZ9 := Lib.hid hz9
            clear hz9 k1 k1' k2 k2' k3 k3' k8 k8' k9 k9'
            go_wp2
            all_goals go_ret
            all_goals exact ⟨_, o9, _, c9, rfl, HZ9.out, by have := HNB.out; omega, HSP.out.1, HSP.out.2, K9.out⟩
        · go_simp
          have k1 := (hS0.alloc hS0.size (.cells #[.int .i64 x] 3))
          have HO := Lib.hid (one_z W0 x)
          refine hK.out _ _ k1 (fun k1' => ?_)
          generalize W0.alloc (.cells #[.int .i64 x] 3) = W1 at *
          generalize W0.heap.size = g at *
          refine wpAnyH_ready (rs := [0]) (by kernel_rfl) (by simp) (AllReadyH.cons rfl (fun KK hK => ?_) AllReadyH.nil)
          go_simp
          have k2 := (k1.alloc k1.size (.cells #[] 3))
          have HE := Lib.hid (RowI.empty w.heap.size W1 k1.size)
          have HG : Hid (W1.heap.size ≠ g) := by have := IsZ.lt HO.out; show _ ≠ _; omega
          have HO2 := Lib.hid (IsZ.alloc HO.out (.cells #[] 3)); clear HO; have HO := HO2; clear HO2
          refine hK.out _ _ k2 (fun k2' => ?_)
          generalize W1.alloc (.cells #[] 3) = W2 at *
          generalize W1.heap.size = b0 at *
          refine wpAnyH_ready (rs := [4]) (by kernel_rfl) (by simp) (AllReadyH.cons rfl (fun KK hK => ?_) AllReadyH.nil)
          refine step_append_ex rfl (.tmp 33) (.tmp 36) 28 rfl (.slice (some ⟨b0, 0, none⟩) 0 0) (.slice none 0 0) (by kernel_rfl) (by kernel_rfl) (fun ty => run_app W2 w.heap.size _ 0 [] HE.out none 0 0 (L.take 0) HTL.out (IsZ.take (HZ.out.below k2) _) (fun _ => rfl) (by have := HNB.out; omega) ty) fun v7 W3 hR => ?_
          have k3 : Below w.heap.size w W3 := k2.trans hR.below
          have HR : Hid (RowI w.heap.size (L.take 0) 0 v7 W3) := by have h := hR.row; rw [List.nil_append, Nat.zero_add] at h; exact h
          have HO2 := Lib.hid (IsZ.grown HO.out hR.grown HG.out); clear HO; have HO := HO2; clear HO2
          clear hR
          refine hK.out _ _ k3 (fun k3' => ?_)
          refine wpAnyH_ready (rs := [7]) (by kernel_rfl) (by simp) (AllReadyH.cons rfl (fun KK hK => ?_) AllReadyH.nil)
          refine step_append_ex rfl (.tmp 37) (.tmp 39) 28 rfl v7 (.slice (some ⟨g, 0, none⟩) 1 1) (by kernel_rfl) (by kernel_rfl) (fun ty => run_app W3 w.heap.size _ _ _ HR.out (some ⟨g, 0, none⟩) 1 1 [x] rfl HO.out (fun e => by cases e) (by have := HNB.out; omega) ty) fun v8 W8 hR => ?_
          have k8 : Below w.heap.size w W8 := k3.trans hR.below
          have HR8 := Lib.hid hR.row
          clear hR
          refine hK.out _ _ k8 (fun k8' => ?_)
          refine wpAnyH_ready (rs := [11]) (by kernel_rfl) (by simp) (AllReadyH.cons rfl (fun KK hK => ?_) AllReadyH.nil)
          refine step_append_ex rfl (.tmp 40) (.tmp 43) 28 rfl v8 (.slice none 0 0) (by kernel_rfl) (by kernel_rfl) (fun ty => run_app W8 w.heap.size _ _ _ HR8.out none 0 0 (L) HDL.out (HDZ.out W8 k8) (fun _ => rfl) (by have := HNB.out; omega) ty) fun v9 W9 hR => ?_
          have k9 : Below w.heap.size w W9 := k8.trans hR.below
          have HR9 := Lib.hid hR.row
          clear hR
          refine hK.out _ _ k9 (fun k9' => ?_)
          refine wpAnyH_take (i := 12) (v := v9) rfl (by kernel_rfl) (by kernel_rfl) (by kernel_rfl) (fun _ _ _ h => h) (Or.inl ⟨by kernel_rfl, fun w' hw' => ?_⟩) k9' ?_
          · kernel_rfl
          refine wpAnyH_done (by kernel_rfl) ?_ _
          have K9 := Lib.hid k9
          obtain ⟨o9, c9, rfl, hz9⟩ := HR9.out.isZ (by rw [List.length_append, List.length_append, HTL.out, HDL.out]; simp)
          have HZ9 := Lib.hid hz9
          clear hz9 k1 k1' k2 k2' k3 k3' k8 k8' k9 k9'
          go_wp2
          all_goals go_ret
          all_goals exact ⟨_, o9, _, c9, rfl, HZ9.out, by have := HNB.out; omega, HSP.out.1, HSP.out.2, K9.out⟩

end Go.Proofs.Ytofdejoeheokjaa.ref
