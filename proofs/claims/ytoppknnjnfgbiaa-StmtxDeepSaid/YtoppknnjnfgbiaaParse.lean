/-
  The walk of 'Parse'. Condition: the tokens lie in memory as 'ZAt' says; texts of at most 2^48 bytes.
-/
import Derived.Test.YtoppknnjnfgbiaaClosed
import Derived.WalkMore
namespace Go.Proofs.Ytoppknnjnfgbiaa
open Go.RowKit
open Go.Lib hiding intOf

/-- What is answered inside so many lists. -/
def wraps (ps : List Int) (r : Res) : Res := ps.foldr (fun p r => r.wrap p) r
theorem wraps_err (ps : List Int) (p c : Int) : wraps ps (.err p c) = .err p c := by
  induction ps with
  | nil => rfl
  | cons a r ih => show Res.wrap a (wraps r _) = _; rw [ih]; rfl
theorem wraps_ok (ps : List Int) (x : TX) (n : Int) : wraps ps (.ok x n) = .ok (nest ps x) n := by
  induction ps with
  | nil => rfl
  | cons a r ih => show Res.wrap a (wraps r _) = _; rw [ih]; rfl
theorem wraps_snoc (ps : List Int) (p : Int) (r : Res) : wraps (ps ++ [p]) r = wraps ps (r.wrap p) := by
  unfold wraps; rw [List.foldr_append]; rfl

theorem prs_elm (l : List TZ) (k : Nat) (i : Int) (h : isKT (tkAt l i) 4 ⟨#[91]⟩ = false) : prs l k i = elm l i := by
  cases k <;> simp [prs, h]
theorem prs_deep (l : List TZ) (i : Int) (h : isKT (tkAt l i) 4 ⟨#[91]⟩ = true) : prs l 0 i = .err (tkAt l i).pos 6 := by simp [prs, h]
theorem prs_shut (l : List TZ) (k : Nat) (i : Int) (h : isKT (tkAt l i) 4 ⟨#[91]⟩ = true) (h2 : isKT (tkAt l (i + 1)) 4 ⟨#[93]⟩ = false) : prs l (k + 1) i = .err (tkAt l (i + 1)).pos 5 := by simp [prs, h, h2]
theorem prs_list (l : List TZ) (k : Nat) (i : Int) (h : isKT (tkAt l i) 4 ⟨#[91]⟩ = true) (h2 : isKT (tkAt l (i + 1)) 4 ⟨#[93]⟩ = true) : prs l (k + 1) i = (prs l k (i + 2)).wrap (tkAt l i).pos := by simp [prs, h, h2]
theorem elm_five {l : List TZ} {i p c : Int} (h : elm l i = .err p c) : c = 5 := by
  unfold elm at h
  split at h <;> (repeat' split at h) <;> first | (injection h with _ h; exact h.symm) | cases h

theorem run_field (a b c : Int) (t : ByteArray) (w : World) : (Instr.field 53 (.agg #[.int .i64 a, .int .i64 b, .int .i64 c, .string t]) 1).run Try.prog w = .ok (.int .i64 b) w := by
  simp [Instr.field, go_sem, part, asAgg]

/-- The array of the offsets. -/
def Opens (w W : World) (ps : List Int) : Prop := ps.length ≤ 30 ∧ ∃ cs : Array Value, Blk W (w.heap.size + 1 + 1) 97 cs ∧ cs.size = 30 ∧ ∀ (k : Nat) (p : Int), ps[k]? = some p → cs[k]? = some (Value.int .i64 p)
theorem Opens.below {w W W' : World} {ps : List Int} (h : Opens w W ps) (hb : Below W.heap.size W W') : Opens w W' ps := by
  obtain ⟨hl, cs, h1, h2, h3⟩ := h
  exact ⟨hl, cs, h1.below hb, h2, h3⟩
theorem Opens.at_ {w W : World} {ps : List Int} (h : Opens w W ps) : OpensAt W (w.heap.size + 1 + 1) ps := by
  obtain ⟨_, cs, h1, _, h3⟩ := h
  exact fun k p hk => (h1.cell k).trans (h3 k p hk)
theorem Opens.put {w W : World} {ps : List Int} (h : Opens w W ps) (hl : ps.length < 30) (p : Int) : Opens w (W.setCell ⟨w.heap.size + 1 + 1, ps.length, none⟩ (.int .i64 p)) (ps ++ [p]) := by
  obtain ⟨_, cs, h1, h2, h3⟩ := h
  refine ⟨by simp; omega, _, h1.set_ ps.length (.int .i64 p), by simpa using h2, fun k q hk => ?_⟩
  rw [Array.getElem?_setIfInBounds]
  by_cases e : ps.length = k
  · subst e
    simp at hk
    subst hk
    simp [h2, hl]
  · rw [if_neg e]
    refine h3 k q ?_
    rw [List.getElem?_append] at hk
    split at hk
    · exact hk
    · have hl2 : (ps ++ [p]).length ≤ k ∨ k < (ps ++ [p]).length := by omega
      simp at hl2
      rw [List.getElem?_eq_none (by simp; omega)] at hk
      cases hk
theorem Opens.room {w W : World} {ps : List Int} (h : Opens w W ps) (hl : ps.length < 30) : (∃ u, W.cell? ⟨w.heap.size + 1 + 1, ps.length, none⟩ = some u) ∧ W.frozen? ⟨w.heap.size + 1 + 1, ps.length, none⟩ = false := by
  obtain ⟨_, cs, h1, h2, _⟩ := h
  exact ⟨⟨cs[ps.length]'(by omega), (h1.cell _).trans (Array.getElem?_eq_getElem (by omega))⟩, h1.frozen _⟩
theorem ret7_size (w W : World) (v0 v1 v2 v3 v4 v5 v6 : Value) : (ret7 w W v0 v1 v2 v3 v4 v5 v6).heap.size = W.heap.size := by simp [ret7, World.setCell]
theorem Two.far {w W : World} (h : Two w W) {p : Addr} (hp : w.heap.size + 1 < p.block) (u : Value) : Two w (W.setCell p u) :=
  ⟨h.type.far (by omega) u, h.diag.far (by omega) u, h.below.setCell (by omega) u, by have := h.size; simpa [World.setCell] using this⟩

/-- What a round of 'Parse' keeps. -/
def InvP (l : List TZ) (i : Int) (w : World) (ps : List Int) (n : Int) (W : World) : Prop :=
  Two w W ∧ Opens w W ps ∧ prs l 30 i = wraps ps (prs l (30 - ps.length) n)

def zero30 : Array Value := Array.replicate 30 (.int .i64 0)
theorem InvP.start (l : List TZ) (i : Int) (w : World) : InvP l i w [] i (((w.alloc (.cells zeroT 38)).alloc (.cells zeroG 26)).alloc (.cells zero30 97)) := by
  refine ⟨(Two.start w).alloc _, ⟨Nat.zero_le _, zero30, ?_, by simp [zero30], fun k p hk => by simp at hk⟩, rfl⟩
  have := Blk.new ((w.alloc (.cells zeroT 38)).alloc (.cells zeroG 26)) 97 zero30
  simpa using this

set_option maxRecDepth 20000 in
set_option maxHeartbeats 4000000 in
theorem parse_any (o : Option Addr) (c : Nat) (l : List TZ) (i : Int) (w : World) (h : ZAt w o l) (hn : l.length ≤ 9223372036854775807) (hf : Fits l) :
    Calls Try.prog 86 #[.slice o l.length c, .int .i64 i] w fun e w' => ∃ v, e = .returned v ∧ IsRes (w.heap.size + 2) w' (prs l 30 i) v ∧ Below w.heap.size w w' := by
  have HT := Lib.hid (fun (W : World) (j : Int) (hb : Below w.heap.size w W) => tokenAt_v o c l j W (h.below hb) hn)
  have HS := Lib.hid (fun (W : World) (t : TZ) (y : ByteArray) => isSymbol_v t.kind t.pos t.stop t.text y W)
  have HE := Lib.hid (fun (W : World) (j : Int) (hb : Below w.heap.size w W) => element_any o c l j W (h.below hb) hn hf)
  have S := Lib.hid (InvP.start l i w)
  have hfield := run_field
  clear h hf
  go_enter Try.func86, Try.ntmps86
  go_wp2
  go_step3
  go_wp2
  go_step3
  go_wp2
  go_loopw [8, 9] (fun s8 s9 wr => ∃ (ps : List Int) (n : Int), s8 = .int .i64 (ps.length : Nat) ∧ s9 = .int .i64 n ∧ ps.length ≤ 30 ∧ Hid (InvP l i w ps n wr)) (fun s8 _ _ => 30 - (RowKit.intOf s8).toNat)
  case atStart => exact ⟨[], i, rfl, rfl, by simp, S⟩
  case round =>
    obtain ⟨ps, n, rfl, rfl, hd, HI⟩ := hrel
    clear S
    go_wp2_with fail
    refine (HT.out _ n HI.out.1.below).mono ?_
    rintro e w1 ⟨rfl, hB⟩
    have T1 := Lib.hid (HI.out.1.step hB)
    have O1 := Lib.hid (HI.out.2.1.below hB)
    have HP := Lib.hid HI.out.2.2
    clear hB HI
    go_wp2_with fail
    refine (HS.out _ (tkAt l n) _).mono ?_
    rintro e w2 ⟨rfl, hB⟩
    have T2 := Lib.hid ((T1.out.alloc _).step hB)
    have O2 := Lib.hid ((O1.out.below ((Below.refl _ _).alloc (Nat.le_refl _) _)).below hB)
    have X2 := Lib.hid (blk_mid3 hB)
    have hz2 := mid_size hB
    have hz1 := T1.out.size
    clear hB T1 O1
    cases he : isKT (tkAt l n) 4 ⟨#[91]⟩
    · have HP2 := Lib.hid (HP.out.trans (congrArg (wraps ps) (prs_elm l _ n he)))
      clear he HP
      go_wp2_with fail
      refine (HE.out _ n T2.out.below).mono ?_
      rintro e w3 ⟨v, rfl, hr, hB⟩
      have T3 := Lib.hid (T2.out.step hB)
      have O3 := Lib.hid (O2.out.below hB)
      have hz3 := T2.out.size
      have hr2 : IsRes (w.heap.size + 2) w3 (elm l n) v := hr.mono (by omega)
      clear hB T2 O2 X2 hr
      obtain ⟨R, hq⟩ : ∃ R, elm l n = R := ⟨_, rfl⟩
      have HQ := Lib.hid hq
      rw [hq] at hr2
      clear hq
      cases R with
      | ok x m =>
        obtain ⟨y, rfl, hx⟩ := hr2
        obtain ⟨k, p, g, s, o', a', rfl⟩ := hx.parts
        have HX := Lib.hid hx
        have HC := Lib.hid (fun (W : World) (hb : Below w3.heap.size w3 W) => closed_any (w.heap.size + 2) x _ (w.heap.size + 1 + 1) 30 ps W (IsTX.below hx hb) (by have := T3.out.size; have := hb.size; omega) ((O3.out.below hb).at_) hd)
        have hz4 : w.heap.size < w3.heap.size := by have := T3.out.size; omega
        have hz5 : w.heap.size + 1 < w3.heap.size := by have := T3.out.size; omega
        have hd0 : (0 : Int) ≤ (ps.length : Nat) := by omega
        have hd1 : ((ps.length : Nat) : Int) ≤ 30 := by omega
        clear hx
        obtain ⟨c1, c2, c3, c4⟩ := T3.out.cells
        simp only [zeroT, zeroG] at c1 c3
        unfold okV
        go_wp2_with fail
        go_region_with (go_at_call 91; refine (HC.out _ ((((Below.refl _ _).alloc (Nat.le_refl _) _).alloc (by simp) _).drew)).mono ?_; rintro e w4 ⟨v4, rfl, hx4, hB⟩; obtain ⟨k4, p4, g4, s4, o4, a4, rfl⟩ := hx4.parts; have T4 := Lib.hid (((T3.out.alloc _).alloc _).step hB.undrew); have HX4 := Lib.hid hx4; clear hB hx4; obtain ⟨c5, c6, c7, c8⟩ := T4.out.cells; simp only [zeroT, zeroG] at c5 c7)
        go_wp2
        rw [Exit.noGoto_ret]
        refine bodyPost_ret (v := okV (.agg #[.int .i64 k4, .int .i64 p4, .string g4, .string s4, .slice o4 a4 a4]) m) (by simp [okV, results, Try.results86, go_sem, c5, c7]) rfl ?_
        refine ⟨_, rfl, ?_, ret7_below T4.out _ _ _ _ _ _ _⟩
        have hr : prs l 30 i = .ok (nest ps x) m := by rw [HP2.out, HQ.out, wraps_ok]
        rw [hr]
        exact ⟨_, rfl, ret7_type HX4.out (by omega) _ _ _ _ _ _ _⟩
      | err p k =>
        obtain rfl : k = 5 := elm_five HQ.out
        obtain rfl : v = errV p 5 := hr2
        obtain ⟨c1, c2, c3, c4⟩ := T3.out.cells
        simp only [zeroT, zeroG] at c1 c3
        have hz4 : w.heap.size < w3.heap.size := by have := T3.out.size; omega
        have hz5 : w.heap.size + 1 < w3.heap.size := by have := T3.out.size; omega
        unfold errV noType noText
        go_wp2_with fail
        go_region
        go_wp2
        rw [Exit.noGoto_ret]
        refine bodyPost_ret (v := errV p 5) (by simp [errV, noType, noText, results, Try.results86, go_sem, c1, c3, hz4, hz5]) rfl ?_
        have hr : prs l 30 i = .err p 5 := by rw [HP2.out, HQ.out, wraps_err]
        exact ⟨_, rfl, by rw [hr]; rfl, (((ret7_below T3.out _ _ _ _ _ _ _).alloc (by rw [ret7_size]; omega) _).alloc (by rw [World.size_alloc, ret7_size]; omega) _).drew⟩
    · have HE1 := Lib.hid he
      have hn1 := isKT_real (by decide) he
      obtain ⟨hn2, hn3⟩ := hn1
      clear he
      by_cases h30 : ps.length = 30
      · have e30 : (((ps.length : Nat) : Int) == 30) = true := by rw [h30]; rfl
        have hz4 : w.heap.size < w2.heap.size := by omega
        have hz5 : w.heap.size + 1 < w2.heap.size := by omega
        have hz6 : w1.heap.size ≠ w.heap.size := by omega
        have hz7 : w1.heap.size ≠ w.heap.size + 1 := by omega
        obtain ⟨c1, c2, c3, c4⟩ := T2.out.cells
        have c5 := X2.out.cell
        simp only [zeroT, zeroG] at c1 c3
        have H30 := Lib.hid h30
        clear h30
        go_wp2_with fail
        go_region
        go_wp2
        rw [Exit.noGoto_ret]
        refine bodyPost_ret (v := errV (tkAt l n).pos 6) (by simp [errV, noType, noText, results, Try.results86, go_sem, c1, c3]) rfl ?_
        have hr : prs l 30 i = .err (tkAt l n).pos 6 := by rw [HP.out, H30.out, prs_deep l n HE1.out, wraps_err]
        exact ⟨_, rfl, by rw [hr]; rfl, (ret7_below T2.out _ _ _ _ _ _ _).drew⟩
      · have e30 : (((ps.length : Nat) : Int) == 30) = false := by simp; omega
        have hlt : ps.length < 30 := by omega
        have c5 := X2.out.cell
        clear h30
        go_wp2_with fail
        refine (HT.out _ (n + 1) T2.out.below).mono ?_
        rintro e w3 ⟨rfl, hB⟩
        have T3 := Lib.hid (T2.out.step hB)
        have O3 := Lib.hid (O2.out.below hB)
        have X3 := Lib.hid (X2.out.below hB)
        clear hB T2 O2 X2 c5
        go_wp2_with fail
        refine (HS.out _ (tkAt l (n + 1)) _).mono ?_
        rintro e w4 ⟨rfl, hB⟩
        have T4 := Lib.hid (T3.out.step hB)
        have O4 := Lib.hid (O3.out.below hB)
        have X4 := Lib.hid (X3.out.below hB)
        clear hB T3 O3 X3
        cases he : isKT (tkAt l (n + 1)) 4 ⟨#[93]⟩
        · have HE2 := Lib.hid he
          clear he
          go_wp2_with fail
          refine (HT.out _ (n + 1) T4.out.below).mono ?_
          rintro e w5 ⟨rfl, hB⟩
          have T5 := Lib.hid (T4.out.step hB)
          clear hB T4 O4 X4
          obtain ⟨c1, c2, c3, c4⟩ := T5.out.cells
          simp only [zeroT, zeroG] at c1 c3
          go_wp2
          rw [Exit.noGoto_ret]
          refine bodyPost_ret (v := errV (tkAt l (n + 1)).pos 5) (by simp [errV, noType, noText, results, Try.results86, go_sem, c1, c3]) rfl ?_
          have hr : prs l 30 i = .err (tkAt l (n + 1)).pos 5 := by rw [HP.out, show 30 - ps.length = (29 - ps.length) + 1 by omega, prs_shut l _ n HE1.out HE2.out, wraps_err]
          exact ⟨_, rfl, by rw [hr]; rfl, ret7_below T5.out _ _ _ _ _ _ _⟩
        · have HE2 := Lib.hid he
          obtain ⟨hn4, hn5⟩ := isKT_real (by decide) he
          clear he
          have c5 := X4.out.cell
          obtain ⟨⟨u, hu⟩, hfu⟩ := O4.out.room hlt
          have hd0 : (0 : Int) ≤ (ps.length : Nat) := by omega
          have hd1 : ((ps.length : Nat) : Int) < 30 := by omega
          go_wp2
          go_roundw
          case rel =>
            refine ⟨ps ++ [(tkAt l n).pos], n + 2, ?_, rfl, by simp; omega, Lib.hid ⟨T4.out.far (by simp only; omega) _, O4.out.put hlt _, ?_⟩⟩
            · simp
            · rw [HP.out, wraps_snoc, show 30 - ps.length = (29 - ps.length) + 1 by omega, prs_list l _ n HE1.out HE2.out]
              congr 3
              simp
          case measure => simp [RowKit.intOf]; omega

end Go.Proofs.Ytoppknnjnfgbiaa
