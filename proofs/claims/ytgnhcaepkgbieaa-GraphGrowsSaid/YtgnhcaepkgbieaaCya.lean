/-
  A walk that meets each node once, in memory: made; one look at a node's ways. Condition: at most a thousand nodes, of at most a million ways.
-/
import Derived.Test.YtgnhcaepkgbieaaWmb
import Derived.Deep.DeepCutAuto
namespace Go.Proofs.Ytgnhcaepkgbieaa
open Go.RowKit

def bC (l : List Bool) : List Value := l.map Value.bool
theorem bC_at {l : List Bool} {i : Nat} (h : i < l.length) : (bC l)[i]? = some (.bool (bitAt l i)) := by
  unfold bC
  rw [List.getElem?_map, bitAt_at h]
  rfl
/-- A walk lies there. -/
structure IsWk (w : World) (b bt bm n : Nat) (ow : Option Addr) (tried : List Nat) (met : List Bool) : Prop where
  box : w.heap[b]? = some (.cells #[.slice ow n n, .slice (some ⟨bt, 0, none⟩) n n, .slice (some ⟨bm, 0, none⟩) n n] 67)
  tr : RowI w 0 3 bt n n tried
  me : w.ownsRow 0 4 1 (.slice (some ⟨bm, 0, none⟩) n n) n (bC met)
  lt : tried.length = n
  lm : met.length = n
  ne : b ≠ bt ∧ b ≠ bm ∧ bt ≠ bm
theorem IsWk.turn {w w' : World} {S : Nat → Prop} {b bt bm n : Nat} {ow : Option Addr} {tried : List Nat} {met : List Bool} (h : IsWk w b bt bm n ow tried met) (hT : Turn S w w') (h1 : ¬ S b) (h2 : ¬ S bt) (h3 : ¬ S bm) : IsWk w' b bt bm n ow tried met :=
  ⟨(hT.block b (Array.getElem?_eq_some_iff.1 h.box).1 h1).trans h.box, hT.row h.tr fun k hk => by simp only [Value.ownBlock, Option.some.injEq] at hk; subst hk; exact h2,
    hT.row h.me fun k hk => by simp only [Value.ownBlock, Option.some.injEq] at hk; subst hk; exact h3, h.lt, h.lm, h.ne⟩
theorem IsWk.lts {w : World} {b bt bm n : Nat} {ow : Option Addr} {tried : List Nat} {met : List Bool} (h : IsWk w b bt bm n ow tried met) : b < w.heap.size ∧ bt < w.heap.size ∧ bm < w.heap.size :=
  ⟨(Array.getElem?_eq_some_iff.1 h.box).1, h.tr.lt.2, (World.ownsRow.lt h.me bm rfl).2⟩
theorem IsWk.setT {w : World} {b bt bm n : Nat} {ow : Option Addr} {tried : List Nat} {met : List Bool} (h : IsWk w b bt bm n ow tried met) (i x : Nat) :
    IsWk (w.setCell ⟨bt, i, none⟩ (.int .i64 (x : Int))) b bt bm n ow (tried.set i x) met ∧ Turn (fun k => k = bt) w (w.setCell ⟨bt, i, none⟩ (.int .i64 (x : Int))) := by
  obtain ⟨h1, h2⟩ := h.tr.set (i := i) (x := x)
  exact ⟨⟨(h2.block b (Array.getElem?_eq_some_iff.1 h.box).1 h.ne.1).trans h.box, h1, h2.row h.me fun k hk => by simp only [Value.ownBlock, Option.some.injEq] at hk; subst hk; exact fun e => h.ne.2.2 e.symm, by rw [List.length_set]; exact h.lt, h.lm, h.ne⟩, h2⟩
theorem IsWk.setM {w : World} {b bt bm n : Nat} {ow : Option Addr} {tried : List Nat} {met : List Bool} (h : IsWk w b bt bm n ow tried met) (i : Nat) (x : Bool) :
    IsWk (w.setCell ⟨bm, i, none⟩ (.bool x)) b bt bm n ow tried (met.set i x) ∧ Turn (fun k => k = bm) w (w.setCell ⟨bm, i, none⟩ (.bool x)) := by
  obtain ⟨h1, h2⟩ := World.ownsRow.stored h.me i (.bool x)
  have h3 : Turn (fun k => k = bm) w (w.setCell ⟨bm, i, none⟩ (.bool x)) := (Turn.of_grown h2).mono fun k _ hk => by injection hk
  have e : (bC met).set i (.bool x) = bC (met.set i x) := by unfold bC; rw [List.map_set]
  rw [e] at h1
  exact ⟨⟨(h3.block b (Array.getElem?_eq_some_iff.1 h.box).1 h.ne.2.1).trans h.box, h3.row h.tr fun k hk => by simp only [Value.ownBlock, Option.some.injEq] at hk; subst hk; exact h.ne.2.2, h1, h.lt, by rw [List.length_set]; exact h.lm, h.ne⟩, h3⟩
theorem IsWk.cellT {w : World} {b bt bm n : Nat} {ow : Option Addr} {tried : List Nat} {met : List Bool} (h : IsWk w b bt bm n ow tried met) {i : Nat} (hi : i < n) : w.cell? ⟨bt, i, none⟩ = some (.int .i64 (getH tried i : Int)) ∧ w.frozen? ⟨bt, i, none⟩ = false :=
  ⟨h.tr.cell h.lt hi, World.ownsRow.frozenAt h.tr i⟩
theorem IsWk.cellM {w : World} {b bt bm n : Nat} {ow : Option Addr} {tried : List Nat} {met : List Bool} (h : IsWk w b bt bm n ow tried met) {i : Nat} (hi : i < n) : w.cell? ⟨bm, i, none⟩ = some (.bool (bitAt met i)) ∧ w.frozen? ⟨bm, i, none⟩ = false := by
  refine ⟨?_, World.ownsRow.frozenAt h.me i⟩
  rw [World.ownsRow.cellAt h.me i (by omega)]
  exact bC_at (by rw [h.lm]; exact hi)

set_option maxRecDepth 100000 in
set_option maxHeartbeats 4000000 in
/-- A walk is made. -/
theorem walkerP_any (ow : Option Addr) (n : Nat) (w : World) (hn : n ≤ 1000) :
    Calls Try.prog 30 #[.slice ow n n] w fun e w' => ∃ b bt bm, e = .returned (.pointer (some ⟨b, 0, none⟩)) ∧ IsWk w' b bt bm n ow (List.replicate n 0) (List.replicate n false) ∧ w.heap.size ≤ b ∧ w.heap.size ≤ bt ∧ w.heap.size ≤ bm ∧ Below w.heap.size w w' := by
  have hm1 := make_all 42 3 (.int .i64 0) 8 Try.underlying42 info3s rfl (by decide) n (by omega)
  have hm2 := make_all 65 4 (.bool false) 1 Try.underlying65 info4s rfl (by decide) n (by omega)
  have key : ∀ (W : World) (b bt bm : Nat), W.heap[b]? = some (.cells #[.slice ow n n, .slice (some ⟨bt, 0, none⟩) n n, .slice (some ⟨bm, 0, none⟩) n n] 67) → W.heap[bt]? = some (.cells (Array.replicate n (.int .i64 0)) 3) →
      W.heap[bm]? = some (.cells (Array.replicate n (.bool false)) 4) → b ≠ bt ∧ b ≠ bm ∧ bt ≠ bm → IsWk W b bt bm n ow (List.replicate n 0) (List.replicate n false) := fun W b bt bm h1 h2 h3 h4 =>
    ⟨h1, ⟨by simp [iC], .inr ⟨bt, n, _, rfl, Nat.zero_le _, h2, Nat.le_refl _, by unfold maxLen; omega, by simp, by simp [iC]⟩⟩, ⟨by simp [bC], .inr ⟨bm, n, _, rfl, Nat.zero_le _, h3, Nat.le_refl _, by unfold maxLen; omega, by simp, by simp [bC]⟩⟩, by simp, by simp, h4⟩
  have HKEY := Lib.hid key
  clear key hn
  go_enter Try.func30, Try.ntmps30
  go_wp2
  go_region
  all_goals go_wp2_with fail
  · go_ret
    exact ⟨w.heap.size + 1 + 1, w.heap.size, w.heap.size + 1, rfl, HKEY.out _ _ _ _ (three_blocks w _ _ _).2.2.1 (three_blocks w _ _ _).1 (three_blocks w _ _ _).2.1 ⟨by omega, by omega, by omega⟩, by omega, by omega, by omega, (three_blocks w _ _ _).2.2.2.1⟩
  · go_ret
    exact ⟨w.heap.size + 1 + 1, w.heap.size + 1, w.heap.size, rfl, HKEY.out _ _ _ _ (three_blocks w _ _ _).2.2.1 (three_blocks w _ _ _).2.1 (three_blocks w _ _ _).1 ⟨by omega, by omega, by omega⟩, by omega, by omega, by omega, (three_blocks w _ _ _).2.2.2.1⟩

def triedAt (w : World) (a : Addr) : Nat := match w.cell? a with | some (.int _ x) => x.toNat | _ => 0
theorem IsWk.tried_ {w : World} {b bt bm n : Nat} {ow : Option Addr} {tried : List Nat} {met : List Bool} (h : IsWk w b bt bm n ow tried met) {i : Nat} (hi : i < n) : triedAt w ⟨bt, i, none⟩ = getH tried i := by
  unfold triedAt
  rw [(h.cellT hi).1]
  simp

set_option maxRecDepth 100000 in
set_option maxHeartbeats 4000000 in
/-- One look at a node's ways. -/
theorem nextP_any (ways : List (List Nat)) (b bt bm n i : Nat) (ow : Option Addr) (tried : List Nat) (met : List Bool) (w0 w : World) (hA : AtR w0 ow ways) (hB : Below w0.heap.size w0 w) (hbt : w0.heap.size ≤ bt) (hbm : w0.heap.size ≤ bm) (h : IsWk w b bt bm n ow tried met)
    (hl : ways.length = n) (hr : ∀ u v, v ∈ waysAt ways u → v < n) (hi : i < n) (hn : n ≤ 1000) (hf : (waysAt ways i).length ≤ 1000000) (ht : getH tried i ≤ (waysAt ways i).length) :
    Calls Try.prog 42 #[.pointer (some ⟨b, 0, none⟩), .int .i64 (i : Int)] w fun e w' => ∃ t, NextIs ways met tried i t ∧ Turn (fun k => k = bt ∨ k = bm) w w' ∧
      ((∃ y, (waysAt ways i)[t]? = some y ∧ bitAt met y = false ∧ e = .returned (.tuple #[.int .i64 (y : Int), .bool true]) ∧ IsWk w' b bt bm n ow (tried.set i (t + 1)) (met.set y true)) ∨
       (t = (waysAt ways i).length ∧ e = .returned (.tuple #[.int .i64 0, .bool false]) ∧ IsWk w' b bt bm n ow (tried.set i (waysAt ways i).length) met)) := by
  have HK := Lib.hid h
  have HB := Lib.hid hB
  obtain ⟨g, o2, c2, ho, hcw, haw⟩ := hA i _ (ways_get (by omega))
  subst ho
  have HCW := Lib.hid hcw
  have HAW := Lib.hid haw
  have HR := Lib.hid hr
  have HBT := Lib.hid hbt
  have HBM := Lib.hid hbm
  have HN := Lib.hid hn
  have HF := Lib.hid hf
  have HT0 := Lib.hid ht
  have hi' : ((i : Int) < (n : Int)) := by omega
  have hi0 : (0 : Int) ≤ (i : Int) := by omega
  have HI := Lib.hid hi
  clear hA hB hcw haw h hl hr hn hf ht hbt hbm hi
  go_enter Try.func42, Try.ntmps42
  go_wp2_with fail
  go_loopw [] (fun wr => ∃ t, Hid (getH tried i ≤ t ∧ t ≤ (waysAt ways i).length) ∧ Hid (IsWk wr b bt bm n (some ⟨g, 0, none⟩) (tried.set i t) met) ∧ Hid (Turn (fun k => k = bt ∨ k = bm) w wr) ∧ Hid (∀ y ∈ ((waysAt ways i).take t).drop (getH tried i), bitAt met y = true)) (fun wr => (waysAt ways i).length - triedAt wr ⟨bt, i, none⟩)
  case atStart =>
    refine ⟨getH tried i, ⟨Nat.le_refl _, HT0.out⟩, ?_, Turn.refl _ _, fun y hy => ?_⟩
    · have e : tried.set i (getH tried i) = tried := by
        apply List.ext_getElem?
        intro k
        rw [List.getElem?_set]
        by_cases hk : i = k
        · subst hk
          rw [if_pos rfl, if_pos (by rw [HK.out.lt]; exact HI.out)]
          exact (getH_at (by rw [HK.out.lt]; exact HI.out)).symm
        · rw [if_neg hk]
      show IsWk _ _ _ _ _ _ _ _
      rw [e]
      exact HK.out
    · rw [List.drop_of_length_le (by rw [List.length_take]; omega)] at hy
      simp at hy
  case round =>
    obtain ⟨t, HT, HW, HTU, HM⟩ := hrel
    have HBR := Lib.hid (HB.out.trans (HTU.out.below HB.out.size fun k hk => by have := HBT.out; have := HBM.out; omega))
    have hgt : getH (tried.set i t) i = t := by rw [getH_set _ _ _ _ (by rw [HK.out.lt]; exact HI.out), if_pos rfl]
    have HGT := Lib.hid hgt
    obtain ⟨x0, x1, x2⟩ := cells3 HW.out.box
    obtain ⟨cT, fT⟩ := HW.out.cellT HI.out
    rw [hgt] at cT
    have cw := (HBR.out.cell (World.block_lt_of_cell? _ _ HCW.out)).trans HCW.out
    clear hgt
    by_cases ht : t < (waysAt ways i).length
    · have ht' : ((t : Int) < (((waysAt ways i).length : Nat) : Int)) := by omega
      have ht0 : (0 : Int) ≤ (t : Int) := by omega
      have hwt := IntWalk.i64_in ((t : Int) + 1) ⟨by omega, by have := HF.out; omega⟩
      have hyg : (waysAt ways i)[t]? = some (waysAt ways i)[t] := List.getElem?_eq_getElem ht
      obtain ⟨g2, hg2, hcy⟩ := HAW.out t _ hyg
      subst hg2
      have cy := (HBR.out.cell (World.block_lt_of_cell? _ _ hcy)).trans hcy
      have HYN := Lib.hid (HR.out i _ (List.mem_of_getElem? hyg))
      have HYG := Lib.hid hyg
      have HTL := Lib.hid ht
      have HTK : Hid ((waysAt ways i).take (t + 1) = (waysAt ways i).take t ++ [(waysAt ways i)[t]]) := by show _ = _; rw [List.take_add_one, hyg]; rfl
      clear hcy hyg
      generalize (waysAt ways i)[t] = y at *
      clear ht
      go_wp2_with fail
      go_quiet (fail)
      go_wp2_with fail
      go_quiet (fail)
      generalize hw5 : wr.drewN _ = w5
      have hT5 : Turn (fun _ => False) wr w5 := by rw [← hw5]; exact ⟨rfl, rfl, rfl, Nat.le_refl _, fun _ _ _ => rfl⟩
      have HW5 := Lib.hid (HW.out.turn hT5 (fun h => h) (fun h => h) (fun h => h))
      have HTU5 := Lib.hid (HTU.out.trans (hT5.mono fun k _ h => h.elim))
      clear hw5 hT5 x0 x1 x2 cT fT cw cy
      obtain ⟨x0, x1, x2⟩ := cells3 HW5.out.box
      obtain ⟨cT, fT⟩ := HW5.out.cellT HI.out
      rw [HGT.out] at cT
      go_upto_region 4 with fail
      have hTd : Turn (fun _ => False) w5 (w5.drewN nq) := ⟨rfl, rfl, rfl, Nat.le_refl _, fun _ _ _ => rfl⟩
      have hset := (HW5.out.turn hTd (fun h => h) (fun h => h) (fun h => h)).setT i (t + 1)
      rw [List.set_set, show (((t + 1 : Nat)) : Int) = (t : Int) + 1 by push_cast; rfl] at hset
      have hT6 : Turn (fun k => k = bt ∨ k = bm) w ((w5.drewN nq).setCell ⟨bt, i, none⟩ (.int .i64 ((t : Int) + 1))) :=
        HTU5.out.trans ((hTd.mono fun _ _ h => h.elim).trans (hset.2.mono fun k _ hk => Or.inl hk))
      generalize (w5.drewN nq).setCell ⟨bt, i, none⟩ (.int .i64 ((t : Int) + 1)) = w6 at *
      have HW6 := Lib.hid hset.1
      have HTU6 := Lib.hid hT6
      have HTW : triedAt wr ⟨bt, i, none⟩ = t := (HW.out.tried_ HI.out).trans HGT.out
      have HTW6 : triedAt w6 ⟨bt, i, none⟩ = t + 1 := by rw [HW6.out.tried_ HI.out, getH_set _ _ _ _ (by rw [HK.out.lt]; exact HI.out), if_pos rfl]
      have HM1 := Lib.hid HTW
      have HM2 := Lib.hid HTW6
      clear hset hT6 hTd x0 x1 x2 cT fT HTW HTW6
      obtain ⟨x0, x1, x2⟩ := cells3 HW6.out.box
      obtain ⟨cM, fM⟩ := HW6.out.cellM HYN.out
      have hy' : ((y : Int) < (n : Int)) := by have := HYN.out; omega
      have hy0 : (0 : Int) ≤ (y : Int) := by omega
      cases hby : bitAt met y with
      | true =>
        rw [hby] at cM
        have HM3 : Hid (∀ z ∈ ((waysAt ways i).take (t + 1)).drop (getH tried i), bitAt met z = true) := fun z hz => by
          rw [HTK.out, List.drop_append_of_le_length (by rw [List.length_take]; have := HT.out.1; have := HTL.out; omega), List.mem_append] at hz
          rcases hz with hz | hz
          · exact HM.out z hz
          · rw [List.mem_singleton.1 hz]; exact hby
        clear hby
        go_wp2
        case roundEnd => exact ⟨⟨t + 1, ⟨by have := HT.out.1; omega, by have := HTL.out; omega⟩, HW6, HTU6, HM3⟩, by rw [HM1.out, HM2.out]; have := HTL.out; omega⟩
      | false =>
        rw [hby] at cM
        have HBY := Lib.hid hby
        have hs := HW6.out.setM y true
        have HS := Lib.hid hs
        clear hby hs
        go_wp2
        go_ret2
        exact ⟨t, ⟨HT.out.1, HT.out.2, HM.out⟩, HTU6.out.trans (HS.out.2.mono fun k _ hk => .inr hk), .inl ⟨y, HYG.out, HBY.out, rfl, HS.out.1⟩⟩
    · have ht' : ¬ ((t : Int) < (((waysAt ways i).length : Nat) : Int)) := by omega
      have hte := HT.out.2
      obtain rfl : t = (waysAt ways i).length := by omega
      clear ht hte
      go_wp2_with fail
      go_quiet (fail)
      go_wp2_with fail
      go_ret2
      have hTd : Turn (fun _ => False) wr (wr.drewN nq) := ⟨rfl, rfl, rfl, Nat.le_refl _, fun _ _ _ => rfl⟩
      exact ⟨(waysAt ways i).length, ⟨HT.out.1, Nat.le_refl _, HM.out⟩, HTU.out.trans (hTd.mono fun k _ h => h.elim), .inr ⟨rfl, rfl, HW.out.turn hTd (fun h => h) (fun h => h) (fun h => h)⟩⟩

end Go.Proofs.Ytgnhcaepkgbieaa
