/-
  The walks of the document's own 'Same' at two files that are one. Condition: both lie in memory as said.
-/
import Derived.Test.YtlgaphopjdeklaaGreatU21
import Derived.Test.YtlgaphopjdeklaaGreatU38
import Derived.StillTailTactics
import Derived.BigQuiet
import Derived.Deep.LoopGhost
namespace Go.Proofs.YtlgaphopjdeklaaGreat
open Go.RowKit
open Go.Lib hiding intOf
theorem rowBelow {α : Type} {E : Elt α} {P : Nat → Prop} {w w' : World} {o : Option Addr} {i : Nat} {xs : List α} (h : InRow E.k (E.One P w) P w o i xs) (hb : Below w.heap.size w w') : InRow E.k (E.One P w') P w' o i xs :=
  h.keep (fun _ _ _ h _ => h) (fun _ _ _ _ hc => (hb.cell (World.block_lt_of_cell? _ _ hc)).trans hc) (fun _ _ h => E.keep (fun _ _ _ h _ => h) (fun _ _ _ _ hc => (hb.cell (World.block_lt_of_cell? _ _ hc)).trans hc) h) E.pos
theorem aggL {cs : List Value} {a : Array Value} (h : Value.agg cs.toArray = .agg a) : cs = a.toList := by injection h with h; rw [← h]
/-- A box's cells, or an element's, read whole: in a walk; among operations that only read. -/
theorem run_loadAt (T : TypeId) (n : Nat) (hi : (Tryz.prog.info? T).map (·.size) = some n) {fs : _} (hu : Tryz.prog.underlying T = some (.struct fs)) {o : Oper} {a : Act} {w : World} (x : Operand) (ho : o.op = .load T x) (g off : Nat) (hx : a.eval x = .pointer (some ⟨g, off, none⟩)) {cs : List Value} (hc : ∀ (j : Nat) (v : Value), cs[j]? = some v → w.cell? ⟨g, off + j, none⟩ = some v) (hs : cs.length = n) :
    (execOp a.eval o).run Tryz.prog w = .ok (.value (.agg cs.toArray)) w := by
  have hl : (loadCells ⟨g, off, none⟩ cs.length).run Tryz.prog w = .ok cs.toArray w :=
    run_loadCells_list (P := Tryz.prog) w ⟨g, off, none⟩ cs (fun j v hv => by
      have hadd : (⟨g, off, none⟩ : Addr).add j = ⟨g, off + j, none⟩ := by unfold Addr.add; split <;> simp_all
      rw [hadd]; exact hc j v hv)
  have hsv : (loadVar T ⟨g, off, none⟩).run Tryz.prog w = .ok (.agg cs.toArray) w := by
    obtain ⟨i, hi, hi'⟩ := Option.map_eq_some_iff.1 hi
    have hagg : (isAgg T).run Tryz.prog w = .ok true w := by
      unfold isAgg
      rw [Sem.run_bind, run_underlying hu w]
      rfl
    rw [hs] at hl
    generalize cs.toArray = cs at *
    simp [loadVar, Sem.run_bind, hagg, sizeOf, typeInfo, hi, hi', hl]
  unfold execOp
  simp only [ho, hx, Instr.loadAt, Instr.sureAddr, Sem.run_bind, Sem.run_pure, Result.andThen_ok, hsv]
theorem boxLoadAt (T : TypeId) (n : Nat) (hi : (Tryz.prog.info? T).map (·.size) = some n) {fs : _} (hu : Tryz.prog.underlying T = some (.struct fs)) {ops : Array Oper} {rest : List Oper} {o : Oper} {a : Act} {w : World} {Q : Exit → Act → World → Prop} (hgd : o.guard = none) (x : Operand) (ho : o.op = .load T x) (g off : Nat) (hx : a.eval x = .pointer (some ⟨g, off, none⟩)) {cs : List Value} (hc : ∀ (j : Nat) (v : Value), cs[j]? = some v → w.cell? ⟨g, off + j, none⟩ = some v) (hs : cs.length = n)
    (h : wpList Tryz.prog ops Q rest (a.put o.dst (.agg cs.toArray)) w) : wpList Tryz.prog ops Q (o :: rest) a w := by
  refine wpList_plain hgd fun _ hK => ?_
  have hr := run_loadAt T n hi hu x ho g off hx hc hs
  unfold Oper.wp
  rw [hr]
  exact hK _ _ h
theorem stillLoadAt (T : TypeId) (n : Nat) (hi : (Tryz.prog.info? T).map (·.size) = some n) {fs : _} (hu : Tryz.prog.underlying T = some (.struct fs)) {ops : Array Oper} {rest : List Oper} {o : Oper} {a : Act} {w : World} {Q : Act → Prop} (hgd : o.guard = none) (x : Operand) (ho : o.op = .load T x) (g off : Nat) (hx : a.eval x = .pointer (some ⟨g, off, none⟩)) {cs : List Value} (hc : ∀ (j : Nat) (v : Value), cs[j]? = some v → w.cell? ⟨g, off + j, none⟩ = some v) (hs : cs.length = n)
    (h : wpStill Tryz.prog ops w Q rest (a.put o.dst (.agg cs.toArray))) : wpStill Tryz.prog ops w Q (o :: rest) a := by
  have hr := run_loadAt T n hi hu x ho g off hx hc hs
  refine wpStill_step fun K hK => ?_
  have hw : Region.wanted o (yielded ops a.tmps) = true := by simp [Region.wanted, hgd]
  rw [if_pos hw]
  unfold Oper.still
  rw [hr, Oper.stillUpon_value]
  exact hK _ h
theorem cellsIn {w : World} {g off : Nat} {cs : List Value} (h : ∀ (j : Nat) (u : Value), cs[j]? = some u → w.cell? ⟨g, off + j, none⟩ = some u) (k n : Nat) : ∀ (j : Nat) (v : Value), ((cs.drop k).take n)[j]? = some v → w.cell? ⟨g, off + k + j, none⟩ = some v := fun j v hv => by
  rw [Nat.add_assoc]
  refine h _ _ ?_
  rw [List.getElem?_take] at hv
  split at hv
  · rw [List.getElem?_drop] at hv; exact hv
  · cases hv
theorem size5 : (Tryz.prog.info? 36).map (·.size) = some 5 := sizeOfI infoT
theorem size22 : (Tryz.prog.info? 43).map (·.size) = some 22 := sizeOfI infoD
set_option maxRecDepth 100000 in
set_option maxHeartbeats 4000000 in
theorem samePs (xs : List PX) (hx : (xs.length : Int) ≤ 4611686018427387904) (P Q : Nat → Prop) (o o' : Option Addr) (c c' : Nat) (w : World) (hu : InRow 7 (IsPX P w) P w o 0 xs) (hv : InRow 7 (IsPX Q w) Q w o' 0 xs) :
    Calls Tryz.prog 27 #[.slice o xs.length c, .slice o' xs.length c'] w fun e w' => e = .returned (.bool true) ∧ Below w.heap.size w w' := by
  have HA := Lib.hid hu
  have HB := Lib.hid hv
  clear hu hv
  go_enter Tryz.func27, Tryz.ntmps27
  go_wp2_with fail
  go_loopg [5, 6] xs.length (fun g i _ wr => ∃ k : Nat, i = .int .i64 (k : Nat) ∧ k + g = xs.length ∧ Hid (Below w.heap.size w wr))
  case atStart => exact ⟨0, rfl, by omega, Lib.hid (Below.refl _ _)⟩
  case round =>
    obtain ⟨k, rfl, hk, hbr⟩ := hrel
    by_cases hlt : k < xs.length
    · obtain ⟨gg, rfl⟩ : ∃ gg, gk = gg + 1 := ⟨gk - 1, by omega⟩
      have hxk := List.getElem?_eq_getElem hlt
      obtain ⟨b, cs, rfl, _, hl, hc, hy⟩ := (rowBelow (E := eltP) HA.out hbr.out).at_ k hxk
      obtain ⟨b', cs', rfl, _, hl', hc', hy'⟩ := (rowBelow (E := eltP) HB.out hbr.out).at_ k hxk
      obtain ⟨tk, tp, tg, tn, tz, ta, hv, ht⟩ := hy
      obtain ⟨tk', tp', tg', tn', tz', ta', hv', ht'⟩ := hy'
      obtain rfl := aggL hv
      obtain rfl := aggL hv'
      rw [Nat.zero_add] at hc hc'
      have HT := Lib.hid (fun (W : World) (hb : Below wr.heap.size wr W) => sameT_any (xs[k]).typ P Q _ _ W (ht.below hb) (ht'.below hb))
      have c0 : wr.cell? ⟨b, k * 7, none⟩ = some (.string (xs[k]).name) := hc 0 _ rfl
      have c1 : wr.cell? ⟨b, k * 7 + 1, none⟩ = some (.int .i64 (xs[k]).pos) := hc 1 _ rfl
      have d0 : wr.cell? ⟨b', k * 7, none⟩ = some (.string (xs[k]).name) := hc' 0 _ rfl
      have d1 : wr.cell? ⟨b', k * 7 + 1, none⟩ = some (.int .i64 (xs[k]).pos) := hc' 1 _ rfl
      have hlt2 : ((k : Nat) : Int) < (xs.length : Nat) := by omega
      have hk0 : (0 : Int) ≤ (k : Nat) := by omega
      have C1 := Lib.hid (cellsIn hc 2 5)
      have C2 := Lib.hid (cellsIn hc' 2 5)
      have hbl : b < wr.heap.size := World.block_lt_of_cell? _ _ c0
      have hbl2 : b' < wr.heap.size := World.block_lt_of_cell? _ _ d0
      have hwr := hbr.out.size
      clear hc hc' hl hl' ht ht' hv hv'
      generalize xs[k] = y at *
      clear hxk
      go_wp2_with fail
      refine wp_region_still_tail 10 (by kernel_rfl) (by kernel_rfl) ?_
      simp only [List.take_succ_cons, List.take_zero, List.drop_succ_cons, List.drop_zero]
      iterate 4 still_step
      refine stillLoadAt 36 5 size5 Tryz.underlying36 rfl _ rfl b (k * 7 + 2) rfl C1.out rfl ?_
      iterate 4 still_step
      refine stillLoadAt 36 5 size5 Tryz.underlying36 rfl _ rfl b' (k * 7 + 2) rfl C2.out rfl ?_
      refine wpStill_nil ?_
      change wpList _ _ _ _ _ wr.drew
      go_wp2_with fail
      refine (HT.out _ (Below.refl _ _).drew).mono ?_
      rintro e w2 ⟨rfl, hB⟩
      have kb := hB.undrew
      have B2 := Lib.hid (hbr.out.trans (kb.mono hwr))
      have e0 := (kb.cell (p := ⟨b, k * 7, none⟩) hbl).trans c0
      have e1 := (kb.cell (p := ⟨b, k * 7 + 1, none⟩) hbl).trans c1
      have f0 := (kb.cell (p := ⟨b', k * 7, none⟩) hbl2).trans d0
      have f1 := (kb.cell (p := ⟨b', k * 7 + 1, none⟩) hbl2).trans d1
      clear hB kb c0 c1 d0 d1 C1 C2 HT
      go_wp2_with fail
      go_quiet (fail)
      go_wp2
      go_roundg gg
      case measure => omega
      case rel => exact ⟨k + 1, by go_num, by omega, Lib.hid (below_drewN B2.out _)⟩
    · have hlt2 : ¬ ((k : Nat) : Int) < (xs.length : Nat) := by omega
      go_wp2
      go_ret
      exact ⟨rfl, hbr.out⟩
end Go.Proofs.YtlgaphopjdeklaaGreat
