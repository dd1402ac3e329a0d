/-
  The walks of the document's own 'Same' at two files that are one. Condition: both lie in memory as said.
-/
import Derived.Test.YtlgaphopjdeklaaGreatM20
import Derived.Test.YtlgaphopjdeklaaGreatM37
import Derived.StillTailTactics
import Derived.BigQuiet
import Derived.Deep.LoopGhost
namespace Go.Proofs.YtlgaphopjdeklaaGreat
open Go.RowKit
open Go.Lib hiding intOf
theorem aggL {cs : List Value} {a : Array Value} (h : Value.agg cs.toArray = .agg a) : cs = a.toList := by injection h with h; rw [← h]
/-- A box's cells, or an element's, read whole: in a walk; among operations that only read. -/
theorem run_loadAt (T : TypeId) (n : Nat) (hi : (Tryz.prog.info? T).map (·.size) = some n) {fs : _} (hu : Tryz.prog.underlying T = some (.struct fs)) {o : Oper} {a : Act} {w : World} (x : Operand) (ho : o.op = .load T x) (g off : Nat) (hx : a.eval x = .pointer (some ⟨g, off, none⟩)) {cs : List Value} (hc : ∀ (j : Nat) (v : Value), cs[j]? = some v → w.cell? ⟨g, off + j, none⟩ = some v) (hs : cs.length = n) :
    (execOp a.eval o).run Tryz.prog w = .ok (.value (.agg cs.toArray)) w := by
  have hl : (loadCells ⟨g, off, none⟩ cs.length).run Tryz.prog w = .ok cs.toArray w :=
    run_loadCells_list (P := Tryz.prog) w ⟨g, off, none⟩ cs (fun j v hv => by
      have hadd : (⟨g, off, none⟩ : Addr).add j = ⟨g, off + j, none⟩ := by unfold Addr.add; split <;> simp_all
      rw [hadd]; exact hc j v hv)
  have hsv : (loadVar T ⟨g, off, none⟩).run Tryz.prog w = .ok (.agg cs.toArray) w := by
    obtain ⟨i, hi, hi'⟩ := Option.map_eq_some_iff.1 hi
    have hagg : (isAgg T).run Tryz.prog w = .ok true w := by
      unfold isAgg
      rw [Sem.run_bind, run_underlying hu w]
      rfl
    rw [hs] at hl
    generalize cs.toArray = cs at *
    simp [loadVar, Sem.run_bind, hagg, sizeOf, typeInfo, hi, hi', hl]
  unfold execOp
  simp only [ho, hx, Instr.loadAt, Instr.sureAddr, Sem.run_bind, Sem.run_pure, Result.andThen_ok, hsv]
theorem boxLoadAt (T : TypeId) (n : Nat) (hi : (Tryz.prog.info? T).map (·.size) = some n) {fs : _} (hu : Tryz.prog.underlying T = some (.struct fs)) {ops : Array Oper} {rest : List Oper} {o : Oper} {a : Act} {w : World} {Q : Exit → Act → World → Prop} (hgd : o.guard = none) (x : Operand) (ho : o.op = .load T x) (g off : Nat) (hx : a.eval x = .pointer (some ⟨g, off, none⟩)) {cs : List Value} (hc : ∀ (j : Nat) (v : Value), cs[j]? = some v → w.cell? ⟨g, off + j, none⟩ = some v) (hs : cs.length = n)
    (h : wpList Tryz.prog ops Q rest (a.put o.dst (.agg cs.toArray)) w) : wpList Tryz.prog ops Q (o :: rest) a w := by
  refine wpList_plain hgd fun _ hK => ?_
  have hr := run_loadAt T n hi hu x ho g off hx hc hs
  unfold Oper.wp
  rw [hr]
  exact hK _ _ h
theorem size22 : (Tryz.prog.info? 43).map (·.size) = some 22 := sizeOfI infoD
end Go.Proofs.YtlgaphopjdeklaaGreat
