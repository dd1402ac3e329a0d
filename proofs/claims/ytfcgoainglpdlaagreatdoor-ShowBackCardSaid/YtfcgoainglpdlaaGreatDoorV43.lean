/- A box's cells read whole, as a run. No condition. -/
import Derived.Test.YtfcgoainglpdlaaGreatDoorV20
import Derived.Deep.RegionHeld
namespace Go.Proofs.YtfcgoainglpdlaaGreatDoor
open Go.RowKit
theorem run_box (T:TypeId) (n:Nat) (hi:(Tryz.prog.info? T).map (·.size)=some n) {fs:_} (hu:Tryz.prog.underlying T=some (.struct fs)) {o:Oper} {a:Act} {w:World} (x:Operand) (ho:o.op=.load T x) (g off:Nat) (hx:a.eval x=.pointer (some ⟨g,off,none⟩)) {cs:List Value} (hc:∀ (j:Nat) (v:Value),cs[j]?=some v→w.cell? ⟨g,off + j,none⟩=some v) (hs:cs.length=n) :
  (execOp a.eval o).run Tryz.prog w=.ok (.value (.agg cs.toArray)) w:=by
 have hl:(loadCells ⟨g,off,none⟩ cs.length).run Tryz.prog w=.ok cs.toArray w :=
  run_loadCells_list (P:=Tryz.prog) w ⟨g,off,none⟩ cs (fun j v hv=>by
   have hadd:(⟨g,off,none⟩:Addr).add j=⟨g,off + j,none⟩:=by unfold Addr.add;split <;> simp_all
   rw [hadd];exact hc j v hv)
 have hsv:(loadVar T ⟨g,off,none⟩).run Tryz.prog w=.ok (.agg cs.toArray) w:=by
  obtain ⟨i,hi,hi'⟩:=Option.map_eq_some_iff.1 hi
  have hagg:(isAgg T).run Tryz.prog w=.ok true w:=by
   unfold isAgg
   rw [Sem.run_bind,run_underlying hu w]
   rfl
  rw [hs] at hl
  generalize cs.toArray=cs at *
  simp [loadVar,Sem.run_bind,hagg,sizeOf,typeInfo,hi,hi',hl]
 unfold execOp
 simp only [ho,hx,Instr.loadAt,Instr.sureAddr,Sem.run_bind,Sem.run_pure,Result.andThen_ok,hsv]
theorem run_boxG (T:TypeId) (n:Nat) (hi:(Tryz.prog.info? T).map (·.size)=some n) {fs:_} (hu:Tryz.prog.underlying T=some (.struct fs)) {o:Oper} {a:Act} {w:World} (x:Operand) (ho:o.op=.load T x) (g:Addr) (hx:a.eval x=.pointer (some g)) {cs:List Value} (hc:∀ (j:Nat) (v:Value),cs[j]?=some v→w.cell? (g.add j)=some v) (hs:cs.length=n) :
  (execOp a.eval o).run Tryz.prog w=.ok (.value (.agg cs.toArray)) w:=by
 have hl:(loadCells g cs.length).run Tryz.prog w=.ok cs.toArray w:=run_loadCells_list (P:=Tryz.prog) w g cs hc
 have hsv:(loadVar T g).run Tryz.prog w=.ok (.agg cs.toArray) w:=by
  obtain ⟨i,hi,hi'⟩:=Option.map_eq_some_iff.1 hi
  have hagg:(isAgg T).run Tryz.prog w=.ok true w:=by
   unfold isAgg
   rw [Sem.run_bind,run_underlying hu w]
   rfl
  rw [hs] at hl
  generalize cs.toArray=cs at *
  simp [loadVar,Sem.run_bind,hagg,sizeOf,typeInfo,hi,hi',hl]
 unfold execOp
 simp only [ho,hx,Instr.loadAt,Instr.sureAddr,Sem.run_bind,Sem.run_pure,Result.andThen_ok,hsv]
end Go.Proofs.YtfcgoainglpdlaaGreatDoor
