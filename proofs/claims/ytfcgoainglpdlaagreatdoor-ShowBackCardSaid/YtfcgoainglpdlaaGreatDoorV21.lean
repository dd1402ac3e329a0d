/- The document's own argument of an expression. No condition. The document's own texts of expressions: with brackets. Condition: the text's length is an int. The document's own expression lists: with commas between. Condition: the text's length is an int. -/
import Derived.Test.YtfcgoainglpdlaaGreatDoorV03
import Derived.Test.YtfcgoainglpdlaaGreatDoorV20
import Derived.Laws.CopyOwn
namespace Go.Proofs.YtfcgoainglpdlaaGreatDoor
open Go.RowKit
theorem boxLoadG (T:TypeId) (n:Nat) (hi:(Tryz.prog.info? T).map (·.size)=some n) {fs:_} (hu:Tryz.prog.underlying T=some (.struct fs)) {ops:Array Oper} {rest:List Oper} {o:Oper} {a:Act} {w:World} {Q:Exit→Act→World→Prop} (hgd:o.guard=none) (x:Operand) (ho:o.op=.load T x) (g:Addr) (hx:a.eval x=.pointer (some g)) {cs:List Value} (hc:∀ (j:Nat) (v:Value),cs[j]?=some v→w.cell? (g.add j)=some v) (hs:cs.length=n)
  (h:wpList Tryz.prog ops Q rest (a.put o.dst (.agg cs.toArray)) w):wpList Tryz.prog ops Q (o::rest) a w:=by
 refine wpList_plain hgd fun _ hK=>?_
 have hl:(loadCells g cs.length).run Tryz.prog w=.ok cs.toArray w:=run_loadCells_list (P:=Tryz.prog) w g cs hc
 have hsv:(loadVar T g).run Tryz.prog w=.ok (.agg cs.toArray) w:=by
  obtain ⟨i,hi,hi'⟩:=Option.map_eq_some_iff.1 hi
  have hagg:(isAgg T).run Tryz.prog w=.ok true w:=by
   unfold isAgg
   rw [Sem.run_bind,run_underlying hu w]
   rfl
  rw [hs] at hl
  generalize cs.toArray=cs at *
  simp [loadVar,Sem.run_bind,hagg,sizeOf,typeInfo,hi,hi',hl]
 have hr:(execOp a.eval o).run Tryz.prog w=.ok (.value (.agg cs.toArray)) w:=by
  unfold execOp
  simp only [ho,hx,Instr.loadAt,Instr.sureAddr,Sem.run_bind,Sem.run_pure,Result.andThen_ok,hsv]
 unfold Oper.wp
 rw [hr]
 exact hK _ _ h
theorem size11:(Tryz.prog.info? 31).map (·.size)=some 11:=by kernel_rfl
theorem row11 {w:World} {a:Addr} {b:Nat} {c0 c1 c2 c3 c4 c5 c6 c7 c8 c9 c10:Value} (h0:w.cell? (a.add b)=some c0) (h1:w.cell? (a.add (b + 1))=some c1) (h2:w.cell? (a.add (b + 2))=some c2) (h3:w.cell? (a.add (b + 3))=some c3) (h4:w.cell? (a.add (b + 4))=some c4) (h5:w.cell? (a.add (b + 5))=some c5) (h6:w.cell? (a.add (b + 6))=some c6) (h7:w.cell? (a.add (b + 7))=some c7) (h8:w.cell? (a.add (b + 8))=some c8) (h9:w.cell? (a.add (b + 9))=some c9) (h10:w.cell? (a.add (b + 10))=some c10) :
  ∀ (j:Nat) (v:Value),[c0,c1,c2,c3,c4,c5,c6,c7,c8,c9,c10][j]?=some v→w.cell? ((a.add b).add j)=some v:=by
 intro j v h
 rw [add_more']
 match j,h with
 |0,h=>cases h;exact h0
 |1,h=>cases h;exact h1
 |2,h=>cases h;exact h2
 |3,h=>cases h;exact h3
 |4,h=>cases h;exact h4
 |5,h=>cases h;exact h5
 |6,h=>cases h;exact h6
 |7,h=>cases h;exact h7
 |8,h=>cases h;exact h8
 |9,h=>cases h;exact h9
 |10,h=>cases h;exact h10
 |j + 11,h=>simp at h
theorem IsG.ones {w:World} {x:GT} {c0 c1 c2 c3 c4:Value} (h:IsG w x (.agg #[c0,c1,c2,c3,c4])):c0.oneCell'=true∧c1.oneCell'=true∧c2.oneCell'=true∧c3.oneCell'=true∧c4.oneCell'=true:=by
 obtain ⟨k,p,g,n,args⟩:=x
 unfold IsG at h
 obtain ⟨o,c,hv,_⟩:=h
 simp only [Value.agg.injEq,Array.mk.injEq,List.cons.injEq,and_true] at hv
 obtain ⟨rfl,rfl,rfl,rfl,rfl⟩:=hv
 exact ⟨rfl,rfl,rfl,rfl,rfl⟩
theorem IsX.ones {w:World} {x:GX} {c0 c1 c2 c3 c4 c5 c6 c7 c8 c9 c10:Value} (h:IsX w x (.agg #[c0,c1,c2,c3,c4,c5,c6,c7,c8,c9,c10])):[c0,c1,c2,c3,c4,c5,c6,c7,c8,c9,c10].all (·.oneCell')=true:=by
 obtain ⟨k,p,s,nm,n,t,args⟩:=x
 unfold IsX at h
 obtain ⟨y0,y1,y2,y3,y4,o,c,hv,_,_,ht,_⟩:=h
 simp only [Value.agg.injEq,Array.mk.injEq,List.cons.injEq,and_true] at hv
 obtain ⟨rfl,rfl,rfl,rfl,rfl,rfl,rfl,rfl,rfl,rfl,rfl⟩:=hv
 obtain ⟨t0,t1,t2,t3,t4⟩:=ht.ones
 simp only [List.all_cons,List.all_nil,t0,t1,t2,t3,t4]
 rfl
end Go.Proofs.YtfcgoainglpdlaaGreatDoor
namespace Go.Proofs.YtfcgoainglpdlaaGreatDoor
open Go.RowKit
end Go.Proofs.YtfcgoainglpdlaaGreatDoor
namespace Go.Proofs.YtfcgoainglpdlaaGreatDoor
open Go.RowKit
end Go.Proofs.YtfcgoainglpdlaaGreatDoor
