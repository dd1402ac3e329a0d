/- Types of any form in memory (hand-made ones too), and an argument of the type, opened. No condition. -/
import Derived.Test.YtfcgoainglpdlaaGreatDoorRows
import Derived.WalkKit
import Derived.ProofKit
import Derived.OpenShut
import Derived.SizedLaws
import Derived.Deep.Slices
import Derived.Deep.Fields
import Derived.ChangeSame
import Derived.Carry
namespace Go.Proofs.YtfcgoainglpdlaaGreatDoor
open Go.ChangeShapes Go.WideShapes Go.Deep
open Go.RowKit
inductive GT where
 |mk (kind pos:Int) (pkg name:ByteArray) (args:List GT)
mutual
def IsG (w:World):GT→Value→Prop
 |.mk k p g n args,v=>∃ (o:Option Addr) (c:Nat),v=.agg #[.int .i64 k,.int .i64 p,.string g,.string n,.slice o args.length c]∧args.length≤c∧c≤maxLen∧IsGs w o 0 args
def IsGs (w:World) (o:Option Addr):Nat→List GT→Prop
 |_,[]=>True
 |i,y::r=>(∃ (a:Addr) (c0 c1 c2 c3 c4:Value),o=some a∧w.cell? (a.add (i * 5))=some c0∧w.cell? (a.add (i * 5 + 1))=some c1∧w.cell? (a.add (i * 5 + 2))=some c2∧w.cell? (a.add (i * 5 + 3))=some c3∧w.cell? (a.add (i * 5 + 4))=some c4 ∧
   IsG w y (.agg #[c0,c1,c2,c3,c4]))∧IsGs w o (i + 1) r
end
mutual
theorem IsG.keep {w w':World} (hk:∀ (a:Addr) (u:Value),w.cell? a=some u→w'.cell? a=some u):∀ {x:GT} {v:Value},IsG w x v→IsG w' x v
 |.mk ..,_,h=>by
  unfold IsG at h ⊢
  obtain ⟨o,c,hv,hl,hc,ha⟩:=h
  exact ⟨o,c,hv,hl,hc,IsGs.keep hk ha⟩
theorem IsGs.keep {w w':World} (hk:∀ (a:Addr) (u:Value),w.cell? a=some u→w'.cell? a=some u):∀ {i:Nat} {xs:List GT} {o:Option Addr},IsGs w o i xs→IsGs w' o i xs
 |_,[],_,_=>by unfold IsGs;trivial
 |i,y::r,_,h=>by
  unfold IsGs at h ⊢
  obtain ⟨⟨a,c0,c1,c2,c3,c4,ho,h0,h1,h2,h3,h4,hy⟩,hr⟩:=h
  exact ⟨⟨a,c0,c1,c2,c3,c4,ho,hk _ _ h0,hk _ _ h1,hk _ _ h2,hk _ _ h3,hk _ _ h4,IsG.keep hk hy⟩,IsGs.keep hk hr⟩
end
theorem IsG.below {w w':World} {x:GT} {v:Value} (h:IsG w x v) (hb:Below w.heap.size w w'):IsG w' x v :=
 h.keep fun _ _ hc=>(hb.cell (World.block_lt_of_cell? _ _ hc)).trans hc
theorem IsGs.below {w w':World} {o:Option Addr} {i:Nat} {xs:List GT} (h:IsGs w o i xs) (hb:Below w.heap.size w w'):IsGs w' o i xs :=
 h.keep fun _ _ hc=>(hb.cell (World.block_lt_of_cell? _ _ hc)).trans hc
theorem add_more' (a:Addr) (i j:Nat):(a.add i).add j=a.add (i + j):=by
 by_cases hi:i=0 <;> by_cases hj:j=0 <;> simp [Addr.add,hi,hj,Nat.add_assoc]
end Go.Proofs.YtfcgoainglpdlaaGreatDoor
