/- A type's text plainly, and the document's own walk of it. No condition. Expressions of any form in memory (hand-made ones too), and an argument of the type, opened. No condition. -/
import Derived.Test.YtfcgoainglpdlaaGreatDoorV00
import Derived.WalkSpells
import Derived.Lib.Hide
namespace Go.Proofs.YtfcgoainglpdlaaGreatDoor
open Go.RowKit
mutual
def typG:GT→ByteArray
 |.mk k _ g n args=>if k=1 then (⟨#[105,110,116]⟩:ByteArray) else if k=2 then (⟨#[98,111,111,108]⟩:ByteArray) else if k=3 then (⟨#[116,101,120,116]⟩:ByteArray) else if k=4 then (if g≠⟨#[]⟩ then g++(⟨#[46]⟩:ByteArray)++n else n) else if k=5 then (⟨#[91,93]⟩:ByteArray)++typGs args else (⟨#[63]⟩:ByteArray)
def typGs:List GT→ByteArray
 |[]=>(⟨#[63]⟩:ByteArray)
 |y::_=>typG y
end
theorem bytes_nil (g:ByteArray) (h:g.toList.isEmpty=true):g=⟨#[]⟩:=by
 have e:g.toList=[]:=List.isEmpty_iff.1 h
 rw [ByteArray.toList_eq] at e
 obtain ⟨d⟩:=g
 congr 1
 exact Array.toList_eq_nil_iff.1 e
end Go.Proofs.YtfcgoainglpdlaaGreatDoor
namespace Go.Proofs.YtfcgoainglpdlaaGreatDoor
open Go.ChangeShapes Go.WideShapes Go.Deep
open Go.RowKit
inductive GX where
 |mk (kind pos stop:Int) (name:ByteArray) (n:Int) (t:GT) (args:List GX)
mutual
def IsX (w:World):GX→Value→Prop
 |.mk k p s nm n t args,v=>∃ (y0 y1 y2 y3 y4:Value) (o:Option Addr) (c:Nat),v=.agg #[.int .i64 k,.int .i64 p,.int .i64 s,.string nm,.int .i64 n,y0,y1,y2,y3,y4,.slice o args.length c]∧-9223372036854775808≤n∧n≤9223372036854775807∧IsG w t (.agg #[y0,y1,y2,y3,y4])∧args.length≤c∧c≤maxLen∧IsXs w o 0 args
def IsXs (w:World) (o:Option Addr):Nat→List GX→Prop
 |_,[]=>True
 |i,y::r=>(∃ (a:Addr) (c0 c1 c2 c3 c4 c5 c6 c7 c8 c9 c10:Value),o=some a∧w.cell? (a.add (i * 11))=some c0∧w.cell? (a.add (i * 11 + 1))=some c1∧w.cell? (a.add (i * 11 + 2))=some c2∧w.cell? (a.add (i * 11 + 3))=some c3∧w.cell? (a.add (i * 11 + 4))=some c4∧w.cell? (a.add (i * 11 + 5))=some c5∧w.cell? (a.add (i * 11 + 6))=some c6∧w.cell? (a.add (i * 11 + 7))=some c7∧w.cell? (a.add (i * 11 + 8))=some c8∧w.cell? (a.add (i * 11 + 9))=some c9∧w.cell? (a.add (i * 11 + 10))=some c10 ∧
   IsX w y (.agg #[c0,c1,c2,c3,c4,c5,c6,c7,c8,c9,c10]))∧IsXs w o (i + 1) r
end
mutual
theorem IsX.keep {w w':World} (hk:∀ (a:Addr) (u:Value),w.cell? a=some u→w'.cell? a=some u):∀ {x:GX} {v:Value},IsX w x v→IsX w' x v
 |.mk ..,_,h=>by
  unfold IsX at h ⊢
  obtain ⟨y0,y1,y2,y3,y4,o,c,hv,n1,n2,ht,hl,hc,ha⟩:=h
  exact ⟨y0,y1,y2,y3,y4,o,c,hv,n1,n2,ht.keep hk,hl,hc,IsXs.keep hk ha⟩
theorem IsXs.keep {w w':World} (hk:∀ (a:Addr) (u:Value),w.cell? a=some u→w'.cell? a=some u):∀ {i:Nat} {xs:List GX} {o:Option Addr},IsXs w o i xs→IsXs w' o i xs
 |_,[],_,_=>by unfold IsXs;trivial
 |i,y::r,_,h=>by
  unfold IsXs at h ⊢
  obtain ⟨⟨a,c0,c1,c2,c3,c4,c5,c6,c7,c8,c9,c10,ho,h0,h1,h2,h3,h4,h5,h6,h7,h8,h9,h10,hy⟩,hr⟩:=h
  exact ⟨⟨a,c0,c1,c2,c3,c4,c5,c6,c7,c8,c9,c10,ho,hk _ _ h0,hk _ _ h1,hk _ _ h2,hk _ _ h3,hk _ _ h4,hk _ _ h5,hk _ _ h6,hk _ _ h7,hk _ _ h8,hk _ _ h9,hk _ _ h10,IsX.keep hk hy⟩,IsXs.keep hk hr⟩
end
theorem IsX.below {w w':World} {x:GX} {v:Value} (h:IsX w x v) (hb:Below w.heap.size w w'):IsX w' x v :=
 h.keep fun _ _ hc=>(hb.cell (World.block_lt_of_cell? _ _ hc)).trans hc
theorem IsXs.at_ {w:World} {o:Option Addr}:∀ {xs:List GX} {i:Nat} (k:Nat) {y:GX},IsXs w o i xs→xs[k]?=some y→IsXs w o (i + k) [y]
 |[],_,_,_,_,h=>by simp at h
 |x::r,i,0,y,h,hy=>by
  simp at hy;subst hy
  unfold IsXs at h ⊢
  exact ⟨h.1,by unfold IsXs;trivial⟩
 |x::r,i,k + 1,y,h,hy=>by
  unfold IsXs at h
  have:=IsXs.at_ (i:=i + 1) k h.2 (by simpa using hy)
  rwa [show i + 1 + k=i + (k + 1) by omega] at this
end Go.Proofs.YtfcgoainglpdlaaGreatDoor
