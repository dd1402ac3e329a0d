/- An expression's text plainly; the document's own argument and level. No condition. Arguments that are types, expressions, opened; what the second form's bound gives. No condition. Statements of any form in memory (hand-made ones too); their texts plainly. No condition. -/
import Derived.Test.YtfcgoainglpdlaaGreatDoorV01
import Derived.Test.YtfcgoainglpdlaaGreatDoorV02
namespace Go.Proofs.YtfcgoainglpdlaaGreatDoor
open Go.RowKit
def levK (k:Int) (nm:ByteArray):Int :=
 if k=10 then 5 else if k=9 then (if nm=⟨#[61,61]⟩∨nm=⟨#[60]⟩ then 2 else if nm=⟨#[43]⟩∨nm=⟨#[45]⟩ then 3 else if nm=⟨#[42]⟩ then 4 else 1) else 6
def levG:GX→Int
 |.mk k _ _ nm _ _ _=>levK k nm
def bx (m:Int) (q:Int × ByteArray):ByteArray:=if q.1 < m then ⟨#[40]⟩++q.2++⟨#[41]⟩ else q.2
def argB (l:List (Int × ByteArray)) (i:Nat) (m:Int):ByteArray:=match l[i]? with
 |some q=>bx m q
 |none=>⟨#[63]⟩
def restB:List (Int × ByteArray)→ByteArray
 |[]=>⟨#[]⟩
 |q::r=>⟨#[44,32]⟩++bx 1 q++restB r
def joinB:List (Int × ByteArray)→ByteArray
 |[]=>⟨#[]⟩
 |q::r=>bx 1 q++restB r
mutual
def plnG:GX→ByteArray
 |.mk k _ _ nm n t args =>
  if k=1 then ⟨(Lib.itoa n).toArray⟩ else if k=2 then ⟨#[34]⟩++nm++⟨#[34]⟩ else if k=3 then (if n=1 then ⟨#[116,114,117,101]⟩ else ⟨#[102,97,108,115,101]⟩)
  else if k=4 then nm else if k=5 then argB (plsG args) 0 6++⟨#[46]⟩++nm
  else if k=6 then argB (plsG args) 0 6++⟨#[40]⟩++joinB ((plsG args).drop 1)++⟨#[41]⟩
  else if k=7 then argB (plsG args) 0 6++⟨#[91]⟩++argB (plsG args) 1 1++⟨#[93]⟩
  else if k=8 then ⟨#[110,101,119,32]⟩++typG t++⟨#[123]⟩++joinB (plsG args)++⟨#[125]⟩
  else if k=10 then ⟨#[33]⟩++argB (plsG args) 0 5
  else if k=9 then argB (plsG args) 0 (levK 9 nm)++⟨#[32]⟩++nm++⟨#[32]⟩++argB (plsG args) 1 (levK 9 nm + 1) else ⟨#[63]⟩
def plsG:List GX→List (Int × ByteArray)
 |[]=>[]
 |y::r=>(levG y,plnG y)::plsG r
end
theorem pls_at:∀ (xs:List GX) (i:Nat),(plsG xs)[i]?=xs[i]?.map fun y=>(levG y,plnG y)
 |[],i=>by rw [plsG];simp
 |y::r,0=>by rw [plsG];simp
 |y::r,i + 1=>by rw [plsG];simpa using pls_at r i
end Go.Proofs.YtfcgoainglpdlaaGreatDoor
namespace Go.Proofs.YtfcgoainglpdlaaGreatDoor
open Go.ChangeShapes Go.WideShapes Go.Deep
open Go.RowKit
end Go.Proofs.YtfcgoainglpdlaaGreatDoor
namespace Go.Proofs.YtfcgoainglpdlaaGreatDoor
open Go.RowKit
inductive GS where
 |mk (kind pos:Int) (name:ByteArray) (has:Bool) (x:GX) (body other:List GS)
mutual
def IsS (w:World):GS→Value→Prop
 |.mk k p nm h x u v,V=>∃ (e0 e1 e2 e3 e4 e5 e6 e7 e8 e9 e10:Value) (o:Option Addr) (c:Nat) (o':Option Addr) (c':Nat),
   V=.agg #[.int .i64 k,.int .i64 p,.string nm,.bool h,e0,e1,e2,e3,e4,e5,e6,e7,e8,e9,e10,.slice o u.length c,.slice o' v.length c']∧(u.length≤9223372036854775807∧v.length≤9223372036854775807) ∧
   IsX w x (.agg #[e0,e1,e2,e3,e4,e5,e6,e7,e8,e9,e10])∧IsSs w o 0 u∧IsSs w o' 0 v
def IsSs (w:World) (o:Option Addr):Nat→List GS→Prop
 |_,[]=>True
 |i,y::r=>(∃ (a:Addr) (cs:List Value),o=some a∧cs.length=17∧(∀ (j:Nat) (v:Value),cs[j]?=some v→w.cell? ((a.add (i * 17)).add j)=some v)∧IsS w y (.agg cs.toArray))∧IsSs w o (i + 1) r
end
mutual
theorem IsS.keep {w w':World} (hk:∀ (a:Addr) (u:Value),w.cell? a=some u→w'.cell? a=some u):∀ {x:GS} {v:Value},IsS w x v→IsS w' x v
 |.mk ..,_,h=>by
  unfold IsS at h ⊢
  obtain ⟨e0,e1,e2,e3,e4,e5,e6,e7,e8,e9,e10,o,c,o',c',hv,hl,hx,hu,hw⟩:=h
  exact ⟨e0,e1,e2,e3,e4,e5,e6,e7,e8,e9,e10,o,c,o',c',hv,hl,hx.keep hk,IsSs.keep hk hu,IsSs.keep hk hw⟩
theorem IsSs.keep {w w':World} (hk:∀ (a:Addr) (u:Value),w.cell? a=some u→w'.cell? a=some u):∀ {i:Nat} {xs:List GS} {o:Option Addr},IsSs w o i xs→IsSs w' o i xs
 |_,[],_,_=>by unfold IsSs;trivial
 |i,y::r,_,h=>by
  unfold IsSs at h ⊢
  obtain ⟨⟨a,cs,ho,hl,hc,hy⟩,hr⟩:=h
  exact ⟨⟨a,cs,ho,hl,fun j v h=>hk _ _ (hc j v h),IsS.keep hk hy⟩,IsSs.keep hk hr⟩
end
theorem IsSs.below {w w':World} {o:Option Addr} {i:Nat} {xs:List GS} (h:IsSs w o i xs) (hb:Below w.heap.size w w'):IsSs w' o i xs :=
 h.keep fun _ _ hc=>(hb.cell (World.block_lt_of_cell? _ _ hc)).trans hc
theorem IsSs.at_ {w:World} {o:Option Addr}:∀ {xs:List GS} {i:Nat} (k:Nat) {y:GS},IsSs w o i xs→xs[k]?=some y→∃ (a:Addr) (cs:List Value),o=some a∧cs.length=17∧(∀ (j:Nat) (v:Value),cs[j]?=some v→w.cell? ((a.add ((i + k) * 17)).add j)=some v)∧IsS w y (.agg cs.toArray)
 |[],_,_,_,_,h=>by simp at h
 |x::r,i,0,y,h,hy=>by
  simp at hy;subst hy
  unfold IsSs at h
  exact h.1
 |x::r,i,k + 1,y,h,hy=>by
  unfold IsSs at h
  have:=IsSs.at_ (i:=i + 1) k h.2 (by simpa using hy)
  rwa [show i + 1 + k=i + (k + 1) by omega] at this
def tabsL (t:Nat):List UInt8:=List.replicate t 9
def exL (x:GX):List UInt8:=(bx 1 (levG x,plnG x)).data.toList
mutual
def stmL (t:Nat):GS→List UInt8
 |.mk k _ nm h x u v =>
  if k=1 then [108,101,116,32]++(nm.data.toList++[32,61,32])++(exL x++[59])
  else if k=2 then (nm.data.toList++[32,61,32])++(exL x++[59])
  else if k=3 then (if h then [114,101,116,117,114,110,32]++(exL x++[59]) else [114,101,116,117,114,110,59])
  else if k=4 then [105,102,32]++exL x++([32,123,10]++blkL (min (t + 1) 100) u++tabsL t++[125])++(if h then [32,101,108,115,101]++([32,123,10]++blkL (min (t + 1) 100) v++tabsL t++[125]) else [])
  else if k=5 then [102,111,114,32]++exL x++([32,123,10]++blkL (min (t + 1) 100) u++tabsL t++[125])
  else if k=6 then exL x++[59]
  else [63]
def blkL (t:Nat):List GS→List UInt8
 |[]=>[]
 |y::r=>tabsL t++stmL t y++[10]++blkL t r
end
theorem blkL_snoc (t:Nat) (y:GS):∀ l:List GS,blkL t (l++[y])=blkL t l++(tabsL t++stmL t y++[10])
 |[]=>by simp [blkL]
 |x::r=>by
  rw [List.cons_append,blkL,blkL_snoc t y r,blkL]
  simp only [List.append_assoc]
theorem blkL_app (t:Nat):∀ a c:List GS,blkL t (a++c)=blkL t a++blkL t c
 |[],c=>by simp [blkL]
 |x::r,c=>by
  rw [List.cons_append,blkL,blkL_app t r c,blkL]
  simp only [List.append_assoc]
theorem blkL_take_le (t:Nat) (l:List GS) (k:Nat):(blkL t (l.take k)).length≤(blkL t l).length:=by
 have h:blkL t l=blkL t (l.take k)++blkL t (l.drop k):=by rw [← blkL_app,List.take_append_drop]
 rw [h,List.length_append]
 omega
theorem blkL_next {t:Nat} {l:List GS} {j:Nat} {y:GS} (h:l[j]?=some y):blkL t (l.take (j + 1))=blkL t (l.take j)++(tabsL t++stmL t y++[10]):=by
 rw [List.take_add_one,h,Option.toList_some,blkL_snoc]
end Go.Proofs.YtfcgoainglpdlaaGreatDoor
