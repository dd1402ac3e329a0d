/- How long an expression's text is, out of the second form's bound. Condition: the expression lies in memory as said. -/
import Derived.Test.YtfcgoainglpdlaaGreatDoorB03
import Derived.Lib.ItoaLen
set_option maxHeartbeats 4000000
namespace Go.Proofs.YtfcgoainglpdlaaGreatDoor
open Go.RowKit
def sumP:List GX→Nat
 |[]=>0
 |y::r=>(plnG y).size + 4 + sumP r
theorem bx_le (m:Int) (q:Int × ByteArray):(bx m q).size≤q.2.size + 2:=by
 unfold bx
 split
 ·simp only [ByteArray.size_append]
  have h1:(⟨#[40]⟩:ByteArray).size=1:=rfl
  have h2:(⟨#[41]⟩:ByteArray).size=1:=rfl
  omega
 ·omega
theorem restB_le:∀ xs:List GX,(restB (plsG xs)).size≤sumP xs
 |[]=>by rw [plsG,restB,sumP];exact Nat.le_refl _
 |y::r=>by
  have h1:=restB_le r
  have h2:=bx_le 1 (levG y,plnG y)
  rw [plsG,restB,sumP]
  simp only [ByteArray.size_append]
  have h3:(⟨#[44,32]⟩:ByteArray).size=2:=rfl
  simp only at h2
  omega
theorem joinB_le:∀ xs:List GX,(joinB (plsG xs)).size≤sumP xs
 |[]=>by rw [plsG,joinB,sumP];exact Nat.le_refl _
 |y::r=>by
  have h1:=restB_le r
  have h2:=bx_le 1 (levG y,plnG y)
  rw [plsG,joinB,sumP]
  simp only [ByteArray.size_append]
  simp only at h2
  omega
theorem joinB_drop_le (xs:List GX) (m:Int):(argB (plsG xs) 0 m).size + (joinB ((plsG xs).drop 1)).size≤sumP xs + 1:=by
 cases xs with
 |nil=>rw [plsG,sumP];exact Nat.le_refl _
 |cons y r =>
  have h1:=joinB_le r
  have h2:=bx_le m (levG y,plnG y)
  rw [plsG,sumP]
  simp only [List.drop_succ_cons,List.drop_zero,argB,List.getElem?_cons_zero]
  simp only at h2
  omega
theorem argB_le1 (xs:List GX) (m:Int):(argB (plsG xs) 0 m).size≤sumP xs + 1:=by
 cases xs with
 |nil=>rw [plsG,sumP];exact Nat.le_refl _
 |cons y r =>
  have h2:=bx_le m (levG y,plnG y)
  rw [plsG,sumP]
  simp only [argB,List.getElem?_cons_zero]
  simp only at h2
  omega
theorem argB_le2 (xs:List GX) (m m':Int):(argB (plsG xs) 0 m).size + (argB (plsG xs) 1 m').size≤sumP xs + 2:=by
 match xs with
 |[]=>rw [plsG,sumP];exact Nat.le_refl _
 |[y] =>
  have h2:=bx_le m (levG y,plnG y)
  rw [plsG,plsG,sumP,sumP]
  simp only [argB,List.getElem?_cons_zero,List.getElem?_cons_succ,List.getElem?_nil]
  have h3:(⟨#[63]⟩:ByteArray).size=1:=rfl
  simp only at h2
  omega
 |y::z::r =>
  have h2:=bx_le m (levG y,plnG y)
  have h3:=bx_le m' (levG z,plnG z)
  rw [plsG,plsG,sumP,sumP]
  simp only [argB,List.getElem?_cons_zero,List.getElem?_cons_succ]
  simp only at h2 h3
  omega
theorem itoa_le {n:Int} (h1:-9223372036854775808≤n) (h2:n≤9223372036854775807):(Lib.itoa n).length≤21:=Lib.itoa_length_le n h1 h2
theorem pln_node (k p s:Int) (nm:ByteArray) (n:Int) (t:GT) (args:List GX) (h1:-9223372036854775808≤n) (h2:n≤9223372036854775807):(plnG (.mk k p s nm n t args)).size≤21 + nm.size + bulkG t + sumP args + 9:=by
 have ht:=typ_bulk t
 have hi:=itoa_le h1 h2
 have j1:=joinB_drop_le args 6
 have j2:=argB_le1 args 6
 have j3:=argB_le2 args 6 1
 have j4:=joinB_le args
 have j5:=argB_le1 args 5
 have j6:=argB_le2 args (levK 9 nm) (levK 9 nm + 1)
 have c1:(⟨#[40]⟩:ByteArray).size=1:=rfl
 have c2:(⟨#[41]⟩:ByteArray).size=1:=rfl
 have c3:(⟨#[34]⟩:ByteArray).size=1:=rfl
 have c4:(⟨#[46]⟩:ByteArray).size=1:=rfl
 have c5:(⟨#[91]⟩:ByteArray).size=1:=rfl
 have c6:(⟨#[93]⟩:ByteArray).size=1:=rfl
 have c7:(⟨#[123]⟩:ByteArray).size=1:=rfl
 have c8:(⟨#[125]⟩:ByteArray).size=1:=rfl
 have c9:(⟨#[33]⟩:ByteArray).size=1:=rfl
 have c10:(⟨#[32]⟩:ByteArray).size=1:=rfl
 have c11:(⟨#[63]⟩:ByteArray).size=1:=rfl
 have c12:(⟨#[110,101,119,32]⟩:ByteArray).size=4:=rfl
 have c13:(⟨#[116,114,117,101]⟩:ByteArray).size=4:=rfl
 have c14:(⟨#[102,97,108,115,101]⟩:ByteArray).size=5:=rfl
 have c15:(⟨(Lib.itoa n).toArray⟩:ByteArray).size=(Lib.itoa n).length:=by show (Lib.itoa n).toArray.size=_;simp
 rw [plnG]
 repeat' split
 all_goals (try simp only [ByteArray.size_append])
 all_goals omega
mutual
theorem pln_bulk {w:World}:∀ {x:GX} {v:Value},IsX w x v→(plnG x).size + 4≤40 * bulkX x
 |.mk k p s nm n t args,v,h=>by
  unfold IsX at h
  obtain ⟨y0,y1,y2,y3,y4,o,c,_,n1,n2,_,_,_,ha⟩:=h
  have h1:=pln_node k p s nm n t args n1 n2
  have h2:sumP args≤40 * bulkXs args:=plns_bulk ha
  rw [bulkX]
  omega
theorem plns_bulk {w:World} {o:Option Addr}:∀ {i:Nat} {xs:List GX},IsXs w o i xs→sumP xs≤40 * bulkXs xs
 |_,[],_=>by rw [sumP,bulkXs];exact Nat.le_refl _
 |i,y::r,h=>by
  unfold IsXs at h
  obtain ⟨⟨a,c0,c1,c2,c3,c4,c5,c6,c7,c8,c9,c10,_,_,_,_,_,_,_,_,_,_,_,_,hy⟩,hr⟩:=h
  have h1:=pln_bulk hy
  have h2:=plns_bulk hr
  rw [sumP,bulkXs]
  omega
end
theorem ex_bulk {w:World} {x:GX} {v:Value} (h:IsX w x v) (m:Int):(bx m (levG x,plnG x)).size≤40 * bulkX x:=by
 have h1:=pln_bulk h
 have h2:=bx_le m (levG x,plnG x)
 simp only at h2
 omega
end Go.Proofs.YtfcgoainglpdlaaGreatDoor
