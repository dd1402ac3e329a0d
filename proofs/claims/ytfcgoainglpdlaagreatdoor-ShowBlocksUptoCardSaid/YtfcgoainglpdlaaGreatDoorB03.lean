/- An expression's text plainly; the document's own argument and level. No condition. Arguments that are types, expressions, opened; what the second form's bound gives. No condition. Statements of any form in memory (hand-made ones too); their texts plainly. No condition. -/
import Derived.Test.YtfcgoainglpdlaaGreatDoorB01
import Derived.Test.YtfcgoainglpdlaaGreatDoorB02
set_option maxRecDepth 100000
set_option maxHeartbeats 4000000
namespace Go.Proofs.YtfcgoainglpdlaaGreatDoor
open Go.RowKit
def levK (k:Int) (nm:ByteArray):Int :=
 if k=10 then 5 else if k=9 then (if nm=⟨#[61,61]⟩∨nm=⟨#[60]⟩ then 2 else if nm=⟨#[43]⟩∨nm=⟨#[45]⟩ then 3 else if nm=⟨#[42]⟩ then 4 else 1) else 6
def levG:GX→Int
 |.mk k _ _ nm _ _ _=>levK k nm
def bx (m:Int) (q:Int × ByteArray):ByteArray:=if q.1 < m then ⟨#[40]⟩++q.2++⟨#[41]⟩ else q.2
def argB (l:List (Int × ByteArray)) (i:Nat) (m:Int):ByteArray:=match l[i]? with
 |some q=>bx m q
 |none=>⟨#[63]⟩
def restB:List (Int × ByteArray)→ByteArray
 |[]=>⟨#[]⟩
 |q::r=>⟨#[44,32]⟩++bx 1 q++restB r
def joinB:List (Int × ByteArray)→ByteArray
 |[]=>⟨#[]⟩
 |q::r=>bx 1 q++restB r
mutual
def plnG:GX→ByteArray
 |.mk k _ _ nm n t args =>
  if k=1 then ⟨(Lib.itoa n).toArray⟩ else if k=2 then ⟨#[34]⟩++nm++⟨#[34]⟩ else if k=3 then (if n=1 then ⟨#[116,114,117,101]⟩ else ⟨#[102,97,108,115,101]⟩)
  else if k=4 then nm else if k=5 then argB (plsG args) 0 6++⟨#[46]⟩++nm
  else if k=6 then argB (plsG args) 0 6++⟨#[40]⟩++joinB ((plsG args).drop 1)++⟨#[41]⟩
  else if k=7 then argB (plsG args) 0 6++⟨#[91]⟩++argB (plsG args) 1 1++⟨#[93]⟩
  else if k=8 then ⟨#[110,101,119,32]⟩++typG t++⟨#[123]⟩++joinB (plsG args)++⟨#[125]⟩
  else if k=10 then ⟨#[33]⟩++argB (plsG args) 0 5
  else if k=9 then argB (plsG args) 0 (levK 9 nm)++⟨#[32]⟩++nm++⟨#[32]⟩++argB (plsG args) 1 (levK 9 nm + 1) else ⟨#[63]⟩
def plsG:List GX→List (Int × ByteArray)
 |[]=>[]
 |y::r=>(levG y,plnG y)::plsG r
end
def zeroX:GX:=.mk 0 0 0 ⟨#[]⟩ 0 (.mk 0 0 ⟨#[]⟩ ⟨#[]⟩ []) []
def argX (xs:List GX) (i:Nat):GX:=xs.getD i zeroX
theorem pls_at:∀ (xs:List GX) (i:Nat),(plsG xs)[i]?=xs[i]?.map fun y=>(levG y,plnG y)
 |[],i=>by rw [plsG];simp
 |y::r,0=>by rw [plsG];simp
 |y::r,i + 1=>by rw [plsG];simpa using pls_at r i
theorem pls_len:∀ (xs:List GX),(plsG xs).length=xs.length
 |[]=>by rw [plsG];rfl
 |y::r=>by rw [plsG];simp [pls_len r]
theorem argB_X (xs:List GX) (i:Nat) (m:Int) (hm:m≤6):argB (plsG xs) i m=bx m (levG (argX xs i),plnG (argX xs i)):=by
 unfold argB argX
 rw [pls_at]
 cases h:xs[i]? with
 |some y=>simp [List.getD,h]
 |none =>
  simp only [List.getD,h,Option.map_none,Option.getD_none]
  have:¬ levG zeroX < m:=by show ¬ ((6:Int) < m);omega
  rw [bx,if_neg this]
  rfl
theorem bytes_ne (g:ByteArray) (l:List UInt8) (h:g≠⟨l.toArray⟩):(g.toList == l)=false:=by
 cases e:g.toList == l with
 |false=>rfl
 |true =>
  refine absurd ?_ h
  have e':g.toList=l:=by simpa using e
  rw [ByteArray.toList_eq] at e'
  subst e'
  rfl
theorem levR_any (x:GX) (v:Value) (w:World) (hv:IsX w x v) :
  Calls Tryz.prog 51 #[v] w fun e w'=>e=.returned (.int .i64 (levG x))∧Below w.heap.size w w':=by
 obtain ⟨k,p,s,nm,n,t,args⟩:=x
 unfold IsX at hv
 obtain ⟨y0,y1,y2,y3,y4,o,c,rfl,n1,n2,ht,hl,hc,ha⟩:=hv
 have hb:Hid (Below w.heap.size w (w.alloc (.cells #[.int .i64 k,.int .i64 p,.int .i64 s,.string nm,.int .i64 n,y0,y1,y2,y3,y4,.slice o args.length c] 31))):=(Below.refl _ _).alloc (Nat.le_refl _) _
 clear ht hl hc ha
 unfold levG levK
 by_cases h1:k=10
 ·subst h1
  go_enter Tryz.func51,Tryz.ntmps51
  go_wp2
  go_ret
  exact ⟨rfl,hb.out⟩
 by_cases h2:k=9
 ·subst h2
  by_cases o0:nm=⟨#[61,61]⟩
  ·subst o0
   go_enter Tryz.func51,Tryz.ntmps51
   go_wp2
   go_ret
   exact ⟨rfl,hb.out⟩
  have q0:=bytes_ne nm [61,61] o0
  by_cases o1:nm=⟨#[60]⟩
  ·subst o1
   go_enter Tryz.func51,Tryz.ntmps51
   go_wp2
   go_ret
   exact ⟨rfl,hb.out⟩
  have q1:=bytes_ne nm [60] o1
  by_cases o2:nm=⟨#[43]⟩
  ·subst o2
   go_enter Tryz.func51,Tryz.ntmps51
   go_wp2
   go_ret
   exact ⟨rfl,hb.out⟩
  have q2:=bytes_ne nm [43] o2
  by_cases o3:nm=⟨#[45]⟩
  ·subst o3
   go_enter Tryz.func51,Tryz.ntmps51
   go_wp2
   go_ret
   exact ⟨rfl,hb.out⟩
  have q3:=bytes_ne nm [45] o3
  by_cases o4:nm=⟨#[42]⟩
  ·subst o4
   go_enter Tryz.func51,Tryz.ntmps51
   go_wp2
   go_ret
   exact ⟨rfl,hb.out⟩
  have q4:=bytes_ne nm [42] o4
  simp only [if_neg h1,if_true,o0,o1,o2,o3,o4,or_self,if_false]
  clear o0 o1 o2 o3 o4
  go_enter Tryz.func51,Tryz.ntmps51
  go_wp2
  go_ret
  exact ⟨rfl,hb.out⟩
 ·go_enter Tryz.func51,Tryz.ntmps51
  go_wp2
  go_ret
  exact ⟨rfl,hb.out⟩
end Go.Proofs.YtfcgoainglpdlaaGreatDoor
namespace Go.Proofs.YtfcgoainglpdlaaGreatDoor
open Go.ChangeShapes Go.WideShapes Go.Deep
open Go.RowKit
mutual
def bulkG:GT→Nat
 |.mk _ _ g n args=>g.size + n.size + 6 + bulkGs args
def bulkGs:List GT→Nat
 |[]=>0
 |y::r=>bulkG y + bulkGs r
end
mutual
def bulkX:GX→Nat
 |.mk _ _ _ nm _ t args=>nm.size + 7 + bulkG t + bulkXs args
def bulkXs:List GX→Nat
 |[]=>0
 |y::r=>bulkX y + bulkXs r
end
mutual
theorem typ_bulk:∀ (x:GT),(typG x).size≤bulkG x
 |.mk k p g n args=>by
  have:=typs_bulk args
  rw [typG,bulkG]
  repeat' split
  all_goals (try simp only [ByteArray.size_append])
  all_goals (try (show 3≤_;omega))
  all_goals (try (show 4≤_;omega))
  all_goals (try (show 1≤_;omega))
  ·have:(⟨#[46]⟩:ByteArray).size=1:=rfl
   omega
  ·omega
  ·have:(⟨#[91,93]⟩:ByteArray).size=2:=rfl
   omega
theorem typs_bulk:∀ (xs:List GT),(typGs xs).size≤bulkGs xs + 1
 |[]=>by rw [typGs,bulkGs];show 1≤_;omega
 |y::r=>by
  have:=typ_bulk y
  rw [typGs,bulkGs]
  omega
end
theorem gs_bulk {H:Type} {w:World} {a:Addr}:∀ (ds:List (DataW H)) (i:Nat),(∀ (j:Nat) (d:DataW H),ds[j]?=some d→∃ (c0 c1 c2 c3 c4:Value) (y:GT),w.cell? (a.add ((i + j) * 5))=some c0∧w.cell? (a.add ((i + j) * 5 + 1))=some c1∧w.cell? (a.add ((i + j) * 5 + 2))=some c2∧w.cell? (a.add ((i + j) * 5 + 3))=some c3∧w.cell? (a.add ((i + j) * 5 + 4))=some c4 ∧
   IsG w y (.agg #[c0,c1,c2,c3,c4])∧bulkG y≤Rows.uptoBulk d)→∃ xs:List GT,xs.length=ds.length∧IsGs w (some a) i xs∧bulkGs xs≤Rows.uptoBulkAll ds
 |[],i,_=>⟨[],rfl,by unfold IsGs;trivial,by simp [bulkGs]⟩
 |d::r,i,h=>by
  obtain ⟨c0,c1,c2,c3,c4,y,h0,h1,h2,h3,h4,hy,hf⟩:=h 0 d rfl
  rw [Nat.add_zero] at h0 h1 h2 h3 h4
  obtain ⟨xs,hl,hx,hg⟩:=gs_bulk r (i + 1) fun j d hd=>by
   have:=h (j + 1) d (by simpa using hd)
   rwa [show i + (j + 1)=i + 1 + j by omega] at this
  refine ⟨y::xs,by simp [hl],?_,?_⟩
  ·unfold IsGs
   exact ⟨⟨a,c0,c1,c2,c3,c4,rfl,h0,h1,h2,h3,h4,hy⟩,hx⟩
  ·simp only [bulkGs,Rows.uptoBulkAll]
   omega
theorem open_tyB {H:Type} {enc:TypeId × Value→H} {W:World} {base:Nat}:∀ (fuel:Nat) (cs:List Value) (x:DataW H × List MemPlace),DataW.trod enc Tryz.prog W base (fun _=>true) true fuel 24 cs=some x →
  ∃ g:GT,IsG W g (.agg cs.toArray)∧bulkG g≤Rows.uptoBulk x.1:=by
 intro fuel
 induction fuel using Nat.strongRecOn with
 |_ fuel ih =>
 intro cs x h
 have hT:Tryz.prog.cellsOf 24=5:=by kernel_rfl
 have h3:Tryz.prog.cellsOf 3=1:=by kernel_rfl
 have h9:Tryz.prog.cellsOf 9=1:=by kernel_rfl
 have hS:Tryz.prog.cellsOf 22=1:=by kernel_rfl
 have hB:Tryz.prog.bytesOf 24=72:=by kernel_rfl
 have hu:=Tryz.underlying24
 have hv:=Tryz.underlying22
 obtain ⟨ys,n,hfu,rfl,hlen,hyl,hfld⟩:=DataW.trod_struct hu h
 rw [hT] at hlen
 match cs,hlen,ys,hyl with
 |[u0,u1,u2,u3,u4],_,[y0,y1,y2,y3,y4],_ =>
 have t0:DataW.trod enc Tryz.prog W base (fun _=>true) true n 3 [u0]=some y0:=by simpa [h3] using hfld 0 _ rfl
 have t1:DataW.trod enc Tryz.prog W base (fun _=>true) true n 3 [u1]=some y1:=by simpa [h3] using hfld 1 _ rfl
 have t2:DataW.trod enc Tryz.prog W base (fun _=>true) true n 9 [u2]=some y2:=by simpa [h9] using hfld 2 _ rfl
 have t3:DataW.trod enc Tryz.prog W base (fun _=>true) true n 9 [u3]=some y3:=by simpa [h9] using hfld 3 _ rfl
 have t4:DataW.trod enc Tryz.prog W base (fun _=>true) true n 22 [u4]=some y4:=by simpa [hS] using hfld 4 _ rfl
 obtain ⟨n0,f0,g0,_⟩:=DataW.trod_int Tryz.underlying3 t0
 obtain ⟨n1,f1,g1,_⟩:=DataW.trod_int Tryz.underlying3 t1
 obtain ⟨s2,f2,g2,_⟩:=DataW.trod_string Tryz.underlying9 t2
 obtain ⟨s3,f3,g3,_⟩:=DataW.trod_string Tryz.underlying9 t3
 simp only [List.cons.injEq,and_true] at f0 f1 f2 f3
 subst f0;subst f1;subst f2;subst f3;subst g0;subst g1;subst g2;subst g3
 have e2:s2.data.toList.length=s2.size:=by rw [Array.length_toList];rfl
 have e3:s3.data.toList.length=s3.size:=by rw [Array.length_toList];rfl
 rcases open_fuel hv t4 with ⟨f4,rfl⟩ | ⟨a,cap,n',ds,rest,hn',f4,hx,hcl,hcm,hel⟩
 ·simp only [List.cons.injEq,and_true] at f4
  subst f4
  refine ⟨.mk n0 n1 s2 s3 [],?_,?_⟩
  ·unfold IsG
   exact ⟨none,0,rfl,by simp,by simp,by unfold IsGs;trivial⟩
  ·simp only [bulkG,bulkGs,List.map_cons,List.map_nil,Rows.uptoBulk,Rows.uptoBulkAll,e2,e3]
   omega
 ·simp only [List.cons.injEq,and_true] at f4
  subst f4
  obtain ⟨d4,p4⟩:=y4
  subst hx
  have key:=gs_bulk (w:=W) (a:=a) ds 0 (by
   intro j d hd
   obtain ⟨cs',pl,hc,ht⟩:=hel j d hd
   rw [hT] at hc
   obtain ⟨_,hlen',hat⟩:=World.cells?_some hc
   obtain ⟨y,hy,hf⟩:=ih n' (by omega) cs' _ ht
   match cs',hlen',hat,hy with
   |[v0,v1,v2,v3,v4],_,hat,hy =>
    have c0:=hat 0 (by decide)
    have c1:=hat 1 (by decide)
    have c2:=hat 2 (by decide)
    have c3:=hat 3 (by decide)
    have c4:=hat 4 (by decide)
    rw [add_more'] at c0 c1 c2 c3 c4
    simp only [List.getElem?_cons_zero,List.getElem?_cons_succ] at c0 c1 c2 c3 c4
    rw [Nat.zero_add]
    exact ⟨v0,v1,v2,v3,v4,y,c0,c1,c2,c3,c4,hy,hf⟩)
  obtain ⟨xs,hl,hx,hg⟩:=key
  refine ⟨.mk n0 n1 s2 s3 xs,?_,?_⟩
  ·unfold IsG
   exact ⟨some a,cap,by simp [hl],by omega,hcm,hx⟩
  ·simp only [bulkG,List.map_cons,List.map_nil,Rows.uptoBulk,Rows.uptoBulkAll,e2,e3]
   omega
theorem xs_bulk {H:Type} {w:World} {a:Addr}:∀ (ds:List (DataW H)) (i:Nat),(∀ (j:Nat) (d:DataW H),ds[j]?=some d→∃ (c0 c1 c2 c3 c4 c5 c6 c7 c8 c9 c10:Value) (y:GX),w.cell? (a.add ((i + j) * 11))=some c0∧w.cell? (a.add ((i + j) * 11 + 1))=some c1∧w.cell? (a.add ((i + j) * 11 + 2))=some c2∧w.cell? (a.add ((i + j) * 11 + 3))=some c3∧w.cell? (a.add ((i + j) * 11 + 4))=some c4∧w.cell? (a.add ((i + j) * 11 + 5))=some c5∧w.cell? (a.add ((i + j) * 11 + 6))=some c6∧w.cell? (a.add ((i + j) * 11 + 7))=some c7∧w.cell? (a.add ((i + j) * 11 + 8))=some c8∧w.cell? (a.add ((i + j) * 11 + 9))=some c9∧w.cell? (a.add ((i + j) * 11 + 10))=some c10 ∧
   IsX w y (.agg #[c0,c1,c2,c3,c4,c5,c6,c7,c8,c9,c10])∧bulkX y≤Rows.uptoBulk d)→∃ xs:List GX,xs.length=ds.length∧IsXs w (some a) i xs∧bulkXs xs≤Rows.uptoBulkAll ds
 |[],i,_=>⟨[],rfl,by unfold IsXs;trivial,by simp [bulkXs]⟩
 |d::r,i,h=>by
  obtain ⟨c0,c1,c2,c3,c4,c5,c6,c7,c8,c9,c10,y,h0,h1,h2,h3,h4,h5,h6,h7,h8,h9,h10,hy,hf⟩:=h 0 d rfl
  rw [Nat.add_zero] at h0 h1 h2 h3 h4 h5 h6 h7 h8 h9 h10
  obtain ⟨xs,hl,hx,hg⟩:=xs_bulk r (i + 1) fun j d hd=>by
   have:=h (j + 1) d (by simpa using hd)
   rwa [show i + (j + 1)=i + 1 + j by omega] at this
  refine ⟨y::xs,by simp [hl],?_,?_⟩
  ·unfold IsXs
   exact ⟨⟨a,c0,c1,c2,c3,c4,c5,c6,c7,c8,c9,c10,rfl,h0,h1,h2,h3,h4,h5,h6,h7,h8,h9,h10,hy⟩,hx⟩
  ·simp only [bulkXs,Rows.uptoBulkAll]
   omega
theorem open_exB {H:Type} {enc:TypeId × Value→H} {W:World} {base:Nat}:∀ (fuel:Nat) (cs:List Value) (x:DataW H × List MemPlace),DataW.trod enc Tryz.prog W base (fun _=>true) true fuel 31 cs=some x →
  ∃ g:GX,IsX W g (.agg cs.toArray)∧bulkX g≤Rows.uptoBulk x.1:=by
 intro fuel
 induction fuel using Nat.strongRecOn with
 |_ fuel ih =>
 intro cs x h
 have hT:Tryz.prog.cellsOf 31=11:=by kernel_rfl
 have hTT:Tryz.prog.cellsOf 24=5:=by kernel_rfl
 have h3:Tryz.prog.cellsOf 3=1:=by kernel_rfl
 have h9:Tryz.prog.cellsOf 9=1:=by kernel_rfl
 have hS:Tryz.prog.cellsOf 29=1:=by kernel_rfl
 have hB:Tryz.prog.bytesOf 31=144:=by kernel_rfl
 have hu:=Tryz.underlying31
 have hv:=Tryz.underlying29
 obtain ⟨ys,n,hfu,rfl,hlen,hyl,hfld⟩:=DataW.trod_struct hu h
 rw [hT] at hlen
 match cs,hlen,ys,hyl with
 |[u0,u1,u2,u3,u4,u5,u6,u7,u8,u9,u10],_,[y0,y1,y2,y3,y4,y5,y6],_ =>
 have t0:DataW.trod enc Tryz.prog W base (fun _=>true) true n 3 [u0]=some y0:=by simpa [h3] using hfld 0 _ rfl
 have t1:DataW.trod enc Tryz.prog W base (fun _=>true) true n 3 [u1]=some y1:=by simpa [h3] using hfld 1 _ rfl
 have t2:DataW.trod enc Tryz.prog W base (fun _=>true) true n 3 [u2]=some y2:=by simpa [h3] using hfld 2 _ rfl
 have t3:DataW.trod enc Tryz.prog W base (fun _=>true) true n 9 [u3]=some y3:=by simpa [h9] using hfld 3 _ rfl
 have t4:DataW.trod enc Tryz.prog W base (fun _=>true) true n 3 [u4]=some y4:=by simpa [h3] using hfld 4 _ rfl
 have t5:DataW.trod enc Tryz.prog W base (fun _=>true) true n 24 [u5,u6,u7,u8,u9]=some y5:=by simpa [hTT] using hfld 5 _ rfl
 have t6:DataW.trod enc Tryz.prog W base (fun _=>true) true n 29 [u10]=some y6:=by simpa [hS] using hfld 6 _ rfl
 obtain ⟨n0,f0,g0,_⟩:=DataW.trod_int Tryz.underlying3 t0
 obtain ⟨n1,f1,g1,_⟩:=DataW.trod_int Tryz.underlying3 t1
 obtain ⟨n2,f2,g2,_⟩:=DataW.trod_int Tryz.underlying3 t2
 obtain ⟨s3,f3,g3,_⟩:=DataW.trod_string Tryz.underlying9 t3
 obtain ⟨n4,f4,g4,hwf⟩:=DataW.trod_int Tryz.underlying3 t4
 obtain ⟨gt,hgt,hgf⟩:=open_tyB n _ _ t5
 simp only [List.cons.injEq,and_true] at f0 f1 f2 f3 f4
 subst f0;subst f1;subst f2;subst f3;subst f4;subst g0;subst g1;subst g2;subst g3;subst g4
 have e3:s3.data.toList.length=s3.size:=by rw [Array.length_toList];rfl
 have hr:-9223372036854775808≤n4∧n4≤9223372036854775807:=by
  simpa [Lit.wf,IntKind.min,IntKind.max,IntKind.signed,IntKind.bits] using hwf
 rcases open_fuel hv t6 with ⟨f6,rfl⟩ | ⟨a,cap,n',ds,rest,hn',f6,hx,hcl,hcm,hel⟩
 ·simp only [List.cons.injEq,and_true] at f6
  subst f6
  refine ⟨.mk n0 n1 n2 s3 n4 gt [],?_,?_⟩
  ·unfold IsX
   exact ⟨u5,u6,u7,u8,u9,none,0,rfl,hr.1,hr.2,hgt,by simp,by simp,by unfold IsXs;trivial⟩
  ·simp only [bulkX,bulkXs,List.map_cons,List.map_nil,Rows.uptoBulk,Rows.uptoBulkAll,e3]
   omega
 ·simp only [List.cons.injEq,and_true] at f6
  subst f6
  obtain ⟨d6,p6⟩:=y6
  subst hx
  have key:=xs_bulk (w:=W) (a:=a) ds 0 (by
   intro j d hd
   obtain ⟨cs',pl,hc,ht⟩:=hel j d hd
   rw [hT] at hc
   obtain ⟨_,hlen',hat⟩:=World.cells?_some hc
   obtain ⟨y,hy,hf⟩:=ih n' (by omega) cs' _ ht
   match cs',hlen',hat,hy with
   |[v0,v1,v2,v3,v4,v5,v6,v7,v8,v9,v10],_,hat,hy =>
    have c0:=hat 0 (by decide)
    have c1:=hat 1 (by decide)
    have c2:=hat 2 (by decide)
    have c3:=hat 3 (by decide)
    have c4:=hat 4 (by decide)
    have c5:=hat 5 (by decide)
    have c6:=hat 6 (by decide)
    have c7:=hat 7 (by decide)
    have c8:=hat 8 (by decide)
    have c9:=hat 9 (by decide)
    have c10:=hat 10 (by decide)
    rw [add_more'] at c0 c1 c2 c3 c4 c5 c6 c7 c8 c9 c10
    simp only [List.getElem?_cons_zero,List.getElem?_cons_succ] at c0 c1 c2 c3 c4 c5 c6 c7 c8 c9 c10
    rw [Nat.zero_add]
    exact ⟨v0,v1,v2,v3,v4,v5,v6,v7,v8,v9,v10,y,c0,c1,c2,c3,c4,c5,c6,c7,c8,c9,c10,hy,hf⟩)
  obtain ⟨xs,hl,hx,hg⟩:=key
  refine ⟨.mk n0 n1 n2 s3 n4 gt xs,?_,?_⟩
  ·unfold IsX
   exact ⟨u5,u6,u7,u8,u9,some a,cap,by simp [hl],hr.1,hr.2,hgt,by omega,hcm,hx⟩
  ·simp only [bulkX,List.map_cons,List.map_nil,Rows.uptoBulk,Rows.uptoBulkAll,e3]
   omega
end Go.Proofs.YtfcgoainglpdlaaGreatDoor
namespace Go.Proofs.YtfcgoainglpdlaaGreatDoor
open Go.RowKit
inductive GS where
 |mk (kind pos:Int) (name:ByteArray) (has:Bool) (x:GX) (body other:List GS)
mutual
def IsS (w:World):GS→Value→Prop
 |.mk k p nm h x u v,V=>∃ (e0 e1 e2 e3 e4 e5 e6 e7 e8 e9 e10:Value) (o:Option Addr) (c:Nat) (o':Option Addr) (c':Nat),
   V=.agg #[.int .i64 k,.int .i64 p,.string nm,.bool h,e0,e1,e2,e3,e4,e5,e6,e7,e8,e9,e10,.slice o u.length c,.slice o' v.length c']∧(u.length≤9223372036854775807∧v.length≤9223372036854775807) ∧
   IsX w x (.agg #[e0,e1,e2,e3,e4,e5,e6,e7,e8,e9,e10])∧IsSs w o 0 u∧IsSs w o' 0 v
def IsSs (w:World) (o:Option Addr):Nat→List GS→Prop
 |_,[]=>True
 |i,y::r=>(∃ (a:Addr) (cs:List Value),o=some a∧cs.length=17∧(∀ (j:Nat) (v:Value),cs[j]?=some v→w.cell? ((a.add (i * 17)).add j)=some v)∧IsS w y (.agg cs.toArray))∧IsSs w o (i + 1) r
end
mutual
theorem IsS.keep {w w':World} (hk:∀ (a:Addr) (u:Value),w.cell? a=some u→w'.cell? a=some u):∀ {x:GS} {v:Value},IsS w x v→IsS w' x v
 |.mk ..,_,h=>by
  unfold IsS at h ⊢
  obtain ⟨e0,e1,e2,e3,e4,e5,e6,e7,e8,e9,e10,o,c,o',c',hv,hl,hx,hu,hw⟩:=h
  exact ⟨e0,e1,e2,e3,e4,e5,e6,e7,e8,e9,e10,o,c,o',c',hv,hl,hx.keep hk,IsSs.keep hk hu,IsSs.keep hk hw⟩
theorem IsSs.keep {w w':World} (hk:∀ (a:Addr) (u:Value),w.cell? a=some u→w'.cell? a=some u):∀ {i:Nat} {xs:List GS} {o:Option Addr},IsSs w o i xs→IsSs w' o i xs
 |_,[],_,_=>by unfold IsSs;trivial
 |i,y::r,_,h=>by
  unfold IsSs at h ⊢
  obtain ⟨⟨a,cs,ho,hl,hc,hy⟩,hr⟩:=h
  exact ⟨⟨a,cs,ho,hl,fun j v h=>hk _ _ (hc j v h),IsS.keep hk hy⟩,IsSs.keep hk hr⟩
end
theorem IsS.below {w w':World} {x:GS} {v:Value} (h:IsS w x v) (hb:Below w.heap.size w w'):IsS w' x v :=
 h.keep fun _ _ hc=>(hb.cell (World.block_lt_of_cell? _ _ hc)).trans hc
theorem IsSs.below {w w':World} {o:Option Addr} {i:Nat} {xs:List GS} (h:IsSs w o i xs) (hb:Below w.heap.size w w'):IsSs w' o i xs :=
 h.keep fun _ _ hc=>(hb.cell (World.block_lt_of_cell? _ _ hc)).trans hc
theorem IsSs.at_ {w:World} {o:Option Addr}:∀ {xs:List GS} {i:Nat} (k:Nat) {y:GS},IsSs w o i xs→xs[k]?=some y→∃ (a:Addr) (cs:List Value),o=some a∧cs.length=17∧(∀ (j:Nat) (v:Value),cs[j]?=some v→w.cell? ((a.add ((i + k) * 17)).add j)=some v)∧IsS w y (.agg cs.toArray)
 |[],_,_,_,_,h=>by simp at h
 |x::r,i,0,y,h,hy=>by
  simp at hy;subst hy
  unfold IsSs at h
  exact h.1
 |x::r,i,k + 1,y,h,hy=>by
  unfold IsSs at h
  have:=IsSs.at_ (i:=i + 1) k h.2 (by simpa using hy)
  rwa [show i + 1 + k=i + (k + 1) by omega] at this
def tabsL (t:Nat):List UInt8:=List.replicate t 9
def exL (x:GX):List UInt8:=(bx 1 (levG x,plnG x)).data.toList
mutual
def stmL (t:Nat):GS→List UInt8
 |.mk k _ nm h x u v =>
  if k=1 then [108,101,116,32]++(nm.data.toList++[32,61,32])++(exL x++[59])
  else if k=2 then (nm.data.toList++[32,61,32])++(exL x++[59])
  else if k=3 then (if h then [114,101,116,117,114,110,32]++(exL x++[59]) else [114,101,116,117,114,110,59])
  else if k=4 then [105,102,32]++exL x++([32,123,10]++blkL (min (t + 1) 100) u++tabsL t++[125])++(if h then [32,101,108,115,101]++([32,123,10]++blkL (min (t + 1) 100) v++tabsL t++[125]) else [])
  else if k=5 then [102,111,114,32]++exL x++([32,123,10]++blkL (min (t + 1) 100) u++tabsL t++[125])
  else if k=6 then exL x++[59]
  else [63]
def blkL (t:Nat):List GS→List UInt8
 |[]=>[]
 |y::r=>tabsL t++stmL t y++[10]++blkL t r
end
theorem blkL_snoc (t:Nat) (y:GS):∀ l:List GS,blkL t (l++[y])=blkL t l++(tabsL t++stmL t y++[10])
 |[]=>by simp [blkL]
 |x::r=>by
  rw [List.cons_append,blkL,blkL_snoc t y r,blkL]
  simp only [List.append_assoc]
theorem blkL_app (t:Nat):∀ a c:List GS,blkL t (a++c)=blkL t a++blkL t c
 |[],c=>by simp [blkL]
 |x::r,c=>by
  rw [List.cons_append,blkL,blkL_app t r c,blkL]
  simp only [List.append_assoc]
theorem blkL_take_le (t:Nat) (l:List GS) (k:Nat):(blkL t (l.take k)).length≤(blkL t l).length:=by
 have h:blkL t l=blkL t (l.take k)++blkL t (l.drop k):=by rw [← blkL_app,List.take_append_drop]
 rw [h,List.length_append]
 omega
theorem blkL_next {t:Nat} {l:List GS} {j:Nat} {y:GS} (h:l[j]?=some y):blkL t (l.take (j + 1))=blkL t (l.take j)++(tabsL t++stmL t y++[10]):=by
 rw [List.take_add_one,h,Option.toList_some,blkL_snoc]
end Go.Proofs.YtfcgoainglpdlaaGreatDoor
