/- Arguments that are lists of statements, opened; what the second form's bound gives. No condition. -/
import Derived.Test.YtfcgoainglpdlaaGreatDoorB03
import Derived.Test.YtfcgoainglpdlaaGreatDoorB43
import Derived.Test.YtfcgoainglpdlaaGreatDoorB27
import Derived.Test.YtfcgoainglpdlaaGreatDoorB45
set_option maxRecDepth 100000
set_option maxHeartbeats 4000000
namespace Go.Proofs.YtfcgoainglpdlaaGreatDoor
open Go.ChangeShapes Go.WideShapes Go.Deep
open Go.RowKit
mutual
def bulkS:GS→Nat
 |.mk _ _ nm _ x u v=>nm.size + 7 + bulkX x + bulkSs u + bulkSs v
def bulkSs:List GS→Nat
 |[]=>0
 |y::r=>bulkS y + bulkSs r
end
theorem ss_bulk {H:Type} {w:World} {a:Addr}:∀ (ds:List (DataW H)) (i:Nat),(∀ (j:Nat) (d:DataW H),ds[j]?=some d→∃ (cs:List Value) (y:GS),cs.length=17∧(∀ (k:Nat) (v:Value),cs[k]?=some v→w.cell? ((a.add ((i + j) * 17)).add k)=some v) ∧
   IsS w y (.agg cs.toArray)∧bulkS y≤Rows.uptoBulk d)→∃ xs:List GS,xs.length=ds.length∧IsSs w (some a) i xs∧bulkSs xs≤Rows.uptoBulkAll ds
 |[],i,_=>⟨[],rfl,by unfold IsSs;trivial,by simp [bulkSs]⟩
 |d::r,i,h=>by
  obtain ⟨cs,y,hl,hc,hy,hf⟩:=h 0 d rfl
  rw [Nat.add_zero] at hc
  obtain ⟨xs,hn,hx,hg⟩:=ss_bulk r (i + 1) fun j d hd=>by
   have:=h (j + 1) d (by simpa using hd)
   rwa [show i + (j + 1)=i + 1 + j by omega] at this
  refine ⟨y::xs,by simp [hn],?_,?_⟩
  ·unfold IsSs
   exact ⟨⟨a,cs,rfl,hl,hc,hy⟩,hx⟩
  ·simp only [bulkSs,Rows.uptoBulkAll]
   omega
theorem open_ssOf {H:Type} {enc:TypeId × Value→H} {W:World} {base:Nat} (fuel:Nat) (cs:List Value) (x:DataW H × List MemPlace) (h:DataW.trod enc Tryz.prog W base (fun _=>true) true fuel 35 cs=some x)
  (ih:∀ m,m < fuel→∀ (cs:List Value) (x:DataW H × List MemPlace),DataW.trod enc Tryz.prog W base (fun _=>true) true m 62 cs=some x→∃ g:GS,IsS W g (.agg cs.toArray)∧bulkS g≤Rows.uptoBulk x.1) :
  ∃ (o:Option Addr) (l:List GS) (c:Nat),cs=[.slice o l.length c]∧IsSs W o 0 l∧l.length≤9223372036854775807∧bulkSs l + 1≤Rows.uptoBulk x.1:=by
 have hT:Tryz.prog.cellsOf 62=17:=by kernel_rfl
 rcases open_fuel Tryz.underlying35 h with ⟨f6,rfl⟩ | ⟨a,cap,n',ds,rest,hn',f6,hx,hcl,hcm,hel⟩
 ·exact ⟨none,[],0,f6,by unfold IsSs;trivial,by simp,by simp [bulkSs,Rows.uptoBulk]⟩
 ·have key:=ss_bulk (w:=W) (a:=a) ds 0 (by
   intro j d hd
   obtain ⟨cs',pl,hc,ht⟩:=hel j d hd
   rw [hT] at hc
   obtain ⟨_,hlen',hat⟩:=World.cells?_some hc
   obtain ⟨y,hy,hf⟩:=ih n' (by omega) cs' _ ht
   refine ⟨cs',y,hlen',fun k v hk=>?_,hy,hf⟩
   rw [Nat.zero_add]
   have hk2:k < 17:=by have:=(List.getElem?_eq_some_iff.1 hk).1;omega
   exact (hat k hk2).trans hk)
  obtain ⟨xs,hl,hx2,hg⟩:=key
  refine ⟨some a,xs,cap,by rw [f6,hl],hx2,?_,?_⟩
  ·have:maxLen=9223372036854775807:=rfl
   omega
  ·rw [hx]
   simp only [Rows.uptoBulk]
   omega
theorem open_stB {H:Type} {enc:TypeId × Value→H} {W:World} {base:Nat}:∀ (fuel:Nat) (cs:List Value) (x:DataW H × List MemPlace),DataW.trod enc Tryz.prog W base (fun _=>true) true fuel 62 cs=some x →
  ∃ g:GS,IsS W g (.agg cs.toArray)∧bulkS g≤Rows.uptoBulk x.1:=by
 intro fuel
 induction fuel using Nat.strongRecOn with
 |_ fuel ih =>
 intro cs x h
 have hT:Tryz.prog.cellsOf 62=17:=by kernel_rfl
 have hTT:Tryz.prog.cellsOf 31=11:=by kernel_rfl
 have h3:Tryz.prog.cellsOf 3=1:=by kernel_rfl
 have h4:Tryz.prog.cellsOf 4=1:=by kernel_rfl
 have h9:Tryz.prog.cellsOf 9=1:=by kernel_rfl
 have hS:Tryz.prog.cellsOf 35=1:=by kernel_rfl
 have hu:=Tryz.underlying62
 obtain ⟨ys,n,hfu,rfl,hlen,hyl,hfld⟩:=DataW.trod_struct hu h
 rw [hT] at hlen
 match cs,hlen,ys,hyl with
 |[u0,u1,u2,u3,u4,u5,u6,u7,u8,u9,u10,u11,u12,u13,u14,u15,u16],_,[y0,y1,y2,y3,y4,y5,y6],_ =>
 have t0:DataW.trod enc Tryz.prog W base (fun _=>true) true n 3 [u0]=some y0:=by simpa [h3] using hfld 0 _ rfl
 have t1:DataW.trod enc Tryz.prog W base (fun _=>true) true n 3 [u1]=some y1:=by simpa [h3] using hfld 1 _ rfl
 have t2:DataW.trod enc Tryz.prog W base (fun _=>true) true n 9 [u2]=some y2:=by simpa [h9] using hfld 2 _ rfl
 have t3:DataW.trod enc Tryz.prog W base (fun _=>true) true n 4 [u3]=some y3:=by simpa [h4] using hfld 3 _ rfl
 have t4:DataW.trod enc Tryz.prog W base (fun _=>true) true n 31 [u4,u5,u6,u7,u8,u9,u10,u11,u12,u13,u14]=some y4:=by simpa [hTT] using hfld 4 _ rfl
 have t5:DataW.trod enc Tryz.prog W base (fun _=>true) true n 35 [u15]=some y5:=by simpa [hS] using hfld 5 _ rfl
 have t6:DataW.trod enc Tryz.prog W base (fun _=>true) true n 35 [u16]=some y6:=by simpa [hS] using hfld 6 _ rfl
 obtain ⟨n0,f0,g0,_⟩:=DataW.trod_int Tryz.underlying3 t0
 obtain ⟨n1,f1,g1,_⟩:=DataW.trod_int Tryz.underlying3 t1
 obtain ⟨s2,f2,g2,_⟩:=DataW.trod_string Tryz.underlying9 t2
 obtain ⟨b3,f3,g3⟩:=DataW.trod_bool Tryz.underlying4 t3
 obtain ⟨gx,hgx,hgf⟩:=open_exB n _ _ t4
 simp only [List.cons.injEq,and_true] at f0 f1 f2 f3
 subst f0;subst f1;subst f2;subst f3;subst g0;subst g1;subst g2;subst g3
 have e2:s2.data.toList.length=s2.size:=by rw [Array.length_toList];rfl
 obtain ⟨o5,l5,c5,f5,hl5,hn5,hb5⟩:=open_ssOf n _ _ t5 (fun m hm cs x h=>ih m (by omega) cs x h)
 obtain ⟨o6,l6,c6,f6,hl6,hn6,hb6⟩:=open_ssOf n _ _ t6 (fun m hm cs x h=>ih m (by omega) cs x h)
 simp only [List.cons.injEq,and_true] at f5 f6
 subst f5;subst f6
 refine ⟨.mk n0 n1 s2 b3 gx l5 l6,?_,?_⟩
 ·unfold IsS
  exact ⟨u4,u5,u6,u7,u8,u9,u10,u11,u12,u13,u14,o5,c5,o6,c6,rfl,⟨hn5,hn6⟩,hgx,hl5,hl6⟩
 ·simp only [bulkS,List.map_cons,List.map_nil,Rows.uptoBulk,Rows.uptoBulkAll,e2]
  omega
theorem exL_bulk {w:World} {x:GX} {v:Value} (h:IsX w x v):(exL x).length≤40 * bulkX x:=by
 have:=ex_bulk h 1
 unfold exL
 rwa [bsize]
theorem tabsL_len (t:Nat):(tabsL t).length=t:=by unfold tabsL;simp
mutual
theorem st_bulk {w:World}:∀ {x:GS} {v:Value} {t:Nat},t≤100→IsS w x v→(stmL t x).length + 101≤400 * bulkS x
 |.mk k p nm h x u v,_,t,ht,hs=>by
  unfold IsS at hs
  obtain ⟨e0,e1,e2,e3,e4,e5,e6,e7,e8,e9,e10,o,c,o',c',_,_,hx,hu,hv⟩:=hs
  have h1:=exL_bulk hx
  have h2:=ss_bulkL (t:=min (t + 1) 100) (by omega) hu
  have h3:=ss_bulkL (t:=min (t + 1) 100) (by omega) hv
  have h4:=tabsL_len t
  have h5:nm.data.toList.length=nm.size:=bsize nm
  rw [stmL,bulkS]
  repeat' split
  all_goals simp only [List.length_append,List.length_cons,List.length_nil]
  all_goals omega
theorem ss_bulkL {w:World}:∀ {xs:List GS} {o:Option Addr} {i t:Nat},t≤100→IsSs w o i xs→(blkL t xs).length≤400 * bulkSs xs
 |[],_,_,_,_,_=>by rw [blkL];simp
 |y::r,o,i,t,ht,h=>by
  unfold IsSs at h
  obtain ⟨⟨_,_,_,_,_,hy⟩,hr⟩:=h
  have h1:=st_bulk ht hy
  have h2:=ss_bulkL ht hr
  have h4:=tabsL_len t
  rw [blkL,bulkSs]
  simp only [List.length_append,List.length_cons,List.length_nil]
  omega
end
mutual
theorem st_fit {w:World}:∀ {x:GS} {v:Value},IsS w x v→bulkS x≤1048576→FitS x
 |.mk k p nm h x u v,_,hs,hb=>by
  unfold IsS at hs
  obtain ⟨e0,e1,e2,e3,e4,e5,e6,e7,e8,e9,e10,o,c,o',c',_,_,hx,hu,hv⟩:=hs
  have h1:=exL_bulk hx
  unfold FitS
  rw [bulkS] at hb
  exact ⟨by omega,ss_fit hu (by omega),ss_fit hv (by omega)⟩
theorem ss_fit {w:World}:∀ {xs:List GS} {o:Option Addr} {i:Nat},IsSs w o i xs→bulkSs xs≤1048576→FitSs xs
 |[],_,_,_,_=>by unfold FitSs;trivial
 |y::r,o,i,h,hb=>by
  unfold IsSs at h
  obtain ⟨⟨_,_,_,_,_,hy⟩,hr⟩:=h
  rw [bulkSs] at hb
  unfold FitSs
  exact ⟨st_fit hy (by omega),ss_fit hr (by omega)⟩
end
theorem open_ssB {H:Type} {enc:TypeId × Value→H} {W:World} {base:Nat} {v:Value} (hv:Value.okWide Tryz.prog W .any base 35 v) {d:DataW H} {p:List MemPlace} (h:DataW.Trod enc Tryz.prog W 0 (fun _=>true) true 35 v d p) :
  ∃ (o:Option Addr) (l:List GS) (c:Nat),v=.slice o l.length c∧IsSs W o 0 l∧l.length≤9223372036854775807∧bulkSs l≤Rows.uptoBulk d:=by
 obtain ⟨o,len,cap,rfl⟩:=okWide_slice Tryz.underlying35 hv
 obtain ⟨fuel,k⟩:=h
 have k':DataW.trod enc Tryz.prog W 0 (fun _=>true) true fuel 35 [.slice o len cap]=some (d,p):=k
 obtain ⟨o',l,c,e,g1,g2,g3⟩:=open_ssOf fuel _ _ k' (fun m _ cs x h=>open_stB m cs x h)
 simp only [List.cons.injEq,and_true] at e
 exact ⟨o',l,c,e,g1,g2,by simp only at g3;omega⟩
end Go.Proofs.YtfcgoainglpdlaaGreatDoor
