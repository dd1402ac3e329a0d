/- The document's own argument of an expression. No condition. The document's own texts of expressions: with brackets. Condition: the text's length is an int. The document's own expression lists: with commas between. Condition: the text's length is an int. -/
import Derived.Test.YtfcgoainglpdlaaGreatDoorB03
import Derived.Test.YtfcgoainglpdlaaGreatDoorB20
import Derived.Laws.CopyOwn
set_option maxRecDepth 20000
set_option maxHeartbeats 1000000
namespace Go.Proofs.YtfcgoainglpdlaaGreatDoor
open Go.RowKit
theorem boxLoadG (T:TypeId) (n:Nat) (hi:(Tryz.prog.info? T).map (·.size)=some n) {fs:_} (hu:Tryz.prog.underlying T=some (.struct fs)) {ops:Array Oper} {rest:List Oper} {o:Oper} {a:Act} {w:World} {Q:Exit→Act→World→Prop} (hgd:o.guard=none) (x:Operand) (ho:o.op=.load T x) (g:Addr) (hx:a.eval x=.pointer (some g)) {cs:List Value} (hc:∀ (j:Nat) (v:Value),cs[j]?=some v→w.cell? (g.add j)=some v) (hs:cs.length=n)
  (h:wpList Tryz.prog ops Q rest (a.put o.dst (.agg cs.toArray)) w):wpList Tryz.prog ops Q (o::rest) a w:=by
 refine wpList_plain hgd fun _ hK=>?_
 have hl:(loadCells g cs.length).run Tryz.prog w=.ok cs.toArray w:=run_loadCells_list (P:=Tryz.prog) w g cs hc
 have hsv:(loadVar T g).run Tryz.prog w=.ok (.agg cs.toArray) w:=by
  obtain ⟨i,hi,hi'⟩:=Option.map_eq_some_iff.1 hi
  have hagg:(isAgg T).run Tryz.prog w=.ok true w:=by
   unfold isAgg
   rw [Sem.run_bind,run_underlying hu w]
   rfl
  rw [hs] at hl
  generalize cs.toArray=cs at *
  simp [loadVar,Sem.run_bind,hagg,sizeOf,typeInfo,hi,hi',hl]
 have hr:(execOp a.eval o).run Tryz.prog w=.ok (.value (.agg cs.toArray)) w:=by
  unfold execOp
  simp only [ho,hx,Instr.loadAt,Instr.sureAddr,Sem.run_bind,Sem.run_pure,Result.andThen_ok,hsv]
 unfold Oper.wp
 rw [hr]
 exact hK _ _ h
theorem size11:(Tryz.prog.info? 31).map (·.size)=some 11:=by kernel_rfl
theorem row11 {w:World} {a:Addr} {b:Nat} {c0 c1 c2 c3 c4 c5 c6 c7 c8 c9 c10:Value} (h0:w.cell? (a.add b)=some c0) (h1:w.cell? (a.add (b + 1))=some c1) (h2:w.cell? (a.add (b + 2))=some c2) (h3:w.cell? (a.add (b + 3))=some c3) (h4:w.cell? (a.add (b + 4))=some c4) (h5:w.cell? (a.add (b + 5))=some c5) (h6:w.cell? (a.add (b + 6))=some c6) (h7:w.cell? (a.add (b + 7))=some c7) (h8:w.cell? (a.add (b + 8))=some c8) (h9:w.cell? (a.add (b + 9))=some c9) (h10:w.cell? (a.add (b + 10))=some c10) :
  ∀ (j:Nat) (v:Value),[c0,c1,c2,c3,c4,c5,c6,c7,c8,c9,c10][j]?=some v→w.cell? ((a.add b).add j)=some v:=by
 intro j v h
 rw [add_more']
 match j,h with
 |0,h=>cases h;exact h0
 |1,h=>cases h;exact h1
 |2,h=>cases h;exact h2
 |3,h=>cases h;exact h3
 |4,h=>cases h;exact h4
 |5,h=>cases h;exact h5
 |6,h=>cases h;exact h6
 |7,h=>cases h;exact h7
 |8,h=>cases h;exact h8
 |9,h=>cases h;exact h9
 |10,h=>cases h;exact h10
 |j + 11,h=>simp at h
theorem IsG.ones {w:World} {x:GT} {c0 c1 c2 c3 c4:Value} (h:IsG w x (.agg #[c0,c1,c2,c3,c4])):c0.oneCell'=true∧c1.oneCell'=true∧c2.oneCell'=true∧c3.oneCell'=true∧c4.oneCell'=true:=by
 obtain ⟨k,p,g,n,args⟩:=x
 unfold IsG at h
 obtain ⟨o,c,hv,_⟩:=h
 simp only [Value.agg.injEq,Array.mk.injEq,List.cons.injEq,and_true] at hv
 obtain ⟨rfl,rfl,rfl,rfl,rfl⟩:=hv
 exact ⟨rfl,rfl,rfl,rfl,rfl⟩
theorem IsX.ones {w:World} {x:GX} {c0 c1 c2 c3 c4 c5 c6 c7 c8 c9 c10:Value} (h:IsX w x (.agg #[c0,c1,c2,c3,c4,c5,c6,c7,c8,c9,c10])):[c0,c1,c2,c3,c4,c5,c6,c7,c8,c9,c10].all (·.oneCell')=true:=by
 obtain ⟨k,p,s,nm,n,t,args⟩:=x
 unfold IsX at h
 obtain ⟨y0,y1,y2,y3,y4,o,c,hv,_,_,ht,_⟩:=h
 simp only [Value.agg.injEq,Array.mk.injEq,List.cons.injEq,and_true] at hv
 obtain ⟨rfl,rfl,rfl,rfl,rfl,rfl,rfl,rfl,rfl,rfl,rfl⟩:=hv
 obtain ⟨t0,t1,t2,t3,t4⟩:=ht.ones
 simp only [List.all_cons,List.all_nil,t0,t1,t2,t3,t4]
 rfl
theorem zeroX_is (w:World):IsX w zeroX (.agg #[.int .i64 0,.int .i64 0,.int .i64 0,.string ⟨#[]⟩,.int .i64 0,.int .i64 0,.int .i64 0,.string ⟨#[]⟩,.string ⟨#[]⟩,.slice none 0 0,.slice none 0 0]):=by
 unfold zeroX IsX
 refine ⟨_,_,_,_,_,none,0,rfl,by decide,by decide,?_,Nat.le_refl _,Nat.zero_le _,by unfold IsXs;trivial⟩
 unfold IsG
 exact ⟨none,0,rfl,Nat.le_refl _,Nat.zero_le _,by unfold IsGs;trivial⟩
theorem argR_any (k p s:Int) (nm:ByteArray) (n:Int) (t:GT) (args:List GX) (i:Nat) (v:Value) (w:World) (hv:IsX w (.mk k p s nm n t args) v) :
  Calls Tryz.prog 77 #[v,.int .i64 (i:Nat)] w fun e w'=>(∃ u,e=.returned u∧IsX w' (argX args i) u)∧Below w.heap.size w w':=by
 unfold IsX at hv
 obtain ⟨y0,y1,y2,y3,y4,o,c,rfl,n1,n2,ht,hl,hc,ha⟩:=hv
 have hb:Hid (∀ z,Below w.heap.size w ((w.alloc (.cells #[.int .i64 k,.int .i64 p,.int .i64 s,.string nm,.int .i64 n,y0,y1,y2,y3,y4,.slice o args.length c] 31)).alloc z)):=fun _=>((Below.refl _ _).alloc (Nat.le_refl _) _).alloc (by simp) _
 clear ht
 by_cases hlt:i < args.length
 ·have hg:args[i]?=some args[i]:=List.getElem?_eq_getElem hlt
  have hX:argX args i=args[i]:=by simp [argX,hlt]
  rw [hX]
  have hy:=ha.at_ i hg
  rw [Nat.zero_add] at hy
  generalize args[i]=y at hy
  clear hg hX ha
  unfold IsXs at hy
  obtain ⟨⟨a,c0,c1,c2,c3,c4,c5,c6,c7,c8,c9,c10,rfl,e0,e1,e2,e3,e4,e5,e6,e7,e8,e9,e10,hy⟩,_⟩:=hy
  have hR:=Lib.hid (row11 e0 e1 e2 e3 e4 e5 e6 e7 e8 e9 e10)
  have hY:=Lib.hid hy
  have hO:=Lib.hid hy.ones
  clear e0 e1 e2 e3 e4 e5 e6 e7 e8 e9 e10 hy
  have hlt':((i:Int) < (args.length:Int)):=by omega
  go_enter Tryz.func77,Tryz.ntmps77
  go_wp2_with (first | (refine boxLoadG 31 11 size11 Tryz.underlying31 rfl _ rfl _ rfl (cs:=[c0,c1,c2,c3,c4,c5,c6,c7,c8,c9,c10]) (fun j v h=>((hb.out _).cell (World.block_lt_of_cell? _ _ (hR.out j v h))).trans (hR.out j v h)) rfl ?_) | (refine boxStore 31 11 size11 rfl _ _ rfl (w.heap.size + 1) rfl [_,_,_,_,_,_,_,_,_,_,_] rfl (by simpa using Blk.new (w.alloc _) _ _) rfl rfl hO.out ?_))
  refine bodyPost_ret (v:=.agg #[c0,c1,c2,c3,c4,c5,c6,c7,c8,c9,c10]) ?_ rfl ⟨⟨_,rfl,?_⟩,?_⟩
  ·exact boxRes 31 11 size11 Tryz.underlying31 Tryz.results77 _ (w.heap.size + 1) rfl (Blk.row (by simpa using Blk.new (w.alloc _) _ _) _) rfl
  ·exact hY.out.below (below_setRow (hb.out _) (Nat.le_succ _) _)
  ·exact below_setRow (hb.out _) (Nat.le_succ _) _
 ·have hX:argX args i=zeroX:=by
   simp [argX,List.getD,List.getElem?_eq_none (by omega:args.length≤i)]
  rw [hX]
  clear hX ha
  have hge:¬ ((i:Int) < (args.length:Int)):=by omega
  go_enter Tryz.func77,Tryz.ntmps77
  go_wp2_with (refine boxStore 31 11 size11 rfl _ _ rfl (w.heap.size + 1) rfl [_,_,_,_,_,_,_,_,_,_,_] rfl (by simpa using Blk.new (w.alloc _) _ _) rfl rfl rfl ?_)
  refine bodyPost_ret (v:=.agg #[.int .i64 0,.int .i64 0,.int .i64 0,.string ⟨#[]⟩,.int .i64 0,.int .i64 0,.int .i64 0,.string ⟨#[]⟩,.string ⟨#[]⟩,.slice none 0 0,.slice none 0 0]) ?_ rfl ⟨⟨_,rfl,zeroX_is _⟩,?_⟩
  ·exact boxRes 31 11 size11 Tryz.underlying31 Tryz.results77 _ (w.heap.size + 1) rfl (Blk.row (by simpa using Blk.new (w.alloc _) _ _) _) rfl
  ·exact below_setRow (hb.out _) (Nat.le_succ _) _
end Go.Proofs.YtfcgoainglpdlaaGreatDoor
namespace Go.Proofs.YtfcgoainglpdlaaGreatDoor
open Go.RowKit
def PlnIs (v:Value) (b:ByteArray) (w:World):Prop :=
 ∀ W,Below w.heap.size w W→Calls Tryz.prog 50 #[v] W fun e w'=>e=.returned (.string b)∧Below W.heap.size W w'
theorem forR_of (x:GX) (v:Value) (w:World) (m:Int) (hv:IsX w x v) (hp:PlnIs v (plnG x) w) (hs:(bx m (levG x,plnG x)).size≤9223372036854775807) :
  Calls Tryz.prog 30 #[v,.int .i64 m] w fun e w'=>e=.returned (.string (bx m (levG x,plnG x)))∧Below w.heap.size w w':=by
 have HP:=Lib.hid hp
 have HL:=Lib.hid (fun (W:World) (hb:Below w.heap.size w W)=>levR_any x v W (hv.below hb))
 have HN:Hid (∃ (k p s:Int) (nm:ByteArray) (n:Int) (y0 y1 y2 y3 y4:Value) (o:Option Addr) (l c:Nat),v=.agg #[.int .i64 k,.int .i64 p,.int .i64 s,.string nm,.int .i64 n,y0,y1,y2,y3,y4,.slice o l c]):=by
  obtain ⟨k,p,s,nm,n,t,args⟩:=x
  unfold IsX at hv
  obtain ⟨y0,y1,y2,y3,y4,o,c,rfl,_⟩:=hv
  exact ⟨k,p,s,nm,n,y0,y1,y2,y3,y4,o,_,c,rfl⟩
 obtain ⟨k,p,s,nm,n,y0,y1,y2,y3,y4,o,l,c,rfl⟩:=HN.out
 clear hv hp HN
 generalize levG x=lev at *
 generalize plnG x=b at *
 have hb:Hid (Below w.heap.size w (w.alloc (.cells #[.int .i64 k,.int .i64 p,.int .i64 s,.string nm,.int .i64 n,y0,y1,y2,y3,y4,.slice o l c] 31))):=(Below.refl _ _).alloc (Nat.le_refl _) _
 go_enter Tryz.func30,Tryz.ntmps30
 go_wp2_with fail
 refine (HP.out _ hb.out).mono ?_
 rintro e w1 ⟨rfl,hB⟩
 have H1:=Lib.hid (hb.out.trans (hB.mono hb.out.size))
 have HX:=Lib.hid (Blk.below (Blk.new w 31 #[.int .i64 k,.int .i64 p,.int .i64 s,.string nm,.int .i64 n,y0,y1,y2,y3,y4,.slice o l c]) hB)
 clear hB
 have HL1:=Lib.hid (HL.out _ H1.out)
 by_cases hm:lev < m
 ·have hs':1 + b.size + 1≤9223372036854775807:=by
   rw [bx,if_pos hm,ByteArray.size_append,ByteArray.size_append] at hs
   exact hs
  have hx:Hid (bx m (lev,b)=⟨#[40]⟩++b++⟨#[41]⟩):=if_pos hm
  have hs1:1 + b.size≤9223372036854775807:=by omega
  clear hs
  go_wp2_with (refine boxLoad 31 11 size11 Tryz.underlying31 rfl _ rfl w.heap.size rfl (cs:=[_,_,_,_,_,_,_,_,_,_,_]) HX.out rfl ?_)
  refine HL1.out.mono ?_
  rintro e w2 ⟨rfl,hB⟩
  have H2:=Lib.hid (H1.out.trans (hB.mono H1.out.size))
  clear hB
  go_wp2
  go_ret
  exact ⟨by rw [hx.out];rfl,H2.out⟩
 ·clear hs
  have hx:Hid (bx m (lev,b)=b):=if_neg hm
  go_wp2_with (refine boxLoad 31 11 size11 Tryz.underlying31 rfl _ rfl w.heap.size rfl (cs:=[_,_,_,_,_,_,_,_,_,_,_]) HX.out rfl ?_)
  refine HL1.out.mono ?_
  rintro e w2 ⟨rfl,hB⟩
  have H2:=Lib.hid (H1.out.trans (hB.mono H1.out.size))
  clear hB
  go_wp2
  go_ret
  exact ⟨by rw [hx.out];rfl,H2.out⟩
end Go.Proofs.YtfcgoainglpdlaaGreatDoor
namespace Go.Proofs.YtfcgoainglpdlaaGreatDoor
open Go.RowKit
theorem exprR_of (x:GX) (v:Value) (w:World) (hv:IsX w x v) (hp:PlnIs v (plnG x) w) (hs:(bx 1 (levG x,plnG x)).size≤9223372036854775807) :
  Calls Tryz.prog 15 #[v] w fun e w'=>e=.returned (.string (bx 1 (levG x,plnG x)))∧Below w.heap.size w w':=by
 have HN:Hid (∃ (k p s:Int) (nm:ByteArray) (n:Int) (y0 y1 y2 y3 y4:Value) (o:Option Addr) (l c:Nat),v=.agg #[.int .i64 k,.int .i64 p,.int .i64 s,.string nm,.int .i64 n,y0,y1,y2,y3,y4,.slice o l c]):=by
  obtain ⟨k,p,s,nm,n,t,args⟩:=x
  unfold IsX at hv
  obtain ⟨y0,y1,y2,y3,y4,o,c,rfl,_⟩:=hv
  exact ⟨k,p,s,nm,n,y0,y1,y2,y3,y4,o,_,c,rfl⟩
 obtain ⟨k,p,s,nm,n,y0,y1,y2,y3,y4,o,l,c,rfl⟩:=HN.out
 have hb:Hid (Below w.heap.size w (w.alloc (.cells #[.int .i64 k,.int .i64 p,.int .i64 s,.string nm,.int .i64 n,y0,y1,y2,y3,y4,.slice o l c] 31))):=(Below.refl _ _).alloc (Nat.le_refl _) _
 have HF:=Lib.hid (forR_of x _ _ 1 (hv.below hb.out) (fun W hW=>hp W (hb.out.trans (hW.mono hb.out.size))) hs)
 clear hv hp hs HN
 go_enter Tryz.func15,Tryz.ntmps15
 go_wp2_with fail
 refine HF.out.mono ?_
 rintro e w1 ⟨rfl,hB⟩
 have H1:=Lib.hid (hb.out.trans (hB.mono hb.out.size))
 clear hB
 go_wp2
 go_ret
 exact ⟨rfl,H1.out⟩
theorem nil_app (x:ByteArray):(⟨#[]⟩:ByteArray)++x=x:=ByteArray.empty_append
theorem app_nil (x:ByteArray):x++(⟨#[]⟩:ByteArray)=x:=ByteArray.append_empty
theorem nil_size:(⟨#[]⟩:ByteArray).size=0:=rfl
theorem restB_snoc (q:Int × ByteArray):∀ l:List (Int × ByteArray),restB (l++[q])=restB l++(⟨#[44,32]⟩++bx 1 q)
 |[]=>by simp only [List.nil_append,restB,nil_app,app_nil]
 |x::r=>by
  have:=restB_snoc q r
  simp only [List.cons_append,restB,this,ByteArray.append_assoc]
theorem joinB_snoc (q:Int × ByteArray):∀ l:List (Int × ByteArray),l≠[]→joinB (l++[q])=joinB l++⟨#[44,32]⟩++bx 1 q
 |[],h=>absurd rfl h
 |x::r,_=>by
  simp only [List.cons_append,joinB,restB_snoc,ByteArray.append_assoc]
theorem restB_take:∀ (l:List (Int × ByteArray)) (k:Nat),(restB (l.take k)).size≤(restB l).size
 |[],k=>by simp
 |x::r,0=>by simp [restB,nil_size]
 |x::r,k + 1=>by
  have:=restB_take r k
  simp only [List.take_succ_cons,restB,ByteArray.size_append]
  omega
theorem joinB_take:∀ (l:List (Int × ByteArray)) (k:Nat),(joinB (l.take k)).size≤(joinB l).size
 |[],k=>by simp
 |x::r,0=>by simp [joinB,nil_size]
 |x::r,k + 1=>by
  have:=restB_take r k
  simp only [List.take_succ_cons,joinB,ByteArray.size_append]
  omega
theorem joinR_of (k p s:Int) (nm:ByteArray) (n:Int) (t:GT) (args:List GX) (b:Nat) (hb1:b≤1) (v:Value) (w:World) (hv:IsX w (.mk k p s nm n t args) v)
  (hp:∀ y ∈ args,∀ (u:Value) (W:World),Below w.heap.size w W→IsX W y u→(bx 1 (levG y,plnG y)).size≤9223372036854775807→Calls Tryz.prog 15 #[u] W fun e w'=>e=.returned (.string (bx 1 (levG y,plnG y)))∧Below W.heap.size W w')
  (hs:(joinB ((plsG args).drop b)).size≤9223372036854775807) :
  Calls Tryz.prog 78 #[v,.int .i64 (b:Nat)] w fun e w'=>e=.returned (.string (joinB ((plsG args).drop b)))∧Below w.heap.size w w':=by
 have HP:=Lib.hid hp
 have HV:=Lib.hid hv
 unfold IsX at hv
 obtain ⟨y0,y1,y2,y3,y4,o,c,rfl,n1,n2,ht,hl,hc,ha⟩:=hv
 have hbb:Hid (Below w.heap.size w (w.alloc (.cells #[.int .i64 k,.int .i64 p,.int .i64 s,.string nm,.int .i64 n,y0,y1,y2,y3,y4,.slice o args.length c] 31))):=(Below.refl _ _).alloc (Nat.le_refl _) _
 have HA:=Lib.hid ha
 have HS:=Lib.hid hs
 clear ht ha hp hs
 go_enter Tryz.func78,Tryz.ntmps78
 go_wp2_with fail
 go_loopw [5,6] (fun u i wr=>∃ j:Nat,i=.int .i64 (j:Nat)∧u=.string (joinB (((plsG args).drop b).take (j - b)))∧Hid (b≤j)∧Hid (j≤max b args.length)∧Hid (Below w.heap.size w wr)∧Hid (Blk wr w.heap.size 31 #[.int .i64 k,.int .i64 p,.int .i64 s,.string nm,.int .i64 n,y0,y1,y2,y3,y4,.slice o args.length c])) (fun _ i _=>args.length - (RowKit.intOf i).toNat)
 case atStart =>
  exact ⟨b,rfl,by simp [joinB],Nat.le_refl _,Nat.le_max_left _ _,hbb,Blk.new _ _ _⟩
 case round =>
  obtain ⟨j,rfl,rfl,H1,H2,HB,HX⟩:=hrel
  by_cases hj:j < args.length
  ·have hbj:b≤j:=H1.out
   have hy:args[j]?=some args[j]:=List.getElem?_eq_getElem hj
   have hm:args[j] ∈ args:=List.getElem_mem hj
   have HE:=HA.out.at_ j hy
   rw [Nat.zero_add] at HE
   generalize args[j]=y at hy hm HE
   have hq:((plsG args).drop b)[j - b]?=some (levG y,plnG y):=by
    rw [List.getElem?_drop,pls_at,show b + (j - b)=j by omega,hy]
    rfl
   have htk:((plsG args).drop b).take (j + 1 - b)=((plsG args).drop b).take (j - b)++[(levG y,plnG y)]:=by
    rw [show j + 1 - b=j - b + 1 by omega,List.take_add_one,hq]
    rfl
   have hsz:=joinB_take ((plsG args).drop b) (j + 1 - b)
   rw [htk] at hsz
   have hmx:=HS.out
   unfold IsXs at HE
   obtain ⟨⟨a,c0,c1,c2,c3,c4,c5,c6,c7,c8,c9,c10,rfl,e0,e1,e2,e3,e4,e5,e6,e7,e8,e9,e10,hyX⟩,_⟩:=HE
   have HR:=Lib.hid (row11 e0 e1 e2 e3 e4 e5 e6 e7 e8 e9 e10)
   have HY:=Lib.hid (hyX.below HB.out)
   clear e0 e1 e2 e3 e4 e5 e6 e7 e8 e9 e10 hyX
   have k10:=HX.out.cell 10
   simp at k10
   have hj':((j:Int) < (args.length:Int)):=by omega
   have hj1:(j:Int) + 1≤9223372036854775807:=by have:maxLen=9223372036854775807:=rfl;omega
   have hj2:-9223372036854775808≤(j:Int) + 1:=by omega
   by_cases hjb:j=b
   ·subst hjb
    have hJ:joinB (((plsG args).drop j).take (j + 1 - j))=bx 1 (levG y,plnG y):=by
     rw [htk]
     simp [joinB,restB,app_nil]
    have hZ:joinB (((plsG args).drop j).take (j - j))=⟨#[]⟩:=by simp [joinB]
    rw [htk.symm,hJ] at hsz
    have hs2:0 + (bx 1 (levG y,plnG y)).size≤9223372036854775807:=by omega
    have HC:=Lib.hid (fun (W:World) (hW:Below w.heap.size w W) (hb:IsX W y _)=>HP.out y hm (.agg #[c0,c1,c2,c3,c4,c5,c6,c7,c8,c9,c10]) W hW hb (by omega))
    have HK:=Lib.hid hJ
    have HJ:=Lib.hid (nil_app (bx 1 (levG y,plnG y)))
    rw [hZ]
    have hgt:¬ ((j:Int) < (j:Int)):=by omega
    clear hsz hmx hJ htk hZ hq hy hm
    go_wp2_with (refine boxLoadG 31 11 size11 Tryz.underlying31 rfl _ rfl _ rfl (cs:=[c0,c1,c2,c3,c4,c5,c6,c7,c8,c9,c10]) (fun j v h=>(HB.out.cell (World.block_lt_of_cell? _ _ (HR.out j v h))).trans (HR.out j v h)) rfl ?_)
    refine (HC.out wr HB.out HY.out).mono ?_
    rintro e w2 ⟨rfl,hB⟩
    have HB2:=Lib.hid (HB.out.trans (hB.mono HB.out.size))
    have HX2:=Lib.hid (HX.out.below hB)
    clear hB
    go_wp2
    case roundEnd=>exact ⟨⟨j + 1,by push_cast;rfl,by rw [HK.out];exact congrArg _ HJ.out,Nat.le_succ_of_le H1.out,by show _≤_;omega,HB2.out,HX2.out⟩,by simp [RowKit.intOf];omega⟩
   ·have hne:((plsG args).drop b).take (j - b)≠[]:=by
     intro h
     have:=congrArg List.length h
     rw [List.length_take,List.length_drop,pls_len,List.length_nil] at this
     omega
    have hgt:((b:Int) < (j:Int)):=by omega
    have hJ:=joinB_snoc (levG y,plnG y) _ hne
    rw [hJ,ByteArray.size_append,ByteArray.size_append] at hsz
    have hs2:(joinB (((plsG args).drop b).take (j - b))).size + 2 + (bx 1 (levG y,plnG y)).size≤9223372036854775807:=Nat.le_trans hsz hmx
    have hs1:(joinB (((plsG args).drop b).take (j - b))).size + 2≤9223372036854775807:=by omega
    have HC:=Lib.hid (fun (W:World) (hW:Below w.heap.size w W) (hb:IsX W y _)=>HP.out y hm (.agg #[c0,c1,c2,c3,c4,c5,c6,c7,c8,c9,c10]) W hW hb (by omega))
    have HK:=Lib.hid htk
    have HJ:=Lib.hid hJ
    clear hsz hmx hJ htk hne hq hy hm
    generalize joinB (((plsG args).drop b).take (j - b))=out at *
    go_wp2_with (refine boxLoadG 31 11 size11 Tryz.underlying31 rfl _ rfl _ rfl (cs:=[c0,c1,c2,c3,c4,c5,c6,c7,c8,c9,c10]) (fun j v h=>(HB.out.cell (World.block_lt_of_cell? _ _ (HR.out j v h))).trans (HR.out j v h)) rfl ?_)
    refine (HC.out wr HB.out HY.out).mono ?_
    rintro e w2 ⟨rfl,hB⟩
    have HB2:=Lib.hid (HB.out.trans (hB.mono HB.out.size))
    have HX2:=Lib.hid (HX.out.below hB)
    clear hB
    go_wp2
    case roundEnd=>exact ⟨⟨j + 1,by push_cast;rfl,by rw [HK.out,HJ.out],Nat.le_succ_of_le H1.out,by show _≤_;omega,HB2.out,HX2.out⟩,by simp [RowKit.intOf];omega⟩
  ·have hd:Hid (joinB (((plsG args).drop b).take (j - b))=joinB ((plsG args).drop b)):=by
    have h2:j≤max b args.length:=H2.out
    have h3:((plsG args).drop b).length≤j - b:=by
     rw [List.length_drop,pls_len]
     omega
    show _=_
    rw [List.take_of_length_le h3]
   rw [hd.out]
   have k10:=HX.out.cell 10
   simp at k10
   have hj':¬ ((j:Int) < (args.length:Int)):=by omega
   go_wp2
   go_ret
   exact ⟨rfl,HB.out⟩
end Go.Proofs.YtfcgoainglpdlaaGreatDoor
