/- Plain: the tokens that a tree's text has: types, expressions. Condition: the tree's names are such. Plain: what is read is a tree as said, of no more tokens than were read: types, expressions. Condition: the tokens are right. Plain: the tokens that a tree's text has: statements, declarations, fil .. -/
import Derived.Test.YtfcgoainglpdlaaGreatDoorM47
import Derived.Test.YtfcgoainglpdlaaGreatDoorM26
import Derived.Test.YtfcgoainglpdlaaGreatDoorM27
import Derived.Test.YtfcgoainglpdlaaGreatDoorM13
import Derived.Test.YtfcgoainglpdlaaGreatDoorM16
namespace Go.Proofs.YtfcgoainglpdlaaGreatDoor
open Go.RowKit
open Go.Lib hiding intOf
def sym (c:UInt8):Key:=(4,[c])
theorem fineK_of {k:Int} {c:UInt8} {r:List UInt8} (h:(decide (lay c=false) && decide (c≠47) && decide (kln (c::r)=(k,(c::r).length)) && decide (c≠34))=true):fineK (k,c::r):=by
 simp only [Bool.and_eq_true,decide_eq_true_eq] at h
 exact ⟨c,r,rfl,h.1.1.1,h.1.1.2,h.1.2,fun e=>absurd e h.2⟩
def wordT (k:Int):List UInt8:=if k=1 then [105,110,116] else if k=2 then [98,111,111,108] else [116,101,120,116]
def cT:TX→List Key
 |.leaf k _ g n=>if k=4 then (if g=⟨#[]⟩ then [(1,n.data.toList)] else [(1,g.data.toList),sym 46,(1,n.data.toList)]) else [(5,wordT k)]
 |.list _ x=>sym 91::sym 93::cT x
def wfT:TX→Prop
 |.leaf k _ g n=>(k=1∨k=2∨k=3)∨(k=4∧okK (1,n.data.toList)∧(g=⟨#[]⟩∨okK (1,g.data.toList)))
 |.list _ x=>wfT x
theorem LB.words:∀ k:Int,(k=1∨k=2∨k=3)→LB (wordT k) [(5,wordT k)]:=by
 rintro k (rfl | rfl | rfl)
 ·exact LB.fine (fineK_of (by decide +kernel))
 ·exact LB.fine (fineK_of (by decide +kernel))
 ·exact LB.fine (fineK_of (by decide +kernel))
theorem lb_T:∀ t:TX,wfT t→LB (typG (toGT t)).data.toList (cT t)
 |.leaf k p g n,h=>by
  unfold wfT at h
  unfold toGT cT
  rcases h with h | ⟨rfl,hn,hg⟩
  ·have e:(typG (.mk k p g n [])).data.toList=wordT k:=by rcases h with rfl | rfl | rfl <;> (rw [typG];rfl)
   rw [e,if_neg (by omega)]
   exact LB.words k h
  ·rw [if_pos rfl]
   by_cases hg0:g=⟨#[]⟩
   ·subst hg0
    rw [if_pos rfl]
    have e:(typG (.mk 4 p ⟨#[]⟩ n [])).data.toList=n.data.toList:=by rw [typG];simp
    rw [e]
    exact LB.fine (q:=(1,n.data.toList)) hn.1
   ·rw [if_neg hg0,typG_4b p g n [] hg0]
    have h1:=LB.fine (q:=(1,g.data.toList)) (hg.resolve_left hg0).1
    have h2:=h1.app (s':=[46]) (Sh.mk (by decide)) (LA.sym (c:=46) (by decide))
    exact h2.appB (LB.fine (q:=(1,n.data.toList)) hn.1)
 |.list p x,h=>by
  unfold wfT at h
  unfold toGT cT
  rw [typG_5b]
  have h1:=(LA.sym (c:=91) (by decide)).app (LA.sym (c:=93) (by decide))
  exact h1.appB (lb_T x h)
theorem okT:∀ t:TX,wfT t→∀ q ∈ cT t,okK q
 |.leaf k p g n,h=>by
  unfold wfT at h
  unfold cT
  intro q hq
  rcases h with h | ⟨rfl,hn,hg⟩
  ·rw [if_neg (by omega)] at hq
   simp only [List.mem_singleton] at hq
   subst hq
   rcases h with rfl | rfl | rfl <;> exact ⟨fineK_of (by decide +kernel),by decide⟩
  ·rw [if_pos rfl] at hq
   split at hq
   ·simp only [List.mem_singleton] at hq;subst hq;exact hn
   ·next hg0 =>
    simp only [List.mem_cons,List.not_mem_nil,or_false] at hq
    rcases hq with rfl | rfl | rfl
    ·exact hg.resolve_left hg0
    ·exact ⟨fineK_of (by decide +kernel),by decide⟩
    ·exact hn
 |.list p x,h=>by
  unfold wfT at h
  unfold cT
  intro q hq
  simp only [List.mem_cons] at hq
  rcases hq with rfl | rfl | hq
  ·exact ⟨fineK_of (by decide +kernel),by decide⟩
  ·exact ⟨fineK_of (by decide +kernel),by decide⟩
  ·exact okT x h q hq
def EX.nm:EX→ByteArray
 |.mk _ _ _ _ n _ _=>n
def levE (x:EX):Int:=levK x.kind x.nm
theorem levG_toGX (x:EX):levG (toGX x)=levE x:=by cases x;unfold toGX levG;rfl
def brk (m:Int) (q:Int × List Key):List Key:=if q.1 < m then [sym 40]++q.2++[sym 41] else q.2
def cAt (l:List (Int × List Key)) (i:Nat) (m:Int):List Key:=match l[i]? with
 |some q=>brk m q
 |none=>[]
def cR:List (Int × List Key)→List Key
 |[]=>[]
 |q::r=>[sym 44]++brk 1 q++cR r
def cJ:List (Int × List Key)→List Key
 |[]=>[]
 |q::r=>brk 1 q++cR r
mutual
def cX:EX→List Key
 |.mk k _ _ n nm t args =>
  if k=1 then [(2,Lib.itoa n)] else if k=2 then [(3,[34]++nm.data.toList++[34])]
  else if k=3 then (if n=1 then [(5,[116,114,117,101])] else [(5,[102,97,108,115,101])])
  else if k=4 then [(1,nm.data.toList)] else if k=5 then cAt (cXs args) 0 6++[sym 46]++[(1,nm.data.toList)]
  else if k=6 then cAt (cXs args) 0 6++[sym 40]++cJ ((cXs args).drop 1)++[sym 41]
  else if k=7 then cAt (cXs args) 0 6++[sym 91]++cAt (cXs args) 1 1++[sym 93]
  else if k=8 then [(5,[110,101,119])]++cT t++[sym 123]++cJ (cXs args)++[sym 125]
  else if k=10 then [sym 33]++cAt (cXs args) 0 5
  else cAt (cXs args) 0 (levK 9 nm)++[(4,nm.data.toList)]++cAt (cXs args) 1 (levK 9 nm + 1)
def cXs:List EX→List (Int × List Key)
 |[]=>[]
 |y::r=>(levE y,cX y)::cXs r
end
theorem cXs_map:∀ l:List EX,cXs l=l.map fun y=>(levE y,cX y)
 |[]=>by rw [cXs];rfl
 |y::r=>by rw [cXs,cXs_map r];rfl
def opsK:List (List UInt8):=[[38,38],[61,61],[60],[43],[45],[42]]
mutual
def wfX:EX→Prop
  | .mk k _ _ n nm t args=>wfXs args∧(0≤n∧n≤999999999999999) ∧
    ((k=1∧okK (2,Lib.itoa n))∨(k=2∧okK (3,[34]++nm.data.toList++[34]))∨(k=3∧(n=0∨n=1))∨(k=4∧okK (1,nm.data.toList)) ∨
     (k=5∧args.length=1∧okK (1,nm.data.toList))∨(k=6∧1≤args.length)∨(k=7∧args.length=2)∨(k=8∧wfT t)∨(k=9∧args.length=2∧nm.data.toList ∈ opsK)∨(k=10∧args.length=1))
def wfXs:List EX→Prop
 |[]=>True
 |y::r=>wfX y∧wfXs r
end
theorem wfXs_mem:∀ {l:List EX} {y:EX},wfXs l→y ∈ l→wfX y
 |[],_,_,h=>by cases h
 |x::r,y,h,hy=>by
  unfold wfXs at h
  rcases List.mem_cons.1 hy with rfl | hy
  ·exact h.1
  ·exact wfXs_mem h.2 hy
mutual
theorem wfX.num:∀ {x:EX},wfX x→numX x=true
 |.mk k p s n nm t args,h=>by
  unfold wfX at h
  unfold numX
  have h1:=h.2.1
  have:numXs args=true:=wfXs.num h.1
  simp only [this,Bool.and_true,decide_eq_true_eq]
  omega
theorem wfXs.num:∀ {l:List EX},wfXs l→numXs l=true
 |[],_=>by unfold numXs;rfl
 |y::r,h=>by
  unfold wfXs at h
  unfold numXs
  rw [wfX.num h.1,wfXs.num h.2]
  rfl
end
theorem lb_bx {m k:Int} {s:ByteArray} {ts:List Key} (h:LB s.data.toList ts):LB (bx m (k,s)).data.toList (brk m (k,ts)):=by
 unfold brk
 by_cases hk:k < m
 ·rw [bx_yes hk,if_pos hk]
  have h1:=(LA.sym (c:=40) (by decide)).appB h
  exact (h1.app (s':=[41]) (Sh.mk (by decide)) (LA.sym (c:=41) (by decide))).b
 ·rw [bx_no hk,if_neg hk]
  exact h
theorem lb_at {args:List EX} (h:∀ y ∈ args,LB (plnG (toGX y)).data.toList (cX y)) {i:Nat} (hi:i < args.length) (m:Int):LB (argB (plsG (toGXs args)) i m).data.toList (cAt (cXs args) i m):=by
 unfold argB cAt
 rw [pls_at,toGXs_map,cXs_map]
 simp only [List.getElem?_map,List.getElem?_eq_getElem hi,Option.map_some,levG_toGX]
 exact lb_bx (h _ (List.getElem_mem hi))
theorem lb_R:∀ {args:List EX},(∀ y ∈ args,LB (plnG (toGX y)).data.toList (cX y))→LB (restB (plsG (toGXs args))).data.toList (cR (cXs args))∧(args≠[]→Sh (restB (plsG (toGXs args))).data.toList)
 |[],_=>by
  unfold toGXs plsG restB cXs cR
  exact ⟨LA.nil.b,fun h=>absurd rfl h⟩
 |y::r,h=>by
  unfold toGXs plsG cXs
  rw [restB,cR]
  have e:(⟨#[44,32]⟩++bx 1 (levG (toGX y),plnG (toGX y))++restB (plsG (toGXs r)):ByteArray).data.toList=[44]++([32]++(bx 1 (levG (toGX y),plnG (toGX y))).data.toList)++(restB (plsG (toGXs r))).data.toList:=by
   simp [ByteArray.data_append]
  rw [e,levG_toGX]
  have h1:LB (bx 1 (levE y,plnG (toGX y))).data.toList (brk 1 (levE y,cX y)):=lb_bx (h y (by simp))
  have h2:=(LA.sym (c:=44) (by decide)).appB ((LA.lay (c:=32) (by decide)).appB h1)
  obtain ⟨h3,h4⟩:=lb_R (args:=r) fun z hz=>h z (by simp [hz])
  refine ⟨?_,fun _=>?_⟩
  ·by_cases hr:r=[]
   ·subst hr
    unfold toGXs plsG restB cXs cR
    rw [show (⟨#[]⟩:ByteArray).data.toList=[] from rfl,List.append_nil,List.append_nil]
    exact h2
   ·exact h2.appB (h4 hr) h3
  ·rw [List.append_assoc]
   exact Sh.mk (by decide)
theorem lb_J {args:List EX} (h:∀ y ∈ args,LB (plnG (toGX y)).data.toList (cX y)):LB (joinB (plsG (toGXs args))).data.toList (cJ (cXs args)):=by
 cases args with
 |nil =>
  unfold toGXs plsG joinB cXs cJ
  exact LA.nil.b
 |cons y r =>
  unfold toGXs plsG cXs
  rw [joinB,cJ,ByteArray.data_append,Array.toList_append,levG_toGX]
  have h1:LB (bx 1 (levE y,plnG (toGX y))).data.toList (brk 1 (levE y,cX y)):=lb_bx (h y (by simp))
  obtain ⟨h3,h4⟩:=lb_R (args:=r) fun z hz=>h z (by simp [hz])
  by_cases hr:r=[]
  ·subst hr
   unfold toGXs plsG restB cXs cR
   rw [show (⟨#[]⟩:ByteArray).data.toList=[] from rfl,List.append_nil,List.append_nil]
   exact h1
  ·exact h1.appB (h4 hr) h3
theorem cXs_drop (xs:List EX):(cXs xs).drop 1=cXs (xs.drop 1):=by
 cases xs with
 |nil=>unfold cXs;rfl
 |cons y r=>rw [cXs];rfl
theorem toGXs_drop (xs:List EX):(toGXs xs).drop 1=toGXs (xs.drop 1):=by
 cases xs with
 |nil=>unfold toGXs;rfl
 |cons y r=>rw [toGXs];rfl
theorem fine_op:∀ o ∈ opsK,fineK (4,o)∧flt 4 o 0=0:=by
 intro o ho
 simp only [opsK,List.mem_cons,List.not_mem_nil,or_false] at ho
 rcases ho with rfl | rfl | rfl | rfl | rfl | rfl <;> exact ⟨fineK_of (by decide +kernel),by decide⟩
theorem lb_X:∀ (n:Nat) (x:EX),SizeOf.sizeOf x < n→wfX x→LB (plnG (toGX x)).data.toList (cX x):=by
 intro n
 induction n with
 |zero=>intro x h;omega
 |succ n ih =>
 rintro ⟨k,p,s,v,nm,t,args⟩ hs h
 unfold wfX at h
 obtain ⟨ha,hv,h⟩:=h
 have hA:∀ y ∈ args,LB (plnG (toGX y)).data.toList (cX y):=fun y hy=>ih y (by have:=List.sizeOf_lt_of_mem hy;simp only [EX.mk.sizeOf_spec] at hs;omega) (wfXs_mem ha hy)
 unfold toGX cX
 rcases h with ⟨rfl,h⟩ | ⟨rfl,h⟩ | ⟨rfl,h⟩ | ⟨rfl,h⟩ | ⟨rfl,hl,h⟩ | ⟨rfl,hl⟩ | ⟨rfl,hl⟩ | ⟨rfl,h⟩ | ⟨rfl,hl,h⟩ | ⟨rfl,hl⟩
 ·rw [if_pos rfl]
  have e:(plnG (.mk 1 p s nm v (toGT t) (toGXs args))).data.toList=Lib.itoa v:=by rw [plnG,if_pos rfl]
  rw [e]
  exact LB.fine (q:=(2,Lib.itoa v)) h.1
 ·rw [if_neg (by decide),if_pos rfl,plnG_2]
  exact LB.fine (q:=(3,[34]++nm.data.toList++[34])) h.1
 ·rw [if_neg (by decide),if_neg (by decide),if_pos rfl]
  rcases h with rfl | rfl
  ·have e:(plnG (.mk 3 p s nm 0 (toGT t) (toGXs args))).data.toList=[102,97,108,115,101]:=by rw [plnG];rfl
   rw [e,if_neg (by decide)]
   exact LB.fine (q:=(5,[102,97,108,115,101])) (fineK_of (by decide +kernel))
  ·have e:(plnG (.mk 3 p s nm 1 (toGT t) (toGXs args))).data.toList=[116,114,117,101]:=by rw [plnG];rfl
   rw [e,if_pos rfl]
   exact LB.fine (q:=(5,[116,114,117,101])) (fineK_of (by decide +kernel))
 ·rw [if_neg (by decide),if_neg (by decide),if_neg (by decide),if_pos rfl,plnG_4]
  exact LB.fine (q:=(1,nm.data.toList)) h.1
 ·rw [if_neg (by decide),if_neg (by decide),if_neg (by decide),if_neg (by decide),if_pos rfl,plnG_5]
  exact ((lb_at hA (i:=0) (by omega) 6).app (Sh.mk (by decide)) (LA.sym (c:=46) (by decide))).appB (LB.fine (q:=(1,nm.data.toList)) h.1)
 ·rw [if_neg (by decide),if_neg (by decide),if_neg (by decide),if_neg (by decide),if_neg (by decide),if_pos rfl,plnG_6,pls_drop,toGXs_drop,cXs_drop]
  have h1:=((lb_at hA (i:=0) (by omega) 6).app (s':=[40]) (Sh.mk (by decide)) (LA.sym (c:=40) (by decide))).appB (lb_J (args:=args.drop 1) fun y hy=>hA y (List.mem_of_mem_drop hy))
  exact (h1.app (s':=[41]) (Sh.mk (by decide)) (LA.sym (c:=41) (by decide))).b
 ·rw [if_neg (by decide),if_neg (by decide),if_neg (by decide),if_neg (by decide),if_neg (by decide),if_neg (by decide),if_pos rfl,plnG_7]
  have h1:=((lb_at hA (i:=0) (by omega) 6).app (s':=[91]) (Sh.mk (by decide)) (LA.sym (c:=91) (by decide))).appB (lb_at hA (i:=1) (by omega) 1)
  exact (h1.app (s':=[93]) (Sh.mk (by decide)) (LA.sym (c:=93) (by decide))).b
 ·rw [if_neg (by decide),if_neg (by decide),if_neg (by decide),if_neg (by decide),if_neg (by decide),if_neg (by decide),if_neg (by decide),if_pos rfl,plnG_8]
  have h0:=(LB.fine (q:=(5,[110,101,119])) (fineK_of (by decide +kernel))).blank
  have h1:=((h0.appB (lb_T t h)).app (s':=[123]) (Sh.mk (by decide)) (LA.sym (c:=123) (by decide))).appB (lb_J hA)
  exact (h1.app (s':=[125]) (Sh.mk (by decide)) (LA.sym (c:=125) (by decide))).b
 ·rw [if_neg (by decide),if_neg (by decide),if_neg (by decide),if_neg (by decide),if_neg (by decide),if_neg (by decide),if_neg (by decide),if_neg (by decide),if_neg (by decide),plnG_9]
  have h0:=(LB.fine (q:=(4,nm.data.toList)) (fine_op _ h).1).blank
  have h1:=(lb_at hA (i:=0) (by omega) (levK 9 nm)).app (s':=[32]++(nm.data.toList++[32])) (Sh.mk (by decide)) ((LA.lay (c:=32) (by decide)).app h0)
  have h2:=h1.appB (lb_at hA (i:=1) (by omega) (levK 9 nm + 1))
  simpa only [List.append_assoc,List.nil_append] using h2
 ·rw [if_neg (by decide),if_neg (by decide),if_neg (by decide),if_neg (by decide),if_neg (by decide),if_neg (by decide),if_neg (by decide),if_neg (by decide),if_pos rfl,plnG_10]
  exact (LA.sym (c:=33) (by decide)).appB (lb_at hA (i:=0) (by omega) 5)
theorem lb_exL {x:EX} (h:wfX x):LB (exL (toGX x)) (brk 1 (levE x,cX x)):=by
 unfold exL
 rw [levG_toGX]
 exact lb_bx (lb_X _ x (Nat.lt_succ_self _) h)
end Go.Proofs.YtfcgoainglpdlaaGreatDoor
namespace Go.Proofs.YtfcgoainglpdlaaGreatDoor
open Go.RowKit
open Go.Lib hiding intOf
def OkL (l:List TZ):Prop:=∀ i:Int,(tkAt l i).kind≠0→okK ((tkAt l i).kind,(tkAt l i).text.data.toList)
def valD (l:List UInt8):Nat:=l.foldl (fun n c=>10 * n + (c.toNat - 48)) 0
theorem valD_snoc (l:List UInt8) (c:UInt8):valD (l++[c])=10 * valD l + (c.toNat - 48):=by unfold valD;rw [List.foldl_append];rfl
theorem fold_val:∀ (l:List UInt8) (n:Nat),l.all isD=true→l.foldl (fun n c=>10 * n + ((c.toNat:Int) - 48)) (n:Int)=((l.foldl (fun n c=>10 * n + (c.toNat - 48)) n:Nat):Int)
 |[],_,_=>rfl
 |c::r,n,h=>by
  simp only [List.all_cons,Bool.and_eq_true] at h
  have hc:48≤c.toNat:=by have:=h.1;unfold isD at this;simp only [Bool.and_eq_true,decide_eq_true_eq] at this;exact this.1
  rw [List.foldl_cons,List.foldl_cons,← fold_val r _ h.2]
  congr 1
  omega
theorem digit_of {c:UInt8} (h:isD c=true):UInt8.ofNat (48 + (c.toNat - 48))=c∧c.toNat - 48 < 10∧48≤c.toNat:=by
 unfold isD at h
 simp only [Bool.and_eq_true,decide_eq_true_eq] at h
 refine ⟨?_,by omega,h.1⟩
 rw [show 48 + (c.toNat - 48)=c.toNat by omega]
 exact UInt8.ofNat_toNat
theorem dec_val:∀ (n:Nat) (l:List UInt8),l.length=n + 1→l.all isD=true→(l.head?≠some 48→0 < valD l∧Lib.decDigits (valD l)=l)∧(n=0→Lib.decDigits (valD l)=l)∧valD l < 10 ^ (n + 1)
 |0,l,hl,ha=>by
  match l,hl with
  |[c],_ =>
   simp only [List.all_cons,List.all_nil,Bool.and_true] at ha
   obtain ⟨h1,h2,h3⟩:=digit_of ha
   have e:valD [c]=c.toNat - 48:=by simp [valD]
   have hd:Lib.decDigits (valD [c])=[c]:=by rw [Lib.decDigits,dif_pos (by rw [e];exact h2),e,h1]
   refine ⟨fun hh=>⟨?_,hd⟩,fun _=>hd,by rw [e];simpa using h2⟩
   rw [e]
   refine Nat.pos_of_ne_zero fun h0=>hh ?_
   have:c=48:=by
    have e2:c.toNat=48:=by omega
    exact UInt8.toNat_inj.1 (by rw [e2];rfl)
   rw [this];rfl
 |n + 1,l,hl,ha=>by
  obtain ⟨r,c,rfl⟩:∃ r c,l=r++[c]:=⟨l.dropLast,l.getLast (by intro e;subst e;simp at hl),(List.dropLast_concat_getLast _).symm⟩
  simp only [List.length_append,List.length_cons,List.length_nil] at hl
  simp only [List.all_append,List.all_cons,List.all_nil,Bool.and_true,Bool.and_eq_true] at ha
  obtain ⟨h1,h2,h3⟩:=digit_of ha.2
  obtain ⟨i1,_,i3⟩:=dec_val n r (by omega) ha.1
  rw [valD_snoc]
  refine ⟨fun hh=>?_,fun h=>by omega,?_⟩
  ·have hr:r.head?≠some 48:=by
    cases r with
    |nil=>simp at hl
    |cons x q=>simpa using hh
   obtain ⟨j1,j2⟩:=i1 hr
   refine ⟨by omega,?_⟩
   rw [Lib.decDigits,dif_neg (by omega),show (10 * valD r + (c.toNat - 48)) / 10=valD r by omega,j2,show (10 * valD r + (c.toNat - 48)) % 10=c.toNat - 48 by omega,h1]
  ·have:(10:Nat) ^ (n + 1 + 1)=10 ^ (n + 1) * 10:=Nat.pow_succ ..
   omega
theorem num_ok {T:List UInt8} {n:Int} (h:okK (2,T)) (hn:numOf T=some n):Lib.itoa n=T∧0≤n∧n≤999999999999999:=by
 unfold numOf at hn
 split at hn
 ·next hc =>
  obtain ⟨h1,h2,h3⟩:=hc
  injection hn with hn
  have e:=fold_val T 0 h3
  rw [show ((0:Nat):Int)=0 from rfl] at e
  rw [e] at hn
  subst hn
  have hf:=h.2
  unfold flt at hf
  have hnum:num T=true:=by
   cases hq:num T with
   |true=>rfl
   |false=>simp [hq] at hf
  unfold num at hnum
  simp only [Bool.and_eq_true,decide_eq_true_eq,Bool.or_eq_true,bne_iff_ne,ne_eq] at hnum
  obtain ⟨d1,d2,d3⟩:=dec_val (T.length - 1) T (by omega) h3
  have hd:Lib.decDigits (valD T)=T:=by
   rcases hnum.2 with hh | hh
   ·exact (d1 hh).2
   ·exact d2 (by omega)
  have hb:valD T < 10 ^ 15:=Nat.lt_of_lt_of_le d3 (Nat.pow_le_pow_right (by decide) (by omega))
  refine ⟨?_,by omega,?_⟩
  ·show Lib.itoa ((valD T:Nat):Int)=T
   unfold Lib.itoa
   rw [if_neg (by omega),Int.toNat_natCast,hd]
  ·show ((valD T:Nat):Int)≤_
   have:(10:Nat) ^ 15=1000000000000000:=by decide
   omega
 ·cases hn
theorem quo_ok {T:List UInt8} (h:quoted T=true):[34]++unquote T++[34]=T:=by
 unfold quoted at h
 simp only [Bool.and_eq_true,decide_eq_true_eq] at h
 obtain ⟨⟨h1,h2⟩,h3⟩:=h
 cases T with
 |nil=>simp at h1
 |cons c r =>
  simp only [List.head?_cons,Option.some.injEq] at h2
  subst h2
  have hr:r≠[]:=by intro e;subst e;simp at h1
  have h4:r.getLast?=some 34:=by rw [List.getLast?_cons] at h3;rw [List.getLast?_eq_some_getLast hr] at h3 ⊢;simpa using h3
  have h5:r.getLast hr=34:=by rw [List.getLast?_eq_some_getLast hr] at h4;injection h4
  unfold unquote
  rw [List.drop_succ_cons,List.drop_zero,List.length_cons,show r.length + 1 - 2=r.length - 1 by omega,← List.dropLast_eq_take]
  have:=List.dropLast_concat_getLast hr
  rw [h5] at this
  rw [List.append_assoc,this]
  rfl
theorem tk_name {l:List TZ} (H:OkL l) {i:Int} (h:(tkAt l i).kind=1):okK (1,(tkAt l i).text.data.toList):=by
 have:=H i (by rw [h];decide)
 rwa [h] at this
theorem prs_ok {l:List TZ} (H:OkL l):∀ (n:Nat) (i:Int) (t:TX) (j:Int),prs l n i=.ok t j→wfT t∧i + (cT t).length=j:=by
 have he:∀ (i:Int) (t:TX) (j:Int),elm l i=.ok t j→wfT t∧i + (cT t).length=j:=by
  intro i t j h
  unfold elm at h
  split at h
  ·next h1 =>
   split at h
   ·split at h
    ·next h3 =>
     injection h with h h'
     subst h;subst h'
     have n1:=tk_name H h1
     refine ⟨.inr ⟨rfl,tk_name H h3,.inr n1⟩,?_⟩
     have hg:(tkAt l i).text≠⟨#[]⟩:=by
      intro e
      rw [e] at n1
      obtain ⟨c,r,e2,_⟩:=n1.1
      cases e2
     unfold cT
     rw [if_pos rfl,if_neg hg]
     simp only [List.length_cons,List.length_nil]
     omega
    ·cases h
   ·injection h with h h'
    subst h;subst h'
    refine ⟨.inr ⟨rfl,tk_name H h1,.inl rfl⟩,?_⟩
    unfold cT
    rw [if_pos rfl,if_pos rfl]
    simp only [List.length_cons,List.length_nil]
    omega
  ·split at h
   ·next h2 =>
    injection h with h h'
    subst h;subst h'
    have hk:kindOf (tkAt l i).text.data.toList=1∨kindOf (tkAt l i).text.data.toList=2∨kindOf (tkAt l i).text.data.toList=3:=by
     have:=h2.2
     unfold kindOf at this ⊢
     repeat' split
     all_goals simp_all
    refine ⟨.inl hk,?_⟩
    unfold cT
    rw [if_neg (by omega)]
    simp only [List.length_cons,List.length_nil]
    omega
   ·cases h
 intro n
 induction n with
 |zero =>
  intro i t j h
  unfold prs at h
  split at h
  ·cases h
  ·exact he i t j h
 |succ n ih =>
  intro i t j h
  unfold prs at h
  split at h
  ·split at h
   ·cases hq:prs l n (i + 2) with
    |ok x q =>
     rw [hq] at h
     unfold Res.wrap at h
     injection h with h h'
     subst h;subst h'
     obtain ⟨h1,h2⟩:=ih _ _ _ hq
     refine ⟨h1,?_⟩
     unfold cT
     simp only [List.length_cons]
     omega
    |err p c=>rw [hq] at h;cases h
   ·cases h
  ·exact he i t j h
theorem ty_ok {l:List TZ} (H:OkL l) {i:Int} {t:TX} {j:Int} (h:ty l i=.ok t j):wfT t∧i + (cT t).length=j:=by
 unfold ty at h
 cases hq:prs l 30 i with
 |ok x q=>rw [hq] at h;injection h with h h';subst h;subst h';exact prs_ok H _ _ _ _ hq
 |err p c=>rw [hq] at h;cases h
def bn (m:Int) (x:EX):Nat:=(brk m (levE x,cX x)).length
theorem bn_eq (m:Int) (x:EX):bn m x=(cX x).length + (if levE x < m then 2 else 0):=by
 unfold bn brk
 by_cases h:levE x < m
 ·simp only [h,if_true,List.length_append,List.length_cons,List.length_nil];omega
 ·simp only [h,if_false];rfl
theorem bn_mono {m m':Int} (h:m≤m') (x:EX):bn m x≤bn m' x:=by
 rw [bn_eq,bn_eq]
 split <;> split <;> omega
theorem bn_two (m m':Int) (x:EX):bn m' x≤bn m x + 2:=by
 rw [bn_eq,bn_eq]
 split <;> split <;> omega
theorem bn_high {m:Int} {x:EX} (h:¬ levE x < m):bn m x=(cX x).length:=by rw [bn_eq,if_neg h];omega
theorem cR_len:∀ l:List EX,(cR (cXs l)).length=if l=[] then 0 else (cJ (cXs l)).length + 1
 |[]=>by unfold cXs;rfl
 |y::r=>by
  rw [if_neg (by simp)]
  unfold cXs
  rw [cR,cJ]
  simp only [List.length_append,List.length_cons,List.length_nil]
  omega
theorem cJ_cons (y:EX) (r:List EX):(cJ (cXs (y::r))).length=bn 1 y + (cR (cXs r)).length:=by
 rw [show cXs (y::r)=(levE y,cX y)::cXs r by rw [cXs],cJ,List.length_append]
 rfl
theorem cAt_zero (x:EX) (r:List EX) (m:Int):(cAt (cXs (x::r)) 0 m).length=bn m x:=by
 rw [show cXs (x::r)=(levE x,cX x)::cXs r by rw [cXs]]
 rfl
theorem cAt_one (x y:EX) (r:List EX) (m:Int):(cAt (cXs (x::y::r)) 1 m).length=bn m y:=by
 rw [show cXs (x::y::r)=(levE x,cX x)::(levE y,cX y)::cXs r by rw [cXs,cXs]]
 rfl
theorem levE_mk (k p s n:Int) (nm:ByteArray) (t:TX) (a:List EX):levE (.mk k p s n nm t a)=levK k nm:=rfl
theorem wf_two {x y:EX} (hx:wfX x) (hy:wfX y):wfXs [x,y]:=by unfold wfXs wfXs wfXs;exact ⟨hx,hy,trivial⟩
theorem wf_one {x:EX} (hx:wfX x):wfXs [x]:=by unfold wfXs wfXs;exact ⟨hx,trivial⟩
theorem mkNot_ok {p e:Int} {x:EX} (h:wfX x):wfX (mkNot p e x)∧bn 5 (mkNot p e x)=1 + bn 5 x:=by
 constructor
 ·unfold mkNot wfX
  exact ⟨wf_one h,by decide,by right;right;right;right;right;right;right;right;right;exact ⟨rfl,rfl⟩⟩
 ·rw [bn_high (by unfold mkNot;rw [levE_mk,levK,if_pos rfl];decide)]
  unfold mkNot cX
  simp only [show ¬ ((10:Int)=1) by decide,show ¬ ((10:Int)=2) by decide,show ¬ ((10:Int)=3) by decide,show ¬ ((10:Int)=4) by decide,show ¬ ((10:Int)=5) by decide,show ¬ ((10:Int)=6) by decide,show ¬ ((10:Int)=7) by decide,show ¬ ((10:Int)=8) by decide,if_false,if_true]
  rw [List.length_append,cAt_zero]
  rfl
theorem lvl_op {t:TZ} {k:Nat} (hk:1≤k) (h:lvlOf t=k):t.kind=4∧t.text.data.toList ∈ opsK∧levK 9 t.text=(k:Int):=by
 unfold lvlOf at h
 have hb:∀ (s:List UInt8),t.text.data.toList=s→t.text=⟨s.toArray⟩:=by
  rintro s rfl
  cases t.text
  simp
 split at h
 ·omega
 ·next h4 =>
  have h4:t.kind=4:=by simpa using h4
  refine ⟨h4,?_⟩
  split at h
  ·next e=>rw [e];refine ⟨by decide,?_⟩;rw [hb _ e,← h];decide +kernel
  ·split at h
   ·next e=>rcases e with e | e <;> (rw [e];refine ⟨by decide,?_⟩;rw [hb _ e,← h];decide +kernel)
   ·split at h
    ·next e=>rcases e with e | e <;> (rw [e];refine ⟨by decide,?_⟩;rw [hb _ e,← h];decide +kernel)
    ·split at h
     ·next e=>rw [e];refine ⟨by decide,?_⟩;rw [hb _ e,← h];decide +kernel
     ·omega
theorem mkBin_ok {p e:Int} {op:ByteArray} {x y:EX} {k:Nat} (hx:wfX x) (hy:wfX y) (ho:op.data.toList ∈ opsK) (hl:levK 9 op=(k:Int)):wfX (mkBin p e op x y)∧bn k (mkBin p e op x y)=bn k x + 1 + bn (k + 1) y:=by
 constructor
 ·unfold mkBin wfX
  exact ⟨wf_two hx hy,by decide,by right;right;right;right;right;right;right;right;left;exact ⟨rfl,rfl,ho⟩⟩
 ·rw [bn_high (by unfold mkBin;rw [levE_mk,hl];omega)]
  unfold mkBin cX
  simp only [show ¬ ((9:Int)=1) by decide,show ¬ ((9:Int)=2) by decide,show ¬ ((9:Int)=3) by decide,show ¬ ((9:Int)=4) by decide,show ¬ ((9:Int)=5) by decide,show ¬ ((9:Int)=6) by decide,show ¬ ((9:Int)=7) by decide,show ¬ ((9:Int)=8) by decide,show ¬ ((9:Int)=10) by decide,if_false]
  rw [List.length_append,List.length_append,cAt_zero,cAt_one,hl]
  rfl
theorem lev6 {k p s n:Int} {nm:ByteArray} {t:TX} {a:List EX} (h:k≠9∧k≠10):¬ levE (.mk k p s n nm t a) < 6:=by
 rw [levE_mk,levK,if_neg h.2,if_neg h.1];decide
theorem mkSel_ok {p e:Int} {x:EX} {n:ByteArray} (hx:wfX x) (hn:okK (1,n.data.toList)):wfX (mkSel p x n e)∧bn 6 (mkSel p x n e)=bn 6 x + 2:=by
 constructor
 ·unfold mkSel wfX
  exact ⟨wf_one hx,by decide,by right;right;right;right;left;exact ⟨rfl,rfl,hn⟩⟩
 ·unfold mkSel
  rw [bn_high (lev6 (by decide)),cX]
  simp only [show ¬ ((5:Int)=1) by decide,show ¬ ((5:Int)=2) by decide,show ¬ ((5:Int)=3) by decide,show ¬ ((5:Int)=4) by decide,if_false,if_true]
  rw [List.length_append,List.length_append,cAt_zero]
  rfl
theorem mkCall_ok {p e:Int} {x:EX} {ys:List EX} (hx:wfX x) (hy:wfXs ys):wfX (mkCall p x ys e)∧bn 6 (mkCall p x ys e)=bn 6 x + 2 + (cJ (cXs ys)).length:=by
 constructor
 ·unfold mkCall wfX
  refine ⟨by unfold wfXs;exact ⟨hx,hy⟩,by decide,by right;right;right;right;right;left;exact ⟨rfl,by simp⟩⟩
 ·unfold mkCall
  rw [bn_high (lev6 (by decide)),cX]
  simp only [show ¬ ((6:Int)=1) by decide,show ¬ ((6:Int)=2) by decide,show ¬ ((6:Int)=3) by decide,show ¬ ((6:Int)=4) by decide,show ¬ ((6:Int)=5) by decide,if_false,if_true]
  rw [cXs_drop]
  simp only [List.length_append,cAt_zero,List.length_cons,List.length_nil,List.drop_succ_cons,List.drop_zero]
  omega
theorem mkIdx_ok {p e:Int} {x y:EX} (hx:wfX x) (hy:wfX y):wfX (mkIdx p x y e)∧bn 6 (mkIdx p x y e)=bn 6 x + 2 + bn 1 y:=by
 constructor
 ·unfold mkIdx wfX
  exact ⟨wf_two hx hy,by decide,by right;right;right;right;right;right;left;exact ⟨rfl,rfl⟩⟩
 ·unfold mkIdx
  rw [bn_high (lev6 (by decide)),cX]
  simp only [show ¬ ((7:Int)=1) by decide,show ¬ ((7:Int)=2) by decide,show ¬ ((7:Int)=3) by decide,show ¬ ((7:Int)=4) by decide,show ¬ ((7:Int)=5) by decide,show ¬ ((7:Int)=6) by decide,if_false,if_true]
  simp only [List.length_append,cAt_zero,cAt_one,List.length_cons,List.length_nil]
  omega
theorem new_ok {p e:Int} {t:TX} {ys:List EX} (ht:wfT t) (hy:wfXs ys):wfX (.mk 8 p e 0 ⟨#[]⟩ t ys)∧bn 6 (.mk 8 p e 0 ⟨#[]⟩ t ys)=(cT t).length + 3 + (cJ (cXs ys)).length:=by
 constructor
 ·unfold wfX
  exact ⟨hy,by decide,by right;right;right;right;right;right;right;left;exact ⟨rfl,ht⟩⟩
 ·rw [bn_high (lev6 (by decide)),cX]
  simp only [show ¬ ((8:Int)=1) by decide,show ¬ ((8:Int)=2) by decide,show ¬ ((8:Int)=3) by decide,show ¬ ((8:Int)=4) by decide,show ¬ ((8:Int)=5) by decide,show ¬ ((8:Int)=6) by decide,show ¬ ((8:Int)=7) by decide,if_false,if_true]
  simp only [List.length_append,List.length_cons,List.length_nil]
  omega
theorem leaf_len {k p s n:Int} {nm:ByteArray} (h:k=1∨k=2∨k=3∨k=4):bn 6 (.mk k p s n nm noTX [])=1:=by
 rw [bn_high (lev6 (by omega)),cX]
 rcases h with rfl | rfl | rfl | rfl
 ·rfl
 ·rfl
 ·simp only [show ¬ ((3:Int)=1) by decide,show ¬ ((3:Int)=2) by decide,if_false,if_true];split <;> rfl
 ·rfl
theorem wf_nil:wfXs []:=by unfold wfXs;trivial
theorem read_ok {l:List TZ} (H:OkL l):∀ f:Nat,
  (∀ k d i x j,1≤k→k≤5→ex l f k d i=.ok x j→wfX x∧i + bn k x≤j) ∧
  (∀ k d a x i y j,1≤k→k≤4→wfX x→binT l f k d a x i=.ok y j→wfX y∧(bn k y:Int) + i≤j + bn k x) ∧
  (∀ d i x j,una l f d i=.ok x j→wfX x∧i + bn 5 x≤j) ∧
  (∀ d i x j,prim l f d i=.ok x j→wfX x∧i + bn 6 x≤j) ∧
  (∀ d a x i y j,wfX x→post l f d a x i=.ok y j→wfX y∧(bn 6 y:Int) + i≤j + bn 6 x) ∧
  (∀ z d i ys q,lst l f z d i=.ok ys q→wfXs ys∧i + 2 + (cJ (cXs ys)).length≤q) ∧
  (∀ z d i ys q,items l f z d i=.ok ys q→wfXs ys∧ys≠[]∧i + 1 + (cJ (cXs ys)).length≤q):=by
 intro f
 induction f with
 |zero=>refine ⟨?_,?_,?_,?_,?_,?_,?_⟩ <;> intros <;> simp [ex,binT,una,prim,post,lst,items] at *
 |succ f ih =>
  obtain ⟨iE,iB,iU,iP,iO,iL,iI⟩:=ih
  refine ⟨?_,?_,?_,?_,?_,?_,?_⟩
  ·intro k d i x j h1 h5 h
   unfold ex at h
   split at h
   ·next hk=>subst hk;exact iU _ _ _ _ h
   ·split at h
    ·next y q hq =>
     obtain ⟨a1,a2⟩:=iE _ _ _ _ _ (by omega) (by omega) hq
     obtain ⟨b1,b2⟩:=iB _ _ _ _ _ _ _ h1 (by omega) a1 h
     have hm:=bn_mono (m:=(k:Int)) (m':=((k + 1:Nat):Int)) (by omega) y
     exact ⟨b1,by omega⟩
    ·cases h
    ·cases h
  ·intro k d a x i y j h1 h4 hx h
   unfold binT at h
   split at h
   ·next hk =>
    obtain ⟨o1,o2,o3⟩:=lvl_op h1 hk
    split at h
    ·next z q hq =>
     obtain ⟨a1,a2⟩:=iE _ _ _ _ _ (by omega) (by omega) hq
     obtain ⟨m1,m2⟩:=mkBin_ok (p:=(tkAt l a).pos) (e:=(tkAt l (q - 1)).stop) hx a1 o2 o3
     obtain ⟨b1,b2⟩:=iB _ _ _ _ _ _ _ h1 h4 m1 h
     rw [m2] at b2
     refine ⟨b1,?_⟩
     push_cast at a2 b2
     omega
    ·cases h
    ·cases h
   ·injection h with h h'
    subst h;subst h'
    exact ⟨hx,by omega⟩
  ·intro d i x j h
   unfold una at h
   split at h
   ·split at h
    ·cases h
    ·split at h
     ·next y q hq =>
      injection h with h h'
      subst h;subst h'
      obtain ⟨a1,a2⟩:=iU _ _ _ _ hq
      obtain ⟨m1,m2⟩:=mkNot_ok (p:=(tkAt l i).pos) (e:=(tkAt l (q - 1)).stop) a1
      exact ⟨m1,by rw [m2];omega⟩
     ·cases h
     ·cases h
   ·split at h
    ·next y q hq =>
     obtain ⟨a1,a2⟩:=iP _ _ _ _ hq
     obtain ⟨b1,b2⟩:=iO _ _ _ _ _ _ a1 h
     have hm:=bn_mono (m:=5) (m':=6) (by decide) x
     exact ⟨b1,by omega⟩
    ·cases h
    ·cases h
  ·intro d i x j h
   unfold prim at h
   split at h
   ·next hk =>
    split at h
    ·next n hn =>
     injection h with h h'
     subst h;subst h'
     have ho:=H i (by rw [hk];decide)
     rw [hk] at ho
     obtain ⟨n1,n2,n3⟩:=num_ok ho hn
     refine ⟨?_,by rw [leaf_len (by decide)];omega⟩
     unfold wfX
     exact ⟨wf_nil,⟨n2,n3⟩,.inl ⟨rfl,by rw [n1];exact ho⟩⟩
    ·cases h
   ·split at h
    ·next hk =>
     split at h
     ·next hq =>
      injection h with h h'
      subst h;subst h'
      have ho:=H i (by rw [hk];decide)
      rw [hk] at ho
      refine ⟨?_,by rw [leaf_len (by decide)];omega⟩
      unfold wfX
      refine ⟨wf_nil,by decide,.inr (.inl ⟨rfl,?_⟩)⟩
      show okK (3,[34]++unquote (tkAt l i).text.data.toList++[34])
      rw [quo_ok hq]
      exact ho
     ·cases h
    ·split at h
     ·injection h with h h'
      subst h;subst h'
      refine ⟨?_,by rw [leaf_len (by decide)];omega⟩
      unfold wfX
      exact ⟨wf_nil,by decide,.inr (.inr (.inl ⟨rfl,.inr rfl⟩))⟩
     ·split at h
      ·injection h with h h'
       subst h;subst h'
       refine ⟨?_,by rw [leaf_len (by decide)];omega⟩
       unfold wfX
       exact ⟨wf_nil,by decide,.inr (.inr (.inl ⟨rfl,.inl rfl⟩))⟩
      ·split at h
       ·next hk =>
        injection h with h h'
        subst h;subst h'
        refine ⟨?_,by rw [leaf_len (by decide)];omega⟩
        unfold wfX
        exact ⟨wf_nil,by decide,.inr (.inr (.inr (.inl ⟨rfl,tk_name H hk⟩)))⟩
       ·split at h
        ·split at h
         ·cases h
         ·split at h
          ·next y q hq =>
           obtain ⟨a1,a2⟩:=iE _ _ _ _ _ (by decide) (by decide) hq
           split at h
           ·injection h with h h'
            subst h;subst h'
            have hm:=bn_two 1 6 y
            exact ⟨a1,by push_cast at a2;omega⟩
           ·cases h
          ·cases h
          ·cases h
        ·split at h
         ·split at h
          ·next t q hq =>
           obtain ⟨t1,t2⟩:=prs_ok H _ _ _ _ hq
           split at h
           ·split at h
            ·next ys r hr =>
             injection h with h h'
             subst h;subst h'
             obtain ⟨a1,a2⟩:=iL _ _ _ _ _ hr
             obtain ⟨m1,m2⟩:=new_ok (p:=(tkAt l i).pos) (e:=(tkAt l (r - 1)).stop) t1 a1
             exact ⟨m1,by rw [m2];push_cast;omega⟩
            ·cases h
            ·cases h
           ·cases h
          ·cases h
         ·cases h
  ·intro d a x i y j hx h
   unfold post at h
   split at h
   ·split at h
    ·next hk =>
     obtain ⟨m1,m2⟩:=mkSel_ok (p:=(tkAt l a).pos) (e:=(tkAt l (i + 1)).stop) hx (tk_name H hk)
     obtain ⟨b1,b2⟩:=iO _ _ _ _ _ _ m1 h
     rw [m2] at b2
     exact ⟨b1,by push_cast at b2;omega⟩
    ·cases h
   ·split at h
    ·split at h
     ·next ys q hq =>
      obtain ⟨a1,a2⟩:=iL _ _ _ _ _ hq
      obtain ⟨m1,m2⟩:=mkCall_ok (p:=(tkAt l a).pos) (e:=(tkAt l (q - 1)).stop) hx a1
      obtain ⟨b1,b2⟩:=iO _ _ _ _ _ _ m1 h
      rw [m2] at b2
      exact ⟨b1,by push_cast at b2;omega⟩
     ·cases h
     ·cases h
    ·split at h
     ·split at h
      ·cases h
      ·split at h
       ·next z q hq =>
        obtain ⟨a1,a2⟩:=iE _ _ _ _ _ (by decide) (by decide) hq
        split at h
        ·obtain ⟨m1,m2⟩:=mkIdx_ok (p:=(tkAt l a).pos) (e:=(tkAt l q).stop) hx a1
         obtain ⟨b1,b2⟩:=iO _ _ _ _ _ _ m1 h
         rw [m2] at b2
         exact ⟨b1,by push_cast at a2 b2;omega⟩
        ·cases h
       ·cases h
       ·cases h
     ·injection h with h h'
      subst h;subst h'
      exact ⟨hx,by omega⟩
  ·intro z d i ys q h
   unfold lst at h
   split at h
   ·cases h
   ·split at h
    ·injection h with h h'
     subst h;subst h'
     exact ⟨wf_nil,by unfold cXs;show i + 2 + ((0:Nat):Int)≤_;omega⟩
    ·obtain ⟨a1,_,a2⟩:=iI _ _ _ _ _ h
     exact ⟨a1,by omega⟩
  ·intro z d i ys q h
   unfold items at h
   split at h
   ·next y j hy =>
    obtain ⟨a1,a2⟩:=iE _ _ _ _ _ (by decide) (by decide) hy
    split at h
    ·split at h
     ·next r p hr =>
      injection h with h h'
      subst h;subst h'
      obtain ⟨b1,b2,b3⟩:=iI _ _ _ _ _ hr
      refine ⟨by unfold wfXs;exact ⟨a1,b1⟩,by simp,?_⟩
      rw [cJ_cons,cR_len,if_neg b2]
      push_cast at a2 ⊢
      omega
     ·cases h
     ·cases h
    ·split at h
     ·injection h with h h'
      subst h;subst h'
      refine ⟨wf_one a1,by simp,?_⟩
      rw [cJ_cons,cR_len,if_pos rfl]
      push_cast at a2 ⊢
      omega
     ·cases h
   ·cases h
   ·cases h
end Go.Proofs.YtfcgoainglpdlaaGreatDoor
namespace Go.Proofs.YtfcgoainglpdlaaGreatDoor
open Go.RowKit
open Go.Lib hiding intOf
def ce (x:EX):List Key:=brk 1 (levE x,cX x)
theorem la_word {w:List UInt8} (h:fineK (5,w)):LA (w++[32]) [(5,w)]:=(LB.fine (q:=(5,w)) h).blank
theorem la_semi {s:List UInt8} {ts:List Key} (h:LB s ts):LA (s++[59]) (ts++[sym 59]):=h.app (Sh.mk (by decide)) (LA.sym (c:=59) (by decide))
theorem la_eq:LA [32,61,32] [(4,[61])]:=(LA.lay (c:=32) (by decide)).app (LB.fine (q:=(4,[61])) (fineK_of (by decide +kernel))).blank
theorem la_open:LA [32,123,10] [sym 123]:=((LA.lay (c:=32) (by decide)).app (LA.sym (c:=123) (by decide))).app (LA.lay (c:=10) (by decide))
mutual
def cS:SX→List Key
 |.mk k _ nm h x u v =>
  if k=1 then [(5,wLet),(1,nm.data.toList),(4,[61])]++(ce x++[sym 59])
  else if k=2 then [(1,nm.data.toList),(4,[61])]++(ce x++[sym 59])
  else if k=3 then (if h then [(5,wReturn)]++(ce x++[sym 59]) else [(5,wReturn),sym 59])
  else if k=4 then [(5,wIf)]++ce x++([sym 123]++cSs u++[sym 125])++(if h then [(5,wElse)]++([sym 123]++cSs v++[sym 125]) else [])
  else if k=5 then [(5,wFor)]++ce x++([sym 123]++cSs u++[sym 125])
  else ce x++[sym 59]
def cSs:List SX→List Key
 |[]=>[]
 |y::r=>cS y++cSs r
end
mutual
def wfS:SX→Prop
 |.mk k _ nm h x u v=>(wfSs u∧wfSs v∧(k=4∨k=5∨u=[])∧((k=4∧h=true)∨v=[]))∧(k=3∧h=false∧x=noEX∨wfX x∧(((k=1∨k=2)∧okK (1,nm.data.toList))∨(k=3∧h=true)∨k=4∨k=5∨k=6))
def wfSs:List SX→Prop
 |[]=>True
 |y::r=>wfS y∧wfSs r
end
theorem la_blkT {t:Nat} {s:List UInt8} {ts:List Key} (h:LA s ts):LA ([32,123,10]++s++tabsL t++[125]) ([sym 123]++ts++[sym 125]):=by
 have h1:=((la_open.app h).app (LA.lays 9 (by decide) t)).app (LA.sym (c:=125) (by decide))
 rwa [List.append_nil] at h1
theorem sh_blkT (s:List UInt8) (t:Nat):Sh ([32,123,10]++s++tabsL t++[125]):=by
 rw [List.append_assoc,List.append_assoc]
 exact Sh.mk (by decide)
mutual
theorem la_S (t:Nat):∀ {x:SX},wfS x→LA (stmL t (toGS x)) (cS x)
 |.mk k p nm h x u v,hw=>by
  unfold wfS at hw
  obtain ⟨⟨hu,hv,_,_⟩,hw⟩:=hw
  have iu:LA (blkL (min (t + 1) 100) (toGSs u)) (cSs u):=la_Ss _ hu
  have iv:LA (blkL (min (t + 1) 100) (toGSs v)) (cSs v):=la_Ss _ hv
  unfold toGS
  rw [cS]
  rcases hw with ⟨rfl,rfl,_⟩ | ⟨hx,hw⟩
  ·rw [if_neg (by decide),if_neg (by decide),if_pos rfl,if_neg (by decide),stmL_3a]
   exact (LB.fine (q:=(5,wReturn)) (fineK_of (by decide +kernel))).app (s':=[59]) (Sh.mk (by decide)) (LA.sym (c:=59) (by decide))
  ·have he:LB (exL (toGX x)) (ce x):=lb_exL hx
   rcases hw with ⟨rfl | rfl,hn⟩ | ⟨rfl,rfl⟩ | rfl | rfl | rfl
   ·rw [if_pos rfl,stmL_1]
    have h1:=((la_word (w:=wLet) (fineK_of (by decide +kernel))).app ((LB.fine (q:=(1,nm.data.toList)) hn.1).app (Sh.mk (by decide)) la_eq)).app (la_semi he)
    exact h1
   ·rw [if_neg (by decide),if_pos rfl,stmL_2]
    exact ((LB.fine (q:=(1,nm.data.toList)) hn.1).app (Sh.mk (by decide)) la_eq).app (la_semi he)
   ·rw [if_neg (by decide),if_neg (by decide),if_pos rfl,if_pos rfl,stmL_3b]
    exact (la_word (w:=wReturn) (fineK_of (by decide +kernel))).app (la_semi he)
   ·rw [if_neg (by decide),if_neg (by decide),if_neg (by decide),if_pos rfl]
    have h1:=((la_word (w:=wIf) (fineK_of (by decide +kernel))).appB he).app (sh_blkT _ t) (la_blkT (t:=t) iu)
    cases h with
    |false=>rw [stmL_4a,if_neg (by decide),List.append_nil];exact h1
    |true =>
     rw [stmL_4b,if_pos rfl]
     have h2:LA [32,101,108,115,101,32] [(5,wElse)]:=(LA.lay (c:=32) (by decide)).app (la_word (w:=wElse) (fineK_of (by decide +kernel)))
     have h3:LA ([32,101,108,115,101]++([32,123,10]++blkL (min (t + 1) 100) (toGSs v)++tabsL t++[125])) ([(5,wElse)]++([sym 123]++cSs v++[sym 125])) :=
      (((LA.lay (c:=32) (by decide)).appB (LB.fine (q:=(5,wElse)) (fineK_of (by decide +kernel)))).app (sh_blkT _ t) (la_blkT (t:=t) iv))
     exact h1.app h3
   ·rw [if_neg (by decide),if_neg (by decide),if_neg (by decide),if_neg (by decide),if_pos rfl,stmL_5]
    exact ((la_word (w:=wFor) (fineK_of (by decide +kernel))).appB he).app (sh_blkT _ t) (la_blkT (t:=t) iu)
   ·rw [if_neg (by decide),if_neg (by decide),if_neg (by decide),if_neg (by decide),if_neg (by decide),stmL_6]
    exact la_semi he
theorem la_Ss (t:Nat):∀ {l:List SX},wfSs l→LA (blkL t (toGSs l)) (cSs l)
 |[],_=>by unfold toGSs;rw [blkL,cSs];exact LA.nil
 |y::r,h=>by
  unfold wfSs at h
  unfold toGSs
  rw [blkL,cSs]
  have h1:=(((LA.lays 9 (by decide) t).app (la_S t h.1)).app (LA.lay (c:=10) (by decide))).app (la_Ss t h.2)
  rwa [List.append_nil] at h1
end
def kR:List (List Key)→List Key
 |[]=>[]
 |q::r=>[sym 44]++q++kR r
def kJ:List (List Key)→List Key
 |[]=>[]
 |q::r=>q++kR r
theorem lb_restL {α:Type} {f:α→List UInt8} {g:α→List Key}:∀ {l:List α},(∀ y ∈ l,LB (f y) (g y))→LB (restL (l.map f)) (kR (l.map g))∧(l≠[]→Sh (restL (l.map f)))
 |[],_=>⟨LA.nil.b,fun h=>absurd rfl h⟩
 |y::r,h=>by
  obtain ⟨h3,h4⟩:=lb_restL (l:=r) fun z hz=>h z (by simp [hz])
  have h2:LB ([44,32]++f y) ([sym 44]++g y):=((LA.sym (c:=44) (by decide)).app (LA.lay (c:=32) (by decide))).appB (h y (by simp))
  refine ⟨?_,fun _=>?_⟩
  ·by_cases hr:r=[]
   ·subst hr
    show LB ([44,32]++f y++[]) ([sym 44]++g y++[])
    rw [List.append_nil,List.append_nil]
    exact h2
   ·exact h2.appB (h4 hr) h3
  ·show Sh ([44,32]++f y++restL (r.map f))
   rw [List.append_assoc]
   exact Sh.mk (by decide)
theorem lb_joinL {α:Type} {f:α→List UInt8} {g:α→List Key} {l:List α} (h:∀ y ∈ l,LB (f y) (g y)):LB (joinL' (l.map f)) (kJ (l.map g)):=by
 cases l with
 |nil=>exact LA.nil.b
 |cons y r =>
  obtain ⟨h3,h4⟩:=lb_restL (f:=f) (g:=g) (l:=r) fun z hz=>h z (by simp [hz])
  show LB (f y++restL (r.map f)) (g y++kR (r.map g))
  by_cases hr:r=[]
  ·subst hr
   show LB (f y++[]) (g y++[])
   rw [List.append_nil,List.append_nil]
   exact h y (by simp)
  ·exact (h y (by simp)).appB (h4 hr) h3
theorem la_flat {α:Type} {f:α→List UInt8} {g:α→List Key}:∀ {l:List α},(∀ y ∈ l,LA (f y) (g y))→LA (l.flatMap f) (l.flatMap g)
 |[],_=>LA.nil
 |y::r,h=>by
  rw [List.flatMap_cons,List.flatMap_cons]
  exact (h y (by simp)).app (la_flat fun z hz=>h z (by simp [hz]))
def cP (x:PX):List Key:=[(1,x.name.data.toList)]++cT x.typ
def wfP (x:PX):Prop:=okK (1,x.name.data.toList)∧wfT x.typ
def cM (x:MX):List Key:=[(1,x.name.data.toList),sym 40]++kJ (x.params.map cT)++[sym 41]++(if x.has then cT x.result else [])++[sym 59]
def wfM (x:MX):Prop:=okK (1,x.name.data.toList)∧(∀ y ∈ x.params,wfT y)∧(x.has=true→wfT x.result)
def cFld (x:PX):List Key:=cP x++[sym 59]
def cD (x:DX):List Key :=
 if x.kind=1 then [(5,wType),(1,x.name.data.toList),(5,wStruct),sym 123]++x.fields.flatMap cFld++[sym 125]
 else if x.kind=2 then [(5,wType),(1,x.name.data.toList),(5,wInterface),sym 123]++x.methods.flatMap cM++[sym 125]
 else [(5,wFunc)]++(if x.method then [sym 40]++cP x.recv++[sym 41] else [])++[(1,x.name.data.toList)]++(if x.bounds=[] then [] else [sym 91]++kJ (x.bounds.map cP)++[sym 93]) ++
  ([sym 40]++kJ (x.fields.map cP)++[sym 41])++(if x.has then cT x.result else [])++([sym 123]++cSs x.body++[sym 125])
def wfD (x:DX):Prop:=okK (1,x.name.data.toList)∧(∀ y ∈ x.fields,wfP y)∧(∀ y ∈ x.methods,wfM y) ∧
  ((x.kind=1∧x.bounds=[]∧x.methods=[]∧x.body=[])∨(x.kind=2∧x.bounds=[]∧x.fields=[]∧x.body=[]) ∨
   (x.kind=3∧x.methods=[]∧(x.method=true→wfP x.recv)∧(∀ y ∈ x.bounds,wfP y)∧(x.has=true→wfT x.result)∧wfSs x.body))
def cI (n:ByteArray × Int):List Key:=[(5,wImport),(1,n.1.data.toList),sym 59]
def cF (x:FX):List Key:=[(5,wPackage),(1,x.name.data.toList),sym 59]++x.imports.flatMap cI++x.decls.flatMap cD
def wfF (x:FX):Prop:=okK (1,x.name.data.toList)∧(∀ y ∈ x.imports,okK (1,y.1.data.toList))∧(∀ y ∈ x.decls,wfD y)
theorem lb_par {x:PX} (h:wfP x):LB (parL (toGP x)) (cP x):=(LB.fine (q:=(1,x.name.data.toList)) h.1.1).blank.appB (lb_T x.typ h.2)
theorem la_fld {x:PX} (h:wfP x):LA (fldL (toGP x)) (cFld x):=by
 have h1:=((LA.lay (c:=32) (by decide)).appB (lb_par h)).app (s':=[59]) (Sh.mk (by decide)) (LA.sym (c:=59) (by decide))
 exact h1
theorem lb_res {h:Bool} {t:TX} (hw:h=true→wfT t) {s:List UInt8} {ts:List Key} (hs:LA s ts) {z:List UInt8} {zs:List Key} (hz:LA z zs) (hsh:Sh z):LA (s++resL h (toGT t)++z) (ts++(if h then cT t else [])++zs):=by
 cases h with
 |false =>
  show LA (s++[]++z) (ts++[]++zs)
  rw [List.append_nil,List.append_nil]
  exact hs.app hz
 |true=>exact (hs.appB ((LA.lay (c:=32) (by decide)).appB (lb_T t (hw rfl)))).app hsh hz
theorem la_meth {x:MX} (h:wfM x):LA (methL (toGM x)) (cM x):=by
 obtain ⟨hn,hp,hr⟩:=h
 have h1:LA ([32]++(x.name.data.toList++[40])) [(1,x.name.data.toList),sym 40]:=(LA.lay (c:=32) (by decide)).app ((LB.fine (q:=(1,x.name.data.toList)) hn.1).app (Sh.mk (by decide)) (LA.sym (c:=40) (by decide)))
 have h2:LB (joinL' ((x.params.map toGT).map typL)) (kJ (x.params.map cT)):=by
  rw [List.map_map]
  exact lb_joinL fun y hy=>lb_T y (hp y hy)
 have h3:=(h1.appB h2).app (s':=[41]) (Sh.mk (by decide)) (LA.sym (c:=41) (by decide))
 exact lb_res hr h3 (LA.sym (c:=59) (by decide)) (Sh.mk (by decide))
theorem lb_pars {l:List PX} (h:∀ y ∈ l,wfP y):LB (joinL' ((l.map toGP).map parL)) (kJ (l.map cP)):=by
 rw [List.map_map]
 exact lb_joinL fun y hy=>lb_par (h y hy)
theorem la_D {x:DX} (h:wfD x):LA (decL (toGD x)) (cD x):=by
 obtain ⟨hn,hf,hm,h⟩:=h
 have hty:LA (([116,121,112,101]++[32])++(x.name.data.toList++[32])) [(5,wType),(1,x.name.data.toList)]:=(la_word (w:=wType) (fineK_of (by decide +kernel))).app (LB.fine (q:=(1,x.name.data.toList)) hn.1).blank
 unfold cD decL
 rcases h with ⟨hk,_⟩ | ⟨hk,_⟩ | ⟨hk,_,hrv,hb,hr,hbd⟩
 ·rw [if_pos (show (toGD x).kind=1 from hk),if_pos hk]
  have h1:=((hty.app (la_word (w:=wStruct) (fineK_of (by decide +kernel)))).app (LA.sym (c:=123) (by decide))).app (la_flat (f:=fun y=>fldL (toGP y)) (g:=cFld) (l:=x.fields) fun y hy=>la_fld (hf y hy))
  have h2:=h1.app ((LA.lay (c:=32) (by decide)).app (LA.sym (c:=125) (by decide)))
  have e:(toGD x).fields.flatMap fldL=x.fields.flatMap fun y=>fldL (toGP y):=by show (x.fields.map toGP).flatMap fldL=_;rw [List.flatMap_map]
  rw [e]
  show LA (([116,121,112,101,32]++(x.name.data.toList++[32,115,116,114,117,99,116,32,123]))++(x.fields.flatMap fun y=>fldL (toGP y))++[32,125]) _
  simp only [List.append_assoc,List.cons_append,List.nil_append] at h2 ⊢
  exact h2
 ·rw [if_neg (show ¬ (toGD x).kind=1 by show ¬ x.kind=1;omega),if_pos (show (toGD x).kind=2 from hk),if_neg (by omega),if_pos hk]
  have h1:=((hty.app (la_word (w:=wInterface) (fineK_of (by decide +kernel)))).app (LA.sym (c:=123) (by decide))).app (la_flat (f:=fun y=>methL (toGM y)) (g:=cM) (l:=x.methods) fun y hy=>la_meth (hm y hy))
  have h2:=h1.app ((LA.lay (c:=32) (by decide)).app (LA.sym (c:=125) (by decide)))
  have e:(toGD x).methods.flatMap methL=x.methods.flatMap fun y=>methL (toGM y):=by show (x.methods.map toGM).flatMap methL=_;rw [List.flatMap_map]
  rw [e]
  show LA (([116,121,112,101,32]++(x.name.data.toList++[32,105,110,116,101,114,102,97,99,101,32,123]))++(x.methods.flatMap fun y=>methL (toGM y))++[32,125]) _
  simp only [List.append_assoc,List.cons_append,List.nil_append] at h2 ⊢
  exact h2
 ·rw [if_neg (show ¬ (toGD x).kind=1 by show ¬ x.kind=1;omega),if_neg (show ¬ (toGD x).kind=2 by show ¬ x.kind=2;omega),if_pos (show (toGD x).kind=3 from hk),if_neg (by omega),if_neg (by omega)]
  show LA ([102,117,110,99,32]++recvL x.method (toGP x.recv)++x.name.data.toList++bndL (x.bounds.map toGP)++([40]++joinL' ((x.fields.map toGP).map parL)++[41])++resL x.has (toGT x.result)++([32,123,10]++blkL 1 (toGSs x.body)++[]++[125])) _
  have h0:LA [102,117,110,99,32] [(5,wFunc)]:=la_word (w:=wFunc) (fineK_of (by decide +kernel))
  have h1:LA (recvL x.method (toGP x.recv)) (if x.method then [sym 40]++cP x.recv++[sym 41] else []):=by
   cases hmd:x.method with
   |false=>exact LA.nil
   |true=>exact ((LA.sym (c:=40) (by decide)).appB (lb_par (hrv hmd))).app (s':=[41,32]) (Sh.mk (by decide)) (LA.app (ts':=[]) (LA.sym (c:=41) (by decide)) (LA.lay (c:=32) (by decide)))
  have h2:=(h0.app h1).appB (LB.fine (q:=(1,x.name.data.toList)) hn.1)
  have h4:LA ([40]++joinL' ((x.fields.map toGP).map parL)++[41]) ([sym 40]++kJ (x.fields.map cP)++[sym 41]):=((LA.sym (c:=40) (by decide)).appB (lb_pars hf)).app (s':=[41]) (Sh.mk (by decide)) (LA.sym (c:=41) (by decide))
  have h3:LA ([102,117,110,99,32]++recvL x.method (toGP x.recv)++x.name.data.toList++bndL (x.bounds.map toGP)++([40]++joinL' ((x.fields.map toGP).map parL)++[41])) ([(5,wFunc)]++(if x.method then [sym 40]++cP x.recv++[sym 41] else [])++[(1,x.name.data.toList)]++(if x.bounds=[] then [] else [sym 91]++kJ (x.bounds.map cP)++[sym 93])++([sym 40]++kJ (x.fields.map cP)++[sym 41])):=by
   by_cases hbn:x.bounds=[]
   ·rw [hbn,if_pos rfl]
    show LA (_++[]++_) (_++[]++_)
    rw [List.append_nil,List.append_nil]
    refine h2.app ?_ h4
    rw [List.append_assoc]
    exact Sh.mk (by decide)
   ·rw [if_neg hbn]
    have hl:¬ (x.bounds.map toGP).length=0:=by rw [List.length_map];exact fun e=>hbn (List.eq_nil_of_length_eq_zero e)
    unfold bndL
    rw [if_neg hl]
    have h5:LA ([91]++joinL' ((x.bounds.map toGP).map parL)++[93]) ([sym 91]++kJ (x.bounds.map cP)++[sym 93]):=((LA.sym (c:=91) (by decide)).appB (lb_pars hb)).app (s':=[93]) (Sh.mk (by decide)) (LA.sym (c:=93) (by decide))
    refine (h2.app ?_ h5).app h4
    rw [List.append_assoc]
    exact Sh.mk (by decide)
  have h6:LA ([32,123,10]++blkL 1 (toGSs x.body)++[]++[125]) ([sym 123]++cSs x.body++[sym 125]):=by
   have:=la_blkT (t:=0) (la_Ss 1 hbd)
   exact this
  refine lb_res hr h3 h6 ?_
  rw [List.append_nil,List.append_assoc]
  exact Sh.mk (by decide)
theorem la_I {n:ByteArray × Int} (h:okK (1,n.1.data.toList)):LA (impL n) (cI n):=by
 have h1:LA [59,10] [sym 59]:=LA.app (ts':=[]) (LA.sym (c:=59) (by decide)) (LA.lay (c:=10) (by decide))
 exact (la_word (w:=wImport) (fineK_of (by decide +kernel))).app ((LB.fine (q:=(1,n.1.data.toList)) h.1).app (Sh.mk (by decide)) h1)
theorem la_F {x:FX} (h:wfF x):LA (filL (toGF x)) (cF x):=by
 obtain ⟨hn,hi,hd⟩:=h
 have h1:LA [59,10] [sym 59]:=LA.app (ts':=[]) (LA.sym (c:=59) (by decide)) (LA.lay (c:=10) (by decide))
 have h2:LA ([112,97,99,107,97,103,101,32]++(x.name.data.toList++[59,10])) [(5,wPackage),(1,x.name.data.toList),sym 59] :=
  (la_word (w:=wPackage) (fineK_of (by decide +kernel))).app ((LB.fine (q:=(1,x.name.data.toList)) hn.1).app (Sh.mk (by decide)) h1)
 have h3:=h2.app (la_flat (f:=impL) (g:=cI) (l:=x.imports) fun y hy=>la_I (hi y hy))
 have h4:LA (x.decls.flatMap fun y=>dclL (toGD y)) (x.decls.flatMap cD):=la_flat fun y hy=>by
  have:=(la_D (hd y hy)).app (LA.lay (c:=10) (by decide))
  rwa [List.append_nil] at this
 have e:(toGF x).decls.flatMap dclL=x.decls.flatMap fun y=>dclL (toGD y):=by show (x.decls.map toGD).flatMap dclL=_;rw [List.flatMap_map]
 unfold filL
 rw [e]
 exact h3.app h4
end Go.Proofs.YtfcgoainglpdlaaGreatDoor
namespace Go.Proofs.YtfcgoainglpdlaaGreatDoor
open Go.RowKit
open Go.Lib hiding intOf
def AllK (ts:List Key):Prop:=∀ q ∈ ts,okK q
theorem AllK.nil:AllK []:=fun q h=>by cases h
theorem AllK.one {q:Key} (h:okK q):AllK [q]:=fun p hp=>by rw [List.mem_singleton] at hp;rw [hp];exact h
theorem AllK.app {a b:List Key} (ha:AllK a) (hb:AllK b):AllK (a++b):=fun q h=>(List.mem_append.1 h).elim (ha q) (hb q)
theorem AllK.cons {q:Key} {b:List Key} (ha:okK q) (hb:AllK b):AllK (q::b):=(AllK.one ha).app hb
theorem okK_sym {c:UInt8} (h:hard c=true):okK (sym c):=by
 have key:∀ x ∈ syms,lay x=false∧x≠47∧x≠34:=by decide
 have hc:c ∈ syms:=by unfold hard at h;simp only [Bool.and_eq_true,decide_eq_true_eq] at h;exact h.1
 obtain ⟨h1,h2,h3⟩:=key c hc
 exact ⟨⟨c,[],rfl,h1,h2,kln_hard h [],fun e=>absurd e h3⟩,rfl⟩
theorem okK_word {w:List UInt8} (h:fineK (5,w)):okK (5,w):=⟨h,rfl⟩
theorem AllK.brk {m k:Int} {ts:List Key} (h:AllK ts):AllK (Go.Proofs.YtfcgoainglpdlaaGreatDoor.brk m (k,ts)):=by
 unfold Go.Proofs.YtfcgoainglpdlaaGreatDoor.brk
 split
 ·exact ((AllK.one (okK_sym (by decide))).app h).app (AllK.one (okK_sym (by decide)))
 ·exact h
theorem ok_at {args:List EX} (h:∀ y ∈ args,AllK (cX y)) (i:Nat) (m:Int):AllK (cAt (cXs args) i m):=by
 unfold cAt
 rw [cXs_map,List.getElem?_map]
 cases hi:args[i]? with
 |none=>exact AllK.nil
 |some y=>exact (h y (List.mem_of_getElem? hi)).brk
theorem ok_R:∀ {args:List EX},(∀ y ∈ args,AllK (cX y))→AllK (cR (cXs args))
 |[],_=>by unfold cXs;exact AllK.nil
 |y::r,h=>by
  unfold cXs
  rw [cR]
  exact ((AllK.one (okK_sym (by decide))).app (h y (by simp)).brk).app (ok_R fun z hz=>h z (by simp [hz]))
theorem ok_J {args:List EX} (h:∀ y ∈ args,AllK (cX y)):AllK (cJ (cXs args)):=by
 cases args with
 |nil=>unfold cXs;exact AllK.nil
 |cons y r =>
  unfold cXs
  rw [cJ]
  exact (h y (by simp)).brk.app (ok_R fun z hz=>h z (by simp [hz]))
theorem ok_X:∀ (n:Nat) (x:EX),SizeOf.sizeOf x < n→wfX x→AllK (cX x):=by
 intro n
 induction n with
 |zero=>intro x h;omega
 |succ n ih =>
 rintro ⟨k,p,s,v,nm,t,args⟩ hs h
 unfold wfX at h
 obtain ⟨ha,hv,h⟩:=h
 have hA:∀ y ∈ args,AllK (cX y):=fun y hy=>ih y (by have:=List.sizeOf_lt_of_mem hy;simp only [EX.mk.sizeOf_spec] at hs;omega) (wfXs_mem ha hy)
 have hJ:=ok_J hA
 have hJ1:AllK (cJ ((cXs args).drop 1)):=by rw [cXs_drop];exact ok_J fun y hy=>hA y (List.mem_of_mem_drop hy)
 have s40:=AllK.one (okK_sym (c:=40) (by decide))
 have s41:=AllK.one (okK_sym (c:=41) (by decide))
 have s91:=AllK.one (okK_sym (c:=91) (by decide))
 have s93:=AllK.one (okK_sym (c:=93) (by decide))
 have s123:=AllK.one (okK_sym (c:=123) (by decide))
 have s125:=AllK.one (okK_sym (c:=125) (by decide))
 unfold cX
 rcases h with ⟨rfl,h⟩ | ⟨rfl,h⟩ | ⟨rfl,h⟩ | ⟨rfl,h⟩ | ⟨rfl,hl,h⟩ | ⟨rfl,hl⟩ | ⟨rfl,hl⟩ | ⟨rfl,h⟩ | ⟨rfl,hl,h⟩ | ⟨rfl,hl⟩
 ·rw [if_pos rfl];exact AllK.one h
 ·rw [if_neg (by decide),if_pos rfl];exact AllK.one h
 ·rw [if_neg (by decide),if_neg (by decide),if_pos rfl]
  split
  ·exact AllK.one (okK_word (fineK_of (by decide +kernel)))
  ·exact AllK.one (okK_word (fineK_of (by decide +kernel)))
 ·rw [if_neg (by decide),if_neg (by decide),if_neg (by decide),if_pos rfl];exact AllK.one h
 ·rw [if_neg (by decide),if_neg (by decide),if_neg (by decide),if_neg (by decide),if_pos rfl]
  exact ((ok_at hA 0 6).app (AllK.one (okK_sym (by decide)))).app (AllK.one h)
 ·rw [if_neg (by decide),if_neg (by decide),if_neg (by decide),if_neg (by decide),if_neg (by decide),if_pos rfl]
  exact (((ok_at hA 0 6).app s40).app hJ1).app s41
 ·rw [if_neg (by decide),if_neg (by decide),if_neg (by decide),if_neg (by decide),if_neg (by decide),if_neg (by decide),if_pos rfl]
  exact (((ok_at hA 0 6).app s91).app (ok_at hA 1 1)).app s93
 ·rw [if_neg (by decide),if_neg (by decide),if_neg (by decide),if_neg (by decide),if_neg (by decide),if_neg (by decide),if_neg (by decide),if_pos rfl]
  exact ((((AllK.one (okK_word (fineK_of (by decide +kernel)))).app (okT t h)).app s123).app hJ).app s125
 ·rw [if_neg (by decide),if_neg (by decide),if_neg (by decide),if_neg (by decide),if_neg (by decide),if_neg (by decide),if_neg (by decide),if_neg (by decide),if_neg (by decide)]
  exact ((ok_at hA 0 _).app (AllK.one (q:=(4,nm.data.toList)) (fine_op _ h))).app (ok_at hA 1 _)
 ·rw [if_neg (by decide),if_neg (by decide),if_neg (by decide),if_neg (by decide),if_neg (by decide),if_neg (by decide),if_neg (by decide),if_neg (by decide),if_pos rfl]
  exact (AllK.one (okK_sym (by decide))).app (ok_at hA 0 5)
theorem ok_ce {x:EX} (h:wfX x):AllK (ce x):=(ok_X _ x (Nat.lt_succ_self _) h).brk
theorem okK_eq:okK (4,[61]):=⟨fineK_of (by decide +kernel),rfl⟩
mutual
theorem ok_S:∀ {x:SX},wfS x→AllK (cS x)
 |.mk k p nm h x u v,hw=>by
  unfold wfS at hw
  obtain ⟨⟨hu,hv,_,_⟩,hw⟩:=hw
  have iu:AllK (cSs u):=ok_Ss hu
  have iv:AllK (cSs v):=ok_Ss hv
  have s59:=AllK.one (okK_sym (c:=59) (by decide))
  have bu:=((AllK.one (okK_sym (c:=123) (by decide))).app iu).app (AllK.one (okK_sym (c:=125) (by decide)))
  have bv:=((AllK.one (okK_sym (c:=123) (by decide))).app iv).app (AllK.one (okK_sym (c:=125) (by decide)))
  rw [cS]
  rcases hw with ⟨rfl,rfl,_⟩ | ⟨hx,hw⟩
  ·rw [if_neg (by decide),if_neg (by decide),if_pos rfl,if_neg (by decide)]
   exact AllK.cons (okK_word (fineK_of (by decide +kernel))) s59
  ·have he:AllK (ce x):=ok_ce hx
   rcases hw with ⟨rfl | rfl,hn⟩ | ⟨rfl,rfl⟩ | rfl | rfl | rfl
   ·rw [if_pos rfl]
    exact (AllK.cons (okK_word (fineK_of (by decide +kernel))) (AllK.cons hn (AllK.one okK_eq))).app (he.app s59)
   ·rw [if_neg (by decide),if_pos rfl]
    exact (AllK.cons hn (AllK.one okK_eq)).app (he.app s59)
   ·rw [if_neg (by decide),if_neg (by decide),if_pos rfl,if_pos rfl]
    exact (AllK.one (okK_word (fineK_of (by decide +kernel)))).app (he.app s59)
   ·rw [if_neg (by decide),if_neg (by decide),if_neg (by decide),if_pos rfl]
    refine (((AllK.one (okK_word (fineK_of (by decide +kernel)))).app he).app bu).app ?_
    cases h with
    |false=>exact AllK.nil
    |true=>exact (AllK.one (okK_word (fineK_of (by decide +kernel)))).app bv
   ·rw [if_neg (by decide),if_neg (by decide),if_neg (by decide),if_neg (by decide),if_pos rfl]
    exact ((AllK.one (okK_word (fineK_of (by decide +kernel)))).app he).app bu
   ·rw [if_neg (by decide),if_neg (by decide),if_neg (by decide),if_neg (by decide),if_neg (by decide)]
    exact he.app s59
theorem ok_Ss:∀ {l:List SX},wfSs l→AllK (cSs l)
 |[],_=>by rw [cSs];exact AllK.nil
 |y::r,h=>by
  unfold wfSs at h
  rw [cSs]
  exact (ok_S h.1).app (ok_Ss h.2)
end
theorem ok_kR {α:Type} {g:α→List Key}:∀ {l:List α},(∀ y ∈ l,AllK (g y))→AllK (kR (l.map g))
 |[],_=>AllK.nil
 |y::r,h=>((AllK.one (okK_sym (by decide))).app (h y (by simp))).app (ok_kR fun z hz=>h z (by simp [hz]))
theorem ok_kJ {α:Type} {g:α→List Key} {l:List α} (h:∀ y ∈ l,AllK (g y)):AllK (kJ (l.map g)):=by
 cases l with
 |nil=>exact AllK.nil
 |cons y r=>exact (h y (by simp)).app (ok_kR fun z hz=>h z (by simp [hz]))
theorem ok_flat {α:Type} {g:α→List Key} {l:List α} (h:∀ y ∈ l,AllK (g y)):AllK (l.flatMap g):=fun q hq=>by
 obtain ⟨y,hy,hq⟩:=List.mem_flatMap.1 hq
 exact h y hy q hq
theorem ok_P {x:PX} (h:wfP x):AllK (cP x):=(AllK.one h.1).app (okT _ h.2)
theorem ok_res {h:Bool} {t:TX} (hw:h=true→wfT t):AllK (if h then cT t else []):=by
 cases h with
 |false=>exact AllK.nil
 |true=>exact okT _ (hw rfl)
theorem ok_M {x:MX} (h:wfM x):AllK (cM x):=by
 obtain ⟨hn,hp,hr⟩:=h
 exact ((((AllK.cons hn (AllK.one (okK_sym (by decide)))).app (ok_kJ fun y hy=>okT y (hp y hy))).app (AllK.one (okK_sym (by decide)))).app (ok_res hr)).app (AllK.one (okK_sym (by decide)))
theorem ok_D {x:DX} (h:wfD x):AllK (cD x):=by
 obtain ⟨hn,hf,hm,h⟩:=h
 have w1:okK (5,wType):=okK_word (fineK_of (by decide +kernel))
 have s123:=okK_sym (c:=123) (by decide)
 have s125:=AllK.one (okK_sym (c:=125) (by decide))
 unfold cD
 rcases h with ⟨hk,_⟩ | ⟨hk,_⟩ | ⟨hk,_,hrv,hb,hr,hbd⟩
 ·rw [if_pos hk]
  exact ((AllK.cons w1 (AllK.cons hn (AllK.cons (okK_word (fineK_of (by decide +kernel))) (AllK.one s123)))).app (ok_flat fun y hy=>(ok_P (hf y hy)).app (AllK.one (okK_sym (by decide))))).app s125
 ·rw [if_neg (by omega),if_pos hk]
  exact ((AllK.cons w1 (AllK.cons hn (AllK.cons (okK_word (fineK_of (by decide +kernel))) (AllK.one s123)))).app (ok_flat fun y hy=>ok_M (hm y hy))).app s125
 ·rw [if_neg (by omega),if_neg (by omega)]
  refine ((((((AllK.one (okK_word (fineK_of (by decide +kernel)))).app ?_).app (AllK.one hn)).app ?_).app ((AllK.app (AllK.one (okK_sym (by decide))) (ok_kJ fun y hy=>ok_P (hf y hy))).app (AllK.one (okK_sym (by decide))))).app (ok_res hr)).app (((AllK.one s123).app (ok_Ss hbd)).app s125)
  ·cases hmd:x.method with
   |false=>exact AllK.nil
   |true=>exact ((AllK.one (okK_sym (by decide))).app (ok_P (hrv hmd))).app (AllK.one (okK_sym (by decide)))
  ·split
   ·exact AllK.nil
   ·exact ((AllK.one (okK_sym (by decide))).app (ok_kJ fun y hy=>ok_P (hb y hy))).app (AllK.one (okK_sym (by decide)))
theorem ok_F {x:FX} (h:wfF x):AllK (cF x):=by
 obtain ⟨hn,hi,hd⟩:=h
 exact ((AllK.cons (okK_word (fineK_of (by decide +kernel))) (AllK.cons hn (AllK.one (okK_sym (by decide))))).app (ok_flat fun y hy=>AllK.cons (okK_word (fineK_of (by decide +kernel))) (AllK.cons (hi y hy) (AllK.one (okK_sym (by decide)))))).app (ok_flat fun y hy=>ok_D (hd y hy))
theorem ce_len (x:EX):(ce x).length=bn 1 x:=rfl
theorem exThen_ok {l:List TZ} (H:OkL l) {F:Nat} {z:UInt8} {i:Int} {g:EX→SX} {s:SX} {j:Int} (h:exThen l F z i g=.ok s j):∃ x,s=g x∧wfX x∧i + (ce x).length + 1≤j:=by
 unfold exThen at h
 split at h
 ·next x q hq =>
  obtain ⟨a1,a2⟩:=(read_ok H F).1 _ _ _ _ _ (by decide) (by decide) hq
  split at h
  ·injection h with h h'
   subst h;subst h'
   refine ⟨x,rfl,a1,?_⟩
   rw [ce_len]
   push_cast at a2
   omega
  ·cases h
 ·cases h
 ·cases h
theorem wfSs_nil:wfSs []:=by unfold wfSs;trivial
theorem cSs_nil:cSs []=[]:=by rw [cSs]
theorem stm_ok {l:List TZ} (H:OkL l) {F:Nat}:∀ f:Nat,
  (∀ d i x j,blk l F f d i=.ok x j→wfSs x∧i + 2 + (cSs x).length≤j) ∧
  (∀ d i x j,rows l F f d i=.ok x j→wfSs x∧i + 1 + (cSs x).length≤j) ∧
  (∀ d i x j,stm l F f d i=.ok x j→wfS x∧i + (cS x).length≤j):=by
 intro f
 induction f with
 |zero=>refine ⟨?_,?_,?_⟩ <;> intros <;> simp [blk,rows,stm] at *
 |succ f ih =>
  obtain ⟨iB,iR,iS⟩:=ih
  refine ⟨?_,?_,?_⟩
  ·intro d i x j h
   unfold blk at h
   split at h
   ·split at h
    ·cases h
    ·have:=iR _ _ _ _ h
     exact ⟨this.1,by omega⟩
   ·cases h
  ·intro d i x j h
   unfold rows at h
   split at h
   ·injection h with h h'
    subst h;subst h'
    exact ⟨wfSs_nil,by rw [cSs_nil];show i + 1 + ((0:Nat):Int)≤_;omega⟩
   ·split at h
    ·next s q hq =>
     obtain ⟨a1,a2⟩:=iS _ _ _ _ hq
     split at h
     ·next r q' hr =>
      injection h with h h'
      subst h;subst h'
      obtain ⟨b1,b2⟩:=iR _ _ _ _ hr
      refine ⟨by unfold wfSs;exact ⟨a1,b1⟩,?_⟩
      rw [cSs,List.length_append]
      push_cast
      omega
     ·cases h
     ·cases h
    ·cases h
    ·cases h
  ·intro d i x j h
   unfold stm at h
   split at h
   ·split at h
    ·next hn =>
     split at h
     ·obtain ⟨y,rfl,a1,a2⟩:=exThen_ok H h
      refine ⟨by unfold wfS;exact ⟨⟨wfSs_nil,wfSs_nil,by simp,by simp⟩,.inr ⟨a1,.inl ⟨.inl rfl,tk_name H hn⟩⟩⟩,?_⟩
      rw [cS,if_pos rfl]
      simp only [List.length_append,List.length_cons,List.length_nil]
      omega
     ·cases h
    ·cases h
   ·split at h
    ·split at h
     ·injection h with h h'
      subst h;subst h'
      refine ⟨by unfold wfS;exact ⟨⟨wfSs_nil,wfSs_nil,by simp,by simp⟩,.inl ⟨rfl,rfl,rfl⟩⟩,?_⟩
      rw [cS,if_neg (by decide),if_neg (by decide),if_pos rfl,if_neg (by decide)]
      simp only [List.length_cons,List.length_nil]
      omega
     ·obtain ⟨y,rfl,a1,a2⟩:=exThen_ok H h
      refine ⟨by unfold wfS;exact ⟨⟨wfSs_nil,wfSs_nil,by simp,by simp⟩,.inr ⟨a1,.inr (.inl ⟨rfl,rfl⟩)⟩⟩,?_⟩
      rw [cS,if_neg (by decide),if_neg (by decide),if_pos rfl,if_pos rfl]
      simp only [List.length_append,List.length_cons,List.length_nil]
      omega
    ·split at h
     ·split at h
      ·next y q hq =>
       obtain ⟨a1,a2⟩:=(read_ok H F).1 _ _ _ _ _ (by decide) (by decide) hq
       split at h
       ·next b r hb =>
        obtain ⟨b1,b2⟩:=iB _ _ _ _ hb
        split at h
        ·split at h
         ·next c r' hc =>
          injection h with h h'
          subst h;subst h'
          obtain ⟨c1,c2⟩:=iB _ _ _ _ hc
          refine ⟨by unfold wfS;exact ⟨⟨b1,c1,by simp,by simp⟩,.inr ⟨a1,.inr (.inr (.inl rfl))⟩⟩,?_⟩
          rw [cS,if_neg (by decide),if_neg (by decide),if_neg (by decide),if_pos rfl,if_pos rfl]
          simp only [List.length_append,List.length_cons,List.length_nil,ce_len]
          push_cast at a2 ⊢
          omega
         ·cases h
         ·cases h
        ·injection h with h h'
         subst h;subst h'
         refine ⟨by unfold wfS;exact ⟨⟨b1,wfSs_nil,by simp,by simp⟩,.inr ⟨a1,.inr (.inr (.inl rfl))⟩⟩,?_⟩
         rw [cS,if_neg (by decide),if_neg (by decide),if_neg (by decide),if_pos rfl,if_neg (by decide)]
         simp only [List.length_append,List.length_cons,List.length_nil,ce_len]
         push_cast at a2 ⊢
         omega
       ·cases h
       ·cases h
      ·cases h
      ·cases h
     ·split at h
      ·split at h
       ·next y q hq =>
        obtain ⟨a1,a2⟩:=(read_ok H F).1 _ _ _ _ _ (by decide) (by decide) hq
        split at h
        ·next b r hb =>
         injection h with h h'
         subst h;subst h'
         obtain ⟨b1,b2⟩:=iB _ _ _ _ hb
         refine ⟨by unfold wfS;exact ⟨⟨b1,wfSs_nil,by simp,by simp⟩,.inr ⟨a1,.inr (.inr (.inr (.inl rfl)))⟩⟩,?_⟩
         rw [cS,if_neg (by decide),if_neg (by decide),if_neg (by decide),if_neg (by decide),if_pos rfl]
         simp only [List.length_append,List.length_cons,List.length_nil,ce_len]
         push_cast at a2 ⊢
         omega
        ·cases h
        ·cases h
       ·cases h
       ·cases h
      ·split at h
       ·next hs =>
        obtain ⟨y,rfl,a1,a2⟩:=exThen_ok H h
        have hn:(tkAt l i).kind=1:=by unfold isSet at hs;simp only [Bool.and_eq_true,decide_eq_true_eq] at hs;exact hs.1
        refine ⟨by unfold wfS;exact ⟨⟨wfSs_nil,wfSs_nil,by simp,by simp⟩,.inr ⟨a1,.inl ⟨.inr rfl,tk_name H hn⟩⟩⟩,?_⟩
        rw [cS,if_neg (by decide),if_pos rfl]
        simp only [List.length_append,List.length_cons,List.length_nil]
        omega
       ·obtain ⟨y,rfl,a1,a2⟩:=exThen_ok H h
        refine ⟨by unfold wfS;exact ⟨⟨wfSs_nil,wfSs_nil,by simp,by simp⟩,.inr ⟨a1,.inr (.inr (.inr (.inr rfl)))⟩⟩,?_⟩
        rw [cS,if_neg (by decide),if_neg (by decide),if_neg (by decide),if_neg (by decide),if_neg (by decide)]
        simp only [List.length_append,List.length_cons,List.length_nil]
        omega
section
variable {l:List TZ} (H:OkL l)
include H
theorem na_ok {i:Int} {x:ByteArray × Int} {j:Int} (h:na l i=.ok x j):okK (1,x.1.data.toList)∧j=i + 1:=by
 obtain ⟨h1,_,_,h2,rfl⟩:=na_rng h
 exact ⟨tk_name H h2,h1⟩
theorem prm_ok {i:Int} {x:PX} {j:Int} (h:prm l i=.ok x j):wfP x∧i + (cP x).length≤j:=by
 unfold prm at h
 obtain ⟨n,a,h1,h⟩:=thn_ok h
 obtain ⟨t,b,h2,h⟩:=thn_ok h
 injection h with h h'
 subst h;subst h'
 obtain ⟨n1,en11⟩:=na_ok H h1
 obtain ⟨t1,t2⟩:=ty_ok H h2
 refine ⟨⟨n1,t1⟩,?_⟩
 unfold cP
 simp only [List.length_append,List.length_cons,List.length_nil]
 push_cast
 omega
omit H in
theorem kR_len:∀ l:List (List Key),(kR l).length=if l=[] then 0 else (kJ l).length + 1
 |[]=>rfl
 |y::r=>by
  rw [if_neg (by simp),kR,kJ]
  simp only [List.length_append,List.length_cons,List.length_nil]
  omega
omit H in
theorem seps_ok {α:Type} {one:Int→EO α} {P:α→Prop} {g:α→List Key} (h1:∀ i x j,one i=.ok x j→P x∧i + (g x).length≤j) {z:UInt8}:∀ {f:Nat} {i:Int} {xs:List α} {j:Int},seps l one z f i=.ok xs j→(∀ x ∈ xs,P x)∧xs≠[]∧i + 1 + (kJ (xs.map g)).length≤j
 |0,_,_,_,h=>by rw [seps] at h;cases h
 |f + 1,i,xs,j,h=>by
  rw [seps] at h
  obtain ⟨x,a,hx,h⟩:=thn_ok h
  obtain ⟨p1,p2⟩:=h1 _ _ _ hx
  split at h
  ·obtain ⟨ys,b,hy,h⟩:=thn_ok h
   injection h with h h'
   subst h;subst h'
   obtain ⟨q1,q2,q3⟩:=seps_ok h1 hy
   refine ⟨fun y hy=>?_,by simp,?_⟩
   ·rcases List.mem_cons.1 hy with rfl | hy
    ·exact p1
    ·exact q1 y hy
   ·rw [List.map_cons,kJ,List.length_append,kR_len,if_neg (by simpa using q2)]
    push_cast
    omega
  ·obtain ⟨u,b,hu,h⟩:=thn_ok h
   injection h with h h'
   subst h;subst h'
   have eq1:=(sy_rng hu).1
   refine ⟨fun y hy=>?_,by simp,?_⟩
   ·rw [List.mem_singleton] at hy;subst hy;exact p1
   ·show i + 1 + ((g x++kR []).length:Int)≤_
    rw [show kR []=[] from rfl,List.append_nil]
    omega
omit H in
theorem sepn_ok {α:Type} {one:Int→EO α} {P:α→Prop} {g:α→List Key} (h1:∀ i x j,one i=.ok x j→P x∧i + (g x).length≤j) {z:UInt8} {f:Nat} {i:Int} {xs:List α} {j:Int} (h:sepn l one z f i=.ok xs j):(∀ x ∈ xs,P x)∧i + 1 + (kJ (xs.map g)).length≤j:=by
 unfold sepn at h
 split at h
 ·injection h with h h'
  subst h;subst h'
  exact ⟨fun y hy=>(by cases hy),by show i + 1 + ((0:Nat):Int)≤_;omega⟩
 ·obtain ⟨q1,_,q3⟩:=seps_ok h1 h
  exact ⟨q1,q3⟩
omit H in
theorem upto_ok {α:Type} {one:Int→EO α} {P:α→Prop} {g:α→List Key} (h1:∀ i x j,one i=.ok x j→P x∧i + (g x).length≤j):∀ {f:Nat} {i:Int} {xs:List α} {j:Int},upto l one f i=.ok xs j→(∀ x ∈ xs,P x)∧i + 1 + (xs.flatMap g).length≤j
 |0,_,_,_,h=>by rw [upto] at h;cases h
 |f + 1,i,xs,j,h=>by
  rw [upto] at h
  split at h
  ·injection h with h h'
   subst h;subst h'
   exact ⟨fun y hy=>(by cases hy),by show i + 1 + ((0:Nat):Int)≤_;omega⟩
  ·obtain ⟨x,a,hx,h⟩:=thn_ok h
   obtain ⟨ys,b,hy,h⟩:=thn_ok h
   injection h with h h'
   subst h;subst h'
   obtain ⟨p1,p2⟩:=h1 _ _ _ hx
   obtain ⟨q1,q2⟩:=upto_ok h1 hy
   refine ⟨fun y hy=>?_,?_⟩
   ·rcases List.mem_cons.1 hy with rfl | hy
    ·exact p1
    ·exact q1 y hy
   ·rw [List.flatMap_cons,List.length_append]
    push_cast
    omega
theorem fld_ok {i:Int} {x:PX} {j:Int} (h:fld l i=.ok x j):wfP x∧i + (cFld x).length≤j:=by
 unfold fld at h
 obtain ⟨y,a,hy,h⟩:=thn_ok h
 obtain ⟨u,b,hu,h⟩:=thn_ok h
 injection h with h h'
 subst h;subst h'
 have eq2:=(sy_rng hu).1
 obtain ⟨p1,p2⟩:=prm_ok H hy
 refine ⟨p1,?_⟩
 unfold cFld
 rw [List.length_append]
 show i + (((cP y).length + 1:Nat):Int)≤_
 omega
theorem mth_ok {f:Nat} {i:Int} {x:MX} {j:Int} (h:mth l f i=.ok x j):wfM x∧i + (cM x).length≤j:=by
 unfold mth at h
 obtain ⟨n,a,hn,h⟩:=thn_ok h
 obtain ⟨u,b,hu,h⟩:=thn_ok h
 obtain ⟨ts,c,ht,h⟩:=thn_ok h
 obtain ⟨n1,en12⟩:=na_ok H hn
 have eq3:=(sy_rng hu).1
 obtain ⟨t1,t2⟩:=sepn_ok (P:=wfT) (g:=cT) (fun i x j h=>⟨(ty_ok H h).1,Int.le_of_eq (ty_ok H h).2⟩) ht
 split at h
 ·injection h with h h'
  subst h;subst h'
  refine ⟨⟨n1,t1,fun h=>by cases h⟩,?_⟩
  unfold cM
  simp only [List.length_append,List.length_cons,List.length_nil,Bool.false_eq_true,if_false]
  push_cast
  omega
 ·obtain ⟨t,d,hr,h⟩:=thn_ok h
  obtain ⟨u',e,hu',h⟩:=thn_ok h
  injection h with h h'
  subst h;subst h'
  obtain ⟨r1,r2⟩:=ty_ok H hr
  have eq4:=(sy_rng hu').1
  refine ⟨⟨n1,t1,fun _=>r1⟩,?_⟩
  unfold cM
  simp only [List.length_append,List.length_cons,List.length_nil,if_true]
  push_cast
  omega
theorem dcl_ok {F fb f:Nat} {i:Int} {x:DX} {j:Int} (h:dcl l F fb f i=.ok x j):wfD x∧i + (cD x).length≤j:=by
 unfold dcl at h
 split at h
 ·unfold dty at h
  obtain ⟨n,a,hn,h⟩:=thn_ok h
  obtain ⟨n1,en13⟩:=na_ok H hn
  split at h
  ·obtain ⟨u,b,hu,h⟩:=thn_ok h
   obtain ⟨ms,c,hm,h⟩:=thn_ok h
   injection h with h h'
   subst h;subst h'
   have eq5:=(sy_rng hu).1
   obtain ⟨m1,m2⟩:=upto_ok (P:=wfM) (g:=cM) (fun i x j h=>mth_ok H h) hm
   refine ⟨⟨n1,fun y hy=>(by cases hy),m1,.inr (.inl ⟨rfl,rfl,rfl,rfl⟩)⟩,?_⟩
   unfold cD
   rw [if_neg (by simp),if_pos rfl]
   simp only [List.length_append,List.length_cons,List.length_nil]
   push_cast
   omega
  ·obtain ⟨v,a',hv,h⟩:=thn_ok h
   obtain ⟨u,b,hu,h⟩:=thn_ok h
   obtain ⟨fs,c,hm,h⟩:=thn_ok h
   injection h with h h'
   subst h;subst h'
   have eq6:=(wo_rng hv).1
   have eq7:=(sy_rng hu).1
   obtain ⟨m1,m2⟩:=upto_ok (P:=wfP) (g:=cFld) (fun i x j h=>fld_ok H h) hm
   refine ⟨⟨n1,m1,fun y hy=>(by cases hy),.inl ⟨rfl,rfl,rfl,rfl⟩⟩,?_⟩
   unfold cD
   rw [if_pos rfl]
   simp only [List.length_append,List.length_cons,List.length_nil]
   push_cast
   omega
 ·obtain ⟨v,a',hv,h⟩:=thn_ok h
  have eq8:=(wo_rng hv).1
  unfold dfn at h
  obtain ⟨rc,a,hr,h⟩:=thn_ok h
  obtain ⟨n,b,hn,h⟩:=thn_ok h
  obtain ⟨bs,c,hb,h⟩:=thn_ok h
  obtain ⟨u,d,hu,h⟩:=thn_ok h
  obtain ⟨ps,e,hp,h⟩:=thn_ok h
  obtain ⟨t,g,ht,h⟩:=thn_ok h
  obtain ⟨bd,q,hbd,h⟩:=thn_ok h
  injection h with h h'
  subst h;subst h'
  obtain ⟨n1,en14⟩:=na_ok H hn
  have eq9:=(sy_rng hu).1
  obtain ⟨p1,p2⟩:=sepn_ok (P:=wfP) (g:=cP) (fun i x j h=>prm_ok H h) hp
  obtain ⟨d1,d2⟩:=(stm_ok H fb).1 _ _ _ _ hbd
  have hrc:(rc.1=true→wfP rc.2)∧i + 1 + (if rc.1 then [sym 40]++cP rc.2++[sym 41] else []).length≤a:=by
   unfold rcv at hr
   split at hr
   ·obtain ⟨x,c',hx,hr⟩:=thn_ok hr
    obtain ⟨u',d',hu',hr⟩:=thn_ok hr
    injection hr with hr hr'
    subst hr;subst hr'
    obtain ⟨x1,x2⟩:=prm_ok H hx
    have eq10:=(sy_rng hu').1
    refine ⟨fun _=>x1,?_⟩
    simp only [if_true,List.length_append,List.length_cons,List.length_nil]
    push_cast
    omega
   ·injection hr with hr hr'
    subst hr;subst hr'
    exact ⟨fun h=>(by cases h),by show i + 1 + ((0:Nat):Int)≤_;omega⟩
  have hbs:(∀ y ∈ bs,wfP y)∧b + (if bs=[] then [] else [sym 91]++kJ (bs.map cP)++[sym 93]).length≤c:=by
   unfold bnds at hb
   split at hb
   ·obtain ⟨q1,q2,q3⟩:=seps_ok (P:=wfP) (g:=cP) (fun i x j h=>prm_ok H h) hb
    refine ⟨q1,?_⟩
    rw [if_neg q2]
    simp only [List.length_append,List.length_cons,List.length_nil]
    push_cast
    omega
   ·injection hb with hb hb'
    subst hb;subst hb'
    exact ⟨fun y hy=>(by cases hy),by rw [if_pos rfl];show b + ((0:Nat):Int)≤_;omega⟩
  have hrs:(t.1=true→wfT t.2)∧e + (if t.1 then cT t.2 else []).length≤g:=by
   unfold res at ht
   split at ht
   ·injection ht with ht ht'
    subst ht;subst ht'
    exact ⟨fun h=>(by cases h),by show e + ((0:Nat):Int)≤_;omega⟩
   ·obtain ⟨x,c',hx,ht⟩:=thn_ok ht
    injection ht with ht ht'
    subst ht;subst ht'
    obtain ⟨x1,x2⟩:=ty_ok H hx
    exact ⟨fun _=>x1,by simp only [if_true];omega⟩
  refine ⟨⟨n1,p1,fun y hy=>(by cases hy),.inr (.inr ⟨rfl,rfl,hrc.1,hbs.1,hrs.1,d1⟩)⟩,?_⟩
  have e1:=hrc.2
  have e2:=hbs.2
  have e3:=hrs.2
  unfold cD
  rw [if_neg (by simp),if_neg (by simp)]
  simp only [List.length_append,List.length_cons,List.length_nil] at e1 e2 e3 ⊢
  push_cast at e1 e2 e3 ⊢
  omega
end
end Go.Proofs.YtfcgoainglpdlaaGreatDoor
namespace Go.Proofs.YtfcgoainglpdlaaGreatDoor
open Go.RowKit
open Go.Lib hiding intOf
theorem len1 {T:List UInt8} (h:okK (1,T)):T.length≤40:=by
 have h2:=h.2
 simp only [flt] at h2
 rw [if_neg (by decide),if_neg (by decide),if_neg (by decide),if_neg (by simp),if_neg (by simp)] at h2
 split at h2
 ·cases h2
 ·next hc=>simp only [true_and] at hc;omega
theorem len2 {T:List UInt8} (h:okK (2,T)):T.length≤15:=by
 have h2:=h.2
 simp only [flt] at h2
 rw [if_neg (by decide),if_neg (by decide),if_neg (by decide)] at h2
 split at h2
 ·cases h2
 ·next hc =>
  simp only [true_and] at hc
  have hn:num T=true:=by simpa using hc
  unfold num at hn
  simp only [Bool.and_eq_true,decide_eq_true_eq] at hn
  exact hn.1
theorem len3 {T:List UInt8} (h:okK (3,T)):T.length≤202:=by
 have h2:=h.2
 simp only [flt] at h2
 rw [if_neg (by decide),if_neg (by decide),if_neg (by decide),if_neg (by simp)] at h2
 split at h2
 ·cases h2
 ·next hc =>
  simp only [true_and] at hc
  have hn:quo T=true:=by simpa using hc
  cases T with
  |nil=>exact Nat.zero_le _
  |cons c q =>
   unfold quo at hn
   simp only [Bool.and_eq_true,decide_eq_true_eq] at hn
   have:=hn.1.2
   rw [List.length_dropLast] at this
   simp only [List.length_cons]
   omega
theorem tl:∀ t:TX,wfT t→(typG (toGT t)).data.toList.length + 400≤1000 * (cT t).length
 |.leaf k p g n,h=>by
  unfold wfT at h
  unfold toGT cT
  rcases h with h | ⟨rfl,hn,hg⟩
  ·have e:(typG (.mk k p g n [])).data.toList=wordT k:=by rcases h with rfl | rfl | rfl <;> (rw [typG];rfl)
   have e2:(wordT k).length≤4:=by rcases h with rfl | rfl | rfl <;> decide
   rw [e,if_neg (by omega)]
   simp only [List.length_cons,List.length_nil]
   omega
  ·have h1:=len1 hn
   rw [if_pos rfl]
   by_cases hg0:g=⟨#[]⟩
   ·subst hg0
    have e:(typG (.mk 4 p ⟨#[]⟩ n [])).data.toList=n.data.toList:=by rw [typG];simp
    rw [if_pos rfl,e]
    simp only [List.length_cons,List.length_nil]
    omega
   ·have h2:=len1 (hg.resolve_left hg0)
    rw [if_neg hg0,typG_4b p g n [] hg0]
    simp only [List.length_append,List.length_cons,List.length_nil]
    omega
 |.list p x,h=>by
  unfold wfT at h
  unfold toGT cT
  have:=tl x h
  rw [typG_5b]
  simp only [List.length_append,List.length_cons,List.length_nil]
  omega
theorem bl {m k:Int} {s:ByteArray} {ts:List Key} (h:s.data.toList.length + 400≤1000 * ts.length):(bx m (k,s)).data.toList.length + 400≤1000 * (brk m (k,ts)).length:=by
 unfold brk
 by_cases hk:k < m
 ·rw [bx_yes hk,if_pos hk]
  simp only [List.length_append,List.length_cons,List.length_nil]
  omega
 ·rw [bx_no hk,if_neg hk]
  exact h
section
variable {args:List EX}
theorem al (h:∀ y ∈ args,(plnG (toGX y)).data.toList.length + 400≤1000 * (cX y).length) {i:Nat} (hi:i < args.length) (m:Int):(argB (plsG (toGXs args)) i m).data.toList.length + 400≤1000 * (cAt (cXs args) i m).length:=by
 unfold argB cAt
 rw [pls_at,toGXs_map,cXs_map]
 simp only [List.getElem?_map,List.getElem?_eq_getElem hi,Option.map_some,levG_toGX]
 exact bl (h _ (List.getElem_mem hi))
end
theorem rl:∀ {args:List EX},(∀ y ∈ args,(plnG (toGX y)).data.toList.length + 400≤1000 * (cX y).length)→(restB (plsG (toGXs args))).data.toList.length≤1000 * (cR (cXs args)).length
 |[],_=>by
  unfold toGXs plsG restB cXs cR
  exact Nat.le_refl _
 |y::r,h=>by
  have h1:(bx 1 (levE y,plnG (toGX y))).data.toList.length + 400≤1000 * (brk 1 (levE y,cX y)).length:=bl (h y (by simp))
  have h2:=rl (args:=r) fun z hz=>h z (by simp [hz])
  unfold toGXs plsG cXs
  rw [restB,cR,levG_toGX]
  simp only [ByteArray.data_append,Array.toList_append,List.length_append,List.length_cons,List.length_nil]
  omega
theorem jl {args:List EX} (h:∀ y ∈ args,(plnG (toGX y)).data.toList.length + 400≤1000 * (cX y).length):(joinB (plsG (toGXs args))).data.toList.length≤1000 * (cJ (cXs args)).length:=by
 cases args with
 |nil =>
  unfold toGXs plsG joinB cXs cJ
  exact Nat.le_refl _
 |cons y r =>
  have h1:(bx 1 (levE y,plnG (toGX y))).data.toList.length + 400≤1000 * (brk 1 (levE y,cX y)).length:=bl (h y (by simp))
  have h2:=rl (args:=r) fun z hz=>h z (by simp [hz])
  unfold toGXs plsG cXs
  rw [joinB,cJ,levG_toGX]
  simp only [ByteArray.data_append,Array.toList_append,List.length_append]
  omega
theorem xl:∀ (n:Nat) (x:EX),SizeOf.sizeOf x < n→wfX x→(plnG (toGX x)).data.toList.length + 400≤1000 * (cX x).length:=by
 intro n
 induction n with
 |zero=>intro x h;omega
 |succ n ih =>
 rintro ⟨k,p,s,v,nm,t,args⟩ hs h
 unfold wfX at h
 obtain ⟨ha,hv,h⟩:=h
 have hA:∀ y ∈ args,(plnG (toGX y)).data.toList.length + 400≤1000 * (cX y).length:=fun y hy=>ih y (by have:=List.sizeOf_lt_of_mem hy;simp only [EX.mk.sizeOf_spec] at hs;omega) (wfXs_mem ha hy)
 unfold toGX cX
 rcases h with ⟨rfl,h⟩ | ⟨rfl,h⟩ | ⟨rfl,h⟩ | ⟨rfl,h⟩ | ⟨rfl,hl,h⟩ | ⟨rfl,hl⟩ | ⟨rfl,hl⟩ | ⟨rfl,h⟩ | ⟨rfl,hl,h⟩ | ⟨rfl,hl⟩
 ·rw [if_pos rfl]
  have e:(plnG (.mk 1 p s nm v (toGT t) (toGXs args))).data.toList=Lib.itoa v:=by rw [plnG,if_pos rfl]
  have:=len2 h
  rw [e]
  simp only [List.length_cons,List.length_nil]
  omega
 ·have h3:=len3 h
  rw [if_neg (by decide),if_pos rfl,plnG_2]
  simp only [List.length_cons,List.length_nil]
  omega
 ·rw [if_neg (by decide),if_neg (by decide),if_pos rfl]
  rcases h with rfl | rfl
  ·have e:(plnG (.mk 3 p s nm 0 (toGT t) (toGXs args))).data.toList=[102,97,108,115,101]:=by rw [plnG];rfl
   rw [e,if_neg (by decide)]
   decide
  ·have e:(plnG (.mk 3 p s nm 1 (toGT t) (toGXs args))).data.toList=[116,114,117,101]:=by rw [plnG];rfl
   rw [e,if_pos rfl]
   decide
 ·have h3:=len1 h
  rw [if_neg (by decide),if_neg (by decide),if_neg (by decide),if_pos rfl,plnG_4]
  simp only [List.length_cons,List.length_nil]
  omega
 ·have h3:=len1 h
  have h4:=al hA (i:=0) (by omega) 6
  rw [if_neg (by decide),if_neg (by decide),if_neg (by decide),if_neg (by decide),if_pos rfl,plnG_5]
  simp only [List.length_append,List.length_cons,List.length_nil]
  omega
 ·have h4:=al hA (i:=0) (by omega) 6
  have h5:=jl (args:=args.drop 1) fun y hy=>hA y (List.mem_of_mem_drop hy)
  rw [if_neg (by decide),if_neg (by decide),if_neg (by decide),if_neg (by decide),if_neg (by decide),if_pos rfl,plnG_6,pls_drop,toGXs_drop,cXs_drop]
  simp only [List.length_append,List.length_cons,List.length_nil]
  omega
 ·have h4:=al hA (i:=0) (by omega) 6
  have h5:=al hA (i:=1) (by omega) 1
  rw [if_neg (by decide),if_neg (by decide),if_neg (by decide),if_neg (by decide),if_neg (by decide),if_neg (by decide),if_pos rfl,plnG_7]
  simp only [List.length_append,List.length_cons,List.length_nil]
  omega
 ·have h4:=tl t h
  have h5:=jl hA
  rw [if_neg (by decide),if_neg (by decide),if_neg (by decide),if_neg (by decide),if_neg (by decide),if_neg (by decide),if_neg (by decide),if_pos rfl,plnG_8]
  simp only [List.length_append,List.length_cons,List.length_nil]
  omega
 ·have h4:=al hA (i:=0) (by omega) (levK 9 nm)
  have h5:=al hA (i:=1) (by omega) (levK 9 nm + 1)
  have h6:nm.data.toList.length≤2:=by
   simp only [opsK,List.mem_cons,List.not_mem_nil,or_false] at h
   rcases h with e | e | e | e | e | e <;> (rw [e];decide)
  rw [if_neg (by decide),if_neg (by decide),if_neg (by decide),if_neg (by decide),if_neg (by decide),if_neg (by decide),if_neg (by decide),if_neg (by decide),if_neg (by decide),plnG_9]
  simp only [List.length_append,List.length_cons,List.length_nil]
  omega
 ·have h4:=al hA (i:=0) (by omega) 5
  rw [if_neg (by decide),if_neg (by decide),if_neg (by decide),if_neg (by decide),if_neg (by decide),if_neg (by decide),if_neg (by decide),if_neg (by decide),if_pos rfl,plnG_10]
  simp only [List.length_append,List.length_cons,List.length_nil]
  omega
theorem el {x:EX} (h:wfX x):(exL (toGX x)).length + 400≤1000 * (ce x).length:=by
 unfold exL
 rw [levG_toGX]
 exact bl (xl _ x (Nat.lt_succ_self _) h)
theorem tabs_len (t:Nat):(tabsL t).length=t:=by unfold tabsL;simp
mutual
theorem sl {t:Nat} (ht:t≤100):∀ {x:SX},wfS x→(stmL t (toGS x)).length + 400≤1000 * (cS x).length
 |.mk k p nm h x u v,hw=>by
  unfold wfS at hw
  obtain ⟨⟨hu,hv,_,_⟩,hw⟩:=hw
  have iu:(blkL (min (t + 1) 100) (toGSs u)).length≤1000 * (cSs u).length:=ssl (by omega) hu
  have iv:(blkL (min (t + 1) 100) (toGSs v)).length≤1000 * (cSs v).length:=ssl (by omega) hv
  have htl:=tabs_len t
  unfold toGS
  rw [cS]
  rcases hw with ⟨rfl,rfl,_⟩ | ⟨hx,hw⟩
  ·rw [if_neg (by decide),if_neg (by decide),if_pos rfl,if_neg (by decide),stmL_3a]
   simp only [List.length_cons,List.length_nil]
   omega
  ·have he:=el hx
   rcases hw with ⟨rfl | rfl,hn⟩ | ⟨rfl,rfl⟩ | rfl | rfl | rfl
   ·have hl:=len1 hn
    rw [if_pos rfl,stmL_1]
    simp only [List.length_append,List.length_cons,List.length_nil]
    omega
   ·have hl:=len1 hn
    rw [if_neg (by decide),if_pos rfl,stmL_2]
    simp only [List.length_append,List.length_cons,List.length_nil]
    omega
   ·rw [if_neg (by decide),if_neg (by decide),if_pos rfl,if_pos rfl,stmL_3b]
    simp only [List.length_append,List.length_cons,List.length_nil]
    omega
   ·rw [if_neg (by decide),if_neg (by decide),if_neg (by decide),if_pos rfl]
    cases h with
    |false =>
     rw [stmL_4a,if_neg (by decide)]
     simp only [List.length_append,List.length_cons,List.length_nil]
     omega
    |true =>
     rw [stmL_4b,if_pos rfl]
     simp only [List.length_append,List.length_cons,List.length_nil]
     omega
   ·rw [if_neg (by decide),if_neg (by decide),if_neg (by decide),if_neg (by decide),if_pos rfl,stmL_5]
    simp only [List.length_append,List.length_cons,List.length_nil]
    omega
   ·rw [if_neg (by decide),if_neg (by decide),if_neg (by decide),if_neg (by decide),if_neg (by decide),stmL_6]
    simp only [List.length_append,List.length_cons,List.length_nil]
    omega
theorem ssl {t:Nat} (ht:t≤100):∀ {l:List SX},wfSs l→(blkL t (toGSs l)).length≤1000 * (cSs l).length
 |[],_=>by unfold toGSs;rw [blkL,cSs];exact Nat.le_refl _
 |y::r,h=>by
  unfold wfSs at h
  have h1:=sl ht h.1
  have h2:=ssl ht h.2
  have htl:=tabs_len t
  unfold toGSs
  rw [blkL,cSs]
  simp only [List.length_append,List.length_cons,List.length_nil]
  omega
end
theorem restl {α:Type} {f:α→List UInt8} {g:α→List Key}:∀ {l:List α},(∀ y ∈ l,(f y).length + 400≤1000 * (g y).length)→(restL (l.map f)).length≤1000 * (kR (l.map g)).length
 |[],_=>Nat.le_refl _
 |y::r,h=>by
  have h1:=h y (by simp)
  have h2:=restl (l:=r) fun z hz=>h z (by simp [hz])
  simp only [List.map_cons,restL,kR,List.length_append,List.length_cons,List.length_nil]
  omega
theorem joinl {α:Type} {f:α→List UInt8} {g:α→List Key} {l:List α} (h:∀ y ∈ l,(f y).length + 400≤1000 * (g y).length):(joinL' (l.map f)).length≤1000 * (kJ (l.map g)).length:=by
 cases l with
 |nil=>exact Nat.le_refl _
 |cons y r =>
  have h1:=h y (by simp)
  have h2:=restl (f:=f) (g:=g) (l:=r) fun z hz=>h z (by simp [hz])
  simp only [List.map_cons,joinL',kJ,List.length_append]
  omega
theorem flatl {α:Type} {f:α→List UInt8} {g:α→List Key}:∀ {l:List α},(∀ y ∈ l,(f y).length≤1000 * (g y).length)→(l.flatMap f).length≤1000 * (l.flatMap g).length
 |[],_=>Nat.le_refl _
 |y::r,h=>by
  have h1:=h y (by simp)
  have h2:=flatl (f:=f) (g:=g) (l:=r) fun z hz=>h z (by simp [hz])
  simp only [List.flatMap_cons,List.length_append]
  omega
theorem pl {x:PX} (h:wfP x):(parL (toGP x)).length + 400≤1000 * (cP x).length:=by
 have h1:=len1 h.1
 have h2:=tl x.typ h.2
 have e:parL (toGP x)=x.name.data.toList++[32]++(typG (toGT x.typ)).data.toList:=rfl
 rw [e]
 unfold cP
 simp only [List.length_append,List.length_cons,List.length_nil]
 omega
theorem resl {h:Bool} {t:TX} (hw:h=true→wfT t):(resL h (toGT t)).length≤1000 * (if h then cT t else []).length:=by
 cases h with
 |false=>exact Nat.le_refl _
 |true =>
  have:=tl t (hw rfl)
  have e:resL true (toGT t)=[32]++(typG (toGT t)).data.toList:=rfl
  rw [e,if_pos rfl]
  simp only [List.length_append,List.length_cons,List.length_nil]
  omega
theorem ml {x:MX} (h:wfM x):(methL (toGM x)).length≤1000 * (cM x).length:=by
 obtain ⟨hn,hp,hr⟩:=h
 have h1:=len1 hn
 have h2:(joinL' ((x.params.map toGT).map typL)).length≤1000 * (kJ (x.params.map cT)).length:=by
  rw [List.map_map]
  exact joinl fun y hy=>tl y (hp y hy)
 have h3:=resl hr
 have e:methL (toGM x)=([32]++(x.name.data.toList++[40]))++joinL' ((x.params.map toGT).map typL)++[41]++resL x.has (toGT x.result)++[59]:=rfl
 rw [e]
 unfold cM
 simp only [List.length_append,List.length_cons,List.length_nil]
 omega
theorem dl {x:DX} (h:wfD x):(dclL (toGD x)).length≤1000 * (cD x).length:=by
 obtain ⟨hn,hf,hm,h⟩:=h
 have h1:=len1 hn
 have hfl:((x.fields.map toGP).flatMap fldL).length≤1000 * (x.fields.flatMap cFld).length:=by
  rw [List.flatMap_map]
  refine flatl fun y hy=>?_
  have:=pl (hf y hy)
  have e:fldL (toGP y)=[32]++parL (toGP y)++[59]:=rfl
  rw [e]
  unfold cFld
  simp only [List.length_append,List.length_cons,List.length_nil]
  omega
 have hml:((x.methods.map toGM).flatMap methL).length≤1000 * (x.methods.flatMap cM).length:=by
  rw [List.flatMap_map]
  exact flatl fun y hy=>ml (hm y hy)
 have hpl:∀ l:List PX,(∀ y ∈ l,wfP y)→(joinL' ((l.map toGP).map parL)).length≤1000 * (kJ (l.map cP)).length:=fun l hl=>by
  rw [List.map_map]
  exact joinl fun y hy=>pl (hl y hy)
 have e0:(dclL (toGD x)).length=(decL (toGD x)).length + 1:=by unfold dclL;rw [List.length_append];rfl
 rw [e0]
 unfold cD decL
 rcases h with ⟨hk,_⟩ | ⟨hk,_⟩ | ⟨hk,_,hrv,hb,hr,hbd⟩
 ·rw [if_pos (show (toGD x).kind=1 from hk),if_pos hk]
  show (([116,121,112,101,32]++(x.name.data.toList++[32,115,116,114,117,99,116,32,123]))++(x.fields.map toGP).flatMap fldL++[32,125]).length + 1≤_
  simp only [List.length_append,List.length_cons,List.length_nil]
  omega
 ·rw [if_neg (show ¬ (toGD x).kind=1 by show ¬ x.kind=1;omega),if_pos (show (toGD x).kind=2 from hk),if_neg (by omega),if_pos hk]
  show (([116,121,112,101,32]++(x.name.data.toList++[32,105,110,116,101,114,102,97,99,101,32,123]))++(x.methods.map toGM).flatMap methL++[32,125]).length + 1≤_
  simp only [List.length_append,List.length_cons,List.length_nil]
  omega
 ·rw [if_neg (show ¬ (toGD x).kind=1 by show ¬ x.kind=1;omega),if_neg (show ¬ (toGD x).kind=2 by show ¬ x.kind=2;omega),if_pos (show (toGD x).kind=3 from hk),if_neg (by omega),if_neg (by omega)]
  show ([102,117,110,99,32]++recvL x.method (toGP x.recv)++x.name.data.toList++bndL (x.bounds.map toGP)++([40]++joinL' ((x.fields.map toGP).map parL)++[41])++resL x.has (toGT x.result)++([32,123,10]++blkL 1 (toGSs x.body)++[]++[125])).length + 1≤_
  have hrl:(recvL x.method (toGP x.recv)).length≤1000 * (if x.method then [sym 40]++cP x.recv++[sym 41] else []).length:=by
   cases hmd:x.method with
   |false=>exact Nat.le_refl _
   |true =>
    have:=pl (hrv hmd)
    show ([40]++parL (toGP x.recv)++[41,32]).length≤1000 * ([sym 40]++cP x.recv++[sym 41]).length
    simp only [List.length_append,List.length_cons,List.length_nil]
    omega
  have hbl:(bndL (x.bounds.map toGP)).length≤1000 * (if x.bounds=[] then [] else [sym 91]++kJ (x.bounds.map cP)++[sym 93]).length:=by
   by_cases hbn:x.bounds=[]
   ·rw [hbn,if_pos rfl];exact Nat.le_refl _
   ·have hl:¬ (x.bounds.map toGP).length=0:=by rw [List.length_map];exact fun e=>hbn (List.eq_nil_of_length_eq_zero e)
    have:=hpl _ hb
    unfold bndL
    rw [if_neg hl,if_neg hbn]
    simp only [List.length_append,List.length_cons,List.length_nil]
    omega
  have h3:=resl hr
  have h4:=hpl _ hf
  have h5:=ssl (t:=1) (by decide) hbd
  simp only [List.length_append,List.length_cons,List.length_nil]
  omega
theorem fl {x:FX} (h:wfF x):(filL (toGF x)).length≤1000 * (cF x).length:=by
 obtain ⟨hn,hi,hd⟩:=h
 have h1:=len1 hn
 have h2:(x.imports.flatMap impL).length≤1000 * (x.imports.flatMap cI).length:=flatl fun y hy=>by
  have:=len1 (hi y hy)
  unfold impL cI
  simp only [List.length_append,List.length_cons,List.length_nil]
  omega
 have h3:((x.decls.map toGD).flatMap dclL).length≤1000 * (x.decls.flatMap cD).length:=by
  rw [List.flatMap_map]
  exact flatl fun y hy=>dl (hd y hy)
 show (([112,97,99,107,97,103,101,32]++(x.name.data.toList++[59,10]))++x.imports.flatMap impL++(x.decls.map toGD).flatMap dclL).length≤_
 unfold cF
 simp only [List.length_append,List.length_cons,List.length_nil]
 omega
end Go.Proofs.YtfcgoainglpdlaaGreatDoor
