/- What a round keeps: maps and walks; blocks of one string; blocks of one token. And an append that says whether it moved. No condition. -/
import Derived.Test.YtfcgoainglpdlaaGreatDoorV04
import Derived.RangeFuncNested
import Derived.RangeFuncBound
import Derived.RangeFuncLeaves
import Derived.Maps.AppendAt
import Derived.Laws.OwnMore
import Derived.WalkKit
import Derived.OwnWalkIn
import Derived.TacticsInMore
namespace Go.Proofs.YtfcgoainglpdlaaGreatDoor
open Go.RowKit
def tokC (t:Tok):List Value:=[.int .i64 t.kind,.int .i64 (t.pos:Nat),.int .i64 (t.stop:Nat),.string ⟨t.text.toArray⟩]
def tokV (t:Tok):Value:=.agg #[.int .i64 t.kind,.int .i64 (t.pos:Nat),.int .i64 (t.stop:Nat),.string ⟨t.text.toArray⟩]
def toksC (l:List Tok):List Value:=l.flatMap tokC
theorem toksC_snoc (l:List Tok) (t:Tok):toksC (l++[t])=toksC l++tokC t:=by simp [toksC]
def Blk (W:World) (k:Nat) (t:TypeId) (cs:Array Value):Prop:=W.heap[k]?=some (.cells cs t (0,0))
structure KeepR (W W':World):Prop where
 walks:KeepsWalks W W'
 four:∀ k a b c d,Blk W k 81 #[a,b,c,d]→Blk W' k 81 #[a,b,c,d]
 one:∀ k a,Blk W k 9 #[a]→Blk W' k 9 #[a]
theorem KeepR.trans {A B C:World} (h:KeepR A B) (k:KeepR B C):KeepR A C :=
 ⟨h.walks.trans k.walks,fun i a b c d x=>k.four i a b c d (h.four i a b c d x),fun i a x=>k.one i a (h.one i a x)⟩
theorem Blk.lt {W:World} {k:Nat} {t:TypeId} {cs:Array Value} (h:Blk W k t cs):k < W.heap.size:=(Array.getElem?_eq_some_iff.1 h).1
theorem Blk.kept {W W':World} {row:Option Nat} {k:Nat} {t:TypeId} {cs:Array Value} (h:Blk W k t cs) (hg:W.grownBy W' row) (hne:some k≠row):Blk W' k t cs:=(hg.block k h.lt hne).trans h
theorem Blk.cell {W:World} {k:Nat} {t:TypeId} {cs:Array Value} (h:Blk W k t cs) (i:Nat):W.cell? ⟨k,i,none⟩=cs[i]?:=by
 unfold Blk at h;simp [World.cell?,h]
theorem Blk.frozen {W:World} {k:Nat} {t:TypeId} {cs:Array Value} (h:Blk W k t cs) (i:Nat):W.frozen? ⟨k,i,none⟩=false:=by
 unfold Blk at h;simp [World.frozen?,h]
theorem Blk.new (W:World) (t:TypeId) (cs:Array Value):Blk (W.alloc (.cells cs t)) W.heap.size t cs:=World.alloc_heap_new W _
theorem Blk.set_ {W:World} {k:Nat} {t:TypeId} {cs:Array Value} (h:Blk W k t cs) (i:Nat) (u:Value):Blk (W.setCell ⟨k,i,none⟩ u) k t (cs.setIfInBounds i u):=by
 unfold Blk at h ⊢
 simp [World.setCell,Array.getElem?_modify,h]
theorem Blk.far {W:World} {k:Nat} {t:TypeId} {cs:Array Value} (h:Blk W k t cs) {p:Addr} (hp:k≠p.block) (u:Value):Blk (W.setCell p u) k t cs:=(Below.heap_setCell W p u k hp).trans h
theorem Blk.ne_ {W:World} {k k':Nat} {t t':TypeId} {cs cs':Array Value} (h:Blk W k t cs) (h':Blk W k' t' cs') (hne:t≠t'):k≠k':=by
 rintro rfl
 unfold Blk at h h'
 rw [h] at h'
 injection h' with h'
 injection h' with _ ht
 exact hne ht
theorem grown_of_below {W W':World} (h:Below W.heap.size W W'):W.grownBy W' none:=⟨h.os,h.tape,h.output,h.size,fun k hk _=>h.block k hk⟩
theorem KeepR.of_grown {W W':World} {row:Option Nat} (hg:W.grownBy W' row) (hr:∀ k,row=some k→∃ cs t,Blk W k t cs∧(t≠81∨cs.size≠4)∧t≠9):KeepR W W' :=
  ⟨KeepsWalks.of_grownBy hg fun j o e hj=>by obtain ⟨cs,t,h,_⟩:=hr j e;unfold Blk at h;rw [h] at hj;cases hj;rfl,
   fun k a b c d h=>h.kept hg fun e=>by
     obtain ⟨cs,t,h2,h3,_⟩:=hr k e.symm
     unfold Blk at h h2;rw [h] at h2;cases h2;rcases h3 with h3 | h3
     · exact h3 rfl
     · exact h3 rfl,
   fun k a h=>h.kept hg fun e=>by
     obtain ⟨cs,t,h2,_,h3⟩:=hr k e.symm
     unfold Blk at h h2;rw [h] at h2;cases h2;exact h3 rfl⟩
theorem KeepR.of_below {W W':World} (h:Below W.heap.size W W'):KeepR W W':=KeepR.of_grown (grown_of_below h) (fun k e=>by cases e)
theorem KeepR.alloc (W:World) (o:Obj):KeepR W (W.alloc o):=KeepR.of_below ((Below.refl _ _).alloc (Nat.le_refl _) o)
theorem KeepR.bookkeep {w:World} (W:World) (l:Nat) (o o':Obj) (_:w.heap.size≤l) (h:W.heap[l]?=some o) (hc:o.isCells=false) (hw:o.isWalk=false):KeepR W (W.putObj l o'):=by
 have hk:∀ k t cs,Blk W k t cs→Blk (W.putObj l o') k t cs:=fun k t cs hb=>hb.kept (grownBy_putObj' W l o') fun e=>by
  cases e;unfold Blk at hb;rw [h] at hb;cases hb;cases hc
 exact ⟨KeepsWalks.putObj _ h hw,fun k a b c d=>hk k _ _,fun k a=>hk k _ _⟩
theorem setCell_same {W:World} {b i:Nat} {t:TypeId} {cs:Array Value} {v:Value} (h:Blk W b t cs) (hi:cs[i]?=some v):W.setCell ⟨b,i,none⟩ v=W:=by
 have hs:cs.setIfInBounds i v=cs:=by
  obtain ⟨hl,hv⟩:=Array.getElem?_eq_some_iff.1 hi
  rw [Array.setIfInBounds,dif_pos hl,← hv]
  exact Array.set_getElem_self hl
 unfold Blk at h
 have e:(W.setCell ⟨b,i,none⟩ v).heap=W.heap:=by
  apply Array.ext_getElem?
  intro k
  show (W.heap.modify b _)[k]?=_
  rw [Array.getElem?_modify]
  split
  ·subst b;rw [h];simp [hs]
  ·rfl
 cases W
 simp only [World.setCell] at e ⊢
 rw [e]
theorem run_append_moves {P:Program} (w:World) (base:Nat) (t ty e:TypeId) (i:TypeInfo) (z:Value) (size bytes:Nat) (ht:P.underlying t=some (.slice e)) (hi:P.info? e=some i) (hz:i.zero=some z)
  (hsize:i.size=size) (hby:i.bytes=bytes) (hzs:z.cells.size=size) (hsz:0 < size)
  (v:Value) (n:Nat) (xs:List Value) (hown:w.ownsRow base e size v n xs)
  (a:Addr) (m c:Nat) (news:List Value) (hl:news.length=m * size) (hnews:∀ j u,news[j]?=some u→w.cell? (a.add j)=some u) (h1:∀ u ∈ news,u.oneCell'=true)
  (h63:n + m≤maxLen) (hbytes:(n + m) * bytes≤140737488355328) (hbase:base≤w.heap.size) (hm:0 < m) :
  ∃ v' w',(Builtin.append_ #[t,t] ty #[v,.slice (some a) m c]).run P w=.ok v' w'∧w'.ownsRow base e size v' (n + m) (xs++news) ∧
   (w.grownBy w' none∨∃ g cap cur,v=.slice (some ⟨g,0,none⟩) n cap∧w.grownBy w' (some g)∧Blk w g e cur∧cur.size=cap * size∧n + m≤cap):=by
 obtain ⟨v',w',hrun,r1,r2,_⟩:=run_append_own (P:=P) w base t ty e i z size bytes ht hi hz hsize hby hzs hsz v n xs hown a m c news hl hnews h1 h63 hbytes hbase
 refine ⟨v',w',hrun,r1,?_⟩
 have hlim:n + m≤9223372036854775807:=by simp only [maxLen] at h63;omega
 have fresh:∀ o:Obj,w.grownBy (w.drew.alloc o) none:=fun o=>⟨rfl,rfl,rfl,by simp,fun k hk _=>heap_alloc_old w.drew _ k hk⟩
 rcases hown.2 with ⟨rfl,rfl⟩ | ⟨g,cap,cur,rfl,hbg,hg,hnc,hcm,hcs,htake⟩
 ·have hr:=run_append_nil (P:=P) w t ty e i z ht hi hz a m c news (by rw [hsize];exact hl) hnews hm (by omega) (by rw [hby];have hb:=hbytes;simp only [Nat.zero_add] at hb;omega)
  have hh:=hrun.symm.trans hr
  injection hh with _ hw
  subst hw
  exact .inl (fresh _)
 ·by_cases hroom:n + m≤cap
  ·exact .inr ⟨g,cap,cur,rfl,r2,hg,hcs,hroom⟩
  ·have hr:=run_append_grow (P:=P) w t ty e i z ht hi hz ⟨g,0,none⟩ n cap xs (by rw [hsize];exact hown.1) (hown.cells (g:=g) rfl) a m c news (by rw [hsize];exact hl) hnews (by omega) (by omega) (by rw [hby];exact growslice_fits (by omega) hbytes)
   have hh:=hrun.symm.trans hr
   injection hh with _ hw
   subst hw
   exact .inl (fresh _)
theorem wpListIn_append_moves {F:Fence} {n:Nat} {P:Program} (w:World) {ops:Array Oper} {rest:List Oper} {o:Oper} {a:Act} {Q:Exit→Act→World→Prop}
  (hg:o.guard=none) (s x:Operand) (t:TypeId) (hop:o.op=Op.call { callee:=Callee.builtin Builtin.append,args:=#[s,x],argTypes:=#[t,t] })
  (base:Nat) (e:TypeId) (i:TypeInfo) (z:Value) (size bytes:Nat) (h1:P.underlying t=some (.slice e)) (h2:P.info? e=some i) (h3:i.zero=some z) (h4:i.size=size) (h5:i.bytes=bytes) (h6:z.cells.size=size) (h7:0 < size)
  (v:Value) (k:Nat) (xs:List Value) (hs:a.eval s=v) (hown:w.ownsRow base e size v k xs) (ad:Addr) (m c:Nat) (news:List Value) (hx:a.eval x=.slice (some ad) m c) (hn:news.length=m * size)
  (hc:∀ j u,news[j]?=some u→w.cell? (ad.add j)=some u) (h1c:∀ u ∈ news,u.oneCell'=true) (b1:k + m≤maxLen) (b2:(k + m) * bytes≤140737488355328) (b3:base≤w.heap.size) (b4:0 < m)
  (hK:∀ v' w',w'.ownsRow base e size v' (k + m) (xs++news) →
   (w.grownBy w' none∨∃ g cap cur,v=.slice (some ⟨g,0,none⟩) k cap∧w.grownBy w' (some g)∧Blk w g e cur∧cur.size=cap * size∧k + m≤cap)→wpListIn F n P ops Q rest (a.put o.dst v') w') :
  wpListIn F n P ops Q (o::rest) a w:=by
 refine wpListIn_plain hg fun K hK'=>?_
 obtain ⟨v',w',hrun,r1,r2⟩:=run_append_moves (P:=P) w base t o.type e i z size bytes h1 h2 h3 h4 h5 h6 h7 v k xs hown ad m c news hn hc h1c b1 b2 b3 b4
 unfold Oper.wpIn
 refine ⟨?_,?_⟩
 ·simp [Oper.about,hop,resolve,Target.leads,Sem.run_pure]
 ·rw [Oper.semAt_plain F _ _ (by rw [hop];intro c hc';cases hc')]
  simp [execOp,hop,resolve,invoke,builtin,hs,hx,hrun,Result.andThen]
  exact hK' _ _ (hK v' w' r1 r2)
end Go.Proofs.YtfcgoainglpdlaaGreatDoor
