/- Boxes of any type stored, read, put into rows; rows of any elements; an append of one. Condition: at most 2^47 bytes. The parser of packages in memory; the walks of its small methods: misplaced, peek, sees, expect, name, goOn. Condition: the parser lies in memory as said. -/
import Derived.Test.YtfcgoainglpdlaaGreatDoorV19
import Derived.Test.YtfcgoainglpdlaaGreatDoorV13
import Derived.Great.BuildSlice
import Derived.BigQuiet
set_option maxRecDepth 20000
set_option maxHeartbeats 4000000
namespace Go.Proofs.YtfcgoainglpdlaaGreatDoor
open Go.RowKit
open Go.Lib hiding intOf
section
variable {ops:Array Oper} {rest:List Oper} {o:Oper} {a:Act} {w:World} {Q:Exit→Act→World→Prop}
theorem boxStore (T:TypeId) (n:Nat) (hi:(Tryz.prog.info? T).map (·.size)=some n) (hgd:o.guard=none) (x y:Operand) (ho:o.op=.store T x y) (g:Nat) (hx:a.eval x=.pointer (some ⟨g,0,none⟩)) (cs:List Value) (hy:a.eval y=.agg cs.toArray) {t:TypeId} {old:Array Value} (hg:Blk w g t old) (hold:old.size=n) (hs:cs.length=n) (h1:cs.all (·.oneCell')=true)
  (h:wpList Tryz.prog ops Q rest (a.put o.dst undef) (w.setRow g cs.toArray)):wpList Tryz.prog ops Q (o::rest) a w :=
 wpList_store_row hgd T x y ho g cs.toArray hx hy t old hg (by rw [hi,List.size_toArray,hs]) (by rw [hold,List.size_toArray,hs]) (by simpa only [List.all_toArray] using h1) h
theorem boxNew (T:TypeId) (n:Nat) (hi:(Tryz.prog.info? T).map (·.size)=some n) (hgd:o.guard=none) (x y:Operand) (ho:o.op=.store T x y) {t:TypeId} {old:Array Value} (hx:a.eval x=.pointer (some ⟨w.heap.size,0,none⟩)) (cs:List Value) (hy:a.eval y=.agg cs.toArray) (hold:old.size=n) (hs:cs.length=n) (h1:cs.all (·.oneCell')=true)
  (h:wpList Tryz.prog ops Q rest (a.put o.dst undef) (w.alloc (.cells cs.toArray t))):wpList Tryz.prog ops Q (o::rest) a (w.alloc (.cells old t)):=by
 refine boxStore T n hi hgd x y ho w.heap.size hx cs hy (Blk.new w t old) hold hs h1 ?_
 rw [World.setRow_alloc_new]
 exact h
theorem boxLoad (T:TypeId) (n:Nat) (hi:(Tryz.prog.info? T).map (·.size)=some n) {fs:_} (hu:Tryz.prog.underlying T=some (.struct fs)) (hgd:o.guard=none) (x:Operand) (ho:o.op=.load T x) (g:Nat) (hx:a.eval x=.pointer (some ⟨g,0,none⟩)) {t:TypeId} {cs:List Value} (hg:Blk w g t cs.toArray) (hs:cs.length=n)
  (h:wpList Tryz.prog ops Q rest (a.put o.dst (.agg cs.toArray)) w):wpList Tryz.prog ops Q (o::rest) a w :=
 wpList_load_row hgd T x ho g hx t cs.toArray (0,0) _ hg hu rfl (by rw [hi,List.size_toArray,hs]) h
theorem boxRes (T:TypeId) (n:Nat) (hi:(Tryz.prog.info? T).map (·.size)=some n) {fs:_} (hu:Tryz.prog.underlying T=some (.struct fs)) {fn:Func} {p:Tmp} (hr:fn.results=#[.cell p T]) (tmps:Array Value) (g:Nat) (hp:tmps.getD p undef=.pointer (some ⟨g,0,none⟩)) {t:TypeId} {cs:List Value} (hg:Blk w g t cs.toArray) (hs:cs.length=n) :
  (results fn tmps).run Tryz.prog w=.ok (.agg cs.toArray) w :=
 results_cell_row hr tmps w g t cs.toArray (0,0) _ hp hg hu rfl (by rw [hi,List.size_toArray,hs])
theorem boxPart (T:TypeId) (n:Nat) (hi:(Tryz.prog.info? T).map (·.size)=some n) (hgd:o.guard=none) (x y:Operand) (ho:o.op=.store T x y) (g off:Nat) (hx:a.eval x=.pointer (some ⟨g,off,none⟩)) (cs:List Value) (hy:a.eval y=.agg cs.toArray) {t:TypeId} {cur:List Value} (hg:Blk w g t cur.toArray) (hs:cs.length=n) (hsz:off + n≤cur.length) (h1:cs.all (·.oneCell')=true)
  (h:wpList Tryz.prog ops Q rest (a.put o.dst undef) (w.setRow g (putL cur off cs).toArray)):wpList Tryz.prog ops Q (o::rest) a w :=
 wpList_store_at hgd T x y ho g off cs.toArray hx hy t cur hg (by rw [hi,List.size_toArray,hs]) (by rw [List.size_toArray,hs];exact hsz) (by simpa using h1) (by simpa using h)
theorem boxRow1 (ts T:TypeId) (n:Nat) (z:Value) (hu:Tryz.prog.underlying ts=some (.slice T)) (hi:(Tryz.prog.info? T).map (fun i=>(i.zero,i.size))=some (some z,n)) (_hz:z.cells.size=n) (hn:0 < n∧n≤1000) (hgd:o.guard=none) (x:Operand) (ho:o.op=.buildSlice ts 1 #[(0,x)]) (cs:List Value) (hx:a.eval x=.agg cs.toArray) (hs:cs.length=n)
  (h:wpList Tryz.prog ops Q rest (a.put o.dst (.slice (some ⟨w.heap.size,0,none⟩) 1 1)) (w.alloc (.cells cs.toArray T))):wpList Tryz.prog ops Q (o::rest) a w:=by
 obtain ⟨i,hi1,hi2⟩:=Option.map_eq_some_iff.1 hi
 simp only [Prod.mk.injEq] at hi2
 obtain ⟨h0,h2⟩:=hi2
 refine wpList_buildSlice hgd ts T 1 _ ho cs.toArray i z hu hi1 h0 (by rw [h2];omega) (by rw [h2];omega) ?_ h
 rw [h2,Nat.one_mul]
 obtain ⟨r,hr,hsz,hk⟩:=Great.fill_dense hn.1 [.agg cs.toArray] 0 ((Array.range n).map (z.cells[· % z.cells.size]!)) (fun v hv=>by simp only [List.mem_singleton] at hv;subst hv;show cs.toArray.size=n;rw [List.size_toArray,hs]) (by simp)
 have e:(#[(0,x)].map fun (q:Nat × Operand)=>(q.1,a.eval q.2)).toList=(([Value.agg cs.toArray]:List Value).zipIdx 0).map fun x=>(x.2,x.1):=by simp [hx]
 have er:r=cs.toArray:=by
  refine Array.ext' ?_
  refine List.ext_getElem? fun k=>?_
  have:=hk k
  rw [Array.getElem?_toList,this]
  simp only [List.length_singleton,Nat.zero_mul,Nat.zero_add,Nat.one_mul,Nat.zero_le,true_and]
  by_cases hkn:k < n
  ·rw [if_pos hkn,Nat.div_eq_of_lt hkn,Nat.mod_eq_of_lt hkn]
   show (cs.toArray)[k]?=_
   simp
  ·rw [if_neg hkn]
   rw [List.getElem?_eq_none (l:=cs.toArray.toList) (by simp;omega)]
   rw [Array.getElem?_eq_none (by simp;omega)]
 rw [← er,← hr]
 exact congrArg _ e
end
structure Elt (α:Type) where
 k:Nat
 pos:0 < k
 One:(Nat→Prop)→World→α→Value→Prop
 keep:∀ {P P':Nat→Prop} {w w':World},(∀ (b i:Nat) (u:Value),P b→w.cell? ⟨b,i,none⟩=some u→P' b)→(∀ (b i:Nat) (u:Value),P b→w.cell? ⟨b,i,none⟩=some u→w'.cell? ⟨b,i,none⟩=some u)→∀ {x:α} {v:Value},One P w x v→One P' w' x v
 cells:∀ {P:Nat→Prop} {w:World} {x:α} {v:Value},One P w x v→∃ cs:List Value,v=.agg cs.toArray∧cs.length=k∧cs.all (·.oneCell')=true
def eltT:Elt TX:=⟨5,by decide,IsTP,fun hP hk _ _ h=>IsTP.keep hP hk h,fun h=>by
 obtain ⟨k,p,g,n,o,m,rfl⟩:=IsTP.parts h
 exact ⟨_,rfl,rfl,rfl⟩⟩
def eltP:Elt PX:=⟨7,by decide,IsPX,fun hP hk _ _ h=>IsPX.keep hP hk h,fun h=>by
 obtain ⟨tk,tp,tg,tn,tz,ta,rfl,_⟩:=h
 exact ⟨_,rfl,rfl,rfl⟩⟩
def eltM:Elt MX:=⟨9,by decide,IsMX,fun hP hk _ _ h=>IsMX.keep hP hk h,fun h=>by
 obtain ⟨o,c,tk,tp,tg,tn,tz,ta,rfl,_⟩:=h
 exact ⟨_,rfl,rfl,rfl⟩⟩
def eltD:Elt DX:=⟨22,by decide,IsDX,fun hP hk _ _ h=>IsDX.keep hP hk h,fun h=>by
 obtain ⟨rn,rp,rk,rq,rg,rm,rz,ra,ob,cb,of,cf,om,cm,tk,tp,tg,tn,tz,ta,os,cs,rfl,_⟩:=h
 exact ⟨_,rfl,rfl,rfl⟩⟩
def eltN:Elt (ByteArray × Int):=⟨2,by decide,fun _ _=>IsNX,fun _ _ _ _ h=>h,fun h=>by
 obtain rfl:=h
 exact ⟨_,rfl,rfl,rfl⟩⟩
section
variable {α:Type} (E:Elt α)
def ChG (P:Nat→Prop) (w:World):List α→List (List Value)→Prop
 |[],[]=>True
 |x::xs,c::cs=>c.length=E.k∧c.all (·.oneCell')=true∧E.One P w x (.agg c.toArray)∧ChG P w xs cs
 |_,_=>False
variable {E}
theorem ChG.keep {P P':Nat→Prop} {w w':World} (hP:∀ (b i:Nat) (u:Value),P b→w.cell? ⟨b,i,none⟩=some u→P' b) (hk:∀ (b i:Nat) (u:Value),P b→w.cell? ⟨b,i,none⟩=some u→w'.cell? ⟨b,i,none⟩=some u):∀ {xs:List α} {cs:List (List Value)},ChG E P w xs cs→ChG E P' w' xs cs
 |[],[],_=>by unfold ChG;trivial
 |x::xs,c::cs,h=>by
  unfold ChG at h ⊢
  exact ⟨h.1,h.2.1,E.keep hP hk h.2.2.1,ChG.keep hP hk h.2.2.2⟩
 |[],_::_,h=>by unfold ChG at h;exact h.elim
 |_::_,[],h=>by unfold ChG at h;exact h.elim
theorem ChG.below {P:Nat→Prop} {w w':World} {xs:List α} {cs:List (List Value)} (h:ChG E P w xs cs) (hb:Below w.heap.size w w'):ChG E P w' xs cs :=
 h.keep (fun _ _ _ h _=>h) fun _ _ _ _ hc=>(hb.cell (World.block_lt_of_cell? _ _ hc)).trans hc
theorem ChG.mono {P P':Nat→Prop} {w:World} {xs:List α} {cs:List (List Value)} (hP:∀ k,k < w.heap.size→P k→P' k) (h:ChG E P w xs cs):ChG E P' w xs cs :=
 h.keep (fun b i _ hb hc=>hP b (World.block_lt_of_cell? w ⟨b,i,none⟩ hc) hb) fun _ _ _ _ hc=>hc
theorem ChG.kp {P:Nat→Prop} {b:Nat} {w w':World} {xs:List α} {cs:List (List Value)} (h:ChG E P w xs cs) (hk:Kp b w w') (hb:¬ P b):ChG E P w' xs cs :=
 h.keep (fun _ _ _ h _=>h) fun k i u hP hc=>by
  have e:w'.heap[k]?=w.heap[k]?:=hk.block k (World.block_lt_of_cell? w ⟨k,i,none⟩ hc) (fun e=>hb (e ▸ hP))
  exact (World.cell?_of_block (w:=w) (a:=⟨k,i,none⟩) e).trans hc
theorem ChG.grown {P:Nat→Prop} {w w':World} {row:Option Nat} {xs:List α} {cs:List (List Value)} (h:ChG E P w xs cs) (hg:w.grownBy w' row) (hr:∀ k,row=some k→¬ P k):ChG E P w' xs cs :=
 h.keep (fun _ _ _ h _=>h) fun k i u hP hc=>by
  have e:w'.heap[k]?=w.heap[k]?:=hg.block k (World.block_lt_of_cell? w ⟨k,i,none⟩ hc) (fun e=>hr k e.symm hP)
  exact (World.cell?_of_block (w:=w) (a:=⟨k,i,none⟩) e).trans hc
theorem ChG.snoc {P:Nat→Prop} {w:World} {y:α} {d:List Value} (hd:d.length=E.k) (h1:d.all (·.oneCell')=true) (hy:E.One P w y (.agg d.toArray)):∀ {xs:List α} {cs:List (List Value)},ChG E P w xs cs→ChG E P w (xs++[y]) (cs++[d])
 |[],[],_=>by unfold ChG;exact ⟨hd,h1,hy,by unfold ChG;trivial⟩
 |x::xs,c::cs,h=>by
  unfold ChG at h
  show ChG E P w (x::(xs++[y])) (c::(cs++[d]))
  unfold ChG
  exact ⟨h.1,h.2.1,h.2.2.1,ChG.snoc hd h1 hy h.2.2.2⟩
 |[],_::_,h=>by unfold ChG at h;exact h.elim
 |_::_,[],h=>by unfold ChG at h;exact h.elim
theorem ChG.len {P:Nat→Prop} {w:World}:∀ {xs:List α} {cs:List (List Value)},ChG E P w xs cs→cs.flatten.length=xs.length * E.k
 |[],[],_=>by simp
 |x::xs,c::cs,h=>by
  unfold ChG at h
  rw [List.flatten_cons,List.length_append,h.1,ChG.len h.2.2.2,List.length_cons,Nat.succ_mul];omega
 |[],_::_,h=>by unfold ChG at h;exact h.elim
 |_::_,[],h=>by unfold ChG at h;exact h.elim
theorem ChG.row {P:Nat→Prop} {w:World} {g:Nat} (hg:P g):∀ {xs:List α} {cs:List (List Value)} {i:Nat},ChG E P w xs cs→(∀ j u,cs.flatten[j]?=some u→w.cell? ⟨g,i * E.k + j,none⟩=some u)→InRow E.k (E.One P w) P w (some ⟨g,0,none⟩) i xs
 |[],[],_,_,_=>trivial
 |x::xs,c::cs,i,h,hc=>by
  unfold ChG at h
  obtain ⟨h1,h0,h2,h3⟩:=h
  refine ⟨⟨g,c,rfl,hg,h1,fun j u hu=>hc j u ?_,h2⟩,ChG.row hg h3 fun j u hj=>?_⟩
  ·rw [List.flatten_cons,List.getElem?_append_left (List.getElem?_eq_some_iff.1 hu).1];exact hu
  ·have h4:=hc (E.k + j) u (by rw [List.flatten_cons,List.getElem?_append_right (by rw [h1];omega),h1,Nat.add_sub_cancel_left];exact hj)
   rw [show (i + 1) * E.k + j=i * E.k + (E.k + j) by rw [Nat.succ_mul];omega]
   exact h4
 |[],_::_,_,h,_=>by unfold ChG at h;exact h.elim
 |_::_,[],_,h,_=>by unfold ChG at h;exact h.elim
variable (E)
def RowG (T:TypeId) (base:Nat) (w:World) (v:Value) (xs:List α):Prop :=
 ∃ cs:List (List Value),w.ownsRow base T E.k v xs.length cs.flatten∧ChG E (fun q=>base≤q∧some q≠v.ownBlock) w xs cs
variable {E} {T:TypeId}
theorem RowG.nil (base:Nat) (w:World):RowG E T base w (.slice none 0 0) []:=⟨[],World.ownsRow_nil _ _ _ _,by unfold ChG;trivial⟩
theorem RowG.slice {base:Nat} {w:World} {v:Value} {xs:List α} (h:RowG E T base w v xs):∃ o cap,v=.slice o xs.length cap:=by
 obtain ⟨cs,h,_⟩:=h
 rcases h.2 with ⟨h,h0⟩ | ⟨g,cap,cur,h,_⟩
 ·exact ⟨none,0,by rw [h,h0]⟩
 ·exact ⟨_,cap,h⟩
theorem RowG.kp {base b:Nat} {w w':World} {v:Value} {xs:List α} (h:RowG E T base w v xs) (hk:Kp b w w') (hb:b < base):RowG E T base w' v xs:=by
 obtain ⟨cs,h1,h2⟩:=h
 refine ⟨cs,?_,h2.kp hk (fun h=>by have:=h.1;omega)⟩
 refine ⟨h1.1,?_⟩
 rcases h1.2 with h | ⟨g,cap,cur,h,hbg,hg,r⟩
 ·exact .inl h
 ·refine .inr ⟨g,cap,cur,h,hbg,?_,r⟩
  rw [hk.block g (Array.getElem?_eq_some_iff.1 hg).1 (by omega)];exact hg
theorem RowG.below {base:Nat} {w w':World} {v:Value} {xs:List α} (h:RowG E T base w v xs) (hk:Below w.heap.size w w'):RowG E T base w' v xs:=by
 obtain ⟨cs,h1,h2⟩:=h
 refine ⟨cs,?_,h2.below hk⟩
 refine ⟨h1.1,?_⟩
 rcases h1.2 with h | ⟨g,cap,cur,h,hbg,hg,r⟩
 ·exact .inl h
 ·refine .inr ⟨g,cap,cur,h,hbg,?_,r⟩
  rw [hk.block g (Array.getElem?_eq_some_iff.1 hg).1];exact hg
theorem RowG.own_lt {base:Nat} {w:World} {v:Value} {xs:List α} (h:RowG E T base w v xs):∀ g,v.ownBlock=some g→g < w.heap.size:=by
 intro g hg
 obtain ⟨cs,h1,_⟩:=h
 rcases h1.2 with ⟨rfl,_⟩ | ⟨g',cap,cur,rfl,_,hh,_⟩
 ·cases hg
 ·simp only [Value.ownBlock,Option.some.injEq] at hg
  subst hg
  exact (Array.getElem?_eq_some_iff.1 hh).1
theorem RowG.row {base:Nat} {w:World} {v:Value} {xs:List α} (h:RowG E T base w v xs):∃ o cap,v=.slice o xs.length cap∧InRow E.k (E.One (fun q=>base≤q) w) (fun q=>base≤q) w o 0 xs:=by
 obtain ⟨cs,h1,h2⟩:=h
 rcases h1.2 with ⟨rfl,h0⟩ | ⟨g,cap,cur,rfl,hbg,hg,r⟩
 ·have:xs=[]:=List.length_eq_zero_iff.1 h0
  subst this
  exact ⟨none,0,rfl,trivial⟩
 ·refine ⟨_,cap,rfl,ChG.row (P:=fun q=>base≤q) (w:=w) hbg (h2.keep (fun _ _ _ h _=>h.1) fun _ _ _ _ h=>h) fun j u hj=>?_⟩
  rw [Nat.zero_mul,Nat.zero_add,h1.cellAt j (by have:=(List.getElem?_eq_some_iff.1 hj).1;have:=h2.len;omega)]
  exact hj
theorem RowG.one {base B:Nat} {W:World} {y:α} {c:List Value} (hc:c.length=E.k) (h1:c.all (·.oneCell')=true) (hy:E.One (fun q=>B≤q) W y (.agg c.toArray)) (hbase:base≤B) (hB:B≤W.heap.size) :
  RowG E T base (W.alloc (.cells c.toArray T)) (.slice (some ⟨W.heap.size,0,none⟩) 1 1) [y]:=by
 refine ⟨[c],?_,?_⟩
 ·have:=World.ownsRow_lit (base:=base) (e:=T) (size:=E.k) W c.toArray 1 (by omega) (by decide) (by rw [List.size_toArray,hc,Nat.one_mul])
  simpa using this
 ·unfold ChG
  refine ⟨hc,h1,E.keep (fun b i u (hb:B≤b) hcu=>⟨by omega,?_⟩) (fun b i u _ hcu=>(((Below.refl _ _).alloc (Nat.le_refl _) _).cell (World.block_lt_of_cell? _ _ hcu)).trans hcu) hy,by unfold ChG;trivial⟩
  intro e
  have hk:=World.block_lt_of_cell? _ ⟨b,i,none⟩ hcu
  simp only [Value.ownBlock,Option.some.injEq] at e hk
  omega
theorem RowG.append {ts:TypeId} {bytes:Nat} {z:Value} (hu:Tryz.prog.underlying ts=some (.slice T)) (hi:(Tryz.prog.info? T).map (fun i=>(i.zero,i.size,i.bytes))=some (some z,E.k,bytes)) (hz:z.cells.size=E.k) (hbt:bytes≤1000)
  (base:Nat) (ty:TypeId) (W:World) (v:Value) (xs:List α) (hv:RowG E T base W v xs) (B:Nat) (hbase:base≤B) (hB:∀ g,v.ownBlock=some g→g < B) (y:α) (c:List Value) (hc:c.length=E.k) (h1c:c.all (·.oneCell')=true) (hy:E.One (fun q=>B≤q) W y (.agg c.toArray)) (hBW:B≤W.heap.size) (hn:xs.length + 1≤1073741825) :
  ∃ v' w',(Builtin.append_ #[ts,ts] ty #[v,.slice (some ⟨W.heap.size,0,none⟩) 1 1]).run Tryz.prog (W.alloc (.cells c.toArray T))=.ok v' w'∧RowG E T base w' v' (xs++[y])∧Below base (W.alloc (.cells c.toArray T)) w':=by
 obtain ⟨i0,hi,hi'⟩:=Option.map_eq_some_iff.1 hi
 simp only [Prod.mk.injEq] at hi'
 obtain ⟨hz0,hz1,hz2⟩:=hi'
 obtain ⟨cs,hown,hch⟩:=hv
 have hown1:=hown.alloc (.cells c.toArray T)
 have hch1:=hch.below ((Below.refl _ _).alloc (Nat.le_refl _) (.cells c.toArray T))
 have hy1:E.One (fun q=>B≤q) (W.alloc (.cells c.toArray T)) y (.agg c.toArray):=E.keep (fun _ _ _ h _=>h) (fun b i u _ hcu=>(((Below.refl _ _).alloc (Nat.le_refl _) _).cell (World.block_lt_of_cell? _ _ hcu)).trans hcu) hy
 have hnew:=(Blk.new W T c.toArray).cell
 have hb1:(xs.length + 1) * bytes≤140737488355328:=Nat.le_trans (Nat.mul_le_mul hn hbt) (by decide)
 obtain ⟨v',w',hrun,hown',hcase⟩:=run_append_tells (P:=Tryz.prog) (W.alloc (.cells c.toArray T)) base ts ty T i0 z E.k bytes hu hi hz0 hz1 hz2 hz E.pos v xs.length cs.flatten hown1
  ⟨W.heap.size,0,none⟩ 1 1 c (by rw [hc,Nat.one_mul]) (fun j u hu=>by rw [add_none',Nat.zero_add,hnew j];simpa using hu) (List.all_eq_true.1 h1c) (by unfold maxLen;omega) hb1 (by simp;omega) (by decide)
 refine ⟨v',w',hrun,⟨cs++[c],by rw [List.length_append,List.flatten_append];simpa using hown',?_⟩,?_⟩
 ·rcases hcase with ⟨cap,rfl,hg⟩ | ⟨g,cap,rfl,rfl,hg⟩
  ·refine ChG.snoc hc h1c ?_ (ChG.mono (fun k hk hp=>⟨hp.1,by intro e;simp only [Value.ownBlock,Option.some.injEq,World.size_alloc] at e hk;have:=hp;omega⟩) (hch.below (Below.refl _ _)) |>.below ((Below.refl _ _).alloc (Nat.le_refl _) _) |>.grown hg (fun k e=>by cases e))
   exact E.keep (P:=fun k=>B≤k) (fun k i u (hp:B≤k) hcu=>⟨by omega,by intro e;have hk:=World.block_lt_of_cell? _ ⟨k,i,none⟩ hcu;simp only [Value.ownBlock,Option.some.injEq,World.size_alloc] at e hk;omega⟩) (fun k i u hP hcu=>by
    have e:w'.heap[k]?=_:=hg.block k (World.block_lt_of_cell? _ ⟨k,i,none⟩ hcu) (by simp)
    exact (World.cell?_of_block (a:=⟨k,i,none⟩) e).trans hcu) hy1
  ·have hgB:=hB g rfl
   refine ChG.snoc hc h1c ?_ (hch1.grown hg (fun k e hp=>by cases e;exact hp.2 rfl))
   exact E.keep (P:=fun k=>B≤k) (P':=fun q=>base≤q∧some q≠(Value.slice (some ⟨g,0,none⟩) (xs.length + 1) cap).ownBlock) (fun k i u (hp:B≤k) hcu=>⟨by omega,by intro e;simp only [Value.ownBlock,Option.some.injEq] at e;omega⟩) (fun k i u (hP:B≤k) hcu=>by
    have e:w'.heap[k]?=_:=hg.block k (World.block_lt_of_cell? _ ⟨k,i,none⟩ hcu) (by intro e;injection e with e;omega)
    exact (World.cell?_of_block (a:=⟨k,i,none⟩) e).trans hcu) hy1
 ·rcases hcase with ⟨cap,rfl,hg⟩ | ⟨g,cap,rfl,rfl,hg⟩
  ·exact below_grown' hg (by simp;omega) (fun k e=>by cases e)
  ·refine below_grown' hg (by simp;omega) (fun k e=>?_)
   cases e
   rcases hown.2 with ⟨h,_⟩ | ⟨g',cap',cur,h,hbg,_⟩
   ·cases h
   ·injection h with h
    injection h with h
    injection h with h
    omega
theorem boxAppend {ops:Array Oper} {rest:List Oper} {o:Oper} {a:Act} {Q:Exit→Act→World→Prop} {ts:TypeId} {bytes:Nat} {z:Value} (hu:Tryz.prog.underlying ts=some (.slice T)) (hi:(Tryz.prog.info? T).map (fun i=>(i.zero,i.size,i.bytes))=some (some z,E.k,bytes)) (hz:z.cells.size=E.k) (hbt:bytes≤1000)
  (hgd:o.guard=none) (s x:Operand) (ho:o.op=.call { callee:=.builtin .append,args:=#[s,x],argTypes:=#[ts,ts] }) (base:Nat) (W:World) (v:Value) (xs:List α) (hs:a.eval s=v) (hx:a.eval x=.slice (some ⟨W.heap.size,0,none⟩) 1 1)
  (hv:RowG E T base W v xs) (B:Nat) (hbase:base≤B) (hB:∀ g,v.ownBlock=some g→g < B) (y:α) (c:List Value) (hc:c.length=E.k) (h1c:c.all (·.oneCell')=true) (hy:E.One (fun q=>B≤q) W y (.agg c.toArray)) (hBW:B≤W.heap.size) (hn:xs.length + 1≤1073741825)
  (h:∀ v' w',RowG E T base w' v' (xs++[y])→Below base (W.alloc (.cells c.toArray T)) w'→wpList Tryz.prog ops Q rest (a.put o.dst v') w'):wpList Tryz.prog ops Q (o::rest) a (W.alloc (.cells c.toArray T)):=by
 obtain ⟨v',w',hrun,h1,h2⟩:=RowG.append hu hi hz hbt base o.type W v xs hv B hbase hB y c hc h1c hy hBW hn
 refine wpList_plain hgd fun K hK=>?_
 unfold Oper.wp
 simp [execOp,ho,resolve,invoke,builtin,hs,hx,hrun,Result.andThen]
 exact hK _ _ (h v' w' h1 h2)
end
theorem infoT:(Tryz.prog.info? 24).map (fun i=>(i.zero,i.size))=some (some (.agg #[.int .i64 0,.int .i64 0,.string ⟨#[]⟩,.string ⟨#[]⟩,.slice none 0 0]),5):=by kernel_rfl
theorem infoP:(Tryz.prog.info? 72).map (fun i=>(i.zero,i.size))=some (some (.agg #[.string ⟨#[]⟩,.int .i64 0,.int .i64 0,.int .i64 0,.string ⟨#[]⟩,.string ⟨#[]⟩,.slice none 0 0]),7):=by kernel_rfl
theorem infoM:(Tryz.prog.info? 111).map (fun i=>(i.zero,i.size))=some (some (.agg #[.string ⟨#[]⟩,.int .i64 0,.slice none 0 0,.bool false,.int .i64 0,.int .i64 0,.string ⟨#[]⟩,.string ⟨#[]⟩,.slice none 0 0]),9):=by kernel_rfl
def zeroDL:List Value:=[.int .i64 0,.int .i64 0,.int .i64 0,.string ⟨#[]⟩,.bool false,.string ⟨#[]⟩,.int .i64 0,.int .i64 0,.int .i64 0,.string ⟨#[]⟩,.string ⟨#[]⟩,.slice none 0 0,.slice none 0 0,.slice none 0 0,.slice none 0 0,.bool false,.int .i64 0,.int .i64 0,.string ⟨#[]⟩,.string ⟨#[]⟩,.slice none 0 0,.slice none 0 0]
theorem infoD:(Tryz.prog.info? 76).map (fun i=>(i.zero,i.size))=some (some (.agg zeroDL.toArray),22):=by kernel_rfl
theorem infoN:(Tryz.prog.info? 69).map (fun i=>(i.zero,i.size))=some (some (.agg #[.string ⟨#[]⟩,.int .i64 0]),2):=by kernel_rfl
theorem infoF:(Tryz.prog.info? 42).map (fun i=>(i.zero,i.size))=some (some (.agg #[.string ⟨#[]⟩,.int .i64 0,.slice none 0 0,.slice none 0 0]),4):=by kernel_rfl
theorem sizeOfI {o:Option TypeInfo} {z:Option Value} {n:Nat} (h:o.map (fun i=>(i.zero,i.size))=some (z,n)):o.map (·.size)=some n:=by
 obtain ⟨i,ho,h2⟩:=Option.map_eq_some_iff.1 h
 injection h2 with _ h3
 rw [ho,Option.map_some,h3]
end Go.Proofs.YtfcgoainglpdlaaGreatDoor
namespace Go.Proofs.YtfcgoainglpdlaaGreatDoor
open Go.RowKit
open Go.Lib hiding intOf
structure FS (b:Nat) (o:Option Addr) (c:Nat) (l:List TZ) (i:Int) (w:World):Prop where
 blk:Blk w b 106 #[.slice o l.length c,.int .i64 i]
 toks:ZAt w o l
 far:l≠[]→∀ a,o=some a→a.block < b
 pos:0≤i
section
variable {b c:Nat} {o:Option Addr} {l:List TZ} {i:Int} {w w':World}
theorem FS.lt (h:FS b o c l i w):b < w.heap.size:=h.blk.lt
theorem FS.step (h:FS b o c l i w) (hb:Below w.heap.size w w'):FS b o c l i w' :=
 ⟨h.blk.below hb,h.toks.kp (b:=b) (.of_below hb) h.far,h.far,h.pos⟩
theorem FS.alloc (h:FS b o c l i w) (x:Obj):FS b o c l i (w.alloc x):=h.step ((Below.refl _ _).alloc (Nat.le_refl _) x)
theorem FS.drew (h:FS b o c l i w):FS b o c l i w.drew:=⟨h.blk,h.toks,h.far,h.pos⟩
theorem FS.under (h:FS b o c l i w) (hb:Below (b + 1) w w'):FS b o c l i w':=by
 refine ⟨(hb.block b (by omega)).trans h.blk,fun k t ht=>?_,h.far,h.pos⟩
 obtain ⟨a,ho,hc⟩:=h.toks k t ht
 refine ⟨a,ho,fun j u' hu=>?_⟩
 have e:=hb.block (a.add (k * 4 + j)).block (by rw [add_block];have:=h.far (at_ne ht) a ho;omega)
 exact (World.cell?_of_block (w:=w) e).trans (hc j u' hu)
theorem FS.set_ (h:FS b o c l i w) {a:Addr} (ha:b < a.block) (u:Value):FS b o c l i (w.setCell a u) :=
 h.under ((Below.refl _ _).setCell (by omega) u)
theorem FS.row (h:FS b o c l i w) {g:Nat} (hg:b < g) (cs:Array Value):FS b o c l i (w.setRow g cs):=h.under (setRow_under (by omega) cs)
theorem FS.next (h:FS b o c l i w) {i':Int} (hi:0≤i'):FS b o c l i' (w.setCell ⟨b,1,none⟩ (.int .i64 i')):=⟨h.blk.set_ 1 (.int .i64 i'),h.toks.kp (b:=b) ((Kp.refl b w).setCell (.inr rfl) _) h.far,h.far,hi⟩
theorem FS.cells (h:FS b o c l i w):w.cell? ⟨b,0,none⟩=some (.slice o l.length c)∧w.cell? ⟨b,1,none⟩=some (.int .i64 i)∧(∀ k,w.frozen? ⟨b,k,none⟩=false) :=
 ⟨h.blk.cell 0,h.blk.cell 1,h.blk.frozen⟩
end
def thrownF (p q:Int):List PanicEntry:=[{ v:=.iface 103 (.agg #[.int .i64 p,.int .i64 q]),recovered:=false }]
def TelF {α:Type} (b:Nat) (o:Option Addr) (c:Nat) (l:List TZ) (Is:Nat→World→α→Value→Prop) (w:World) (r:EO α) (e:Ending) (w':World):Prop :=
 match r with
 |.ok x j=>∃ v,e=.returned v∧Is w.heap.size w' x v∧FS b o c l j w'∧Kp b w w'
 |.err p q=>e=.panicked (thrownF p q)∧Kp b w w'
 |.out=>True
def isUnit (_:Nat) (_:World) (_:Unit) (v:Value):Prop:=v=.tuple #[]
def isName (_:Nat) (_:World) (n:ByteArray × Int) (v:Value):Prop:=v=.tuple #[.string n.1,.int .i64 n.2]
theorem misplacedF (t:TZ) (w:World):Calls Tryz.prog 108 #[.agg #[.int .i64 t.kind,.int .i64 t.pos,.int .i64 t.stop,.string t.text]] w fun e w'=>e=.panicked (thrownF t.pos 5)∧Below w.heap.size w w':=by
 go_enter Tryz.func108,Tryz.ntmps108
 go_wp2
 exact ⟨rfl,rfl,(Below.refl _ _).alloc (Nat.le_refl _) _⟩
section
variable {b c:Nat} {o:Option Addr} {l:List TZ} {i:Int} {w:World}
theorem peekF (S:FS b o c l i w) (hn:l.length≤9223372036854775807) :
  Calls Tryz.prog 85 #[.pointer (some ⟨b,0,none⟩)] w fun e w'=>e=.returned (.agg #[.int .i64 (tkAt l i).kind,.int .i64 (tkAt l i).pos,.int .i64 (tkAt l i).stop,.string (tkAt l i).text])∧Below w.heap.size w w':=by
 obtain ⟨p0,p1,pf⟩:=S.cells
 have hbl:=S.lt
 have hpos:=S.pos
 have H:=Lib.hid S.toks
 clear S
 by_cases hi:i < l.length
 ·obtain ⟨k,rfl⟩:∃ k:Nat,i=k:=⟨i.toNat,by omega⟩
  have hk:k < l.length:=by omega
  obtain ⟨a,rfl,c0,c1,c2,c3⟩:=H.out.tokM (List.getElem?_eq_getElem hk)
  have ht:=Lib.hid (tkAt_in (List.getElem?_eq_getElem hk))
  generalize l[k]=t at *
  rw [ht.out]
  go_enter Tryz.func85,Tryz.ntmps85
  go_wp2_with fail
  go_quiet (fail)
  go_wp2_with fail
  go_region
  all_goals
   go_wp2
   refine bodyPost_ret (v:=.agg #[.int .i64 t.kind,.int .i64 t.pos,.int .i64 t.stop,.string t.text]) (by simp [results,Tryz.results85,go_sem]) rfl ⟨rfl,?_⟩
   exact set4_below (below_drewN ((Below.refl _ _).alloc (Nat.le_refl _) _) _) (Nat.le_refl _) _ _ _ _
 ·have ht:=tkAt_out (l:=l) (i:=i) (by omega)
  rw [ht]
  clear ht
  by_cases hl:l.length=0
  ·have he:endOf l=0:=by rw [List.length_eq_zero_iff.1 hl];rfl
   rw [he]
   clear he
   have g1:¬ i < ((l.length:Nat):Int):=by omega
   go_enter Tryz.func85,Tryz.ntmps85
   go_wp2_with fail
   go_quiet (fail)
   go_wp2
   refine bodyPost_ret (v:=.agg #[.int .i64 0,.int .i64 0,.int .i64 0,.string ⟨#[]⟩]) (by simp [results,Tryz.results85,go_sem]) rfl ⟨rfl,?_⟩
   exact set4_below (below_drewN ((Below.refl _ _).alloc (Nat.le_refl _) _) _) (Nat.le_refl _) _ _ _ _
  ·obtain ⟨k,hk⟩:∃ k,l.length=k + 1:=⟨l.length - 1,by omega⟩
   have hkl:k < l.length:=by omega
   obtain ⟨a,rfl,c0,c1,c2,c3⟩:=H.out.tokM (List.getElem?_eq_getElem hkl)
   have he:=Lib.hid (endOf_last (List.getElem?_eq_getElem hkl) hk)
   generalize l[k]=t at *
   rw [he.out]
   have HK:=Lib.hid hk
   clear he c0 c1 c3
   rw [hk] at hi hn p0
   clear hk hkl
   have hk1:((k:Nat):Int) + 1 - 1=k:=by omega
   have hk2:(0:Int) < ((k:Nat):Int) + 1:=by omega
   have g1:¬ i < ((k:Nat):Int) + 1:=by omega
   go_enter Tryz.func85,Tryz.ntmps85
   go_wp2_with fail
   go_quiet (fail)
   go_wp2_with fail
   go_quiet (fail)
   go_wp2
   refine bodyPost_ret (v:=.agg #[.int .i64 0,.int .i64 t.stop,.int .i64 t.stop,.string ⟨#[]⟩]) (by simp [results,Tryz.results85,go_sem]) rfl ⟨rfl,?_⟩
   exact set4_below (below_drewN ((Below.refl _ _).alloc (Nat.le_refl _) _) _) (Nat.le_refl _) _ _ _ _
theorem seesF (S:FS b o c l i w) (hn:l.length≤9223372036854775807) (k:Int) (y:ByteArray) :
  Calls Tryz.prog 83 #[.pointer (some ⟨b,0,none⟩),.int .i64 k,.string y] w fun e w'=>e=.returned (.bool (isKT (tkAt l i) k y))∧Below w.heap.size w w':=by
 have HP:=Lib.hid (peekF S hn)
 clear S hn
 generalize tkAt l i=t at *
 unfold isKT
 by_cases hk:t.kind=k
 ·have d:decide (t.kind=k)=true:=by simpa using hk
  have e:(t.kind == k)=true:=by simpa using hk
  rw [d]
  clear hk
  go_enter Tryz.func83,Tryz.ntmps83
  go_wp2_with fail
  refine HP.out.mono ?_
  rintro e' w1 ⟨rfl,hB⟩
  have B1:=Lib.hid hB
  clear hB
  go_wp2
  go_ret
  exact ⟨rfl,B1.out.alloc B1.out.size _⟩
 ·have d:decide (t.kind=k)=false:=by simpa using hk
  have e:(t.kind == k)=false:=by simpa using hk
  rw [d]
  clear hk
  go_enter Tryz.func83,Tryz.ntmps83
  go_wp2_with fail
  refine HP.out.mono ?_
  rintro e' w1 ⟨rfl,hB⟩
  have B1:=Lib.hid hB
  clear hB
  go_wp2
  go_ret
  exact ⟨rfl,B1.out.alloc B1.out.size _⟩
theorem expectF_ok (S:FS b o c l i w) (hn:l.length≤1073741824) {k:Int} {y:ByteArray} (hk:k≠0) (hy:isKT (tkAt l i) k y=true) :
  Calls Tryz.prog 81 #[.pointer (some ⟨b,0,none⟩),.int .i64 k,.string y] w fun e w'=>e=.returned (.tuple #[])∧FS b o c l (i + 1) w'∧Kp b w w':=by
 have HS:=Lib.hid (seesF S (by omega) k y)
 have hr:=isKT_real hk hy
 have hi0:=S.pos
 have hi1:i < 1073741824:=by omega
 have H:=Lib.hid S
 rw [hy] at HS
 clear S hn hk hy hr
 go_enter Tryz.func81,Tryz.ntmps81
 go_wp2_with fail
 refine HS.out.mono ?_
 rintro e w1 ⟨rfl,hB⟩
 have S1:=Lib.hid (H.out.step hB)
 have K1:=Lib.hid ((Kp.refl b w).then_below hB)
 obtain ⟨p0,p1,pf⟩:=S1.out.cells
 have hb1:=S1.out.lt
 clear hB
 go_wp2
 refine bodyPost_end (results_none rfl _ _ _) rfl ⟨rfl,S1.out.next (by omega),K1.out.setCell (.inr rfl) _⟩
theorem expectF_no (S:FS b o c l i w) (hn:l.length≤1073741824) {k:Int} {y:ByteArray} (hy:isKT (tkAt l i) k y=false) :
  Calls Tryz.prog 81 #[.pointer (some ⟨b,0,none⟩),.int .i64 k,.string y] w fun e w'=>e=.panicked (thrownF (tkAt l i).pos 5)∧Kp b w w':=by
 have HS:=Lib.hid (seesF S (by omega) k y)
 have H:=Lib.hid S
 have HP:=Lib.hid (fun (W:World) (h:FS b o c l i W)=>peekF h (by omega))
 rw [hy] at HS
 clear S hn hy
 go_enter Tryz.func81,Tryz.ntmps81
 go_wp2_with fail
 refine HS.out.mono ?_
 rintro e w1 ⟨rfl,hB⟩
 have S1:=Lib.hid (H.out.step hB)
 have K1:=Lib.hid ((Kp.refl b w).then_below hB)
 clear hB
 go_wp2_with fail
 refine (HP.out _ S1.out).mono ?_
 rintro e w2 ⟨rfl,hB⟩
 have K2:=Lib.hid (K1.out.then_below hB)
 clear hB
 go_wp2_with fail
 refine (misplacedF (tkAt l i) w2).mono ?_
 rintro e w3 ⟨rfl,hB⟩
 have K3:=Lib.hid (K2.out.then_below hB)
 clear hB
 go_wp2
 exact ⟨rfl,rfl,K3.out⟩
theorem symF (S:FS b o c l i w) (hn:l.length≤1073741824) (z:UInt8) :
  Calls Tryz.prog 81 #[.pointer (some ⟨b,0,none⟩),.int .i64 4,.string ⟨#[z]⟩] w (TelF b o c l isUnit w (sy l z i)):=by
 unfold sy
 cases h:isS (tkAt l i) z
 ·exact (expectF_no S hn (by rw [isKT_S'];exact h)).mono fun e w' h=>h
 ·exact (expectF_ok S hn (by decide) (by rw [isKT_S'];exact h)).mono fun e w' h=>⟨_,h.1,rfl,h.2⟩
theorem wordF (S:FS b o c l i w) (hn:l.length≤1073741824) (s:List UInt8) :
  Calls Tryz.prog 81 #[.pointer (some ⟨b,0,none⟩),.int .i64 5,.string ⟨s.toArray⟩] w (TelF b o c l isUnit w (wo l s i)):=by
 unfold wo
 cases h:isW (tkAt l i) s
 ·exact (expectF_no S hn (by rw [isKT_W'];exact h)).mono fun e w' h=>h
 ·exact (expectF_ok S hn (by decide) (by rw [isKT_W'];exact h)).mono fun e w' h=>⟨_,h.1,rfl,h.2⟩
theorem seesSF (S:FS b o c l i w) (hn:l.length≤1073741824) (z:UInt8) :
  Calls Tryz.prog 83 #[.pointer (some ⟨b,0,none⟩),.int .i64 4,.string ⟨#[z]⟩] w fun e w'=>e=.returned (.bool (isS (tkAt l i) z))∧Below w.heap.size w w':=by
 have:=seesF S (by omega) 4 ⟨#[z]⟩
 rwa [isKT_S'] at this
theorem seesWF (S:FS b o c l i w) (hn:l.length≤1073741824) (s:List UInt8) :
  Calls Tryz.prog 83 #[.pointer (some ⟨b,0,none⟩),.int .i64 5,.string ⟨s.toArray⟩] w fun e w'=>e=.returned (.bool (isW (tkAt l i) s))∧Below w.heap.size w w':=by
 have:=seesF S (by omega) 5 ⟨s.toArray⟩
 rwa [isKT_W'] at this
theorem nameF (S:FS b o c l i w) (hn:l.length≤1073741824) (hf:Fits l) :
  Calls Tryz.prog 82 #[.pointer (some ⟨b,0,none⟩)] w (TelF b o c l isName w (na l i)):=by
 have HP:=Lib.hid (peekF S (by omega))
 have HC:=Lib.hid (fun W:World=>clone_any (tkAt l i).text W (hf.tkAt i))
 have H:=Lib.hid S
 have hi0:=S.pos
 by_cases hk:(tkAt l i).kind=1
 ·have hr:=tkAt_real (l:=l) (i:=i) (by rw [hk];decide)
  have e1:((tkAt l i).kind != 1)=false:=by simpa using hk
  have hi1:i < 1073741824:=by omega
  have hna:na l i=.ok ((tkAt l i).text,(tkAt l i).pos) (i + 1):=by unfold na;rw [if_pos hk]
  rw [hna]
  clear S hn hf hr hna hk
  generalize tkAt l i=t at *
  go_enter Tryz.func82,Tryz.ntmps82
  go_wp2_with fail
  refine HP.out.mono ?_
  rintro e w1 ⟨rfl,hB⟩
  have S1:=Lib.hid (H.out.step hB)
  have K1:=Lib.hid ((Kp.refl b w).then_below hB)
  obtain ⟨p0,p1,pf⟩:=(H.out.step hB).cells
  have hb1:=(H.out.step hB).lt
  have hbn:b≠w1.heap.size:=by omega
  have hbn2:b < w1.heap.size + 1:=by omega
  clear hB
  go_wp2_with fail
  change Code.wp _ _ _ _ ((w1.setCell ⟨b,1,none⟩ (.int .i64 (i + 1))).alloc (.cells #[.int .i64 t.kind,.int .i64 t.pos,.int .i64 t.stop,.string t.text] 81))
  have hsz:(w1.setCell ⟨b,1,none⟩ (.int .i64 (i + 1))).heap.size=w1.heap.size:=by simp [World.setCell]
  have S2:=Lib.hid ((S1.out.next (i':=i + 1) (by omega)).alloc (.cells #[.int .i64 t.kind,.int .i64 t.pos,.int .i64 t.stop,.string t.text] 81))
  have K2:=Lib.hid ((K1.out.setCell (p:=⟨b,1,none⟩) (.inr rfl) (.int .i64 (i + 1))).alloc (.cells #[.int .i64 t.kind,.int .i64 t.pos,.int .i64 t.stop,.string t.text] 81))
  have X2:Hid (Blk ((w1.setCell ⟨b,1,none⟩ (.int .i64 (i + 1))).alloc (.cells #[.int .i64 t.kind,.int .i64 t.pos,.int .i64 t.stop,.string t.text] 81)) w1.heap.size 81 #[.int .i64 t.kind,.int .i64 t.pos,.int .i64 t.stop,.string t.text]):=by have h:=Blk.new (w1.setCell ⟨b,1,none⟩ (.int .i64 (i + 1))) 81 #[.int .i64 t.kind,.int .i64 t.pos,.int .i64 t.stop,.string t.text];rw [hsz] at h;exact h
  clear hsz
  generalize (w1.setCell ⟨b,1,none⟩ (.int .i64 (i + 1))).alloc (.cells #[.int .i64 t.kind,.int .i64 t.pos,.int .i64 t.stop,.string t.text] 81)=w2 at *
  have x2:=X2.out.cell
  have l2:=X2.out.lt
  clear p0 p1 pf
  go_region_with (go_at_call 41;refine (HC.out _).mono ?_;rintro e w3 ⟨rfl,hB⟩;have B3:=Lib.hid hB.undrew;have x3:=(X2.out.below hB.undrew).cell;clear hB)
  all_goals
   go_wp2
   refine bodyPost_ret (v:=.tuple #[.string t.text,.int .i64 t.pos]) (by simp [results,Tryz.results82,go_sem]) rfl ?_
   exact ⟨_,rfl,rfl,S2.out.step B3.out,K2.out.then_below B3.out⟩
 ·have e1:((tkAt l i).kind != 1)=true:=by simpa using hk
  have hna:na l i=.err (tkAt l i).pos 5:=by unfold na;rw [if_neg hk]
  rw [hna]
  clear S hn hf hna hk
  generalize tkAt l i=t at *
  go_enter Tryz.func82,Tryz.ntmps82
  go_wp2_with fail
  refine HP.out.mono ?_
  rintro e w1 ⟨rfl,hB⟩
  have K1:=Lib.hid (((Kp.refl b w).then_below hB).alloc (.cells #[.int .i64 t.kind,.int .i64 t.pos,.int .i64 t.stop,.string t.text] 81))
  clear hB
  go_wp2_with fail
  refine (misplacedF t _).mono ?_
  rintro e w3 ⟨rfl,hB⟩
  have K3:=Lib.hid (K1.out.then_below hB)
  clear hB
  go_wp2
  exact ⟨rfl,rfl,K3.out⟩
theorem goOn_ok (S:FS b o c l i w) {n p:Int} (hn:0≤n) :
  Calls Tryz.prog 153 #[.pointer (some ⟨b,0,none⟩),.int .i64 n,.agg #[.int .i64 p,.int .i64 0]] w fun e w'=>e=.returned (.tuple #[])∧FS b o c l n w'∧Kp b w w':=by
 obtain ⟨p0,p1,pf⟩:=S.cells
 have hbl:=S.lt
 have H:=Lib.hid S
 have hbn:b≠w.heap.size:=by omega
 clear S
 go_enter Tryz.func153,Tryz.ntmps153
 go_wp2
 refine bodyPost_end (results_none rfl _ _ _) rfl ⟨rfl,(H.out.next hn).alloc _,((Kp.refl b w).setCell (.inr rfl) _).alloc _⟩
theorem goOn_no (w:World) (a:Value) {n p q:Int} (hq:q≠0) :
  Calls Tryz.prog 153 #[a,.int .i64 n,.agg #[.int .i64 p,.int .i64 q]] w fun e w'=>e=.panicked (thrownF p q)∧Kp b w w':=by
 have e1:(q != 0)=true:=by simpa using hq
 clear hq
 go_enter Tryz.func153,Tryz.ntmps153
 go_wp2
 exact ⟨rfl,rfl,(Kp.refl b w).alloc _⟩
end
end Go.Proofs.YtfcgoainglpdlaaGreatDoor
