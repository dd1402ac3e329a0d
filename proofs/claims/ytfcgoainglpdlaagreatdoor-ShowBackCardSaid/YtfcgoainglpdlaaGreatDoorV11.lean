/- The walks of 'Same' and 'alike', where the lists are the same, or alike. Condition: the lists lie in memory as 'AtToks' says; at most 2^41 tokens. All's contract, and the document's own, where what is answered has names; what the bound of the second form gives. Condition: none beside the text's l .. -/
import Derived.Test.YtfcgoainglpdlaaGreatDoorV10
import Derived.Deep.QuietTactic
import Derived.BigQuiet
set_option maxRecDepth 100000
set_option maxHeartbeats 2000000
namespace Go.Proofs.YtfcgoainglpdlaaGreatDoor
open Go.RowKit
open Go.Lib hiding intOf
def AtToks (w:World) (o:Option Addr) (ts:List Tok):Prop:=∀ j u,(toksC ts)[j]?=some u→∃ g off,o=some ⟨g,off,none⟩∧w.cell? ⟨g,off + j,none⟩=some u
theorem AtToks.below {w w':World} {o:Option Addr} {ts:List Tok} (h:AtToks w o ts) (hb:Below w.heap.size w w'):AtToks w' o ts:=fun j u hu=>by
 obtain ⟨g,off,h1,h2⟩:=h j u hu
 exact ⟨g,off,h1,(hb.cell (World.block_lt_of_cell? _ _ h2)).trans h2⟩
theorem IsToks.at_ {w:World} {v:Value} {ts:List Tok} (h:IsToks w v ts):∃ o cap,v=.slice o ts.length cap∧ts.length≤cap∧AtToks w o ts:=by
 obtain ⟨o,cap,hv,hle,hc⟩:=h
 exact ⟨o,cap,hv,hle,fun j u hu=>by obtain ⟨g,h1,h2⟩:=hc j u hu;exact ⟨g,0,h1,by rw [Nat.zero_add];exact h2⟩⟩
theorem toksC_at (ts:List Tok) (k:Nat) (t:Tok) (h:ts[k]?=some t) (j:Nat) (hj:j < 4):(toksC ts)[k * 4 + j]?=(tokC t)[j]?:=by
 induction ts generalizing k with
 |nil=>simp at h
 |cons x r ih =>
  have hl:(tokC x).length=4:=rfl
  cases k with
  |zero =>
   simp at h;subst h
   show (tokC x++toksC r)[0 * 4 + j]?=_
   rw [Nat.zero_mul,Nat.zero_add,List.getElem?_append_left (by rw [hl];exact hj)]
  |succ k =>
   show (tokC x++toksC r)[(k + 1) * 4 + j]?=_
   rw [List.getElem?_append_right (by rw [hl];omega),hl,show (k + 1) * 4 + j - 4=k * 4 + j by omega]
   exact ih k (by simpa using h)
theorem below_drewN {B:Nat} {a w:World} (h:Below B a w) (n:Nat):Below B a (w.drewN n):=h.trans ⟨rfl,rfl,rfl,Nat.le_refl _,fun _ _=>rfl⟩
def key (t:Tok):Int × List UInt8:=(t.kind,t.text)
end Go.Proofs.YtfcgoainglpdlaaGreatDoor
namespace Go.Proofs.YtfcgoainglpdlaaGreatDoor
open Go.RowKit
open Go.Lib hiding intOf
theorem all_at (s:ByteArray) (ts:List Tok) (a:Nat) (c:Int) (hl:lexed s.data.toList=(ts,a,c)) (w:World) (hs:s.size≤9223372036854775807) :
  Calls Tryz.prog 22 #[.string s] w fun e w'=>∃ o cap,e=.returned (.tuple #[.slice o ts.length cap,.agg #[.int .i64 (a:Nat),.int .i64 c]])∧AtToks w' o ts∧Below w.heap.size w w'∧ts.length≤cap :=
 (all_any s w hs).mono fun e w' ⟨v,he,ht,hb⟩=>by
  rw [hl] at he ht
  obtain ⟨o,cap,hv,hle,ht⟩:=ht.at_
  simp only at he ht hv hle
  exact ⟨o,cap,by rw [he,hv],ht,hb,hle⟩
end Go.Proofs.YtfcgoainglpdlaaGreatDoor
namespace Go.Proofs.YtfcgoainglpdlaaGreatDoor
open Go.RowKit
open Go.Lib hiding intOf
structure TZ where
 kind:Int
 pos:Int
 stop:Int
 text:ByteArray
def noText:ByteArray:=⟨#[]⟩
def tz0 (e:Int):TZ:=⟨0,e,e,noText⟩
def endOf (l:List TZ):Int:=match l.getLast? with
 |some z=>z.stop
 |none=>0
def tkAt (l:List TZ) (i:Int):TZ:=if 0≤i then (l[i.toNat]?).getD (tz0 (endOf l)) else tz0 (endOf l)
def tzC (t:TZ):List Value:=[.int .i64 t.kind,.int .i64 t.pos,.int .i64 t.stop,.string t.text]
def tzV (t:TZ):Value:=.agg #[.int .i64 t.kind,.int .i64 t.pos,.int .i64 t.stop,.string t.text]
def ZAt (w:World) (o:Option Addr) (l:List TZ):Prop:=∀ k t,l[k]?=some t→∃ a,o=some a∧∀ j u,(tzC t)[j]?=some u→w.cell? (a.add (k * 4 + j))=some u
theorem ZAt.below {w w':World} {o:Option Addr} {l:List TZ} (h:ZAt w o l) (hb:Below w.heap.size w w'):ZAt w' o l:=fun k t hk=>by
 obtain ⟨a,ho,hc⟩:=h k t hk
 exact ⟨a,ho,fun j u hu=>(hb.cell (World.block_lt_of_cell? _ _ (hc j u hu))).trans (hc j u hu)⟩
theorem add_more (a:Addr) (i j:Nat):(a.add i).add j=a.add (i + j):=by
 unfold Addr.add
 by_cases hi:i=0
 ·subst hi;simp
 ·by_cases hj:j=0
  ·subst hj;simp
  ·simp [hi,hj];omega
theorem add_at (a:Addr) (n j:Nat) (hj:j≠0):a.add (n + j)=⟨(a.add n).block,(a.add n).off + j,none⟩:=by
 rw [← add_more]
 generalize a.add n=b
 unfold Addr.add
 rw [if_neg hj]
theorem ZAt.tok {w:World} {o:Option Addr} {l:List TZ} (h:ZAt w o l) {k:Nat} {t:TZ} (ht:l[k]?=some t):∃ a,o=some a ∧
  w.cell? (a.add (k * 4))=some (.int .i64 t.kind)∧w.cell? ⟨(a.add (k * 4)).block,(a.add (k * 4)).off + 1,none⟩=some (.int .i64 t.pos)∧w.cell? ⟨(a.add (k * 4)).block,(a.add (k * 4)).off + 2,none⟩=some (.int .i64 t.stop)∧w.cell? ⟨(a.add (k * 4)).block,(a.add (k * 4)).off + 3,none⟩=some (.string t.text):=by
 obtain ⟨a,ho,hc⟩:=h k t ht
 refine ⟨a,ho,hc 0 _ rfl,?_,?_,?_⟩
 ·rw [← add_at a _ 1 (by decide)];exact hc 1 _ rfl
 ·rw [← add_at a _ 2 (by decide)];exact hc 2 _ rfl
 ·rw [← add_at a _ 3 (by decide)];exact hc 3 _ rfl
theorem tkAt_in {l:List TZ} {k:Nat} {t:TZ} (h:l[k]?=some t):tkAt l (k:Nat)=t:=by
 unfold tkAt;rw [if_pos (by omega),Int.toNat_natCast,h];rfl
theorem tkAt_out {l:List TZ} {i:Int} (h:i < 0∨(l.length:Int)≤i):tkAt l i=tz0 (endOf l):=by
 unfold tkAt
 split
 ·rw [List.getElem?_eq_none (by omega)];rfl
 ·rfl
theorem endOf_last {l:List TZ} {k:Nat} {t:TZ} (h:l[k]?=some t) (hk:l.length=k + 1):endOf l=t.stop:=by
 unfold endOf
 rw [List.getLast?_eq_getElem?,show l.length - 1=k by omega,h]
theorem ZAt.tokM {w:World} {o:Option Addr} {l:List TZ} (h:ZAt w o l) {k:Nat} {t:TZ} (ht:l[k]?=some t):∃ a,o=some a ∧
  (∀ x,(w.alloc x).cell? (a.add (k * 4))=some (.int .i64 t.kind))∧(∀ x,(w.alloc x).cell? ⟨(a.add (k * 4)).block,(a.add (k * 4)).off + 1,none⟩=some (.int .i64 t.pos))∧(∀ x,(w.alloc x).cell? ⟨(a.add (k * 4)).block,(a.add (k * 4)).off + 2,none⟩=some (.int .i64 t.stop))∧(∀ x,(w.alloc x).cell? ⟨(a.add (k * 4)).block,(a.add (k * 4)).off + 3,none⟩=some (.string t.text)):=by
 obtain ⟨a,ho,h0,h1,h2,h3⟩:=h.tok ht
 have hb:=fun x=>(Below.refl w.heap.size w).alloc (Nat.le_refl _) x
 exact ⟨a,ho,fun x=>((hb x).cell (World.block_lt_of_cell? _ _ h0)).trans h0,fun x=>((hb x).cell (World.block_lt_of_cell? _ _ h1)).trans h1,
  fun x=>((hb x).cell (World.block_lt_of_cell? _ _ h2)).trans h2,fun x=>((hb x).cell (World.block_lt_of_cell? _ _ h3)).trans h3⟩
theorem zero_at {l:List TZ} {i:Int} (h:l.length=0):tkAt l i=tz0 0:=by
 rw [tkAt_out (by omega),List.length_eq_zero_iff.1 h];rfl
theorem tokenAt_any (o:Option Addr) (c:Nat) (l:List TZ) (i:Int) (w:World) (h:ZAt w o l) (hn:l.length≤9223372036854775807) :
  Calls Tryz.prog 165 #[.slice o l.length c,.int .i64 i] w fun e w'=>e=.returned (tzV (tkAt l i))∧Below w.heap.size w w':=by
 have H:=Lib.hid h
 clear h
 by_cases hi:0≤i∧i < l.length
 ·obtain ⟨h0,h1⟩:=hi
  obtain ⟨k,rfl⟩:∃ k:Nat,i=k:=⟨i.toNat,by omega⟩
  have hk:k < l.length:=by omega
  obtain ⟨a,rfl,c0,c1,c2,c3⟩:=H.out.tokM (List.getElem?_eq_getElem hk)
  have ht:=Lib.hid (tkAt_in (List.getElem?_eq_getElem hk))
  generalize l[k]=t at *
  rw [ht.out]
  go_enter Tryz.func165,Tryz.ntmps165
  go_wp2
  refine bodyPost_ret (v:=tzV t) (by simp [tzV,results,Tryz.results165,go_sem]) rfl ⟨rfl,?_⟩
  exact (Below.refl _ _).alloc (Nat.le_refl _) _
 ·have ht:=tkAt_out (l:=l) (i:=i) (by omega)
  rw [ht]
  clear ht
  by_cases hl:l.length=0
  ·have he:endOf l=0:=by rw [List.length_eq_zero_iff.1 hl];rfl
   rw [he]
   clear he
   have hc:i < 0∨0≤i:=by omega
   rcases hc with hc | hc
   all_goals
    go_enter Tryz.func165,Tryz.ntmps165
    go_wp2
    refine bodyPost_ret (v:=tzV (tz0 0)) (by simp [tzV,tz0,noText,results,Tryz.results165,go_sem]) rfl ⟨rfl,?_⟩
    exact (Below.refl _ _).alloc (Nat.le_refl _) _
  ·obtain ⟨k,hk⟩:∃ k,l.length=k + 1:=⟨l.length - 1,by omega⟩
   have hkl:k < l.length:=by omega
   obtain ⟨a,rfl,c0,c1,c2,c3⟩:=H.out.tokM (List.getElem?_eq_getElem hkl)
   have he:=Lib.hid (endOf_last (List.getElem?_eq_getElem hkl) hk)
   generalize l[k]=t at *
   rw [he.out]
   have HK:=Lib.hid hk
   clear he c0 c1 c3
   rw [hk] at hi hn ⊢
   clear hk
   have hk1:((k:Nat):Int) + 1 - 1=k:=by omega
   have hc:i < 0∨(0≤i∧((k:Nat):Int) + 1≤i):=by omega
   rcases hc with hc | ⟨hc,hc2⟩
   all_goals
    go_enter Tryz.func165,Tryz.ntmps165
    go_wp2
    refine bodyPost_ret (v:=tzV (tz0 t.stop)) (by simp [tzV,tz0,noText,results,Tryz.results165,go_sem]) rfl ⟨rfl,?_⟩
    exact (Below.refl _ _).alloc (Nat.le_refl _) _
def isKT (t:TZ) (k:Int) (s:ByteArray):Bool:=decide (t.kind=k) && (t.text.toList == s.toList)
theorem isSymbol_any (t:TZ) (s:ByteArray) (w:World):Calls Tryz.prog 166 #[tzV t,.string s] w fun e w'=>e=.returned (.bool (isKT t 4 s))∧Below w.heap.size w w':=by
 unfold isKT tzV
 by_cases hk:t.kind=4
 ·have d:decide (t.kind=4)=true:=by simpa using hk
  have e:(t.kind == 4)=true:=by simpa using hk
  rw [d]
  go_enter Tryz.func166,Tryz.ntmps166
  go_wp2
  go_ret
  exact ⟨rfl,(Below.refl _ _).alloc (Nat.le_refl _) _⟩
 ·have d:decide (t.kind=4)=false:=by simpa using hk
  have e:(t.kind == 4)=false:=by simpa using hk
  rw [d]
  go_enter Tryz.func166,Tryz.ntmps166
  go_wp2
  go_ret
  exact ⟨rfl,(Below.refl _ _).alloc (Nat.le_refl _) _⟩
def noType:Value:=.agg #[.int .i64 0,.int .i64 0,.string noText,.string noText,.slice none 0 0]
def errV (a c:Int):Value:=.tuple #[noType,.int .i64 0,.agg #[.int .i64 a,.int .i64 c]]
inductive TX where
 |leaf (kind pos:Int) (pkg name:ByteArray)
 |list (pos:Int) (x:TX)
def leafV (k p:Int) (g n:ByteArray):Value:=.agg #[.int .i64 k,.int .i64 p,.string g,.string n,.slice none 0 0]
def listV (p:Int) (b:Nat):Value:=.agg #[.int .i64 5,.int .i64 p,.string ⟨#[]⟩,.string ⟨#[]⟩,.slice (some ⟨b,0,none⟩) 1 1]
def IsTP (P:Nat→Prop) (w:World):TX→Value→Prop
 |.leaf k p g n,v=>v=leafV k p g n
 |.list p x,v=>∃ b y0 y1 y2 y3 y4,v=listV p b∧P b∧w.cell? ⟨b,0,none⟩=some y0∧w.cell? ⟨b,1,none⟩=some y1∧w.cell? ⟨b,2,none⟩=some y2∧w.cell? ⟨b,3,none⟩=some y3∧w.cell? ⟨b,4,none⟩=some y4∧IsTP P w x (.agg #[y0,y1,y2,y3,y4])
theorem IsTP.keep {P P':Nat→Prop} {w w':World} (hP:∀ (b i:Nat) (u:Value),P b→w.cell? ⟨b,i,none⟩=some u→P' b) (hk:∀ (b i:Nat) (u:Value),P b→w.cell? ⟨b,i,none⟩=some u→w'.cell? ⟨b,i,none⟩=some u):∀ {x:TX} {v:Value},IsTP P w x v→IsTP P' w' x v
 |.leaf ..,_,h=>h
 |.list ..,_,h=>by
  obtain ⟨b,y0,y1,y2,y3,y4,hv,hb,h0,h1,h2,h3,h4,hx⟩:=h
  exact ⟨b,y0,y1,y2,y3,y4,hv,hP _ _ _ hb h0,hk _ _ _ hb h0,hk _ _ _ hb h1,hk _ _ _ hb h2,hk _ _ _ hb h3,hk _ _ _ hb h4,IsTP.keep hP hk hx⟩
theorem IsTP.below {P:Nat→Prop} {w w':World} {x:TX} {v:Value} (h:IsTP P w x v) (hb:Below w.heap.size w w'):IsTP P w' x v :=
 h.keep (fun _ _ _ h _=>h) fun _ _ _ _ hc=>(hb.cell (World.block_lt_of_cell? _ _ hc)).trans hc
theorem IsTP.set_ {P:Nat→Prop} {w:World} {x:TX} {v:Value} (h:IsTP P w x v) {p:Addr} (hp:¬ P p.block) (u:Value):IsTP P (w.setCell p u) x v :=
 h.keep (fun _ _ _ h _=>h) fun b i u' hb hc=>by
  have e:(w.setCell p u).heap[b]?=w.heap[b]?:=Below.heap_setCell w p u b (fun e=>hp (e ▸ hb))
  exact (World.cell?_of_block (w:=w) (a:=⟨b,i,none⟩) e).trans hc
theorem IsTP.mono {P P':Nat→Prop} {w:World} {x:TX} {v:Value} (hP:∀ b,b < w.heap.size→P b→P' b) (h:IsTP P w x v):IsTP P' w x v :=
 h.keep (fun b i _ hb hc=>hP b (World.block_lt_of_cell? w ⟨b,i,none⟩ hc) hb) fun _ _ _ _ hc=>hc
abbrev IsTX (B:Nat) (w:World) (x:TX) (v:Value):Prop:=IsTP (fun b=>B≤b) w x v
theorem IsTX.below {B:Nat} {w w':World} {x:TX} {v:Value} (h:IsTX B w x v) (hb:Below w.heap.size w w'):IsTX B w' x v:=IsTP.below h hb
theorem IsTX.set_ {B:Nat} {w:World} {x:TX} {v:Value} (h:IsTX B w x v) {p:Addr} (hp:p.block < B) (u:Value):IsTX B (w.setCell p u) x v:=IsTP.set_ h (by omega) u
theorem IsTX.mono {B B':Nat} (hB:B'≤B) {w:World} {x:TX} {v:Value} (h:IsTX B w x v):IsTX B' w x v:=IsTP.mono (fun _ _ h=>Nat.le_trans hB h) h
theorem IsTP.parts {P:Nat→Prop} {w:World} {x:TX} {v:Value} (h:IsTP P w x v):∃ k p g n o m,v=.agg #[.int .i64 k,.int .i64 p,.string g,.string n,.slice o m m]:=by
 cases x with
 |leaf k p g n=>exact ⟨k,p,g,n,none,0,h⟩
 |list p x =>
  obtain ⟨b,y0,y1,y2,y3,y4,hv,_⟩:=h
  exact ⟨5,p,⟨#[]⟩,⟨#[]⟩,some ⟨b,0,none⟩,1,hv⟩
inductive Res where
 |ok (x:TX) (next:Int)
 |err (pos code:Int)
def okV (y:Value) (n:Int):Value:=.tuple #[y,.int .i64 n,.agg #[.int .i64 0,.int .i64 0]]
def IsRes (B:Nat) (w:World):Res→Value→Prop
 |.ok x n,v=>∃ y,v=okV y n∧IsTX B w x y
 |.err p c,v=>v=errV p c
theorem IsTX.parts {B:Nat} {w:World} {x:TX} {v:Value} (h:IsTX B w x v):∃ k p g n o m,v=.agg #[.int .i64 k,.int .i64 p,.string g,.string n,.slice o m m]:=IsTP.parts h
def kindOf (t:List UInt8):Int:=if t=[105,110,116] then 1 else if t=[98,111,111,108] then 2 else if t=[116,101,120,116] then 3 else 0
def elm (l:List TZ) (i:Int):Res :=
 if (tkAt l i).kind=1 then
  if isKT (tkAt l (i + 1)) 4 ⟨#[46]⟩ then
   if (tkAt l (i + 2)).kind=1 then .ok (.leaf 4 (tkAt l i).pos (tkAt l i).text (tkAt l (i + 2)).text) (i + 3) else .err (tkAt l (i + 2)).pos 5
  else .ok (.leaf 4 (tkAt l i).pos ⟨#[]⟩ (tkAt l i).text) (i + 1)
 else if (tkAt l i).kind=5∧kindOf (tkAt l i).text.data.toList≠0 then .ok (.leaf (kindOf (tkAt l i).text.data.toList) (tkAt l i).pos ⟨#[]⟩ ⟨#[]⟩) (i + 1)
 else .err (tkAt l i).pos 5
def Res.wrap (p:Int):Res→Res
 |.ok x n=>.ok (.list p x) n
 |.err q c=>.err q c
def prs (l:List TZ):Nat→Int→Res
 |0,i=>if isKT (tkAt l i) 4 ⟨#[91]⟩ then .err (tkAt l i).pos 6 else elm l i
 |k + 1,i=>if isKT (tkAt l i) 4 ⟨#[91]⟩ then (if isKT (tkAt l (i + 1)) 4 ⟨#[93]⟩ then (prs l k (i + 2)).wrap (tkAt l i).pos else .err (tkAt l (i + 1)).pos 5) else elm l i
theorem tkAt_real {l:List TZ} {i:Int} (h:(tkAt l i).kind≠0):0≤i∧i < l.length:=by
 refine Classical.byContradiction fun hc=>h ?_
 rw [tkAt_out (by omega)];rfl
theorem isKT_real {l:List TZ} {i k:Int} {s:ByteArray} (hk:k≠0) (h:isKT (tkAt l i) k s=true):0≤i∧i < l.length:=by
 refine tkAt_real ?_
 unfold isKT at h
 simp only [Bool.and_eq_true,decide_eq_true_eq] at h
 rw [h.1];exact hk
def Fits (l:List TZ):Prop:=∀ t ∈ l,t.text.size≤281474976710656
theorem Fits.tkAt {l:List TZ} (h:Fits l) (i:Int):(tkAt l i).text.size≤281474976710656:=by
 by_cases hi:0≤i∧i < l.length
 ·obtain ⟨k,rfl⟩:∃ k:Nat,i=k:=⟨i.toNat,by omega⟩
  have hk:k < l.length:=by omega
  rw [tkAt_in (List.getElem?_eq_getElem hk)]
  exact h _ (List.getElem_mem hk)
 ·rw [tkAt_out (by omega)]
  show (0:Nat)≤_
  omega
def kindsD:DataW Unit:=(((DataW.map []).put (.string [105,110,116]) (.lit (.int .i64 1))).put (.string [98,111,111,108]) (.lit (.int .i64 2))).put (.string [116,101,120,116]) (.lit (.int .i64 3))
def KindsAt (w:World) (b:Nat):Prop:=w.ownsMap Tryz.prog 9 (plainElem (H:=Unit) Tryz.prog 3) b 3 kindsD
theorem kindsD_at (l:List UInt8):kindsD.atKey (.string l) (.lit (.int .i64 0))=.lit (.int .i64 (kindOf l)):=by
 have m0:Maps.IsMap (DataW.map (H:=Unit) []):=Maps.isMap_empty
 have m1:=m0.put (.string [105,110,116]) (.lit (.int .i64 1))
 have m2:=m1.put (.string [98,111,111,108]) (.lit (.int .i64 2))
 unfold kindsD kindOf
 by_cases h3:l=[116,101,120,116]
 ·subst h3
  rw [Maps.atKey_put_same m2 (by trivial)];rfl
 rw [Maps.atKey_put_other (by intro e;injection e with e;exact h3 e)]
 by_cases h2:l=[98,111,111,108]
 ·subst h2
  rw [Maps.atKey_put_same m1 (by trivial)];rfl
 rw [Maps.atKey_put_other (by intro e;injection e with e;exact h2 e)]
 by_cases h1:l=[105,110,116]
 ·subst h1
  rw [Maps.atKey_put_same m0 (by trivial)];rfl
 rw [Maps.atKey_put_other (by intro e;injection e with e;exact h1 e),if_neg h1,if_neg h2,if_neg h3]
 rfl
theorem kinds_any (w:World):Calls Tryz.prog 177 #[] w fun e w'=>e=.returned (.map (some w.heap.size))∧KindsAt w' w.heap.size∧Below w.heap.size w w':=by
 have hmm:=@run_makeMap Tryz.prog
 have S:=KS.start w
 go_enter Tryz.func177,Tryz.ntmps177
 go_wp2_with (refine wpList_insert_own _ rfl _ _ _ 86 rfl 9 3 (Maps.string_keyed Tryz.underlying9) Tryz.underlying86 _ _ _ _ rfl S.1 (by decide) _ _ _ rfl rfl (WideMaps.keyOf_string_mk Tryz.underlying9 (by decide)) _ [] (plainElem_int Tryz.underlying3 (by decide)) ?_;intro w1 ho hg;replace S:=S.next ho hg;clear ho hg)
 go_ret
 exact ⟨rfl,S.1,S.2⟩
theorem lookup_kind {w:World} {b:Nat} (h:KindsAt w b) (t:ByteArray) (ht:t.size≤9223372036854775807) :
  (Instr.lookup 86 (.map (some b)) (.string t) false).run Tryz.prog w=.ok (.int .i64 (kindOf t.data.toList)) w:=by
 obtain ⟨c,hrun,hat,_⟩:=World.ownsMap.lookup_int h (Maps.string_keyed Tryz.underlying9) Tryz.underlying86 Tryz.underlying3 (Tryz.zeroValue3 _) (WideMaps.keyOf_string_mk Tryz.underlying9 (s:=t) (by unfold maxLen;omega))
 rw [kindsD_at] at hat
 injection hat with hat
 injection hat with _ hat
 rw [hrun,← hat]
theorem Blk.below {W W':World} {k:Nat} {t:TypeId} {cs:Array Value} (h:Blk W k t cs) (hb:Below W.heap.size W W'):Blk W' k t cs:=(hb.block k h.lt).trans h
theorem Blk.alloc {W:World} {k:Nat} {t:TypeId} {cs:Array Value} (h:Blk W k t cs) (o:Obj):Blk (W.alloc o) k t cs:=h.below ((Below.refl _ _).alloc (Nat.le_refl _) o)
def zeroT:Array Value:=#[.int .i64 0,.int .i64 0,.string ⟨#[]⟩,.string ⟨#[]⟩,.slice none 0 0]
def zeroG:Array Value:=#[.int .i64 0,.int .i64 0]
structure Two (w W:World):Prop where
 type:Blk W w.heap.size 24 zeroT
 diag:Blk W (w.heap.size + 1) 44 zeroG
 below:Below w.heap.size w W
 size:w.heap.size + 1 + 1≤W.heap.size
theorem Two.start (w:World):Two w ((w.alloc (.cells zeroT 24)).alloc (.cells zeroG 44)) :=
 ⟨(Blk.new w 24 zeroT).alloc _,by have:=Blk.new (w.alloc (.cells zeroT 24)) 44 zeroG;simpa using this,((Below.refl _ _).alloc (Nat.le_refl _) _).alloc (by simp) _,by simp⟩
theorem Two.step {w W W':World} (h:Two w W) (hb:Below W.heap.size W W'):Two w W' :=
 ⟨h.type.below hb,h.diag.below hb,h.below.trans (hb.mono h.below.size),Nat.le_trans h.size hb.size⟩
theorem Two.alloc {w W:World} (h:Two w W) (o:Obj):Two w (W.alloc o):=h.step ((Below.refl _ _).alloc (Nat.le_refl _) o)
theorem Two.cells {w W:World} (h:Two w W):(∀ i,W.cell? ⟨w.heap.size,i,none⟩=zeroT[i]?)∧(∀ i,W.frozen? ⟨w.heap.size,i,none⟩=false)∧(∀ i,W.cell? ⟨w.heap.size + 1,i,none⟩=zeroG[i]?)∧(∀ i,W.frozen? ⟨w.heap.size + 1,i,none⟩=false) :=
 ⟨h.type.cell,h.type.frozen,h.diag.cell,h.diag.frozen⟩
end Go.Proofs.YtfcgoainglpdlaaGreatDoor
