/- Statements in memory that a walk has just made; stores; what has not turned. No condition. Boxes stored and read whole. No condition. The walks of the statements' parser's fail, misplaced, take, expect. Condition: the parser lies in memory as said. The parser of statements in memory; the walks of .. -/
import Derived.Test.YtfcgoainglpdlaaGreatDoorV12
import Derived.BigQuiet
import Derived.Laws.Rows
import Derived.Laws.CopyRow
import Derived.Laws.IdiomCopy
import Derived.Deep.WholeRow
import Derived.Test.YtfcgoainglpdlaaGreatDoorV13
import Derived.Laws.CopyOwn
set_option maxRecDepth 20000
set_option maxHeartbeats 2000000
namespace Go.Proofs.YtfcgoainglpdlaaGreatDoor
open Go.RowKit
open Go.Lib hiding intOf
structure ZS (b:Nat) (o:Option Addr) (c:Nat) (l:List TZ) (i d p q:Int) (w:World):Prop where
 blk:Blk w b 191 #[.slice o l.length c,.int .i64 i,.int .i64 d,.int .i64 p,.int .i64 q]
 toks:ZAt w o l
 far:l≠[]→∀ a,o=some a→a.block < b
section
variable {b c:Nat} {o:Option Addr} {l:List TZ} {i d p q:Int} {w w':World}
theorem ZS.lt (h:ZS b o c l i d p q w):b < w.heap.size:=h.blk.lt
theorem ZS.step (h:ZS b o c l i d p q w) (hb:Below w.heap.size w w'):ZS b o c l i d p q w' :=
 ⟨h.blk.below hb,h.toks.kp (b:=b) (.of_below hb) h.far,h.far⟩
theorem ZS.alloc (h:ZS b o c l i d p q w) (x:Obj):ZS b o c l i d p q (w.alloc x):=h.step ((Below.refl _ _).alloc (Nat.le_refl _) x)
theorem ZS.drew (h:ZS b o c l i d p q w):ZS b o c l i d p q w.drew:=⟨h.blk,h.toks,h.far⟩
theorem ZS.under (h:ZS b o c l i d p q w) (hb:Below (b + 1) w w'):ZS b o c l i d p q w':=by
 refine ⟨(hb.block b (by omega)).trans h.blk,fun k t ht=>?_,h.far⟩
 obtain ⟨a,ho,hc⟩:=h.toks k t ht
 refine ⟨a,ho,fun j u' hu=>?_⟩
 have e:=hb.block (a.add (k * 4 + j)).block (by rw [add_block];have:=h.far (at_ne ht) a ho;omega)
 exact (World.cell?_of_block (w:=w) e).trans (hc j u' hu)
theorem ZS.set_ (h:ZS b o c l i d p q w) {a:Addr} (ha:b < a.block) (u:Value):ZS b o c l i d p q (w.setCell a u) :=
 h.under ((Below.refl _ _).setCell (by omega) u)
theorem ZS.toks_ (h:ZS b o c l i d p q w) (k:Nat) (u:Value):ZAt (w.setCell ⟨b,k,none⟩ u) o l :=
 h.toks.kp (b:=b) ((Kp.refl b w).setCell (.inr rfl) u) h.far
theorem ZS.next (h:ZS b o c l i d p q w) (i':Int):ZS b o c l i' d p q (w.setCell ⟨b,1,none⟩ (.int .i64 i')):=⟨h.blk.set_ 1 (.int .i64 i'),h.toks_ 1 _,h.far⟩
theorem ZS.deep (h:ZS b o c l i d p q w) (d':Int):ZS b o c l i d' p q (w.setCell ⟨b,2,none⟩ (.int .i64 d')):=⟨h.blk.set_ 2 (.int .i64 d'),h.toks_ 2 _,h.far⟩
theorem ZS.err0 (h:ZS b o c l i d p q w) (p':Int):ZS b o c l i d p' q (w.setCell ⟨b,3,none⟩ (.int .i64 p')):=⟨h.blk.set_ 3 (.int .i64 p'),h.toks_ 3 _,h.far⟩
theorem ZS.err1 (h:ZS b o c l i d p q w) (q':Int):ZS b o c l i d p q' (w.setCell ⟨b,4,none⟩ (.int .i64 q')):=⟨h.blk.set_ 4 (.int .i64 q'),h.toks_ 4 _,h.far⟩
theorem ZS.no (h:ZS b o c l i d p q w):ZS b none 0 [] i d p q (w.setCell ⟨b,0,none⟩ (.slice none 0 0)) :=
 ⟨h.blk.set_ 0 (.slice none 0 0),fun k t ht=>by simp at ht,fun hne=>(hne rfl).elim⟩
theorem ZS.cells (h:ZS b o c l i d p q w):w.cell? ⟨b,0,none⟩=some (.slice o l.length c)∧w.cell? ⟨b,1,none⟩=some (.int .i64 i)∧w.cell? ⟨b,2,none⟩=some (.int .i64 d)∧w.cell? ⟨b,3,none⟩=some (.int .i64 p)∧w.cell? ⟨b,4,none⟩=some (.int .i64 q)∧(∀ k,w.frozen? ⟨b,k,none⟩=false) :=
 ⟨h.blk.cell 0,h.blk.cell 1,h.blk.cell 2,h.blk.cell 3,h.blk.cell 4,h.blk.frozen⟩
end
def St {α:Type} (b:Nat) (o:Option Addr) (c:Nat) (l:List TZ) (d:Int) (r:EO α) (w:World):Prop :=
 match r with
 |.ok _ j=>ZS b o c l j d 0 0 w
 |.err p q=>q≠0∧∃ i,ZS b none 0 [] i d p q w
 |.out=>False
def bnd {α β:Type} (r:EO α) (f:α→Int→EO β):EO β :=
 match r with
 |.ok x j=>f x j
 |.err p q=>.err p q
 |.out=>.out
def tkR {α:Type} (l:List TZ) (r:EO α):TZ :=
 match r with
 |.ok _ j=>tkAt l j
 |_=>tz0 0
section
variable {α:Type} {b c:Nat} {o:Option Addr} {l:List TZ} {d:Int} {r:EO α} {w w':World}
theorem St.any (h:St b o c l d r w):∃ (o':Option Addr) (c':Nat) (l':List TZ) (i p q:Int),ZS b o' c' l' i d p q w∧tkAt l' i=tkR l r∧l'.length≤l.length ∧
  (∀ d' w',ZS b o' c' l' i d' p q w'→St b o c l d' r w'):=by
 cases r with
 |ok x j=>exact ⟨o,c,l,j,0,0,h,rfl,Nat.le_refl _,fun _ _ h=>h⟩
 |err p q =>
  obtain ⟨hq,i,h⟩:=h
  exact ⟨none,0,[],i,p,q,h,zero_at rfl,Nat.zero_le _,fun _ _ h=>⟨hq,i,h⟩⟩
 |out=>exact h.elim
theorem St.step (h:St b o c l d r w) (hb:Below w.heap.size w w'):St b o c l d r w':=by
 obtain ⟨o',c',l',i,p,q,hz,_,_,hk⟩:=h.any
 exact hk _ _ (hz.step hb)
theorem St.alloc (h:St b o c l d r w) (x:Obj):St b o c l d r (w.alloc x):=h.step ((Below.refl _ _).alloc (Nat.le_refl _) x)
theorem St.drew (h:St b o c l d r w):St b o c l d r w.drew:=by
 obtain ⟨o',c',l',i,p,q,hz,_,_,hk⟩:=h.any
 exact hk _ _ hz.drew
theorem St.under (h:St b o c l d r w) (hb:Below (b + 1) w w'):St b o c l d r w':=by
 obtain ⟨o',c',l',i,p,q,hz,_,_,hk⟩:=h.any
 exact hk _ _ (hz.under hb)
theorem St.set_ (h:St b o c l d r w) {a:Addr} (ha:b < a.block) (u:Value):St b o c l d r (w.setCell a u) :=
 h.under ((Below.refl _ _).setCell (by omega) u)
theorem St.deep (h:St b o c l d r w) (d':Int):St b o c l d' r (w.setCell ⟨b,2,none⟩ (.int .i64 d')):=by
 obtain ⟨o',c',l',i,p,q,hz,_,_,hk⟩:=h.any
 exact hk _ _ (hz.deep d')
theorem St.lt (h:St b o c l d r w):b < w.heap.size:=by
 obtain ⟨o',c',l',i,p,q,hz,_,_,hk⟩:=h.any
 exact hz.lt
theorem St.open_ (h:St b o c l d r w):w.cell? ⟨b,2,none⟩=some (.int .i64 d)∧(∀ k,w.frozen? ⟨b,k,none⟩=false):=by
 obtain ⟨o',c',l',i,p,q,hz,_,_,hk⟩:=h.any
 exact ⟨hz.cells.2.2.1,hz.cells.2.2.2.2.2⟩
end
theorem symbolS_v (t:TZ) (y:ByteArray) (w:World):Calls Tryz.prog 182 #[.agg #[.int .i64 t.kind,.int .i64 t.pos,.int .i64 t.stop,.string t.text],.string y] w fun e w'=>e=.returned (.bool (isKT t 4 y))∧Below w.heap.size w w':=by
 unfold isKT
 by_cases hk:t.kind=4
 ·have d:decide (t.kind=4)=true:=by simpa using hk
  have e:(t.kind == 4)=true:=by simpa using hk
  rw [d]
  go_enter Tryz.func182,Tryz.ntmps182
  go_wp2
  go_ret
  exact ⟨rfl,(Below.refl _ _).alloc (Nat.le_refl _) _⟩
 ·have d:decide (t.kind=4)=false:=by simpa using hk
  have e:(t.kind == 4)=false:=by simpa using hk
  rw [d]
  go_enter Tryz.func182,Tryz.ntmps182
  go_wp2
  go_ret
  exact ⟨rfl,(Below.refl _ _).alloc (Nat.le_refl _) _⟩
theorem wordS_v (t:TZ) (y:ByteArray) (w:World):Calls Tryz.prog 183 #[.agg #[.int .i64 t.kind,.int .i64 t.pos,.int .i64 t.stop,.string t.text],.string y] w fun e w'=>e=.returned (.bool (isKT t 5 y))∧Below w.heap.size w w':=by
 unfold isKT
 by_cases hk:t.kind=5
 ·have d:decide (t.kind=5)=true:=by simpa using hk
  have e:(t.kind == 5)=true:=by simpa using hk
  rw [d]
  go_enter Tryz.func183,Tryz.ntmps183
  go_wp2
  go_ret
  exact ⟨rfl,(Below.refl _ _).alloc (Nat.le_refl _) _⟩
 ·have d:decide (t.kind=5)=false:=by simpa using hk
  have e:(t.kind == 5)=false:=by simpa using hk
  rw [d]
  go_enter Tryz.func183,Tryz.ntmps183
  go_wp2
  go_ret
  exact ⟨rfl,(Below.refl _ _).alloc (Nat.le_refl _) _⟩
section
variable {b c:Nat} {o:Option Addr} {l:List TZ} {i d p q:Int} {w:World}
theorem failed_any (S:ZS b o c l i d p q w) :
  Calls Tryz.prog 171 #[.pointer (some ⟨b,0,none⟩)] w fun e w'=>e=.returned (.bool (q != 0))∧w'=w:=by
 obtain ⟨p0,p1,p2,p3,p4,pf⟩:=S.cells
 have hbl:=S.lt
 clear S
 go_enter Tryz.func171,Tryz.ntmps171
 go_wp2
 go_ret
 exact ⟨rfl,rfl⟩
theorem look_any (S:ZS b o c l i d p q w) (hn:l.length≤9223372036854775807) (n:Int) :
  Calls Tryz.prog 178 #[.pointer (some ⟨b,0,none⟩),.int .i64 n] w fun e w'=>e=.returned (.agg #[.int .i64 (tkAt l n).kind,.int .i64 (tkAt l n).pos,.int .i64 (tkAt l n).stop,.string (tkAt l n).text])∧Below w.heap.size w w':=by
 obtain ⟨p0,p1,p2,p3,p4,pf⟩:=S.cells
 have hbl:=S.lt
 have H:=Lib.hid S.toks
 clear S p1 p2 p3 p4
 by_cases hi:0≤n∧n < l.length
 ·obtain ⟨h0,h1⟩:=hi
  obtain ⟨k,rfl⟩:∃ k:Nat,n=k:=⟨n.toNat,by omega⟩
  have hk:k < l.length:=by omega
  obtain ⟨a,rfl,c0,c1,c2,c3⟩:=H.out.tokM (List.getElem?_eq_getElem hk)
  have ht:=Lib.hid (tkAt_in (List.getElem?_eq_getElem hk))
  have g0:decide ((0:Int)≤(k:Nat))=true:=by simp
  generalize l[k]=t at *
  rw [ht.out]
  go_enter Tryz.func178,Tryz.ntmps178
  go_wp2
  refine bodyPost_ret (v:=.agg #[.int .i64 t.kind,.int .i64 t.pos,.int .i64 t.stop,.string t.text]) (by simp [results,Tryz.results178,go_sem]) rfl ⟨rfl,?_⟩
  exact (Below.refl _ _).alloc (Nat.le_refl _) _
 ·have ht:=tkAt_out (l:=l) (i:=n) (by omega)
  rw [ht]
  clear ht
  by_cases hl:l.length=0
  ·have he:endOf l=0:=by rw [List.length_eq_zero_iff.1 hl];rfl
   rw [he]
   clear he
   have hc:n < 0∨0≤n:=by omega
   rcases hc with hc | hc
   ·have g0:decide ((0:Int)≤n)=false:=by simp;omega
    go_enter Tryz.func178,Tryz.ntmps178
    go_wp2
    refine bodyPost_ret (v:=.agg #[.int .i64 0,.int .i64 0,.int .i64 0,.string ⟨#[]⟩]) (by simp [results,Tryz.results178,go_sem]) rfl ⟨rfl,?_⟩
    exact (Below.refl _ _).alloc (Nat.le_refl _) _
   ·have g0:decide ((0:Int)≤n)=true:=by simp;omega
    have g1:¬ n < ((l.length:Nat):Int):=by omega
    go_enter Tryz.func178,Tryz.ntmps178
    go_wp2
    refine bodyPost_ret (v:=.agg #[.int .i64 0,.int .i64 0,.int .i64 0,.string ⟨#[]⟩]) (by simp [results,Tryz.results178,go_sem]) rfl ⟨rfl,?_⟩
    exact (Below.refl _ _).alloc (Nat.le_refl _) _
  ·obtain ⟨k,hk⟩:∃ k,l.length=k + 1:=⟨l.length - 1,by omega⟩
   have hkl:k < l.length:=by omega
   obtain ⟨a,rfl,c0,c1,c2,c3⟩:=H.out.tokM (List.getElem?_eq_getElem hkl)
   have he:=Lib.hid (endOf_last (List.getElem?_eq_getElem hkl) hk)
   generalize l[k]=t at *
   rw [he.out]
   have HK:=Lib.hid hk
   clear he c0 c1 c3
   rw [hk] at hi hn p0
   clear hk hkl
   have hk1:((k:Nat):Int) + 1 - 1=k:=by omega
   have hk2:(0:Int) < ((k:Nat):Int) + 1:=by omega
   have hc:n < 0∨(0≤n∧((k:Nat):Int) + 1≤n):=by omega
   rcases hc with hc | ⟨hc,hc2⟩
   ·have g0:decide ((0:Int)≤n)=false:=by simp;omega
    go_enter Tryz.func178,Tryz.ntmps178
    go_wp2_with fail
    go_quiet (fail)
    go_wp2
    refine bodyPost_ret (v:=.agg #[.int .i64 0,.int .i64 t.stop,.int .i64 t.stop,.string ⟨#[]⟩]) (by simp [results,Tryz.results178,go_sem]) rfl ⟨rfl,?_⟩
    exact set4_below (below_drewN ((Below.refl _ _).alloc (Nat.le_refl _) _) _) (Nat.le_refl _) _ _ _ _
   ·have g0:decide ((0:Int)≤n)=true:=by simp;omega
    have g1:¬ n < ((k:Nat):Int) + 1:=by omega
    go_enter Tryz.func178,Tryz.ntmps178
    go_wp2_with fail
    go_quiet (fail)
    go_wp2
    refine bodyPost_ret (v:=.agg #[.int .i64 0,.int .i64 t.stop,.int .i64 t.stop,.string ⟨#[]⟩]) (by simp [results,Tryz.results178,go_sem]) rfl ⟨rfl,?_⟩
    exact set4_below (below_drewN ((Below.refl _ _).alloc (Nat.le_refl _) _) _) (Nat.le_refl _) _ _ _ _
theorem peekZ_any (S:ZS b o c l i d p q w) (hn:l.length≤9223372036854775807) :
  Calls Tryz.prog 172 #[.pointer (some ⟨b,0,none⟩)] w fun e w'=>e=.returned (.agg #[.int .i64 (tkAt l i).kind,.int .i64 (tkAt l i).pos,.int .i64 (tkAt l i).stop,.string (tkAt l i).text])∧Below w.heap.size w w':=by
 have H:=Lib.hid S
 obtain ⟨p0,p1,p2,p3,p4,pf⟩:=S.cells
 have hbl:=S.lt
 have HL:=Lib.hid (look_any (S.alloc (.cells #[.int .i64 0,.int .i64 0,.int .i64 0,.string ⟨#[]⟩] 81)) hn i)
 clear S p0 p2 p3 p4
 go_enter Tryz.func172,Tryz.ntmps172
 go_wp2_with fail
 refine HL.out.mono ?_
 rintro e w1 ⟨rfl,hB⟩
 have X1:=blk_mid3 hB
 have c1:=X1.cell
 have f1:=X1.frozen
 have hz1:=X1.lt
 have B1:=Lib.hid (((Below.refl w.heap.size w).alloc (Nat.le_refl _) (.cells #[.int .i64 0,.int .i64 0,.int .i64 0,.string ⟨#[]⟩] 81)).trans (hB.mono (by simp)))
 clear hB X1
 go_wp2
 refine bodyPost_ret (v:=.agg #[.int .i64 (tkAt l i).kind,.int .i64 (tkAt l i).pos,.int .i64 (tkAt l i).stop,.string (tkAt l i).text]) (by simp [results,Tryz.results172,go_sem,c1]) rfl ⟨rfl,?_⟩
 exact set4_below B1.out (Nat.le_refl _) _ _ _ _
end
section
variable {α:Type} {b c:Nat} {o:Option Addr} {l:List TZ} {d:Int} {r:EO α} {w:World}
theorem peekS (S:St b o c l d r w) (hn:l.length≤9223372036854775807) :
  Calls Tryz.prog 172 #[.pointer (some ⟨b,0,none⟩)] w fun e w'=>e=.returned (.agg #[.int .i64 (tkR l r).kind,.int .i64 (tkR l r).pos,.int .i64 (tkR l r).stop,.string (tkR l r).text])∧Below w.heap.size w w':=by
 obtain ⟨o',c',l',i,p,q,hz,ht,hle,hk⟩:=S.any
 rw [← ht]
 exact peekZ_any hz (by omega)
theorem seesS (S:St b o c l d r w) (hn:l.length≤9223372036854775807) (y:ByteArray) :
  Calls Tryz.prog 179 #[.pointer (some ⟨b,0,none⟩),.string y] w fun e w'=>e=.returned (.bool (isKT (tkR l r) 4 y))∧Below w.heap.size w w':=by
 have HP:=Lib.hid (peekS S hn)
 have HS:=Lib.hid (fun (W:World)=>symbolS_v (tkR l r) y W)
 clear S
 generalize tkR l r=t at *
 go_enter Tryz.func179,Tryz.ntmps179
 go_wp2_with fail
 refine HP.out.mono ?_
 rintro e w1 ⟨rfl,hB⟩
 have B1:=Lib.hid hB
 clear hB
 go_wp2_with fail
 refine (HS.out _).mono ?_
 rintro e w2 ⟨rfl,hB⟩
 have B2:=Lib.hid (B1.out.trans (hB.mono B1.out.size))
 clear hB
 go_wp2
 go_ret
 exact ⟨rfl,B2.out⟩
theorem failedS (S:St b o c l d r w) :
  Calls Tryz.prog 171 #[.pointer (some ⟨b,0,none⟩)] w fun e w'=>e=.returned (.bool (match r with | .ok _ _=>false | _=>true))∧w'=w:=by
 cases r with
 |ok x j=>exact failed_any S
 |err p q =>
  obtain ⟨hq,i,h⟩:=S
  have:=failed_any h
  rwa [show (q != 0)=true by simpa using hq] at this
 |out=>exact S.elim
end
end Go.Proofs.YtfcgoainglpdlaaGreatDoor
namespace Go.Proofs.YtfcgoainglpdlaaGreatDoor
open Go.RowKit
open Go.Lib hiding intOf
def must {α:Type} (l:List TZ) (z:UInt8) (r:EO α):EO α:=bnd r fun x j=>if isS (tkAt l j) z then .ok x (j + 1) else .err (tkAt l j).pos 5
def wrong {α:Type} (p q:Int) (r:EO α):EO α:=bnd r fun _ _=>.err p q
section
variable {α:Type} {b c:Nat} {o:Option Addr} {l:List TZ} {d:Int} {r:EO α} {w:World}
theorem failS (S:St b o c l d r w) (p q:Int) (hq:q≠0) :
  Calls Tryz.prog 174 #[.pointer (some ⟨b,0,none⟩),.agg #[.int .i64 p,.int .i64 q]] w fun e w'=>e=.returned (.tuple #[])∧St b o c l d (wrong p q r) w'∧Kp b w w':=by
 cases r with
 |out=>exact S.elim
 |ok x j =>
  have S0:ZS b o c l j d 0 0 w:=S
  have H:=Lib.hid S0
  have HF:=Lib.hid (fun (W:World) (h:ZS b o c l j d 0 0 W)=>failed_any h)
  have hbl:=S0.lt
  obtain ⟨p0,p1,p2,p3,p4,pf⟩:=S0.cells
  have hbn:b≠w.heap.size:=by omega
  have hbn2:b < w.heap.size + 1:=by omega
  clear S S0
  go_enter Tryz.func174,Tryz.ntmps174
  go_wp2_with fail
  refine (HF.out _ (H.out.alloc _)).mono ?_
  rintro e w1 ⟨rfl,rfl⟩
  go_wp2
  refine bodyPost_end (results_none rfl _ _ _) rfl ⟨rfl,⟨hq,j,?_⟩,?_⟩
  ·exact (((H.out.err0 p).err1 q).no).alloc _
  ·exact ((((Kp.refl b w).setCell (.inr rfl) _).setCell (.inr rfl) _).setCell (.inr rfl) _).alloc _
 |err p' q' =>
  obtain ⟨hq',j,S0⟩:=S
  have H:=Lib.hid S0
  have HF:=Lib.hid (fun (W:World) (h:ZS b none 0 [] j d p' q' W)=>failed_any h)
  have hbl:=S0.lt
  obtain ⟨p0,p1,p2,p3,p4,pf⟩:=S0.cells
  have hbn:b≠w.heap.size:=by omega
  have hbn2:b < w.heap.size + 1:=by omega
  have hb:(q' != 0)=true:=by simpa using hq'
  clear S0
  go_enter Tryz.func174,Tryz.ntmps174
  go_wp2_with fail
  refine (HF.out _ (H.out.alloc _)).mono ?_
  rintro e w1 ⟨rfl,rfl⟩
  rw [hb]
  go_wp2
  refine bodyPost_end (results_none rfl _ _ _) rfl ⟨rfl,⟨hq',j,?_⟩,?_⟩
  ·exact H.out.no.alloc _
  ·exact ((Kp.refl b w).setCell (.inr rfl) _).alloc _
theorem misplacedS (S:St b o c l d r w) (t:TZ) :
  Calls Tryz.prog 180 #[.pointer (some ⟨b,0,none⟩),.agg #[.int .i64 t.kind,.int .i64 t.pos,.int .i64 t.stop,.string t.text]] w fun e w'=>e=.returned (.tuple #[])∧St b o c l d (wrong t.pos 5 r) w'∧Kp b w w':=by
 have HF:=Lib.hid (failS (S.alloc (.cells #[.int .i64 t.kind,.int .i64 t.pos,.int .i64 t.stop,.string t.text] 81)) t.pos 5 (by decide))
 clear S
 go_enter Tryz.func180,Tryz.ntmps180
 go_wp2_with fail
 refine HF.out.mono ?_
 rintro e w1 ⟨rfl,hS,hK⟩
 have S1:=Lib.hid hS
 have K1:=Lib.hid (((Kp.refl b w).alloc _).trans hK)
 clear hS hK
 go_wp2
 exact bodyPost_end (results_none rfl _ _ _) rfl ⟨rfl,S1.out,K1.out⟩
end
section
variable {b c:Nat} {o:Option Addr} {l:List TZ} {i d p q:Int} {w:World}
theorem takeZ (S:ZS b o c l i d p q w) (hn:l.length≤4611686018427387904) (hi:0≤i∧i < l.length) :
  Calls Tryz.prog 181 #[.pointer (some ⟨b,0,none⟩)] w fun e w'=>e=.returned (.agg #[.int .i64 (tkAt l i).kind,.int .i64 (tkAt l i).pos,.int .i64 (tkAt l i).stop,.string (tkAt l i).text])∧ZS b o c l (i + 1) d p q w'∧Kp b w w':=by
 have hbl:=S.lt
 obtain ⟨p0,p1,p2,p3,p4,pf⟩:=S.cells
 have H:=Lib.hid S
 clear S
 obtain ⟨h0,h1⟩:=hi
 obtain ⟨k,rfl⟩:∃ k:Nat,i=k:=⟨i.toNat,by omega⟩
 have hk:k < l.length:=by omega
 obtain ⟨a,rfl,c0,c1,c2,c3⟩:=H.out.toks.tokM (List.getElem?_eq_getElem hk)
 obtain ⟨a',ha',d0,d1,d2,d3⟩:=H.out.toks.tok (List.getElem?_eq_getElem hk)
 obtain rfl:a=a':=by injection ha'
 have hab:(a.add (k * 4)).block < w.heap.size:=World.block_lt_of_cell? _ _ d0
 have ht:=Lib.hid (tkAt_in (List.getElem?_eq_getElem hk))
 clear ha'
 generalize l[k]=t at *
 rw [ht.out]
 have H2:=Lib.hid (H.out.alloc (.cells #[.int .i64 0,.int .i64 0,.int .i64 0,.string ⟨#[]⟩] 81))
 have hbn:b≠w.heap.size:=by omega
 have hbn2:b≠w.heap.size + 1:=by omega
 go_enter Tryz.func181,Tryz.ntmps181
 go_wp2_with fail
 go_region
 all_goals
  go_wp2
  refine bodyPost_ret (v:=.agg #[.int .i64 t.kind,.int .i64 t.pos,.int .i64 t.stop,.string t.text]) (by simp [results,Tryz.results181,go_sem]) rfl ⟨rfl,?_,?_⟩
  ·exact (((H.out.next _).alloc _).alloc _).drew
  ·exact ((((Kp.refl b w).setCell (.inr rfl) _).alloc _).alloc _).drew
end
section
variable {α:Type} {b c:Nat} {o:Option Addr} {l:List TZ} {d:Int} {r:EO α} {w:World}
theorem beq_bytes' (a b:List UInt8):(a == b)=decide (a=b):=by
 by_cases h:a=b
 ·subst h;simp
 ·simp [h]
theorem isKT_E (t:TZ) (k:Int) (s:ByteArray):isKT t k s=(decide (t.kind=k) && decide (t.text.data.toList=s.data.toList)):=by
 unfold isKT;rw [ByteArray.toList_eq,ByteArray.toList_eq,beq_bytes']
theorem isKT_S' (t:TZ) (c:UInt8):isKT t 4 ⟨#[c]⟩=isS t c:=isKT_E t 4 ⟨#[c]⟩
theorem isKT_W' (t:TZ) (s:List UInt8):isKT t 5 ⟨s.toArray⟩=isW t s:=isKT_E t 5 ⟨s.toArray⟩
theorem expectS (S:St b o c l d r w) (hn:l.length≤1073741824) (z:UInt8) :
  Calls Tryz.prog 173 #[.pointer (some ⟨b,0,none⟩),.string ⟨#[z]⟩] w fun e w'=>e=.returned (.tuple #[])∧St b o c l d (must l z r) w'∧Kp b w w':=by
 have HS:=Lib.hid (seesS S (by omega) ⟨#[z]⟩)
 rw [isKT_S'] at HS
 by_cases hz:∃ x j,r=.ok x j∧isS (tkAt l j) z=true
 ·obtain ⟨x,j,rfl,hz⟩:=hz
  have hr:=isS_real hz
  have H:=Lib.hid S
  have HT:=Lib.hid (fun (W:World) (h:ZS b o c l j d 0 0 W)=>takeZ h (by omega) hr)
  have e:must l z (.ok x j:EO α)=.ok x (j + 1):=by unfold must bnd;simp only [hz];rfl
  have HE:=Lib.hid e
  have hz':isS (tkR l (.ok x j:EO α)) z=true:=hz
  rw [hz'] at HS
  clear S hr hn hz e hz'
  go_enter Tryz.func173,Tryz.ntmps173
  go_wp2_with fail
  refine HS.out.mono ?_
  rintro e w1 ⟨rfl,hB⟩
  have S1:=Lib.hid (H.out.step hB)
  have K1:=Lib.hid ((Kp.refl b w).then_below hB)
  clear hB
  go_wp2_with fail
  refine (HT.out _ S1.out).mono ?_
  rintro e w2 ⟨rfl,hS,hK⟩
  have S2:=Lib.hid hS
  have K2:=Lib.hid (K1.out.trans hK)
  clear hS hK
  go_wp2
  refine bodyPost_end (results_none rfl _ _ _) rfl ⟨rfl,?_,K2.out⟩
  rw [HE.out]
  exact S2.out
 ·have hz':isS (tkR l r) z=false:=by
   cases r with
   |ok x j=>exact Bool.eq_false_iff.2 fun h=>hz ⟨x,j,rfl,h⟩
   |err p q=>rfl
   |out=>rfl
  have e:must l z r=wrong (tkR l r).pos 5 r:=by
   cases r with
   |ok x j=>have h2:isS (tkAt l j) z=false:=hz';unfold must wrong bnd tkR;simp only [h2];rfl
   |err p q=>rfl
   |out=>rfl
  have HE:=Lib.hid e
  have H:=Lib.hid S
  have HP:=Lib.hid (fun (W:World) (h:St b o c l d r W)=>peekS h (by omega))
  have HM:=Lib.hid (fun (W:World) (h:St b o c l d r W)=>misplacedS h (tkR l r))
  rw [hz'] at HS
  clear S hn hz hz' e
  go_enter Tryz.func173,Tryz.ntmps173
  go_wp2_with fail
  refine HS.out.mono ?_
  rintro e w1 ⟨rfl,hB⟩
  have S1:=Lib.hid (H.out.step hB)
  have K1:=Lib.hid ((Kp.refl b w).then_below hB)
  clear hB
  go_wp2_with fail
  refine (HP.out _ S1.out).mono ?_
  rintro e w2 ⟨rfl,hB⟩
  have S2:=Lib.hid (S1.out.step hB)
  have K2:=Lib.hid (K1.out.then_below hB)
  clear hB
  go_wp2_with fail
  refine (HM.out _ S2.out).mono ?_
  rintro e w3 ⟨rfl,hS,hK⟩
  have S3:=Lib.hid hS
  have K3:=Lib.hid (K2.out.trans hK)
  clear hS hK
  go_wp2
  refine bodyPost_ret (v:=.tuple #[]) (results_none rfl _ _ _) rfl ⟨rfl,?_,K3.out⟩
  rw [HE.out]
  exact S3.out
theorem takeS {x:α} {j:Int} (S:St b o c l d (.ok x j) w) (hn:l.length≤4611686018427387904) (hi:0≤j∧j < l.length) :
  Calls Tryz.prog 181 #[.pointer (some ⟨b,0,none⟩)] w fun e w'=>e=.returned (.agg #[.int .i64 (tkAt l j).kind,.int .i64 (tkAt l j).pos,.int .i64 (tkAt l j).stop,.string (tkAt l j).text])∧St b o c l d (.ok x (j + 1)) w'∧Kp b w w':=takeZ S hn hi
end
end Go.Proofs.YtfcgoainglpdlaaGreatDoor
namespace Go.Proofs.YtfcgoainglpdlaaGreatDoor
open Go.RowKit
open Go.Lib hiding intOf
theorem Blk.row {W:World} {g:Nat} {t:TypeId} {old:Array Value} (h:Blk W g t old) (cs:Array Value):Blk (W.setRow g cs) g t cs:=setRow_heap W g old cs t (0,0) h
theorem Blk.rowFar {W:World} {g k:Nat} {t:TypeId} {old:Array Value} (h:Blk W k t old) (hk:k≠g) (cs:Array Value):Blk (W.setRow g cs) k t old:=(setRow_other W g k cs hk).trans h
theorem Tryz.infoS:(Tryz.prog.info? 62).map (·.size)=some 17:=by kernel_rfl
theorem Tryz.infoE11:(Tryz.prog.info? 31).map (·.size)=some 11:=by kernel_rfl
theorem wpStoreS {ops:Array Oper} {rest:List Oper} {o:Oper} {a:Act} {w:World} {Q:Exit→Act→World→Prop} (hgd:o.guard=none) (x y:Operand) (ho:o.op=.store 62 x y)
  (g:Nat) (hx:a.eval x=.pointer (some ⟨g,0,none⟩)) {v0 v1 v2 v3 v4 v5 v6 v7 v8 v9 v10 v11 v12 v13 v14 v15 v16:Value} (hy:a.eval y=.agg #[v0,v1,v2,v3,v4,v5,v6,v7,v8,v9,v10,v11,v12,v13,v14,v15,v16]) {old:Array Value} (hg:Blk w g 62 old) (hold:old.size=17) (h1:([v0,v1,v2,v3,v4,v5,v6,v7,v8,v9,v10,v11,v12,v13,v14,v15,v16]:List Value).all (·.oneCell')=true)
  (h:wpList Tryz.prog ops Q rest (a.put o.dst undef) (w.setRow g #[v0,v1,v2,v3,v4,v5,v6,v7,v8,v9,v10,v11,v12,v13,v14,v15,v16])):wpList Tryz.prog ops Q (o::rest) a w :=
 wpList_store_row hgd _ x y ho g _ hx hy 62 old hg Tryz.infoS hold (by simpa only [List.all_toArray] using h1) h
theorem wpLoadS {ops:Array Oper} {rest:List Oper} {o:Oper} {a:Act} {w:World} {Q:Exit→Act→World→Prop} (hgd:o.guard=none) (x:Operand) (ho:o.op=.load 62 x)
  (g:Nat) (hx:a.eval x=.pointer (some ⟨g,0,none⟩)) {v0 v1 v2 v3 v4 v5 v6 v7 v8 v9 v10 v11 v12 v13 v14 v15 v16:Value} (hg:Blk w g 62 #[v0,v1,v2,v3,v4,v5,v6,v7,v8,v9,v10,v11,v12,v13,v14,v15,v16])
  (h:wpList Tryz.prog ops Q rest (a.put o.dst (.agg #[v0,v1,v2,v3,v4,v5,v6,v7,v8,v9,v10,v11,v12,v13,v14,v15,v16])) w):wpList Tryz.prog ops Q (o::rest) a w :=
 wpList_load_row hgd _ x ho g hx 62 _ (0,0) _ hg Tryz.underlying62 rfl Tryz.infoS h
theorem resS {fn:Func} {p:Tmp} (h:fn.results=#[.cell p 62]) (tmps:Array Value) (w:World) (g:Nat) {v0 v1 v2 v3 v4 v5 v6 v7 v8 v9 v10 v11 v12 v13 v14 v15 v16:Value} (hp:tmps.getD p undef=.pointer (some ⟨g,0,none⟩)) (hg:Blk w g 62 #[v0,v1,v2,v3,v4,v5,v6,v7,v8,v9,v10,v11,v12,v13,v14,v15,v16]) :
  (results fn tmps).run Tryz.prog w=.ok (.agg #[v0,v1,v2,v3,v4,v5,v6,v7,v8,v9,v10,v11,v12,v13,v14,v15,v16]) w :=
 results_cell_row h tmps w g 62 _ (0,0) _ hp hg Tryz.underlying62 rfl Tryz.infoS
def putL:List Value→Nat→List Value→List Value
 |cur,_,[]=>cur
 |cur,o,v::r=>putL (cur.set o v) (o + 1) r
theorem setCells_row {g:Nat} {t:TypeId}:∀ (vs:List Value) (o:Nat) (cur:List Value) (W:World),Blk W g t cur.toArray→W.setCells g o vs=W.setRow g (putL cur o vs).toArray
 |[],_,cur,W,h=>(setRow_self W g cur.toArray t (0,0) h).symm
 |v::r,o,cur,W,h=>by
  have h2:=h.row (cur.set o v).toArray
  rw [World.setCells,setCell_eq_setRow W g o cur.toArray t (0,0) v h,List.setIfInBounds_toArray,setCells_row r (o + 1) _ _ h2,setRow_setRow]
  rfl
theorem run_storeVar_at {P:Program} (w w':World) (p:Addr) (ty:TypeId) (cells:Array Value) (hi:(P.info? ty).map (·.size)=some cells.size) (hst:(storeCells p cells.toList).run P w=.ok () w'):(storeVar ty p (.agg cells)).run P w=.ok () w':=by
 cases hq:P.info? ty with
 |none=>simp [hq] at hi
 |some i =>
  have hs:cells.size=i.size:=by simp [hq] at hi;omega
  simp [storeVar,sizeOf,typeInfo,hq,Value.cells,hs,hst]
theorem wpList_store_at {P:Program} {ops:Array Oper} {rest:List Oper} {o:Oper} {a:Act} {w:World} {Q:Exit→Act→World→Prop} (hgd:o.guard=none) (ty:TypeId) (x y:Operand) (ho:o.op=.store ty x y)
  (g off:Nat) (cells:Array Value) (hx:a.eval x=.pointer (some ⟨g,off,none⟩)) (hy:a.eval y=.agg cells) (t:TypeId) (cur:List Value) (hg:Blk w g t cur.toArray) (hi:(P.info? ty).map (·.size)=some cells.size) (hsz:off + cells.size≤cur.length)
  (h1:∀ v ∈ cells.toList,v.oneCell'=true) (h:wpList P ops Q rest (a.put o.dst undef) (w.setRow g (putL cur off cells.toList).toArray)):wpList P ops Q (o::rest) a w:=by
 refine wpList_plain hgd fun _ hK=>?_
 have hst:=run_storeCells_cells (P:=P) g off cells.toList 0 w (fun j hj=>by
   rw [hg.cell,Array.getElem?_eq_getElem (by rw [Array.length_toList] at hj;rw [List.size_toArray];omega)];rfl)
  (fun j _=>hg.frozen _) h1
 rw [Nat.add_zero,setCells_row _ _ _ _ hg] at hst
 have hsv:=run_storeVar_at w _ ⟨g,off,none⟩ ty cells hi hst
 unfold Oper.wp execOp
 simp only [ho,hx,hy,Instr.storeAt,Instr.sureAddr,Sem.run_bind,Sem.run_pure,Result.andThen_ok,hsv]
 exact hK _ _ h
theorem wpStoreX {ops:Array Oper} {rest:List Oper} {o:Oper} {a:Act} {w:World} {Q:Exit→Act→World→Prop} (hgd:o.guard=none) (x y:Operand) (ho:o.op=.store 31 x y)
  (g:Nat) (hx:a.eval x=.pointer (some ⟨g,4,none⟩)) {v0 v1 v2 v3 v4 v5 v6 v7 v8 v9 v10:Value} (hy:a.eval y=.agg #[v0,v1,v2,v3,v4,v5,v6,v7,v8,v9,v10]) {a0 a1 a2 a3 a4 a5 a6 a7 a8 a9 a10 a11 a12 a13 a14 a15 a16:Value} (hg:Blk w g 62 #[a0,a1,a2,a3,a4,a5,a6,a7,a8,a9,a10,a11,a12,a13,a14,a15,a16]) (h1:([v0,v1,v2,v3,v4,v5,v6,v7,v8,v9,v10]:List Value).all (·.oneCell')=true)
  (h:wpList Tryz.prog ops Q rest (a.put o.dst undef) (w.setRow g #[a0,a1,a2,a3,v0,v1,v2,v3,v4,v5,v6,v7,v8,v9,v10,a15,a16])):wpList Tryz.prog ops Q (o::rest) a w :=
 wpList_store_at hgd _ x y ho g 4 #[v0,v1,v2,v3,v4,v5,v6,v7,v8,v9,v10] hx hy _ [a0,a1,a2,a3,a4,a5,a6,a7,a8,a9,a10,a11,a12,a13,a14,a15,a16] hg Tryz.infoE11 (by simp) (List.all_eq_true.1 h1) h
theorem wpStoreNew {ops:Array Oper} {rest:List Oper} {o:Oper} {a:Act} {w:World} {Q:Exit→Act→World→Prop} {old:Array Value} (hgd:o.guard=none) (x y:Operand) (ho:o.op=.store 62 x y)
  (hx:a.eval x=.pointer (some ⟨w.heap.size,0,none⟩)) {v0 v1 v2 v3 v4 v5 v6 v7 v8 v9 v10 v11 v12 v13 v14 v15 v16:Value} (hy:a.eval y=.agg #[v0,v1,v2,v3,v4,v5,v6,v7,v8,v9,v10,v11,v12,v13,v14,v15,v16]) (hold:old.size=17) (h1:([v0,v1,v2,v3,v4,v5,v6,v7,v8,v9,v10,v11,v12,v13,v14,v15,v16]:List Value).all (·.oneCell')=true)
  (h:wpList Tryz.prog ops Q rest (a.put o.dst undef) (w.alloc (.cells #[v0,v1,v2,v3,v4,v5,v6,v7,v8,v9,v10,v11,v12,v13,v14,v15,v16] 62))):wpList Tryz.prog ops Q (o::rest) a (w.alloc (.cells old 62)):=by
 refine wpStoreS hgd x y ho w.heap.size hx hy (Blk.new w 62 old) hold h1 ?_
 rw [World.setRow_alloc_new]
 exact h
end Go.Proofs.YtfcgoainglpdlaaGreatDoor
namespace Go.Proofs.YtfcgoainglpdlaaGreatDoor
open Go.RowKit
open Go.Lib hiding intOf
structure Ab (B:Nat) (w w':World):Prop where
 size:w.heap.size≤w'.heap.size
 keep:∀ k,B≤k→k < w.heap.size→w'.heap[k]?=w.heap[k]?
theorem Ab.refl (B:Nat) (w:World):Ab B w w:=⟨Nat.le_refl _,fun _ _ _=>rfl⟩
theorem Ab.trans {B:Nat} {x y z:World} (h:Ab B x y) (k:Ab B y z):Ab B x z:=⟨Nat.le_trans h.size k.size,fun i hi hx=>(k.keep i hi (Nat.lt_of_lt_of_le hx h.size)).trans (h.keep i hi hx)⟩
theorem Ab.kp {B b:Nat} {w W W':World} (h:Ab B w W) (hk:Kp b W W') (hb:b < B):Ab B w W':=h.trans ⟨hk.size,fun k hB hlt=>hk.block k hlt (by omega)⟩
theorem Ab.below {B:Nat} {w W W':World} (h:Ab B w W) (hk:Below W.heap.size W W'):Ab B w W':=h.trans ⟨hk.size,fun k _ hlt=>hk.block k hlt⟩
theorem Ab.alloc {B:Nat} {w W:World} (h:Ab B w W) (o:Obj):Ab B w (W.alloc o):=h.below ((Below.refl _ _).alloc (Nat.le_refl _) o)
theorem Ab.drew {B:Nat} {w W:World} (h:Ab B w W):Ab B w W.drew:=⟨h.size,h.keep⟩
theorem Ab.setCell {B:Nat} {w W:World} (h:Ab B w W) {p:Addr} (hp:p.block < B) (u:Value):Ab B w (W.setCell p u) :=
 h.trans ⟨by simp [World.setCell],fun k hB _=>Below.heap_setCell W p u k (by omega)⟩
theorem Ab.cell {B:Nat} {w w':World} (h:Ab B w w') {k i:Nat} {u:Value} (hk:B≤k) (hc:w.cell? ⟨k,i,none⟩=some u):w'.cell? ⟨k,i,none⟩=some u :=
 (World.cell?_of_block (w:=w) (a:=⟨k,i,none⟩) (h.keep k hk (World.block_lt_of_cell? w ⟨k,i,none⟩ hc))).trans hc
theorem IsEX.ab {B:Nat} {w w':World} {x:EX} {v:Value} (h:IsEX B w x v) (ha:Ab B w w'):IsEX B w' x v :=
 h.keep (fun _ _ _ h _=>h) fun _ _ _ hb hc=>ha.cell hb hc
abbrev IsSX (B:Nat) (w:World) (x:SX) (v:Value):Prop:=IsSP (fun k=>B≤k) w x v
abbrev IsSXs (B:Nat) (w:World) (o:Option Addr) (xs:List SX):Prop:=IsSPs (fun k=>B≤k) w o 0 xs
theorem IsSXs.ab {B:Nat} {w w':World} {o:Option Addr} {xs:List SX} (h:IsSXs B w o xs) (ha:Ab B w w'):IsSXs B w' o xs :=
 h.keep (fun _ _ _ h _=>h) fun _ _ _ hb hc=>ha.cell hb hc
theorem IsSXs.mono {B B':Nat} (hB:B'≤B) {w:World} {o:Option Addr} {xs:List SX} (h:IsSXs B w o xs):IsSXs B' w o xs:=h.keep (fun _ _ _ h _=>Nat.le_trans hB h) fun _ _ _ _ hc=>hc
theorem setRow_kp {b:Nat} {a W:World} (h:Kp b a W) {g:Nat} (hg:a.heap.size≤g∨g=b) (cs:Array Value):Kp b a (W.setRow g cs) :=
 ⟨h.os,h.tape,h.output,by have:=h.size;simpa using this,fun k hk hb=>(setRow_other W g k cs (by omega)).trans (h.block k hk hb)⟩
theorem setRow_kp0 {b:Nat} {w W:World} (h:Kp b w W) (cs:Array Value):Kp b w (W.setRow w.heap.size cs):=setRow_kp h (.inl (Nat.le_refl _)) cs
theorem setRow_ab {B:Nat} {a W:World} (h:Ab B a W) {g:Nat} (hg:g < B) (cs:Array Value):Ab B a (W.setRow g cs) :=
 h.trans ⟨by simp,fun k hB _=>setRow_other W g k cs (by omega)⟩
theorem setRow_under {B g:Nat} {W:World} (hg:B≤g) (cs:Array Value):Below B W (W.setRow g cs):=below_setRow (Below.refl B W) hg cs
theorem set11_ab {B:Nat} {a W:World} (h:Ab B a W) {r:Nat} (hr:r < B) (v0 v1 v2 v3 v4 v5 v6 v7 v8 v9 v10:Value):Ab B a (set11 W r v0 v1 v2 v3 v4 v5 v6 v7 v8 v9 v10) :=
 ((((((((((h.setCell hr _).setCell hr _).setCell hr _).setCell hr _).setCell hr _).setCell hr _).setCell hr _).setCell hr _).setCell hr _).setCell hr _).setCell hr _
def AnyE (v:Value):Prop:=∃ (k p s:Int) (nm:ByteArray) (nn tk tp:Int) (tg tn:ByteArray) (tz:Option Addr) (ta:Nat) (oa:Option Addr) (na ca:Nat),
  v=.agg #[.int .i64 k,.int .i64 p,.int .i64 s,.string nm,.int .i64 nn,.int .i64 tk,.int .i64 tp,.string tg,.string tn,.slice tz ta ta,.slice oa na ca]
def ValE (B:Nat) (w:World) (r:EO EX) (v:Value):Prop:=AnyE v∧∀ x j,r=.ok x j→IsEX B w x v
def zeroS:Array Value:=#[.int .i64 0,.int .i64 0,.string ⟨#[]⟩,.bool false,.int .i64 0,.int .i64 0,.int .i64 0,.string ⟨#[]⟩,.int .i64 0,.int .i64 0,.int .i64 0,.string ⟨#[]⟩,.string ⟨#[]⟩,.slice none 0 0,.slice none 0 0,.slice none 0 0,.slice none 0 0]
def AnyS (v:Value):Prop:=∃ (sk sp:Int) (sn:ByteArray) (sh:Bool) (k p s:Int) (nm:ByteArray) (nn tk tp:Int) (tg tn:ByteArray) (tz:Option Addr) (ta:Nat) (oa:Option Addr) (na ca:Nat) (ob:Option Addr) (nb cb:Nat) (oc:Option Addr) (nc cc:Nat),
  v=.agg #[.int .i64 sk,.int .i64 sp,.string sn,.bool sh,.int .i64 k,.int .i64 p,.int .i64 s,.string nm,.int .i64 nn,.int .i64 tk,.int .i64 tp,.string tg,.string tn,.slice tz ta ta,.slice oa na ca,.slice ob nb cb,.slice oc nc cc]
def AnyL (v:Value):Prop:=∃ (o:Option Addr) (n c:Nat),v=.slice o n c
def ValS (B:Nat) (w:World) (r:EO SX) (v:Value):Prop:=AnyS v∧∀ x j,r=.ok x j→IsSX B w x v
def ValL (B:Nat) (w:World) (r:EO (List SX)) (v:Value):Prop:=AnyL v∧∀ xs j,r=.ok xs j→∃ (o:Option Addr) (c:Nat),v=.slice o xs.length c∧IsSXs B w o xs
theorem ValE.ab {B:Nat} {w w':World} {r:EO EX} {v:Value} (h:ValE B w r v) (ha:Ab B w w'):ValE B w' r v:=⟨h.1,fun x j hr=>(h.2 x j hr).ab ha⟩
theorem ValE.mono {B B':Nat} (hB:B'≤B) {w:World} {r:EO EX} {v:Value} (h:ValE B w r v):ValE B' w r v:=⟨h.1,fun x j hr=>IsEX.mono hB (h.2 x j hr)⟩
theorem ValL.ab {B:Nat} {w w':World} {r:EO (List SX)} {v:Value} (h:ValL B w r v) (ha:Ab B w w'):ValL B w' r v:=⟨h.1,fun x j hr=>by obtain ⟨o,c,hv,hx⟩:=h.2 x j hr;exact ⟨o,c,hv,hx.ab ha⟩⟩
theorem ValL.mono {B B':Nat} (hB:B'≤B) {w:World} {r:EO (List SX)} {v:Value} (h:ValL B w r v):ValL B' w r v:=⟨h.1,fun x j hr=>by obtain ⟨o,c,hv,hx⟩:=h.2 x j hr;exact ⟨o,c,hv,IsSXs.mono hB hx⟩⟩
def TelS (b:Nat) (o:Option Addr) (c:Nat) (l:List TZ) (d:Int) (w:World) (R:EO SX) (e:Ending) (w':World):Prop:=∃ v,e=.returned v∧ValS w.heap.size w' R v∧St b o c l d R w'∧Kp b w w'
def TelE (b:Nat) (o:Option Addr) (c:Nat) (l:List TZ) (d:Int) (w:World) (R:EO EX) (e:Ending) (w':World):Prop:=∃ v,e=.returned v∧ValE w.heap.size w' R v∧St b o c l d R w'∧Kp b w w'
def TelB (b:Nat) (o:Option Addr) (c:Nat) (l:List TZ) (d:Int) (w:World) (R:EO (List SX)) (e:Ending) (w':World):Prop:=∃ v,e=.returned v∧ValL w.heap.size w' R v∧St b o c l d R w'∧Kp b w w'
section
variable {α β:Type} {b c:Nat} {o:Option Addr} {l:List TZ} {d:Int} {w w':World}
theorem St.as {r:EO α} (h:St b o c l d r w) {R:EO β} (g:α→β) (hR:R=bnd r fun x j=>.ok (g x) j):St b o c l d R w:=by
 subst hR
 cases r with
 |ok x j=>exact h
 |err p q=>exact h
 |out=>exact h
theorem must_ok {r:EO α} {z:UInt8} {x:α} {j:Int} (h:must l z r=.ok x j):∃ i,r=.ok x i∧isS (tkAt l i) z=true∧j=i + 1:=by
 cases r with
 |ok y i =>
  unfold must bnd at h
  simp only at h
  split at h
  ·next hs=>injection h with h1 h2;subst h1;exact ⟨i,rfl,hs,h2.symm⟩
  ·cases h
 |err p q=>cases h
 |out=>cases h
end
end Go.Proofs.YtfcgoainglpdlaaGreatDoor
