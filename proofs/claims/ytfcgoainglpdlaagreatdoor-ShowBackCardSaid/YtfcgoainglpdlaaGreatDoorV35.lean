/- The walk of the statements' own 'awake': it answers true. No condition. Parse's contract at the tokens of a text. No condition. The walk of 'Parse'. Condition: the tokens lie in memory as 'ZAt' says; texts of at most 2^48 bytes. The walk of block, and with it all blocks, for any steps. Condition: .. -/
import Derived.Test.YtfcgoainglpdlaaGreatDoorV14
import Derived.Test.YtfcgoainglpdlaaGreatDoorV32
import Derived.Test.YtfcgoainglpdlaaGreatDoorV33
import Derived.Deep.RegionHeld3
import Derived.Test.YtfcgoainglpdlaaGreatDoorV19
import Derived.Test.YtfcgoainglpdlaaGreatDoorV13
set_option maxRecDepth 20000
set_option maxHeartbeats 16000000
namespace Go.Proofs.YtfcgoainglpdlaaGreatDoor
open Go.RowKit
open Go.Lib hiding intOf
def ExRes (r:EO EX) (B:Nat) (W:World) (y:Value) (n e1 e2:Int):Prop :=
 match r with
 |.ok x j=>n=j∧e1=0∧e2=0∧IsEX B W x y
 |.err p c=>e1=p∧e2=c
 |.out=>True
theorem ExRes.keep {r:EO EX} {B B':Nat} {W W':World} {y:Value} {n e1 e2:Int} (h:ExRes r B W y n e1 e2) (hk:∀ t,IsEX B W t y→IsEX B' W' t y):ExRes r B' W' y n e1 e2:=by
 cases r with
 |ok t j=>exact ⟨h.1,h.2.1,h.2.2.1,hk _ h.2.2.2⟩
 |err p c=>exact h
 |out=>trivial
theorem ParRes.ty {r:EO EX} {B:Nat} {W:World} {v:Value} (h:ParRes B W r v) (hr:r≠.out):∃ (k p s:Int) (nm:ByteArray) (nn tk tp:Int) (tg tn:ByteArray) (tz:Option Addr) (ta:Nat) (oa:Option Addr) (na ca:Nat) (n e1 e2:Int),
  v=.tuple #[.agg #[.int .i64 k,.int .i64 p,.int .i64 s,.string nm,.int .i64 nn,.int .i64 tk,.int .i64 tp,.string tg,.string tn,.slice tz ta ta,.slice oa na ca],.int .i64 n,.agg #[.int .i64 e1,.int .i64 e2]] ∧
  ExRes r B W (.agg #[.int .i64 k,.int .i64 p,.int .i64 s,.string nm,.int .i64 nn,.int .i64 tk,.int .i64 tp,.string tg,.string tn,.slice tz ta ta,.slice oa na ca]) n e1 e2:=by
 cases r with
 |ok x j =>
  obtain ⟨y,rfl,hx⟩:=h
  obtain ⟨n,nm,tk,tp,tg,tn,tz,ta,oa,ca,rfl,_⟩:=hx.parts
  exact ⟨_,_,_,nm,n,tk,tp,tg,tn,tz,ta,oa,_,ca,j,0,0,rfl,rfl,rfl,rfl,hx⟩
 |err p c =>
  obtain rfl:v=.tuple #[.agg zeroE,.int .i64 0,.agg #[.int .i64 p,.int .i64 c]]:=h
  exact ⟨0,0,0,⟨#[]⟩,0,0,0,⟨#[]⟩,⟨#[]⟩,none,0,none,0,0,0,p,c,rfl,rfl,rfl⟩
 |out=>exact (hr rfl).elim
structure ExRel (r:EO EX) (w1:World) (B3 B5:Nat) (v0 v1 v2 v3 v4 v5 v6 v7 v8 v9 v10:Value) (n e1 e2:Int) (wx:World):Prop where
 b3:w1.heap.size≤B3
 b5:w1.heap.size≤B5
 at11:Blk wx B3 31 #[v0,v1,v2,v3,v4,v5,v6,v7,v8,v9,v10]
 at2:Blk wx B5 44 #[.int .i64 e1,.int .i64 e2]
 below:Below w1.heap.size w1 wx
 res:ExRes r w1.heap.size wx (.agg #[v0,v1,v2,v3,v4,v5,v6,v7,v8,v9,v10]) n e1 e2
theorem iex_set2 {B:Nat} {w:World} {x:EX} {v:Value} (h:IsEX B w x v) {r:Nat} (hr:r < B) (v0 v1:Value):IsEX B (set2 w r v0 v1) x v :=
 (IsEX.set_ h (p:=⟨r,0,none⟩) hr _).set_ (p:=⟨r,1,none⟩) hr _
theorem iex_alloc {B:Nat} {w:World} {x:EX} {v:Value} (h:IsEX B w x v) (o:Obj):IsEX B (w.alloc o) x v:=IsEP.alloc h o
section
variable {r:EO EX} {w1 w2:World} {v0 v1 v2 v3 v4 v5 v6 v7 v8 v9 v10:Value} {n e1 e2:Int}
theorem exF1 (hB:Below w1.heap.size w1 w2) (hr:ExRes r w1.heap.size w2 (.agg #[v0,v1,v2,v3,v4,v5,v6,v7,v8,v9,v10]) n e1 e2) :
  ExRel r w1 w2.heap.size (w2.heap.size + 1) v0 v1 v2 v3 v4 v5 v6 v7 v8 v9 v10 n e1 e2 ((w2.alloc (.cells #[v0,v1,v2,v3,v4,v5,v6,v7,v8,v9,v10] 31)).alloc (.cells #[.int .i64 e1,.int .i64 e2] 44)):=by
 have hs:=hB.size
 refine ⟨hs,by omega,(Blk.new _ _ _).alloc _,?_,(hB.alloc hs _).alloc (by simp;omega) _,hr.keep fun t h=>iex_alloc (iex_alloc h _) _⟩
 have:=Blk.new (w2.alloc (.cells #[v0,v1,v2,v3,v4,v5,v6,v7,v8,v9,v10] 31)) 44 #[.int .i64 e1,.int .i64 e2]
 simpa using this
theorem exF2 (hB:Below w1.heap.size w1 w2) (hr:ExRes r w1.heap.size w2 (.agg #[v0,v1,v2,v3,v4,v5,v6,v7,v8,v9,v10]) n e1 e2) :
  ExRel r w1 (w2.heap.size + 1) w2.heap.size v0 v1 v2 v3 v4 v5 v6 v7 v8 v9 v10 n e1 e2 ((w2.alloc (.cells #[.int .i64 e1,.int .i64 e2] 44)).alloc (.cells #[v0,v1,v2,v3,v4,v5,v6,v7,v8,v9,v10] 31)):=by
 have hs:=hB.size
 refine ⟨by omega,hs,?_,(Blk.new _ _ _).alloc _,(hB.alloc hs _).alloc (by simp;omega) _,hr.keep fun t h=>iex_alloc (iex_alloc h _) _⟩
 have:=Blk.new (w2.alloc (.cells #[.int .i64 e1,.int .i64 e2] 44)) 31 #[v0,v1,v2,v3,v4,v5,v6,v7,v8,v9,v10]
 simpa using this
theorem exF3 {f0 f1 f2 f3 f4 f5 f6 f7 f8 f9 f10:Value} (hB:Below w1.heap.size w1 w2) (hX:Blk w2 w1.heap.size 31 #[f0,f1,f2,f3,f4,f5,f6,f7,f8,f9,f10]) (hr:ExRes r (w1.heap.size + 1) w2 (.agg #[v0,v1,v2,v3,v4,v5,v6,v7,v8,v9,v10]) n e1 e2) :
  ExRel r w1 w1.heap.size w2.heap.size v0 v1 v2 v3 v4 v5 v6 v7 v8 v9 v10 n e1 e2 ((set11 w2 w1.heap.size v0 v1 v2 v3 v4 v5 v6 v7 v8 v9 v10).alloc (.cells #[.int .i64 e1,.int .i64 e2] 44)):=by
 have hs:=hB.size
 refine ⟨Nat.le_refl _,hs,(blk_set11 hX _ _ _ _ _ _ _ _ _ _ _).alloc _,?_,(set11_below hB (Nat.le_refl _) _ _ _ _ _ _ _ _ _ _ _).alloc (by rw [set11_size];exact hs) _,hr.keep fun t h=>IsEX.mono (by omega) (iex_alloc (IsEX.set11 h (r:=w1.heap.size) (by omega) _ _ _ _ _ _ _ _ _ _ _) _)⟩
 have:=Blk.new (set11 w2 w1.heap.size v0 v1 v2 v3 v4 v5 v6 v7 v8 v9 v10) 44 #[.int .i64 e1,.int .i64 e2]
 rwa [set11_size] at this
theorem exF4 {f0 f1:Value} (hB:Below w1.heap.size w1 w2) (hX:Blk w2 w1.heap.size 44 #[f0,f1]) (hr:ExRes r (w1.heap.size + 1) w2 (.agg #[v0,v1,v2,v3,v4,v5,v6,v7,v8,v9,v10]) n e1 e2) :
  ExRel r w1 w2.heap.size w1.heap.size v0 v1 v2 v3 v4 v5 v6 v7 v8 v9 v10 n e1 e2 ((set2 w2 w1.heap.size (.int .i64 e1) (.int .i64 e2)).alloc (.cells #[v0,v1,v2,v3,v4,v5,v6,v7,v8,v9,v10] 31)):=by
 have hs:=hB.size
 refine ⟨hs,Nat.le_refl _,?_,(blk_set2 hX _ _).alloc _,(set2_below hB (Nat.le_refl _) _ _).alloc (by rw [set2_size];exact hs) _,hr.keep fun t h=>IsEX.mono (by omega) (iex_alloc (iex_set2 h (r:=w1.heap.size) (by omega) _ _) _)⟩
 have:=Blk.new (set2 w2 w1.heap.size (.int .i64 e1) (.int .i64 e2)) 31 #[v0,v1,v2,v3,v4,v5,v6,v7,v8,v9,v10]
 rwa [set2_size] at this
theorem exF5 {f0 f1 f2 f3 f4 f5 f6 f7 f8 f9 f10 g0 g1:Value} (hB:Below w1.heap.size w1 w2) (hX:Blk w2 w1.heap.size 31 #[f0,f1,f2,f3,f4,f5,f6,f7,f8,f9,f10]) (hY:Blk w2 (w1.heap.size + 1) 44 #[g0,g1]) (hr:ExRes r (w1.heap.size + 1 + 1) w2 (.agg #[v0,v1,v2,v3,v4,v5,v6,v7,v8,v9,v10]) n e1 e2) :
  ExRel r w1 w1.heap.size (w1.heap.size + 1) v0 v1 v2 v3 v4 v5 v6 v7 v8 v9 v10 n e1 e2 (set2 (set11 w2 w1.heap.size v0 v1 v2 v3 v4 v5 v6 v7 v8 v9 v10) (w1.heap.size + 1) (.int .i64 e1) (.int .i64 e2)) :=
 ⟨Nat.le_refl _,by omega,blk_far2 (blk_set11 hX _ _ _ _ _ _ _ _ _ _ _) (by omega) _ _,blk_set2 (blk_far11 hY (by omega) _ _ _ _ _ _ _ _ _ _ _) _ _,set2_below (set11_below hB (Nat.le_refl _) _ _ _ _ _ _ _ _ _ _ _) (by omega) _ _,hr.keep fun t h=>IsEX.mono (by omega) (iex_set2 (IsEX.set11 h (r:=w1.heap.size) (by omega) _ _ _ _ _ _ _ _ _ _ _) (r:=w1.heap.size + 1) (by omega) _ _)⟩
theorem exF6 {f0 f1 f2 f3 f4 f5 f6 f7 f8 f9 f10 g0 g1:Value} (hB:Below w1.heap.size w1 w2) (hX:Blk w2 w1.heap.size 44 #[g0,g1]) (hY:Blk w2 (w1.heap.size + 1) 31 #[f0,f1,f2,f3,f4,f5,f6,f7,f8,f9,f10]) (hr:ExRes r (w1.heap.size + 1 + 1) w2 (.agg #[v0,v1,v2,v3,v4,v5,v6,v7,v8,v9,v10]) n e1 e2) :
  ExRel r w1 (w1.heap.size + 1) w1.heap.size v0 v1 v2 v3 v4 v5 v6 v7 v8 v9 v10 n e1 e2 (set2 (set11 w2 (w1.heap.size + 1) v0 v1 v2 v3 v4 v5 v6 v7 v8 v9 v10) w1.heap.size (.int .i64 e1) (.int .i64 e2)) :=
 ⟨by omega,Nat.le_refl _,blk_far2 (blk_set11 hY _ _ _ _ _ _ _ _ _ _ _) (by omega) _ _,blk_set2 (blk_far11 hX (by omega) _ _ _ _ _ _ _ _ _ _ _) _ _,set2_below (set11_below hB (by omega) _ _ _ _ _ _ _ _ _ _ _) (Nat.le_refl _) _ _,hr.keep fun t h=>IsEX.mono (by omega) (iex_set2 (IsEX.set11 h (r:=w1.heap.size + 1) (by omega) _ _ _ _ _ _ _ _ _ _ _) (r:=w1.heap.size) (by omega) _ _)⟩
end
theorem St.set11 {α:Type} {b c:Nat} {o:Option Addr} {l:List TZ} {d:Int} {r:EO α} {w:World} (h:St b o c l d r w) {k:Nat} (hk:b < k) (v0 v1 v2 v3 v4 v5 v6 v7 v8 v9 v10:Value):St b o c l d r (set11 w k v0 v1 v2 v3 v4 v5 v6 v7 v8 v9 v10) :=
 h.under (set11_below (Below.refl _ _) (by omega) _ _ _ _ _ _ _ _ _ _ _)
def ExOut {α:Type} (b:Nat) (o:Option Addr) (c:Nat) (l:List TZ) (oo:Option Addr) (cc:Nat) (ll:List TZ) (d p q:Int) (r:EO α) (E:EO EX) (w w':World) (v:Value):Prop :=
 match E with
 |.ok x j=>IsEX w.heap.size w' x v∧ZS b o c l j d p q w'
 |.err P Q=>St b oo cc ll d (wrong P Q r) w'
 |.out=>False
theorem expressionZ {α:Type} {b c cc:Nat} {o oo:Option Addr} {l ll:List TZ} {r:EO α} {i d p q:Int} {w:World} (S:ZS b o c l i d p q w) (hn:l.length≤1073741824) (hf:Fits l) (F:Nat) (E:EO EX) (hE:ex l F 1 0 i=E) (hne:E≠.out)
  (HSt:∀ W:World,ZS b o c l i d p q W→St b oo cc ll d r W) :
  Calls Tryz.prog 191 #[.pointer (some ⟨b,0,none⟩)] w fun e w'=>∃ v,e=.returned v∧AnyE v∧Kp b w w'∧ExOut b o c l oo cc ll d p q r E w w' v:=by
 have H:=Lib.hid S
 have hbl:=S.lt
 have HC:=Lib.hid (fun (W:World) (h:ZS b o c l i d p q W)=>parseE_any (c:=c) i W h.toks F (fun b m=>level_all hn hf F) (by rw [hE];exact hne))
 rw [hE] at HC
 have HQ:Hid (∀ P Q,E=.err P Q→Q≠0):=fun P Q h=>((read_err F).1 _ _ _ _ _ (hE.trans h)).2
 have HF:=Lib.hid (fun (P Q:Int) (h:Q≠0) (W:World) (hz:ZS b o c l i d p q W)=>failS (HSt W hz) P Q h)
 have HNE:=Lib.hid hne
 have R0:=Lib.hid (Blk.new w 31 zeroE)
 have S0:=Lib.hid (S.alloc (.cells zeroE 31))
 have K0:=Lib.hid ((Kp.refl b w).alloc (.cells zeroE 31))
 clear S hn hf hE hne HSt
 show Calls _ _ _ _ _
 go_enter Tryz.func191,Tryz.ntmps191
 go_wp2_with fail
 change Code.wp _ _ _ _ (w.alloc (.cells zeroE 31))
 have hz1:w.heap.size < (w.alloc (.cells zeroE 31)).heap.size:=by simp
 generalize w.alloc (.cells zeroE 31)=w1 at *
 obtain ⟨p0,p1,p2,p3,p4,pf⟩:=S0.out.cells
 have hb1:b < w1.heap.size:=S0.out.lt
 clear p2 p3 p4
 go_cut [3,4,5] (fun t3 t4 t5 wx=>∃ (B3 B5:Nat) (k p s:Int) (nm:ByteArray) (nn tk tp:Int) (tg tn:ByteArray) (tz:Option Addr) (ta:Nat) (oa:Option Addr) (na ca:Nat) (n e1 e2:Int),t3=.pointer (some ⟨B3,0,none⟩)∧t4=.int .i64 n∧t5=.pointer (some ⟨B5,0,none⟩)∧Hid (ExRel E w1 B3 B5 (.int .i64 k) (.int .i64 p) (.int .i64 s) (.string nm) (.int .i64 nn) (.int .i64 tk) (.int .i64 tp) (.string tg) (.string tn) (.slice tz ta ta) (.slice oa na ca) n e1 e2 wx))
 case first =>
  have n0:w1.heap.size≠b:=by omega
  have n1:w1.heap.size + 1≠b:=by omega
  clear HQ HF R0 K0 H
  go_region_held3 (fun w'=>w'.cell? ⟨b,0,none⟩=some (.slice o l.length c)∧w'.cell? ⟨b,1,none⟩=some (.int .i64 i)) (refine ⟨?_,?_⟩ <;> (first | with_reducible assumption | (simp [q0,q1,n0,n1,World.cell?_alloc_some,World.cell?_setCell_far];done) | (simp [p0,p1,World.cell?_alloc_some];done) | (trace_state;fail))) ((go_at_call 23;refine (HC.out _ ?_).mono ?_;(first | exact S0.out.drew | exact (S0.out.alloc _).drew | exact ((S0.out.alloc _).alloc _).drew);rintro e w2 ⟨v,rfl,hres,hB⟩;obtain ⟨k,p,s,nm,nn,tk,tp,tg,tn,tz,ta,oa,na,ca,n,e1,e2,rfl,hr⟩:=hres.ty HNE.out;(first | (have X:=blk_mid2 hB.undrew;have Y:=blk_sec hB.undrew;have xc:=X.cell;have xf:=X.frozen;have yc:=Y.cell;have yf:=Y.frozen;have zz:=mid_size' hB.undrew;have zx:=X.lt;have HB2:=Lib.hid ((((Below.refl w1.heap.size w1).alloc (Nat.le_refl _) _).alloc (by simp) _).trans (hB.undrew.mono (by simp;omega)));have HR:=Lib.hid (hr.keep (B':=w1.heap.size + 1 + 1) fun t h=>IsEX.mono (by simp) h);have XX:=Lib.hid X;have YY:=Lib.hid Y;clear X Y) | (have X:=blk_mid3 hB.undrew;have xc:=X.cell;have xf:=X.frozen;have zz:=mid_size hB.undrew;have HB2:=Lib.hid (((Below.refl w1.heap.size w1).alloc (Nat.le_refl _) _).trans (hB.undrew.mono (by simp)));have HR:=Lib.hid (hr.keep (B':=w1.heap.size + 1) fun t h=>IsEX.mono (by simp) h);have XX:=Lib.hid X;clear X) | (have HB2:=Lib.hid hB.undrew;have HR:=Lib.hid (hr.keep (B':=w1.heap.size) fun t h=>IsEX.mono (by simp) h)));have q0:w2.cell? ⟨b,0,none⟩=some (.slice o l.length c):=(HB2.out.cell hb1).trans p0;have q1:w2.cell? ⟨b,1,none⟩=some (.int .i64 i):=(HB2.out.cell hb1).trans p1;clear hB hr hres))
  all_goals go_wp2_with fail
  all_goals go_meet
  all_goals
   refine ⟨_,_,k,p,s,nm,nn,tk,tp,tg,tn,tz,ta,oa,na,ca,n,e1,e2,rfl,rfl,rfl,Lib.hid ?_⟩
   first
   |(have t:=exF1 HB2.out HR.out;with_reducible exact t)
   |(have t:=exF2 HB2.out HR.out;with_reducible exact t)
   |(have t:=exF5 HB2.out XX.out YY.out HR.out;simp only [set11,set2] at t;with_reducible exact t)
   |(have t:=exF6 HB2.out XX.out YY.out HR.out;simp only [set11,set2] at t;with_reducible exact t)
   |(have t:=exF3 HB2.out XX.out HR.out;simp only [set11] at t;with_reducible exact t)
   |(have t:=exF4 HB2.out XX.out HR.out;simp only [set2] at t;with_reducible exact t)
 case rest =>
  obtain ⟨B3,B5,k,p',s,nm,nn,tk,tp,tg,tn,tz,ta,oa,na,ca,n,e1,e2,rfl,rfl,rfl,hT⟩:=hcut
  obtain ⟨h3,h5,hX,hD,hB,hR⟩:=hT.out
  have S2:=Lib.hid (S0.out.step hB)
  have K2:=Lib.hid (K0.out.then_below hB)
  have R2:=Lib.hid (R0.out.below hB)
  have X2:=Lib.hid hX
  have d2:=hD.cell
  have f2:=hD.frozen
  have l3:=hX.lt
  have l5:=hD.lt
  have HR:=Lib.hid hR
  have hz2:w1.heap.size≤wc.heap.size:=hB.size
  clear hT hX hD hB hR p0 p1 pf S0 K0 R0 HC
  cases E with
  |out=>exact (HNE.out rfl).elim
  |err P Q =>
   have hR:=HR.out
   obtain ⟨rfl,rfl⟩:=hR
   have hq0:e2≠0:=HQ.out _ _ rfl
   have ec:(e2 != 0)=true:=by simpa using hq0
   have HG:=Lib.hid (HF.out e1 e2 hq0)
   clear hq0 HQ HF HR
   go_wp2_with fail
   refine (HG.out _ S2.out).mono ?_
   rintro e w3 ⟨rfl,hS,hK⟩
   have S3:=Lib.hid hS
   have K3:=Lib.hid (K2.out.trans hK)
   have hR3:=R2.out.kp hK (by omega)
   have c3:=hR3.cell
   have g3:=hR3.frozen
   have l4:=hR3.lt
   simp only [zeroE] at c3
   clear hS hK hR3
   go_wp2
   refine bodyPost_ret (v:=.agg #[.int .i64 0,.int .i64 0,.int .i64 0,.string ⟨#[]⟩,.int .i64 0,.int .i64 0,.int .i64 0,.string ⟨#[]⟩,.string ⟨#[]⟩,.slice none 0 0,.slice none 0 0]) (by simp [results,Tryz.results191,go_sem,c3]) rfl ?_
   exact ⟨_,rfl,⟨0,0,0,⟨#[]⟩,0,0,0,⟨#[]⟩,⟨#[]⟩,none,0,none,0,0,rfl⟩,set11_kp K3.out (.inl (Nat.le_refl _)) _ _ _ _ _ _ _ _ _ _ _,S3.out.set11 hbl _ _ _ _ _ _ _ _ _ _ _⟩
  |ok x j =>
   have hR:=HR.out
   obtain ⟨rfl,rfl,rfl,hx⟩:=hR
   obtain ⟨p0,p1,p2,p3,p4,pf⟩:=S2.out.cells
   have hb2:b < wc.heap.size:=S2.out.lt
   have hbw:b≠w.heap.size:=by omega
   have hb3:b≠B3:=by omega
   have hw3:w.heap.size≠B3:=by omega
   have S3:=Lib.hid (S2.out.next n)
   have K3:=Lib.hid (K2.out.setCell (p:=⟨b,1,none⟩) (.inr rfl) (.int .i64 n))
   have hX3:=(X2.out.far (p:=⟨b,1,none⟩) (by simp only;omega) (.int .i64 n))
   have c3:=X2.out.cell
   have g3:=X2.out.frozen
   have hR3:=(R2.out.far (p:=⟨b,1,none⟩) (by simp only;omega) (.int .i64 n))
   have r3:=R2.out.cell
   have rf3:=R2.out.frozen
   have l4:=R2.out.lt
   have HX:=Lib.hid (IsEX.set_ (IsEX.mono (B':=w.heap.size + 1) (by omega) hx) (p:=⟨b,1,none⟩) (by simp only;omega) (.int .i64 n))
   simp only [zeroE] at r3
   clear hx HR HQ HF hX3 hR3
   go_wp2
   refine bodyPost_ret (v:=.agg #[.int .i64 k,.int .i64 p',.int .i64 s,.string nm,.int .i64 nn,.int .i64 tk,.int .i64 tp,.string tg,.string tn,.slice tz ta ta,.slice oa na ca]) (by simp [results,Tryz.results191,go_sem,r3]) rfl ?_
   refine ⟨_,rfl,⟨_,_,_,_,_,_,_,_,_,_,_,_,_,_,rfl⟩,?_,?_,?_⟩
   ·exact set11_kp K3.out (.inl (Nat.le_refl _)) _ _ _ _ _ _ _ _ _ _ _
   ·exact IsEX.mono (by omega) (IsEX.set11 HX.out (r:=w.heap.size) (by omega) _ _ _ _ _ _ _ _ _ _ _)
   ·exact S3.out.under (set11_below (Below.refl _ _) (by omega) _ _ _ _ _ _ _ _ _ _ _)
theorem tkAt_nil (i:Int):tkAt [] i=tz0 0:=zero_at rfl
theorem ex_nil (i:Int):ex [] 12 1 0 i=.err 0 5:=by
 have hp:prim [] 6 0 i=.err 0 5:=by
  rw [prim];simp only [tkAt_nil];rfl
 have hu:una [] 7 0 i=.err 0 5:=by
  rw [una,if_neg (by rw [tkAt_nil];decide),hp]
 have h5:ex [] 8 5 0 i=.err 0 5:=by rw [ex,if_pos rfl,hu]
 have h4:ex [] 9 4 0 i=.err 0 5:=by rw [ex,if_neg (by decide),h5]
 have h3:ex [] 10 3 0 i=.err 0 5:=by rw [ex,if_neg (by decide),h4]
 have h2:ex [] 11 2 0 i=.err 0 5:=by rw [ex,if_neg (by decide),h3]
 rw [ex,if_neg (by decide),h2]
theorem expressionS {α:Type} {b c:Nat} {o:Option Addr} {l:List TZ} {d:Int} {r:EO α} {w:World} (S:St b o c l d r w) (hn:l.length≤1073741824) (hf:Fits l) (F:Nat) (hr:bnd r (fun _ j=>ex l F 1 0 j)≠.out) :
  Calls Tryz.prog 191 #[.pointer (some ⟨b,0,none⟩)] w fun e w'=>∃ v,e=.returned v∧ValE w.heap.size w' (bnd r fun _ j=>ex l F 1 0 j) v∧St b o c l d (bnd r fun _ j=>ex l F 1 0 j) w'∧Kp b w w':=by
 cases r with
 |out=>exact S.elim
 |ok x j =>
  have hr':ex l F 1 0 j≠.out:=hr
  refine (expressionZ (r:=(.ok x j:EO α)) (oo:=o) (cc:=c) (ll:=l) S hn hf F _ rfl hr' (fun _ h=>h)).mono ?_
  rintro e w' ⟨v,rfl,hv,hK,hm⟩
  refine ⟨v,rfl,?_⟩
  show ValE w.heap.size w' (ex l F 1 0 j) v∧St b o c l d (ex l F 1 0 j) w'∧Kp b w w'
  cases hq:ex l F 1 0 j with
  |out=>exact (hr' hq).elim
  |ok y n =>
   rw [hq] at hm
   exact ⟨⟨hv,fun x' j' h=>by cases h;exact hm.1⟩,hm.2,hK⟩
  |err P Q =>
   rw [hq] at hm
   exact ⟨⟨hv,fun x' j' h=>by cases h⟩,hm,hK⟩
 |err P Q =>
  obtain ⟨hQ,i,hz⟩:=S
  refine (expressionZ (r:=(.err P Q:EO α)) (oo:=o) (cc:=c) (ll:=l) hz (Nat.zero_le _) (fun t ht=>by cases ht) 12 _ (ex_nil i) (by simp) (fun _ h=>⟨hQ,i,h⟩)).mono ?_
  rintro e w' ⟨v,rfl,hv,hK,hm⟩
  exact ⟨v,rfl,⟨hv,fun x' j' h=>by cases h⟩,hm,hK⟩
end Go.Proofs.YtfcgoainglpdlaaGreatDoor
namespace Go.Proofs.YtfcgoainglpdlaaGreatDoor
open Go.RowKit
open Go.Lib hiding intOf
theorem ValL.must {B:Nat} {W:World} {l:List TZ} {z:UInt8} {R:EO (List SX)} {v:Value} (h:ValL B W R v):ValL B W (must l z R) v :=
 ⟨h.1,fun xs j e=>by obtain ⟨i,hi,_⟩:=must_ok e;exact h.2 xs i hi⟩
section
variable {α:Type} {l:List TZ} {F f D:Nat}
theorem must_yes {z:UInt8} {x:α} {j:Int} (h:isS (tkAt l j) z=true):must l z (.ok x j)=.ok x (j + 1):=by unfold must bnd;simp only [h,if_true]
theorem must_no {z:UInt8} {x:α} {j:Int} (h:isS (tkAt l j) z=false):must l z (.ok x j)=.err (tkAt l j).pos 5:=by unfold must bnd;simp only [h];rfl
theorem blk_lt (hD:D < 30) (r:EO α):(bnd (must l 123 r) fun _ j=>rows l F f D j)=bnd r fun _ j=>blk l F (f + 1) D j:=by
 cases r with
 |ok x j =>
  show (bnd (must l 123 (.ok x j)) fun _ j=>rows l F f D j)=blk l F (f + 1) D j
  rw [blk]
  cases h:isS (tkAt l j) 123
  ·rw [must_no h,if_neg (by decide)];rfl
  ·rw [must_yes h,if_pos rfl,if_neg (by omega)];rfl
 |err p q=>rfl
 |out=>rfl
theorem blk_30 (r:EO α):(bnd (wrong (tkR l r).pos 6 (must l 123 r)) fun _ j=>rows l F 0 30 j)=bnd r fun _ j=>blk l F (f + 1) 30 j:=by
 cases r with
 |ok x j =>
  show (bnd (wrong (tkAt l j).pos 6 (must l 123 (.ok x j))) fun _ j=>rows l F 0 30 j)=blk l F (f + 1) 30 j
  rw [blk]
  cases h:isS (tkAt l j) 123
  ·rw [must_no h,if_neg (by decide)];rfl
  ·rw [must_yes h,if_pos rfl,if_pos (by omega)];rfl
 |err p q=>rfl
 |out=>rfl
end
section
variable {α:Type} {b c:Nat} {o:Option Addr} {l:List TZ} {F f D:Nat}
theorem block_lt {r:EO α} {w:World} (hD:D < 30) (HC:ExprC b o c l F) (HBC:∀ g,g < f→BlkC b o c l F g (D + 1)) (S:St b o c l (D:Nat) r w) (hn:l.length≤1073741824) (hf:Fits l) (hr:(bnd r fun _ j=>blk l F (f + 1) D j)≠.out) :
  Calls Tryz.prog 163 #[.pointer (some ⟨b,0,none⟩)] w (TelB b o c l (D:Nat) w (bnd r fun _ j=>blk l F (f + 1) D j)):=by
 rw [← blk_lt hD] at hr ⊢
 have hbl:=S.lt
 have HP:=Lib.hid (peekS S (by omega))
 have H:=Lib.hid S
 have HX:=Lib.hid (fun (W:World) (h:St b o c l (D:Nat) r W)=>expectS h hn 123)
 have h0:∀ x j,must l 123 r=.ok x j→0≤j∧j≤(l.length:Nat):=fun x j h=>by
  obtain ⟨i,_,hs,rfl⟩:=must_ok h
  have:=isS_real hs
  omega
 have hS0:∀ W:World,St b o c l ((D:Nat) + 1) (must l 123 r) W→Calls Tryz.prog 175 #[.pointer (some ⟨b,0,none⟩)] W (TelR b o c l D W (bnd (must l 123 r) fun _ j=>rows l F f D j)):=by
  intro W h
  have e:((D + 1:Nat):Int)=(D:Nat) + 1:=by omega
  exact statementsS (r0:=must l 123 r) (w:=W) (d:=D) HC HBC (by rw [e];exact h) hn hf h0 hr
 have HS:=Lib.hid hS0
 clear hS0
 have HE:=Lib.hid (fun (W:World) (R':EO (List SX)) (h:St b o c l (D:Nat) R' W)=>expectS h hn 125)
 have hfield:=run_field1'
 have e30:(((D:Nat):Int) == 30)=false:=by simp;omega
 have hD0:(0:Int)≤(D:Nat):=by omega
 have hD1:((D:Nat):Int) < 30:=by omega
 clear S HC HBC hn hf hr h0 hD
 generalize (bnd (must l 123 r) fun _ j=>rows l F f D j)=R at *
 generalize tkR l r=t at *
 go_enter Tryz.func163,Tryz.ntmps163
 go_wp2_with fail
 refine HP.out.mono ?_
 rintro e w1 ⟨rfl,hB⟩
 have S1:=Lib.hid (H.out.step hB)
 have K1:=Lib.hid ((Kp.refl b w).then_below hB)
 clear hB HP H
 go_wp2_with fail
 refine (HX.out _ S1.out).mono ?_
 rintro e w2 ⟨rfl,hS,hK⟩
 have S2:=Lib.hid hS
 have K2:=Lib.hid (K1.out.trans hK)
 obtain ⟨p2,pf2⟩:=hS.open_
 have hb2:=hS.lt
 clear hS hK HX S1 K1
 go_wp2_with fail
 refine (HS.out _ (S2.out.deep _)).mono ?_
 rintro e w3 ⟨v,R',rfl,hR,hv,hS,hK⟩
 obtain ⟨ob,nb,cb,rfl⟩:=hv.1
 have hS3:St b o c l ((D:Nat) + 1) R' w3:=hS
 have K3:=Lib.hid ((K2.out.setCell (p:=⟨b,2,none⟩) (.inr rfl) (.int .i64 ((D:Nat) + 1))).trans hK)
 obtain ⟨p3,pf3⟩:=hS3.open_
 have hb3:=hS3.lt
 have S3:=Lib.hid hS3
 have hz:w.heap.size≤(w2.setCell ⟨b,2,none⟩ (.int .i64 ((D:Nat) + 1))).heap.size:=by have:=K2.out.size;simpa [World.setCell] using this
 have V3:=Lib.hid (hv.mono hz)
 have HR:=Lib.hid hR
 clear hv hS hK HS S2 K2 p2 pf2 hS3 hR hz hb2
 go_wp2_with fail
 refine (HE.out _ R' (S3.out.deep _)).mono ?_
 rintro e w4 ⟨rfl,hS,hK⟩
 have S4:=Lib.hid hS
 have K4:=Lib.hid ((K3.out.setCell (p:=⟨b,2,none⟩) (.inr rfl) (.int .i64 (D:Nat))).trans hK)
 have V4:=Lib.hid (V3.out.ab (((Ab.refl _ _).setCell (p:=⟨b,2,none⟩) hbl (.int .i64 (D:Nat))).kp hK hbl))
 clear hS hK S3 K3 V3 HE p3 pf3
 go_wp2
 go_ret
 rw [HR.out] at S4
 exact ⟨_,rfl,HR.out ▸ V4.out.must,S4.out,K4.out⟩
theorem block_30 {r:EO α} {w:World} (HC:ExprC b o c l F) (S:St b o c l (30:Nat) r w) (hn:l.length≤1073741824) (hf:Fits l) (hr:(bnd r fun _ j=>blk l F (f + 1) 30 j)≠.out) :
  Calls Tryz.prog 163 #[.pointer (some ⟨b,0,none⟩)] w (TelB b o c l (30:Nat) w (bnd r fun _ j=>blk l F (f + 1) 30 j)):=by
 rw [← blk_30] at hr ⊢
 have hbl:=S.lt
 have HP:=Lib.hid (peekS S (by omega))
 have H:=Lib.hid S
 have HX:=Lib.hid (fun (W:World) (h:St b o c l (30:Nat) r W)=>expectS h hn 123)
 have HW:=Lib.hid (fun (W:World) (h:St b o c l (30:Nat) (must l 123 r) W)=>failS h (tkR l r).pos 6 (by decide))
 have h0:∀ x j,wrong (tkR l r).pos 6 (must l 123 r)=.ok x j→0≤j∧j≤(l.length:Nat):=fun x j h=>by
  generalize must l 123 r=r1 at h
  cases r1 <;> cases h
 have hS0:∀ W:World,St b o c l 31 (wrong (tkR l r).pos 6 (must l 123 r)) W→Calls Tryz.prog 175 #[.pointer (some ⟨b,0,none⟩)] W (TelR b o c l 30 W (bnd (wrong (tkR l r).pos 6 (must l 123 r)) fun _ j=>rows l F 0 30 j)):=by
  intro W h
  exact statementsS (r0:=wrong (tkR l r).pos 6 (must l 123 r)) (w:=W) (f:=0) (d:=30) HC (fun g hg=>by omega) h hn hf h0 hr
 have HS:=Lib.hid hS0
 clear hS0
 have HE:=Lib.hid (fun (W:World) (R':EO (List SX)) (h:St b o c l (30:Nat) R' W)=>expectS h hn 125)
 have hfield:=run_field1'
 clear S HC hn hf hr h0
 generalize (bnd (wrong (tkR l r).pos 6 (must l 123 r)) fun _ j=>rows l F 0 30 j)=R at *
 generalize tkR l r=t at *
 go_enter Tryz.func163,Tryz.ntmps163
 go_wp2_with fail
 refine HP.out.mono ?_
 rintro e w1 ⟨rfl,hB⟩
 have S1:=Lib.hid (H.out.step hB)
 have K1:=Lib.hid ((Kp.refl b w).then_below hB)
 clear hB HP H
 go_wp2_with fail
 refine (HX.out _ S1.out).mono ?_
 rintro e w2 ⟨rfl,hS,hK⟩
 have S2:=Lib.hid hS
 have K2:=Lib.hid (K1.out.trans hK)
 obtain ⟨p2,pf2⟩:=hS.open_
 have hb2:=hS.lt
 clear hS hK HX S1 K1
 go_wp2_with fail
 refine (HW.out _ S2.out).mono ?_
 rintro e w5 ⟨rfl,hS,hK⟩
 have S5:=Lib.hid hS
 have K5:=Lib.hid (K2.out.trans hK)
 obtain ⟨p5,pf5⟩:=hS.open_
 have hb5:=hS.lt
 clear hS hK HW S2 K2 p2 pf2 hb2
 go_wp2_with fail
 refine (HS.out _ (S5.out.deep _)).mono ?_
 rintro e w3 ⟨v,R',rfl,hR,hv,hS,hK⟩
 obtain ⟨ob,nb,cb,rfl⟩:=hv.1
 have hS3:St b o c l 31 R' w3:=hS
 have K3:=Lib.hid ((K5.out.setCell (p:=⟨b,2,none⟩) (.inr rfl) (.int .i64 31)).trans hK)
 obtain ⟨p3,pf3⟩:=hS3.open_
 have hb3:=hS3.lt
 have S3:=Lib.hid hS3
 have hz:w.heap.size≤(w5.setCell ⟨b,2,none⟩ (.int .i64 31)).heap.size:=by have:=K5.out.size;simpa [World.setCell] using this
 have V3:=Lib.hid (hv.mono hz)
 have HR:=Lib.hid hR
 clear hv hS hK HS S5 K5 p5 pf5 hS3 hR hz hb5
 go_wp2_with fail
 refine (HE.out _ R' (S3.out.deep _)).mono ?_
 rintro e w4 ⟨rfl,hS,hK⟩
 have S4:=Lib.hid hS
 have K4:=Lib.hid ((K3.out.setCell (p:=⟨b,2,none⟩) (.inr rfl) (.int .i64 30)).trans hK)
 have V4:=Lib.hid (V3.out.ab (((Ab.refl _ _).setCell (p:=⟨b,2,none⟩) hbl (.int .i64 30)).kp hK hbl))
 clear hS hK S3 K3 V3 HE p3 pf3
 go_wp2
 go_ret
 rw [HR.out] at S4
 exact ⟨_,rfl,HR.out ▸ V4.out.must,S4.out,K4.out⟩
theorem block_all (HC:ExprC b o c l F) (hn:l.length≤1073741824) (hf:Fits l):∀ (f D:Nat),D≤30→BlkC b o c l F f D:=by
 have step:∀ f:Nat,(∀ g,g < f→∀ D,D≤30→BlkC b o c l F g D)→∀ D,D≤30→BlkC b o c l F (f + 1) D:=by
  intro f ih D hD α r w S hr
  by_cases h:D < 30
  ·exact block_lt h HC (fun g hg=>ih g hg (D + 1) (by omega)) S hn hf hr
  ·obtain rfl:D=30:=by omega
   exact block_30 HC S hn hf hr
 have all:∀ n f:Nat,f≤n→∀ D,D≤30→BlkC b o c l F f D:=by
  intro n
  induction n with
  |zero =>
   intro f hf0 D hD α r w S hr
   obtain rfl:f=0:=by omega
   cases r with
   |ok x j=>exact (hr (by show blk l F 0 D j=.out;rw [blk])).elim
   |err p q=>exact step 0 (fun g hg=>by omega) D hD α (.err p q) w S (by intro e;cases e)
   |out=>exact S.elim
  |succ n ih =>
   intro f hf1
   by_cases h:f≤n
   ·exact ih f h
   ·obtain rfl:f=n + 1:=by omega
    exact step n fun g hg=>ih g (by omega)
 exact fun f=>all f f (Nat.le_refl _)
theorem exprC_all (hn:l.length≤1073741824) (hf:Fits l):ExprC b o c l F:=fun _ _ _ _ S hr=>expressionS S hn hf F hr
end
end Go.Proofs.YtfcgoainglpdlaaGreatDoor
namespace Go.Proofs.YtfcgoainglpdlaaGreatDoor
open Go.RowKit
open Go.Lib hiding intOf
theorem ZS.start {w w1:World} {o:Option Addr} {c:Nat} {l:List TZ} {at_:Int} (h:ZAt w o l) (hB:Below w.heap.size w w1) :
  ZS w1.heap.size o c l at_ 0 0 0 (w1.alloc (.cells #[.slice o l.length c,.int .i64 at_,.int .i64 0,.int .i64 0,.int .i64 0] 191)):=by
 refine ⟨Blk.new _ _ _,fun k t ht=>?_,fun hl a ha=>Nat.lt_of_lt_of_le (h.old hl a ha) hB.size⟩
 obtain ⟨a,ha,hc⟩:=h k t ht
 refine ⟨a,ha,fun j u hu=>?_⟩
 have h1:=(hB.cell (World.block_lt_of_cell? _ _ (hc j u hu))).trans (hc j u hu)
 exact (((Below.refl _ _).alloc (Nat.le_refl _) _).cell (World.block_lt_of_cell? _ _ h1)).trans h1
section
variable {b c:Nat} {o:Option Addr} {l:List TZ} {F f:Nat}
theorem resultsS {at_:Int} {w:World} (S:ZS b o c l at_ 0 0 0 w) (hn:l.length≤1073741824) (hf:Fits l) (hr:blk l F f 0 at_≠.out) :
  Calls Tryz.prog 162 #[.pointer (some ⟨b,0,none⟩),.func (.func 163) #[.pointer (some ⟨b,0,none⟩)] #[]] w fun e w'=>∃ v,e=.returned v∧SParRes w.heap.size w' (blk l F f 0 at_) v∧Kp b w w':=by
 have hbl:=S.lt
 have HB:=Lib.hid (block_all (F:=F) (exprC_all hn hf) hn hf f 0 (by omega) Unit (.ok () at_) _ (show St b o c l ((0:Nat):Int) (.ok () at_:EO Unit) _ from S.alloc (.cells #[.int .i64 0,.int .i64 0] 44)) hr)
 change Hid (Calls _ _ _ _ (TelB b o c l ((0:Nat):Int) _ (blk l F f 0 at_))) at HB
 have R0:=Lib.hid (Blk.new w 44 #[.int .i64 0,.int .i64 0])
 clear S hn hf
 cases hq:blk l F f 0 at_ with
 |out=>exact (hr hq).elim
 |err p q =>
  rw [hq] at HB
  clear hq hr
  go_enter Tryz.func162,Tryz.ntmps162
  go_wp2_with fail
  refine HB.out.mono ?_
  rintro e w1 ⟨v,rfl,hv,hS,hK⟩
  obtain ⟨ob,nb,cb,rfl⟩:=hv.1
  have hS2:St b o c l ((0:Nat):Int) (.err p q:EO (List SX)) w1:=hS
  have HF:=Lib.hid (failedS hS2)
  change Hid (Calls _ _ _ _ fun e w'=>e=.returned (.bool true)∧w'=w1) at HF
  obtain ⟨hq0,j,hz⟩:=hS2
  obtain ⟨p0,p1,p2,p3,p4,pf⟩:=hz.cells
  have hb1:=hz.lt
  have K1:=Lib.hid (((Kp.refl b w).alloc (.cells #[.int .i64 0,.int .i64 0] 44)).trans hK)
  have hR1:=R0.out.kp hK (by omega)
  have r1:=hR1.cell
  have f1:=hR1.frozen
  have l1:=hR1.lt
  clear hv hS hK hz hR1 HB p0 p1 p2
  go_wp2_with fail
  refine HF.out.mono ?_
  rintro e w2 ⟨rfl,rfl⟩
  go_wp2_with fail
  go_region
  all_goals
   go_wp2
   refine bodyPost_ret (v:=.tuple #[.slice none 0 0,.int .i64 0,.agg #[.int .i64 p,.int .i64 q]]) (by simp [results,Tryz.results162,go_sem,r1]) rfl ?_
   exact ⟨_,rfl,⟨none,0,rfl⟩,((K1.out.setCell (.inl (Nat.le_refl _)) _).setCell (.inl (Nat.le_refl _)) _).drew⟩
 |ok X j =>
  rw [hq] at HB
  clear hq hr
  go_enter Tryz.func162,Tryz.ntmps162
  go_wp2_with fail
  refine HB.out.mono ?_
  rintro e w1 ⟨v,rfl,hv,hS,hK⟩
  obtain ⟨ob,cb,rfl,hx⟩:=hv.2 X j rfl
  have hS2:St b o c l ((0:Nat):Int) (.ok X j:EO (List SX)) w1:=hS
  have HF:=Lib.hid (failedS hS2)
  change Hid (Calls _ _ _ _ fun e w'=>e=.returned (.bool false)∧w'=w1) at HF
  have hz:ZS b o c l j ((0:Nat):Int) 0 0 w1:=hS2
  obtain ⟨p0,p1,p2,p3,p4,pf⟩:=hz.cells
  have hb1:=hz.lt
  have K1:=Lib.hid (((Kp.refl b w).alloc (.cells #[.int .i64 0,.int .i64 0] 44)).trans hK)
  have hR1:=R0.out.kp hK (by omega)
  have r1:=hR1.cell
  have f1:=hR1.frozen
  have l1:=hR1.lt
  have HX:=Lib.hid (IsSXs.mono (B':=w.heap.size + 1) (by simp) hx)
  clear hv hS hS2 hK hz hR1 HB p0 p2 p3 p4 hx
  go_wp2_with fail
  refine HF.out.mono ?_
  rintro e w2 ⟨rfl,rfl⟩
  go_wp2_with fail
  go_region
  all_goals
   go_wp2
   refine bodyPost_ret (v:=.tuple #[.slice ob X.length cb,.int .i64 j,.agg #[.int .i64 0,.int .i64 0]]) (by simp [results,Tryz.results162,go_sem,r1]) rfl ?_
   exact ⟨_,rfl,⟨ob,cb,rfl,IsSXs.mono (by omega) (HX.out.ab ((((Ab.refl _ _).setCell (by simp only;omega) _).setCell (by simp only;omega) _).drew))⟩,((K1.out.setCell (.inl (Nat.le_refl _)) _).setCell (.inl (Nat.le_refl _)) _).drew⟩
end
theorem parseS_any {o:Option Addr} {c:Nat} {l:List TZ} (at_:Int) (w:World) (h:ZAt w o l) (hl:l.length≤1073741824) (hf:Fits l) (F f:Nat) (_hF:fuel l≤F) (hr:blk l F f 0 at_≠.out) :
  Calls Tryz.prog 152 #[.slice o l.length c,.int .i64 at_] w fun e w'=>∃ v,e=.returned v∧SParRes w.heap.size w' (blk l F f 0 at_) v∧Below w.heap.size w w':=by
 have hmf:∀ (fn:Fn) (first cap:Array Value) (w:World),(Instr.makeFunc fn first cap).run Tryz.prog w=.ok (.func fn first cap) w:=fun _ _ _ _=>rfl
 have hB0:=(Below.refl w.heap.size w).alloc (Nat.le_refl _) (.cells #[.int .i64 0,.int .i64 0] 44)
 have HR:=Lib.hid (resultsS (F:=F) (f:=f) (ZS.start (at_:=at_) (c:=c) h hB0) hl hf hr)
 have R0:=Lib.hid ((Blk.new w 44 #[.int .i64 0,.int .i64 0]).alloc (.cells #[.slice o l.length c,.int .i64 at_,.int .i64 0,.int .i64 0,.int .i64 0] 191))
 have HB0:=Lib.hid (hB0.alloc (by simp) (.cells #[.slice o l.length c,.int .i64 at_,.int .i64 0,.int .i64 0,.int .i64 0] 191))
 rw [World.size_alloc] at HR
 clear h hl hf hB0
 generalize blk l F f 0 at_=E at *
 go_enter Tryz.func152,Tryz.ntmps152
 go_wp2_with fail
 refine HR.out.mono ?_
 rintro e w1 ⟨v,rfl,hv,hK⟩
 obtain ⟨ob,cb,nb,j,p,q,rfl,hcase⟩:=hv.parts hr
 have hz0:w.heap.size < w1.heap.size:=by have:=hK.size;simp at this;omega
 have hR1:=R0.out.kp hK (by omega)
 have r1:=hR1.cell
 have f1:=hR1.frozen
 have B1:=Lib.hid (HB0.out.trans ((hK.below (by simp)).mono (by omega)))
 have HC:=Lib.hid hcase
 clear hv hK hR1 HR hcase
 go_wp2
 refine bodyPost_ret (v:=.tuple #[.slice ob nb cb,.int .i64 j,.agg #[.int .i64 p,.int .i64 q]]) (by simp [results,Tryz.results152,go_sem,r1]) rfl ?_
 refine ⟨_,rfl,?_,(B1.out.setCell (Nat.le_refl _) _).setCell (Nat.le_refl _) _⟩
 rcases HC.out with ⟨X,rfl,rfl,rfl,rfl,hx⟩ | ⟨rfl,rfl,rfl⟩
 ·refine ⟨ob,cb,rfl,IsSXs.mono (B:=w.heap.size + 1) (by omega) (IsSXs.ab (IsSXs.mono (B':=w.heap.size + 1) (by simp) hx) (((Ab.refl _ _).setCell (by simp only;omega) _).setCell (by simp only;omega) _))⟩
 ·exact ⟨ob,cb,rfl⟩
end Go.Proofs.YtfcgoainglpdlaaGreatDoor
namespace Go.Proofs.YtfcgoainglpdlaaGreatDoor
open Go.RowKit
open Go.Lib hiding intOf
theorem add_none5 (g off n:Nat):(⟨g,off,none⟩:Addr).add n=⟨g,off + n,none⟩:=by
 unfold Addr.add
 by_cases hn:n=0
 ·subst hn;rfl
 ·simp [hn]
theorem zt5 {w:World} {o:Option Addr} {ts:List Tok} (h:AtToks w o ts):ZAt w o (ts.map zTok):=by
 intro k t hk
 rw [List.getElem?_map] at hk
 obtain ⟨x,hx,rfl⟩:=Option.map_eq_some_iff.1 hk
 obtain ⟨g,off,ho,h0⟩:=h (k * 4 + 0) _ ((toksC_at ts k x hx 0 (by omega)).trans rfl)
 refine ⟨⟨g,off,none⟩,ho,fun j u hu=>?_⟩
 have hj:j < 4:=(List.getElem?_eq_some_iff.1 hu).1
 obtain ⟨g',off',ho',h1⟩:=h (k * 4 + j) u ((toksC_at ts k x hx j hj).trans hu)
 rw [ho] at ho';cases ho'
 rw [add_none5];exact h1
theorem fits5 {s:List UInt8} (hn:s.length≤281474976710656):Fits ((toks s).map zTok):=by
 intro t ht
 obtain ⟨x,hx,rfl⟩:=List.mem_map.1 ht
 have:=(toks_ok s x hx).2.2.1
 show x.text.toArray.size≤_
 simp only [List.size_toArray]
 omega
theorem few5 {s:List UInt8} (h:bad (toks s) 0=none):(toks s).length≤4001:=lexed_few (lexed_good' h)
end Go.Proofs.YtfcgoainglpdlaaGreatDoor
namespace Go.Proofs.YtfcgoainglpdlaaGreatDoor
open Go.RowKit
open Go.Lib hiding intOf
end Go.Proofs.YtfcgoainglpdlaaGreatDoor
