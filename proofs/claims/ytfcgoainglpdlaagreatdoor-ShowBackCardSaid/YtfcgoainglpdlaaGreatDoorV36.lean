/- The walks of the packages' parser's typed and block. Condition: the parser lies in memory as said. The walks of the packages' parser's param, field, receiver, result. Condition: the parser lies in memory as said. The walk of the packages' parser's result. Condition: the parser lies in memory as said. -/
import Derived.Test.YtfcgoainglpdlaaGreatDoorV20
import Derived.Test.YtfcgoainglpdlaaGreatDoorV35
import Derived.Deep.RegionHeld3
import Derived.Test.YtfcgoainglpdlaaGreatDoorV13
set_option maxRecDepth 20000
set_option maxHeartbeats 16000000
namespace Go.Proofs.YtfcgoainglpdlaaGreatDoor
open Go.RowKit
open Go.Lib hiding intOf
def isType (B:Nat) (w:World) (x:TX) (v:Value):Prop:=IsTP (fun q=>B≤q) w x v
def isStmts (B:Nat) (w:World) (xs:List SX) (v:Value):Prop:=∃ (o:Option Addr) (c:Nat),v=.slice o xs.length c∧IsSPs (fun q=>B≤q) w o 0 xs
def BkRes (r:EO (List SX)) (B:Nat) (W:World) (ob:Option Addr) (nb:Nat) (j e1 e2:Int):Prop :=
 match r with
 |.ok X q=>nb=X.length∧j=q∧e1=0∧e2=0∧IsSPs (fun q=>B≤q) W ob 0 X
 |.err p q=>e1=p∧e2=q
 |.out=>True
theorem BkRes.keep {r:EO (List SX)} {B B':Nat} {W W':World} {ob:Option Addr} {nb:Nat} {j e1 e2:Int} (h:BkRes r B W ob nb j e1 e2) (hk:∀ X,IsSPs (fun q=>B≤q) W ob 0 X→IsSPs (fun q=>B'≤q) W' ob 0 X):BkRes r B' W' ob nb j e1 e2:=by
 cases r with
 |ok t j=>exact ⟨h.1,h.2.1,h.2.2.1,h.2.2.2.1,hk _ h.2.2.2.2⟩
 |err p c=>exact h
 |out=>trivial
theorem SParRes.bk {r:EO (List SX)} {B:Nat} {W:World} {v:Value} (h:SParRes B W r v) (hr:r≠.out):∃ (ob:Option Addr) (cb nb:Nat) (j e1 e2:Int),v=.tuple #[.slice ob nb cb,.int .i64 j,.agg #[.int .i64 e1,.int .i64 e2]]∧BkRes r B W ob nb j e1 e2:=by
 obtain ⟨o,c,n,j,p,q,hve,hc⟩:=h.parts hr
 subst hve
 refine ⟨o,c,n,j,p,q,rfl,?_⟩
 clear h
 rcases hc with ⟨X,rfl,rfl,rfl,rfl,hx⟩ | ⟨rfl,rfl,rfl⟩
 ·exact ⟨rfl,rfl,rfl,rfl,hx⟩
 ·exact ⟨rfl,rfl⟩
structure BkRel (r:EO (List SX)) (w1:World) (B5:Nat) (ob:Option Addr) (nb:Nat) (j e1 e2:Int) (wx:World):Prop where
 b5:w1.heap.size≤B5
 at2:Blk wx B5 44 #[.int .i64 e1,.int .i64 e2]
 below:Below w1.heap.size w1 wx
 res:BkRes r w1.heap.size wx ob nb j e1 e2
section
variable {r:EO (List SX)} {w1 w2:World} {ob:Option Addr} {nb:Nat} {j e1 e2:Int}
theorem isp_alloc {B:Nat} {w:World} {o:Option Addr} {X:List SX} (h:IsSPs (fun q=>B≤q) w o 0 X) (x:Obj):IsSPs (fun q=>B≤q) (w.alloc x) o 0 X:=h.below ((Below.refl _ _).alloc (Nat.le_refl _) x)
theorem isp_set2 {B:Nat} {w:World} {o:Option Addr} {X:List SX} (h:IsSPs (fun q=>B≤q) w o 0 X) {g:Nat} (hg:g < B) (v0 v1:Value):IsSPs (fun q=>B≤q) (set2 w g v0 v1) o 0 X :=
 IsSXs.ab h (((Ab.refl _ _).setCell hg _).setCell hg _)
theorem bkF1 (hB:Below w1.heap.size w1 w2) (hr:BkRes r w1.heap.size w2 ob nb j e1 e2) :
  BkRel r w1 w2.heap.size ob nb j e1 e2 (w2.alloc (.cells #[.int .i64 e1,.int .i64 e2] 44)) :=
 ⟨hB.size,Blk.new _ _ _,hB.alloc hB.size _,hr.keep fun _ h=>isp_alloc h _⟩
theorem bkF2 {f0 f1:Value} (hB:Below w1.heap.size w1 w2) (hX:Blk w2 w1.heap.size 44 #[f0,f1]) (hr:BkRes r (w1.heap.size + 1) w2 ob nb j e1 e2) :
  BkRel r w1 w1.heap.size ob nb j e1 e2 (set2 w2 w1.heap.size (.int .i64 e1) (.int .i64 e2)) :=
 ⟨Nat.le_refl _,blk_set2 hX _ _,set2_below hB (Nat.le_refl _) _ _,hr.keep fun _ h=>IsSXs.mono (by omega) (isp_set2 h (Nat.lt_succ_self _) _ _)⟩
end
def zeroTL:List Value:=[.int .i64 0,.int .i64 0,.string ⟨#[]⟩,.string ⟨#[]⟩,.slice none 0 0]
section
variable {b c:Nat} {o:Option Addr} {l:List TZ} {i:Int} {w:World}
theorem blockF (S:FS b o c l i w) (hn:l.length≤1073741824) (hf:Fits l) (F f:Nat) (hF:fuel l≤F) (hr:blk l F f 0 i≠.out) :
  Calls Tryz.prog 137 #[.pointer (some ⟨b,0,none⟩)] w (TelF b o c l isStmts w (blk l F f 0 i)):=by
 have hbl:=S.lt
 have S0:=Lib.hid S
 have hrng:∀ X q,blk l F f 0 i=.ok X q→0≤q:=fun X q h=>by
  have h1:=(stm_rng (l:=l) (F:=F) f).1 _ _ _ _ h
  have:=S.pos
  omega
 have herr:∀ p q,blk l F f 0 i=.err p q→q≠0:=fun p q h=>((stm_err (l:=l) (F:=F) f).1 _ _ _ _ h).2
 have HC:=Lib.hid (fun (W:World) (h:FS b o c l i W)=>parseS_any (c:=c) i W h.toks hn hf F f hF hr)
 have HNE:=Lib.hid hr
 have HQ:=Lib.hid herr
 have HG:=Lib.hid hrng
 clear S hn hf hF hr herr hrng
 generalize blk l F f 0 i=E at *
 obtain ⟨p0,p1,pf⟩:=S0.out.cells
 go_enter Tryz.func137,Tryz.ntmps137
 go_wp2_with fail
 go_cut [3,4,5] (fun t3 t4 t5 wx=>∃ (B5:Nat) (ob:Option Addr) (nb cb:Nat) (j e1 e2:Int),t3=.slice ob nb cb∧t4=.int .i64 j∧t5=.pointer (some ⟨B5,0,none⟩)∧Hid (BkRel E w B5 ob nb j e1 e2 wx))
 case first =>
  have n0:w.heap.size≠b:=by omega
  clear HQ HG
  go_region_held3 (fun w'=>w'.cell? ⟨b,0,none⟩=some (.slice o l.length c)∧w'.cell? ⟨b,1,none⟩=some (.int .i64 i)) (refine ⟨?_,?_⟩ <;> (first | with_reducible assumption | (simp [q0,q1,n0,World.cell?_alloc_some,World.cell?_setCell_far];done) | (simp [p0,p1,World.cell?_alloc_some];done) | (trace_state;fail))) ((go_at_call 152;refine (HC.out _ ?_).mono ?_;(first | exact S0.out.drew | exact (S0.out.alloc _).drew | exact ((S0.out.alloc _).alloc _).drew);rintro e w2 ⟨v,rfl,hres,hB⟩;obtain ⟨ob,cb,nb,j,e1,e2,rfl,hr⟩:=hres.bk HNE.out;(first | (have X:=blk_mid3 hB.undrew;have xc:=X.cell;have xf:=X.frozen;have zz:=mid_size hB.undrew;have HB2:=Lib.hid (((Below.refl w.heap.size w).alloc (Nat.le_refl _) _).trans (hB.undrew.mono (by simp)));have HR:=Lib.hid (hr.keep (B':=w.heap.size + 1) fun t h=>IsSXs.mono (by simp) h);have XX:=Lib.hid X;clear X) | (have HB2:=Lib.hid hB.undrew;have HR:=Lib.hid (hr.keep (B':=w.heap.size) fun t h=>IsSXs.mono (by simp) h)));have q0:w2.cell? ⟨b,0,none⟩=some (.slice o l.length c):=(HB2.out.cell hbl).trans p0;have q1:w2.cell? ⟨b,1,none⟩=some (.int .i64 i):=(HB2.out.cell hbl).trans p1;clear hB hr hres))
  all_goals go_wp2_with fail
  all_goals go_meet
  all_goals
   refine ⟨_,ob,nb,cb,j,e1,e2,rfl,rfl,rfl,Lib.hid ?_⟩
   first
   |(have t:=bkF1 HB2.out HR.out;with_reducible exact t)
   |(have t:=bkF2 HB2.out XX.out HR.out;simp only [set2] at t;with_reducible exact t)
 case rest =>
  obtain ⟨B5,ob,nb,cb,j,e1,e2,rfl,rfl,rfl,hT⟩:=hcut
  obtain ⟨h5,hD,hB,hR⟩:=hT.out
  have S2:=Lib.hid (S0.out.step hB)
  have K2:=Lib.hid ((Kp.refl b w).then_below hB)
  have d2:=hD.cell
  have f2:=hD.frozen
  have l5:=hD.lt
  have HR:=Lib.hid hR
  clear hT hD hB hR p0 p1 pf S0 HC
  cases E with
  |out=>exact (HNE.out rfl).elim
  |err P Q =>
   obtain ⟨rfl,rfl⟩:=HR.out
   have HGO:=Lib.hid (goOn_no (b:=b) wc (.pointer (some ⟨b,0,none⟩)) (n:=j) (p:=e1) (HQ.out _ _ rfl))
   clear HQ HG HR S2
   go_wp2_with fail
   refine HGO.out.mono ?_
   rintro e w3 ⟨rfl,hK⟩
   have K3:=Lib.hid (K2.out.trans hK)
   clear hK
   go_wp2
   exact ⟨rfl,rfl,K3.out⟩
  |ok X q =>
   obtain ⟨rfl,rfl,rfl,rfl,hx⟩:=HR.out
   have HGO:=Lib.hid (goOn_ok (p:=0) S2.out (HG.out _ _ rfl))
   have HX:=Lib.hid hx
   have hwc:w.heap.size≤wc.heap.size:=K2.out.size
   clear HQ HG HR S2 hx
   go_wp2_with fail
   refine HGO.out.mono ?_
   rintro e w3 ⟨rfl,hS,hK⟩
   have S3:=Lib.hid hS
   have K3:=Lib.hid (K2.out.trans hK)
   have X3:=Lib.hid (IsSXs.ab HX.out ((Ab.refl _ _).kp hK hbl))
   clear hS hK
   go_wp2
   go_ret
   exact ⟨_,rfl,⟨ob,cb,rfl,X3.out⟩,S3.out,K3.out⟩
theorem typedF (S:FS b o c l i w) (hn:l.length≤1073741824) (hf:Fits l) :
  Calls Tryz.prog 150 #[.pointer (some ⟨b,0,none⟩)] w (TelF b o c l isType w (ty l i)):=by
 have hbl:=S.lt
 have H:=Lib.hid S
 have hrng:∀ t q,prs l 30 i=.ok t q→0≤q:=fun t q h=>by
  have h1:=prs_rng h
  have:=S.pos
  omega
 have HG:=Lib.hid hrng
 have HC:=Lib.hid (fun (W:World) (h:FS b o c l i W)=>parse_any o c l i W h.toks (by omega) hf)
 have R0:=Lib.hid (Blk.new w 24 zeroTL.toArray)
 have S0:=Lib.hid (S.alloc (.cells zeroTL.toArray 24))
 have K0:=Lib.hid ((Kp.refl b w).alloc (.cells zeroTL.toArray 24))
 obtain ⟨R,hR⟩:∃ R,ty l i=R:=⟨_,rfl⟩
 rw [hR]
 have HR0:=Lib.hid hR
 clear S hn hf hrng hR
 go_enter Tryz.func150,Tryz.ntmps150
 go_wp2_with fail
 change Code.wp _ _ _ _ (w.alloc (.cells zeroTL.toArray 24))
 have hz1:w.heap.size < (w.alloc (.cells zeroTL.toArray 24)).heap.size:=by simp
 generalize w.alloc (.cells zeroTL.toArray 24)=w1 at *
 obtain ⟨p0,p1,pf⟩:=S0.out.cells
 have hb1:b < w1.heap.size:=S0.out.lt
 go_cut [3,4,5] (fun t3 t4 t5 wx=>∃ (B4 B6:Nat) (k p:Int) (g s:ByteArray) (oo:Option Addr) (aa:Nat) (n e1 e2:Int),t3=.pointer (some ⟨B4,0,none⟩)∧t4=.int .i64 n∧t5=.pointer (some ⟨B6,0,none⟩)∧Hid (TyRel (prs l 30 i) w1 B4 B6 (.int .i64 k) (.int .i64 p) (.string g) (.string s) (.slice oo aa aa) n e1 e2 wx))
 case first =>
  clear R0 K0 hbl hz1 HG
  have n0:w1.heap.size≠b:=by omega
  have n1:w1.heap.size + 1≠b:=by omega
  go_region_held3 (fun w'=>w'.cell? ⟨b,0,none⟩=some (.slice o l.length c)∧w'.cell? ⟨b,1,none⟩=some (.int .i64 i)) (refine ⟨?_,?_⟩ <;> (first | with_reducible assumption | (simp [q0,q1,n0,n1,World.cell?_alloc_some,World.cell?_setCell_far];done) | (simp [p0,p1,World.cell?_alloc_some];done) | (trace_state;fail))) ((go_at_call 155;refine (HC.out _ ?_).mono ?_;(first | exact S0.out.drew | exact (S0.out.alloc _).drew | exact ((S0.out.alloc _).alloc _).drew);rintro e w2 ⟨v,rfl,hres,hB⟩;obtain ⟨k,p,g,s,oo,aa,n,e1,e2,rfl,hr⟩:=hres.ty;(first | (have X:=blk_mid2 hB.undrew;have Y:=blk_sec hB.undrew;have xc:=X.cell;have xf:=X.frozen;have yc:=Y.cell;have yf:=Y.frozen;have zz:=mid_size' hB.undrew;have zx:=X.lt;have HB2:=Lib.hid ((((Below.refl w1.heap.size w1).alloc (Nat.le_refl _) _).alloc (by simp) _).trans (hB.undrew.mono (by simp;omega)));have HR:=Lib.hid (hr.keep (B':=w1.heap.size + 1 + 1 + 2) fun t h=>IsTX.mono (by simp) h);have XX:=Lib.hid X;have YY:=Lib.hid Y;clear X Y) | (have X:=blk_mid3 hB.undrew;have xc:=X.cell;have xf:=X.frozen;have zz:=mid_size hB.undrew;have HB2:=Lib.hid (((Below.refl w1.heap.size w1).alloc (Nat.le_refl _) _).trans (hB.undrew.mono (by simp)));have HR:=Lib.hid (hr.keep (B':=w1.heap.size + 1 + 2) fun t h=>IsTX.mono (by simp) h);have XX:=Lib.hid X;clear X) | (have HB2:=Lib.hid hB.undrew;have HR:=Lib.hid (hr.keep (B':=w1.heap.size + 2) fun t h=>IsTX.mono (by simp) h)));have q0:w2.cell? ⟨b,0,none⟩=some (.slice o l.length c):=(HB2.out.cell hb1).trans p0;have q1:w2.cell? ⟨b,1,none⟩=some (.int .i64 i):=(HB2.out.cell hb1).trans p1;clear hB hr hres))
  all_goals go_wp2_with fail
  all_goals go_meet
  all_goals
   refine ⟨_,_,k,p,g,s,oo,aa,n,e1,e2,rfl,rfl,rfl,Lib.hid ?_⟩
   first
   |(have t:=tyF1 HB2.out HR.out;with_reducible exact t)
   |(have t:=tyF2 HB2.out HR.out;with_reducible exact t)
   |(have t:=tyF5 HB2.out XX.out YY.out HR.out;simp only [st5,set2] at t;with_reducible exact t)
   |(have t:=tyF6 HB2.out XX.out YY.out HR.out;simp only [st5,set2] at t;with_reducible exact t)
   |(have t:=tyF3 HB2.out XX.out HR.out;simp only [st5] at t;with_reducible exact t)
   |(have t:=tyF4 HB2.out XX.out HR.out;simp only [set2] at t;with_reducible exact t)
 case rest =>
  obtain ⟨B4,B6,k,p,g,s,oo,aa,n,e1,e2,rfl,rfl,rfl,hT⟩:=hcut
  obtain ⟨h4,h6,hA5,hA2,hB,hR⟩:=hT.out
  have S2:=Lib.hid (S0.out.step hB)
  have K2:=Lib.hid (K0.out.then_below hB)
  have R2:=Lib.hid (R0.out.below hB)
  obtain ⟨c60,c61⟩:=hA2
  have A5:=Lib.hid hA5
  have HR:=Lib.hid hR
  have hz2:w1.heap.size≤wc.heap.size:=hB.size
  clear hT hA5 hB hR p0 p1 pf S0 K0 R0 HC
  cases hq:prs l 30 i with
  |err pp cc =>
   have hc0:=(prs_err hq).2
   have HB:Hid (EO.err pp cc=R):=by have h:=HR0.out;unfold ty at h;rw [hq] at h;exact h
   have hR:=HR.out
   rw [hq] at hR
   obtain ⟨rfl,rfl⟩:=hR
   have HGO:=Lib.hid (goOn_no (b:=b) wc (.pointer (some ⟨b,0,none⟩)) (n:=n) (p:=e1) hc0)
   clear hc0 hq HR S2 A5 R2
   go_wp2_with fail
   refine HGO.out.mono ?_
   rintro e w3 ⟨rfl,hK⟩
   have K3:=Lib.hid (K2.out.trans hK)
   clear hK
   go_wp2
   refine ⟨rfl,?_⟩
   rw [← HB.out]
   exact ⟨rfl,K3.out⟩
  |ok t j =>
   have HB:Hid (EO.ok t j=R):=by have h:=HR0.out;unfold ty at h;rw [hq] at h;exact h
   have hR:=HR.out
   rw [hq] at hR
   obtain ⟨rfl,rfl,rfl,hX⟩:=hR
   have HGO:=Lib.hid (goOn_ok (p:=0) S2.out (HG.out _ _ hq))
   have HX:=Lib.hid hX
   clear hq HR hX S2
   go_wp2_with fail
   refine HGO.out.mono ?_
   rintro e w3 ⟨rfl,hS,hK⟩
   have S3:=Lib.hid hS
   have K3:=Lib.hid (K2.out.trans hK)
   have X3:=Lib.hid (IsTP.kp HX.out hK (by omega))
   obtain ⟨a0,a1,a2,a3,a4⟩:=A5.out.kp hK (by omega)
   have hR3:=R2.out.kp hK (by omega)
   have l3:=hR3.lt
   have R3:=Lib.hid hR3
   clear hS hK c60 c61 A5 R2 hR3
   go_wp2_with (refine boxStore 24 5 (sizeOfI infoT) rfl _ _ rfl w.heap.size rfl _ rfl R3.out rfl rfl rfl ?_)
   refine bodyPost_ret (v:=.agg #[.int .i64 k,.int .i64 p,.string g,.string s,.slice oo aa aa]) ?_ ?_ ?_
   ·exact boxRes 24 5 (sizeOfI infoT) Tryz.underlying24 Tryz.results150 _ w.heap.size rfl (R3.out.row _) rfl
   ·rfl
   rw [← HB.out]
   exact ⟨_,rfl,IsTX.mono (B:=w.heap.size + 1) (by omega) (IsTP.keep (P:=fun q=>w1.heap.size≤q) (fun _ _ _ (h:_≤_) _=>by omega) (fun _ _ _ (h:_≤_) hc=>((setRow_ab (Ab.refl (w.heap.size + 1) _) (Nat.lt_succ_self _) _).cell (by omega) hc)) X3.out),S3.out.row (by omega) _,setRow_kp K3.out (.inl (Nat.le_refl _)) _⟩
end
end Go.Proofs.YtfcgoainglpdlaaGreatDoor
namespace Go.Proofs.YtfcgoainglpdlaaGreatDoor
open Go.RowKit
open Go.Lib hiding intOf
theorem Blk.setL {W:World} {g:Nat} {t:TypeId} {cs:List Value} (h:Blk W g t cs.toArray) (k:Nat) (v:Value):Blk (W.setCell ⟨g,k,none⟩ v) g t (cs.set k v).toArray:=by
 have h2:=h.set_ k v
 rwa [List.setIfInBounds_toArray] at h2
def isPart {α:Type} (E:Elt α) (B:Nat) (w:World) (x:α) (v:Value):Prop:=E.One (fun q=>B≤q) w x v
def isRow {α:Type} (E:Elt α) (B:Nat) (w:World) (xs:List α) (v:Value):Prop:=∃ (o:Option Addr) (c:Nat),v=.slice o xs.length c∧InRow E.k (E.One (fun q=>B≤q) w) (fun q=>B≤q) w o 0 xs
def isRes (B:Nat) (w:World) (r:Bool × TX) (v:Value):Prop:=∃ tv,v=.tuple #[.bool r.1,tv]∧isType B w r.2 tv
theorem stayE {α:Type} {E:Elt α} {B:Nat} {w w':World} {x:α} {v:Value} (h:E.One (fun q=>B≤q) w x v) (ha:Ab B w w'):E.One (fun q=>B≤q) w' x v:=E.keep (fun _ _ _ h _=>h) (fun _ _ _ hb hc=>ha.cell hb hc) h
theorem monoE {α:Type} {E:Elt α} {B B':Nat} (hB:B'≤B) {w:World} {x:α} {v:Value} (h:E.One (fun q=>B≤q) w x v):E.One (fun q=>B'≤q) w x v:=E.keep (fun _ _ _ (h:B≤_) _=>Nat.le_trans hB h) (fun _ _ _ _ hc=>hc) h
theorem stayT {B:Nat} {w w':World} {x:TX} {v:Value} (h:IsTP (fun q=>B≤q) w x v) (ha:Ab B w w'):IsTP (fun q=>B≤q) w' x v:=stayE (E:=eltT) h ha
theorem monoT {B B':Nat} (hB:B'≤B) {w:World} {x:TX} {v:Value} (h:IsTP (fun q=>B≤q) w x v):IsTP (fun q=>B'≤q) w x v:=monoE (E:=eltT) hB h
theorem stayP {B:Nat} {w w':World} {x:PX} {v:Value} (h:IsPX (fun q=>B≤q) w x v) (ha:Ab B w w'):IsPX (fun q=>B≤q) w' x v:=stayE (E:=eltP) h ha
theorem monoP {B B':Nat} (hB:B'≤B) {w:World} {x:PX} {v:Value} (h:IsPX (fun q=>B≤q) w x v):IsPX (fun q=>B'≤q) w x v:=monoE (E:=eltP) hB h
theorem stayR {α:Type} {E:Elt α} {B:Nat} {w w':World} {o:Option Addr} {xs:List α} (h:InRow E.k (E.One (fun q=>B≤q) w) (fun q=>B≤q) w o 0 xs) (ha:Ab B w w'):InRow E.k (E.One (fun q=>B≤q) w') (fun q=>B≤q) w' o 0 xs :=
 h.keep (fun _ _ _ h _=>h) (fun _ _ _ hb hc=>ha.cell hb hc) (fun _ _ h=>stayE h ha) E.pos
theorem monoR {α:Type} {E:Elt α} {B B':Nat} (hB:B'≤B) {w:World} {o:Option Addr} {xs:List α} (h:InRow E.k (E.One (fun q=>B≤q) w) (fun q=>B≤q) w o 0 xs):InRow E.k (E.One (fun q=>B'≤q) w) (fun q=>B'≤q) w o 0 xs :=
 h.keep (fun _ _ _ (h:B≤_) _=>Nat.le_trans hB h) (fun _ _ _ _ hc=>hc) (fun _ _ h=>monoE hB h) E.pos
theorem stayS {B:Nat} {w w':World} {o:Option Addr} {xs:List SX} (h:IsSPs (fun q=>B≤q) w o 0 xs) (ha:Ab B w w'):IsSPs (fun q=>B≤q) w' o 0 xs:=IsSXs.ab h ha
theorem monoS {B B':Nat} (hB:B'≤B) {w:World} {o:Option Addr} {xs:List SX} (h:IsSPs (fun q=>B≤q) w o 0 xs):IsSPs (fun q=>B'≤q) w o 0 xs:=IsSXs.mono hB h
section
variable {b c:Nat} {o:Option Addr} {l:List TZ} {i:Int} {w:World}
theorem paramF (S:FS b o c l i w) (hn:l.length≤1073741824) (hf:Fits l) (hr:prm l i≠.out) :
  Calls Tryz.prog 135 #[.pointer (some ⟨b,0,none⟩)] w (TelF b o c l (isPart eltP) w (prm l i)):=by
 have hbl:=S.lt
 have HNM:=Lib.hid (fun (W:World) (j:Int) (h:FS b o c l j W)=>nameF h hn hf)
 have HTY:=Lib.hid (fun (W:World) (j:Int) (h:FS b o c l j W)=>typedF h hn hf)
 obtain ⟨R,hR⟩:∃ R,(thn (na l i) fun n j=>thn (ty l j) fun t q=>EO.ok (⟨n.1,n.2,t⟩:PX) q)=R:=⟨_,rfl⟩
 change (thn (na l i) fun n j=>thn (ty l j) fun t q=>EO.ok (⟨n.1,n.2,t⟩:PX) q)≠.out at hr
 change Calls _ _ _ _ (TelF b o c l _ w (thn (na l i) fun n j=>thn (ty l j) fun t q=>EO.ok (⟨n.1,n.2,t⟩:PX) q))
 rw [hR] at hr ⊢
 have HR:=Lib.hid hR
 have HRO:=Lib.hid hr
 have S0:=Lib.hid ((S.alloc (.cells #[.string ⟨#[]⟩,.int .i64 0,.int .i64 0,.int .i64 0,.string ⟨#[]⟩,.string ⟨#[]⟩,.slice none 0 0] 72)).alloc (.cells #[.string ⟨#[]⟩,.int .i64 0,.int .i64 0,.int .i64 0,.string ⟨#[]⟩,.string ⟨#[]⟩,.slice none 0 0] 72))
 have K0:=Lib.hid (((Kp.refl b w).alloc (.cells #[.string ⟨#[]⟩,.int .i64 0,.int .i64 0,.int .i64 0,.string ⟨#[]⟩,.string ⟨#[]⟩,.slice none 0 0] 72)).alloc (.cells #[.string ⟨#[]⟩,.int .i64 0,.int .i64 0,.int .i64 0,.string ⟨#[]⟩,.string ⟨#[]⟩,.slice none 0 0] 72))
 have XA0:Hid (Blk ((w.alloc (.cells #[.string ⟨#[]⟩,.int .i64 0,.int .i64 0,.int .i64 0,.string ⟨#[]⟩,.string ⟨#[]⟩,.slice none 0 0] 72)).alloc (.cells #[.string ⟨#[]⟩,.int .i64 0,.int .i64 0,.int .i64 0,.string ⟨#[]⟩,.string ⟨#[]⟩,.slice none 0 0] 72)) w.heap.size 72 #[.string ⟨#[]⟩,.int .i64 0,.int .i64 0,.int .i64 0,.string ⟨#[]⟩,.string ⟨#[]⟩,.slice none 0 0]):=((Blk.new w 72 #[.string ⟨#[]⟩,.int .i64 0,.int .i64 0,.int .i64 0,.string ⟨#[]⟩,.string ⟨#[]⟩,.slice none 0 0]).alloc (.cells #[.string ⟨#[]⟩,.int .i64 0,.int .i64 0,.int .i64 0,.string ⟨#[]⟩,.string ⟨#[]⟩,.slice none 0 0] 72))
 have wxA:w.heap.size≤w.heap.size:=by omega
 have bxA:b < w.heap.size:=by omega
 have XB0:Hid (Blk ((w.alloc (.cells #[.string ⟨#[]⟩,.int .i64 0,.int .i64 0,.int .i64 0,.string ⟨#[]⟩,.string ⟨#[]⟩,.slice none 0 0] 72)).alloc (.cells #[.string ⟨#[]⟩,.int .i64 0,.int .i64 0,.int .i64 0,.string ⟨#[]⟩,.string ⟨#[]⟩,.slice none 0 0] 72)) (w.heap.size + 1) 72 #[.string ⟨#[]⟩,.int .i64 0,.int .i64 0,.int .i64 0,.string ⟨#[]⟩,.string ⟨#[]⟩,.slice none 0 0]):=by have h:=Blk.new (w.alloc (.cells #[.string ⟨#[]⟩,.int .i64 0,.int .i64 0,.int .i64 0,.string ⟨#[]⟩,.string ⟨#[]⟩,.slice none 0 0] 72)) 72 #[.string ⟨#[]⟩,.int .i64 0,.int .i64 0,.int .i64 0,.string ⟨#[]⟩,.string ⟨#[]⟩,.slice none 0 0];rw [World.size_alloc] at h;exact h
 have wxB:w.heap.size≤(w.heap.size + 1):=by omega
 have bxB:b < (w.heap.size + 1):=by omega
 clear S hn hf hr hR
 go_enter Tryz.func135,Tryz.ntmps135
 go_wp2_with fail
 refine (HNM.out _ _ S0.out).mono ?_
 rintro e w1 hT
 cases hq:na l i with
 |out=>exact (HRO.out (by have h:=HR.out;rw [hq] at h;exact h.symm)).elim
 |err p q =>
  rw [hq] at hT
  obtain ⟨rfl,hK⟩:=hT
  have KE:=Lib.hid (K0.out.trans hK)
  have HB:Hid (EO.err p q=R):=by have h:=HR.out;rw [hq] at h;exact h
  clear hq hK
  go_wp2
  refine ⟨rfl,?_⟩
  rw [← HB.out]
  exact ⟨rfl,KE.out⟩
 |ok n j =>
  rw [hq] at hT
  obtain ⟨v,rfl,hv,hS,hK⟩:=hT
  have HR:Hid ((thn (ty l j) fun t q=>EO.ok (⟨n.1,n.2,t⟩:PX) q)=R):=by have h:=HR.out;rw [hq] at h;exact h
  obtain rfl:v=.tuple #[.string n.1,.int .i64 n.2]:=hv
  have S1:=Lib.hid hS
  have K1:=Lib.hid (K0.out.trans hK)
  have hb1:=hS.lt
  have XA1:=Lib.hid (XA0.out.kp hK (by omega))
  have lA1:=XA1.out.lt
  have XB1:=Lib.hid (XB0.out.kp hK (by omega))
  have lB1:=XB1.out.lt
  clear hS hK hq
  have cX:=XB1.out.cell
  have fX:=XB1.out.frozen
  have lX:=XB1.out.lt
  have Ss1:=Lib.hid (S1.out.set_ (a:=⟨(w.heap.size + 1),0,none⟩) (by simp only;omega) (.string n.1))
  have Ks1:=Lib.hid (K1.out.setCell (p:=⟨(w.heap.size + 1),0,none⟩) (.inl (by simp only;omega)) (.string n.1))
  have XBs1:Hid (Blk _ (w.heap.size + 1) 72 #[.string n.1,.int .i64 0,.int .i64 0,.int .i64 0,.string ⟨#[]⟩,.string ⟨#[]⟩,.slice none 0 0]):=XB1.out.setL 0 (.string n.1)
  have XAs1:=Lib.hid (XA1.out.far (p:=⟨(w.heap.size + 1),0,none⟩) (by simp only;omega) (.string n.1))
  have Ss2:=Lib.hid (Ss1.out.set_ (a:=⟨(w.heap.size + 1),1,none⟩) (by simp only;omega) (.int .i64 n.2))
  have Ks2:=Lib.hid (Ks1.out.setCell (p:=⟨(w.heap.size + 1),1,none⟩) (.inl (by simp only;omega)) (.int .i64 n.2))
  have XBs2:Hid (Blk _ (w.heap.size + 1) 72 #[.string n.1,.int .i64 n.2,.int .i64 0,.int .i64 0,.string ⟨#[]⟩,.string ⟨#[]⟩,.slice none 0 0]):=XBs1.out.setL 1 (.int .i64 n.2)
  have XAs2:=Lib.hid (XAs1.out.far (p:=⟨(w.heap.size + 1),1,none⟩) (by simp only;omega) (.int .i64 n.2))
  go_wp2_with fail
  refine (HTY.out _ _ Ss2.out).mono ?_
  rintro e w2 hT
  cases hq:ty l j with
  |out=>exact (HRO.out (by have h:=HR.out;rw [hq] at h;exact h.symm)).elim
  |err p q =>
   rw [hq] at hT
   obtain ⟨rfl,hK⟩:=hT
   have KE:=Lib.hid (Ks2.out.trans hK)
   have HB:Hid (EO.err p q=R):=by have h:=HR.out;rw [hq] at h;exact h
   clear hq hK
   go_wp2
   refine ⟨rfl,?_⟩
   rw [← HB.out]
   exact ⟨rfl,KE.out⟩
  |ok t q =>
   clear cX fX lX
   rw [hq] at hT
   obtain ⟨v,rfl,hv,hS,hK⟩:=hT
   have HR:Hid ((EO.ok (⟨n.1,n.2,t⟩:PX) q)=R):=by have h:=HR.out;rw [hq] at h;exact h
   obtain ⟨QTk,QTp,QTg,QTs,QTo,QTa,hve⟩:=IsTP.parts hv
   subst hve
   have S2:=Lib.hid hS
   have K2:=Lib.hid (Ks2.out.trans hK)
   have hb2:=hS.lt
   have XA2:=Lib.hid (XAs2.out.kp hK (by omega))
   have lA2:=XA2.out.lt
   have XB2:=Lib.hid (XBs2.out.kp hK (by omega))
   have lB2:=XB2.out.lt
   have QT:=Lib.hid (monoT (B':=(w.heap.size + 1) + 1) (by have h:=XBs2.out.lt;omega) hv)
   clear hS hK hq hv
   have XBs3:Hid (Blk _ (w.heap.size + 1) 72 #[.string n.1,.int .i64 n.2,.int .i64 QTk,.int .i64 QTp,.string QTg,.string QTs,.slice QTo QTa QTa]):=XB2.out.row (putL [.string n.1,.int .i64 n.2,.int .i64 0,.int .i64 0,.string ⟨#[]⟩,.string ⟨#[]⟩,.slice none 0 0] 2 [.int .i64 QTk,.int .i64 QTp,.string QTg,.string QTs,.slice QTo QTa QTa]).toArray
   have Ss3:=Lib.hid (S2.out.row (g:=(w.heap.size + 1)) (by omega) (putL [.string n.1,.int .i64 n.2,.int .i64 0,.int .i64 0,.string ⟨#[]⟩,.string ⟨#[]⟩,.slice none 0 0] 2 [.int .i64 QTk,.int .i64 QTp,.string QTg,.string QTs,.slice QTo QTa QTa]).toArray)
   have Ks3:=Lib.hid (setRow_kp K2.out (g:=(w.heap.size + 1)) (.inl (by omega)) (putL [.string n.1,.int .i64 n.2,.int .i64 0,.int .i64 0,.string ⟨#[]⟩,.string ⟨#[]⟩,.slice none 0 0] 2 [.int .i64 QTk,.int .i64 QTp,.string QTg,.string QTs,.slice QTo QTa QTa]).toArray)
   have XAs3:=Lib.hid (XA2.out.rowFar (g:=(w.heap.size + 1)) (by omega) (putL [.string n.1,.int .i64 n.2,.int .i64 0,.int .i64 0,.string ⟨#[]⟩,.string ⟨#[]⟩,.slice none 0 0] 2 [.int .i64 QTk,.int .i64 QTp,.string QTg,.string QTs,.slice QTo QTa QTa]).toArray)
   have QT:=Lib.hid (stayT QT.out (setRow_ab (Ab.refl _ _) (g:=(w.heap.size + 1)) (by omega) (putL [.string n.1,.int .i64 n.2,.int .i64 0,.int .i64 0,.string ⟨#[]⟩,.string ⟨#[]⟩,.slice none 0 0] 2 [.int .i64 QTk,.int .i64 QTp,.string QTg,.string QTs,.slice QTo QTa QTa]).toArray))
   go_wp2_with (first | (refine boxPart 24 5 (sizeOfI infoT) rfl _ _ rfl (w.heap.size + 1) 2 rfl _ rfl XB2.out rfl (Nat.le_of_ble_eq_true rfl) rfl ?_) | (refine boxLoad 72 7 (sizeOfI infoP) Tryz.underlying72 rfl _ rfl (w.heap.size + 1) rfl XBs3.out rfl ?_) | (refine boxStore 72 7 (sizeOfI infoP) rfl _ _ rfl w.heap.size rfl _ rfl XAs3.out rfl rfl rfl ?_))
   refine bodyPost_ret (v:=.agg #[.string n.1,.int .i64 n.2,.int .i64 QTk,.int .i64 QTp,.string QTg,.string QTs,.slice QTo QTa QTa]) ?_ ?_ ?_
   ·exact boxRes 72 7 (sizeOfI infoP) Tryz.underlying72 Tryz.results135 _ w.heap.size rfl (XAs3.out.row _) rfl
   ·rfl
   rw [← HR.out]
   exact ⟨_,rfl,⟨_,_,_,_,_,_,rfl,monoT (by omega) (stayT QT.out (setRow_ab (Ab.refl _ _) (g:=w.heap.size) (by omega) _))⟩,Ss3.out.row (by omega) _,setRow_kp Ks3.out (.inl (by omega)) _⟩
theorem fieldF (S:FS b o c l i w) (hn:l.length≤1073741824) (hf:Fits l) (hr:fld l i≠.out) :
  Calls Tryz.prog 129 #[.pointer (some ⟨b,0,none⟩)] w (TelF b o c l (isPart eltP) w (fld l i)):=by
 have hbl:=S.lt
 have HPA:=Lib.hid (fun (W:World) (j:Int) (h:FS b o c l j W)=>paramF h hn hf (prm_some j))
 have HSY:=Lib.hid (fun (W:World) (j:Int) (z:UInt8) (h:FS b o c l j W)=>symF h hn z)
 obtain ⟨R,hR⟩:∃ R,(thn (prm l i) fun x j=>thn (sy l 59 j) fun _ q=>EO.ok x q)=R:=⟨_,rfl⟩
 change (thn (prm l i) fun x j=>thn (sy l 59 j) fun _ q=>EO.ok x q)≠.out at hr
 change Calls _ _ _ _ (TelF b o c l _ w (thn (prm l i) fun x j=>thn (sy l 59 j) fun _ q=>EO.ok x q))
 rw [hR] at hr ⊢
 have HR:=Lib.hid hR
 have HRO:=Lib.hid hr
 have S0:=Lib.hid (S.alloc (.cells #[.string ⟨#[]⟩,.int .i64 0,.int .i64 0,.int .i64 0,.string ⟨#[]⟩,.string ⟨#[]⟩,.slice none 0 0] 72))
 have K0:=Lib.hid ((Kp.refl b w).alloc (.cells #[.string ⟨#[]⟩,.int .i64 0,.int .i64 0,.int .i64 0,.string ⟨#[]⟩,.string ⟨#[]⟩,.slice none 0 0] 72))
 have XA0:Hid (Blk (w.alloc (.cells #[.string ⟨#[]⟩,.int .i64 0,.int .i64 0,.int .i64 0,.string ⟨#[]⟩,.string ⟨#[]⟩,.slice none 0 0] 72)) w.heap.size 72 #[.string ⟨#[]⟩,.int .i64 0,.int .i64 0,.int .i64 0,.string ⟨#[]⟩,.string ⟨#[]⟩,.slice none 0 0]):=(Blk.new w 72 #[.string ⟨#[]⟩,.int .i64 0,.int .i64 0,.int .i64 0,.string ⟨#[]⟩,.string ⟨#[]⟩,.slice none 0 0])
 have wxA:w.heap.size≤w.heap.size:=by omega
 have bxA:b < w.heap.size:=by omega
 clear S hn hf hr hR
 go_enter Tryz.func129,Tryz.ntmps129
 go_wp2_with fail
 refine (HPA.out _ _ S0.out).mono ?_
 rintro e w1 hT
 cases hq:prm l i with
 |out=>exact (HRO.out (by have h:=HR.out;rw [hq] at h;exact h.symm)).elim
 |err p q =>
  rw [hq] at hT
  obtain ⟨rfl,hK⟩:=hT
  have KE:=Lib.hid (K0.out.trans hK)
  have HB:Hid (EO.err p q=R):=by have h:=HR.out;rw [hq] at h;exact h
  clear hq hK
  go_wp2
  refine ⟨rfl,?_⟩
  rw [← HB.out]
  exact ⟨rfl,KE.out⟩
 |ok x j =>
  rw [hq] at hT
  obtain ⟨v,rfl,hv,hS,hK⟩:=hT
  have HR:Hid ((thn (sy l 59 j) fun _ q=>EO.ok x q)=R):=by have h:=HR.out;rw [hq] at h;exact h
  have hv2:=hv
  obtain ⟨QXk,QXp,QXg,QXs,QXo,QXa,hve,_⟩:=hv2
  subst hve
  have S1:=Lib.hid hS
  have K1:=Lib.hid (K0.out.trans hK)
  have hb1:=hS.lt
  have XA1:=Lib.hid (XA0.out.kp hK (by omega))
  have lA1:=XA1.out.lt
  have QX:=Lib.hid (monoP (B':=w.heap.size + 1) (by have h:=XA0.out.lt;omega) hv)
  clear hS hK hq hv
  have XB0:=Lib.hid (Blk.new w1 72 #[.string x.name,.int .i64 x.pos,.int .i64 QXk,.int .i64 QXp,.string QXg,.string QXs,.slice QXo QXa QXa])
  have wxB:w.heap.size≤w1.heap.size:=K1.out.size
  have bxB:b < w1.heap.size:=hb1
  have oAB:w.heap.size < w1.heap.size:=lA1
  have S1a:=Lib.hid (S1.out.alloc (.cells #[.string x.name,.int .i64 x.pos,.int .i64 QXk,.int .i64 QXp,.string QXg,.string QXs,.slice QXo QXa QXa] 72))
  have K1a:=Lib.hid (K1.out.alloc (.cells #[.string x.name,.int .i64 x.pos,.int .i64 QXk,.int .i64 QXp,.string QXg,.string QXs,.slice QXo QXa QXa] 72))
  have XA1a:=Lib.hid (XA1.out.alloc (.cells #[.string x.name,.int .i64 x.pos,.int .i64 QXk,.int .i64 QXp,.string QXg,.string QXs,.slice QXo QXa QXa] 72))
  have QX:=Lib.hid (stayP QX.out ((Ab.refl _ _).alloc (.cells #[.string x.name,.int .i64 x.pos,.int .i64 QXk,.int .i64 QXp,.string QXg,.string QXs,.slice QXo QXa QXa] 72)))
  go_wp2_with (first | (refine boxNew 72 7 (sizeOfI infoP) rfl _ _ rfl rfl _ rfl rfl rfl rfl ?_))
  refine (HSY.out _ _ 59 S1a.out).mono ?_
  rintro e w2 hT
  cases hq:sy l 59 j with
  |out=>exact (HRO.out (by have h:=HR.out;rw [hq] at h;exact h.symm)).elim
  |err p q =>
   rw [hq] at hT
   obtain ⟨rfl,hK⟩:=hT
   have KE:=Lib.hid (K1a.out.trans hK)
   have HB:Hid (EO.err p q=R):=by have h:=HR.out;rw [hq] at h;exact h
   clear hq hK
   go_wp2
   refine ⟨rfl,?_⟩
   rw [← HB.out]
   exact ⟨rfl,KE.out⟩
  |ok y q =>
   rw [hq] at hT
   obtain ⟨v,rfl,hv,hS,hK⟩:=hT
   have HR:Hid ((EO.ok x q)=R):=by have h:=HR.out;rw [hq] at h;exact h
   obtain rfl:v=.tuple #[]:=hv
   have S2:=Lib.hid hS
   have K2:=Lib.hid (K1a.out.trans hK)
   have hb2:=hS.lt
   have XA2:=Lib.hid (XA1a.out.kp hK (by omega))
   have lA2:=XA2.out.lt
   have XB2:=Lib.hid (XB0.out.kp hK (by omega))
   have lB2:=XB2.out.lt
   have QX:=Lib.hid (stayP QX.out ((Ab.refl _ _).kp hK (by omega)))
   clear hS hK hq
   go_wp2_with (first | (refine boxLoad 72 7 (sizeOfI infoP) Tryz.underlying72 rfl _ rfl w1.heap.size rfl XB2.out rfl ?_) | (refine boxStore 72 7 (sizeOfI infoP) rfl _ _ rfl w.heap.size rfl _ rfl XA2.out rfl rfl rfl ?_))
   refine bodyPost_ret (v:=.agg #[.string x.name,.int .i64 x.pos,.int .i64 QXk,.int .i64 QXp,.string QXg,.string QXs,.slice QXo QXa QXa]) ?_ ?_ ?_
   ·exact boxRes 72 7 (sizeOfI infoP) Tryz.underlying72 Tryz.results129 _ w.heap.size rfl (XA2.out.row _) rfl
   ·rfl
   rw [← HR.out]
   exact ⟨_,rfl,monoP (by omega) (stayP QX.out (setRow_ab (Ab.refl _ _) (g:=w.heap.size) (by omega) _)),S2.out.row (by omega) _,setRow_kp K2.out (.inl (by omega)) _⟩
theorem receiverF (S:FS b o c l i w) (hn:l.length≤1073741824) (hf:Fits l) (hr:(thn (sy l 40 i) fun _ j=>thn (prm l j) fun x j=>thn (sy l 41 j) fun _ q=>EO.ok x q)≠.out) :
  Calls Tryz.prog 132 #[.pointer (some ⟨b,0,none⟩)] w (TelF b o c l (isPart eltP) w ((thn (sy l 40 i) fun _ j=>thn (prm l j) fun x j=>thn (sy l 41 j) fun _ q=>EO.ok x q))):=by
 have hbl:=S.lt
 have HPA:=Lib.hid (fun (W:World) (j:Int) (h:FS b o c l j W)=>paramF h hn hf (prm_some j))
 have HSY:=Lib.hid (fun (W:World) (j:Int) (z:UInt8) (h:FS b o c l j W)=>symF h hn z)
 obtain ⟨R,hR⟩:∃ R,(thn (sy l 40 i) fun _ j=>thn (prm l j) fun x j=>thn (sy l 41 j) fun _ q=>EO.ok x q)=R:=⟨_,rfl⟩
 change (thn (sy l 40 i) fun _ j=>thn (prm l j) fun x j=>thn (sy l 41 j) fun _ q=>EO.ok x q)≠.out at hr
 change Calls _ _ _ _ (TelF b o c l _ w (thn (sy l 40 i) fun _ j=>thn (prm l j) fun x j=>thn (sy l 41 j) fun _ q=>EO.ok x q))
 rw [hR] at hr ⊢
 have HR:=Lib.hid hR
 have HRO:=Lib.hid hr
 have S0:=Lib.hid (S.alloc (.cells #[.string ⟨#[]⟩,.int .i64 0,.int .i64 0,.int .i64 0,.string ⟨#[]⟩,.string ⟨#[]⟩,.slice none 0 0] 72))
 have K0:=Lib.hid ((Kp.refl b w).alloc (.cells #[.string ⟨#[]⟩,.int .i64 0,.int .i64 0,.int .i64 0,.string ⟨#[]⟩,.string ⟨#[]⟩,.slice none 0 0] 72))
 have XA0:Hid (Blk (w.alloc (.cells #[.string ⟨#[]⟩,.int .i64 0,.int .i64 0,.int .i64 0,.string ⟨#[]⟩,.string ⟨#[]⟩,.slice none 0 0] 72)) w.heap.size 72 #[.string ⟨#[]⟩,.int .i64 0,.int .i64 0,.int .i64 0,.string ⟨#[]⟩,.string ⟨#[]⟩,.slice none 0 0]):=(Blk.new w 72 #[.string ⟨#[]⟩,.int .i64 0,.int .i64 0,.int .i64 0,.string ⟨#[]⟩,.string ⟨#[]⟩,.slice none 0 0])
 have wxA:w.heap.size≤w.heap.size:=by omega
 have bxA:b < w.heap.size:=by omega
 clear S hn hf hr hR
 go_enter Tryz.func132,Tryz.ntmps132
 go_wp2_with fail
 refine (HSY.out _ _ 40 S0.out).mono ?_
 rintro e w1 hT
 cases hq:sy l 40 i with
 |out=>exact (HRO.out (by have h:=HR.out;rw [hq] at h;exact h.symm)).elim
 |err p q =>
  rw [hq] at hT
  obtain ⟨rfl,hK⟩:=hT
  have KE:=Lib.hid (K0.out.trans hK)
  have HB:Hid (EO.err p q=R):=by have h:=HR.out;rw [hq] at h;exact h
  clear hq hK
  go_wp2
  refine ⟨rfl,?_⟩
  rw [← HB.out]
  exact ⟨rfl,KE.out⟩
 |ok y0 j0 =>
  rw [hq] at hT
  obtain ⟨v,rfl,hv,hS,hK⟩:=hT
  have HR:Hid ((thn (prm l j0) fun x j=>thn (sy l 41 j) fun _ q=>EO.ok x q)=R):=by have h:=HR.out;rw [hq] at h;exact h
  obtain rfl:v=.tuple #[]:=hv
  have S1:=Lib.hid hS
  have K1:=Lib.hid (K0.out.trans hK)
  have hb1:=hS.lt
  have XA1:=Lib.hid (XA0.out.kp hK (by omega))
  have lA1:=XA1.out.lt
  clear hS hK hq
  go_wp2_with fail
  refine (HPA.out _ _ S1.out).mono ?_
  rintro e w2 hT
  cases hq:prm l j0 with
  |out=>exact (HRO.out (by have h:=HR.out;rw [hq] at h;exact h.symm)).elim
  |err p q =>
   rw [hq] at hT
   obtain ⟨rfl,hK⟩:=hT
   have KE:=Lib.hid (K1.out.trans hK)
   have HB:Hid (EO.err p q=R):=by have h:=HR.out;rw [hq] at h;exact h
   clear hq hK
   go_wp2
   refine ⟨rfl,?_⟩
   rw [← HB.out]
   exact ⟨rfl,KE.out⟩
  |ok x j =>
   rw [hq] at hT
   obtain ⟨v,rfl,hv,hS,hK⟩:=hT
   have HR:Hid ((thn (sy l 41 j) fun _ q=>EO.ok x q)=R):=by have h:=HR.out;rw [hq] at h;exact h
   have hv2:=hv
   obtain ⟨QXk,QXp,QXg,QXs,QXo,QXa,hve,_⟩:=hv2
   subst hve
   have S2:=Lib.hid hS
   have K2:=Lib.hid (K1.out.trans hK)
   have hb2:=hS.lt
   have XA2:=Lib.hid (XA1.out.kp hK (by omega))
   have lA2:=XA2.out.lt
   have QX:=Lib.hid (monoP (B':=w.heap.size + 1) (by have h:=XA1.out.lt;omega) hv)
   clear hS hK hq hv
   have XB0:=Lib.hid (Blk.new w2 72 #[.string x.name,.int .i64 x.pos,.int .i64 QXk,.int .i64 QXp,.string QXg,.string QXs,.slice QXo QXa QXa])
   have wxB:w.heap.size≤w2.heap.size:=K2.out.size
   have bxB:b < w2.heap.size:=hb2
   have oAB:w.heap.size < w2.heap.size:=lA2
   have S2a:=Lib.hid (S2.out.alloc (.cells #[.string x.name,.int .i64 x.pos,.int .i64 QXk,.int .i64 QXp,.string QXg,.string QXs,.slice QXo QXa QXa] 72))
   have K2a:=Lib.hid (K2.out.alloc (.cells #[.string x.name,.int .i64 x.pos,.int .i64 QXk,.int .i64 QXp,.string QXg,.string QXs,.slice QXo QXa QXa] 72))
   have XA2a:=Lib.hid (XA2.out.alloc (.cells #[.string x.name,.int .i64 x.pos,.int .i64 QXk,.int .i64 QXp,.string QXg,.string QXs,.slice QXo QXa QXa] 72))
   have QX:=Lib.hid (stayP QX.out ((Ab.refl _ _).alloc (.cells #[.string x.name,.int .i64 x.pos,.int .i64 QXk,.int .i64 QXp,.string QXg,.string QXs,.slice QXo QXa QXa] 72)))
   go_wp2_with (first | (refine boxNew 72 7 (sizeOfI infoP) rfl _ _ rfl rfl _ rfl rfl rfl rfl ?_))
   refine (HSY.out _ _ 41 S2a.out).mono ?_
   rintro e w3 hT
   cases hq:sy l 41 j with
   |out=>exact (HRO.out (by have h:=HR.out;rw [hq] at h;exact h.symm)).elim
   |err p q =>
    rw [hq] at hT
    obtain ⟨rfl,hK⟩:=hT
    have KE:=Lib.hid (K2a.out.trans hK)
    have HB:Hid (EO.err p q=R):=by have h:=HR.out;rw [hq] at h;exact h
    clear hq hK
    go_wp2
    refine ⟨rfl,?_⟩
    rw [← HB.out]
    exact ⟨rfl,KE.out⟩
   |ok y q =>
    rw [hq] at hT
    obtain ⟨v,rfl,hv,hS,hK⟩:=hT
    have HR:Hid ((EO.ok x q)=R):=by have h:=HR.out;rw [hq] at h;exact h
    obtain rfl:v=.tuple #[]:=hv
    have S3:=Lib.hid hS
    have K3:=Lib.hid (K2a.out.trans hK)
    have hb3:=hS.lt
    have XA3:=Lib.hid (XA2a.out.kp hK (by omega))
    have lA3:=XA3.out.lt
    have XB3:=Lib.hid (XB0.out.kp hK (by omega))
    have lB3:=XB3.out.lt
    have QX:=Lib.hid (stayP QX.out ((Ab.refl _ _).kp hK (by omega)))
    clear hS hK hq
    go_wp2_with (first | (refine boxLoad 72 7 (sizeOfI infoP) Tryz.underlying72 rfl _ rfl w2.heap.size rfl XB3.out rfl ?_) | (refine boxStore 72 7 (sizeOfI infoP) rfl _ _ rfl w.heap.size rfl _ rfl XA3.out rfl rfl rfl ?_))
    refine bodyPost_ret (v:=.agg #[.string x.name,.int .i64 x.pos,.int .i64 QXk,.int .i64 QXp,.string QXg,.string QXs,.slice QXo QXa QXa]) ?_ ?_ ?_
    ·exact boxRes 72 7 (sizeOfI infoP) Tryz.underlying72 Tryz.results132 _ w.heap.size rfl (XA3.out.row _) rfl
    ·rfl
    rw [← HR.out]
    exact ⟨_,rfl,monoP (by omega) (stayP QX.out (setRow_ab (Ab.refl _ _) (g:=w.heap.size) (by omega) _)),S3.out.row (by omega) _,setRow_kp K3.out (.inl (by omega)) _⟩
end
end Go.Proofs.YtfcgoainglpdlaaGreatDoor
namespace Go.Proofs.YtfcgoainglpdlaaGreatDoor
open Go.RowKit
open Go.Lib hiding intOf
theorem st5_kp {b:Nat} {a W:World} (h:Kp b a W) {r:Nat} (hr:a.heap.size≤r∨r=b) (v0 v1 v2 v3 v4:Value):Kp b a (st5 W r v0 v1 v2 v3 v4) :=
 ((((h.setCell hr _).setCell hr _).setCell hr _).setCell hr _).setCell hr _
theorem st5_ab {B:Nat} {a W:World} (h:Ab B a W) {r:Nat} (hr:r < B) (v0 v1 v2 v3 v4:Value):Ab B a (st5 W r v0 v1 v2 v3 v4) :=
 ((((h.setCell hr _).setCell hr _).setCell hr _).setCell hr _).setCell hr _
section
variable {b c:Nat} {o:Option Addr} {l:List TZ} {i:Int} {w:World}
theorem resultF (S:FS b o c l i w) (hn:l.length≤1073741824) (hf:Fits l) (z:UInt8) :
  Calls Tryz.prog 136 #[.pointer (some ⟨b,0,none⟩),.string ⟨#[z]⟩] w (TelF b o c l isRes w (resw l z i)):=by
 have hbl:=S.lt
 have HS:=Lib.hid (seesSF (S.alloc (.cells zeroTL.toArray 24)) hn z)
 have HTY:=Lib.hid (fun (W:World) (h:FS b o c l i W)=>typedF h hn hf)
 have S0:=Lib.hid (S.alloc (.cells zeroTL.toArray 24))
 have K0:=Lib.hid ((Kp.refl b w).alloc (.cells zeroTL.toArray 24))
 have X0:=Lib.hid (Blk.new w 24 zeroTL.toArray)
 have HN:=Lib.hid hn
 clear S hn hf
 cases hz:isS (tkAt l i) z
 ·have hR:resw l z i=thn (ty l i) fun t q=>.ok (true,t) q:=by unfold resw;rw [hz];rfl
  rw [hR]
  rw [hz] at HS
  clear hz hR
  cases hq:ty l i with
  |out=>exact (ty_some i hq).elim
  |err p q =>
   have HT:=Lib.hid (fun (W:World) (h:FS b o c l i W)=>hq ▸ HTY.out W h)
   clear hq HTY
   go_enter Tryz.func136,Tryz.ntmps136
   go_wp2_with fail
   refine HS.out.mono ?_
   rintro e w1 ⟨rfl,hB⟩
   have S1:=Lib.hid (S0.out.step hB)
   have K1:=Lib.hid (K0.out.then_below hB)
   clear hB
   go_wp2_with fail
   refine (HT.out _ S1.out).mono ?_
   rintro e w2 ⟨rfl,hK⟩
   have K2:=Lib.hid (K1.out.trans hK)
   clear hK
   go_wp2
   exact ⟨rfl,rfl,K2.out⟩
  |ok t q =>
   have HT:=Lib.hid (fun (W:World) (h:FS b o c l i W)=>hq ▸ HTY.out W h)
   clear hq HTY
   go_enter Tryz.func136,Tryz.ntmps136
   go_wp2_with fail
   refine HS.out.mono ?_
   rintro e w1 ⟨rfl,hB⟩
   have S1:=Lib.hid (S0.out.step hB)
   have K1:=Lib.hid (K0.out.then_below hB)
   have X1:=Lib.hid (X0.out.below hB)
   have l1:=X1.out.lt
   clear hB
   go_wp2_with fail
   refine (HT.out _ S1.out).mono ?_
   rintro e w2 ⟨v,rfl,hv,hS,hK⟩
   obtain ⟨k,p,g,s,oo,aa,hve⟩:=IsTP.parts hv
   subst hve
   have S2:=Lib.hid hS
   have K2:=Lib.hid (K1.out.trans hK)
   have T2:=Lib.hid (monoT (B':=w.heap.size + 1) (by omega) hv)
   have hX2:=X1.out.kp hK (by omega)
   have cX:=hX2.cell
   have fX:=hX2.frozen
   have lX:=hX2.lt
   simp only [zeroTL] at cX
   clear hv hS hK hX2 l1
   go_wp2
   refine bodyPost_ret (v:=.tuple #[.bool true,.agg #[.int .i64 k,.int .i64 p,.string g,.string s,.slice oo aa aa]]) (by simp [results,Tryz.results136,go_sem,cX]) rfl ?_
   refine ⟨_,rfl,⟨_,rfl,monoT (B:=w.heap.size + 1) (by omega) (stayT T2.out (st5_ab (Ab.refl _ _) (r:=w.heap.size) (by omega) _ _ _ _ _))⟩,?_,?_⟩
   ·exact S2.out.under (st5_below (Below.refl _ _) (r:=w.heap.size) (by omega) _ _ _ _ _)
   ·exact st5_kp K2.out (.inl (Nat.le_refl _)) _ _ _ _ _
 ·have hR:resw l z i=.ok (false,noTX) i:=by unfold resw;rw [hz];rfl
  rw [hR]
  rw [hz] at HS
  clear hz hR HTY
  go_enter Tryz.func136,Tryz.ntmps136
  go_wp2_with fail
  refine HS.out.mono ?_
  rintro e w1 ⟨rfl,hB⟩
  have S1:=Lib.hid (S0.out.step hB)
  have K1:=Lib.hid (K0.out.then_below hB)
  have hX2:=X0.out.below hB
  have cX:=hX2.cell
  have fX:=hX2.frozen
  have lX:=hX2.lt
  simp only [zeroTL] at cX
  clear hB hX2
  go_wp2
  refine bodyPost_ret (v:=.tuple #[.bool false,.agg #[.int .i64 0,.int .i64 0,.string ⟨#[]⟩,.string ⟨#[]⟩,.slice none 0 0]]) (by simp [results,Tryz.results136,go_sem,cX]) rfl ?_
  refine ⟨_,rfl,⟨_,rfl,?_⟩,?_,?_⟩
  ·rfl
  ·exact S1.out.under (st5_below (Below.refl _ _) (r:=w.heap.size) (by omega) _ _ _ _ _)
  ·exact st5_kp K1.out (.inl (Nat.le_refl _)) _ _ _ _ _
end
end Go.Proofs.YtfcgoainglpdlaaGreatDoor
