/- The walk of statements, out of what it calls. Condition: the parser lies in memory as said. Rows of statements; an append of one. Condition: at most 2^47 bytes. The walk of branch, out of what it calls. Condition: the parser lies in memory as said. The walks of loop and branch, out of what they c .. -/
import Derived.Test.YtfcgoainglpdlaaGreatDoorV14
import Derived.Test.YtfcgoainglpdlaaGreatDoorV16
import Derived.Test.YtfcgoainglpdlaaGreatDoorV18
set_option maxRecDepth 20000
set_option maxHeartbeats 16000000
namespace Go.Proofs.YtfcgoainglpdlaaGreatDoor
open Go.RowKit
open Go.Lib hiding intOf
theorem run_field1' (a b c:Int) (t:ByteArray) (w:World):(Instr.field 81 (.agg #[.int .i64 a,.int .i64 b,.int .i64 c,.string t]) 1).run Tryz.prog w=.ok (.int .i64 b) w:=by
 simp [Instr.field,go_sem,part,asAgg]
theorem set11_kp0 {b:Nat} {w W:World} (h:Kp b w W) (v0 v1 v2 v3 v4 v5 v6 v7 v8 v9 v10:Value):Kp b w (set11 W w.heap.size v0 v1 v2 v3 v4 v5 v6 v7 v8 v9 v10):=set11_kp h (.inl (Nat.le_refl _)) _ _ _ _ _ _ _ _ _ _ _
theorem set11_below0 {B:Nat} {W:World} {r:Nat} (hr:B≤r) (v0 v1 v2 v3 v4 v5 v6 v7 v8 v9 v10:Value):Below B W (set11 W r v0 v1 v2 v3 v4 v5 v6 v7 v8 v9 v10) :=
 (((((((((((Below.refl B W).setCell hr _).setCell hr _).setCell hr _).setCell hr _).setCell hr _).setCell hr _).setCell hr _).setCell hr _).setCell hr _).setCell hr _).setCell hr _
def ExprC (b:Nat) (o:Option Addr) (c:Nat) (l:List TZ) (F:Nat):Prop :=
 ∀ (α:Type) (r:EO α) (d:Int) (w:World),St b o c l d r w→(bnd r fun _ j=>ex l F 1 0 j)≠.out →
  Calls Tryz.prog 191 #[.pointer (some ⟨b,0,none⟩)] w (TelE b o c l d w (bnd r fun _ j=>ex l F 1 0 j))
section
variable {α:Type} {b c:Nat} {o:Option Addr} {l:List TZ} {d:Int} {F:Nat}
theorem endedS {r:EO α} {w:World} (HC:ExprC b o c l F) (S:St b o c l d r w) (hn:l.length≤1073741824) (hr:(bnd r fun _ j=>ex l F 1 0 j)≠.out) :
  Calls Tryz.prog 189 #[.pointer (some ⟨b,0,none⟩)] w (TelE b o c l d w (must l 59 (bnd r fun _ j=>ex l F 1 0 j))):=by
 have hbl:=S.lt
 have HE:=Lib.hid (HC α r d _ (S.alloc (.cells zeroE 31)) hr)
 have HM:=Lib.hid (fun (W:World) (h:St b o c l d (bnd r fun _ j=>ex l F 1 0 j) W)=>expectS h hn 59)
 have R0:=Lib.hid (Blk.new w 31 zeroE)
 clear S HC hr hn
 generalize (bnd r fun _ j=>ex l F 1 0 j)=R at *
 go_enter Tryz.func189,Tryz.ntmps189
 go_wp2_with fail
 refine HE.out.mono ?_
 rintro e w1 ⟨v,rfl,hv,hS,hK⟩
 obtain ⟨k,p,s,nm,nn,tk,tp,tg,tn,tz,ta,oa,na,ca,rfl⟩:=hv.1
 have hz1:w.heap.size < w1.heap.size:=by have:=hK.size;simp at this;omega
 have S1:=Lib.hid (hS.alloc (.cells #[.int .i64 k,.int .i64 p,.int .i64 s,.string nm,.int .i64 nn,.int .i64 tk,.int .i64 tp,.string tg,.string tn,.slice tz ta ta,.slice oa na ca] 31))
 have K1:=Lib.hid ((((Kp.refl b w).alloc (.cells zeroE 31)).trans hK).alloc (.cells #[.int .i64 k,.int .i64 p,.int .i64 s,.string nm,.int .i64 nn,.int .i64 tk,.int .i64 tp,.string tg,.string tn,.slice tz ta ta,.slice oa na ca] 31))
 have X1:=Lib.hid (Blk.new w1 31 #[.int .i64 k,.int .i64 p,.int .i64 s,.string nm,.int .i64 nn,.int .i64 tk,.int .i64 tp,.string tg,.string tn,.slice tz ta ta,.slice oa na ca])
 have R1:=Lib.hid ((R0.out.kp hK (by omega)).alloc (.cells #[.int .i64 k,.int .i64 p,.int .i64 s,.string nm,.int .i64 nn,.int .i64 tk,.int .i64 tp,.string tg,.string tn,.slice tz ta ta,.slice oa na ca] 31))
 have V1:=Lib.hid ((hv.mono (B':=w.heap.size + 1) (by simp)).ab ((Ab.refl _ w1).alloc (.cells #[.int .i64 k,.int .i64 p,.int .i64 s,.string nm,.int .i64 nn,.int .i64 tk,.int .i64 tp,.string tg,.string tn,.slice tz ta ta,.slice oa na ca] 31)))
 clear hv hS hK R0 HE
 go_wp2_with fail
 refine (HM.out _ S1.out).mono ?_
 rintro e w2 ⟨rfl,hS,hK⟩
 have S2:=Lib.hid hS
 have K2:=Lib.hid (K1.out.trans hK)
 have hX2:=X1.out.kp hK (by omega)
 have hR2:=R1.out.kp hK (by omega)
 have V2:=Lib.hid (V1.out.ab ((Ab.refl _ _).kp hK (by omega)))
 have c2:=hX2.cell
 have f2:=hX2.frozen
 have r2:=hR2.cell
 have g2:=hR2.frozen
 have l1:=hX2.lt
 have l2:=hR2.lt
 have hne:w1.heap.size≠w.heap.size:=by omega
 simp only [zeroE] at r2
 clear hS hK hX2 hR2
 go_wp2
 refine bodyPost_ret (v:=.agg #[.int .i64 k,.int .i64 p,.int .i64 s,.string nm,.int .i64 nn,.int .i64 tk,.int .i64 tp,.string tg,.string tn,.slice tz ta ta,.slice oa na ca]) (by simp [results,Tryz.results189,go_sem,r2]) rfl ?_
 refine ⟨_,rfl,⟨⟨_,_,_,_,_,_,_,_,_,_,_,_,_,_,rfl⟩,fun x j hj=>?_⟩,?_,?_⟩
 ·obtain ⟨i,hi,_,_⟩:=must_ok hj
  exact IsEX.mono (by omega) ((V2.out.2 x i hi).ab (set11_ab (Ab.refl _ _) (by omega) _ _ _ _ _ _ _ _ _ _ _))
 ·exact S2.out.under (set11_below0 (by omega) _ _ _ _ _ _ _ _ _ _ _)
 ·exact set11_kp0 K2.out _ _ _ _ _ _ _ _ _ _ _
def asg (l:List TZ) (j:Int):EO ByteArray:=if (tkAt l j).kind=1 then must l 61 (.ok (tkAt l j).text (j + 1)) else .err (tkAt l j).pos 5
theorem assignedS {x:α} {j:Int} {w:World} (S:St b o c l d (.ok x j) w) (hn:l.length≤1073741824) (hf:Fits l) :
  Calls Tryz.prog 190 #[.pointer (some ⟨b,0,none⟩)] w fun e w'=>∃ s,e=.returned (.string s)∧(∀ t q,asg l j=.ok t q→s=t)∧St b o c l d (asg l j) w'∧Kp b w w':=by
 have hbl:=S.lt
 have HP:=Lib.hid (peekS S (by omega))
 have H:Hid (St b o c l d (.ok (tkAt l j).text j) w):=S
 have HF:=Lib.hid (hf.tkAt j)
 change Hid (Calls _ _ _ _ fun e w'=>e=.returned (.agg #[.int .i64 (tkAt l j).kind,.int .i64 (tkAt l j).pos,.int .i64 (tkAt l j).stop,.string (tkAt l j).text])∧_) at HP
 by_cases hk:(tkAt l j).kind=1
 ·have e1:((tkAt l j).kind != 1)=false:=by simpa using hk
  have hr:=tkAt_real (l:=l) (i:=j) (by rw [hk];decide)
  have HT:=Lib.hid (fun (W:World) (h:St b o c l d (.ok (tkAt l j).text j) W)=>takeS h (by omega) hr)
  have HM:=Lib.hid (fun (W:World) (h:St b o c l d (.ok (tkAt l j).text (j + 1)) W)=>expectS h hn 61)
  have HC:=Lib.hid (fun (W:World)=>clone_any (tkAt l j).text W HF.out)
  have HA:Hid (asg l j=must l 61 (.ok (tkAt l j).text (j + 1))):=by show asg l j=_;unfold asg;rw [if_pos hk]
  clear S hn hf hr hk
  generalize tkAt l j=t at *
  go_enter Tryz.func190,Tryz.ntmps190
  go_wp2_with fail
  refine HP.out.mono ?_
  rintro e w1 ⟨rfl,hB⟩
  have S1:=Lib.hid ((H.out.step hB).alloc (.cells #[.int .i64 t.kind,.int .i64 t.pos,.int .i64 t.stop,.string t.text] 81))
  have K1:=Lib.hid (((Kp.refl b w).then_below hB).alloc (.cells #[.int .i64 t.kind,.int .i64 t.pos,.int .i64 t.stop,.string t.text] 81))
  have X1:=Lib.hid (Blk.new w1 81 #[.int .i64 t.kind,.int .i64 t.pos,.int .i64 t.stop,.string t.text])
  have hz1:w.heap.size≤w1.heap.size:=hB.size
  clear hB HP
  go_wp2_with fail
  refine (HT.out _ S1.out).mono ?_
  rintro e w2 ⟨rfl,hS,hK⟩
  have S2:=Lib.hid hS
  have K2:=Lib.hid (K1.out.trans hK)
  have X2:=Lib.hid (X1.out.kp hK (by omega))
  clear hS hK
  go_wp2_with fail
  refine (HM.out _ S2.out).mono ?_
  rintro e w3 ⟨rfl,hS,hK⟩
  have S3:=Lib.hid hS
  have K3:=Lib.hid (K2.out.trans hK)
  have hX3:=X2.out.kp hK (by omega)
  have c3:=hX3.cell
  have l3:=hX3.lt
  clear hS hK hX3
  go_wp2_with fail
  refine (HC.out _).mono ?_
  rintro e w4 ⟨rfl,hB⟩
  have S4:=Lib.hid (S3.out.step hB)
  have K4:=Lib.hid (K3.out.then_below hB)
  clear hB
  go_wp2
  refine bodyPost_ret (v:=.string t.text) (by simp [results,Tryz.results190,go_sem]) rfl ?_
  rw [HA.out]
  refine ⟨_,rfl,fun t' q hq=>?_,S4.out,K4.out⟩
  obtain ⟨i,hi,_⟩:=must_ok hq
  injection hi with hi
 ·have e1:((tkAt l j).kind != 1)=true:=by simpa using hk
  have HM:=Lib.hid (fun (W:World) (h:St b o c l d (.ok (tkAt l j).text j) W)=>misplacedS h (tkAt l j))
  have HA:Hid (asg l j=wrong (tkAt l j).pos 5 (.ok (tkAt l j).text j)):=by show asg l j=_;unfold asg;rw [if_neg hk];rfl
  clear S hn hf hk
  generalize tkAt l j=t at *
  go_enter Tryz.func190,Tryz.ntmps190
  go_wp2_with fail
  refine HP.out.mono ?_
  rintro e w1 ⟨rfl,hB⟩
  have S1:=Lib.hid ((H.out.step hB).alloc (.cells #[.int .i64 t.kind,.int .i64 t.pos,.int .i64 t.stop,.string t.text] 81))
  have K1:=Lib.hid (((Kp.refl b w).then_below hB).alloc (.cells #[.int .i64 t.kind,.int .i64 t.pos,.int .i64 t.stop,.string t.text] 81))
  clear hB HP
  go_wp2_with fail
  refine (HM.out _ S1.out).mono ?_
  rintro e w2 ⟨rfl,hS,hK⟩
  have S2:=Lib.hid hS
  have K2:=Lib.hid (K1.out.trans hK)
  clear hS hK
  go_wp2
  refine bodyPost_ret (v:=.string ⟨#[]⟩) (by simp [results,Tryz.results190,go_sem]) rfl ?_
  rw [HA.out]
  exact ⟨_,rfl,(fun t' q hq=>by cases hq),S2.out,K2.out⟩
end
end Go.Proofs.YtfcgoainglpdlaaGreatDoor
namespace Go.Proofs.YtfcgoainglpdlaaGreatDoor
open Go.RowKit
open Go.Lib hiding intOf
def BlkC (b:Nat) (o:Option Addr) (c:Nat) (l:List TZ) (F f D:Nat):Prop :=
 ∀ (α:Type) (r:EO α) (w:World),St b o c l (D:Nat) r w→(bnd r fun _ j=>blk l F f D j)≠.out →
  Calls Tryz.prog 163 #[.pointer (some ⟨b,0,none⟩)] w (TelB b o c l (D:Nat) w (bnd r fun _ j=>blk l F f D j))
theorem exThen_eq (l:List TZ) (F:Nat) (z:UInt8) (i:Int) (g:EX→SX):exThen l F z i g=bnd (must l z (ex l F 1 0 i)) fun x j=>.ok (g x) j:=by
 unfold exThen must bnd
 cases ex l F 1 0 i with
 |ok x j=>simp only;cases isS (tkAt l j) z <;> rfl
 |err p c=>rfl
 |out=>rfl
section
variable {l:List TZ} {F f d:Nat} {i:Int}
theorem stm_let (h:isW (tkAt l i) wLet=true):stm l F (f + 1) d i=bnd (asg l (i + 1)) fun nm j=>exThen l F 59 j fun x=>.mk 1 (tkAt l i).pos nm false x [] []:=by
 rw [stm,if_pos h]
 unfold asg
 by_cases hk:(tkAt l (i + 1)).kind=1
 ·rw [if_pos hk,if_pos hk]
  unfold must bnd
  rw [show i + 1 + 1=i + 2 by omega]
  simp only
  cases isS (tkAt l (i + 2)) 61
  ·rfl
  ·simp only [if_true];rw [show i + 2 + 1=i + 3 by omega]
 ·rw [if_neg hk,if_neg hk];rfl
theorem stm_set (h1:isW (tkAt l i) wLet=false) (h2:isW (tkAt l i) wReturn=false) (h3:isW (tkAt l i) wIf=false) (h4:isW (tkAt l i) wFor=false) (h:isSet l i=true):stm l F (f + 1) d i=bnd (asg l i) fun nm j=>exThen l F 59 j fun x=>.mk 2 (tkAt l i).pos nm false x [] []:=by
 rw [stm,if_neg (by rw [h1];decide),if_neg (by rw [h2];decide),if_neg (by rw [h3];decide),if_neg (by rw [h4];decide),if_pos h]
 unfold isSet at h
 simp only [Bool.and_eq_true,decide_eq_true_eq] at h
 unfold asg must bnd
 rw [if_pos h.1]
 simp only [h.2,if_true]
 rw [show i + 1 + 1=i + 2 by omega]
theorem stm_expr (h1:isW (tkAt l i) wLet=false) (h2:isW (tkAt l i) wReturn=false) (h3:isW (tkAt l i) wIf=false) (h4:isW (tkAt l i) wFor=false) (h:isSet l i=false):stm l F (f + 1) d i=exThen l F 59 i fun x=>.mk 6 (tkAt l i).pos ⟨#[]⟩ false x [] []:=by
 rw [stm,if_neg (by rw [h1];decide),if_neg (by rw [h2];decide),if_neg (by rw [h3];decide),if_neg (by rw [h4];decide),if_neg (by rw [h];decide)]
theorem stm_ret (h1:isW (tkAt l i) wLet=false) (h2:isW (tkAt l i) wReturn=true):stm l F (f + 1) d i=if isS (tkAt l (i + 1)) 59 then .ok (.mk 3 (tkAt l i).pos ⟨#[]⟩ false noEX [] []) (i + 2) else exThen l F 59 (i + 1) fun x=>.mk 3 (tkAt l i).pos ⟨#[]⟩ true x [] []:=by
 rw [stm,if_neg (by rw [h1];decide),if_pos h2]
theorem stm_if (h1:isW (tkAt l i) wLet=false) (h2:isW (tkAt l i) wReturn=false) (h3:isW (tkAt l i) wIf=true):stm l F (f + 1) d i=bnd (ex l F 1 0 (i + 1)) fun x j=>bnd (blk l F f (d + 1) j) fun bs q =>
  if isW (tkAt l q) wElse then bnd (blk l F f (d + 1) (q + 1)) fun cs r=>.ok (.mk 4 (tkAt l i).pos ⟨#[]⟩ true x bs cs) r else .ok (.mk 4 (tkAt l i).pos ⟨#[]⟩ false x bs []) q:=by
 rw [stm,if_neg (by rw [h1];decide),if_neg (by rw [h2];decide),if_pos h3]
 unfold bnd
 cases ex l F 1 0 (i + 1) with
 |ok x j =>
  simp only
  cases blk l F f (d + 1) j with
  |ok bs q =>
   simp only
   cases isW (tkAt l q) wElse
   ·rfl
   ·simp only [if_true];cases blk l F f (d + 1) (q + 1) <;> rfl
  |err p c=>rfl
  |out=>rfl
 |err p c=>rfl
 |out=>rfl
theorem stm_for (h1:isW (tkAt l i) wLet=false) (h2:isW (tkAt l i) wReturn=false) (h3:isW (tkAt l i) wIf=false) (h4:isW (tkAt l i) wFor=true):stm l F (f + 1) d i=bnd (ex l F 1 0 (i + 1)) fun x j=>bnd (blk l F f (d + 1) j) fun bs q=>.ok (.mk 5 (tkAt l i).pos ⟨#[]⟩ false x bs []) q:=by
 rw [stm,if_neg (by rw [h1];decide),if_neg (by rw [h2];decide),if_neg (by rw [h3];decide),if_pos h4]
 unfold bnd
 cases ex l F 1 0 (i + 1) with
 |ok x j=>simp only;cases blk l F f (d + 1) j <;> rfl
 |err p c=>rfl
 |out=>rfl
end
theorem valS_gen {B:Nat} {w:World} {R:EO SX} {sk sp:Int} {sn:ByteArray} {sh:Bool} {k p s:Int} {nm:ByteArray} {nn tk tp:Int} {tg tn:ByteArray} {tz:Option Addr} {ta:Nat} {oa:Option Addr} {na ca:Nat} {ob:Option Addr} {nb cb:Nat} {oc:Option Addr} {nc cc:Nat}
  (h:∀ y j,R=.ok y j→∃ x bs cs,y=.mk sk sp sn sh x bs cs∧IsEX B w x (.agg #[.int .i64 k,.int .i64 p,.int .i64 s,.string nm,.int .i64 nn,.int .i64 tk,.int .i64 tp,.string tg,.string tn,.slice tz ta ta,.slice oa na ca])∧nb=bs.length∧IsSXs B w ob bs∧nc=cs.length∧IsSXs B w oc cs) :
  ValS B w R (.agg #[.int .i64 sk,.int .i64 sp,.string sn,.bool sh,.int .i64 k,.int .i64 p,.int .i64 s,.string nm,.int .i64 nn,.int .i64 tk,.int .i64 tp,.string tg,.string tn,.slice tz ta ta,.slice oa na ca,.slice ob nb cb,.slice oc nc cc]):=by
 refine ⟨⟨_,_,_,_,_,_,_,_,_,_,_,_,_,_,_,_,_,_,_,_,_,_,_,_,rfl⟩,fun y j hy=>?_⟩
 obtain ⟨x,bs,cs,rfl,hx,rfl,hb,rfl,hc⟩:=h y j hy
 unfold IsSX IsSP
 exact ⟨_,_,_,_,_,_,_,_,_,_,_,_,_,_,_,rfl,hx,hb,hc⟩
theorem nilS (B:Nat) (w:World) (o:Option Addr):IsSXs B w o []:=by unfold IsSXs IsSPs;trivial
section
variable {α:Type} {b c:Nat} {o:Option Addr} {l:List TZ} {F f d:Nat}
theorem letS {D:Int} {x:α} {i:Int} {w:World} (HC:ExprC b o c l F) (S:St b o c l D (.ok x i) w) (hn:l.length≤1073741824) (hf:Fits l) (h1:isW (tkAt l i) wLet=true) (hr:stm l F (f + 1) d i≠.out) :
  Calls Tryz.prog 184 #[.pointer (some ⟨b,0,none⟩)] w (TelS b o c l D w (stm l F (f + 1) d i)):=by
 rw [stm_let h1] at hr ⊢
 have hbl:=S.lt
 have HT:=Lib.hid (takeS (S.alloc (.cells zeroS 62)) (by omega) (isW_real h1))
 have HA:=Lib.hid (fun (W:World) (h:St b o c l D (.ok x (i + 1)) W)=>assignedS h hn hf)
 have hr1:(bnd (asg l (i + 1)) fun _ j=>ex l F 1 0 j)≠.out:=by
  intro e
  cases hq:asg l (i + 1) with
  |ok nm j=>rw [hq] at e hr;have e':ex l F 1 0 j=.out:=e;refine hr ?_;show exThen l F 59 j _=_;rw [exThen_eq,e'];rfl
  |err p q=>rw [hq] at e;cases e
  |out=>rw [hq] at hr;exact hr rfl
 have HE:=Lib.hid (fun (W:World) (h:St b o c l D (asg l (i + 1)) W)=>endedS HC h hn hr1)
 have R0:=Lib.hid (Blk.new w 62 zeroS)
 have hfield:=run_field1'
 clear S HC hr hr1 hn hf h1
 go_enter Tryz.func184,Tryz.ntmps184
 go_wp2_with fail
 refine HT.out.mono ?_
 rintro e w1 ⟨rfl,hS,hK⟩
 have S1:=Lib.hid hS
 have K1:=Lib.hid (((Kp.refl b w).alloc (.cells zeroS 62)).trans hK)
 have R1:=Lib.hid (R0.out.kp hK (by omega))
 have hz1:w.heap.size < w1.heap.size:=R1.out.lt
 clear hS hK HT
 go_wp2_with fail
 refine (HA.out _ S1.out).mono ?_
 rintro e w2 ⟨s',rfl,hs,hS,hK⟩
 have S2:=Lib.hid hS
 have K2:=Lib.hid (K1.out.trans hK)
 have R2:=Lib.hid (R1.out.kp hK (by omega))
 have HS:=Lib.hid hs
 have hz2:w1.heap.size≤w2.heap.size:=hK.size
 clear hS hK hs HA
 go_wp2_with fail
 refine (HE.out _ S2.out).mono ?_
 rintro e w3 ⟨v,rfl,hv,hS,hK⟩
 obtain ⟨k,p,s,nm,nn,tk,tp,tg,tn,tz,ta,oa,na,ca,rfl⟩:=hv.1
 have S3:=Lib.hid hS
 have K3:=Lib.hid (K2.out.trans hK)
 have hR3:=R2.out.kp hK (by omega)
 have V3:=Lib.hid (hv.mono (B':=w.heap.size + 1) (by omega))
 have l3:=hR3.lt
 have R3:=Lib.hid hR3
 clear hv hS hK hR3 HE
 go_wp2_with (refine wpStoreS rfl _ _ rfl w.heap.size rfl rfl R3.out rfl ?_ ?_;rfl)
 refine bodyPost_ret (v:=.agg #[.int .i64 1,.int .i64 (tkAt l i).pos,.string s',.bool false,.int .i64 k,.int .i64 p,.int .i64 s,.string nm,.int .i64 nn,.int .i64 tk,.int .i64 tp,.string tg,.string tn,.slice tz ta ta,.slice oa na ca,.slice none 0 0,.slice none 0 0]) ?_ ?_ ?_
 ·exact resS Tryz.results184 _ _ w.heap.size rfl (R3.out.row _)
 ·rfl
 have HR:(bnd (asg l (i + 1)) fun nm j=>exThen l F 59 j fun x=>SX.mk 1 (tkAt l i).pos nm false x [] [])=bnd (must l 59 (bnd (asg l (i + 1)) fun _ j=>ex l F 1 0 j)) fun x j=>.ok (.mk 1 (tkAt l i).pos s' false x [] []) j:=by
  have h:=HS.out
  cases hq:asg l (i + 1) with
  |ok t j=>rw [hq] at h;obtain rfl:=h t j rfl;exact exThen_eq _ _ _ _ _
  |err p q=>rfl
  |out=>rfl
 rw [HR]
 refine ⟨_,rfl,valS_gen fun y j hy=>?_,(S3.out.under (setRow_under (by omega) _)).as _ rfl,setRow_kp0 K3.out _⟩
 generalize (must l 59 (bnd (asg l (i + 1)) fun _ j=>ex l F 1 0 j))=r2 at *
 cases r2 with
 |ok x' jj =>
  injection hy with hy1 hy2
  subst hy1
  exact ⟨x',[],[],rfl,IsEX.mono (by omega) ((V3.out.2 x' jj rfl).ab (setRow_ab (Ab.refl _ _) (by omega) _)),rfl,nilS _ _ _,rfl,nilS _ _ _⟩
 |err p q=>cases hy
 |out=>cases hy
theorem setS {D:Int} {x:α} {i:Int} {w:World} (HC:ExprC b o c l F) (S:St b o c l D (.ok x i) w) (hn:l.length≤1073741824) (hf:Fits l) (h1:isW (tkAt l i) wLet=false) (h2:isW (tkAt l i) wReturn=false) (h3:isW (tkAt l i) wIf=false) (h4:isW (tkAt l i) wFor=false) (h5:isSet l i=true) (hr:stm l F (f + 1) d i≠.out) :
  Calls Tryz.prog 188 #[.pointer (some ⟨b,0,none⟩)] w (TelS b o c l D w (stm l F (f + 1) d i)):=by
 rw [stm_set h1 h2 h3 h4 h5] at hr ⊢
 have hbl:=S.lt
 have H:=Lib.hid S
 have HT:=Lib.hid (peekS (S.alloc (.cells zeroS 62)) (by omega))
 change Hid (Calls _ _ _ _ fun e w'=>e=.returned (.agg #[.int .i64 (tkAt l i).kind,.int .i64 (tkAt l i).pos,.int .i64 (tkAt l i).stop,.string (tkAt l i).text])∧_) at HT
 have HA:=Lib.hid (fun (W:World) (h:St b o c l D (.ok x i) W)=>assignedS h hn hf)
 have hr1:(bnd (asg l i) fun _ j=>ex l F 1 0 j)≠.out:=by
  intro e
  cases hq:asg l i with
  |ok nm j=>rw [hq] at e hr;have e':ex l F 1 0 j=.out:=e;refine hr ?_;show exThen l F 59 j _=_;rw [exThen_eq,e'];rfl
  |err p q=>rw [hq] at e;cases e
  |out=>rw [hq] at hr;exact hr rfl
 have HE:=Lib.hid (fun (W:World) (h:St b o c l D (asg l i) W)=>endedS HC h hn hr1)
 have R0:=Lib.hid (Blk.new w 62 zeroS)
 have hfield:=run_field1'
 clear S HC hr hr1 hn hf h1 h2 h3 h4 h5
 go_enter Tryz.func188,Tryz.ntmps188
 go_wp2_with fail
 refine HT.out.mono ?_
 rintro e w1 ⟨rfl,hB⟩
 have S1:=Lib.hid ((H.out.alloc (.cells zeroS 62)).step hB)
 have K1:=Lib.hid (((Kp.refl b w).alloc (.cells zeroS 62)).then_below hB)
 have R1:=Lib.hid (R0.out.below hB)
 have hz1:w.heap.size < w1.heap.size:=R1.out.lt
 clear hB HT
 go_wp2_with fail
 refine (HA.out _ S1.out).mono ?_
 rintro e w2 ⟨s',rfl,hs,hS,hK⟩
 have S2:=Lib.hid hS
 have K2:=Lib.hid (K1.out.trans hK)
 have R2:=Lib.hid (R1.out.kp hK (by omega))
 have HS:=Lib.hid hs
 have hz2:w1.heap.size≤w2.heap.size:=hK.size
 clear hS hK hs HA
 go_wp2_with fail
 refine (HE.out _ S2.out).mono ?_
 rintro e w3 ⟨v,rfl,hv,hS,hK⟩
 obtain ⟨k,p,s,nm,nn,tk,tp,tg,tn,tz,ta,oa,na,ca,rfl⟩:=hv.1
 have S3:=Lib.hid hS
 have K3:=Lib.hid (K2.out.trans hK)
 have hR3:=R2.out.kp hK (by omega)
 have V3:=Lib.hid (hv.mono (B':=w.heap.size + 1) (by omega))
 have l3:=hR3.lt
 have R3:=Lib.hid hR3
 clear hv hS hK hR3 HE
 go_wp2_with (refine wpStoreS rfl _ _ rfl w.heap.size rfl rfl R3.out rfl ?_ ?_;rfl)
 refine bodyPost_ret (v:=.agg #[.int .i64 2,.int .i64 (tkAt l i).pos,.string s',.bool false,.int .i64 k,.int .i64 p,.int .i64 s,.string nm,.int .i64 nn,.int .i64 tk,.int .i64 tp,.string tg,.string tn,.slice tz ta ta,.slice oa na ca,.slice none 0 0,.slice none 0 0]) ?_ ?_ ?_
 ·exact resS Tryz.results188 _ _ w.heap.size rfl (R3.out.row _)
 ·rfl
 have HR:(bnd (asg l i) fun nm j=>exThen l F 59 j fun x=>SX.mk 2 (tkAt l i).pos nm false x [] [])=bnd (must l 59 (bnd (asg l i) fun _ j=>ex l F 1 0 j)) fun x j=>.ok (.mk 2 (tkAt l i).pos s' false x [] []) j:=by
  have h:=HS.out
  cases hq:asg l i with
  |ok t j=>rw [hq] at h;obtain rfl:=h t j rfl;exact exThen_eq _ _ _ _ _
  |err p q=>rfl
  |out=>rfl
 rw [HR]
 refine ⟨_,rfl,valS_gen fun y j hy=>?_,(S3.out.under (setRow_under (by omega) _)).as _ rfl,setRow_kp0 K3.out _⟩
 generalize (must l 59 (bnd (asg l i) fun _ j=>ex l F 1 0 j))=r2 at *
 cases r2 with
 |ok x' jj =>
  injection hy with hy1 hy2
  subst hy1
  exact ⟨x',[],[],rfl,IsEX.mono (by omega) ((V3.out.2 x' jj rfl).ab (setRow_ab (Ab.refl _ _) (by omega) _)),rfl,nilS _ _ _,rfl,nilS _ _ _⟩
 |err p q=>cases hy
 |out=>cases hy
end
end Go.Proofs.YtfcgoainglpdlaaGreatDoor
namespace Go.Proofs.YtfcgoainglpdlaaGreatDoor
open Go.RowKit
open Go.Lib hiding intOf
theorem noEX_is (B:Nat) (w:World):IsEX B w noEX (.agg #[.int .i64 0,.int .i64 0,.int .i64 0,.string ⟨#[]⟩,.int .i64 0,.int .i64 0,.int .i64 0,.string ⟨#[]⟩,.string ⟨#[]⟩,.slice none 0 0,.slice none 0 0]):=by
 unfold IsEX noEX IsEP
 exact ⟨0,0,⟨#[]⟩,⟨#[]⟩,none,0,none,0,rfl,⟨Nat.le_refl _,Nat.zero_le _⟩,rfl,by unfold IsEPs;trivial⟩
section
variable {α:Type} {b c:Nat} {o:Option Addr} {l:List TZ} {F f d:Nat}
theorem returnedS {D:Int} {x:α} {i:Int} {w:World} (HC:ExprC b o c l F) (S:St b o c l D (.ok x i) w) (hn:l.length≤1073741824) (h1:isW (tkAt l i) wLet=false) (h2:isW (tkAt l i) wReturn=true) (hr:stm l F (f + 1) d i≠.out) :
  Calls Tryz.prog 185 #[.pointer (some ⟨b,0,none⟩)] w (TelS b o c l D w (stm l F (f + 1) d i)):=by
 rw [stm_ret h1 h2] at hr ⊢
 have hbl:=S.lt
 have HT:=Lib.hid (takeS (S.alloc (.cells zeroS 62)) (by omega) (isW_real h2))
 have HSE:=Lib.hid (fun (W:World) (h:St b o c l D (.ok x (i + 1)) W)=>isKT_S' (tkAt l (i + 1)) 59 ▸ seesS h (by omega) ⟨#[59]⟩)
 have R0:=Lib.hid (Blk.new w 62 zeroS)
 have hfield:=run_field1'
 cases h59:isS (tkAt l (i + 1)) 59
 ·rw [h59] at HSE hr
  simp only [Bool.false_eq_true,if_false] at hr ⊢
  have hr1:(bnd (.ok x (i + 1):EO α) fun _ j=>ex l F 1 0 j)≠.out:=by
   intro e
   have e':ex l F 1 0 (i + 1)=.out:=e
   refine hr ?_
   rw [exThen_eq,e'];rfl
  have HE:=Lib.hid (fun (W:World) (h:St b o c l D (.ok x (i + 1)) W)=>endedS HC h hn hr1)
  have HRR:=Lib.hid (exThen_eq l F 59 (i + 1) fun x=>SX.mk 3 (tkAt l i).pos ⟨#[]⟩ true x [] [])
  clear S HC hr hr1 hn h1 h2 h59
  go_enter Tryz.func185,Tryz.ntmps185
  go_wp2_with fail
  refine HT.out.mono ?_
  rintro e w1 ⟨rfl,hS,hK⟩
  have X1:=Lib.hid (Blk.new w1 62 #[.int .i64 3,.int .i64 (tkAt l i).pos,.string ⟨#[]⟩,.bool false,.int .i64 0,.int .i64 0,.int .i64 0,.string ⟨#[]⟩,.int .i64 0,.int .i64 0,.int .i64 0,.string ⟨#[]⟩,.string ⟨#[]⟩,.slice none 0 0,.slice none 0 0,.slice none 0 0,.slice none 0 0])
  have S1:=Lib.hid (hS.alloc (.cells #[.int .i64 3,.int .i64 (tkAt l i).pos,.string ⟨#[]⟩,.bool false,.int .i64 0,.int .i64 0,.int .i64 0,.string ⟨#[]⟩,.int .i64 0,.int .i64 0,.int .i64 0,.string ⟨#[]⟩,.string ⟨#[]⟩,.slice none 0 0,.slice none 0 0,.slice none 0 0,.slice none 0 0] 62))
  have K1:=Lib.hid ((((Kp.refl b w).alloc (.cells zeroS 62)).trans hK).alloc (.cells #[.int .i64 3,.int .i64 (tkAt l i).pos,.string ⟨#[]⟩,.bool false,.int .i64 0,.int .i64 0,.int .i64 0,.string ⟨#[]⟩,.int .i64 0,.int .i64 0,.int .i64 0,.string ⟨#[]⟩,.string ⟨#[]⟩,.slice none 0 0,.slice none 0 0,.slice none 0 0,.slice none 0 0] 62))
  have hR1:=R0.out.kp hK (by omega)
  have hz1:w.heap.size < w1.heap.size:=hR1.lt
  have R1:=Lib.hid (hR1.alloc (.cells #[.int .i64 3,.int .i64 (tkAt l i).pos,.string ⟨#[]⟩,.bool false,.int .i64 0,.int .i64 0,.int .i64 0,.string ⟨#[]⟩,.int .i64 0,.int .i64 0,.int .i64 0,.string ⟨#[]⟩,.string ⟨#[]⟩,.slice none 0 0,.slice none 0 0,.slice none 0 0,.slice none 0 0] 62))
  clear hS hK hR1 HT
  go_wp2_with (refine wpStoreNew rfl _ _ rfl rfl rfl rfl ?_ ?_;rfl)
  refine (HSE.out _ S1.out).mono ?_
  rintro e w2 ⟨rfl,hB⟩
  have S2:=Lib.hid (S1.out.step hB)
  have K2:=Lib.hid (K1.out.then_below hB)
  have X2:=Lib.hid (X1.out.below hB)
  have R2:=Lib.hid (R1.out.below hB)
  have hz2:w1.heap.size < w2.heap.size:=X2.out.lt
  clear hB
  go_wp2_with fail
  refine (HE.out _ S2.out).mono ?_
  rintro e w3 ⟨v,rfl,hv,hS,hK⟩
  obtain ⟨k,p,s,nm,nn,tk,tp,tg,tn,tz,ta,oa,na,ca,rfl⟩:=hv.1
  have S3:=Lib.hid hS
  have K3:=Lib.hid (K2.out.trans hK)
  have hX3:=X2.out.kp hK (by omega)
  have R3:=Lib.hid (R2.out.kp hK (by omega))
  have V3:=Lib.hid (hv.mono (B':=w1.heap.size + 1) (by omega))
  have c3:=hX3.cell 3
  have f3:=hX3.frozen
  have l3:=hX3.lt
  have hne:w.heap.size≠w1.heap.size:=by omega
  have X4:Hid (Blk (w3.setCell ⟨w1.heap.size,3,none⟩ (.bool true)) w1.heap.size 62 #[.int .i64 3,.int .i64 (tkAt l i).pos,.string ⟨#[]⟩,.bool true,.int .i64 0,.int .i64 0,.int .i64 0,.string ⟨#[]⟩,.int .i64 0,.int .i64 0,.int .i64 0,.string ⟨#[]⟩,.string ⟨#[]⟩,.slice none 0 0,.slice none 0 0,.slice none 0 0,.slice none 0 0]):=hX3.set_ 3 (.bool true)
  have R4:Hid (Blk (w3.setCell ⟨w1.heap.size,3,none⟩ (.bool true)) w.heap.size 62 zeroS):=R3.out.far (p:=⟨w1.heap.size,3,none⟩) hne (.bool true)
  clear hv hS hK hX3 HE
  go_wp2_with (first | (refine wpStoreX rfl _ _ rfl w1.heap.size rfl rfl X4.out ?_ ?_;rfl) | (refine wpLoadS rfl _ rfl w1.heap.size rfl (X4.out.row _) ?_) | (refine wpStoreS rfl _ _ rfl w.heap.size rfl rfl (R4.out.rowFar hne _) rfl ?_ ?_;rfl))
  refine bodyPost_ret (v:=.agg #[.int .i64 3,.int .i64 (tkAt l i).pos,.string ⟨#[]⟩,.bool true,.int .i64 k,.int .i64 p,.int .i64 s,.string nm,.int .i64 nn,.int .i64 tk,.int .i64 tp,.string tg,.string tn,.slice tz ta ta,.slice oa na ca,.slice none 0 0,.slice none 0 0]) ?_ ?_ ?_
  ·exact resS Tryz.results185 _ _ w.heap.size rfl ((R4.out.rowFar hne _).row _)
  ·rfl
  rw [HRR.out]
  refine ⟨_,rfl,valS_gen fun y j hy=>?_,(((S3.out.set_ (a:=⟨w1.heap.size,3,none⟩) (by simp only;omega) _).under (setRow_under (by omega) _)).under (setRow_under (by omega) _)).as _ rfl,setRow_kp0 (setRow_kp (K3.out.setCell (p:=⟨w1.heap.size,3,none⟩) (.inl (by simp only;omega)) _) (.inl (by omega)) _) _⟩
  have V:=V3.out
  change ValE _ _ (must l 59 (ex l F 1 0 (i + 1))) _ at V
  generalize (must l 59 (ex l F 1 0 (i + 1)))=r2 at *
  cases r2 with
  |ok x' jj =>
   injection hy with hy1 hy2
   subst hy1
   exact ⟨x',[],[],rfl,IsEX.mono (by omega) ((V.2 x' jj rfl).ab (setRow_ab (setRow_ab ((Ab.refl _ _).setCell (p:=⟨w1.heap.size,3,none⟩) (by simp only;omega) _) (by omega) _) (by omega) _)),rfl,nilS _ _ _,rfl,nilS _ _ _⟩
  |err p q=>cases hy
  |out=>cases hy
 ·rw [h59] at HSE
  have HT2:=Lib.hid (fun (W:World) (h:St b o c l D (.ok x (i + 1)) W)=>takeS h (by omega) (isS_real h59))
  simp only [if_true] at hr ⊢
  have e2:i + 1 + 1=i + 2:=by omega
  have E2:=Lib.hid e2
  clear S HC hr hn h1 h2 h59 e2
  go_enter Tryz.func185,Tryz.ntmps185
  go_wp2_with fail
  refine HT.out.mono ?_
  rintro e w1 ⟨rfl,hS,hK⟩
  have X1:=Lib.hid (Blk.new w1 62 #[.int .i64 3,.int .i64 (tkAt l i).pos,.string ⟨#[]⟩,.bool false,.int .i64 0,.int .i64 0,.int .i64 0,.string ⟨#[]⟩,.int .i64 0,.int .i64 0,.int .i64 0,.string ⟨#[]⟩,.string ⟨#[]⟩,.slice none 0 0,.slice none 0 0,.slice none 0 0,.slice none 0 0])
  have S1:=Lib.hid (hS.alloc (.cells #[.int .i64 3,.int .i64 (tkAt l i).pos,.string ⟨#[]⟩,.bool false,.int .i64 0,.int .i64 0,.int .i64 0,.string ⟨#[]⟩,.int .i64 0,.int .i64 0,.int .i64 0,.string ⟨#[]⟩,.string ⟨#[]⟩,.slice none 0 0,.slice none 0 0,.slice none 0 0,.slice none 0 0] 62))
  have K1:=Lib.hid ((((Kp.refl b w).alloc (.cells zeroS 62)).trans hK).alloc (.cells #[.int .i64 3,.int .i64 (tkAt l i).pos,.string ⟨#[]⟩,.bool false,.int .i64 0,.int .i64 0,.int .i64 0,.string ⟨#[]⟩,.int .i64 0,.int .i64 0,.int .i64 0,.string ⟨#[]⟩,.string ⟨#[]⟩,.slice none 0 0,.slice none 0 0,.slice none 0 0,.slice none 0 0] 62))
  have hR1:=R0.out.kp hK (by omega)
  have hz1:w.heap.size < w1.heap.size:=hR1.lt
  have R1:=Lib.hid (hR1.alloc (.cells #[.int .i64 3,.int .i64 (tkAt l i).pos,.string ⟨#[]⟩,.bool false,.int .i64 0,.int .i64 0,.int .i64 0,.string ⟨#[]⟩,.int .i64 0,.int .i64 0,.int .i64 0,.string ⟨#[]⟩,.string ⟨#[]⟩,.slice none 0 0,.slice none 0 0,.slice none 0 0,.slice none 0 0] 62))
  clear hS hK hR1 HT
  go_wp2_with (refine wpStoreNew rfl _ _ rfl rfl rfl rfl ?_ ?_;rfl)
  refine (HSE.out _ S1.out).mono ?_
  rintro e w2 ⟨rfl,hB⟩
  have S2:=Lib.hid (S1.out.step hB)
  have K2:=Lib.hid (K1.out.then_below hB)
  have X2:=Lib.hid (X1.out.below hB)
  have R2:=Lib.hid (R1.out.below hB)
  clear hB
  go_wp2_with fail
  refine (HT2.out _ S2.out).mono ?_
  rintro e w3 ⟨rfl,hS,hK⟩
  have S3:=Lib.hid hS
  have K3:=Lib.hid (K2.out.trans hK)
  have X3:=Lib.hid (X2.out.kp hK (by omega))
  have R3:=Lib.hid (R2.out.kp hK (by omega))
  have l3:=R3.out.lt
  clear hS hK
  go_wp2_with (first | (refine wpLoadS rfl _ rfl w1.heap.size rfl X3.out ?_) | (refine wpStoreS rfl _ _ rfl w.heap.size rfl rfl R3.out rfl ?_ ?_;rfl))
  refine bodyPost_ret (v:=.agg #[.int .i64 3,.int .i64 (tkAt l i).pos,.string ⟨#[]⟩,.bool false,.int .i64 0,.int .i64 0,.int .i64 0,.string ⟨#[]⟩,.int .i64 0,.int .i64 0,.int .i64 0,.string ⟨#[]⟩,.string ⟨#[]⟩,.slice none 0 0,.slice none 0 0,.slice none 0 0,.slice none 0 0]) ?_ ?_ ?_
  ·exact resS Tryz.results185 _ _ w.heap.size rfl (R3.out.row _)
  ·rfl
  rw [← E2.out]
  refine ⟨_,rfl,valS_gen fun y j hy=>?_,St.as (S3.out.under (setRow_under (by omega) _)) (fun _=>SX.mk 3 (tkAt l i).pos ⟨#[]⟩ false noEX [] []) rfl,setRow_kp0 K3.out _⟩
  injection hy with hy1 hy2
  subst hy1
  exact ⟨noEX,[],[],rfl,noEX_is _ _,rfl,nilS _ _ _,rfl,nilS _ _ _⟩
end
end Go.Proofs.YtfcgoainglpdlaaGreatDoor
namespace Go.Proofs.YtfcgoainglpdlaaGreatDoor
open Go.RowKit
open Go.Lib hiding intOf
section
variable {α:Type} {b c:Nat} {o:Option Addr} {l:List TZ} {F f d:Nat}
theorem loopS {x:α} {i:Int} {w:World} (HC:ExprC b o c l F) (HBC:BlkC b o c l F f (d + 1)) (S:St b o c l ((d + 1:Nat):Int) (.ok x i) w) (hn:l.length≤1073741824) (h1:isW (tkAt l i) wLet=false) (h2:isW (tkAt l i) wReturn=false) (h3:isW (tkAt l i) wIf=false) (h4:isW (tkAt l i) wFor=true) (hr:stm l F (f + 1) d i≠.out) :
  Calls Tryz.prog 187 #[.pointer (some ⟨b,0,none⟩)] w (TelS b o c l ((d + 1:Nat):Int) w (stm l F (f + 1) d i)):=by
  rw [stm_for h1 h2 h3 h4] at hr ⊢
  have hbl:=S.lt
  have HT:=Lib.hid (takeS (S.alloc (.cells zeroS 62)) (by omega) (isW_real h4))
  have R0:=Lib.hid (Blk.new w 62 zeroS)
  have hfield:=run_field1'
  have hr1:(bnd (.ok x (i + 1):EO α) fun _ j=>ex l F 1 0 j)≠.out:=by
   intro e
   have e':ex l F 1 0 (i + 1)=.out:=e
   rw [e'] at hr;exact hr rfl
  have hr2:(bnd (ex l F 1 0 (i + 1)) fun _ j=>blk l F f (d + 1) j)≠.out:=by
   intro e
   cases hq:ex l F 1 0 (i + 1) with
   |ok y j=>rw [hq] at e hr;have e':blk l F f (d + 1) j=.out:=e;refine hr ?_;show bnd (blk l F f (d + 1) j) _=_;rw [e'];rfl
   |err p q=>rw [hq] at e;cases e
   |out=>rw [hq] at hr;exact hr rfl
  have HE:=Lib.hid (fun (W:World) (h:St b o c l ((d + 1:Nat):Int) (.ok x (i + 1)) W)=>HC α _ _ W h hr1)
  change Hid (∀ W:World,St b o c l ((d + 1:Nat):Int) (.ok x (i + 1)) W→Calls _ _ _ W (TelE b o c l ((d + 1:Nat):Int) W (ex l F 1 0 (i + 1)))) at HE
  have HB:=Lib.hid (fun (W:World) (h:St b o c l ((d + 1:Nat):Int) (ex l F 1 0 (i + 1)) W)=>HBC _ _ W h hr2)
  clear S HC HBC hr hr1 hr2 hn h1 h2 h3 h4
  generalize ex l F 1 0 (i + 1)=r1 at *
  go_enter Tryz.func187,Tryz.ntmps187
  go_wp2_with fail
  refine HT.out.mono ?_
  rintro e w1 ⟨rfl,hS,hK⟩
  have X1:=Lib.hid (Blk.new w1 62 #[.int .i64 5,.int .i64 (tkAt l i).pos,.string ⟨#[]⟩,.bool false,.int .i64 0,.int .i64 0,.int .i64 0,.string ⟨#[]⟩,.int .i64 0,.int .i64 0,.int .i64 0,.string ⟨#[]⟩,.string ⟨#[]⟩,.slice none 0 0,.slice none 0 0,.slice none 0 0,.slice none 0 0])
  have S1:=Lib.hid (hS.alloc (.cells #[.int .i64 5,.int .i64 (tkAt l i).pos,.string ⟨#[]⟩,.bool false,.int .i64 0,.int .i64 0,.int .i64 0,.string ⟨#[]⟩,.int .i64 0,.int .i64 0,.int .i64 0,.string ⟨#[]⟩,.string ⟨#[]⟩,.slice none 0 0,.slice none 0 0,.slice none 0 0,.slice none 0 0] 62))
  have K1:=Lib.hid ((((Kp.refl b w).alloc (.cells zeroS 62)).trans hK).alloc (.cells #[.int .i64 5,.int .i64 (tkAt l i).pos,.string ⟨#[]⟩,.bool false,.int .i64 0,.int .i64 0,.int .i64 0,.string ⟨#[]⟩,.int .i64 0,.int .i64 0,.int .i64 0,.string ⟨#[]⟩,.string ⟨#[]⟩,.slice none 0 0,.slice none 0 0,.slice none 0 0,.slice none 0 0] 62))
  have hR1:=R0.out.kp hK (by omega)
  have hz1:w.heap.size < w1.heap.size:=hR1.lt
  have R1:=Lib.hid (hR1.alloc (.cells #[.int .i64 5,.int .i64 (tkAt l i).pos,.string ⟨#[]⟩,.bool false,.int .i64 0,.int .i64 0,.int .i64 0,.string ⟨#[]⟩,.int .i64 0,.int .i64 0,.int .i64 0,.string ⟨#[]⟩,.string ⟨#[]⟩,.slice none 0 0,.slice none 0 0,.slice none 0 0,.slice none 0 0] 62))
  clear hS hK hR1 HT
  go_wp2_with (refine wpStoreNew rfl _ _ rfl rfl rfl rfl ?_ ?_;rfl)
  refine (HE.out _ S1.out).mono ?_
  rintro e w2 ⟨v,rfl,hv,hS,hK⟩
  obtain ⟨k,p,s,nm,nn,tk,tp,tg,tn,tz,ta,oa,na,ca,rfl⟩:=hv.1
  have hX2:=X1.out.kp hK (by omega)
  have hR2:=R1.out.kp hK (by omega)
  have hne:w.heap.size≠w1.heap.size:=by omega
  have l2:=hX2.lt
  have X2:=Lib.hid hX2
  have S3:=Lib.hid (hS.under (setRow_under (g:=w1.heap.size) (by omega) #[.int .i64 5,.int .i64 (tkAt l i).pos,.string ⟨#[]⟩,.bool false,.int .i64 k,.int .i64 p,.int .i64 s,.string nm,.int .i64 nn,.int .i64 tk,.int .i64 tp,.string tg,.string tn,.slice tz ta ta,.slice oa na ca,.slice none 0 0,.slice none 0 0]))
  have K3:=Lib.hid (setRow_kp (K1.out.trans hK) (g:=w1.heap.size) (.inl (by omega)) #[.int .i64 5,.int .i64 (tkAt l i).pos,.string ⟨#[]⟩,.bool false,.int .i64 k,.int .i64 p,.int .i64 s,.string nm,.int .i64 nn,.int .i64 tk,.int .i64 tp,.string tg,.string tn,.slice tz ta ta,.slice oa na ca,.slice none 0 0,.slice none 0 0])
  have X3:=Lib.hid (hX2.row #[.int .i64 5,.int .i64 (tkAt l i).pos,.string ⟨#[]⟩,.bool false,.int .i64 k,.int .i64 p,.int .i64 s,.string nm,.int .i64 nn,.int .i64 tk,.int .i64 tp,.string tg,.string tn,.slice tz ta ta,.slice oa na ca,.slice none 0 0,.slice none 0 0])
  have R3:=Lib.hid (hR2.rowFar hne #[.int .i64 5,.int .i64 (tkAt l i).pos,.string ⟨#[]⟩,.bool false,.int .i64 k,.int .i64 p,.int .i64 s,.string nm,.int .i64 nn,.int .i64 tk,.int .i64 tp,.string tg,.string tn,.slice tz ta ta,.slice oa na ca,.slice none 0 0,.slice none 0 0])
  have V3:=Lib.hid ((hv.mono (B':=w1.heap.size + 1) (by simp)).ab (setRow_ab (Ab.refl _ _) (g:=w1.heap.size) (by omega) #[.int .i64 5,.int .i64 (tkAt l i).pos,.string ⟨#[]⟩,.bool false,.int .i64 k,.int .i64 p,.int .i64 s,.string nm,.int .i64 nn,.int .i64 tk,.int .i64 tp,.string tg,.string tn,.slice tz ta ta,.slice oa na ca,.slice none 0 0,.slice none 0 0]))
  have hz3:w1.heap.size < (w2.setRow w1.heap.size #[.int .i64 5,.int .i64 (tkAt l i).pos,.string ⟨#[]⟩,.bool false,.int .i64 k,.int .i64 p,.int .i64 s,.string nm,.int .i64 nn,.int .i64 tk,.int .i64 tp,.string tg,.string tn,.slice tz ta ta,.slice oa na ca,.slice none 0 0,.slice none 0 0]).heap.size:=X3.out.lt
  clear hv hS hK hX2 hR2 HE
  go_wp2_with (refine wpStoreX rfl _ _ rfl w1.heap.size rfl rfl X2.out ?_ ?_;rfl)
  generalize w2.setRow w1.heap.size #[.int .i64 5,.int .i64 (tkAt l i).pos,.string ⟨#[]⟩,.bool false,.int .i64 k,.int .i64 p,.int .i64 s,.string nm,.int .i64 nn,.int .i64 tk,.int .i64 tp,.string tg,.string tn,.slice tz ta ta,.slice oa na ca,.slice none 0 0,.slice none 0 0]=w3 at *
  refine (HB.out _ S3.out).mono ?_
  rintro e w4 ⟨v,rfl,hv,hS,hK⟩
  obtain ⟨ob,nb,cb,rfl⟩:=hv.1
  have hX4:=X3.out.kp hK (by omega)
  have hR4:=R3.out.kp hK (by omega)
  have V4:=Lib.hid (V3.out.ab ((Ab.refl _ _).kp hK (by omega)))
  have c4:=hX4.cell 15
  have f4:=hX4.frozen
  have l4:=hX4.lt
  have X5:Hid (Blk (w4.setCell ⟨w1.heap.size,15,none⟩ (.slice ob nb cb)) w1.heap.size 62 #[.int .i64 5,.int .i64 (tkAt l i).pos,.string ⟨#[]⟩,.bool false,.int .i64 k,.int .i64 p,.int .i64 s,.string nm,.int .i64 nn,.int .i64 tk,.int .i64 tp,.string tg,.string tn,.slice tz ta ta,.slice oa na ca,.slice ob nb cb,.slice none 0 0]):=hX4.set_ 15 (.slice ob nb cb)
  have R5:Hid (Blk (w4.setCell ⟨w1.heap.size,15,none⟩ (.slice ob nb cb)) w.heap.size 62 zeroS):=hR4.far (p:=⟨w1.heap.size,15,none⟩) hne (.slice ob nb cb)
  have S4:=Lib.hid hS
  have K4:=Lib.hid (K3.out.trans hK)
  have L4:=Lib.hid (hv.mono (B':=w1.heap.size + 1) (by omega))
  clear hv hS hK hX4 hR4 HB
  go_wp2_with (first | (refine wpLoadS rfl _ rfl w1.heap.size rfl X5.out ?_) | (refine wpStoreS rfl _ _ rfl w.heap.size rfl rfl R5.out rfl ?_ ?_;rfl))
  refine bodyPost_ret (v:=.agg #[.int .i64 5,.int .i64 (tkAt l i).pos,.string ⟨#[]⟩,.bool false,.int .i64 k,.int .i64 p,.int .i64 s,.string nm,.int .i64 nn,.int .i64 tk,.int .i64 tp,.string tg,.string tn,.slice tz ta ta,.slice oa na ca,.slice ob nb cb,.slice none 0 0]) ?_ ?_ ?_
  ·exact resS Tryz.results187 _ _ w.heap.size rfl (R5.out.row _)
  ·rfl
  have ha:Ab (w1.heap.size + 1) w4 ((w4.setCell ⟨w1.heap.size,15,none⟩ (.slice ob nb cb)).setRow w.heap.size #[.int .i64 5,.int .i64 (tkAt l i).pos,.string ⟨#[]⟩,.bool false,.int .i64 k,.int .i64 p,.int .i64 s,.string nm,.int .i64 nn,.int .i64 tk,.int .i64 tp,.string tg,.string tn,.slice tz ta ta,.slice oa na ca,.slice ob nb cb,.slice none 0 0]):=setRow_ab ((Ab.refl _ _).setCell (p:=⟨w1.heap.size,15,none⟩) (by simp only;omega) _) (by omega) _
  have V5:=Lib.hid (V4.out.ab ha)
  have L5:=Lib.hid (L4.out.ab ha)
  have hS5:=Lib.hid ((S4.out.set_ (a:=⟨w1.heap.size,15,none⟩) (by simp only;omega) (.slice ob nb cb)).under (setRow_under (g:=w.heap.size) (by omega) #[.int .i64 5,.int .i64 (tkAt l i).pos,.string ⟨#[]⟩,.bool false,.int .i64 k,.int .i64 p,.int .i64 s,.string nm,.int .i64 nn,.int .i64 tk,.int .i64 tp,.string tg,.string tn,.slice tz ta ta,.slice oa na ca,.slice ob nb cb,.slice none 0 0]))
  refine ⟨_,rfl,valS_gen fun y j hy=>?_,?_,setRow_kp0 (K4.out.setCell (p:=⟨w1.heap.size,15,none⟩) (.inl (by simp only;omega)) _) _⟩
  ·cases r1 with
   |ok x' j' =>
    have hL:=L5.out.2
    change ∀ xs j,blk l F f (d + 1) j'=.ok xs j→_ at hL
    change (bnd (blk l F f (d + 1) j') fun bs q=>_)=_ at hy
    cases hq:blk l F f (d + 1) j' with
    |ok bs q =>
     rw [hq] at hy
     obtain ⟨o2,c2,e2,hbs⟩:=hL bs q hq
     injection e2 with e3 e4 e5
     subst e3 e4 e5
     injection hy with hy1 hy2
     subst hy1
     exact ⟨x',bs,[],rfl,IsEX.mono (by omega) (V5.out.2 x' j' rfl),rfl,IsSXs.mono (by omega) hbs,rfl,nilS _ _ _⟩
    |err p q=>rw [hq] at hy;cases hy
    |out=>rw [hq] at hy;cases hy
   |err p q=>cases hy
   |out=>cases hy
  ·cases r1 with
   |ok x' j'=>exact hS5.out.as (fun bs=>SX.mk 5 (tkAt l i).pos ⟨#[]⟩ false x' bs []) rfl
   |err p q=>exact hS5.out.as (fun _=>SX.mk 5 (tkAt l i).pos ⟨#[]⟩ false noEX [] []) rfl
   |out=>exact hS5.out.elim
end
end Go.Proofs.YtfcgoainglpdlaaGreatDoor
namespace Go.Proofs.YtfcgoainglpdlaaGreatDoor
open Go.RowKit
open Go.Lib hiding intOf
def iff2 (l:List TZ) (F f d:Nat) (p:Int) (r1:EO EX):EO SX:=bnd r1 fun x j=>bnd (blk l F f (d + 1) j) fun bs q =>
  if isW (tkAt l q) wElse then bnd (blk l F f (d + 1) (q + 1)) fun cs r=>.ok (.mk 4 p ⟨#[]⟩ true x bs cs) r else .ok (.mk 4 p ⟨#[]⟩ false x bs []) q
section
variable {α:Type} {b c:Nat} {o:Option Addr} {l:List TZ} {F f d:Nat}
theorem branchS {x:α} {i:Int} {w:World} (HC:ExprC b o c l F) (HBC:BlkC b o c l F f (d + 1)) (S:St b o c l ((d + 1:Nat):Int) (.ok x i) w) (hn:l.length≤1073741824) (h1:isW (tkAt l i) wLet=false) (h2:isW (tkAt l i) wReturn=false) (h3:isW (tkAt l i) wIf=true) (hr:stm l F (f + 1) d i≠.out) :
  Calls Tryz.prog 186 #[.pointer (some ⟨b,0,none⟩)] w (TelS b o c l ((d + 1:Nat):Int) w (stm l F (f + 1) d i)):=by
  have hR:stm l F (f + 1) d i=iff2 l F f d (tkAt l i).pos (ex l F 1 0 (i + 1)):=stm_if h1 h2 h3
  rw [hR] at hr ⊢
  have hbl:=S.lt
  have HT:=Lib.hid (takeS (S.alloc (.cells zeroS 62)) (by omega) (isW_real h3))
  have R0:=Lib.hid (Blk.new w 62 zeroS)
  have hfield:=run_field1'
  have hr1:(bnd (.ok x (i + 1):EO α) fun _ j=>ex l F 1 0 j)≠.out:=by
   intro e
   have e':ex l F 1 0 (i + 1)=.out:=e
   rw [e'] at hr;exact hr rfl
  have hr2:(bnd (ex l F 1 0 (i + 1)) fun _ j=>blk l F f (d + 1) j)≠.out:=by
   intro e
   cases hq:ex l F 1 0 (i + 1) with
   |ok y j=>rw [hq] at e hr;have e':blk l F f (d + 1) j=.out:=e;refine hr ?_;show bnd (blk l F f (d + 1) j) _=_;rw [e'];rfl
   |err p q=>rw [hq] at e;cases e
   |out=>rw [hq] at hr;exact hr rfl
  have HE:=Lib.hid (fun (W:World) (h:St b o c l ((d + 1:Nat):Int) (.ok x (i + 1)) W)=>HC α _ _ W h hr1)
  change Hid (∀ W:World,St b o c l ((d + 1:Nat):Int) (.ok x (i + 1)) W→Calls _ _ _ W (TelE b o c l ((d + 1:Nat):Int) W (ex l F 1 0 (i + 1)))) at HE
  have HB:=Lib.hid (fun (W:World) (h:St b o c l ((d + 1:Nat):Int) (ex l F 1 0 (i + 1)) W)=>HBC _ _ W h hr2)
  have HBX:=Lib.hid HBC
  have HN:=Lib.hid hn
  clear S HC HBC hr1 hr2 hn h1 h2 h3 hR
  generalize ex l F 1 0 (i + 1)=r1 at *
  have HRO:=Lib.hid hr
  clear hr
  go_enter Tryz.func186,Tryz.ntmps186
  go_wp2_with fail
  refine HT.out.mono ?_
  rintro e w1 ⟨rfl,hS,hK⟩
  have X1:=Lib.hid (Blk.new w1 62 #[.int .i64 4,.int .i64 (tkAt l i).pos,.string ⟨#[]⟩,.bool false,.int .i64 0,.int .i64 0,.int .i64 0,.string ⟨#[]⟩,.int .i64 0,.int .i64 0,.int .i64 0,.string ⟨#[]⟩,.string ⟨#[]⟩,.slice none 0 0,.slice none 0 0,.slice none 0 0,.slice none 0 0])
  have S1:=Lib.hid (hS.alloc (.cells #[.int .i64 4,.int .i64 (tkAt l i).pos,.string ⟨#[]⟩,.bool false,.int .i64 0,.int .i64 0,.int .i64 0,.string ⟨#[]⟩,.int .i64 0,.int .i64 0,.int .i64 0,.string ⟨#[]⟩,.string ⟨#[]⟩,.slice none 0 0,.slice none 0 0,.slice none 0 0,.slice none 0 0] 62))
  have K1:=Lib.hid ((((Kp.refl b w).alloc (.cells zeroS 62)).trans hK).alloc (.cells #[.int .i64 4,.int .i64 (tkAt l i).pos,.string ⟨#[]⟩,.bool false,.int .i64 0,.int .i64 0,.int .i64 0,.string ⟨#[]⟩,.int .i64 0,.int .i64 0,.int .i64 0,.string ⟨#[]⟩,.string ⟨#[]⟩,.slice none 0 0,.slice none 0 0,.slice none 0 0,.slice none 0 0] 62))
  have hR1:=R0.out.kp hK (by omega)
  have hz1:w.heap.size < w1.heap.size:=hR1.lt
  have R1:=Lib.hid (hR1.alloc (.cells #[.int .i64 4,.int .i64 (tkAt l i).pos,.string ⟨#[]⟩,.bool false,.int .i64 0,.int .i64 0,.int .i64 0,.string ⟨#[]⟩,.int .i64 0,.int .i64 0,.int .i64 0,.string ⟨#[]⟩,.string ⟨#[]⟩,.slice none 0 0,.slice none 0 0,.slice none 0 0,.slice none 0 0] 62))
  clear hS hK hR1 HT
  go_wp2_with (refine wpStoreNew rfl _ _ rfl rfl rfl rfl ?_ ?_;rfl)
  refine (HE.out _ S1.out).mono ?_
  rintro e w2 ⟨v,rfl,hv,hS,hK⟩
  obtain ⟨k,p,s,nm,nn,tk,tp,tg,tn,tz,ta,oa,na,ca,rfl⟩:=hv.1
  have hX2:=X1.out.kp hK (by omega)
  have hR2:=R1.out.kp hK (by omega)
  have hne:w.heap.size≠w1.heap.size:=by omega
  have l2:=hX2.lt
  have X2:=Lib.hid hX2
  have S3:=Lib.hid (hS.under (setRow_under (g:=w1.heap.size) (by omega) #[.int .i64 4,.int .i64 (tkAt l i).pos,.string ⟨#[]⟩,.bool false,.int .i64 k,.int .i64 p,.int .i64 s,.string nm,.int .i64 nn,.int .i64 tk,.int .i64 tp,.string tg,.string tn,.slice tz ta ta,.slice oa na ca,.slice none 0 0,.slice none 0 0]))
  have K3:=Lib.hid (setRow_kp (K1.out.trans hK) (g:=w1.heap.size) (.inl (by omega)) #[.int .i64 4,.int .i64 (tkAt l i).pos,.string ⟨#[]⟩,.bool false,.int .i64 k,.int .i64 p,.int .i64 s,.string nm,.int .i64 nn,.int .i64 tk,.int .i64 tp,.string tg,.string tn,.slice tz ta ta,.slice oa na ca,.slice none 0 0,.slice none 0 0])
  have X3:=Lib.hid (hX2.row #[.int .i64 4,.int .i64 (tkAt l i).pos,.string ⟨#[]⟩,.bool false,.int .i64 k,.int .i64 p,.int .i64 s,.string nm,.int .i64 nn,.int .i64 tk,.int .i64 tp,.string tg,.string tn,.slice tz ta ta,.slice oa na ca,.slice none 0 0,.slice none 0 0])
  have R3:=Lib.hid (hR2.rowFar hne #[.int .i64 4,.int .i64 (tkAt l i).pos,.string ⟨#[]⟩,.bool false,.int .i64 k,.int .i64 p,.int .i64 s,.string nm,.int .i64 nn,.int .i64 tk,.int .i64 tp,.string tg,.string tn,.slice tz ta ta,.slice oa na ca,.slice none 0 0,.slice none 0 0])
  have V3:=Lib.hid ((hv.mono (B':=w1.heap.size + 1) (by simp)).ab (setRow_ab (Ab.refl _ _) (g:=w1.heap.size) (by omega) #[.int .i64 4,.int .i64 (tkAt l i).pos,.string ⟨#[]⟩,.bool false,.int .i64 k,.int .i64 p,.int .i64 s,.string nm,.int .i64 nn,.int .i64 tk,.int .i64 tp,.string tg,.string tn,.slice tz ta ta,.slice oa na ca,.slice none 0 0,.slice none 0 0]))
  have hz3:w1.heap.size < (w2.setRow w1.heap.size #[.int .i64 4,.int .i64 (tkAt l i).pos,.string ⟨#[]⟩,.bool false,.int .i64 k,.int .i64 p,.int .i64 s,.string nm,.int .i64 nn,.int .i64 tk,.int .i64 tp,.string tg,.string tn,.slice tz ta ta,.slice oa na ca,.slice none 0 0,.slice none 0 0]).heap.size:=X3.out.lt
  clear hv hS hK hX2 hR2 HE
  go_wp2_with (refine wpStoreX rfl _ _ rfl w1.heap.size rfl rfl X2.out ?_ ?_;rfl)
  generalize w2.setRow w1.heap.size #[.int .i64 4,.int .i64 (tkAt l i).pos,.string ⟨#[]⟩,.bool false,.int .i64 k,.int .i64 p,.int .i64 s,.string nm,.int .i64 nn,.int .i64 tk,.int .i64 tp,.string tg,.string tn,.slice tz ta ta,.slice oa na ca,.slice none 0 0,.slice none 0 0]=w3 at *
  refine (HB.out _ S3.out).mono ?_
  rintro e w4 ⟨v,rfl,hv,hS,hK⟩
  obtain ⟨ob,nb,cb,rfl⟩:=hv.1
  have hX4:=X3.out.kp hK (by omega)
  have hR4:=R3.out.kp hK (by omega)
  have V4:=Lib.hid (V3.out.ab ((Ab.refl _ _).kp hK (by omega)))
  have c4:=hX4.cell 15
  have f4:=hX4.frozen
  have l4:=hX4.lt
  have X5:Hid (Blk (w4.setCell ⟨w1.heap.size,15,none⟩ (.slice ob nb cb)) w1.heap.size 62 #[.int .i64 4,.int .i64 (tkAt l i).pos,.string ⟨#[]⟩,.bool false,.int .i64 k,.int .i64 p,.int .i64 s,.string nm,.int .i64 nn,.int .i64 tk,.int .i64 tp,.string tg,.string tn,.slice tz ta ta,.slice oa na ca,.slice ob nb cb,.slice none 0 0]):=hX4.set_ 15 (.slice ob nb cb)
  have R5:Hid (Blk (w4.setCell ⟨w1.heap.size,15,none⟩ (.slice ob nb cb)) w.heap.size 62 zeroS):=hR4.far (p:=⟨w1.heap.size,15,none⟩) hne (.slice ob nb cb)
  have S5:=Lib.hid (hS.set_ (a:=⟨w1.heap.size,15,none⟩) (by simp only;omega) (.slice ob nb cb))
  have K5:=Lib.hid ((K3.out.trans hK).setCell (p:=⟨w1.heap.size,15,none⟩) (.inl (by simp only;omega)) (.slice ob nb cb))
  have ha:Ab (w1.heap.size + 1) w4 (w4.setCell ⟨w1.heap.size,15,none⟩ (.slice ob nb cb)):=(Ab.refl _ _).setCell (p:=⟨w1.heap.size,15,none⟩) (by simp only;omega) _
  have V5:=Lib.hid (V4.out.ab ha)
  have L5:=Lib.hid ((hv.mono (B':=w1.heap.size + 1) (by omega)).ab ha)
  clear hv hS hK hX4 hR4 HB ha V4 X3 R3 S3 K3 V3 X2 X1 R1 S1 K1 R0
  go_wp2_with fail
  generalize w4.setCell ⟨w1.heap.size,15,none⟩ (.slice ob nb cb)=w5 at *
  clear c4 f4 l4
  refine (peekS S5.out (by have:=HN.out;omega)).mono ?_
  rintro e w6 ⟨rfl,hB⟩
  have X6:=Lib.hid (X5.out.below hB)
  have R6:=Lib.hid (R5.out.below hB)
  have S6:=Lib.hid (S5.out.step hB)
  have K6:=Lib.hid (K5.out.then_below hB)
  have V6:=Lib.hid (V5.out.ab ((Ab.refl _ _).below hB))
  have L6:=Lib.hid (L5.out.ab ((Ab.refl _ _).below hB))
  have HW:=Lib.hid (fun (W:World)=>isKT_W' (tkR l (bnd r1 fun _ j=>blk l F f (d + 1) j)) wElse ▸ wordS_v (tkR l (bnd r1 fun _ j=>blk l F f (d + 1) j)) ⟨#[101,108,115,101]⟩ W)
  clear hB X5 R5 S5 K5 V5 L5
  cases hb:isW (tkR l (bnd r1 fun _ j=>blk l F f (d + 1) j)) wElse
  ·rw [hb] at HW
   have HBF:=Lib.hid hb
   clear hb
   go_wp2_with fail
   refine (HW.out _).mono ?_
   rintro e w7 ⟨rfl,hB⟩
   have X7:=Lib.hid (X6.out.below hB)
   have R7:=Lib.hid (R6.out.below hB)
   have S7:=Lib.hid (S6.out.step hB)
   have K7:=Lib.hid (K6.out.then_below hB)
   have V7:=Lib.hid (V6.out.ab ((Ab.refl _ _).below hB))
   have L7:=Lib.hid (L6.out.ab ((Ab.refl _ _).below hB))
   clear hB X6 R6 S6 K6 V6 L6 HW
   go_wp2_with (first | (refine wpLoadS rfl _ rfl w1.heap.size rfl X7.out ?_) | (refine wpStoreS rfl _ _ rfl w.heap.size rfl rfl R7.out rfl ?_ ?_;rfl))
   refine bodyPost_ret (v:=.agg #[.int .i64 4,.int .i64 (tkAt l i).pos,.string ⟨#[]⟩,.bool false,.int .i64 k,.int .i64 p,.int .i64 s,.string nm,.int .i64 nn,.int .i64 tk,.int .i64 tp,.string tg,.string tn,.slice tz ta ta,.slice oa na ca,.slice ob nb cb,.slice none 0 0]) ?_ ?_ ?_
   ·exact resS Tryz.results186 _ _ w.heap.size rfl (R7.out.row _)
   ·rfl
   have ha:Ab (w1.heap.size + 1) w7 (w7.setRow w.heap.size #[.int .i64 4,.int .i64 (tkAt l i).pos,.string ⟨#[]⟩,.bool false,.int .i64 k,.int .i64 p,.int .i64 s,.string nm,.int .i64 nn,.int .i64 tk,.int .i64 tp,.string tg,.string tn,.slice tz ta ta,.slice oa na ca,.slice ob nb cb,.slice none 0 0]):=setRow_ab (Ab.refl _ _) (by omega) _
   have V8:=Lib.hid (V7.out.ab ha)
   have L8:=Lib.hid (L7.out.ab ha)
   have hS8:=Lib.hid (S7.out.under (setRow_under (g:=w.heap.size) (by omega) #[.int .i64 4,.int .i64 (tkAt l i).pos,.string ⟨#[]⟩,.bool false,.int .i64 k,.int .i64 p,.int .i64 s,.string nm,.int .i64 nn,.int .i64 tk,.int .i64 tp,.string tg,.string tn,.slice tz ta ta,.slice oa na ca,.slice ob nb cb,.slice none 0 0]))
   refine ⟨_,rfl,valS_gen fun y j hy=>?_,?_,setRow_kp0 K7.out _⟩
   ·cases r1 with
    |ok x' j' =>
     have hL:=L8.out.2
     change ∀ xs j,blk l F f (d + 1) j'=.ok xs j→_ at hL
     have hB0:=HBF.out
     change isW (tkR l (blk l F f (d + 1) j')) wElse=false at hB0
     change (bnd (blk l F f (d + 1) j') fun bs q=>_)=_ at hy
     cases hq:blk l F f (d + 1) j' with
     |ok bs q =>
      rw [hq] at hy hB0
      have hB1:isW (tkAt l q) wElse=false:=hB0
      change (if isW (tkAt l q) wElse=true then _ else _)=_ at hy
      rw [hB1,if_neg (by decide)] at hy
      obtain ⟨o2,c2,e2,hbs⟩:=hL bs q hq
      injection e2 with e3 e4 e5
      subst e3 e4 e5
      injection hy with hy1 hy2
      subst hy1
      exact ⟨x',bs,[],rfl,IsEX.mono (by omega) (V8.out.2 x' j' rfl),rfl,IsSXs.mono (by omega) hbs,rfl,nilS _ _ _⟩
     |err p q=>rw [hq] at hy;cases hy
     |out=>rw [hq] at hy;cases hy
    |err p q=>cases hy
    |out=>cases hy
   ·cases r1 with
    |ok x' j' =>
     refine hS8.out.as (fun bs=>SX.mk 4 (tkAt l i).pos ⟨#[]⟩ false x' bs []) ?_
     have hB0:=HBF.out
     change isW (tkR l (blk l F f (d + 1) j')) wElse=false at hB0
     show (bnd (blk l F f (d + 1) j') fun bs q=>_)=bnd (blk l F f (d + 1) j') _
     cases hq:blk l F f (d + 1) j' with
     |ok bs q =>
      rw [hq] at hB0
      have hB1:isW (tkAt l q) wElse=false:=hB0
      show (if isW (tkAt l q) wElse=true then _ else _)=_
      rw [hB1,if_neg (by decide)]
      rfl
     |err p q=>rfl
     |out=>rfl
    |err p q=>exact hS8.out.as (fun _=>SX.mk 4 (tkAt l i).pos ⟨#[]⟩ false noEX [] []) rfl
    |out=>exact hS8.out.elim
  ·cases r1 with
   |out=>exact (HRO.out rfl).elim
   |err p' q'=>exact absurd hb (by rw [show isW (tkR l (bnd (.err p' q':EO EX) fun _ j=>blk l F f (d + 1) j)) wElse=false from rfl];decide)
   |ok x' j' =>
    obtain ⟨bs,q,hq⟩:∃ bs q,blk l F f (d + 1) j'=.ok bs q:=by
     change isW (tkR l (blk l F f (d + 1) j')) wElse=true at hb
     cases hq:blk l F f (d + 1) j' with
     |ok bs q=>exact ⟨bs,q,rfl⟩
     |err p q=>rw [hq] at hb;change (false:Bool)=true at hb;cases hb
     |out=>rw [hq] at hb;change (false:Bool)=true at hb;cases hb
    have e2:(bnd (.ok x' j':EO EX) fun _ j=>blk l F f (d + 1) j)=.ok bs q:=hq
    rw [e2] at S6 L6 HW hb ⊢
    rw [hb] at HW
    have hb1:isW (tkAt l q) wElse=true:=hb
    have hR:iff2 l F f d (tkAt l i).pos (.ok x' j')=bnd (blk l F f (d + 1) (q + 1)) fun cs r=>.ok (.mk 4 (tkAt l i).pos ⟨#[]⟩ true x' bs cs) r:=by
     show (bnd (blk l F f (d + 1) j') fun bs q=>_)=_
     rw [hq]
     show (if isW (tkAt l q) wElse=true then _ else _)=_
     rw [hb1,if_pos rfl]
    have hro:=HRO.out
    rw [hR] at hro
    have HRR:=Lib.hid hR
    have hr3:(bnd (.ok bs (q + 1):EO (List SX)) fun _ j=>blk l F f (d + 1) j)≠.out:=by
     intro e
     have e':blk l F f (d + 1) (q + 1)=.out:=e
     rw [e'] at hro
     exact hro rfl
    have HT2:=Lib.hid (fun (W:World) (h:St b o c l ((d + 1:Nat):Int) (.ok bs q) W)=>takeS h (by have:=HN.out;omega) (isW_real hb1))
    have HB2:=Lib.hid (fun (W:World) (h:St b o c l ((d + 1:Nat):Int) (.ok bs (q + 1)) W)=>HBX.out _ _ W h hr3)
    change Hid (∀ W:World,St b o c l ((d + 1:Nat):Int) (.ok bs (q + 1)) W→Calls _ _ _ W (TelB b o c l ((d + 1:Nat):Int) W (blk l F f (d + 1) (q + 1)))) at HB2
    have hV:=V6.out.2 x' j' rfl
    obtain ⟨o2,c2,eL,hbs⟩:=L6.out.2 bs q rfl
    injection eL with e3 e4 e5
    subst e3 e5
    have HNB:=Lib.hid e4
    clear e4
    have V6':=Lib.hid hV
    have L6':=Lib.hid hbs
    clear hb hb1 hq e2 hR hro hr3 HRO HBX V6 L6 hV hbs
    generalize blk l F f (d + 1) (q + 1)=r3 at *
    go_wp2_with fail
    refine (HW.out _).mono ?_
    rintro e w7 ⟨rfl,hB⟩
    have X7:=Lib.hid (X6.out.below hB)
    have R7:=Lib.hid (R6.out.below hB)
    have S7:=Lib.hid (S6.out.step hB)
    have K7:=Lib.hid (K6.out.then_below hB)
    have V7:=Lib.hid (V6'.out.ab ((Ab.refl _ _).below hB))
    have L7:=Lib.hid (L6'.out.ab ((Ab.refl _ _).below hB))
    clear hB X6 R6 S6 K6 V6' L6' HW
    go_wp2_with fail
    refine (HT2.out _ S7.out).mono ?_
    rintro e w8 ⟨rfl,hS,hK⟩
    have X8:=Lib.hid (X7.out.kp hK (by omega))
    have R8:=Lib.hid (R7.out.kp hK (by omega))
    have S8:=Lib.hid hS
    have K8:=Lib.hid (K7.out.trans hK)
    have V8:=Lib.hid (V7.out.ab ((Ab.refl _ _).kp hK (by omega)))
    have L8:=Lib.hid (L7.out.ab ((Ab.refl _ _).kp hK (by omega)))
    have l8:=X8.out.lt
    clear hS hK X7 R7 S7 K7 V7 L7 HT2
    go_wp2_with fail
    refine (HB2.out _ S8.out).mono ?_
    rintro e w9 ⟨v,rfl,hv,hS,hK⟩
    obtain ⟨oc,nc,cc,rfl⟩:=hv.1
    have hX9:=X8.out.kp hK (by omega)
    have hR9:=R8.out.kp hK (by omega)
    have S9:=Lib.hid hS
    have K9:=Lib.hid (K8.out.trans hK)
    have V9:=Lib.hid (V8.out.ab ((Ab.refl _ _).kp hK (by omega)))
    have L9:=Lib.hid (L8.out.ab ((Ab.refl _ _).kp hK (by omega)))
    have M9:=Lib.hid (hv.mono (B':=w1.heap.size + 1) (by omega))
    have c9:=hX9.cell 3
    have d9:=hX9.cell 16
    have f9:=hX9.frozen
    have l9:=hX9.lt
    have X10:Hid (Blk ((w9.setCell ⟨w1.heap.size,3,none⟩ (.bool true)).setCell ⟨w1.heap.size,16,none⟩ (.slice oc nc cc)) w1.heap.size 62 #[.int .i64 4,.int .i64 (tkAt l i).pos,.string ⟨#[]⟩,.bool true,.int .i64 k,.int .i64 p,.int .i64 s,.string nm,.int .i64 nn,.int .i64 tk,.int .i64 tp,.string tg,.string tn,.slice tz ta ta,.slice oa na ca,.slice ob nb cb,.slice oc nc cc]):=(hX9.set_ 3 (.bool true)).set_ 16 (.slice oc nc cc)
    have R10:Hid (Blk ((w9.setCell ⟨w1.heap.size,3,none⟩ (.bool true)).setCell ⟨w1.heap.size,16,none⟩ (.slice oc nc cc)) w.heap.size 62 zeroS):=(hR9.far (p:=⟨w1.heap.size,3,none⟩) hne (.bool true)).far (p:=⟨w1.heap.size,16,none⟩) hne (.slice oc nc cc)
    clear hv hS hK hX9 hR9 X8 R8 S8 K8 V8 L8 HB2
    go_wp2_with (first | (refine wpLoadS rfl _ rfl w1.heap.size rfl X10.out ?_) | (refine wpStoreS rfl _ _ rfl w.heap.size rfl rfl R10.out rfl ?_ ?_;rfl))
    refine bodyPost_ret (v:=.agg #[.int .i64 4,.int .i64 (tkAt l i).pos,.string ⟨#[]⟩,.bool true,.int .i64 k,.int .i64 p,.int .i64 s,.string nm,.int .i64 nn,.int .i64 tk,.int .i64 tp,.string tg,.string tn,.slice tz ta ta,.slice oa na ca,.slice ob nb cb,.slice oc nc cc]) ?_ ?_ ?_
    ·exact resS Tryz.results186 _ _ w.heap.size rfl (R10.out.row _)
    ·rfl
    rw [HRR.out]
    have ha:Ab (w1.heap.size + 1) w9 (((w9.setCell ⟨w1.heap.size,3,none⟩ (.bool true)).setCell ⟨w1.heap.size,16,none⟩ (.slice oc nc cc)).setRow w.heap.size #[.int .i64 4,.int .i64 (tkAt l i).pos,.string ⟨#[]⟩,.bool true,.int .i64 k,.int .i64 p,.int .i64 s,.string nm,.int .i64 nn,.int .i64 tk,.int .i64 tp,.string tg,.string tn,.slice tz ta ta,.slice oa na ca,.slice ob nb cb,.slice oc nc cc]):=setRow_ab (((Ab.refl _ _).setCell (p:=⟨w1.heap.size,3,none⟩) (by simp only;omega) _).setCell (p:=⟨w1.heap.size,16,none⟩) (by simp only;omega) _) (by omega) _
    refine ⟨_,rfl,valS_gen fun y j hy=>?_,(((S9.out.set_ (a:=⟨w1.heap.size,3,none⟩) (by simp only;omega) _).set_ (a:=⟨w1.heap.size,16,none⟩) (by simp only;omega) _).under (setRow_under (g:=w.heap.size) (by omega) _)).as (fun cs=>SX.mk 4 (tkAt l i).pos ⟨#[]⟩ true x' bs cs) rfl,setRow_kp0 ((K9.out.setCell (p:=⟨w1.heap.size,3,none⟩) (.inl (by simp only;omega)) _).setCell (p:=⟨w1.heap.size,16,none⟩) (.inl (by simp only;omega)) _) _⟩
    cases r3 with
    |ok cs rr =>
     obtain ⟨o3,c3,eM,hcs⟩:=M9.out.2 cs rr rfl
     injection eM with e3 e4 e5
     subst e3 e4 e5
     injection hy with hy1 hy2
     subst hy1
     exact ⟨x',bs,cs,rfl,IsEX.mono (by omega) (V9.out.ab ha),HNB.out,IsSXs.mono (by omega) (L9.out.ab ha),rfl,IsSXs.mono (by omega) (hcs.ab ha)⟩
    |err p q=>cases hy
    |out=>cases hy
end
end Go.Proofs.YtfcgoainglpdlaaGreatDoor
namespace Go.Proofs.YtfcgoainglpdlaaGreatDoor
open Go.RowKit
open Go.Lib hiding intOf
def ChS (P:Nat→Prop) (w:World):List SX→List (List Value)→Prop
 |[],[]=>True
 |x::xs,c::cs=>c.length=17∧IsSP P w x (.agg c.toArray)∧ChS P w xs cs
 |_,_=>False
theorem ChS.keep {P P':Nat→Prop} {w w':World} (hP:∀ (b i:Nat) (u:Value),P b→w.cell? ⟨b,i,none⟩=some u→P' b) (hk:∀ (b i:Nat) (u:Value),P b→w.cell? ⟨b,i,none⟩=some u→w'.cell? ⟨b,i,none⟩=some u):∀ {xs:List SX} {cs:List (List Value)},ChS P w xs cs→ChS P' w' xs cs
 |[],[],_=>by unfold ChS;trivial
 |x::xs,c::cs,h=>by
  unfold ChS at h ⊢
  exact ⟨h.1,h.2.1.keep hP hk,ChS.keep hP hk h.2.2⟩
 |[],_::_,h=>by unfold ChS at h;exact h.elim
 |_::_,[],h=>by unfold ChS at h;exact h.elim
theorem ChS.below {P:Nat→Prop} {w w':World} {xs:List SX} {cs:List (List Value)} (h:ChS P w xs cs) (hb:Below w.heap.size w w'):ChS P w' xs cs :=
 h.keep (fun _ _ _ h _=>h) fun _ _ _ _ hc=>(hb.cell (World.block_lt_of_cell? _ _ hc)).trans hc
theorem ChS.mono {P P':Nat→Prop} {w:World} {xs:List SX} {cs:List (List Value)} (hP:∀ k,k < w.heap.size→P k→P' k) (h:ChS P w xs cs):ChS P' w xs cs :=
 h.keep (fun b i _ hb hc=>hP b (World.block_lt_of_cell? w ⟨b,i,none⟩ hc) hb) fun _ _ _ _ hc=>hc
theorem ChS.kp {P:Nat→Prop} {b:Nat} {w w':World} {xs:List SX} {cs:List (List Value)} (h:ChS P w xs cs) (hk:Kp b w w') (hb:¬ P b):ChS P w' xs cs :=
 h.keep (fun _ _ _ h _=>h) fun k i u hP hc=>by
  have e:w'.heap[k]?=w.heap[k]?:=hk.block k (World.block_lt_of_cell? w ⟨k,i,none⟩ hc) (fun e=>hb (e ▸ hP))
  exact (World.cell?_of_block (w:=w) (a:=⟨k,i,none⟩) e).trans hc
theorem ChS.grown {P:Nat→Prop} {w w':World} {row:Option Nat} {xs:List SX} {cs:List (List Value)} (h:ChS P w xs cs) (hg:w.grownBy w' row) (hr:∀ k,row=some k→¬ P k):ChS P w' xs cs :=
 h.keep (fun _ _ _ h _=>h) fun k i u hP hc=>by
  have e:w'.heap[k]?=w.heap[k]?:=hg.block k (World.block_lt_of_cell? w ⟨k,i,none⟩ hc) (fun e=>hr k e.symm hP)
  exact (World.cell?_of_block (w:=w) (a:=⟨k,i,none⟩) e).trans hc
theorem ChS.snoc {P:Nat→Prop} {w:World} {y:SX} {d:List Value} (hd:d.length=17) (hy:IsSP P w y (.agg d.toArray)):∀ {xs:List SX} {cs:List (List Value)},ChS P w xs cs→ChS P w (xs++[y]) (cs++[d])
 |[],[],_=>by unfold ChS;exact ⟨hd,hy,by unfold ChS;trivial⟩
 |x::xs,c::cs,h=>by
  unfold ChS at h
  show ChS P w (x::(xs++[y])) (c::(cs++[d]))
  unfold ChS
  exact ⟨h.1,h.2.1,ChS.snoc hd hy h.2.2⟩
 |[],_::_,h=>by unfold ChS at h;exact h.elim
 |_::_,[],h=>by unfold ChS at h;exact h.elim
theorem ChS.len {P:Nat→Prop} {w:World}:∀ {xs:List SX} {cs:List (List Value)},ChS P w xs cs→cs.flatten.length=xs.length * 17
 |[],[],_=>rfl
 |x::xs,c::cs,h=>by
  unfold ChS at h
  rw [List.flatten_cons,List.length_append,h.1,ChS.len h.2.2,List.length_cons];omega
 |[],_::_,h=>by unfold ChS at h;exact h.elim
 |_::_,[],h=>by unfold ChS at h;exact h.elim
theorem ChS.sps {P:Nat→Prop} {w:World} {g:Nat} (hg:P g):∀ {xs:List SX} {cs:List (List Value)} {i:Nat},ChS P w xs cs→(∀ j u,cs.flatten[j]?=some u→w.cell? ⟨g,i * 17 + j,none⟩=some u)→IsSPs P w (some ⟨g,0,none⟩) i xs
 |[],[],_,_,_=>by unfold IsSPs;trivial
 |x::xs,c::cs,i,h,hc=>by
  unfold ChS at h
  unfold IsSPs
  obtain ⟨h1,h2,h3⟩:=h
  match c,h1,h2,hc with
  |[c0,c1,c2,c3,c4,c5,c6,c7,c8,c9,c10,c11,c12,c13,c14,c15,c16],_,h2,hc =>
   refine ⟨⟨g,c0,c1,c2,c3,c4,c5,c6,c7,c8,c9,c10,c11,c12,c13,c14,c15,c16,rfl,hg,hc 0 _ rfl,hc 1 _ rfl,hc 2 _ rfl,hc 3 _ rfl,hc 4 _ rfl,hc 5 _ rfl,hc 6 _ rfl,hc 7 _ rfl,hc 8 _ rfl,hc 9 _ rfl,hc 10 _ rfl,hc 11 _ rfl,hc 12 _ rfl,hc 13 _ rfl,hc 14 _ rfl,hc 15 _ rfl,hc 16 _ rfl,h2⟩,ChS.sps hg h3 fun j u hj=>?_⟩
   have h4:=hc (17 + j) u (by rw [List.flatten_cons,List.getElem?_append_right (by simp)];simpa using hj)
   rw [show (i + 1) * 17 + j=i * 17 + (17 + j) by omega]
   exact h4
 |[],_::_,_,h,_=>by unfold ChS at h;exact h.elim
 |_::_,[],_,h,_=>by unfold ChS at h;exact h.elim
def RowS (base:Nat) (w:World) (v:Value) (n:Nat) (X:Option (List SX)):Prop :=
 ∃ cs:List (List Value),w.ownsRow base 62 17 v n cs.flatten∧∀ xs,X=some xs→xs.length=n∧ChS (fun q=>base≤q∧some q≠v.ownBlock) w xs cs
theorem RowS.nil (base:Nat) (w:World):RowS base w (.slice none 0 0) 0 (some []):=⟨[],World.ownsRow_nil _ _ _ _,fun xs h=>by cases h;exact ⟨rfl,by unfold ChS;trivial⟩⟩
theorem RowS.slice {base:Nat} {w:World} {v:Value} {n:Nat} {X:Option (List SX)} (h:RowS base w v n X):∃ o cap,v=.slice o n cap:=by
 obtain ⟨cs,h,_⟩:=h
 rcases h.2 with ⟨h,h0⟩ | ⟨g,cap,cur,h,_⟩
 ·exact ⟨none,0,by rw [h,h0]⟩
 ·exact ⟨_,cap,h⟩
theorem RowS.kp {base b:Nat} {w w':World} {v:Value} {n:Nat} {X:Option (List SX)} (h:RowS base w v n X) (hk:Kp b w w') (hb:b < base):RowS base w' v n X:=by
 obtain ⟨cs,h1,h2⟩:=h
 refine ⟨cs,?_,fun xs hx=>⟨(h2 xs hx).1,(h2 xs hx).2.kp hk (fun h=>by have:=h.1;omega)⟩⟩
 refine ⟨h1.1,?_⟩
 rcases h1.2 with h | ⟨g,cap,cur,h,hbg,hg,r⟩
 ·exact .inl h
 ·refine .inr ⟨g,cap,cur,h,hbg,?_,r⟩
  rw [hk.block g (Array.getElem?_eq_some_iff.1 hg).1 (by omega)];exact hg
theorem RowS.below {base:Nat} {w w':World} {v:Value} {n:Nat} {X:Option (List SX)} (h:RowS base w v n X) (hk:Below w.heap.size w w'):RowS base w' v n X:=by
 obtain ⟨cs,h1,h2⟩:=h
 refine ⟨cs,?_,fun xs hx=>⟨(h2 xs hx).1,(h2 xs hx).2.below hk⟩⟩
 refine ⟨h1.1,?_⟩
 rcases h1.2 with h | ⟨g,cap,cur,h,hbg,hg,r⟩
 ·exact .inl h
 ·refine .inr ⟨g,cap,cur,h,hbg,?_,r⟩
  rw [hk.block g (Array.getElem?_eq_some_iff.1 hg).1];exact hg
theorem RowS.own_lt {base:Nat} {w:World} {v:Value} {n:Nat} {X:Option (List SX)} (h:RowS base w v n X):∀ g,v.ownBlock=some g→g < w.heap.size:=by
 intro g hg
 obtain ⟨cs,h1,_⟩:=h
 rcases h1.2 with ⟨rfl,_⟩ | ⟨g',cap,cur,rfl,_,hh,_⟩
 ·cases hg
 ·simp only [Value.ownBlock,Option.some.injEq] at hg
  subst hg
  exact (Array.getElem?_eq_some_iff.1 hh).1
theorem RowS.sps {base:Nat} {w:World} {v:Value} {n:Nat} {xs:List SX} (h:RowS base w v n (some xs)):∃ o cap,v=.slice o xs.length cap∧IsSXs base w o xs:=by
 obtain ⟨cs,h1,h0⟩:=h
 obtain ⟨rfl,h2⟩:=h0 xs rfl
 rcases h1.2 with ⟨rfl,hz⟩ | ⟨g,cap,cur,rfl,hbg,hg,r⟩
 ·have:xs=[]:=List.length_eq_zero_iff.1 hz
  subst this
  exact ⟨none,0,rfl,by unfold IsSXs IsSPs;trivial⟩
 ·refine ⟨_,cap,rfl,ChS.sps (P:=fun q=>base≤q) (w:=w) hbg (h2.keep (fun _ _ _ h _=>h.1) fun _ _ _ _ h=>h) fun j u hj=>?_⟩
  rw [Nat.zero_mul,Nat.zero_add,h1.cellAt j (by have:=(List.getElem?_eq_some_iff.1 hj).1;have:=h2.len;omega)]
  exact hj
theorem RowS.forget {base:Nat} {w:World} {v:Value} {n:Nat} {X:Option (List SX)} (h:RowS base w v n X):RowS base w v n none:=by
 obtain ⟨cs,h1,_⟩:=h
 exact ⟨cs,h1,fun xs h=>by cases h⟩
theorem Tryz.infoS3:(Tryz.prog.info? 62).map (fun i=>(i.zero,i.size,i.bytes))=some (some (.agg zeroS),17,232):=by kernel_rfl
theorem append_oneS (base:Nat) (ty:TypeId) (W:World) (v:Value) (n:Nat) (X:Option (List SX)) (hv:RowS base W v n X) (B:Nat) (hbase:base≤B) (hB:∀ g,v.ownBlock=some g→g < B) (Y:Option SX) (y0 y1 y2 y3 y4 y5 y6 y7 y8 y9 y10 y11 y12 y13 y14 y15 y16:Value) (h1c:([y0,y1,y2,y3,y4,y5,y6,y7,y8,y9,y10,y11,y12,y13,y14,y15,y16]:List Value).all (·.oneCell')=true) (hy:∀ s,Y=some s→IsSX B W s (.agg #[y0,y1,y2,y3,y4,y5,y6,y7,y8,y9,y10,y11,y12,y13,y14,y15,y16])) (hBW:B≤W.heap.size) (hn:n + 1≤1073741825) :
  ∃ v' w',(Builtin.append_ #[35,35] ty #[v,.slice (some ⟨W.heap.size,0,none⟩) 1 1]).run Tryz.prog (W.alloc (.cells #[y0,y1,y2,y3,y4,y5,y6,y7,y8,y9,y10,y11,y12,y13,y14,y15,y16] 62))=.ok v' w'∧RowS base w' v' (n + 1) (X.bind fun xs=>Y.map fun s=>xs++[s])∧Below base (W.alloc (.cells #[y0,y1,y2,y3,y4,y5,y6,y7,y8,y9,y10,y11,y12,y13,y14,y15,y16] 62)) w':=by
 obtain ⟨i0,hi,hi'⟩:=Option.map_eq_some_iff.1 Tryz.infoS3
 simp only [Prod.mk.injEq] at hi'
 obtain ⟨hz0,hz1,hz2⟩:=hi'
 obtain ⟨cs,hown,hch⟩:=hv
 have hown1:=hown.alloc (.cells #[y0,y1,y2,y3,y4,y5,y6,y7,y8,y9,y10,y11,y12,y13,y14,y15,y16] 62)
 have hnew:=(Blk.new W 62 #[y0,y1,y2,y3,y4,y5,y6,y7,y8,y9,y10,y11,y12,y13,y14,y15,y16]).cell
 obtain ⟨v',w',hrun,hown',hcase⟩:=run_append_tells (P:=Tryz.prog) (W.alloc (.cells #[y0,y1,y2,y3,y4,y5,y6,y7,y8,y9,y10,y11,y12,y13,y14,y15,y16] 62)) base 35 ty 62 i0 (.agg zeroS) 17 232 Tryz.underlying35 hi hz0 hz1 hz2 rfl (by decide) v n cs.flatten hown1
  ⟨W.heap.size,0,none⟩ 1 1 [y0,y1,y2,y3,y4,y5,y6,y7,y8,y9,y10,y11,y12,y13,y14,y15,y16] rfl (fun j u hu=>by rw [add_none',Nat.zero_add,hnew j];simpa using hu) (List.all_eq_true.1 h1c) (by unfold maxLen;omega) (by omega) (by simp;omega) (by decide)
 refine ⟨v',w',hrun,⟨cs++[[y0,y1,y2,y3,y4,y5,y6,y7,y8,y9,y10,y11,y12,y13,y14,y15,y16]],by rw [List.flatten_append];simpa using hown',fun zs hzs=>?_⟩,?_⟩
 ·cases X with
  |none=>cases hzs
  |some xs =>
   cases Y with
   |none=>cases hzs
   |some s =>
    injection hzs with hzs
    subst hzs
    obtain ⟨hl,hch0⟩:=hch xs rfl
    subst hl
    have hch1:=hch0.below ((Below.refl _ _).alloc (Nat.le_refl _) (.cells #[y0,y1,y2,y3,y4,y5,y6,y7,y8,y9,y10,y11,y12,y13,y14,y15,y16] 62))
    have hy1:IsSX B (W.alloc (.cells #[y0,y1,y2,y3,y4,y5,y6,y7,y8,y9,y10,y11,y12,y13,y14,y15,y16] 62)) s (.agg #[y0,y1,y2,y3,y4,y5,y6,y7,y8,y9,y10,y11,y12,y13,y14,y15,y16]):=IsSP.below (hy s rfl) ((Below.refl _ _).alloc (Nat.le_refl _) _)
    refine ⟨by rw [List.length_append];rfl,?_⟩
    rcases hcase with ⟨cap,rfl,hg⟩ | ⟨g,cap,rfl,rfl,hg⟩
    ·refine ChS.snoc rfl ?_ (ChS.mono (fun k hk hp=>⟨hp.1,by intro e;simp only [Value.ownBlock,Option.some.injEq,World.size_alloc] at e hk;omega⟩) (hch1) |>.grown hg (fun k e=>by cases e))
     exact IsSP.keep (P:=fun k=>B≤k) (fun k i u (hp:B≤k) hc=>⟨by omega,by intro e;have hk:=World.block_lt_of_cell? _ ⟨k,i,none⟩ hc;simp only [Value.ownBlock,Option.some.injEq,World.size_alloc] at e hk;omega⟩) (fun k i u hP hc=>by
      have e:w'.heap[k]?=_:=hg.block k (World.block_lt_of_cell? _ ⟨k,i,none⟩ hc) (by simp)
      exact (World.cell?_of_block (a:=⟨k,i,none⟩) e).trans hc) hy1
    ·have hgB:=hB g rfl
     refine ChS.snoc rfl ?_ (hch1.grown hg (fun k e hp=>by cases e;exact hp.2 rfl))
     exact IsSP.keep (P:=fun k=>B≤k) (P':=fun q=>base≤q∧some q≠(Value.slice (some ⟨g,0,none⟩) (xs.length + 1) cap).ownBlock) (fun k i u (hp:B≤k) hc=>⟨by omega,by intro e;simp only [Value.ownBlock,Option.some.injEq] at e;omega⟩) (fun k i u (hP:B≤k) hc=>by
      have e:w'.heap[k]?=_:=hg.block k (World.block_lt_of_cell? _ ⟨k,i,none⟩ hc) (by intro e;injection e with e;omega)
      exact (World.cell?_of_block (a:=⟨k,i,none⟩) e).trans hc) hy1
 ·rcases hcase with ⟨cap,rfl,hg⟩ | ⟨g,cap,rfl,rfl,hg⟩
  ·exact below_grown' hg (by simp;omega) (fun k e=>by cases e)
  ·refine below_grown' hg (by simp;omega) (fun k e=>?_)
   cases e
   rcases hown.2 with ⟨h,_⟩ | ⟨g',cap',cur,h,hbg,_⟩
   ·cases h
   ·injection h with h
    injection h with h
    injection h with h
    omega
theorem wpList_append_oneS {ops:Array Oper} {rest:List Oper} {o:Oper} {a:Act} {Q:Exit→Act→World→Prop} (hgd:o.guard=none) (s x:Operand)
  (ho:o.op=.call { callee:=.builtin .append,args:=#[s,x],argTypes:=#[35,35] }) (base:Nat) (W:World) (v:Value) (n:Nat) (X:Option (List SX)) (hs:a.eval s=v) (hx:a.eval x=.slice (some ⟨W.heap.size,0,none⟩) 1 1)
  (hv:RowS base W v n X) (B:Nat) (hbase:base≤B) (hB:∀ g,v.ownBlock=some g→g < B) (Y:Option SX) (y0 y1 y2 y3 y4 y5 y6 y7 y8 y9 y10 y11 y12 y13 y14 y15 y16:Value) (h1c:([y0,y1,y2,y3,y4,y5,y6,y7,y8,y9,y10,y11,y12,y13,y14,y15,y16]:List Value).all (·.oneCell')=true) (hy:∀ s,Y=some s→IsSX B W s (.agg #[y0,y1,y2,y3,y4,y5,y6,y7,y8,y9,y10,y11,y12,y13,y14,y15,y16])) (hBW:B≤W.heap.size) (hn:n + 1≤1073741825)
  (h:∀ v' w',RowS base w' v' (n + 1) (X.bind fun xs=>Y.map fun s=>xs++[s])→Below base (W.alloc (.cells #[y0,y1,y2,y3,y4,y5,y6,y7,y8,y9,y10,y11,y12,y13,y14,y15,y16] 62)) w'→wpList Tryz.prog ops Q rest (a.put o.dst v') w') :
  wpList Tryz.prog ops Q (o::rest) a (W.alloc (.cells #[y0,y1,y2,y3,y4,y5,y6,y7,y8,y9,y10,y11,y12,y13,y14,y15,y16] 62)):=by
 obtain ⟨v',w',hrun,h1,h2⟩:=append_oneS base o.type W v n X hv B hbase hB Y y0 y1 y2 y3 y4 y5 y6 y7 y8 y9 y10 y11 y12 y13 y14 y15 y16 h1c hy hBW hn
 refine wpList_plain hgd fun K hK=>?_
 unfold Oper.wp
 simp [execOp,ho,resolve,invoke,builtin,hs,hx,hrun,Result.andThen]
 exact hK _ _ (h v' w' h1 h2)
end Go.Proofs.YtfcgoainglpdlaaGreatDoor
namespace Go.Proofs.YtfcgoainglpdlaaGreatDoor
open Go.RowKit
open Go.Lib hiding intOf
def EO.val {α:Type}:EO α→Option α
 |.ok x _=>some x
 |_=>none
def preS (xs:List SX) (r:EO (List SX)):EO (List SX):=bnd r fun ys q=>.ok (xs++ys) q
theorem preS_nil (r:EO (List SX)):preS [] r=r:=by cases r <;> rfl
theorem rows_more {l:List TZ} {F g d:Nat} {j:Int} (h:isS (tkAt l j) 125=false):rows l F (g + 1) d j=bnd (stm l F g d j) fun s q=>bnd (rows l F g d q) fun r z=>.ok (s::r) z:=by
 rw [rows,if_neg (by rw [h];decide)]
 unfold bnd
 cases stm l F g d j with
 |ok s q=>simp only;cases rows l F g d q <;> rfl
 |err p c=>rfl
 |out=>rfl
theorem rows_shut {l:List TZ} {F g d:Nat} {j:Int} (h:isS (tkAt l j) 125=true):rows l F (g + 1) d j=.ok [] (j + 1):=by
 rw [rows,if_pos h]
theorem preS_snoc {xs:List SX} {s:SX} {r:EO (List SX)}:preS xs (bnd r fun ys z=>.ok (s::ys) z)=preS (xs++[s]) r:=by
 cases r with
 |ok ys q=>show EO.ok (xs++s::ys) q=EO.ok (xs++[s]++ys) q;rw [List.append_assoc];rfl
 |err p c=>rfl
 |out=>rfl
def InvS (b:Nat) (o:Option Addr) (c:Nat) (l:List TZ) (F d:Nat) (R:EO (List SX)) (w:World) (g:Nat) (v:Value) (W:World):Prop :=
  Kp b w W∧∃ n:Nat,
    ((∃ (xs:List SX) (j:Int),RowS w.heap.size W v n (some xs)∧St b o c l ((d + 1:Nat):Int) (.ok () j:EO Unit) W∧preS xs (rows l F g d j)=R∧((n:Nat):Int)≤j∧j≤(l.length:Nat)) ∨
     (∃ p q,R=.err p q∧RowS w.heap.size W v n none∧St b o c l ((d + 1:Nat):Int) (.err p q:EO Unit) W))
theorem InvS.next {b:Nat} {o:Option Addr} {c:Nat} {l:List TZ} {F d g n:Nat} {R:EO (List SX)} {w W:World} {v:Value} {xs:List SX} {j:Int} {R1:EO SX}
  (hK:Kp b w W) (hR1:R1=stm l F g d j) (hrow:RowS w.heap.size W v (n + 1) ((some xs).bind fun xs=>R1.val.map fun s=>xs++[s])) (hS:St b o c l ((d + 1:Nat):Int) R1 W)
  (hR:preS xs (rows l F (g + 1) d j)=R) (hn:isS (tkAt l j) 125=false) (hj:((n:Nat):Int)≤j):InvS b o c l F d R w g v W:=by
 refine ⟨hK,n + 1,?_⟩
 rw [rows_more hn] at hR
 cases R1 with
 |ok s q =>
  have hrng:=(stm_rng (l:=l) (F:=F) g).2.2 _ _ _ _ hR1.symm
  rw [← hR1] at hR
  refine .inl ⟨xs++[s],q,hrow,hS,?_,by omega,hrng.2.2⟩
  rw [← hR]
  exact preS_snoc.symm
 |err p q =>
  rw [← hR1] at hR
  exact .inr ⟨p,q,hR.symm,hrow,hS⟩
 |out=>exact hS.elim
theorem val_is {B:Nat} {W:World} {R:EO SX} {v:Value} (h:ValS B W R v):∀ s,R.val=some s→IsSX B W s v:=fun s hs=>by
 cases R with
 |ok x j=>injection hs with hs;subst hs;exact h.2 x j rfl
 |err p q=>cases hs
 |out=>cases hs
theorem valX {B:Nat} {W:World} {R:EO SX} {r2:EO EX} {pos:Int} {k p s:Int} {nm:ByteArray} {nn tk tp:Int} {tg tn:ByteArray} {tz:Option Addr} {ta:Nat} {oa:Option Addr} {na ca:Nat} (hR:R=bnd r2 fun x j=>.ok (.mk 6 pos ⟨#[]⟩ false x [] []) j)
  (hv:ValE B W r2 (.agg #[.int .i64 k,.int .i64 p,.int .i64 s,.string nm,.int .i64 nn,.int .i64 tk,.int .i64 tp,.string tg,.string tn,.slice tz ta ta,.slice oa na ca])) :
  ValS B W R (.agg #[.int .i64 6,.int .i64 pos,.string ⟨#[]⟩,.bool false,.int .i64 k,.int .i64 p,.int .i64 s,.string nm,.int .i64 nn,.int .i64 tk,.int .i64 tp,.string tg,.string tn,.slice tz ta ta,.slice oa na ca,.slice none 0 0,.slice none 0 0]):=by
 subst hR
 refine valS_gen fun y j hy=>?_
 cases r2 with
 |ok x' q' =>
  injection hy with hy1 hy2
  subst hy1
  exact ⟨x',[],[],rfl,hv.2 x' q' rfl,rfl,nilS _ _ _,rfl,nilS _ _ _⟩
 |err p q=>cases hy
 |out=>cases hy
def TelR (b:Nat) (o:Option Addr) (c:Nat) (l:List TZ) (d:Nat) (w:World) (R:EO (List SX)) (e:Ending) (w':World):Prop :=
 ∃ (v:Value) (R':EO (List SX)),e=.returned v∧must l 125 R'=R∧ValL w.heap.size w' R' v∧St b o c l ((d + 1:Nat):Int) R' w'∧Kp b w w'
section
variable {α:Type} {b c:Nat} {o:Option Addr} {l:List TZ} {F f d:Nat}
theorem statementsS {r0:EO α} {w:World} (HC:ExprC b o c l F) (HBC:∀ g,g < f→BlkC b o c l F g (d + 1)) (S:St b o c l ((d + 1:Nat):Int) r0 w) (hn:l.length≤1073741824) (hf:Fits l) (h0:∀ x j,r0=.ok x j→0≤j∧j≤(l.length:Nat)) (hr:(bnd r0 fun _ j=>rows l F f d j)≠.out) :
  Calls Tryz.prog 175 #[.pointer (some ⟨b,0,none⟩)] w (TelR b o c l d w (bnd r0 fun _ j=>rows l F f d j)):=by
 have hbl:=S.lt
 obtain ⟨R,hR⟩:∃ R,(bnd r0 fun _ j=>rows l F f d j)=R:=⟨_,rfl⟩
 have I0:Hid (InvS b o c l F d R w f (.slice none 0 0) w):=by
  refine ⟨Kp.refl _ _,0,?_⟩
  cases r0 with
  |ok x j=>exact .inl ⟨[],j,RowS.nil _ _,S,by rw [preS_nil];exact hR,(h0 x j rfl).1,(h0 x j rfl).2⟩
  |err p q=>exact .inr ⟨p,q,hR.symm,(RowS.nil _ _).forget,S⟩
  |out=>exact S.elim
 rw [hR] at hr ⊢
 have HRO:=Lib.hid hr
 have HN:=Lib.hid hn
 have HFI:=Lib.hid hf
 have HEC:=Lib.hid HC
 have HBL:=Lib.hid HBC
 clear S HC HBC hn hf h0 hr hR
 go_enter Tryz.func175,Tryz.ntmps175
 go_wp2
 go_step3
 go_wp2
 go_step3
 go_wp2
 go_loopg [3,4] f (fun g v _ wr=>∃ (o':Option Addr) (n:Nat) (cap:Nat),v=.slice o' n cap∧Hid (InvS b o c l F d R w g (.slice o' n cap) wr)∧g≤f)
 case atStart=>exact ⟨none,0,0,rfl,I0,Nat.le_refl _⟩
 case round =>
  clear I0
  obtain ⟨o',n',cap,rfl,HI,hgf⟩:=hrel
  obtain ⟨hK,n,hI⟩:=HI.out
  rcases hI with ⟨xs,j,hV,hS,hR,hnj,hjl⟩ | ⟨p,q,hR,hV,hS⟩
  ·obtain ⟨o3,c3,e3⟩:=hV.slice
   injection e3 with e3 e4 e5
   subst e3 e4 e5
   obtain ⟨gg,rfl⟩:∃ gg,gk=gg + 1:=by
    cases gk with
    |zero=>exact (HRO.out (by rw [← hR,rows];rfl)).elim
    |succ q=>exact ⟨q,rfl⟩
   have S0:=Lib.hid hS
   have K0:=Lib.hid hK
   have V0:=Lib.hid hV
   have HR:=Lib.hid hR
   have HF:=Lib.hid (failedS hS)
   change Hid (Calls _ _ _ _ fun e w'=>e=.returned (.bool false)∧w'=wr) at HF
   have HLB:Hid (n' + 1≤1073741825):=by have h1:=HN.out;show n' + 1≤1073741825;omega
   have hj0:0≤j:=by omega
   have hj1:j≤1073741824:=by have:=HN.out;omega
   clear hK hV hS hR HI
   have HP:=Lib.hid (peekS S0.out (by have:=HN.out;omega))
   change Hid (Calls _ _ _ _ fun e w'=>e=.returned (.agg #[.int .i64 (tkAt l j).kind,.int .i64 (tkAt l j).pos,.int .i64 (tkAt l j).stop,.string (tkAt l j).text])∧_) at HP
   have HS125:Hid (∀ W:World,Calls Tryz.prog 182 #[.agg #[.int .i64 (tkAt l j).kind,.int .i64 (tkAt l j).pos,.int .i64 (tkAt l j).stop,.string (tkAt l j).text],.string ⟨#[125]⟩] W fun e w'=>e=.returned (.bool (isS (tkAt l j) 125))∧Below W.heap.size W w'):=fun W=>isKT_S' (tkAt l j) 125 ▸ symbolS_v (tkAt l j) ⟨#[125]⟩ W
   have HWLet:Hid (∀ W:World,Calls Tryz.prog 183 #[.agg #[.int .i64 (tkAt l j).kind,.int .i64 (tkAt l j).pos,.int .i64 (tkAt l j).stop,.string (tkAt l j).text],.string ⟨#[108,101,116]⟩] W fun e w'=>e=.returned (.bool (isW (tkAt l j) wLet))∧Below W.heap.size W w'):=fun W=>isKT_W' (tkAt l j) wLet ▸ wordS_v (tkAt l j) ⟨#[108,101,116]⟩ W
   have HWRet:Hid (∀ W:World,Calls Tryz.prog 183 #[.agg #[.int .i64 (tkAt l j).kind,.int .i64 (tkAt l j).pos,.int .i64 (tkAt l j).stop,.string (tkAt l j).text],.string ⟨#[114,101,116,117,114,110]⟩] W fun e w'=>e=.returned (.bool (isW (tkAt l j) wReturn))∧Below W.heap.size W w'):=fun W=>isKT_W' (tkAt l j) wReturn ▸ wordS_v (tkAt l j) ⟨#[114,101,116,117,114,110]⟩ W
   have HWIf:Hid (∀ W:World,Calls Tryz.prog 183 #[.agg #[.int .i64 (tkAt l j).kind,.int .i64 (tkAt l j).pos,.int .i64 (tkAt l j).stop,.string (tkAt l j).text],.string ⟨#[105,102]⟩] W fun e w'=>e=.returned (.bool (isW (tkAt l j) wIf))∧Below W.heap.size W w'):=fun W=>isKT_W' (tkAt l j) wIf ▸ wordS_v (tkAt l j) ⟨#[105,102]⟩ W
   have HWFor:Hid (∀ W:World,Calls Tryz.prog 183 #[.agg #[.int .i64 (tkAt l j).kind,.int .i64 (tkAt l j).pos,.int .i64 (tkAt l j).stop,.string (tkAt l j).text],.string ⟨#[102,111,114]⟩] W fun e w'=>e=.returned (.bool (isW (tkAt l j) wFor))∧Below W.heap.size W w'):=fun W=>isKT_W' (tkAt l j) wFor ▸ wordS_v (tkAt l j) ⟨#[102,111,114]⟩ W
   go_wp2_with fail
   refine HF.out.mono ?_
   rintro e w0 ⟨rfl,rfl⟩
   go_wp2_with fail
   refine HP.out.mono ?_
   rintro e w1 ⟨rfl,hB⟩
   have S1:=Lib.hid ((S0.out.step hB).alloc (.cells #[.int .i64 (tkAt l j).kind,.int .i64 (tkAt l j).pos,.int .i64 (tkAt l j).stop,.string (tkAt l j).text] 81))
   have K1:=Lib.hid ((K0.out.then_below hB).alloc (.cells #[.int .i64 (tkAt l j).kind,.int .i64 (tkAt l j).pos,.int .i64 (tkAt l j).stop,.string (tkAt l j).text] 81))
   have V1:=Lib.hid ((V0.out.below hB).below ((Below.refl _ _).alloc (Nat.le_refl _) (.cells #[.int .i64 (tkAt l j).kind,.int .i64 (tkAt l j).pos,.int .i64 (tkAt l j).stop,.string (tkAt l j).text] 81)))
   have X1:=Lib.hid (Blk.new w1 81 #[.int .i64 (tkAt l j).kind,.int .i64 (tkAt l j).pos,.int .i64 (tkAt l j).stop,.string (tkAt l j).text])
   have hz1:w.heap.size≤w1.heap.size:=Nat.le_trans K0.out.size hB.size
   clear hB HP HF S0 K0 V0
   cases h125:isS (tkAt l j) 125
   ·have hst:stm l F gg d j≠.out:=by
     intro e
     exact HRO.out (by rw [← HR.out,rows_more h125,e];rfl)
    obtain ⟨gp,rfl⟩:∃ gp,gg=gp + 1:=by
     cases gg with
     |zero=>exact (hst (by rw [stm])).elim
     |succ q=>exact ⟨q,rfl⟩
    rw [h125] at HS125
    have H125:=Lib.hid h125
    have HST:=Lib.hid hst
    have HBP:=Lib.hid (HBL.out gp (by omega))
    clear h125 hst HBL
    go_wp2_with fail
    refine (HS125.out _).mono ?_
    rintro e w2 ⟨rfl,hB⟩
    have S2:=Lib.hid (S1.out.step hB)
    have K2:=Lib.hid (K1.out.then_below hB)
    have V2:=Lib.hid (V1.out.below hB)
    have X2:=Lib.hid (X1.out.below hB)
    have x2:=X2.out.cell
    have y2:=X2.out.lt
    clear hB
    cases hLet:isW (tkAt l j) wLet
    ·rw [hLet] at HWLet
     go_wp2_with fail
     refine (HWLet.out _).mono ?_
     rintro e w3 ⟨rfl,hB⟩
     have S3:=Lib.hid (S2.out.step hB)
     have K3:=Lib.hid (K2.out.then_below hB)
     have V3:=Lib.hid (V2.out.below hB)
     have X3:=Lib.hid (X2.out.below hB)
     have x3:=X3.out.cell
     have y3:=X3.out.lt
     clear hB
     cases hRet:isW (tkAt l j) wReturn
     ·rw [hRet] at HWRet
      go_wp2_with fail
      refine (HWRet.out _).mono ?_
      rintro e w4 ⟨rfl,hB⟩
      have S4:=Lib.hid (S3.out.step hB)
      have K4:=Lib.hid (K3.out.then_below hB)
      have V4:=Lib.hid (V3.out.below hB)
      have X4:=Lib.hid (X3.out.below hB)
      have x4:=X4.out.cell
      have y4:=X4.out.lt
      clear hB
      cases hIf:isW (tkAt l j) wIf
      ·rw [hIf] at HWIf
       go_wp2_with fail
       refine (HWIf.out _).mono ?_
       rintro e w5 ⟨rfl,hB⟩
       have S5:=Lib.hid (S4.out.step hB)
       have K5:=Lib.hid (K4.out.then_below hB)
       have V5:=Lib.hid (V4.out.below hB)
       have X5:=Lib.hid (X4.out.below hB)
       have x5:=X5.out.cell
       have y5:=X5.out.lt
       clear hB
       cases hFor:isW (tkAt l j) wFor
       ·rw [hFor] at HWFor
        go_wp2_with fail
        refine (HWFor.out _).mono ?_
        rintro e w6 ⟨rfl,hB⟩
        have S6:=Lib.hid (S5.out.step hB)
        have K6:=Lib.hid (K5.out.then_below hB)
        have V6:=Lib.hid (V5.out.below hB)
        have X6:=Lib.hid (X5.out.below hB)
        have x6:=X6.out.cell
        have y6:=X6.out.lt
        clear hB
        have K0b:Hid (b < w1.heap.size):=by show b < w1.heap.size;omega
        by_cases hk:(tkAt l j).kind=1
        ·have e1:((tkAt l j).kind == 1)=true:=by simpa using hk
         obtain ⟨p0,p1,p2,p3,p4,pf⟩:=ZS.cells S6.out
         have hbl2:=S6.out.lt
         have HLK:=Lib.hid (look_any (show ZS b o c l j ((d + 1:Nat):Int) 0 0 w6 from S6.out) (by have:=HN.out;omega) (j + 1))
         have HSQ:Hid (∀ W:World,Calls Tryz.prog 182 #[.agg #[.int .i64 (tkAt l (j + 1)).kind,.int .i64 (tkAt l (j + 1)).pos,.int .i64 (tkAt l (j + 1)).stop,.string (tkAt l (j + 1)).text],.string ⟨#[61]⟩] W fun e w'=>e=.returned (.bool (isS (tkAt l (j + 1)) 61))∧Below W.heap.size W w'):=fun W=>isKT_S' (tkAt l (j + 1)) 61 ▸ symbolS_v (tkAt l (j + 1)) ⟨#[61]⟩ W
         clear p0 p2 p3 p4
         go_wp2_with fail
         refine HLK.out.mono ?_
         rintro e w7 ⟨rfl,hB⟩
         have S7:=Lib.hid (S6.out.step hB)
         have K7:=Lib.hid (K6.out.then_below hB)
         have V7:=Lib.hid (V6.out.below hB)
         have X7:=Lib.hid (X6.out.below hB)
         clear hB p1 pf
         cases h61:isS (tkAt l (j + 1)) 61
         ·rw [h61] at HSQ
          go_wp2_with fail
          refine (HSQ.out _).mono ?_
          rintro e w8 ⟨rfl,hB⟩
          have S8:=Lib.hid (S7.out.step hB)
          have K8:=Lib.hid (K7.out.then_below hB)
          have V8:=Lib.hid (V7.out.below hB)
          have X8:=Lib.hid (X7.out.below hB)
          have x8:=X8.out.cell
          have y8:=X8.out.lt
          clear hB
          have hset:isSet l j=false:=by unfold isSet;rw [h61,Bool.and_false]
          clear hk h61
          have HRX:=Lib.hid ((stm_expr (l:=l) (F:=F) (f:=gp) (d:=d) (i:=j) hLet hRet hIf hFor hset).trans (exThen_eq _ _ _ _ _))
          have hr1:(bnd (.ok () j:EO Unit) fun _ j=>ex l F 1 0 j)≠.out:=by
           intro e
           have e':ex l F 1 0 j=.out:=e
           exact HST.out (by rw [HRX.out,e'];rfl)
          have HM:=Lib.hid (fun (W:World) (h:St b o c l ((d + 1:Nat):Int) (.ok () j:EO Unit) W)=>endedS HEC.out h HN.out hr1)
          change Hid (∀ W:World,St b o c l ((d + 1:Nat):Int) (.ok () j:EO Unit) W→Calls _ _ _ W (TelE b o c l ((d + 1:Nat):Int) W (must l 59 (ex l F 1 0 j)))) at HM
          clear hr1 hLet hRet hIf hFor
          have OL:=Lib.hid V8.out.own_lt
          have hz8:=K8.out.size
          have hbx:w1.heap.size≠b:=by have:=K0b.out;omega
          have x8:=X8.out.cell
          have y8:=X8.out.lt
          go_wp2_with fail
          go_region_law (first | (refine step_append rfl _ _ 35 rfl _ _ rfl rfl _ _ HRUN.out ?_) | (go_simp;go_wp2_with (go_at_call 189;refine (HM.out _ S8.out.drew).mono ?_;rintro e w9 ⟨v,rfl,hv,hS,hK⟩;obtain ⟨k,p,s,nm,nn,tk,tp,tg,tn,tz,ta,oa,na,ca,rfl⟩:=hv.1;have hk9:=hK.undrew;have VS:ValS w8.heap.size w9 (stm l F (gp + 1) d j) (.agg #[.int .i64 6,.int .i64 (tkAt l j).pos,.string ⟨#[]⟩,.bool false,.int .i64 k,.int .i64 p,.int .i64 s,.string nm,.int .i64 nn,.int .i64 tk,.int .i64 tp,.string tg,.string tn,.slice tz ta ta,.slice oa na ca,.slice none 0 0,.slice none 0 0]):=valX HRX.out hv;have S9:=Lib.hid (hS.as (fun x=>SX.mk 6 (tkAt l j).pos ⟨#[]⟩ false x [] []) HRX.out);have K9:=Lib.hid (K8.out.trans hk9);obtain ⟨v',w',hrun,hrow,hbel⟩:=append_oneS w.heap.size 35 w9 (.slice o' n' cap) n' (some xs) (V8.out.kp hk9 hbl) w8.heap.size hz8 OL.out (stm l F (gp + 1) d j).val (.int .i64 6) (.int .i64 (tkAt l j).pos) (.string ⟨#[]⟩) (.bool false) (.int .i64 k) (.int .i64 p) (.int .i64 s) (.string nm) (.int .i64 nn) (.int .i64 tk) (.int .i64 tp) (.string tg) (.string tn) (.slice tz ta ta) (.slice oa na ca) (.slice none 0 0) (.slice none 0 0) rfl (val_is VS) hk9.size HLB.out;obtain ⟨o2,cap2,rfl⟩:=hrow.slice;have HRUN:=Lib.hid hrun;have IN:=Lib.hid (InvS.next ((K9.out.alloc _).then_base hbel) rfl hrow ((S9.out.alloc _).under (hbel.mono (by omega))) HR.out H125.out hnj);have hX9:=X8.out.kp hk9 hbx;have x9:=hX9.cell;have y9:=hX9.lt;clear hv hS hK hk9 VS hrun hrow hbel hX9 S9 K9)))
          all_goals
           go_wp2_with fail
           go_roundg (gp + 1)
           case measure=>omega
           case rel=>exact ⟨o2,n' + 1,cap2,rfl,IN.out,by omega⟩
         ·rw [h61] at HSQ
          go_wp2_with fail
          refine (HSQ.out _).mono ?_
          rintro e w8 ⟨rfl,hB⟩
          have S8:=Lib.hid (S7.out.step hB)
          have K8:=Lib.hid (K7.out.then_below hB)
          have V8:=Lib.hid (V7.out.below hB)
          have X8:=Lib.hid (X7.out.below hB)
          have x8:=X8.out.cell
          have y8:=X8.out.lt
          clear hB
          have hset:isSet l j=true:=by unfold isSet;rw [h61,hk];rfl
          have HM:=Lib.hid (fun (W:World) (h:St b o c l ((d + 1:Nat):Int) (.ok () j:EO Unit) W)=>setS (f:=gp) (d:=d) HEC.out h HN.out HFI.out hLet hRet hIf hFor hset HST.out)
          clear hLet hRet hIf hFor hset hk h61
          go_wp2_with fail
          refine (HM.out _ S8.out).mono ?_
          rintro e w9 ⟨v,rfl,hv,hS,hK⟩
          obtain ⟨sk,sp,sn,sh,k,p,s,nm,nn,tk,tp,tg,tn,tz,ta,oa,na,ca,ob,nb,cb,oc,nc,cc,rfl⟩:=hv.1
          have S9:=Lib.hid hS
          have K9:=Lib.hid (K8.out.trans hK)
          have V9:=Lib.hid (V8.out.kp hK hbl)
          have OL:=Lib.hid V8.out.own_lt
          have HY:Hid (∀ s0,(stm l F (gp + 1) d j).val=some s0→IsSX w8.heap.size w9 s0 _):=fun s0 h=>by
           cases hq:stm l F (gp + 1) d j with
           |ok s1 q1=>rw [hq] at h;injection h with h;subst h;exact hv.2 s1 q1 hq
           |err p q=>rw [hq] at h;cases h
           |out=>rw [hq] at h;cases h
          have hz8:=K8.out.size
          have hz9:=hK.size
          clear hv hS hK
          go_wp2_with (refine wpList_append_oneS rfl _ _ rfl w.heap.size w9 (.slice o' n' cap) n' (some xs) rfl rfl V9.out w8.heap.size hz8 OL.out (stm l F (gp + 1) d j).val (.int .i64 sk) (.int .i64 sp) (.string sn) (.bool sh) (.int .i64 k) (.int .i64 p) (.int .i64 s) (.string nm) (.int .i64 nn) (.int .i64 tk) (.int .i64 tp) (.string tg) (.string tn) (.slice tz ta ta) (.slice oa na ca) (.slice ob nb cb) (.slice oc nc cc) rfl HY.out hz9 HLB.out ?_;intro v' w' hrow hbel;obtain ⟨o2,cap2,rfl⟩:=hrow.slice;have IN:=Lib.hid (InvS.next ((K9.out.alloc _).then_base hbel) rfl hrow ((S9.out.alloc _).under (hbel.mono (by omega))) HR.out H125.out hnj);clear hrow hbel)
          go_roundg (gp + 1)
          case measure=>omega
          case rel=>exact ⟨o2,n' + 1,cap2,rfl,IN.out,by omega⟩
        ·have e1:((tkAt l j).kind == 1)=false:=by simpa using hk
         have hset:isSet l j=false:=by unfold isSet;rw [show decide ((tkAt l j).kind=1)=false by simpa using hk];rfl
         clear hk
         have HRX:=Lib.hid ((stm_expr (l:=l) (F:=F) (f:=gp) (d:=d) (i:=j) hLet hRet hIf hFor hset).trans (exThen_eq _ _ _ _ _))
         have hr1:(bnd (.ok () j:EO Unit) fun _ j=>ex l F 1 0 j)≠.out:=by
          intro e
          have e':ex l F 1 0 j=.out:=e
          exact HST.out (by rw [HRX.out,e'];rfl)
         have HM:=Lib.hid (fun (W:World) (h:St b o c l ((d + 1:Nat):Int) (.ok () j:EO Unit) W)=>endedS HEC.out h HN.out hr1)
         change Hid (∀ W:World,St b o c l ((d + 1:Nat):Int) (.ok () j:EO Unit) W→Calls _ _ _ W (TelE b o c l ((d + 1:Nat):Int) W (must l 59 (ex l F 1 0 j)))) at HM
         clear hr1 hLet hRet hIf hFor
         have OL:=Lib.hid V6.out.own_lt
         have hz8:=K6.out.size
         have hbx:w1.heap.size≠b:=by have:=K0b.out;omega
         have x8:=X6.out.cell
         have y8:=X6.out.lt
         go_wp2_with fail
         go_region_law (first | (refine step_append rfl _ _ 35 rfl _ _ rfl rfl _ _ HRUN.out ?_) | (go_simp;go_wp2_with (go_at_call 189;refine (HM.out _ S6.out.drew).mono ?_;rintro e w9 ⟨v,rfl,hv,hS,hK⟩;obtain ⟨k,p,s,nm,nn,tk,tp,tg,tn,tz,ta,oa,na,ca,rfl⟩:=hv.1;have hk9:=hK.undrew;have VS:ValS w6.heap.size w9 (stm l F (gp + 1) d j) (.agg #[.int .i64 6,.int .i64 (tkAt l j).pos,.string ⟨#[]⟩,.bool false,.int .i64 k,.int .i64 p,.int .i64 s,.string nm,.int .i64 nn,.int .i64 tk,.int .i64 tp,.string tg,.string tn,.slice tz ta ta,.slice oa na ca,.slice none 0 0,.slice none 0 0]):=valX HRX.out hv;have S9:=Lib.hid (hS.as (fun x=>SX.mk 6 (tkAt l j).pos ⟨#[]⟩ false x [] []) HRX.out);have K9:=Lib.hid (K6.out.trans hk9);obtain ⟨v',w',hrun,hrow,hbel⟩:=append_oneS w.heap.size 35 w9 (.slice o' n' cap) n' (some xs) (V6.out.kp hk9 hbl) w6.heap.size hz8 OL.out (stm l F (gp + 1) d j).val (.int .i64 6) (.int .i64 (tkAt l j).pos) (.string ⟨#[]⟩) (.bool false) (.int .i64 k) (.int .i64 p) (.int .i64 s) (.string nm) (.int .i64 nn) (.int .i64 tk) (.int .i64 tp) (.string tg) (.string tn) (.slice tz ta ta) (.slice oa na ca) (.slice none 0 0) (.slice none 0 0) rfl (val_is VS) hk9.size HLB.out;obtain ⟨o2,cap2,rfl⟩:=hrow.slice;have HRUN:=Lib.hid hrun;have IN:=Lib.hid (InvS.next ((K9.out.alloc _).then_base hbel) rfl hrow ((S9.out.alloc _).under (hbel.mono (by omega))) HR.out H125.out hnj);have hX9:=X6.out.kp hk9 hbx;have x9:=hX9.cell;have y9:=hX9.lt;clear hv hS hK hk9 VS hrun hrow hbel hX9 S9 K9)))
         all_goals
          go_wp2_with fail
          go_roundg (gp + 1)
          case measure=>omega
          case rel=>exact ⟨o2,n' + 1,cap2,rfl,IN.out,by omega⟩
       ·rw [hFor] at HWFor
        go_wp2_with fail
        refine (HWFor.out _).mono ?_
        rintro e w6 ⟨rfl,hB⟩
        have S6:=Lib.hid (S5.out.step hB)
        have K6:=Lib.hid (K5.out.then_below hB)
        have V6:=Lib.hid (V5.out.below hB)
        have X6:=Lib.hid (X5.out.below hB)
        have x6:=X6.out.cell
        have y6:=X6.out.lt
        clear hB
        have HM:=Lib.hid (fun (W:World) (h:St b o c l ((d + 1:Nat):Int) (.ok () j:EO Unit) W)=>loopS (f:=gp) (d:=d) HEC.out HBP.out h HN.out hLet hRet hIf hFor HST.out)
        clear hLet hRet hIf hFor
        go_wp2_with fail
        refine (HM.out _ S6.out).mono ?_
        rintro e w9 ⟨v,rfl,hv,hS,hK⟩
        obtain ⟨sk,sp,sn,sh,k,p,s,nm,nn,tk,tp,tg,tn,tz,ta,oa,na,ca,ob,nb,cb,oc,nc,cc,rfl⟩:=hv.1
        have S9:=Lib.hid hS
        have K9:=Lib.hid (K6.out.trans hK)
        have V9:=Lib.hid (V6.out.kp hK hbl)
        have OL:=Lib.hid V6.out.own_lt
        have HY:Hid (∀ s0,(stm l F (gp + 1) d j).val=some s0→IsSX w6.heap.size w9 s0 _):=fun s0 h=>by
         cases hq:stm l F (gp + 1) d j with
         |ok s1 q1=>rw [hq] at h;injection h with h;subst h;exact hv.2 s1 q1 hq
         |err p q=>rw [hq] at h;cases h
         |out=>rw [hq] at h;cases h
        have hz8:=K6.out.size
        have hz9:=hK.size
        clear hv hS hK
        go_wp2_with (refine wpList_append_oneS rfl _ _ rfl w.heap.size w9 (.slice o' n' cap) n' (some xs) rfl rfl V9.out w6.heap.size hz8 OL.out (stm l F (gp + 1) d j).val (.int .i64 sk) (.int .i64 sp) (.string sn) (.bool sh) (.int .i64 k) (.int .i64 p) (.int .i64 s) (.string nm) (.int .i64 nn) (.int .i64 tk) (.int .i64 tp) (.string tg) (.string tn) (.slice tz ta ta) (.slice oa na ca) (.slice ob nb cb) (.slice oc nc cc) rfl HY.out hz9 HLB.out ?_;intro v' w' hrow hbel;obtain ⟨o2,cap2,rfl⟩:=hrow.slice;have IN:=Lib.hid (InvS.next ((K9.out.alloc _).then_base hbel) rfl hrow ((S9.out.alloc _).under (hbel.mono (by omega))) HR.out H125.out hnj);clear hrow hbel)
        go_roundg (gp + 1)
        case measure=>omega
        case rel=>exact ⟨o2,n' + 1,cap2,rfl,IN.out,by omega⟩
      ·rw [hIf] at HWIf
       go_wp2_with fail
       refine (HWIf.out _).mono ?_
       rintro e w5 ⟨rfl,hB⟩
       have S5:=Lib.hid (S4.out.step hB)
       have K5:=Lib.hid (K4.out.then_below hB)
       have V5:=Lib.hid (V4.out.below hB)
       have X5:=Lib.hid (X4.out.below hB)
       have x5:=X5.out.cell
       have y5:=X5.out.lt
       clear hB
       have HM:=Lib.hid (fun (W:World) (h:St b o c l ((d + 1:Nat):Int) (.ok () j:EO Unit) W)=>branchS (f:=gp) (d:=d) HEC.out HBP.out h HN.out hLet hRet hIf HST.out)
       clear hLet hRet hIf
       go_wp2_with fail
       refine (HM.out _ S5.out).mono ?_
       rintro e w9 ⟨v,rfl,hv,hS,hK⟩
       obtain ⟨sk,sp,sn,sh,k,p,s,nm,nn,tk,tp,tg,tn,tz,ta,oa,na,ca,ob,nb,cb,oc,nc,cc,rfl⟩:=hv.1
       have S9:=Lib.hid hS
       have K9:=Lib.hid (K5.out.trans hK)
       have V9:=Lib.hid (V5.out.kp hK hbl)
       have OL:=Lib.hid V5.out.own_lt
       have HY:Hid (∀ s0,(stm l F (gp + 1) d j).val=some s0→IsSX w5.heap.size w9 s0 _):=fun s0 h=>by
        cases hq:stm l F (gp + 1) d j with
        |ok s1 q1=>rw [hq] at h;injection h with h;subst h;exact hv.2 s1 q1 hq
        |err p q=>rw [hq] at h;cases h
        |out=>rw [hq] at h;cases h
       have hz8:=K5.out.size
       have hz9:=hK.size
       clear hv hS hK
       go_wp2_with (refine wpList_append_oneS rfl _ _ rfl w.heap.size w9 (.slice o' n' cap) n' (some xs) rfl rfl V9.out w5.heap.size hz8 OL.out (stm l F (gp + 1) d j).val (.int .i64 sk) (.int .i64 sp) (.string sn) (.bool sh) (.int .i64 k) (.int .i64 p) (.int .i64 s) (.string nm) (.int .i64 nn) (.int .i64 tk) (.int .i64 tp) (.string tg) (.string tn) (.slice tz ta ta) (.slice oa na ca) (.slice ob nb cb) (.slice oc nc cc) rfl HY.out hz9 HLB.out ?_;intro v' w' hrow hbel;obtain ⟨o2,cap2,rfl⟩:=hrow.slice;have IN:=Lib.hid (InvS.next ((K9.out.alloc _).then_base hbel) rfl hrow ((S9.out.alloc _).under (hbel.mono (by omega))) HR.out H125.out hnj);clear hrow hbel)
       go_roundg (gp + 1)
       case measure=>omega
       case rel=>exact ⟨o2,n' + 1,cap2,rfl,IN.out,by omega⟩
     ·rw [hRet] at HWRet
      go_wp2_with fail
      refine (HWRet.out _).mono ?_
      rintro e w4 ⟨rfl,hB⟩
      have S4:=Lib.hid (S3.out.step hB)
      have K4:=Lib.hid (K3.out.then_below hB)
      have V4:=Lib.hid (V3.out.below hB)
      have X4:=Lib.hid (X3.out.below hB)
      have x4:=X4.out.cell
      have y4:=X4.out.lt
      clear hB
      have HM:=Lib.hid (fun (W:World) (h:St b o c l ((d + 1:Nat):Int) (.ok () j:EO Unit) W)=>returnedS (f:=gp) (d:=d) HEC.out h HN.out hLet hRet HST.out)
      clear hLet hRet
      go_wp2_with fail
      refine (HM.out _ S4.out).mono ?_
      rintro e w9 ⟨v,rfl,hv,hS,hK⟩
      obtain ⟨sk,sp,sn,sh,k,p,s,nm,nn,tk,tp,tg,tn,tz,ta,oa,na,ca,ob,nb,cb,oc,nc,cc,rfl⟩:=hv.1
      have S9:=Lib.hid hS
      have K9:=Lib.hid (K4.out.trans hK)
      have V9:=Lib.hid (V4.out.kp hK hbl)
      have OL:=Lib.hid V4.out.own_lt
      have HY:Hid (∀ s0,(stm l F (gp + 1) d j).val=some s0→IsSX w4.heap.size w9 s0 _):=fun s0 h=>by
       cases hq:stm l F (gp + 1) d j with
       |ok s1 q1=>rw [hq] at h;injection h with h;subst h;exact hv.2 s1 q1 hq
       |err p q=>rw [hq] at h;cases h
       |out=>rw [hq] at h;cases h
      have hz8:=K4.out.size
      have hz9:=hK.size
      clear hv hS hK
      go_wp2_with (refine wpList_append_oneS rfl _ _ rfl w.heap.size w9 (.slice o' n' cap) n' (some xs) rfl rfl V9.out w4.heap.size hz8 OL.out (stm l F (gp + 1) d j).val (.int .i64 sk) (.int .i64 sp) (.string sn) (.bool sh) (.int .i64 k) (.int .i64 p) (.int .i64 s) (.string nm) (.int .i64 nn) (.int .i64 tk) (.int .i64 tp) (.string tg) (.string tn) (.slice tz ta ta) (.slice oa na ca) (.slice ob nb cb) (.slice oc nc cc) rfl HY.out hz9 HLB.out ?_;intro v' w' hrow hbel;obtain ⟨o2,cap2,rfl⟩:=hrow.slice;have IN:=Lib.hid (InvS.next ((K9.out.alloc _).then_base hbel) rfl hrow ((S9.out.alloc _).under (hbel.mono (by omega))) HR.out H125.out hnj);clear hrow hbel)
      go_roundg (gp + 1)
      case measure=>omega
      case rel=>exact ⟨o2,n' + 1,cap2,rfl,IN.out,by omega⟩
    ·rw [hLet] at HWLet
     go_wp2_with fail
     refine (HWLet.out _).mono ?_
     rintro e w3 ⟨rfl,hB⟩
     have S3:=Lib.hid (S2.out.step hB)
     have K3:=Lib.hid (K2.out.then_below hB)
     have V3:=Lib.hid (V2.out.below hB)
     have X3:=Lib.hid (X2.out.below hB)
     have x3:=X3.out.cell
     have y3:=X3.out.lt
     clear hB
     have HM:=Lib.hid (fun (W:World) (h:St b o c l ((d + 1:Nat):Int) (.ok () j:EO Unit) W)=>letS (f:=gp) (d:=d) HEC.out h HN.out HFI.out hLet HST.out)
     clear hLet
     go_wp2_with fail
     refine (HM.out _ S3.out).mono ?_
     rintro e w9 ⟨v,rfl,hv,hS,hK⟩
     obtain ⟨sk,sp,sn,sh,k,p,s,nm,nn,tk,tp,tg,tn,tz,ta,oa,na,ca,ob,nb,cb,oc,nc,cc,rfl⟩:=hv.1
     have S9:=Lib.hid hS
     have K9:=Lib.hid (K3.out.trans hK)
     have V9:=Lib.hid (V3.out.kp hK hbl)
     have OL:=Lib.hid V3.out.own_lt
     have HY:Hid (∀ s0,(stm l F (gp + 1) d j).val=some s0→IsSX w3.heap.size w9 s0 _):=fun s0 h=>by
      cases hq:stm l F (gp + 1) d j with
      |ok s1 q1=>rw [hq] at h;injection h with h;subst h;exact hv.2 s1 q1 hq
      |err p q=>rw [hq] at h;cases h
      |out=>rw [hq] at h;cases h
     have hz8:=K3.out.size
     have hz9:=hK.size
     clear hv hS hK
     go_wp2_with (refine wpList_append_oneS rfl _ _ rfl w.heap.size w9 (.slice o' n' cap) n' (some xs) rfl rfl V9.out w3.heap.size hz8 OL.out (stm l F (gp + 1) d j).val (.int .i64 sk) (.int .i64 sp) (.string sn) (.bool sh) (.int .i64 k) (.int .i64 p) (.int .i64 s) (.string nm) (.int .i64 nn) (.int .i64 tk) (.int .i64 tp) (.string tg) (.string tn) (.slice tz ta ta) (.slice oa na ca) (.slice ob nb cb) (.slice oc nc cc) rfl HY.out hz9 HLB.out ?_;intro v' w' hrow hbel;obtain ⟨o2,cap2,rfl⟩:=hrow.slice;have IN:=Lib.hid (InvS.next ((K9.out.alloc _).then_base hbel) rfl hrow ((S9.out.alloc _).under (hbel.mono (by omega))) HR.out H125.out hnj);clear hrow hbel)
     go_roundg (gp + 1)
     case measure=>omega
     case rel=>exact ⟨o2,n' + 1,cap2,rfl,IN.out,by omega⟩
   ·rw [h125] at HS125
    go_wp2_with fail
    refine (HS125.out _).mono ?_
    rintro e w2 ⟨rfl,hB⟩
    have S2:=Lib.hid (S1.out.step hB)
    have K2:=Lib.hid (K1.out.then_below hB)
    have V2:=Lib.hid (V1.out.below hB)
    have X2:=Lib.hid (X1.out.below hB)
    have x2:=X2.out.cell
    have y2:=X2.out.lt
    clear hB
    have HB:=HR.out
    rw [rows_shut h125] at HB
    have H125:=Lib.hid h125
    clear h125
    go_wp2
    try rw [Exit.noGoto_ret]
    go_ret
    refine ⟨_,.ok xs j,rfl,?_,⟨⟨_,_,_,rfl⟩,fun ys q e=>?_⟩,S2.out,K2.out⟩
    ·rw [← HB]
     show must l 125 (.ok xs j)=.ok (xs++[]) (j + 1)
     rw [List.append_nil]
     unfold must bnd
     simp only [H125.out,if_true]
    ·injection e with e1 e2
     subst e1
     obtain ⟨o4,c4,e4,hx⟩:=V2.out.sps
     exact ⟨o4,c4,e4,hx⟩
  ·have HF:=Lib.hid (failedS hS)
   change Hid (Calls _ _ _ _ fun e w'=>e=.returned (.bool true)∧w'=wr) at HF
   have S1:=Lib.hid hS
   have K1:=Lib.hid hK
   have HR:=Lib.hid hR
   clear hV hS hK hR HI HBL HEC HFI
   go_wp2_with fail
   refine HF.out.mono ?_
   rintro e w0 ⟨rfl,rfl⟩
   go_wp2
   try rw [Exit.noGoto_ret]
   go_ret
   exact ⟨_,.err p q,rfl,HR.out.symm,⟨⟨_,_,_,rfl⟩,fun ys q e=>by cases e⟩,S1.out,K1.out⟩
end
end Go.Proofs.YtfcgoainglpdlaaGreatDoor
