/- The walks of the packages' parser's declaredFunc, declared. Condition: the parser lies in memory as said. -/
import Derived.Test.YtfcgoainglpdlaaGreatDoorV38
set_option maxRecDepth 20000
set_option maxHeartbeats 8000000
namespace Go.Proofs.YtfcgoainglpdlaaGreatDoor
open Go.RowKit
open Go.Lib hiding intOf
def rcvw (l:List TZ) (i:Int):EO PX:=thn (sy l 40 i) fun _ j=>thn (prm l j) fun x j=>thn (sy l 41 j) fun _ q=>EO.ok x q
def bndw (l:List TZ) (f:Nat) (i:Int):EO (List PX):=thn (sy l 91 i) fun _ j=>thn (sepw l (prm l) f j) fun xs q=>thn (sy l 93 q) fun _ r=>EO.ok xs r
def dtyw (l:List TZ) (f:Nat) (i:Int):EO DX:=thn (wo l wType i) fun _ j=>dty0 l f j
def dfnw (l:List TZ) (F fb f:Nat) (i:Int):EO DX:=thn (wo l wFunc i) fun _ j=>dfn0 l F fb f j
section
variable {l:List TZ}
theorem rcv_yes {i:Int} (h:isS (tkAt l i) 40=true):rcv l i=thn (rcvw l i) fun x q=>.ok (true,x) q:=by
 unfold rcv rcvw
 rw [if_pos h,sy_yes h]
 show _=thn (thn (prm l (i + 1)) _) _
 simp only [thn_assoc]
 rfl
theorem rcv_no {i:Int} (h:isS (tkAt l i) 40=false):rcv l i=.ok (false,noPX) i:=by unfold rcv;rw [if_neg (by rw [h];decide)]
theorem bnds_yes {f:Nat} {i:Int} (h:isS (tkAt l i) 91=true):bnds l f i=bndw l f i:=by
 unfold bnds bndw
 rw [if_pos h,sy_yes h,seps_eq]
 rfl
theorem bnds_no {f:Nat} {i:Int} (h:isS (tkAt l i) 91=false):bnds l f i=.ok [] i:=by unfold bnds;rw [if_neg (by rw [h];decide)]
theorem dcl0_eq {F fb f:Nat} {i:Int}:dcl0 l F fb f i=if isW (tkAt l i) wType then dtyw l f i else dfnw l F fb f i:=by
 unfold dcl0
 split
 ·next h=>unfold dtyw;rw [wo_yes h];rfl
 ·rfl
end
section
variable {b c:Nat} {o:Option Addr} {l:List TZ} {i:Int} {w:World}
theorem declaredFuncF (F fb f:Nat) (hF:fuel l≤F) (S:FS b o c l i w) (hn:l.length≤1073741824) (hf:Fits l) (hr:dfnw l F fb f i≠.out) :
  Calls Tryz.prog 110 #[.pointer (some ⟨b,0,none⟩)] w (TelF b o c l (isPart eltD) w (dfnw l F fb f i)):=by
 have hbl:=S.lt
 have HNM:=Lib.hid (fun (W:World) (j:Int) (h:FS b o c l j W)=>nameF h hn hf)
 have HWO:=Lib.hid (fun (W:World) (j:Int) (s:List UInt8) (h:FS b o c l j W)=>wordF h hn s)
 have HSE:=Lib.hid (fun (W:World) (j:Int) (z:UInt8) (h:FS b o c l j W)=>seesSF h hn z)
 have HRC:=Lib.hid (fun (W:World) (j:Int) (h:FS b o c l j W) (hr:rcvw l j≠.out)=>show Calls Tryz.prog 132 #[.pointer (some ⟨b,0,none⟩)] W (TelF b o c l (isPart eltP) W (rcvw l j)) from receiverF h hn hf hr)
 have HBN:=Lib.hid (fun (W:World) (j:Int) (h:FS b o c l j W) (hr:bndw l f j≠.out)=>show Calls Tryz.prog 133 #[.pointer (some ⟨b,0,none⟩)] W (TelF b o c l (isRow eltP) W (bndw l f j)) from boundsF h hn hf f hr)
 have HLP:=Lib.hid (fun (W:World) (j:Int) (h:FS b o c l j W) (hr:lstw l (prm l) f j≠.out)=>listedP (fun _ _ _ h=>by have:=prm_rng h;omega) (fun i W h hr=>paramF h hn hf hr) h hn f hr)
 have HRS:=Lib.hid (fun (W:World) (j:Int) (z:UInt8) (h:FS b o c l j W)=>resultF h hn hf z)
 have HBK:=Lib.hid (fun (W:World) (j:Int) (h:FS b o c l j W) (hr:blk l F fb 0 j≠.out)=>blockF h hn hf F fb hF hr)
 have hmf:∀ (fn:Fn) (first cap:Array Value) (w:World),(Instr.makeFunc fn first cap).run Tryz.prog w=.ok (.func fn first cap) w:=fun _ _ _ _=>rfl
 obtain ⟨R,hR⟩:∃ R,(thn (wo l wFunc i) fun _ j=>thn (rcv l j) fun r j=>thn (na l j) fun n j=>thn (bnds l f j) fun bs j=>thn (lstw l (prm l) f j) fun ps j=>thn (resw l 123 j) fun t j=>thn (blk l F fb 0 j) fun bd q=>EO.ok (⟨3,n.2,0,n.1,r.1,r.2,bs,ps,[],t.1,t.2,bd⟩:DX) q)=R:=⟨_,rfl⟩
 change (thn (wo l wFunc i) fun _ j=>thn (rcv l j) fun r j=>thn (na l j) fun n j=>thn (bnds l f j) fun bs j=>thn (lstw l (prm l) f j) fun ps j=>thn (resw l 123 j) fun t j=>thn (blk l F fb 0 j) fun bd q=>EO.ok (⟨3,n.2,0,n.1,r.1,r.2,bs,ps,[],t.1,t.2,bd⟩:DX) q)≠.out at hr
 change Calls _ _ _ _ (TelF b o c l _ w (thn (wo l wFunc i) fun _ j=>thn (rcv l j) fun r j=>thn (na l j) fun n j=>thn (bnds l f j) fun bs j=>thn (lstw l (prm l) f j) fun ps j=>thn (resw l 123 j) fun t j=>thn (blk l F fb 0 j) fun bd q=>EO.ok (⟨3,n.2,0,n.1,r.1,r.2,bs,ps,[],t.1,t.2,bd⟩:DX) q))
 rw [hR] at hr ⊢
 have HR:=Lib.hid hR
 have HRO:=Lib.hid hr
 have S0:=Lib.hid (S.alloc (.cells #[.int .i64 0,.int .i64 0,.int .i64 0,.string ⟨#[]⟩,.bool false,.string ⟨#[]⟩,.int .i64 0,.int .i64 0,.int .i64 0,.string ⟨#[]⟩,.string ⟨#[]⟩,.slice none 0 0,.slice none 0 0,.slice none 0 0,.slice none 0 0,.bool false,.int .i64 0,.int .i64 0,.string ⟨#[]⟩,.string ⟨#[]⟩,.slice none 0 0,.slice none 0 0] 76))
 have K0:=Lib.hid ((Kp.refl b w).alloc (.cells #[.int .i64 0,.int .i64 0,.int .i64 0,.string ⟨#[]⟩,.bool false,.string ⟨#[]⟩,.int .i64 0,.int .i64 0,.int .i64 0,.string ⟨#[]⟩,.string ⟨#[]⟩,.slice none 0 0,.slice none 0 0,.slice none 0 0,.slice none 0 0,.bool false,.int .i64 0,.int .i64 0,.string ⟨#[]⟩,.string ⟨#[]⟩,.slice none 0 0,.slice none 0 0] 76))
 have XA0:Hid (Blk (w.alloc (.cells #[.int .i64 0,.int .i64 0,.int .i64 0,.string ⟨#[]⟩,.bool false,.string ⟨#[]⟩,.int .i64 0,.int .i64 0,.int .i64 0,.string ⟨#[]⟩,.string ⟨#[]⟩,.slice none 0 0,.slice none 0 0,.slice none 0 0,.slice none 0 0,.bool false,.int .i64 0,.int .i64 0,.string ⟨#[]⟩,.string ⟨#[]⟩,.slice none 0 0,.slice none 0 0] 76)) w.heap.size 76 #[.int .i64 0,.int .i64 0,.int .i64 0,.string ⟨#[]⟩,.bool false,.string ⟨#[]⟩,.int .i64 0,.int .i64 0,.int .i64 0,.string ⟨#[]⟩,.string ⟨#[]⟩,.slice none 0 0,.slice none 0 0,.slice none 0 0,.slice none 0 0,.bool false,.int .i64 0,.int .i64 0,.string ⟨#[]⟩,.string ⟨#[]⟩,.slice none 0 0,.slice none 0 0]):=(Blk.new w 76 #[.int .i64 0,.int .i64 0,.int .i64 0,.string ⟨#[]⟩,.bool false,.string ⟨#[]⟩,.int .i64 0,.int .i64 0,.int .i64 0,.string ⟨#[]⟩,.string ⟨#[]⟩,.slice none 0 0,.slice none 0 0,.slice none 0 0,.slice none 0 0,.bool false,.int .i64 0,.int .i64 0,.string ⟨#[]⟩,.string ⟨#[]⟩,.slice none 0 0,.slice none 0 0])
 have wxA:w.heap.size≤w.heap.size:=by omega
 have bxA:b < w.heap.size:=by omega
 clear S hn hf hr hR
 go_enter Tryz.func110,Tryz.ntmps110
 go_wp2_with fail
 refine (HWO.out _ _ wFunc S0.out).mono ?_
 rintro e w1 hT
 cases hq:wo l wFunc i with
 |out=>exact (HRO.out (by have h:=HR.out;rw [hq] at h;exact h.symm)).elim
 |err p q =>
  rw [hq] at hT
  obtain ⟨rfl,hK⟩:=hT
  have KE:=Lib.hid (K0.out.trans hK)
  have HB:Hid (EO.err p q=R):=by have h:=HR.out;rw [hq] at h;exact h
  clear hq hK
  go_wp2
  refine ⟨rfl,?_⟩
  rw [← HB.out]
  exact ⟨rfl,KE.out⟩
 |ok y0 j =>
  rw [hq] at hT
  obtain ⟨v,rfl,hv,hS,hK⟩:=hT
  have HR:Hid ((thn (rcv l j) fun r j=>thn (na l j) fun n j=>thn (bnds l f j) fun bs j=>thn (lstw l (prm l) f j) fun ps j=>thn (resw l 123 j) fun t j=>thn (blk l F fb 0 j) fun bd q=>EO.ok (⟨3,n.2,0,n.1,r.1,r.2,bs,ps,[],t.1,t.2,bd⟩:DX) q)=R):=by have h:=HR.out;rw [hq] at h;exact h
  obtain rfl:v=.tuple #[]:=hv
  have S1:=Lib.hid hS
  have K1:=Lib.hid (K0.out.trans hK)
  have hb1:=hS.lt
  have XA1:=Lib.hid (XA0.out.kp hK (by omega))
  have lA1:=XA1.out.lt
  clear hS hK hq
  have XB0:=Lib.hid (Blk.new w1 76 #[.int .i64 3,.int .i64 0,.int .i64 0,.string ⟨#[]⟩,.bool false,.string ⟨#[]⟩,.int .i64 0,.int .i64 0,.int .i64 0,.string ⟨#[]⟩,.string ⟨#[]⟩,.slice none 0 0,.slice none 0 0,.slice none 0 0,.slice none 0 0,.bool false,.int .i64 0,.int .i64 0,.string ⟨#[]⟩,.string ⟨#[]⟩,.slice none 0 0,.slice none 0 0])
  have wxB:w.heap.size≤w1.heap.size:=K1.out.size
  have bxB:b < w1.heap.size:=hb1
  have oAB:w.heap.size < w1.heap.size:=lA1
  have S1a:=Lib.hid (S1.out.alloc (.cells #[.int .i64 3,.int .i64 0,.int .i64 0,.string ⟨#[]⟩,.bool false,.string ⟨#[]⟩,.int .i64 0,.int .i64 0,.int .i64 0,.string ⟨#[]⟩,.string ⟨#[]⟩,.slice none 0 0,.slice none 0 0,.slice none 0 0,.slice none 0 0,.bool false,.int .i64 0,.int .i64 0,.string ⟨#[]⟩,.string ⟨#[]⟩,.slice none 0 0,.slice none 0 0] 76))
  have K1a:=Lib.hid (K1.out.alloc (.cells #[.int .i64 3,.int .i64 0,.int .i64 0,.string ⟨#[]⟩,.bool false,.string ⟨#[]⟩,.int .i64 0,.int .i64 0,.int .i64 0,.string ⟨#[]⟩,.string ⟨#[]⟩,.slice none 0 0,.slice none 0 0,.slice none 0 0,.slice none 0 0,.bool false,.int .i64 0,.int .i64 0,.string ⟨#[]⟩,.string ⟨#[]⟩,.slice none 0 0,.slice none 0 0] 76))
  have XA1a:=Lib.hid (XA1.out.alloc (.cells #[.int .i64 3,.int .i64 0,.int .i64 0,.string ⟨#[]⟩,.bool false,.string ⟨#[]⟩,.int .i64 0,.int .i64 0,.int .i64 0,.string ⟨#[]⟩,.string ⟨#[]⟩,.slice none 0 0,.slice none 0 0,.slice none 0 0,.slice none 0 0,.bool false,.int .i64 0,.int .i64 0,.string ⟨#[]⟩,.string ⟨#[]⟩,.slice none 0 0,.slice none 0 0] 76))
  have HSX:=Lib.hid (HSE.out _ j 40 S1a.out)
  cases hz:isS (tkAt l j) 40
  ·rw [hz] at HSX
   have HR:Hid ((thn (na l j) fun n j=>thn (bnds l f j) fun bs j=>thn (lstw l (prm l) f j) fun ps j=>thn (resw l 123 j) fun t j=>thn (blk l F fb 0 j) fun bd q=>EO.ok (⟨3,n.2,0,n.1,false,noPX,bs,ps,[],t.1,t.2,bd⟩:DX) q)=R):=by have h:=HR.out;rw [rcv_no hz] at h;exact h
   clear hz
   go_wp2_with (first | (refine boxNew 76 22 (sizeOfI infoD) rfl _ _ rfl rfl _ rfl rfl rfl rfl ?_))
   refine HSX.out.mono ?_
   rintro e w2 ⟨rfl,hB⟩
   have S2:=Lib.hid (S1a.out.step hB)
   have K2:=Lib.hid (K1a.out.then_below hB)
   have hb2:=S2.out.lt
   have XA2:=Lib.hid (XA1a.out.below hB)
   have lA2:=XA2.out.lt
   have XB2:=Lib.hid (XB0.out.below hB)
   have lB2:=XB2.out.lt
   clear hB HSX
   go_wp2_with fail
   refine (HNM.out _ _ S2.out).mono ?_
   rintro e w3 hT
   cases hq:na l j with
   |out=>exact (HRO.out (by have h:=HR.out;rw [hq] at h;exact h.symm)).elim
   |err p q =>
    rw [hq] at hT
    obtain ⟨rfl,hK⟩:=hT
    have KE:=Lib.hid (K2.out.trans hK)
    have HB:Hid (EO.err p q=R):=by have h:=HR.out;rw [hq] at h;exact h
    clear hq hK
    go_wp2
    refine ⟨rfl,?_⟩
    rw [← HB.out]
    exact ⟨rfl,KE.out⟩
   |ok n j =>
    rw [hq] at hT
    obtain ⟨v,rfl,hv,hS,hK⟩:=hT
    have HR:Hid ((thn (bnds l f j) fun bs j=>thn (lstw l (prm l) f j) fun ps j=>thn (resw l 123 j) fun t j=>thn (blk l F fb 0 j) fun bd q=>EO.ok (⟨3,n.2,0,n.1,false,noPX,bs,ps,[],t.1,t.2,bd⟩:DX) q)=R):=by have h:=HR.out;rw [hq] at h;exact h
    obtain rfl:v=.tuple #[.string n.1,.int .i64 n.2]:=hv
    have S3:=Lib.hid hS
    have K3:=Lib.hid (K2.out.trans hK)
    have hb3:=hS.lt
    have XA3:=Lib.hid (XA2.out.kp hK (by omega))
    have lA3:=XA3.out.lt
    have XB3:=Lib.hid (XB2.out.kp hK (by omega))
    have lB3:=XB3.out.lt
    clear hS hK hq
    have cX:=XB3.out.cell
    have fX:=XB3.out.frozen
    have lX:=XB3.out.lt
    have Ss1:=Lib.hid (S3.out.set_ (a:=⟨w1.heap.size,3,none⟩) (by simp only;omega) (.string n.1))
    have Ks1:=Lib.hid (K3.out.setCell (p:=⟨w1.heap.size,3,none⟩) (.inl (by simp only;omega)) (.string n.1))
    have XBs1:Hid (Blk _ w1.heap.size 76 #[.int .i64 3,.int .i64 0,.int .i64 0,.string n.1,.bool false,.string ⟨#[]⟩,.int .i64 0,.int .i64 0,.int .i64 0,.string ⟨#[]⟩,.string ⟨#[]⟩,.slice none 0 0,.slice none 0 0,.slice none 0 0,.slice none 0 0,.bool false,.int .i64 0,.int .i64 0,.string ⟨#[]⟩,.string ⟨#[]⟩,.slice none 0 0,.slice none 0 0]):=XB3.out.setL 3 (.string n.1)
    have XAs1:=Lib.hid (XA3.out.far (p:=⟨w1.heap.size,3,none⟩) (by simp only;omega) (.string n.1))
    have Ss2:=Lib.hid (Ss1.out.set_ (a:=⟨w1.heap.size,1,none⟩) (by simp only;omega) (.int .i64 n.2))
    have Ks2:=Lib.hid (Ks1.out.setCell (p:=⟨w1.heap.size,1,none⟩) (.inl (by simp only;omega)) (.int .i64 n.2))
    have XBs2:Hid (Blk _ w1.heap.size 76 #[.int .i64 3,.int .i64 n.2,.int .i64 0,.string n.1,.bool false,.string ⟨#[]⟩,.int .i64 0,.int .i64 0,.int .i64 0,.string ⟨#[]⟩,.string ⟨#[]⟩,.slice none 0 0,.slice none 0 0,.slice none 0 0,.slice none 0 0,.bool false,.int .i64 0,.int .i64 0,.string ⟨#[]⟩,.string ⟨#[]⟩,.slice none 0 0,.slice none 0 0]):=XBs1.out.setL 1 (.int .i64 n.2)
    have XAs2:=Lib.hid (XAs1.out.far (p:=⟨w1.heap.size,1,none⟩) (by simp only;omega) (.int .i64 n.2))
    have HSX:=Lib.hid (HSE.out _ j 91 Ss2.out)
    cases hz:isS (tkAt l j) 91
    ·rw [hz] at HSX
     have HR:Hid ((thn (lstw l (prm l) f j) fun ps j=>thn (resw l 123 j) fun t j=>thn (blk l F fb 0 j) fun bd q=>EO.ok (⟨3,n.2,0,n.1,false,noPX,[],ps,[],t.1,t.2,bd⟩:DX) q)=R):=by have h:=HR.out;rw [bnds_no hz] at h;exact h
     clear hz
     go_wp2_with fail
     refine HSX.out.mono ?_
     rintro e w4 ⟨rfl,hB⟩
     clear cX fX lX
     have S4:=Lib.hid (Ss2.out.step hB)
     have K4:=Lib.hid (Ks2.out.then_below hB)
     have hb4:=S4.out.lt
     have XA4:=Lib.hid (XAs2.out.below hB)
     have lA4:=XA4.out.lt
     have XB4:=Lib.hid (XBs2.out.below hB)
     have lB4:=XB4.out.lt
     clear hB HSX
     go_wp2_with fail
     refine (HLP.out _ _ S4.out (fun h0=>HRO.out (by have h:=HR.out;rw [h0] at h;exact h.symm))).mono ?_
     rintro e w5 hT
     cases hq:lstw l (prm l) f j with
     |out=>exact (HRO.out (by have h:=HR.out;rw [hq] at h;exact h.symm)).elim
     |err p q =>
      rw [hq] at hT
      obtain ⟨rfl,hK⟩:=hT
      have KE:=Lib.hid (K4.out.trans hK)
      have HB:Hid (EO.err p q=R):=by have h:=HR.out;rw [hq] at h;exact h
      clear hq hK
      go_wp2
      refine ⟨rfl,?_⟩
      rw [← HB.out]
      exact ⟨rfl,KE.out⟩
     |ok ps j =>
      rw [hq] at hT
      obtain ⟨v,rfl,hv,hS,hK⟩:=hT
      have HR:Hid ((thn (resw l 123 j) fun t j=>thn (blk l F fb 0 j) fun bd q=>EO.ok (⟨3,n.2,0,n.1,false,noPX,[],ps,[],t.1,t.2,bd⟩:DX) q)=R):=by have h:=HR.out;rw [hq] at h;exact h
      obtain ⟨QFo,QFc,rfl,hrow⟩:=hv
      have S5:=Lib.hid hS
      have K5:=Lib.hid (K4.out.trans hK)
      have hb5:=hS.lt
      have XA5:=Lib.hid (XA4.out.kp hK (by omega))
      have lA5:=XA5.out.lt
      have XB5:=Lib.hid (XB4.out.kp hK (by omega))
      have lB5:=XB5.out.lt
      have QF:=Lib.hid (monoR (B':=w1.heap.size + 1) (by have h:=XB4.out.lt;omega) hrow)
      clear hS hK hq hrow
      have cX:=XB5.out.cell
      have fX:=XB5.out.frozen
      have lX:=XB5.out.lt
      have Ss3:=Lib.hid (S5.out.set_ (a:=⟨w1.heap.size,13,none⟩) (by simp only;omega) (.slice QFo ps.length QFc))
      have Ks3:=Lib.hid (K5.out.setCell (p:=⟨w1.heap.size,13,none⟩) (.inl (by simp only;omega)) (.slice QFo ps.length QFc))
      have XBs3:Hid (Blk _ w1.heap.size 76 #[.int .i64 3,.int .i64 n.2,.int .i64 0,.string n.1,.bool false,.string ⟨#[]⟩,.int .i64 0,.int .i64 0,.int .i64 0,.string ⟨#[]⟩,.string ⟨#[]⟩,.slice none 0 0,.slice none 0 0,.slice QFo ps.length QFc,.slice none 0 0,.bool false,.int .i64 0,.int .i64 0,.string ⟨#[]⟩,.string ⟨#[]⟩,.slice none 0 0,.slice none 0 0]):=XB5.out.setL 13 (.slice QFo ps.length QFc)
      have XAs3:=Lib.hid (XA5.out.far (p:=⟨w1.heap.size,13,none⟩) (by simp only;omega) (.slice QFo ps.length QFc))
      have QF:=Lib.hid (stayR QF.out ((Ab.refl _ _).setCell (p:=⟨w1.heap.size,13,none⟩) (by simp only;omega) (.slice QFo ps.length QFc)))
      go_wp2_with fail
      refine (HRS.out _ _ 123 Ss3.out).mono ?_
      rintro e w6 hT
      cases hq:resw l 123 j with
      |out=>exact (HRO.out (by have h:=HR.out;rw [hq] at h;exact h.symm)).elim
      |err p q =>
       rw [hq] at hT
       obtain ⟨rfl,hK⟩:=hT
       have KE:=Lib.hid (Ks3.out.trans hK)
       have HB:Hid (EO.err p q=R):=by have h:=HR.out;rw [hq] at h;exact h
       clear hq hK
       go_wp2
       refine ⟨rfl,?_⟩
       rw [← HB.out]
       exact ⟨rfl,KE.out⟩
      |ok t j =>
       clear cX fX lX
       rw [hq] at hT
       obtain ⟨v,rfl,hv,hS,hK⟩:=hT
       have HR:Hid ((thn (blk l F fb 0 j) fun bd q=>EO.ok (⟨3,n.2,0,n.1,false,noPX,[],ps,[],t.1,t.2,bd⟩:DX) q)=R):=by have h:=HR.out;rw [hq] at h;exact h
       obtain ⟨tv,rfl,hrow⟩:=hv
       have hv2:=hrow
       obtain ⟨QTk,QTp,QTg,QTs,QTo,QTa,hve⟩:=IsTP.parts hv2
       subst hve
       have S6:=Lib.hid hS
       have K6:=Lib.hid (Ks3.out.trans hK)
       have hb6:=hS.lt
       have XA6:=Lib.hid (XAs3.out.kp hK (by omega))
       have lA6:=XA6.out.lt
       have XB6:=Lib.hid (XBs3.out.kp hK (by omega))
       have lB6:=XB6.out.lt
       have QF:=Lib.hid (stayR QF.out ((Ab.refl _ _).kp hK (by omega)))
       have QT:=Lib.hid (monoT (B':=w1.heap.size + 1) (by have h:=XBs3.out.lt;omega) hrow)
       clear hS hK hq hrow
       have cX:=XB6.out.cell
       have fX:=XB6.out.frozen
       have lX:=XB6.out.lt
       have Ss4:=Lib.hid (S6.out.set_ (a:=⟨w1.heap.size,15,none⟩) (by simp only;omega) (.bool t.1))
       have Ks4:=Lib.hid (K6.out.setCell (p:=⟨w1.heap.size,15,none⟩) (.inl (by simp only;omega)) (.bool t.1))
       have XBs4:Hid (Blk _ w1.heap.size 76 #[.int .i64 3,.int .i64 n.2,.int .i64 0,.string n.1,.bool false,.string ⟨#[]⟩,.int .i64 0,.int .i64 0,.int .i64 0,.string ⟨#[]⟩,.string ⟨#[]⟩,.slice none 0 0,.slice none 0 0,.slice QFo ps.length QFc,.slice none 0 0,.bool t.1,.int .i64 0,.int .i64 0,.string ⟨#[]⟩,.string ⟨#[]⟩,.slice none 0 0,.slice none 0 0]):=XB6.out.setL 15 (.bool t.1)
       have XAs4:=Lib.hid (XA6.out.far (p:=⟨w1.heap.size,15,none⟩) (by simp only;omega) (.bool t.1))
       have QF:=Lib.hid (stayR QF.out ((Ab.refl _ _).setCell (p:=⟨w1.heap.size,15,none⟩) (by simp only;omega) (.bool t.1)))
       have QT:=Lib.hid (stayT QT.out ((Ab.refl _ _).setCell (p:=⟨w1.heap.size,15,none⟩) (by simp only;omega) (.bool t.1)))
       have XBs5:Hid (Blk _ w1.heap.size 76 #[.int .i64 3,.int .i64 n.2,.int .i64 0,.string n.1,.bool false,.string ⟨#[]⟩,.int .i64 0,.int .i64 0,.int .i64 0,.string ⟨#[]⟩,.string ⟨#[]⟩,.slice none 0 0,.slice none 0 0,.slice QFo ps.length QFc,.slice none 0 0,.bool t.1,.int .i64 QTk,.int .i64 QTp,.string QTg,.string QTs,.slice QTo QTa QTa,.slice none 0 0]):=XBs4.out.row (putL [.int .i64 3,.int .i64 n.2,.int .i64 0,.string n.1,.bool false,.string ⟨#[]⟩,.int .i64 0,.int .i64 0,.int .i64 0,.string ⟨#[]⟩,.string ⟨#[]⟩,.slice none 0 0,.slice none 0 0,.slice QFo ps.length QFc,.slice none 0 0,.bool t.1,.int .i64 0,.int .i64 0,.string ⟨#[]⟩,.string ⟨#[]⟩,.slice none 0 0,.slice none 0 0] 16 [.int .i64 QTk,.int .i64 QTp,.string QTg,.string QTs,.slice QTo QTa QTa]).toArray
       have Ss5:=Lib.hid (Ss4.out.row (g:=w1.heap.size) (by omega) (putL [.int .i64 3,.int .i64 n.2,.int .i64 0,.string n.1,.bool false,.string ⟨#[]⟩,.int .i64 0,.int .i64 0,.int .i64 0,.string ⟨#[]⟩,.string ⟨#[]⟩,.slice none 0 0,.slice none 0 0,.slice QFo ps.length QFc,.slice none 0 0,.bool t.1,.int .i64 0,.int .i64 0,.string ⟨#[]⟩,.string ⟨#[]⟩,.slice none 0 0,.slice none 0 0] 16 [.int .i64 QTk,.int .i64 QTp,.string QTg,.string QTs,.slice QTo QTa QTa]).toArray)
       have Ks5:=Lib.hid (setRow_kp Ks4.out (g:=w1.heap.size) (.inl (by omega)) (putL [.int .i64 3,.int .i64 n.2,.int .i64 0,.string n.1,.bool false,.string ⟨#[]⟩,.int .i64 0,.int .i64 0,.int .i64 0,.string ⟨#[]⟩,.string ⟨#[]⟩,.slice none 0 0,.slice none 0 0,.slice QFo ps.length QFc,.slice none 0 0,.bool t.1,.int .i64 0,.int .i64 0,.string ⟨#[]⟩,.string ⟨#[]⟩,.slice none 0 0,.slice none 0 0] 16 [.int .i64 QTk,.int .i64 QTp,.string QTg,.string QTs,.slice QTo QTa QTa]).toArray)
       have XAs5:=Lib.hid (XAs4.out.rowFar (g:=w1.heap.size) (by omega) (putL [.int .i64 3,.int .i64 n.2,.int .i64 0,.string n.1,.bool false,.string ⟨#[]⟩,.int .i64 0,.int .i64 0,.int .i64 0,.string ⟨#[]⟩,.string ⟨#[]⟩,.slice none 0 0,.slice none 0 0,.slice QFo ps.length QFc,.slice none 0 0,.bool t.1,.int .i64 0,.int .i64 0,.string ⟨#[]⟩,.string ⟨#[]⟩,.slice none 0 0,.slice none 0 0] 16 [.int .i64 QTk,.int .i64 QTp,.string QTg,.string QTs,.slice QTo QTa QTa]).toArray)
       have QF:=Lib.hid (stayR QF.out (setRow_ab (Ab.refl _ _) (g:=w1.heap.size) (by omega) (putL [.int .i64 3,.int .i64 n.2,.int .i64 0,.string n.1,.bool false,.string ⟨#[]⟩,.int .i64 0,.int .i64 0,.int .i64 0,.string ⟨#[]⟩,.string ⟨#[]⟩,.slice none 0 0,.slice none 0 0,.slice QFo ps.length QFc,.slice none 0 0,.bool t.1,.int .i64 0,.int .i64 0,.string ⟨#[]⟩,.string ⟨#[]⟩,.slice none 0 0,.slice none 0 0] 16 [.int .i64 QTk,.int .i64 QTp,.string QTg,.string QTs,.slice QTo QTa QTa]).toArray))
       have QT:=Lib.hid (stayT QT.out (setRow_ab (Ab.refl _ _) (g:=w1.heap.size) (by omega) (putL [.int .i64 3,.int .i64 n.2,.int .i64 0,.string n.1,.bool false,.string ⟨#[]⟩,.int .i64 0,.int .i64 0,.int .i64 0,.string ⟨#[]⟩,.string ⟨#[]⟩,.slice none 0 0,.slice none 0 0,.slice QFo ps.length QFc,.slice none 0 0,.bool t.1,.int .i64 0,.int .i64 0,.string ⟨#[]⟩,.string ⟨#[]⟩,.slice none 0 0,.slice none 0 0] 16 [.int .i64 QTk,.int .i64 QTp,.string QTg,.string QTs,.slice QTo QTa QTa]).toArray))
       go_wp2_with (first | (refine boxPart 24 5 (sizeOfI infoT) rfl _ _ rfl w1.heap.size 16 rfl _ rfl XBs4.out rfl (Nat.le_of_ble_eq_true rfl) rfl ?_))
       refine (HBK.out _ _ Ss5.out (fun h0=>HRO.out (by have h:=HR.out;rw [h0] at h;exact h.symm))).mono ?_
       rintro e w7 hT
       cases hq:blk l F fb 0 j with
       |out=>exact (HRO.out (by have h:=HR.out;rw [hq] at h;exact h.symm)).elim
       |err p q =>
        rw [hq] at hT
        obtain ⟨rfl,hK⟩:=hT
        have KE:=Lib.hid (Ks5.out.trans hK)
        have HB:Hid (EO.err p q=R):=by have h:=HR.out;rw [hq] at h;exact h
        clear hq hK
        go_wp2
        refine ⟨rfl,?_⟩
        rw [← HB.out]
        exact ⟨rfl,KE.out⟩
       |ok bd q =>
        clear cX fX lX
        rw [hq] at hT
        obtain ⟨v,rfl,hv,hS,hK⟩:=hT
        have HR:Hid ((EO.ok (⟨3,n.2,0,n.1,false,noPX,[],ps,[],t.1,t.2,bd⟩:DX) q)=R):=by have h:=HR.out;rw [hq] at h;exact h
        obtain ⟨QSo,QSc,rfl,hrow⟩:=hv
        have S7:=Lib.hid hS
        have K7:=Lib.hid (Ks5.out.trans hK)
        have hb7:=hS.lt
        have XA7:=Lib.hid (XAs5.out.kp hK (by omega))
        have lA7:=XA7.out.lt
        have XB7:=Lib.hid (XBs5.out.kp hK (by omega))
        have lB7:=XB7.out.lt
        have QF:=Lib.hid (stayR QF.out ((Ab.refl _ _).kp hK (by omega)))
        have QT:=Lib.hid (stayT QT.out ((Ab.refl _ _).kp hK (by omega)))
        have QS:=Lib.hid (monoS (B':=w1.heap.size + 1) (by have h:=XBs5.out.lt;omega) hrow)
        clear hS hK hq hrow
        have cX:=XB7.out.cell
        have fX:=XB7.out.frozen
        have lX:=XB7.out.lt
        have Ss6:=Lib.hid (S7.out.set_ (a:=⟨w1.heap.size,21,none⟩) (by simp only;omega) (.slice QSo bd.length QSc))
        have Ks6:=Lib.hid (K7.out.setCell (p:=⟨w1.heap.size,21,none⟩) (.inl (by simp only;omega)) (.slice QSo bd.length QSc))
        have XBs6:Hid (Blk _ w1.heap.size 76 #[.int .i64 3,.int .i64 n.2,.int .i64 0,.string n.1,.bool false,.string ⟨#[]⟩,.int .i64 0,.int .i64 0,.int .i64 0,.string ⟨#[]⟩,.string ⟨#[]⟩,.slice none 0 0,.slice none 0 0,.slice QFo ps.length QFc,.slice none 0 0,.bool t.1,.int .i64 QTk,.int .i64 QTp,.string QTg,.string QTs,.slice QTo QTa QTa,.slice QSo bd.length QSc]):=XB7.out.setL 21 (.slice QSo bd.length QSc)
        have XAs6:=Lib.hid (XA7.out.far (p:=⟨w1.heap.size,21,none⟩) (by simp only;omega) (.slice QSo bd.length QSc))
        have QF:=Lib.hid (stayR QF.out ((Ab.refl _ _).setCell (p:=⟨w1.heap.size,21,none⟩) (by simp only;omega) (.slice QSo bd.length QSc)))
        have QT:=Lib.hid (stayT QT.out ((Ab.refl _ _).setCell (p:=⟨w1.heap.size,21,none⟩) (by simp only;omega) (.slice QSo bd.length QSc)))
        have QS:=Lib.hid (stayS QS.out ((Ab.refl _ _).setCell (p:=⟨w1.heap.size,21,none⟩) (by simp only;omega) (.slice QSo bd.length QSc)))
        go_wp2_with (first | (refine boxLoad 76 22 (sizeOfI infoD) Tryz.underlying76 rfl _ rfl w1.heap.size rfl XBs6.out rfl ?_) | (refine boxStore 76 22 (sizeOfI infoD) rfl _ _ rfl w.heap.size rfl _ rfl XAs6.out rfl rfl rfl ?_))
        refine bodyPost_ret (v:=.agg #[.int .i64 3,.int .i64 n.2,.int .i64 0,.string n.1,.bool false,.string ⟨#[]⟩,.int .i64 0,.int .i64 0,.int .i64 0,.string ⟨#[]⟩,.string ⟨#[]⟩,.slice none 0 0,.slice none 0 0,.slice QFo ps.length QFc,.slice none 0 0,.bool t.1,.int .i64 QTk,.int .i64 QTp,.string QTg,.string QTs,.slice QTo QTa QTa,.slice QSo bd.length QSc]) ?_ ?_ ?_
        ·exact boxRes 76 22 (sizeOfI infoD) Tryz.underlying76 Tryz.results110 _ w.heap.size rfl (XAs6.out.row _) rfl
        ·rfl
        rw [← HR.out]
        exact ⟨_,rfl,⟨_,_,_,_,_,_,_,_,_,_,_,_,_,_,_,_,_,_,_,_,_,_,rfl,noPX_at _ _,trivial,monoR (E:=eltP) (by omega) (stayR (E:=eltP) QF.out (setRow_ab (Ab.refl _ _) (g:=w.heap.size) (by omega) _)),trivial,monoT (by omega) (stayT QT.out (setRow_ab (Ab.refl _ _) (g:=w.heap.size) (by omega) _)),monoS (by omega) (stayS QS.out (setRow_ab (Ab.refl _ _) (g:=w.heap.size) (by omega) _))⟩,Ss6.out.row (by omega) _,setRow_kp Ks6.out (.inl (by omega)) _⟩
    ·rw [hz] at HSX
     have HR:Hid ((thn (bndw l f j) fun bs j=>thn (lstw l (prm l) f j) fun ps j=>thn (resw l 123 j) fun t j=>thn (blk l F fb 0 j) fun bd q=>EO.ok (⟨3,n.2,0,n.1,false,noPX,bs,ps,[],t.1,t.2,bd⟩:DX) q)=R):=by have h:=HR.out;rw [bnds_yes hz] at h;exact h
     clear hz
     go_wp2_with fail
     refine HSX.out.mono ?_
     rintro e w4 ⟨rfl,hB⟩
     clear cX fX lX
     have S4:=Lib.hid (Ss2.out.step hB)
     have K4:=Lib.hid (Ks2.out.then_below hB)
     have hb4:=S4.out.lt
     have XA4:=Lib.hid (XAs2.out.below hB)
     have lA4:=XA4.out.lt
     have XB4:=Lib.hid (XBs2.out.below hB)
     have lB4:=XB4.out.lt
     clear hB HSX
     go_wp2_with fail
     refine (HBN.out _ _ S4.out (fun h0=>HRO.out (by have h:=HR.out;rw [h0] at h;exact h.symm))).mono ?_
     rintro e w5 hT
     cases hq:bndw l f j with
     |out=>exact (HRO.out (by have h:=HR.out;rw [hq] at h;exact h.symm)).elim
     |err p q =>
      rw [hq] at hT
      obtain ⟨rfl,hK⟩:=hT
      have KE:=Lib.hid (K4.out.trans hK)
      have HB:Hid (EO.err p q=R):=by have h:=HR.out;rw [hq] at h;exact h
      clear hq hK
      go_wp2
      refine ⟨rfl,?_⟩
      rw [← HB.out]
      exact ⟨rfl,KE.out⟩
     |ok bs j =>
      rw [hq] at hT
      obtain ⟨v,rfl,hv,hS,hK⟩:=hT
      have HR:Hid ((thn (lstw l (prm l) f j) fun ps j=>thn (resw l 123 j) fun t j=>thn (blk l F fb 0 j) fun bd q=>EO.ok (⟨3,n.2,0,n.1,false,noPX,bs,ps,[],t.1,t.2,bd⟩:DX) q)=R):=by have h:=HR.out;rw [hq] at h;exact h
      obtain ⟨QBo,QBc,rfl,hrow⟩:=hv
      have S5:=Lib.hid hS
      have K5:=Lib.hid (K4.out.trans hK)
      have hb5:=hS.lt
      have XA5:=Lib.hid (XA4.out.kp hK (by omega))
      have lA5:=XA5.out.lt
      have XB5:=Lib.hid (XB4.out.kp hK (by omega))
      have lB5:=XB5.out.lt
      have QB:=Lib.hid (monoR (B':=w1.heap.size + 1) (by have h:=XB4.out.lt;omega) hrow)
      clear hS hK hq hrow
      have cX:=XB5.out.cell
      have fX:=XB5.out.frozen
      have lX:=XB5.out.lt
      have Ss3:=Lib.hid (S5.out.set_ (a:=⟨w1.heap.size,12,none⟩) (by simp only;omega) (.slice QBo bs.length QBc))
      have Ks3:=Lib.hid (K5.out.setCell (p:=⟨w1.heap.size,12,none⟩) (.inl (by simp only;omega)) (.slice QBo bs.length QBc))
      have XBs3:Hid (Blk _ w1.heap.size 76 #[.int .i64 3,.int .i64 n.2,.int .i64 0,.string n.1,.bool false,.string ⟨#[]⟩,.int .i64 0,.int .i64 0,.int .i64 0,.string ⟨#[]⟩,.string ⟨#[]⟩,.slice none 0 0,.slice QBo bs.length QBc,.slice none 0 0,.slice none 0 0,.bool false,.int .i64 0,.int .i64 0,.string ⟨#[]⟩,.string ⟨#[]⟩,.slice none 0 0,.slice none 0 0]):=XB5.out.setL 12 (.slice QBo bs.length QBc)
      have XAs3:=Lib.hid (XA5.out.far (p:=⟨w1.heap.size,12,none⟩) (by simp only;omega) (.slice QBo bs.length QBc))
      have QB:=Lib.hid (stayR QB.out ((Ab.refl _ _).setCell (p:=⟨w1.heap.size,12,none⟩) (by simp only;omega) (.slice QBo bs.length QBc)))
      go_wp2_with fail
      refine (HLP.out _ _ Ss3.out (fun h0=>HRO.out (by have h:=HR.out;rw [h0] at h;exact h.symm))).mono ?_
      rintro e w6 hT
      cases hq:lstw l (prm l) f j with
      |out=>exact (HRO.out (by have h:=HR.out;rw [hq] at h;exact h.symm)).elim
      |err p q =>
       rw [hq] at hT
       obtain ⟨rfl,hK⟩:=hT
       have KE:=Lib.hid (Ks3.out.trans hK)
       have HB:Hid (EO.err p q=R):=by have h:=HR.out;rw [hq] at h;exact h
       clear hq hK
       go_wp2
       refine ⟨rfl,?_⟩
       rw [← HB.out]
       exact ⟨rfl,KE.out⟩
      |ok ps j =>
       clear cX fX lX
       rw [hq] at hT
       obtain ⟨v,rfl,hv,hS,hK⟩:=hT
       have HR:Hid ((thn (resw l 123 j) fun t j=>thn (blk l F fb 0 j) fun bd q=>EO.ok (⟨3,n.2,0,n.1,false,noPX,bs,ps,[],t.1,t.2,bd⟩:DX) q)=R):=by have h:=HR.out;rw [hq] at h;exact h
       obtain ⟨QFo,QFc,rfl,hrow⟩:=hv
       have S6:=Lib.hid hS
       have K6:=Lib.hid (Ks3.out.trans hK)
       have hb6:=hS.lt
       have XA6:=Lib.hid (XAs3.out.kp hK (by omega))
       have lA6:=XA6.out.lt
       have XB6:=Lib.hid (XBs3.out.kp hK (by omega))
       have lB6:=XB6.out.lt
       have QB:=Lib.hid (stayR QB.out ((Ab.refl _ _).kp hK (by omega)))
       have QF:=Lib.hid (monoR (B':=w1.heap.size + 1) (by have h:=XBs3.out.lt;omega) hrow)
       clear hS hK hq hrow
       have cX:=XB6.out.cell
       have fX:=XB6.out.frozen
       have lX:=XB6.out.lt
       have Ss4:=Lib.hid (S6.out.set_ (a:=⟨w1.heap.size,13,none⟩) (by simp only;omega) (.slice QFo ps.length QFc))
       have Ks4:=Lib.hid (K6.out.setCell (p:=⟨w1.heap.size,13,none⟩) (.inl (by simp only;omega)) (.slice QFo ps.length QFc))
       have XBs4:Hid (Blk _ w1.heap.size 76 #[.int .i64 3,.int .i64 n.2,.int .i64 0,.string n.1,.bool false,.string ⟨#[]⟩,.int .i64 0,.int .i64 0,.int .i64 0,.string ⟨#[]⟩,.string ⟨#[]⟩,.slice none 0 0,.slice QBo bs.length QBc,.slice QFo ps.length QFc,.slice none 0 0,.bool false,.int .i64 0,.int .i64 0,.string ⟨#[]⟩,.string ⟨#[]⟩,.slice none 0 0,.slice none 0 0]):=XB6.out.setL 13 (.slice QFo ps.length QFc)
       have XAs4:=Lib.hid (XA6.out.far (p:=⟨w1.heap.size,13,none⟩) (by simp only;omega) (.slice QFo ps.length QFc))
       have QB:=Lib.hid (stayR QB.out ((Ab.refl _ _).setCell (p:=⟨w1.heap.size,13,none⟩) (by simp only;omega) (.slice QFo ps.length QFc)))
       have QF:=Lib.hid (stayR QF.out ((Ab.refl _ _).setCell (p:=⟨w1.heap.size,13,none⟩) (by simp only;omega) (.slice QFo ps.length QFc)))
       go_wp2_with fail
       refine (HRS.out _ _ 123 Ss4.out).mono ?_
       rintro e w7 hT
       cases hq:resw l 123 j with
       |out=>exact (HRO.out (by have h:=HR.out;rw [hq] at h;exact h.symm)).elim
       |err p q =>
        rw [hq] at hT
        obtain ⟨rfl,hK⟩:=hT
        have KE:=Lib.hid (Ks4.out.trans hK)
        have HB:Hid (EO.err p q=R):=by have h:=HR.out;rw [hq] at h;exact h
        clear hq hK
        go_wp2
        refine ⟨rfl,?_⟩
        rw [← HB.out]
        exact ⟨rfl,KE.out⟩
       |ok t j =>
        clear cX fX lX
        rw [hq] at hT
        obtain ⟨v,rfl,hv,hS,hK⟩:=hT
        have HR:Hid ((thn (blk l F fb 0 j) fun bd q=>EO.ok (⟨3,n.2,0,n.1,false,noPX,bs,ps,[],t.1,t.2,bd⟩:DX) q)=R):=by have h:=HR.out;rw [hq] at h;exact h
        obtain ⟨tv,rfl,hrow⟩:=hv
        have hv2:=hrow
        obtain ⟨QTk,QTp,QTg,QTs,QTo,QTa,hve⟩:=IsTP.parts hv2
        subst hve
        have S7:=Lib.hid hS
        have K7:=Lib.hid (Ks4.out.trans hK)
        have hb7:=hS.lt
        have XA7:=Lib.hid (XAs4.out.kp hK (by omega))
        have lA7:=XA7.out.lt
        have XB7:=Lib.hid (XBs4.out.kp hK (by omega))
        have lB7:=XB7.out.lt
        have QB:=Lib.hid (stayR QB.out ((Ab.refl _ _).kp hK (by omega)))
        have QF:=Lib.hid (stayR QF.out ((Ab.refl _ _).kp hK (by omega)))
        have QT:=Lib.hid (monoT (B':=w1.heap.size + 1) (by have h:=XBs4.out.lt;omega) hrow)
        clear hS hK hq hrow
        have cX:=XB7.out.cell
        have fX:=XB7.out.frozen
        have lX:=XB7.out.lt
        have Ss5:=Lib.hid (S7.out.set_ (a:=⟨w1.heap.size,15,none⟩) (by simp only;omega) (.bool t.1))
        have Ks5:=Lib.hid (K7.out.setCell (p:=⟨w1.heap.size,15,none⟩) (.inl (by simp only;omega)) (.bool t.1))
        have XBs5:Hid (Blk _ w1.heap.size 76 #[.int .i64 3,.int .i64 n.2,.int .i64 0,.string n.1,.bool false,.string ⟨#[]⟩,.int .i64 0,.int .i64 0,.int .i64 0,.string ⟨#[]⟩,.string ⟨#[]⟩,.slice none 0 0,.slice QBo bs.length QBc,.slice QFo ps.length QFc,.slice none 0 0,.bool t.1,.int .i64 0,.int .i64 0,.string ⟨#[]⟩,.string ⟨#[]⟩,.slice none 0 0,.slice none 0 0]):=XB7.out.setL 15 (.bool t.1)
        have XAs5:=Lib.hid (XA7.out.far (p:=⟨w1.heap.size,15,none⟩) (by simp only;omega) (.bool t.1))
        have QB:=Lib.hid (stayR QB.out ((Ab.refl _ _).setCell (p:=⟨w1.heap.size,15,none⟩) (by simp only;omega) (.bool t.1)))
        have QF:=Lib.hid (stayR QF.out ((Ab.refl _ _).setCell (p:=⟨w1.heap.size,15,none⟩) (by simp only;omega) (.bool t.1)))
        have QT:=Lib.hid (stayT QT.out ((Ab.refl _ _).setCell (p:=⟨w1.heap.size,15,none⟩) (by simp only;omega) (.bool t.1)))
        have XBs6:Hid (Blk _ w1.heap.size 76 #[.int .i64 3,.int .i64 n.2,.int .i64 0,.string n.1,.bool false,.string ⟨#[]⟩,.int .i64 0,.int .i64 0,.int .i64 0,.string ⟨#[]⟩,.string ⟨#[]⟩,.slice none 0 0,.slice QBo bs.length QBc,.slice QFo ps.length QFc,.slice none 0 0,.bool t.1,.int .i64 QTk,.int .i64 QTp,.string QTg,.string QTs,.slice QTo QTa QTa,.slice none 0 0]):=XBs5.out.row (putL [.int .i64 3,.int .i64 n.2,.int .i64 0,.string n.1,.bool false,.string ⟨#[]⟩,.int .i64 0,.int .i64 0,.int .i64 0,.string ⟨#[]⟩,.string ⟨#[]⟩,.slice none 0 0,.slice QBo bs.length QBc,.slice QFo ps.length QFc,.slice none 0 0,.bool t.1,.int .i64 0,.int .i64 0,.string ⟨#[]⟩,.string ⟨#[]⟩,.slice none 0 0,.slice none 0 0] 16 [.int .i64 QTk,.int .i64 QTp,.string QTg,.string QTs,.slice QTo QTa QTa]).toArray
        have Ss6:=Lib.hid (Ss5.out.row (g:=w1.heap.size) (by omega) (putL [.int .i64 3,.int .i64 n.2,.int .i64 0,.string n.1,.bool false,.string ⟨#[]⟩,.int .i64 0,.int .i64 0,.int .i64 0,.string ⟨#[]⟩,.string ⟨#[]⟩,.slice none 0 0,.slice QBo bs.length QBc,.slice QFo ps.length QFc,.slice none 0 0,.bool t.1,.int .i64 0,.int .i64 0,.string ⟨#[]⟩,.string ⟨#[]⟩,.slice none 0 0,.slice none 0 0] 16 [.int .i64 QTk,.int .i64 QTp,.string QTg,.string QTs,.slice QTo QTa QTa]).toArray)
        have Ks6:=Lib.hid (setRow_kp Ks5.out (g:=w1.heap.size) (.inl (by omega)) (putL [.int .i64 3,.int .i64 n.2,.int .i64 0,.string n.1,.bool false,.string ⟨#[]⟩,.int .i64 0,.int .i64 0,.int .i64 0,.string ⟨#[]⟩,.string ⟨#[]⟩,.slice none 0 0,.slice QBo bs.length QBc,.slice QFo ps.length QFc,.slice none 0 0,.bool t.1,.int .i64 0,.int .i64 0,.string ⟨#[]⟩,.string ⟨#[]⟩,.slice none 0 0,.slice none 0 0] 16 [.int .i64 QTk,.int .i64 QTp,.string QTg,.string QTs,.slice QTo QTa QTa]).toArray)
        have XAs6:=Lib.hid (XAs5.out.rowFar (g:=w1.heap.size) (by omega) (putL [.int .i64 3,.int .i64 n.2,.int .i64 0,.string n.1,.bool false,.string ⟨#[]⟩,.int .i64 0,.int .i64 0,.int .i64 0,.string ⟨#[]⟩,.string ⟨#[]⟩,.slice none 0 0,.slice QBo bs.length QBc,.slice QFo ps.length QFc,.slice none 0 0,.bool t.1,.int .i64 0,.int .i64 0,.string ⟨#[]⟩,.string ⟨#[]⟩,.slice none 0 0,.slice none 0 0] 16 [.int .i64 QTk,.int .i64 QTp,.string QTg,.string QTs,.slice QTo QTa QTa]).toArray)
        have QB:=Lib.hid (stayR QB.out (setRow_ab (Ab.refl _ _) (g:=w1.heap.size) (by omega) (putL [.int .i64 3,.int .i64 n.2,.int .i64 0,.string n.1,.bool false,.string ⟨#[]⟩,.int .i64 0,.int .i64 0,.int .i64 0,.string ⟨#[]⟩,.string ⟨#[]⟩,.slice none 0 0,.slice QBo bs.length QBc,.slice QFo ps.length QFc,.slice none 0 0,.bool t.1,.int .i64 0,.int .i64 0,.string ⟨#[]⟩,.string ⟨#[]⟩,.slice none 0 0,.slice none 0 0] 16 [.int .i64 QTk,.int .i64 QTp,.string QTg,.string QTs,.slice QTo QTa QTa]).toArray))
        have QF:=Lib.hid (stayR QF.out (setRow_ab (Ab.refl _ _) (g:=w1.heap.size) (by omega) (putL [.int .i64 3,.int .i64 n.2,.int .i64 0,.string n.1,.bool false,.string ⟨#[]⟩,.int .i64 0,.int .i64 0,.int .i64 0,.string ⟨#[]⟩,.string ⟨#[]⟩,.slice none 0 0,.slice QBo bs.length QBc,.slice QFo ps.length QFc,.slice none 0 0,.bool t.1,.int .i64 0,.int .i64 0,.string ⟨#[]⟩,.string ⟨#[]⟩,.slice none 0 0,.slice none 0 0] 16 [.int .i64 QTk,.int .i64 QTp,.string QTg,.string QTs,.slice QTo QTa QTa]).toArray))
        have QT:=Lib.hid (stayT QT.out (setRow_ab (Ab.refl _ _) (g:=w1.heap.size) (by omega) (putL [.int .i64 3,.int .i64 n.2,.int .i64 0,.string n.1,.bool false,.string ⟨#[]⟩,.int .i64 0,.int .i64 0,.int .i64 0,.string ⟨#[]⟩,.string ⟨#[]⟩,.slice none 0 0,.slice QBo bs.length QBc,.slice QFo ps.length QFc,.slice none 0 0,.bool t.1,.int .i64 0,.int .i64 0,.string ⟨#[]⟩,.string ⟨#[]⟩,.slice none 0 0,.slice none 0 0] 16 [.int .i64 QTk,.int .i64 QTp,.string QTg,.string QTs,.slice QTo QTa QTa]).toArray))
        go_wp2_with (first | (refine boxPart 24 5 (sizeOfI infoT) rfl _ _ rfl w1.heap.size 16 rfl _ rfl XBs5.out rfl (Nat.le_of_ble_eq_true rfl) rfl ?_))
        refine (HBK.out _ _ Ss6.out (fun h0=>HRO.out (by have h:=HR.out;rw [h0] at h;exact h.symm))).mono ?_
        rintro e w8 hT
        cases hq:blk l F fb 0 j with
        |out=>exact (HRO.out (by have h:=HR.out;rw [hq] at h;exact h.symm)).elim
        |err p q =>
         rw [hq] at hT
         obtain ⟨rfl,hK⟩:=hT
         have KE:=Lib.hid (Ks6.out.trans hK)
         have HB:Hid (EO.err p q=R):=by have h:=HR.out;rw [hq] at h;exact h
         clear hq hK
         go_wp2
         refine ⟨rfl,?_⟩
         rw [← HB.out]
         exact ⟨rfl,KE.out⟩
        |ok bd q =>
         clear cX fX lX
         rw [hq] at hT
         obtain ⟨v,rfl,hv,hS,hK⟩:=hT
         have HR:Hid ((EO.ok (⟨3,n.2,0,n.1,false,noPX,bs,ps,[],t.1,t.2,bd⟩:DX) q)=R):=by have h:=HR.out;rw [hq] at h;exact h
         obtain ⟨QSo,QSc,rfl,hrow⟩:=hv
         have S8:=Lib.hid hS
         have K8:=Lib.hid (Ks6.out.trans hK)
         have hb8:=hS.lt
         have XA8:=Lib.hid (XAs6.out.kp hK (by omega))
         have lA8:=XA8.out.lt
         have XB8:=Lib.hid (XBs6.out.kp hK (by omega))
         have lB8:=XB8.out.lt
         have QB:=Lib.hid (stayR QB.out ((Ab.refl _ _).kp hK (by omega)))
         have QF:=Lib.hid (stayR QF.out ((Ab.refl _ _).kp hK (by omega)))
         have QT:=Lib.hid (stayT QT.out ((Ab.refl _ _).kp hK (by omega)))
         have QS:=Lib.hid (monoS (B':=w1.heap.size + 1) (by have h:=XBs6.out.lt;omega) hrow)
         clear hS hK hq hrow
         have cX:=XB8.out.cell
         have fX:=XB8.out.frozen
         have lX:=XB8.out.lt
         have Ss7:=Lib.hid (S8.out.set_ (a:=⟨w1.heap.size,21,none⟩) (by simp only;omega) (.slice QSo bd.length QSc))
         have Ks7:=Lib.hid (K8.out.setCell (p:=⟨w1.heap.size,21,none⟩) (.inl (by simp only;omega)) (.slice QSo bd.length QSc))
         have XBs7:Hid (Blk _ w1.heap.size 76 #[.int .i64 3,.int .i64 n.2,.int .i64 0,.string n.1,.bool false,.string ⟨#[]⟩,.int .i64 0,.int .i64 0,.int .i64 0,.string ⟨#[]⟩,.string ⟨#[]⟩,.slice none 0 0,.slice QBo bs.length QBc,.slice QFo ps.length QFc,.slice none 0 0,.bool t.1,.int .i64 QTk,.int .i64 QTp,.string QTg,.string QTs,.slice QTo QTa QTa,.slice QSo bd.length QSc]):=XB8.out.setL 21 (.slice QSo bd.length QSc)
         have XAs7:=Lib.hid (XA8.out.far (p:=⟨w1.heap.size,21,none⟩) (by simp only;omega) (.slice QSo bd.length QSc))
         have QB:=Lib.hid (stayR QB.out ((Ab.refl _ _).setCell (p:=⟨w1.heap.size,21,none⟩) (by simp only;omega) (.slice QSo bd.length QSc)))
         have QF:=Lib.hid (stayR QF.out ((Ab.refl _ _).setCell (p:=⟨w1.heap.size,21,none⟩) (by simp only;omega) (.slice QSo bd.length QSc)))
         have QT:=Lib.hid (stayT QT.out ((Ab.refl _ _).setCell (p:=⟨w1.heap.size,21,none⟩) (by simp only;omega) (.slice QSo bd.length QSc)))
         have QS:=Lib.hid (stayS QS.out ((Ab.refl _ _).setCell (p:=⟨w1.heap.size,21,none⟩) (by simp only;omega) (.slice QSo bd.length QSc)))
         go_wp2_with (first | (refine boxLoad 76 22 (sizeOfI infoD) Tryz.underlying76 rfl _ rfl w1.heap.size rfl XBs7.out rfl ?_) | (refine boxStore 76 22 (sizeOfI infoD) rfl _ _ rfl w.heap.size rfl _ rfl XAs7.out rfl rfl rfl ?_))
         refine bodyPost_ret (v:=.agg #[.int .i64 3,.int .i64 n.2,.int .i64 0,.string n.1,.bool false,.string ⟨#[]⟩,.int .i64 0,.int .i64 0,.int .i64 0,.string ⟨#[]⟩,.string ⟨#[]⟩,.slice none 0 0,.slice QBo bs.length QBc,.slice QFo ps.length QFc,.slice none 0 0,.bool t.1,.int .i64 QTk,.int .i64 QTp,.string QTg,.string QTs,.slice QTo QTa QTa,.slice QSo bd.length QSc]) ?_ ?_ ?_
         ·exact boxRes 76 22 (sizeOfI infoD) Tryz.underlying76 Tryz.results110 _ w.heap.size rfl (XAs7.out.row _) rfl
         ·rfl
         rw [← HR.out]
         exact ⟨_,rfl,⟨_,_,_,_,_,_,_,_,_,_,_,_,_,_,_,_,_,_,_,_,_,_,rfl,noPX_at _ _,monoR (E:=eltP) (by omega) (stayR (E:=eltP) QB.out (setRow_ab (Ab.refl _ _) (g:=w.heap.size) (by omega) _)),monoR (E:=eltP) (by omega) (stayR (E:=eltP) QF.out (setRow_ab (Ab.refl _ _) (g:=w.heap.size) (by omega) _)),trivial,monoT (by omega) (stayT QT.out (setRow_ab (Ab.refl _ _) (g:=w.heap.size) (by omega) _)),monoS (by omega) (stayS QS.out (setRow_ab (Ab.refl _ _) (g:=w.heap.size) (by omega) _))⟩,Ss7.out.row (by omega) _,setRow_kp Ks7.out (.inl (by omega)) _⟩
  ·rw [hz] at HSX
   have HR:Hid ((thn (rcvw l j) fun rx j=>thn (na l j) fun n j=>thn (bnds l f j) fun bs j=>thn (lstw l (prm l) f j) fun ps j=>thn (resw l 123 j) fun t j=>thn (blk l F fb 0 j) fun bd q=>EO.ok (⟨3,n.2,0,n.1,true,rx,bs,ps,[],t.1,t.2,bd⟩:DX) q)=R):=by have h:=HR.out;rw [rcv_yes hz,thn_assoc] at h;exact h
   clear hz
   go_wp2_with (first | (refine boxNew 76 22 (sizeOfI infoD) rfl _ _ rfl rfl _ rfl rfl rfl rfl ?_))
   refine HSX.out.mono ?_
   rintro e w2 ⟨rfl,hB⟩
   have S2:=Lib.hid (S1a.out.step hB)
   have K2:=Lib.hid (K1a.out.then_below hB)
   have hb2:=S2.out.lt
   have XA2:=Lib.hid (XA1a.out.below hB)
   have lA2:=XA2.out.lt
   have XB2:=Lib.hid (XB0.out.below hB)
   have lB2:=XB2.out.lt
   clear hB HSX
   go_wp2_with fail
   refine (HRC.out _ _ S2.out (fun h0=>HRO.out (by have h:=HR.out;rw [h0] at h;exact h.symm))).mono ?_
   rintro e w3 hT
   cases hq:rcvw l j with
   |out=>exact (HRO.out (by have h:=HR.out;rw [hq] at h;exact h.symm)).elim
   |err p q =>
    rw [hq] at hT
    obtain ⟨rfl,hK⟩:=hT
    have KE:=Lib.hid (K2.out.trans hK)
    have HB:Hid (EO.err p q=R):=by have h:=HR.out;rw [hq] at h;exact h
    clear hq hK
    go_wp2
    refine ⟨rfl,?_⟩
    rw [← HB.out]
    exact ⟨rfl,KE.out⟩
   |ok rx j =>
    rw [hq] at hT
    obtain ⟨v,rfl,hv,hS,hK⟩:=hT
    have HR:Hid ((thn (na l j) fun n j=>thn (bnds l f j) fun bs j=>thn (lstw l (prm l) f j) fun ps j=>thn (resw l 123 j) fun t j=>thn (blk l F fb 0 j) fun bd q=>EO.ok (⟨3,n.2,0,n.1,true,rx,bs,ps,[],t.1,t.2,bd⟩:DX) q)=R):=by have h:=HR.out;rw [hq] at h;exact h
    have hv2:=hv
    obtain ⟨QXk,QXp,QXg,QXs,QXo,QXa,hve,_⟩:=hv2
    subst hve
    have S3:=Lib.hid hS
    have K3:=Lib.hid (K2.out.trans hK)
    have hb3:=hS.lt
    have XA3:=Lib.hid (XA2.out.kp hK (by omega))
    have lA3:=XA3.out.lt
    have XB3:=Lib.hid (XB2.out.kp hK (by omega))
    have lB3:=XB3.out.lt
    have QX:=Lib.hid (monoP (B':=w1.heap.size + 1) (by have h:=XB2.out.lt;omega) hv)
    clear hS hK hq hv
    have cX:=XB3.out.cell
    have fX:=XB3.out.frozen
    have lX:=XB3.out.lt
    have Ss1:=Lib.hid (S3.out.set_ (a:=⟨w1.heap.size,4,none⟩) (by simp only;omega) (.bool true))
    have Ks1:=Lib.hid (K3.out.setCell (p:=⟨w1.heap.size,4,none⟩) (.inl (by simp only;omega)) (.bool true))
    have XBs1:Hid (Blk _ w1.heap.size 76 #[.int .i64 3,.int .i64 0,.int .i64 0,.string ⟨#[]⟩,.bool true,.string ⟨#[]⟩,.int .i64 0,.int .i64 0,.int .i64 0,.string ⟨#[]⟩,.string ⟨#[]⟩,.slice none 0 0,.slice none 0 0,.slice none 0 0,.slice none 0 0,.bool false,.int .i64 0,.int .i64 0,.string ⟨#[]⟩,.string ⟨#[]⟩,.slice none 0 0,.slice none 0 0]):=XB3.out.setL 4 (.bool true)
    have XAs1:=Lib.hid (XA3.out.far (p:=⟨w1.heap.size,4,none⟩) (by simp only;omega) (.bool true))
    have QX:=Lib.hid (stayP QX.out ((Ab.refl _ _).setCell (p:=⟨w1.heap.size,4,none⟩) (by simp only;omega) (.bool true)))
    have XBs2:Hid (Blk _ w1.heap.size 76 #[.int .i64 3,.int .i64 0,.int .i64 0,.string ⟨#[]⟩,.bool true,.string rx.name,.int .i64 rx.pos,.int .i64 QXk,.int .i64 QXp,.string QXg,.string QXs,.slice QXo QXa QXa,.slice none 0 0,.slice none 0 0,.slice none 0 0,.bool false,.int .i64 0,.int .i64 0,.string ⟨#[]⟩,.string ⟨#[]⟩,.slice none 0 0,.slice none 0 0]):=XBs1.out.row (putL [.int .i64 3,.int .i64 0,.int .i64 0,.string ⟨#[]⟩,.bool true,.string ⟨#[]⟩,.int .i64 0,.int .i64 0,.int .i64 0,.string ⟨#[]⟩,.string ⟨#[]⟩,.slice none 0 0,.slice none 0 0,.slice none 0 0,.slice none 0 0,.bool false,.int .i64 0,.int .i64 0,.string ⟨#[]⟩,.string ⟨#[]⟩,.slice none 0 0,.slice none 0 0] 5 [.string rx.name,.int .i64 rx.pos,.int .i64 QXk,.int .i64 QXp,.string QXg,.string QXs,.slice QXo QXa QXa]).toArray
    have Ss2:=Lib.hid (Ss1.out.row (g:=w1.heap.size) (by omega) (putL [.int .i64 3,.int .i64 0,.int .i64 0,.string ⟨#[]⟩,.bool true,.string ⟨#[]⟩,.int .i64 0,.int .i64 0,.int .i64 0,.string ⟨#[]⟩,.string ⟨#[]⟩,.slice none 0 0,.slice none 0 0,.slice none 0 0,.slice none 0 0,.bool false,.int .i64 0,.int .i64 0,.string ⟨#[]⟩,.string ⟨#[]⟩,.slice none 0 0,.slice none 0 0] 5 [.string rx.name,.int .i64 rx.pos,.int .i64 QXk,.int .i64 QXp,.string QXg,.string QXs,.slice QXo QXa QXa]).toArray)
    have Ks2:=Lib.hid (setRow_kp Ks1.out (g:=w1.heap.size) (.inl (by omega)) (putL [.int .i64 3,.int .i64 0,.int .i64 0,.string ⟨#[]⟩,.bool true,.string ⟨#[]⟩,.int .i64 0,.int .i64 0,.int .i64 0,.string ⟨#[]⟩,.string ⟨#[]⟩,.slice none 0 0,.slice none 0 0,.slice none 0 0,.slice none 0 0,.bool false,.int .i64 0,.int .i64 0,.string ⟨#[]⟩,.string ⟨#[]⟩,.slice none 0 0,.slice none 0 0] 5 [.string rx.name,.int .i64 rx.pos,.int .i64 QXk,.int .i64 QXp,.string QXg,.string QXs,.slice QXo QXa QXa]).toArray)
    have XAs2:=Lib.hid (XAs1.out.rowFar (g:=w1.heap.size) (by omega) (putL [.int .i64 3,.int .i64 0,.int .i64 0,.string ⟨#[]⟩,.bool true,.string ⟨#[]⟩,.int .i64 0,.int .i64 0,.int .i64 0,.string ⟨#[]⟩,.string ⟨#[]⟩,.slice none 0 0,.slice none 0 0,.slice none 0 0,.slice none 0 0,.bool false,.int .i64 0,.int .i64 0,.string ⟨#[]⟩,.string ⟨#[]⟩,.slice none 0 0,.slice none 0 0] 5 [.string rx.name,.int .i64 rx.pos,.int .i64 QXk,.int .i64 QXp,.string QXg,.string QXs,.slice QXo QXa QXa]).toArray)
    have QX:=Lib.hid (stayP QX.out (setRow_ab (Ab.refl _ _) (g:=w1.heap.size) (by omega) (putL [.int .i64 3,.int .i64 0,.int .i64 0,.string ⟨#[]⟩,.bool true,.string ⟨#[]⟩,.int .i64 0,.int .i64 0,.int .i64 0,.string ⟨#[]⟩,.string ⟨#[]⟩,.slice none 0 0,.slice none 0 0,.slice none 0 0,.slice none 0 0,.bool false,.int .i64 0,.int .i64 0,.string ⟨#[]⟩,.string ⟨#[]⟩,.slice none 0 0,.slice none 0 0] 5 [.string rx.name,.int .i64 rx.pos,.int .i64 QXk,.int .i64 QXp,.string QXg,.string QXs,.slice QXo QXa QXa]).toArray))
    go_wp2_with (first | (refine boxPart 72 7 (sizeOfI infoP) rfl _ _ rfl w1.heap.size 5 rfl _ rfl XBs1.out rfl (Nat.le_of_ble_eq_true rfl) rfl ?_))
    refine (HNM.out _ _ Ss2.out).mono ?_
    rintro e w4 hT
    cases hq:na l j with
    |out=>exact (HRO.out (by have h:=HR.out;rw [hq] at h;exact h.symm)).elim
    |err p q =>
     rw [hq] at hT
     obtain ⟨rfl,hK⟩:=hT
     have KE:=Lib.hid (Ks2.out.trans hK)
     have HB:Hid (EO.err p q=R):=by have h:=HR.out;rw [hq] at h;exact h
     clear hq hK
     go_wp2
     refine ⟨rfl,?_⟩
     rw [← HB.out]
     exact ⟨rfl,KE.out⟩
    |ok n j =>
     clear cX fX lX
     rw [hq] at hT
     obtain ⟨v,rfl,hv,hS,hK⟩:=hT
     have HR:Hid ((thn (bnds l f j) fun bs j=>thn (lstw l (prm l) f j) fun ps j=>thn (resw l 123 j) fun t j=>thn (blk l F fb 0 j) fun bd q=>EO.ok (⟨3,n.2,0,n.1,true,rx,bs,ps,[],t.1,t.2,bd⟩:DX) q)=R):=by have h:=HR.out;rw [hq] at h;exact h
     obtain rfl:v=.tuple #[.string n.1,.int .i64 n.2]:=hv
     have S4:=Lib.hid hS
     have K4:=Lib.hid (Ks2.out.trans hK)
     have hb4:=hS.lt
     have XA4:=Lib.hid (XAs2.out.kp hK (by omega))
     have lA4:=XA4.out.lt
     have XB4:=Lib.hid (XBs2.out.kp hK (by omega))
     have lB4:=XB4.out.lt
     have QX:=Lib.hid (stayP QX.out ((Ab.refl _ _).kp hK (by omega)))
     clear hS hK hq
     have cX:=XB4.out.cell
     have fX:=XB4.out.frozen
     have lX:=XB4.out.lt
     have Ss3:=Lib.hid (S4.out.set_ (a:=⟨w1.heap.size,3,none⟩) (by simp only;omega) (.string n.1))
     have Ks3:=Lib.hid (K4.out.setCell (p:=⟨w1.heap.size,3,none⟩) (.inl (by simp only;omega)) (.string n.1))
     have XBs3:Hid (Blk _ w1.heap.size 76 #[.int .i64 3,.int .i64 0,.int .i64 0,.string n.1,.bool true,.string rx.name,.int .i64 rx.pos,.int .i64 QXk,.int .i64 QXp,.string QXg,.string QXs,.slice QXo QXa QXa,.slice none 0 0,.slice none 0 0,.slice none 0 0,.bool false,.int .i64 0,.int .i64 0,.string ⟨#[]⟩,.string ⟨#[]⟩,.slice none 0 0,.slice none 0 0]):=XB4.out.setL 3 (.string n.1)
     have XAs3:=Lib.hid (XA4.out.far (p:=⟨w1.heap.size,3,none⟩) (by simp only;omega) (.string n.1))
     have QX:=Lib.hid (stayP QX.out ((Ab.refl _ _).setCell (p:=⟨w1.heap.size,3,none⟩) (by simp only;omega) (.string n.1)))
     have Ss4:=Lib.hid (Ss3.out.set_ (a:=⟨w1.heap.size,1,none⟩) (by simp only;omega) (.int .i64 n.2))
     have Ks4:=Lib.hid (Ks3.out.setCell (p:=⟨w1.heap.size,1,none⟩) (.inl (by simp only;omega)) (.int .i64 n.2))
     have XBs4:Hid (Blk _ w1.heap.size 76 #[.int .i64 3,.int .i64 n.2,.int .i64 0,.string n.1,.bool true,.string rx.name,.int .i64 rx.pos,.int .i64 QXk,.int .i64 QXp,.string QXg,.string QXs,.slice QXo QXa QXa,.slice none 0 0,.slice none 0 0,.slice none 0 0,.bool false,.int .i64 0,.int .i64 0,.string ⟨#[]⟩,.string ⟨#[]⟩,.slice none 0 0,.slice none 0 0]):=XBs3.out.setL 1 (.int .i64 n.2)
     have XAs4:=Lib.hid (XAs3.out.far (p:=⟨w1.heap.size,1,none⟩) (by simp only;omega) (.int .i64 n.2))
     have QX:=Lib.hid (stayP QX.out ((Ab.refl _ _).setCell (p:=⟨w1.heap.size,1,none⟩) (by simp only;omega) (.int .i64 n.2)))
     have HSX:=Lib.hid (HSE.out _ j 91 Ss4.out)
     cases hz:isS (tkAt l j) 91
     ·rw [hz] at HSX
      have HR:Hid ((thn (lstw l (prm l) f j) fun ps j=>thn (resw l 123 j) fun t j=>thn (blk l F fb 0 j) fun bd q=>EO.ok (⟨3,n.2,0,n.1,true,rx,[],ps,[],t.1,t.2,bd⟩:DX) q)=R):=by have h:=HR.out;rw [bnds_no hz] at h;exact h
      clear hz
      go_wp2_with fail
      refine HSX.out.mono ?_
      rintro e w5 ⟨rfl,hB⟩
      clear cX fX lX
      have S5:=Lib.hid (Ss4.out.step hB)
      have K5:=Lib.hid (Ks4.out.then_below hB)
      have hb5:=S5.out.lt
      have XA5:=Lib.hid (XAs4.out.below hB)
      have lA5:=XA5.out.lt
      have XB5:=Lib.hid (XBs4.out.below hB)
      have lB5:=XB5.out.lt
      have QX:=Lib.hid (stayP QX.out ((Ab.refl _ _).below hB))
      clear hB HSX
      go_wp2_with fail
      refine (HLP.out _ _ S5.out (fun h0=>HRO.out (by have h:=HR.out;rw [h0] at h;exact h.symm))).mono ?_
      rintro e w6 hT
      cases hq:lstw l (prm l) f j with
      |out=>exact (HRO.out (by have h:=HR.out;rw [hq] at h;exact h.symm)).elim
      |err p q =>
       rw [hq] at hT
       obtain ⟨rfl,hK⟩:=hT
       have KE:=Lib.hid (K5.out.trans hK)
       have HB:Hid (EO.err p q=R):=by have h:=HR.out;rw [hq] at h;exact h
       clear hq hK
       go_wp2
       refine ⟨rfl,?_⟩
       rw [← HB.out]
       exact ⟨rfl,KE.out⟩
      |ok ps j =>
       rw [hq] at hT
       obtain ⟨v,rfl,hv,hS,hK⟩:=hT
       have HR:Hid ((thn (resw l 123 j) fun t j=>thn (blk l F fb 0 j) fun bd q=>EO.ok (⟨3,n.2,0,n.1,true,rx,[],ps,[],t.1,t.2,bd⟩:DX) q)=R):=by have h:=HR.out;rw [hq] at h;exact h
       obtain ⟨QFo,QFc,rfl,hrow⟩:=hv
       have S6:=Lib.hid hS
       have K6:=Lib.hid (K5.out.trans hK)
       have hb6:=hS.lt
       have XA6:=Lib.hid (XA5.out.kp hK (by omega))
       have lA6:=XA6.out.lt
       have XB6:=Lib.hid (XB5.out.kp hK (by omega))
       have lB6:=XB6.out.lt
       have QX:=Lib.hid (stayP QX.out ((Ab.refl _ _).kp hK (by omega)))
       have QF:=Lib.hid (monoR (B':=w1.heap.size + 1) (by have h:=XB5.out.lt;omega) hrow)
       clear hS hK hq hrow
       have cX:=XB6.out.cell
       have fX:=XB6.out.frozen
       have lX:=XB6.out.lt
       have Ss5:=Lib.hid (S6.out.set_ (a:=⟨w1.heap.size,13,none⟩) (by simp only;omega) (.slice QFo ps.length QFc))
       have Ks5:=Lib.hid (K6.out.setCell (p:=⟨w1.heap.size,13,none⟩) (.inl (by simp only;omega)) (.slice QFo ps.length QFc))
       have XBs5:Hid (Blk _ w1.heap.size 76 #[.int .i64 3,.int .i64 n.2,.int .i64 0,.string n.1,.bool true,.string rx.name,.int .i64 rx.pos,.int .i64 QXk,.int .i64 QXp,.string QXg,.string QXs,.slice QXo QXa QXa,.slice none 0 0,.slice QFo ps.length QFc,.slice none 0 0,.bool false,.int .i64 0,.int .i64 0,.string ⟨#[]⟩,.string ⟨#[]⟩,.slice none 0 0,.slice none 0 0]):=XB6.out.setL 13 (.slice QFo ps.length QFc)
       have XAs5:=Lib.hid (XA6.out.far (p:=⟨w1.heap.size,13,none⟩) (by simp only;omega) (.slice QFo ps.length QFc))
       have QX:=Lib.hid (stayP QX.out ((Ab.refl _ _).setCell (p:=⟨w1.heap.size,13,none⟩) (by simp only;omega) (.slice QFo ps.length QFc)))
       have QF:=Lib.hid (stayR QF.out ((Ab.refl _ _).setCell (p:=⟨w1.heap.size,13,none⟩) (by simp only;omega) (.slice QFo ps.length QFc)))
       go_wp2_with fail
       refine (HRS.out _ _ 123 Ss5.out).mono ?_
       rintro e w7 hT
       cases hq:resw l 123 j with
       |out=>exact (HRO.out (by have h:=HR.out;rw [hq] at h;exact h.symm)).elim
       |err p q =>
        rw [hq] at hT
        obtain ⟨rfl,hK⟩:=hT
        have KE:=Lib.hid (Ks5.out.trans hK)
        have HB:Hid (EO.err p q=R):=by have h:=HR.out;rw [hq] at h;exact h
        clear hq hK
        go_wp2
        refine ⟨rfl,?_⟩
        rw [← HB.out]
        exact ⟨rfl,KE.out⟩
       |ok t j =>
        clear cX fX lX
        rw [hq] at hT
        obtain ⟨v,rfl,hv,hS,hK⟩:=hT
        have HR:Hid ((thn (blk l F fb 0 j) fun bd q=>EO.ok (⟨3,n.2,0,n.1,true,rx,[],ps,[],t.1,t.2,bd⟩:DX) q)=R):=by have h:=HR.out;rw [hq] at h;exact h
        obtain ⟨tv,rfl,hrow⟩:=hv
        have hv2:=hrow
        obtain ⟨QTk,QTp,QTg,QTs,QTo,QTa,hve⟩:=IsTP.parts hv2
        subst hve
        have S7:=Lib.hid hS
        have K7:=Lib.hid (Ks5.out.trans hK)
        have hb7:=hS.lt
        have XA7:=Lib.hid (XAs5.out.kp hK (by omega))
        have lA7:=XA7.out.lt
        have XB7:=Lib.hid (XBs5.out.kp hK (by omega))
        have lB7:=XB7.out.lt
        have QX:=Lib.hid (stayP QX.out ((Ab.refl _ _).kp hK (by omega)))
        have QF:=Lib.hid (stayR QF.out ((Ab.refl _ _).kp hK (by omega)))
        have QT:=Lib.hid (monoT (B':=w1.heap.size + 1) (by have h:=XBs5.out.lt;omega) hrow)
        clear hS hK hq hrow
        have cX:=XB7.out.cell
        have fX:=XB7.out.frozen
        have lX:=XB7.out.lt
        have Ss6:=Lib.hid (S7.out.set_ (a:=⟨w1.heap.size,15,none⟩) (by simp only;omega) (.bool t.1))
        have Ks6:=Lib.hid (K7.out.setCell (p:=⟨w1.heap.size,15,none⟩) (.inl (by simp only;omega)) (.bool t.1))
        have XBs6:Hid (Blk _ w1.heap.size 76 #[.int .i64 3,.int .i64 n.2,.int .i64 0,.string n.1,.bool true,.string rx.name,.int .i64 rx.pos,.int .i64 QXk,.int .i64 QXp,.string QXg,.string QXs,.slice QXo QXa QXa,.slice none 0 0,.slice QFo ps.length QFc,.slice none 0 0,.bool t.1,.int .i64 0,.int .i64 0,.string ⟨#[]⟩,.string ⟨#[]⟩,.slice none 0 0,.slice none 0 0]):=XB7.out.setL 15 (.bool t.1)
        have XAs6:=Lib.hid (XA7.out.far (p:=⟨w1.heap.size,15,none⟩) (by simp only;omega) (.bool t.1))
        have QX:=Lib.hid (stayP QX.out ((Ab.refl _ _).setCell (p:=⟨w1.heap.size,15,none⟩) (by simp only;omega) (.bool t.1)))
        have QF:=Lib.hid (stayR QF.out ((Ab.refl _ _).setCell (p:=⟨w1.heap.size,15,none⟩) (by simp only;omega) (.bool t.1)))
        have QT:=Lib.hid (stayT QT.out ((Ab.refl _ _).setCell (p:=⟨w1.heap.size,15,none⟩) (by simp only;omega) (.bool t.1)))
        have XBs7:Hid (Blk _ w1.heap.size 76 #[.int .i64 3,.int .i64 n.2,.int .i64 0,.string n.1,.bool true,.string rx.name,.int .i64 rx.pos,.int .i64 QXk,.int .i64 QXp,.string QXg,.string QXs,.slice QXo QXa QXa,.slice none 0 0,.slice QFo ps.length QFc,.slice none 0 0,.bool t.1,.int .i64 QTk,.int .i64 QTp,.string QTg,.string QTs,.slice QTo QTa QTa,.slice none 0 0]):=XBs6.out.row (putL [.int .i64 3,.int .i64 n.2,.int .i64 0,.string n.1,.bool true,.string rx.name,.int .i64 rx.pos,.int .i64 QXk,.int .i64 QXp,.string QXg,.string QXs,.slice QXo QXa QXa,.slice none 0 0,.slice QFo ps.length QFc,.slice none 0 0,.bool t.1,.int .i64 0,.int .i64 0,.string ⟨#[]⟩,.string ⟨#[]⟩,.slice none 0 0,.slice none 0 0] 16 [.int .i64 QTk,.int .i64 QTp,.string QTg,.string QTs,.slice QTo QTa QTa]).toArray
        have Ss7:=Lib.hid (Ss6.out.row (g:=w1.heap.size) (by omega) (putL [.int .i64 3,.int .i64 n.2,.int .i64 0,.string n.1,.bool true,.string rx.name,.int .i64 rx.pos,.int .i64 QXk,.int .i64 QXp,.string QXg,.string QXs,.slice QXo QXa QXa,.slice none 0 0,.slice QFo ps.length QFc,.slice none 0 0,.bool t.1,.int .i64 0,.int .i64 0,.string ⟨#[]⟩,.string ⟨#[]⟩,.slice none 0 0,.slice none 0 0] 16 [.int .i64 QTk,.int .i64 QTp,.string QTg,.string QTs,.slice QTo QTa QTa]).toArray)
        have Ks7:=Lib.hid (setRow_kp Ks6.out (g:=w1.heap.size) (.inl (by omega)) (putL [.int .i64 3,.int .i64 n.2,.int .i64 0,.string n.1,.bool true,.string rx.name,.int .i64 rx.pos,.int .i64 QXk,.int .i64 QXp,.string QXg,.string QXs,.slice QXo QXa QXa,.slice none 0 0,.slice QFo ps.length QFc,.slice none 0 0,.bool t.1,.int .i64 0,.int .i64 0,.string ⟨#[]⟩,.string ⟨#[]⟩,.slice none 0 0,.slice none 0 0] 16 [.int .i64 QTk,.int .i64 QTp,.string QTg,.string QTs,.slice QTo QTa QTa]).toArray)
        have XAs7:=Lib.hid (XAs6.out.rowFar (g:=w1.heap.size) (by omega) (putL [.int .i64 3,.int .i64 n.2,.int .i64 0,.string n.1,.bool true,.string rx.name,.int .i64 rx.pos,.int .i64 QXk,.int .i64 QXp,.string QXg,.string QXs,.slice QXo QXa QXa,.slice none 0 0,.slice QFo ps.length QFc,.slice none 0 0,.bool t.1,.int .i64 0,.int .i64 0,.string ⟨#[]⟩,.string ⟨#[]⟩,.slice none 0 0,.slice none 0 0] 16 [.int .i64 QTk,.int .i64 QTp,.string QTg,.string QTs,.slice QTo QTa QTa]).toArray)
        have QX:=Lib.hid (stayP QX.out (setRow_ab (Ab.refl _ _) (g:=w1.heap.size) (by omega) (putL [.int .i64 3,.int .i64 n.2,.int .i64 0,.string n.1,.bool true,.string rx.name,.int .i64 rx.pos,.int .i64 QXk,.int .i64 QXp,.string QXg,.string QXs,.slice QXo QXa QXa,.slice none 0 0,.slice QFo ps.length QFc,.slice none 0 0,.bool t.1,.int .i64 0,.int .i64 0,.string ⟨#[]⟩,.string ⟨#[]⟩,.slice none 0 0,.slice none 0 0] 16 [.int .i64 QTk,.int .i64 QTp,.string QTg,.string QTs,.slice QTo QTa QTa]).toArray))
        have QF:=Lib.hid (stayR QF.out (setRow_ab (Ab.refl _ _) (g:=w1.heap.size) (by omega) (putL [.int .i64 3,.int .i64 n.2,.int .i64 0,.string n.1,.bool true,.string rx.name,.int .i64 rx.pos,.int .i64 QXk,.int .i64 QXp,.string QXg,.string QXs,.slice QXo QXa QXa,.slice none 0 0,.slice QFo ps.length QFc,.slice none 0 0,.bool t.1,.int .i64 0,.int .i64 0,.string ⟨#[]⟩,.string ⟨#[]⟩,.slice none 0 0,.slice none 0 0] 16 [.int .i64 QTk,.int .i64 QTp,.string QTg,.string QTs,.slice QTo QTa QTa]).toArray))
        have QT:=Lib.hid (stayT QT.out (setRow_ab (Ab.refl _ _) (g:=w1.heap.size) (by omega) (putL [.int .i64 3,.int .i64 n.2,.int .i64 0,.string n.1,.bool true,.string rx.name,.int .i64 rx.pos,.int .i64 QXk,.int .i64 QXp,.string QXg,.string QXs,.slice QXo QXa QXa,.slice none 0 0,.slice QFo ps.length QFc,.slice none 0 0,.bool t.1,.int .i64 0,.int .i64 0,.string ⟨#[]⟩,.string ⟨#[]⟩,.slice none 0 0,.slice none 0 0] 16 [.int .i64 QTk,.int .i64 QTp,.string QTg,.string QTs,.slice QTo QTa QTa]).toArray))
        go_wp2_with (first | (refine boxPart 24 5 (sizeOfI infoT) rfl _ _ rfl w1.heap.size 16 rfl _ rfl XBs6.out rfl (Nat.le_of_ble_eq_true rfl) rfl ?_))
        refine (HBK.out _ _ Ss7.out (fun h0=>HRO.out (by have h:=HR.out;rw [h0] at h;exact h.symm))).mono ?_
        rintro e w8 hT
        cases hq:blk l F fb 0 j with
        |out=>exact (HRO.out (by have h:=HR.out;rw [hq] at h;exact h.symm)).elim
        |err p q =>
         rw [hq] at hT
         obtain ⟨rfl,hK⟩:=hT
         have KE:=Lib.hid (Ks7.out.trans hK)
         have HB:Hid (EO.err p q=R):=by have h:=HR.out;rw [hq] at h;exact h
         clear hq hK
         go_wp2
         refine ⟨rfl,?_⟩
         rw [← HB.out]
         exact ⟨rfl,KE.out⟩
        |ok bd q =>
         clear cX fX lX
         rw [hq] at hT
         obtain ⟨v,rfl,hv,hS,hK⟩:=hT
         have HR:Hid ((EO.ok (⟨3,n.2,0,n.1,true,rx,[],ps,[],t.1,t.2,bd⟩:DX) q)=R):=by have h:=HR.out;rw [hq] at h;exact h
         obtain ⟨QSo,QSc,rfl,hrow⟩:=hv
         have S8:=Lib.hid hS
         have K8:=Lib.hid (Ks7.out.trans hK)
         have hb8:=hS.lt
         have XA8:=Lib.hid (XAs7.out.kp hK (by omega))
         have lA8:=XA8.out.lt
         have XB8:=Lib.hid (XBs7.out.kp hK (by omega))
         have lB8:=XB8.out.lt
         have QX:=Lib.hid (stayP QX.out ((Ab.refl _ _).kp hK (by omega)))
         have QF:=Lib.hid (stayR QF.out ((Ab.refl _ _).kp hK (by omega)))
         have QT:=Lib.hid (stayT QT.out ((Ab.refl _ _).kp hK (by omega)))
         have QS:=Lib.hid (monoS (B':=w1.heap.size + 1) (by have h:=XBs7.out.lt;omega) hrow)
         clear hS hK hq hrow
         have cX:=XB8.out.cell
         have fX:=XB8.out.frozen
         have lX:=XB8.out.lt
         have Ss8:=Lib.hid (S8.out.set_ (a:=⟨w1.heap.size,21,none⟩) (by simp only;omega) (.slice QSo bd.length QSc))
         have Ks8:=Lib.hid (K8.out.setCell (p:=⟨w1.heap.size,21,none⟩) (.inl (by simp only;omega)) (.slice QSo bd.length QSc))
         have XBs8:Hid (Blk _ w1.heap.size 76 #[.int .i64 3,.int .i64 n.2,.int .i64 0,.string n.1,.bool true,.string rx.name,.int .i64 rx.pos,.int .i64 QXk,.int .i64 QXp,.string QXg,.string QXs,.slice QXo QXa QXa,.slice none 0 0,.slice QFo ps.length QFc,.slice none 0 0,.bool t.1,.int .i64 QTk,.int .i64 QTp,.string QTg,.string QTs,.slice QTo QTa QTa,.slice QSo bd.length QSc]):=XB8.out.setL 21 (.slice QSo bd.length QSc)
         have XAs8:=Lib.hid (XA8.out.far (p:=⟨w1.heap.size,21,none⟩) (by simp only;omega) (.slice QSo bd.length QSc))
         have QX:=Lib.hid (stayP QX.out ((Ab.refl _ _).setCell (p:=⟨w1.heap.size,21,none⟩) (by simp only;omega) (.slice QSo bd.length QSc)))
         have QF:=Lib.hid (stayR QF.out ((Ab.refl _ _).setCell (p:=⟨w1.heap.size,21,none⟩) (by simp only;omega) (.slice QSo bd.length QSc)))
         have QT:=Lib.hid (stayT QT.out ((Ab.refl _ _).setCell (p:=⟨w1.heap.size,21,none⟩) (by simp only;omega) (.slice QSo bd.length QSc)))
         have QS:=Lib.hid (stayS QS.out ((Ab.refl _ _).setCell (p:=⟨w1.heap.size,21,none⟩) (by simp only;omega) (.slice QSo bd.length QSc)))
         go_wp2_with (first | (refine boxLoad 76 22 (sizeOfI infoD) Tryz.underlying76 rfl _ rfl w1.heap.size rfl XBs8.out rfl ?_) | (refine boxStore 76 22 (sizeOfI infoD) rfl _ _ rfl w.heap.size rfl _ rfl XAs8.out rfl rfl rfl ?_))
         refine bodyPost_ret (v:=.agg #[.int .i64 3,.int .i64 n.2,.int .i64 0,.string n.1,.bool true,.string rx.name,.int .i64 rx.pos,.int .i64 QXk,.int .i64 QXp,.string QXg,.string QXs,.slice QXo QXa QXa,.slice none 0 0,.slice QFo ps.length QFc,.slice none 0 0,.bool t.1,.int .i64 QTk,.int .i64 QTp,.string QTg,.string QTs,.slice QTo QTa QTa,.slice QSo bd.length QSc]) ?_ ?_ ?_
         ·exact boxRes 76 22 (sizeOfI infoD) Tryz.underlying76 Tryz.results110 _ w.heap.size rfl (XAs8.out.row _) rfl
         ·rfl
         rw [← HR.out]
         exact ⟨_,rfl,⟨_,_,_,_,_,_,_,_,_,_,_,_,_,_,_,_,_,_,_,_,_,_,rfl,monoP (by omega) (stayP QX.out (setRow_ab (Ab.refl _ _) (g:=w.heap.size) (by omega) _)),trivial,monoR (E:=eltP) (by omega) (stayR (E:=eltP) QF.out (setRow_ab (Ab.refl _ _) (g:=w.heap.size) (by omega) _)),trivial,monoT (by omega) (stayT QT.out (setRow_ab (Ab.refl _ _) (g:=w.heap.size) (by omega) _)),monoS (by omega) (stayS QS.out (setRow_ab (Ab.refl _ _) (g:=w.heap.size) (by omega) _))⟩,Ss8.out.row (by omega) _,setRow_kp Ks8.out (.inl (by omega)) _⟩
     ·rw [hz] at HSX
      have HR:Hid ((thn (bndw l f j) fun bs j=>thn (lstw l (prm l) f j) fun ps j=>thn (resw l 123 j) fun t j=>thn (blk l F fb 0 j) fun bd q=>EO.ok (⟨3,n.2,0,n.1,true,rx,bs,ps,[],t.1,t.2,bd⟩:DX) q)=R):=by have h:=HR.out;rw [bnds_yes hz] at h;exact h
      clear hz
      go_wp2_with fail
      refine HSX.out.mono ?_
      rintro e w5 ⟨rfl,hB⟩
      clear cX fX lX
      have S5:=Lib.hid (Ss4.out.step hB)
      have K5:=Lib.hid (Ks4.out.then_below hB)
      have hb5:=S5.out.lt
      have XA5:=Lib.hid (XAs4.out.below hB)
      have lA5:=XA5.out.lt
      have XB5:=Lib.hid (XBs4.out.below hB)
      have lB5:=XB5.out.lt
      have QX:=Lib.hid (stayP QX.out ((Ab.refl _ _).below hB))
      clear hB HSX
      go_wp2_with fail
      refine (HBN.out _ _ S5.out (fun h0=>HRO.out (by have h:=HR.out;rw [h0] at h;exact h.symm))).mono ?_
      rintro e w6 hT
      cases hq:bndw l f j with
      |out=>exact (HRO.out (by have h:=HR.out;rw [hq] at h;exact h.symm)).elim
      |err p q =>
       rw [hq] at hT
       obtain ⟨rfl,hK⟩:=hT
       have KE:=Lib.hid (K5.out.trans hK)
       have HB:Hid (EO.err p q=R):=by have h:=HR.out;rw [hq] at h;exact h
       clear hq hK
       go_wp2
       refine ⟨rfl,?_⟩
       rw [← HB.out]
       exact ⟨rfl,KE.out⟩
      |ok bs j =>
       rw [hq] at hT
       obtain ⟨v,rfl,hv,hS,hK⟩:=hT
       have HR:Hid ((thn (lstw l (prm l) f j) fun ps j=>thn (resw l 123 j) fun t j=>thn (blk l F fb 0 j) fun bd q=>EO.ok (⟨3,n.2,0,n.1,true,rx,bs,ps,[],t.1,t.2,bd⟩:DX) q)=R):=by have h:=HR.out;rw [hq] at h;exact h
       obtain ⟨QBo,QBc,rfl,hrow⟩:=hv
       have S6:=Lib.hid hS
       have K6:=Lib.hid (K5.out.trans hK)
       have hb6:=hS.lt
       have XA6:=Lib.hid (XA5.out.kp hK (by omega))
       have lA6:=XA6.out.lt
       have XB6:=Lib.hid (XB5.out.kp hK (by omega))
       have lB6:=XB6.out.lt
       have QX:=Lib.hid (stayP QX.out ((Ab.refl _ _).kp hK (by omega)))
       have QB:=Lib.hid (monoR (B':=w1.heap.size + 1) (by have h:=XB5.out.lt;omega) hrow)
       clear hS hK hq hrow
       have cX:=XB6.out.cell
       have fX:=XB6.out.frozen
       have lX:=XB6.out.lt
       have Ss5:=Lib.hid (S6.out.set_ (a:=⟨w1.heap.size,12,none⟩) (by simp only;omega) (.slice QBo bs.length QBc))
       have Ks5:=Lib.hid (K6.out.setCell (p:=⟨w1.heap.size,12,none⟩) (.inl (by simp only;omega)) (.slice QBo bs.length QBc))
       have XBs5:Hid (Blk _ w1.heap.size 76 #[.int .i64 3,.int .i64 n.2,.int .i64 0,.string n.1,.bool true,.string rx.name,.int .i64 rx.pos,.int .i64 QXk,.int .i64 QXp,.string QXg,.string QXs,.slice QXo QXa QXa,.slice QBo bs.length QBc,.slice none 0 0,.slice none 0 0,.bool false,.int .i64 0,.int .i64 0,.string ⟨#[]⟩,.string ⟨#[]⟩,.slice none 0 0,.slice none 0 0]):=XB6.out.setL 12 (.slice QBo bs.length QBc)
       have XAs5:=Lib.hid (XA6.out.far (p:=⟨w1.heap.size,12,none⟩) (by simp only;omega) (.slice QBo bs.length QBc))
       have QX:=Lib.hid (stayP QX.out ((Ab.refl _ _).setCell (p:=⟨w1.heap.size,12,none⟩) (by simp only;omega) (.slice QBo bs.length QBc)))
       have QB:=Lib.hid (stayR QB.out ((Ab.refl _ _).setCell (p:=⟨w1.heap.size,12,none⟩) (by simp only;omega) (.slice QBo bs.length QBc)))
       go_wp2_with fail
       refine (HLP.out _ _ Ss5.out (fun h0=>HRO.out (by have h:=HR.out;rw [h0] at h;exact h.symm))).mono ?_
       rintro e w7 hT
       cases hq:lstw l (prm l) f j with
       |out=>exact (HRO.out (by have h:=HR.out;rw [hq] at h;exact h.symm)).elim
       |err p q =>
        rw [hq] at hT
        obtain ⟨rfl,hK⟩:=hT
        have KE:=Lib.hid (Ks5.out.trans hK)
        have HB:Hid (EO.err p q=R):=by have h:=HR.out;rw [hq] at h;exact h
        clear hq hK
        go_wp2
        refine ⟨rfl,?_⟩
        rw [← HB.out]
        exact ⟨rfl,KE.out⟩
       |ok ps j =>
        clear cX fX lX
        rw [hq] at hT
        obtain ⟨v,rfl,hv,hS,hK⟩:=hT
        have HR:Hid ((thn (resw l 123 j) fun t j=>thn (blk l F fb 0 j) fun bd q=>EO.ok (⟨3,n.2,0,n.1,true,rx,bs,ps,[],t.1,t.2,bd⟩:DX) q)=R):=by have h:=HR.out;rw [hq] at h;exact h
        obtain ⟨QFo,QFc,rfl,hrow⟩:=hv
        have S7:=Lib.hid hS
        have K7:=Lib.hid (Ks5.out.trans hK)
        have hb7:=hS.lt
        have XA7:=Lib.hid (XAs5.out.kp hK (by omega))
        have lA7:=XA7.out.lt
        have XB7:=Lib.hid (XBs5.out.kp hK (by omega))
        have lB7:=XB7.out.lt
        have QX:=Lib.hid (stayP QX.out ((Ab.refl _ _).kp hK (by omega)))
        have QB:=Lib.hid (stayR QB.out ((Ab.refl _ _).kp hK (by omega)))
        have QF:=Lib.hid (monoR (B':=w1.heap.size + 1) (by have h:=XBs5.out.lt;omega) hrow)
        clear hS hK hq hrow
        have cX:=XB7.out.cell
        have fX:=XB7.out.frozen
        have lX:=XB7.out.lt
        have Ss6:=Lib.hid (S7.out.set_ (a:=⟨w1.heap.size,13,none⟩) (by simp only;omega) (.slice QFo ps.length QFc))
        have Ks6:=Lib.hid (K7.out.setCell (p:=⟨w1.heap.size,13,none⟩) (.inl (by simp only;omega)) (.slice QFo ps.length QFc))
        have XBs6:Hid (Blk _ w1.heap.size 76 #[.int .i64 3,.int .i64 n.2,.int .i64 0,.string n.1,.bool true,.string rx.name,.int .i64 rx.pos,.int .i64 QXk,.int .i64 QXp,.string QXg,.string QXs,.slice QXo QXa QXa,.slice QBo bs.length QBc,.slice QFo ps.length QFc,.slice none 0 0,.bool false,.int .i64 0,.int .i64 0,.string ⟨#[]⟩,.string ⟨#[]⟩,.slice none 0 0,.slice none 0 0]):=XB7.out.setL 13 (.slice QFo ps.length QFc)
        have XAs6:=Lib.hid (XA7.out.far (p:=⟨w1.heap.size,13,none⟩) (by simp only;omega) (.slice QFo ps.length QFc))
        have QX:=Lib.hid (stayP QX.out ((Ab.refl _ _).setCell (p:=⟨w1.heap.size,13,none⟩) (by simp only;omega) (.slice QFo ps.length QFc)))
        have QB:=Lib.hid (stayR QB.out ((Ab.refl _ _).setCell (p:=⟨w1.heap.size,13,none⟩) (by simp only;omega) (.slice QFo ps.length QFc)))
        have QF:=Lib.hid (stayR QF.out ((Ab.refl _ _).setCell (p:=⟨w1.heap.size,13,none⟩) (by simp only;omega) (.slice QFo ps.length QFc)))
        go_wp2_with fail
        refine (HRS.out _ _ 123 Ss6.out).mono ?_
        rintro e w8 hT
        cases hq:resw l 123 j with
        |out=>exact (HRO.out (by have h:=HR.out;rw [hq] at h;exact h.symm)).elim
        |err p q =>
         rw [hq] at hT
         obtain ⟨rfl,hK⟩:=hT
         have KE:=Lib.hid (Ks6.out.trans hK)
         have HB:Hid (EO.err p q=R):=by have h:=HR.out;rw [hq] at h;exact h
         clear hq hK
         go_wp2
         refine ⟨rfl,?_⟩
         rw [← HB.out]
         exact ⟨rfl,KE.out⟩
        |ok t j =>
         clear cX fX lX
         rw [hq] at hT
         obtain ⟨v,rfl,hv,hS,hK⟩:=hT
         have HR:Hid ((thn (blk l F fb 0 j) fun bd q=>EO.ok (⟨3,n.2,0,n.1,true,rx,bs,ps,[],t.1,t.2,bd⟩:DX) q)=R):=by have h:=HR.out;rw [hq] at h;exact h
         obtain ⟨tv,rfl,hrow⟩:=hv
         have hv2:=hrow
         obtain ⟨QTk,QTp,QTg,QTs,QTo,QTa,hve⟩:=IsTP.parts hv2
         subst hve
         have S8:=Lib.hid hS
         have K8:=Lib.hid (Ks6.out.trans hK)
         have hb8:=hS.lt
         have XA8:=Lib.hid (XAs6.out.kp hK (by omega))
         have lA8:=XA8.out.lt
         have XB8:=Lib.hid (XBs6.out.kp hK (by omega))
         have lB8:=XB8.out.lt
         have QX:=Lib.hid (stayP QX.out ((Ab.refl _ _).kp hK (by omega)))
         have QB:=Lib.hid (stayR QB.out ((Ab.refl _ _).kp hK (by omega)))
         have QF:=Lib.hid (stayR QF.out ((Ab.refl _ _).kp hK (by omega)))
         have QT:=Lib.hid (monoT (B':=w1.heap.size + 1) (by have h:=XBs6.out.lt;omega) hrow)
         clear hS hK hq hrow
         have cX:=XB8.out.cell
         have fX:=XB8.out.frozen
         have lX:=XB8.out.lt
         have Ss7:=Lib.hid (S8.out.set_ (a:=⟨w1.heap.size,15,none⟩) (by simp only;omega) (.bool t.1))
         have Ks7:=Lib.hid (K8.out.setCell (p:=⟨w1.heap.size,15,none⟩) (.inl (by simp only;omega)) (.bool t.1))
         have XBs7:Hid (Blk _ w1.heap.size 76 #[.int .i64 3,.int .i64 n.2,.int .i64 0,.string n.1,.bool true,.string rx.name,.int .i64 rx.pos,.int .i64 QXk,.int .i64 QXp,.string QXg,.string QXs,.slice QXo QXa QXa,.slice QBo bs.length QBc,.slice QFo ps.length QFc,.slice none 0 0,.bool t.1,.int .i64 0,.int .i64 0,.string ⟨#[]⟩,.string ⟨#[]⟩,.slice none 0 0,.slice none 0 0]):=XB8.out.setL 15 (.bool t.1)
         have XAs7:=Lib.hid (XA8.out.far (p:=⟨w1.heap.size,15,none⟩) (by simp only;omega) (.bool t.1))
         have QX:=Lib.hid (stayP QX.out ((Ab.refl _ _).setCell (p:=⟨w1.heap.size,15,none⟩) (by simp only;omega) (.bool t.1)))
         have QB:=Lib.hid (stayR QB.out ((Ab.refl _ _).setCell (p:=⟨w1.heap.size,15,none⟩) (by simp only;omega) (.bool t.1)))
         have QF:=Lib.hid (stayR QF.out ((Ab.refl _ _).setCell (p:=⟨w1.heap.size,15,none⟩) (by simp only;omega) (.bool t.1)))
         have QT:=Lib.hid (stayT QT.out ((Ab.refl _ _).setCell (p:=⟨w1.heap.size,15,none⟩) (by simp only;omega) (.bool t.1)))
         have XBs8:Hid (Blk _ w1.heap.size 76 #[.int .i64 3,.int .i64 n.2,.int .i64 0,.string n.1,.bool true,.string rx.name,.int .i64 rx.pos,.int .i64 QXk,.int .i64 QXp,.string QXg,.string QXs,.slice QXo QXa QXa,.slice QBo bs.length QBc,.slice QFo ps.length QFc,.slice none 0 0,.bool t.1,.int .i64 QTk,.int .i64 QTp,.string QTg,.string QTs,.slice QTo QTa QTa,.slice none 0 0]):=XBs7.out.row (putL [.int .i64 3,.int .i64 n.2,.int .i64 0,.string n.1,.bool true,.string rx.name,.int .i64 rx.pos,.int .i64 QXk,.int .i64 QXp,.string QXg,.string QXs,.slice QXo QXa QXa,.slice QBo bs.length QBc,.slice QFo ps.length QFc,.slice none 0 0,.bool t.1,.int .i64 0,.int .i64 0,.string ⟨#[]⟩,.string ⟨#[]⟩,.slice none 0 0,.slice none 0 0] 16 [.int .i64 QTk,.int .i64 QTp,.string QTg,.string QTs,.slice QTo QTa QTa]).toArray
         have Ss8:=Lib.hid (Ss7.out.row (g:=w1.heap.size) (by omega) (putL [.int .i64 3,.int .i64 n.2,.int .i64 0,.string n.1,.bool true,.string rx.name,.int .i64 rx.pos,.int .i64 QXk,.int .i64 QXp,.string QXg,.string QXs,.slice QXo QXa QXa,.slice QBo bs.length QBc,.slice QFo ps.length QFc,.slice none 0 0,.bool t.1,.int .i64 0,.int .i64 0,.string ⟨#[]⟩,.string ⟨#[]⟩,.slice none 0 0,.slice none 0 0] 16 [.int .i64 QTk,.int .i64 QTp,.string QTg,.string QTs,.slice QTo QTa QTa]).toArray)
         have Ks8:=Lib.hid (setRow_kp Ks7.out (g:=w1.heap.size) (.inl (by omega)) (putL [.int .i64 3,.int .i64 n.2,.int .i64 0,.string n.1,.bool true,.string rx.name,.int .i64 rx.pos,.int .i64 QXk,.int .i64 QXp,.string QXg,.string QXs,.slice QXo QXa QXa,.slice QBo bs.length QBc,.slice QFo ps.length QFc,.slice none 0 0,.bool t.1,.int .i64 0,.int .i64 0,.string ⟨#[]⟩,.string ⟨#[]⟩,.slice none 0 0,.slice none 0 0] 16 [.int .i64 QTk,.int .i64 QTp,.string QTg,.string QTs,.slice QTo QTa QTa]).toArray)
         have XAs8:=Lib.hid (XAs7.out.rowFar (g:=w1.heap.size) (by omega) (putL [.int .i64 3,.int .i64 n.2,.int .i64 0,.string n.1,.bool true,.string rx.name,.int .i64 rx.pos,.int .i64 QXk,.int .i64 QXp,.string QXg,.string QXs,.slice QXo QXa QXa,.slice QBo bs.length QBc,.slice QFo ps.length QFc,.slice none 0 0,.bool t.1,.int .i64 0,.int .i64 0,.string ⟨#[]⟩,.string ⟨#[]⟩,.slice none 0 0,.slice none 0 0] 16 [.int .i64 QTk,.int .i64 QTp,.string QTg,.string QTs,.slice QTo QTa QTa]).toArray)
         have QX:=Lib.hid (stayP QX.out (setRow_ab (Ab.refl _ _) (g:=w1.heap.size) (by omega) (putL [.int .i64 3,.int .i64 n.2,.int .i64 0,.string n.1,.bool true,.string rx.name,.int .i64 rx.pos,.int .i64 QXk,.int .i64 QXp,.string QXg,.string QXs,.slice QXo QXa QXa,.slice QBo bs.length QBc,.slice QFo ps.length QFc,.slice none 0 0,.bool t.1,.int .i64 0,.int .i64 0,.string ⟨#[]⟩,.string ⟨#[]⟩,.slice none 0 0,.slice none 0 0] 16 [.int .i64 QTk,.int .i64 QTp,.string QTg,.string QTs,.slice QTo QTa QTa]).toArray))
         have QB:=Lib.hid (stayR QB.out (setRow_ab (Ab.refl _ _) (g:=w1.heap.size) (by omega) (putL [.int .i64 3,.int .i64 n.2,.int .i64 0,.string n.1,.bool true,.string rx.name,.int .i64 rx.pos,.int .i64 QXk,.int .i64 QXp,.string QXg,.string QXs,.slice QXo QXa QXa,.slice QBo bs.length QBc,.slice QFo ps.length QFc,.slice none 0 0,.bool t.1,.int .i64 0,.int .i64 0,.string ⟨#[]⟩,.string ⟨#[]⟩,.slice none 0 0,.slice none 0 0] 16 [.int .i64 QTk,.int .i64 QTp,.string QTg,.string QTs,.slice QTo QTa QTa]).toArray))
         have QF:=Lib.hid (stayR QF.out (setRow_ab (Ab.refl _ _) (g:=w1.heap.size) (by omega) (putL [.int .i64 3,.int .i64 n.2,.int .i64 0,.string n.1,.bool true,.string rx.name,.int .i64 rx.pos,.int .i64 QXk,.int .i64 QXp,.string QXg,.string QXs,.slice QXo QXa QXa,.slice QBo bs.length QBc,.slice QFo ps.length QFc,.slice none 0 0,.bool t.1,.int .i64 0,.int .i64 0,.string ⟨#[]⟩,.string ⟨#[]⟩,.slice none 0 0,.slice none 0 0] 16 [.int .i64 QTk,.int .i64 QTp,.string QTg,.string QTs,.slice QTo QTa QTa]).toArray))
         have QT:=Lib.hid (stayT QT.out (setRow_ab (Ab.refl _ _) (g:=w1.heap.size) (by omega) (putL [.int .i64 3,.int .i64 n.2,.int .i64 0,.string n.1,.bool true,.string rx.name,.int .i64 rx.pos,.int .i64 QXk,.int .i64 QXp,.string QXg,.string QXs,.slice QXo QXa QXa,.slice QBo bs.length QBc,.slice QFo ps.length QFc,.slice none 0 0,.bool t.1,.int .i64 0,.int .i64 0,.string ⟨#[]⟩,.string ⟨#[]⟩,.slice none 0 0,.slice none 0 0] 16 [.int .i64 QTk,.int .i64 QTp,.string QTg,.string QTs,.slice QTo QTa QTa]).toArray))
         go_wp2_with (first | (refine boxPart 24 5 (sizeOfI infoT) rfl _ _ rfl w1.heap.size 16 rfl _ rfl XBs7.out rfl (Nat.le_of_ble_eq_true rfl) rfl ?_))
         refine (HBK.out _ _ Ss8.out (fun h0=>HRO.out (by have h:=HR.out;rw [h0] at h;exact h.symm))).mono ?_
         rintro e w9 hT
         cases hq:blk l F fb 0 j with
         |out=>exact (HRO.out (by have h:=HR.out;rw [hq] at h;exact h.symm)).elim
         |err p q =>
          rw [hq] at hT
          obtain ⟨rfl,hK⟩:=hT
          have KE:=Lib.hid (Ks8.out.trans hK)
          have HB:Hid (EO.err p q=R):=by have h:=HR.out;rw [hq] at h;exact h
          clear hq hK
          go_wp2
          refine ⟨rfl,?_⟩
          rw [← HB.out]
          exact ⟨rfl,KE.out⟩
         |ok bd q =>
          clear cX fX lX
          rw [hq] at hT
          obtain ⟨v,rfl,hv,hS,hK⟩:=hT
          have HR:Hid ((EO.ok (⟨3,n.2,0,n.1,true,rx,bs,ps,[],t.1,t.2,bd⟩:DX) q)=R):=by have h:=HR.out;rw [hq] at h;exact h
          obtain ⟨QSo,QSc,rfl,hrow⟩:=hv
          have S9:=Lib.hid hS
          have K9:=Lib.hid (Ks8.out.trans hK)
          have hb9:=hS.lt
          have XA9:=Lib.hid (XAs8.out.kp hK (by omega))
          have lA9:=XA9.out.lt
          have XB9:=Lib.hid (XBs8.out.kp hK (by omega))
          have lB9:=XB9.out.lt
          have QX:=Lib.hid (stayP QX.out ((Ab.refl _ _).kp hK (by omega)))
          have QB:=Lib.hid (stayR QB.out ((Ab.refl _ _).kp hK (by omega)))
          have QF:=Lib.hid (stayR QF.out ((Ab.refl _ _).kp hK (by omega)))
          have QT:=Lib.hid (stayT QT.out ((Ab.refl _ _).kp hK (by omega)))
          have QS:=Lib.hid (monoS (B':=w1.heap.size + 1) (by have h:=XBs8.out.lt;omega) hrow)
          clear hS hK hq hrow
          have cX:=XB9.out.cell
          have fX:=XB9.out.frozen
          have lX:=XB9.out.lt
          have Ss9:=Lib.hid (S9.out.set_ (a:=⟨w1.heap.size,21,none⟩) (by simp only;omega) (.slice QSo bd.length QSc))
          have Ks9:=Lib.hid (K9.out.setCell (p:=⟨w1.heap.size,21,none⟩) (.inl (by simp only;omega)) (.slice QSo bd.length QSc))
          have XBs9:Hid (Blk _ w1.heap.size 76 #[.int .i64 3,.int .i64 n.2,.int .i64 0,.string n.1,.bool true,.string rx.name,.int .i64 rx.pos,.int .i64 QXk,.int .i64 QXp,.string QXg,.string QXs,.slice QXo QXa QXa,.slice QBo bs.length QBc,.slice QFo ps.length QFc,.slice none 0 0,.bool t.1,.int .i64 QTk,.int .i64 QTp,.string QTg,.string QTs,.slice QTo QTa QTa,.slice QSo bd.length QSc]):=XB9.out.setL 21 (.slice QSo bd.length QSc)
          have XAs9:=Lib.hid (XA9.out.far (p:=⟨w1.heap.size,21,none⟩) (by simp only;omega) (.slice QSo bd.length QSc))
          have QX:=Lib.hid (stayP QX.out ((Ab.refl _ _).setCell (p:=⟨w1.heap.size,21,none⟩) (by simp only;omega) (.slice QSo bd.length QSc)))
          have QB:=Lib.hid (stayR QB.out ((Ab.refl _ _).setCell (p:=⟨w1.heap.size,21,none⟩) (by simp only;omega) (.slice QSo bd.length QSc)))
          have QF:=Lib.hid (stayR QF.out ((Ab.refl _ _).setCell (p:=⟨w1.heap.size,21,none⟩) (by simp only;omega) (.slice QSo bd.length QSc)))
          have QT:=Lib.hid (stayT QT.out ((Ab.refl _ _).setCell (p:=⟨w1.heap.size,21,none⟩) (by simp only;omega) (.slice QSo bd.length QSc)))
          have QS:=Lib.hid (stayS QS.out ((Ab.refl _ _).setCell (p:=⟨w1.heap.size,21,none⟩) (by simp only;omega) (.slice QSo bd.length QSc)))
          go_wp2_with (first | (refine boxLoad 76 22 (sizeOfI infoD) Tryz.underlying76 rfl _ rfl w1.heap.size rfl XBs9.out rfl ?_) | (refine boxStore 76 22 (sizeOfI infoD) rfl _ _ rfl w.heap.size rfl _ rfl XAs9.out rfl rfl rfl ?_))
          refine bodyPost_ret (v:=.agg #[.int .i64 3,.int .i64 n.2,.int .i64 0,.string n.1,.bool true,.string rx.name,.int .i64 rx.pos,.int .i64 QXk,.int .i64 QXp,.string QXg,.string QXs,.slice QXo QXa QXa,.slice QBo bs.length QBc,.slice QFo ps.length QFc,.slice none 0 0,.bool t.1,.int .i64 QTk,.int .i64 QTp,.string QTg,.string QTs,.slice QTo QTa QTa,.slice QSo bd.length QSc]) ?_ ?_ ?_
          ·exact boxRes 76 22 (sizeOfI infoD) Tryz.underlying76 Tryz.results110 _ w.heap.size rfl (XAs9.out.row _) rfl
          ·rfl
          rw [← HR.out]
          exact ⟨_,rfl,⟨_,_,_,_,_,_,_,_,_,_,_,_,_,_,_,_,_,_,_,_,_,_,rfl,monoP (by omega) (stayP QX.out (setRow_ab (Ab.refl _ _) (g:=w.heap.size) (by omega) _)),monoR (E:=eltP) (by omega) (stayR (E:=eltP) QB.out (setRow_ab (Ab.refl _ _) (g:=w.heap.size) (by omega) _)),monoR (E:=eltP) (by omega) (stayR (E:=eltP) QF.out (setRow_ab (Ab.refl _ _) (g:=w.heap.size) (by omega) _)),trivial,monoT (by omega) (stayT QT.out (setRow_ab (Ab.refl _ _) (g:=w.heap.size) (by omega) _)),monoS (by omega) (stayS QS.out (setRow_ab (Ab.refl _ _) (g:=w.heap.size) (by omega) _))⟩,Ss9.out.row (by omega) _,setRow_kp Ks9.out (.inl (by omega)) _⟩
end
end Go.Proofs.YtfcgoainglpdlaaGreatDoor
