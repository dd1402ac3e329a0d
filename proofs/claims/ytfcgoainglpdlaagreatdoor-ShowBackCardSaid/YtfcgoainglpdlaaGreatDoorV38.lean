/- The walks of the packages' parser's method, imported, declaredType. Condition: the parser lies in memory as said. -/
import Derived.Test.YtfcgoainglpdlaaGreatDoorV37
set_option maxRecDepth 20000
set_option maxHeartbeats 8000000
namespace Go.Proofs.YtfcgoainglpdlaaGreatDoor
open Go.RowKit
open Go.Lib hiding intOf
theorem wo_yes {l:List TZ} {s:List UInt8} {j:Int} (h:isW (tkAt l j) s=true):wo l s j=.ok () (j + 1):=by unfold wo;rw [if_pos h]
theorem noPX_at (P:Nat→Prop) (w:World):IsPX P w noPX (.agg #[.string ⟨#[]⟩,.int .i64 0,.int .i64 0,.int .i64 0,.string ⟨#[]⟩,.string ⟨#[]⟩,.slice none 0 0]):=⟨_,_,_,_,_,_,rfl,rfl⟩
theorem noSX_at (P:Nat→Prop) (w:World) (o:Option Addr):IsSPs P w o 0 []:=by unfold IsSPs;trivial
section
variable {b c:Nat} {o:Option Addr} {l:List TZ} {i:Int} {w:World}
theorem methodF (f:Nat) (S:FS b o c l i w) (hn:l.length≤1073741824) (hf:Fits l) (hr:mth l f i≠.out) :
  Calls Tryz.prog 131 #[.pointer (some ⟨b,0,none⟩)] w (TelF b o c l (isPart eltM) w (mth l f i)):=by
 have hbl:=S.lt
 have HNM:=Lib.hid (fun (W:World) (j:Int) (h:FS b o c l j W)=>nameF h hn hf)
 have HLT:=Lib.hid (fun (W:World) (j:Int) (h:FS b o c l j W) (hr:lstw l (ty l) f j≠.out)=>listedT (fun _ _ _ h=>ty_rng h) (fun i W h _=>typedF h hn hf) h hn f hr)
 have HRS:=Lib.hid (fun (W:World) (j:Int) (z:UInt8) (h:FS b o c l j W)=>resultF h hn hf z)
 have HSY:=Lib.hid (fun (W:World) (j:Int) (z:UInt8) (h:FS b o c l j W)=>symF h hn z)
 have hmf:∀ (fn:Fn) (first cap:Array Value) (w:World),(Instr.makeFunc fn first cap).run Tryz.prog w=.ok (.func fn first cap) w:=fun _ _ _ _=>rfl
 rw [mth_eq] at hr ⊢
 obtain ⟨R,hR⟩:∃ R,(thn (na l i) fun n j=>thn (lstw l (ty l) f j) fun ts j=>thn (resw l 59 j) fun t j=>thn (sy l 59 j) fun _ q=>EO.ok (⟨n.1,n.2,ts,t.1,t.2⟩:MX) q)=R:=⟨_,rfl⟩
 change (thn (na l i) fun n j=>thn (lstw l (ty l) f j) fun ts j=>thn (resw l 59 j) fun t j=>thn (sy l 59 j) fun _ q=>EO.ok (⟨n.1,n.2,ts,t.1,t.2⟩:MX) q)≠.out at hr
 change Calls _ _ _ _ (TelF b o c l _ w (thn (na l i) fun n j=>thn (lstw l (ty l) f j) fun ts j=>thn (resw l 59 j) fun t j=>thn (sy l 59 j) fun _ q=>EO.ok (⟨n.1,n.2,ts,t.1,t.2⟩:MX) q))
 rw [hR] at hr ⊢
 have HR:=Lib.hid hR
 have HRO:=Lib.hid hr
 have S0:=Lib.hid ((S.alloc (.cells #[.string ⟨#[]⟩,.int .i64 0,.slice none 0 0,.bool false,.int .i64 0,.int .i64 0,.string ⟨#[]⟩,.string ⟨#[]⟩,.slice none 0 0] 111)).alloc (.cells #[.string ⟨#[]⟩,.int .i64 0,.slice none 0 0,.bool false,.int .i64 0,.int .i64 0,.string ⟨#[]⟩,.string ⟨#[]⟩,.slice none 0 0] 111))
 have K0:=Lib.hid (((Kp.refl b w).alloc (.cells #[.string ⟨#[]⟩,.int .i64 0,.slice none 0 0,.bool false,.int .i64 0,.int .i64 0,.string ⟨#[]⟩,.string ⟨#[]⟩,.slice none 0 0] 111)).alloc (.cells #[.string ⟨#[]⟩,.int .i64 0,.slice none 0 0,.bool false,.int .i64 0,.int .i64 0,.string ⟨#[]⟩,.string ⟨#[]⟩,.slice none 0 0] 111))
 have XA0:Hid (Blk ((w.alloc (.cells #[.string ⟨#[]⟩,.int .i64 0,.slice none 0 0,.bool false,.int .i64 0,.int .i64 0,.string ⟨#[]⟩,.string ⟨#[]⟩,.slice none 0 0] 111)).alloc (.cells #[.string ⟨#[]⟩,.int .i64 0,.slice none 0 0,.bool false,.int .i64 0,.int .i64 0,.string ⟨#[]⟩,.string ⟨#[]⟩,.slice none 0 0] 111)) w.heap.size 111 #[.string ⟨#[]⟩,.int .i64 0,.slice none 0 0,.bool false,.int .i64 0,.int .i64 0,.string ⟨#[]⟩,.string ⟨#[]⟩,.slice none 0 0]):=((Blk.new w 111 #[.string ⟨#[]⟩,.int .i64 0,.slice none 0 0,.bool false,.int .i64 0,.int .i64 0,.string ⟨#[]⟩,.string ⟨#[]⟩,.slice none 0 0]).alloc (.cells #[.string ⟨#[]⟩,.int .i64 0,.slice none 0 0,.bool false,.int .i64 0,.int .i64 0,.string ⟨#[]⟩,.string ⟨#[]⟩,.slice none 0 0] 111))
 have wxA:w.heap.size≤w.heap.size:=by omega
 have bxA:b < w.heap.size:=by omega
 have XB0:Hid (Blk ((w.alloc (.cells #[.string ⟨#[]⟩,.int .i64 0,.slice none 0 0,.bool false,.int .i64 0,.int .i64 0,.string ⟨#[]⟩,.string ⟨#[]⟩,.slice none 0 0] 111)).alloc (.cells #[.string ⟨#[]⟩,.int .i64 0,.slice none 0 0,.bool false,.int .i64 0,.int .i64 0,.string ⟨#[]⟩,.string ⟨#[]⟩,.slice none 0 0] 111)) (w.heap.size + 1) 111 #[.string ⟨#[]⟩,.int .i64 0,.slice none 0 0,.bool false,.int .i64 0,.int .i64 0,.string ⟨#[]⟩,.string ⟨#[]⟩,.slice none 0 0]):=by have h:=Blk.new (w.alloc (.cells #[.string ⟨#[]⟩,.int .i64 0,.slice none 0 0,.bool false,.int .i64 0,.int .i64 0,.string ⟨#[]⟩,.string ⟨#[]⟩,.slice none 0 0] 111)) 111 #[.string ⟨#[]⟩,.int .i64 0,.slice none 0 0,.bool false,.int .i64 0,.int .i64 0,.string ⟨#[]⟩,.string ⟨#[]⟩,.slice none 0 0];rw [World.size_alloc] at h;exact h
 have wxB:w.heap.size≤(w.heap.size + 1):=by omega
 have bxB:b < (w.heap.size + 1):=by omega
 clear S hn hf hr hR
 go_enter Tryz.func131,Tryz.ntmps131
 go_wp2_with fail
 refine (HNM.out _ _ S0.out).mono ?_
 rintro e w1 hT
 cases hq:na l i with
 |out=>exact (HRO.out (by have h:=HR.out;rw [hq] at h;exact h.symm)).elim
 |err p q =>
  rw [hq] at hT
  obtain ⟨rfl,hK⟩:=hT
  have KE:=Lib.hid (K0.out.trans hK)
  have HB:Hid (EO.err p q=R):=by have h:=HR.out;rw [hq] at h;exact h
  clear hq hK
  go_wp2
  refine ⟨rfl,?_⟩
  rw [← HB.out]
  exact ⟨rfl,KE.out⟩
 |ok n j =>
  rw [hq] at hT
  obtain ⟨v,rfl,hv,hS,hK⟩:=hT
  have HR:Hid ((thn (lstw l (ty l) f j) fun ts j=>thn (resw l 59 j) fun t j=>thn (sy l 59 j) fun _ q=>EO.ok (⟨n.1,n.2,ts,t.1,t.2⟩:MX) q)=R):=by have h:=HR.out;rw [hq] at h;exact h
  obtain rfl:v=.tuple #[.string n.1,.int .i64 n.2]:=hv
  have S1:=Lib.hid hS
  have K1:=Lib.hid (K0.out.trans hK)
  have hb1:=hS.lt
  have XA1:=Lib.hid (XA0.out.kp hK (by omega))
  have lA1:=XA1.out.lt
  have XB1:=Lib.hid (XB0.out.kp hK (by omega))
  have lB1:=XB1.out.lt
  clear hS hK hq
  have cX:=XB1.out.cell
  have fX:=XB1.out.frozen
  have lX:=XB1.out.lt
  have Ss1:=Lib.hid (S1.out.set_ (a:=⟨(w.heap.size + 1),0,none⟩) (by simp only;omega) (.string n.1))
  have Ks1:=Lib.hid (K1.out.setCell (p:=⟨(w.heap.size + 1),0,none⟩) (.inl (by simp only;omega)) (.string n.1))
  have XBs1:Hid (Blk _ (w.heap.size + 1) 111 #[.string n.1,.int .i64 0,.slice none 0 0,.bool false,.int .i64 0,.int .i64 0,.string ⟨#[]⟩,.string ⟨#[]⟩,.slice none 0 0]):=XB1.out.setL 0 (.string n.1)
  have XAs1:=Lib.hid (XA1.out.far (p:=⟨(w.heap.size + 1),0,none⟩) (by simp only;omega) (.string n.1))
  have Ss2:=Lib.hid (Ss1.out.set_ (a:=⟨(w.heap.size + 1),1,none⟩) (by simp only;omega) (.int .i64 n.2))
  have Ks2:=Lib.hid (Ks1.out.setCell (p:=⟨(w.heap.size + 1),1,none⟩) (.inl (by simp only;omega)) (.int .i64 n.2))
  have XBs2:Hid (Blk _ (w.heap.size + 1) 111 #[.string n.1,.int .i64 n.2,.slice none 0 0,.bool false,.int .i64 0,.int .i64 0,.string ⟨#[]⟩,.string ⟨#[]⟩,.slice none 0 0]):=XBs1.out.setL 1 (.int .i64 n.2)
  have XAs2:=Lib.hid (XAs1.out.far (p:=⟨(w.heap.size + 1),1,none⟩) (by simp only;omega) (.int .i64 n.2))
  go_wp2_with fail
  refine (HLT.out _ _ Ss2.out (fun h0=>HRO.out (by have h:=HR.out;rw [h0] at h;exact h.symm))).mono ?_
  rintro e w2 hT
  cases hq:lstw l (ty l) f j with
  |out=>exact (HRO.out (by have h:=HR.out;rw [hq] at h;exact h.symm)).elim
  |err p q =>
   rw [hq] at hT
   obtain ⟨rfl,hK⟩:=hT
   have KE:=Lib.hid (Ks2.out.trans hK)
   have HB:Hid (EO.err p q=R):=by have h:=HR.out;rw [hq] at h;exact h
   clear hq hK
   go_wp2
   refine ⟨rfl,?_⟩
   rw [← HB.out]
   exact ⟨rfl,KE.out⟩
  |ok ts j =>
   clear cX fX lX
   rw [hq] at hT
   obtain ⟨v,rfl,hv,hS,hK⟩:=hT
   have HR:Hid ((thn (resw l 59 j) fun t j=>thn (sy l 59 j) fun _ q=>EO.ok (⟨n.1,n.2,ts,t.1,t.2⟩:MX) q)=R):=by have h:=HR.out;rw [hq] at h;exact h
   obtain ⟨QRo,QRc,rfl,hrow⟩:=hv
   have S2:=Lib.hid hS
   have K2:=Lib.hid (Ks2.out.trans hK)
   have hb2:=hS.lt
   have XA2:=Lib.hid (XAs2.out.kp hK (by omega))
   have lA2:=XA2.out.lt
   have XB2:=Lib.hid (XBs2.out.kp hK (by omega))
   have lB2:=XB2.out.lt
   have QR:=Lib.hid (monoR (B':=(w.heap.size + 1) + 1) (by have h:=XBs2.out.lt;omega) hrow)
   clear hS hK hq hrow
   have cX:=XB2.out.cell
   have fX:=XB2.out.frozen
   have lX:=XB2.out.lt
   have Ss3:=Lib.hid (S2.out.set_ (a:=⟨(w.heap.size + 1),2,none⟩) (by simp only;omega) (.slice QRo ts.length QRc))
   have Ks3:=Lib.hid (K2.out.setCell (p:=⟨(w.heap.size + 1),2,none⟩) (.inl (by simp only;omega)) (.slice QRo ts.length QRc))
   have XBs3:Hid (Blk _ (w.heap.size + 1) 111 #[.string n.1,.int .i64 n.2,.slice QRo ts.length QRc,.bool false,.int .i64 0,.int .i64 0,.string ⟨#[]⟩,.string ⟨#[]⟩,.slice none 0 0]):=XB2.out.setL 2 (.slice QRo ts.length QRc)
   have XAs3:=Lib.hid (XA2.out.far (p:=⟨(w.heap.size + 1),2,none⟩) (by simp only;omega) (.slice QRo ts.length QRc))
   have QR:=Lib.hid (stayR QR.out ((Ab.refl _ _).setCell (p:=⟨(w.heap.size + 1),2,none⟩) (by simp only;omega) (.slice QRo ts.length QRc)))
   go_wp2_with fail
   refine (HRS.out _ _ 59 Ss3.out).mono ?_
   rintro e w3 hT
   cases hq:resw l 59 j with
   |out=>exact (HRO.out (by have h:=HR.out;rw [hq] at h;exact h.symm)).elim
   |err p q =>
    rw [hq] at hT
    obtain ⟨rfl,hK⟩:=hT
    have KE:=Lib.hid (Ks3.out.trans hK)
    have HB:Hid (EO.err p q=R):=by have h:=HR.out;rw [hq] at h;exact h
    clear hq hK
    go_wp2
    refine ⟨rfl,?_⟩
    rw [← HB.out]
    exact ⟨rfl,KE.out⟩
   |ok t j =>
    clear cX fX lX
    rw [hq] at hT
    obtain ⟨v,rfl,hv,hS,hK⟩:=hT
    have HR:Hid ((thn (sy l 59 j) fun _ q=>EO.ok (⟨n.1,n.2,ts,t.1,t.2⟩:MX) q)=R):=by have h:=HR.out;rw [hq] at h;exact h
    obtain ⟨tv,rfl,hrow⟩:=hv
    have hv2:=hrow
    obtain ⟨QTk,QTp,QTg,QTs,QTo,QTa,hve⟩:=IsTP.parts hv2
    subst hve
    have S3:=Lib.hid hS
    have K3:=Lib.hid (Ks3.out.trans hK)
    have hb3:=hS.lt
    have XA3:=Lib.hid (XAs3.out.kp hK (by omega))
    have lA3:=XA3.out.lt
    have XB3:=Lib.hid (XBs3.out.kp hK (by omega))
    have lB3:=XB3.out.lt
    have QR:=Lib.hid (stayR QR.out ((Ab.refl _ _).kp hK (by omega)))
    have QT:=Lib.hid (monoT (B':=(w.heap.size + 1) + 1) (by have h:=XBs3.out.lt;omega) hrow)
    clear hS hK hq hrow
    have cX:=XB3.out.cell
    have fX:=XB3.out.frozen
    have lX:=XB3.out.lt
    have Ss4:=Lib.hid (S3.out.set_ (a:=⟨(w.heap.size + 1),3,none⟩) (by simp only;omega) (.bool t.1))
    have Ks4:=Lib.hid (K3.out.setCell (p:=⟨(w.heap.size + 1),3,none⟩) (.inl (by simp only;omega)) (.bool t.1))
    have XBs4:Hid (Blk _ (w.heap.size + 1) 111 #[.string n.1,.int .i64 n.2,.slice QRo ts.length QRc,.bool t.1,.int .i64 0,.int .i64 0,.string ⟨#[]⟩,.string ⟨#[]⟩,.slice none 0 0]):=XB3.out.setL 3 (.bool t.1)
    have XAs4:=Lib.hid (XA3.out.far (p:=⟨(w.heap.size + 1),3,none⟩) (by simp only;omega) (.bool t.1))
    have QR:=Lib.hid (stayR QR.out ((Ab.refl _ _).setCell (p:=⟨(w.heap.size + 1),3,none⟩) (by simp only;omega) (.bool t.1)))
    have QT:=Lib.hid (stayT QT.out ((Ab.refl _ _).setCell (p:=⟨(w.heap.size + 1),3,none⟩) (by simp only;omega) (.bool t.1)))
    have XBs5:Hid (Blk _ (w.heap.size + 1) 111 #[.string n.1,.int .i64 n.2,.slice QRo ts.length QRc,.bool t.1,.int .i64 QTk,.int .i64 QTp,.string QTg,.string QTs,.slice QTo QTa QTa]):=XBs4.out.row (putL [.string n.1,.int .i64 n.2,.slice QRo ts.length QRc,.bool t.1,.int .i64 0,.int .i64 0,.string ⟨#[]⟩,.string ⟨#[]⟩,.slice none 0 0] 4 [.int .i64 QTk,.int .i64 QTp,.string QTg,.string QTs,.slice QTo QTa QTa]).toArray
    have Ss5:=Lib.hid (Ss4.out.row (g:=(w.heap.size + 1)) (by omega) (putL [.string n.1,.int .i64 n.2,.slice QRo ts.length QRc,.bool t.1,.int .i64 0,.int .i64 0,.string ⟨#[]⟩,.string ⟨#[]⟩,.slice none 0 0] 4 [.int .i64 QTk,.int .i64 QTp,.string QTg,.string QTs,.slice QTo QTa QTa]).toArray)
    have Ks5:=Lib.hid (setRow_kp Ks4.out (g:=(w.heap.size + 1)) (.inl (by omega)) (putL [.string n.1,.int .i64 n.2,.slice QRo ts.length QRc,.bool t.1,.int .i64 0,.int .i64 0,.string ⟨#[]⟩,.string ⟨#[]⟩,.slice none 0 0] 4 [.int .i64 QTk,.int .i64 QTp,.string QTg,.string QTs,.slice QTo QTa QTa]).toArray)
    have XAs5:=Lib.hid (XAs4.out.rowFar (g:=(w.heap.size + 1)) (by omega) (putL [.string n.1,.int .i64 n.2,.slice QRo ts.length QRc,.bool t.1,.int .i64 0,.int .i64 0,.string ⟨#[]⟩,.string ⟨#[]⟩,.slice none 0 0] 4 [.int .i64 QTk,.int .i64 QTp,.string QTg,.string QTs,.slice QTo QTa QTa]).toArray)
    have QR:=Lib.hid (stayR QR.out (setRow_ab (Ab.refl _ _) (g:=(w.heap.size + 1)) (by omega) (putL [.string n.1,.int .i64 n.2,.slice QRo ts.length QRc,.bool t.1,.int .i64 0,.int .i64 0,.string ⟨#[]⟩,.string ⟨#[]⟩,.slice none 0 0] 4 [.int .i64 QTk,.int .i64 QTp,.string QTg,.string QTs,.slice QTo QTa QTa]).toArray))
    have QT:=Lib.hid (stayT QT.out (setRow_ab (Ab.refl _ _) (g:=(w.heap.size + 1)) (by omega) (putL [.string n.1,.int .i64 n.2,.slice QRo ts.length QRc,.bool t.1,.int .i64 0,.int .i64 0,.string ⟨#[]⟩,.string ⟨#[]⟩,.slice none 0 0] 4 [.int .i64 QTk,.int .i64 QTp,.string QTg,.string QTs,.slice QTo QTa QTa]).toArray))
    go_wp2_with (first | (refine boxPart 24 5 (sizeOfI infoT) rfl _ _ rfl (w.heap.size + 1) 4 rfl _ rfl XBs4.out rfl (Nat.le_of_ble_eq_true rfl) rfl ?_))
    refine (HSY.out _ _ 59 Ss5.out).mono ?_
    rintro e w4 hT
    cases hq:sy l 59 j with
    |out=>exact (HRO.out (by have h:=HR.out;rw [hq] at h;exact h.symm)).elim
    |err p q =>
     rw [hq] at hT
     obtain ⟨rfl,hK⟩:=hT
     have KE:=Lib.hid (Ks5.out.trans hK)
     have HB:Hid (EO.err p q=R):=by have h:=HR.out;rw [hq] at h;exact h
     clear hq hK
     go_wp2
     refine ⟨rfl,?_⟩
     rw [← HB.out]
     exact ⟨rfl,KE.out⟩
    |ok y q =>
     clear cX fX lX
     rw [hq] at hT
     obtain ⟨v,rfl,hv,hS,hK⟩:=hT
     have HR:Hid ((EO.ok (⟨n.1,n.2,ts,t.1,t.2⟩:MX) q)=R):=by have h:=HR.out;rw [hq] at h;exact h
     obtain rfl:v=.tuple #[]:=hv
     have S4:=Lib.hid hS
     have K4:=Lib.hid (Ks5.out.trans hK)
     have hb4:=hS.lt
     have XA4:=Lib.hid (XAs5.out.kp hK (by omega))
     have lA4:=XA4.out.lt
     have XB4:=Lib.hid (XBs5.out.kp hK (by omega))
     have lB4:=XB4.out.lt
     have QR:=Lib.hid (stayR QR.out ((Ab.refl _ _).kp hK (by omega)))
     have QT:=Lib.hid (stayT QT.out ((Ab.refl _ _).kp hK (by omega)))
     clear hS hK hq
     go_wp2_with (first | (refine boxLoad 111 9 (sizeOfI infoM) Tryz.underlying111 rfl _ rfl (w.heap.size + 1) rfl XB4.out rfl ?_) | (refine boxStore 111 9 (sizeOfI infoM) rfl _ _ rfl w.heap.size rfl _ rfl XA4.out rfl rfl rfl ?_))
     refine bodyPost_ret (v:=.agg #[.string n.1,.int .i64 n.2,.slice QRo ts.length QRc,.bool t.1,.int .i64 QTk,.int .i64 QTp,.string QTg,.string QTs,.slice QTo QTa QTa]) ?_ ?_ ?_
     ·exact boxRes 111 9 (sizeOfI infoM) Tryz.underlying111 Tryz.results131 _ w.heap.size rfl (XA4.out.row _) rfl
     ·rfl
     rw [← HR.out]
     exact ⟨_,rfl,⟨_,_,_,_,_,_,_,_,rfl,monoR (E:=eltT) (by omega) (stayR (E:=eltT) QR.out (setRow_ab (Ab.refl _ _) (g:=w.heap.size) (by omega) _)),monoT (by omega) (stayT QT.out (setRow_ab (Ab.refl _ _) (g:=w.heap.size) (by omega) _))⟩,S4.out.row (by omega) _,setRow_kp K4.out (.inl (by omega)) _⟩
theorem importedF (S:FS b o c l i w) (hn:l.length≤1073741824) (hf:Fits l) (hr:(thn (wo l wImport i) fun _ j=>impw l j)≠.out) :
  Calls Tryz.prog 84 #[.pointer (some ⟨b,0,none⟩)] w (TelF b o c l (isPart eltN) w ((thn (wo l wImport i) fun _ j=>impw l j))):=by
 have hbl:=S.lt
 have HNM:=Lib.hid (fun (W:World) (j:Int) (h:FS b o c l j W)=>nameF h hn hf)
 have HWO:=Lib.hid (fun (W:World) (j:Int) (s:List UInt8) (h:FS b o c l j W)=>wordF h hn s)
 have HSY:=Lib.hid (fun (W:World) (j:Int) (z:UInt8) (h:FS b o c l j W)=>symF h hn z)
 obtain ⟨R,hR⟩:∃ R,(thn (wo l wImport i) fun _ j=>thn (na l j) fun n j=>thn (sy l 59 j) fun _ q=>EO.ok n q)=R:=⟨_,rfl⟩
 change (thn (wo l wImport i) fun _ j=>thn (na l j) fun n j=>thn (sy l 59 j) fun _ q=>EO.ok n q)≠.out at hr
 change Calls _ _ _ _ (TelF b o c l _ w (thn (wo l wImport i) fun _ j=>thn (na l j) fun n j=>thn (sy l 59 j) fun _ q=>EO.ok n q))
 rw [hR] at hr ⊢
 have HR:=Lib.hid hR
 have HRO:=Lib.hid hr
 have S0:=Lib.hid (S.alloc (.cells #[.string ⟨#[]⟩,.int .i64 0] 69))
 have K0:=Lib.hid ((Kp.refl b w).alloc (.cells #[.string ⟨#[]⟩,.int .i64 0] 69))
 have XA0:Hid (Blk (w.alloc (.cells #[.string ⟨#[]⟩,.int .i64 0] 69)) w.heap.size 69 #[.string ⟨#[]⟩,.int .i64 0]):=(Blk.new w 69 #[.string ⟨#[]⟩,.int .i64 0])
 have wxA:w.heap.size≤w.heap.size:=by omega
 have bxA:b < w.heap.size:=by omega
 clear S hn hf hr hR
 go_enter Tryz.func84,Tryz.ntmps84
 go_wp2_with fail
 refine (HWO.out _ _ wImport S0.out).mono ?_
 rintro e w1 hT
 cases hq:wo l wImport i with
 |out=>exact (HRO.out (by have h:=HR.out;rw [hq] at h;exact h.symm)).elim
 |err p q =>
  rw [hq] at hT
  obtain ⟨rfl,hK⟩:=hT
  have KE:=Lib.hid (K0.out.trans hK)
  have HB:Hid (EO.err p q=R):=by have h:=HR.out;rw [hq] at h;exact h
  clear hq hK
  go_wp2
  refine ⟨rfl,?_⟩
  rw [← HB.out]
  exact ⟨rfl,KE.out⟩
 |ok y0 j =>
  rw [hq] at hT
  obtain ⟨v,rfl,hv,hS,hK⟩:=hT
  have HR:Hid ((thn (na l j) fun n j=>thn (sy l 59 j) fun _ q=>EO.ok n q)=R):=by have h:=HR.out;rw [hq] at h;exact h
  obtain rfl:v=.tuple #[]:=hv
  have S1:=Lib.hid hS
  have K1:=Lib.hid (K0.out.trans hK)
  have hb1:=hS.lt
  have XA1:=Lib.hid (XA0.out.kp hK (by omega))
  have lA1:=XA1.out.lt
  clear hS hK hq
  have XB0:=Lib.hid (Blk.new w1 69 #[.string ⟨#[]⟩,.int .i64 0])
  have wxB:w.heap.size≤w1.heap.size:=K1.out.size
  have bxB:b < w1.heap.size:=hb1
  have oAB:w.heap.size < w1.heap.size:=lA1
  have S1a:=Lib.hid (S1.out.alloc (.cells #[.string ⟨#[]⟩,.int .i64 0] 69))
  have K1a:=Lib.hid (K1.out.alloc (.cells #[.string ⟨#[]⟩,.int .i64 0] 69))
  have XA1a:=Lib.hid (XA1.out.alloc (.cells #[.string ⟨#[]⟩,.int .i64 0] 69))
  go_wp2_with fail
  refine (HNM.out _ _ S1a.out).mono ?_
  rintro e w2 hT
  cases hq:na l j with
  |out=>exact (HRO.out (by have h:=HR.out;rw [hq] at h;exact h.symm)).elim
  |err p q =>
   rw [hq] at hT
   obtain ⟨rfl,hK⟩:=hT
   have KE:=Lib.hid (K1a.out.trans hK)
   have HB:Hid (EO.err p q=R):=by have h:=HR.out;rw [hq] at h;exact h
   clear hq hK
   go_wp2
   refine ⟨rfl,?_⟩
   rw [← HB.out]
   exact ⟨rfl,KE.out⟩
  |ok n j =>
   rw [hq] at hT
   obtain ⟨v,rfl,hv,hS,hK⟩:=hT
   have HR:Hid ((thn (sy l 59 j) fun _ q=>EO.ok n q)=R):=by have h:=HR.out;rw [hq] at h;exact h
   obtain rfl:v=.tuple #[.string n.1,.int .i64 n.2]:=hv
   have S2:=Lib.hid hS
   have K2:=Lib.hid (K1a.out.trans hK)
   have hb2:=hS.lt
   have XA2:=Lib.hid (XA1a.out.kp hK (by omega))
   have lA2:=XA2.out.lt
   have XB2:=Lib.hid (XB0.out.kp hK (by omega))
   have lB2:=XB2.out.lt
   clear hS hK hq
   have cX:=XB2.out.cell
   have fX:=XB2.out.frozen
   have lX:=XB2.out.lt
   have Ss1:=Lib.hid (S2.out.set_ (a:=⟨w1.heap.size,0,none⟩) (by simp only;omega) (.string n.1))
   have Ks1:=Lib.hid (K2.out.setCell (p:=⟨w1.heap.size,0,none⟩) (.inl (by simp only;omega)) (.string n.1))
   have XBs1:Hid (Blk _ w1.heap.size 69 #[.string n.1,.int .i64 0]):=XB2.out.setL 0 (.string n.1)
   have XAs1:=Lib.hid (XA2.out.far (p:=⟨w1.heap.size,0,none⟩) (by simp only;omega) (.string n.1))
   have Ss2:=Lib.hid (Ss1.out.set_ (a:=⟨w1.heap.size,1,none⟩) (by simp only;omega) (.int .i64 n.2))
   have Ks2:=Lib.hid (Ks1.out.setCell (p:=⟨w1.heap.size,1,none⟩) (.inl (by simp only;omega)) (.int .i64 n.2))
   have XBs2:Hid (Blk _ w1.heap.size 69 #[.string n.1,.int .i64 n.2]):=XBs1.out.setL 1 (.int .i64 n.2)
   have XAs2:=Lib.hid (XAs1.out.far (p:=⟨w1.heap.size,1,none⟩) (by simp only;omega) (.int .i64 n.2))
   go_wp2_with fail
   refine (HSY.out _ _ 59 Ss2.out).mono ?_
   rintro e w3 hT
   cases hq:sy l 59 j with
   |out=>exact (HRO.out (by have h:=HR.out;rw [hq] at h;exact h.symm)).elim
   |err p q =>
    rw [hq] at hT
    obtain ⟨rfl,hK⟩:=hT
    have KE:=Lib.hid (Ks2.out.trans hK)
    have HB:Hid (EO.err p q=R):=by have h:=HR.out;rw [hq] at h;exact h
    clear hq hK
    go_wp2
    refine ⟨rfl,?_⟩
    rw [← HB.out]
    exact ⟨rfl,KE.out⟩
   |ok y q =>
    clear cX fX lX
    rw [hq] at hT
    obtain ⟨v,rfl,hv,hS,hK⟩:=hT
    have HR:Hid ((EO.ok n q)=R):=by have h:=HR.out;rw [hq] at h;exact h
    obtain rfl:v=.tuple #[]:=hv
    have S3:=Lib.hid hS
    have K3:=Lib.hid (Ks2.out.trans hK)
    have hb3:=hS.lt
    have XA3:=Lib.hid (XAs2.out.kp hK (by omega))
    have lA3:=XA3.out.lt
    have XB3:=Lib.hid (XBs2.out.kp hK (by omega))
    have lB3:=XB3.out.lt
    clear hS hK hq
    go_wp2_with (first | (refine boxLoad 69 2 (sizeOfI infoN) Tryz.underlying69 rfl _ rfl w1.heap.size rfl XB3.out rfl ?_) | (refine boxStore 69 2 (sizeOfI infoN) rfl _ _ rfl w.heap.size rfl _ rfl XA3.out rfl rfl rfl ?_))
    refine bodyPost_ret (v:=.agg #[.string n.1,.int .i64 n.2]) ?_ ?_ ?_
    ·exact boxRes 69 2 (sizeOfI infoN) Tryz.underlying69 Tryz.results84 _ w.heap.size rfl (XA3.out.row _) rfl
    ·rfl
    rw [← HR.out]
    exact ⟨_,rfl,rfl,S3.out.row (by omega) _,setRow_kp K3.out (.inl (by omega)) _⟩
theorem declaredTypeF (f:Nat) (S:FS b o c l i w) (hn:l.length≤1073741824) (hf:Fits l) (hr:(thn (wo l wType i) fun _ j=>dty0 l f j)≠.out) :
  Calls Tryz.prog 109 #[.pointer (some ⟨b,0,none⟩)] w (TelF b o c l (isPart eltD) w ((thn (wo l wType i) fun _ j=>dty0 l f j))):=by
 have hbl:=S.lt
 have HNM:=Lib.hid (fun (W:World) (j:Int) (h:FS b o c l j W)=>nameF h hn hf)
 have HWO:=Lib.hid (fun (W:World) (j:Int) (s:List UInt8) (h:FS b o c l j W)=>wordF h hn s)
 have HSW:=Lib.hid (fun (W:World) (j:Int) (s:List UInt8) (h:FS b o c l j W)=>seesWF h hn s)
 have HMP:=Lib.hid (fun (W:World) (j:Int) (h:FS b o c l j W) (hr:memw l (fld l) f j≠.out)=>membersP (fun _ _ _ h=>fld_rng h) (fun i W h hr=>fieldF h hn hf hr) h hn f hr)
 have HMM:=Lib.hid (fun (W:World) (j:Int) (h:FS b o c l j W) (hr:memw l (mth l f) f j≠.out)=>membersM (fun _ _ _ h=>mth_rng h) (fun i W h hr=>methodF f h hn hf hr) h hn f hr)
 have hmf:∀ (fn:Fn) (first cap:Array Value) (w:World),(Instr.makeFunc fn first cap).run Tryz.prog w=.ok (.func fn first cap) w:=fun _ _ _ _=>rfl
 obtain ⟨R,hR⟩:∃ R,(thn (wo l wType i) fun _ j=>thn (na l j) fun n j=>if isW (tkAt l j) wStruct then thn (memw l (fld l) f (j + 1)) fun fs q=>EO.ok (⟨1,n.2,0,n.1,false,noPX,[],fs,[],false,noTX,[]⟩:DX) q else thn (wo l wInterface j) fun _ j=>thn (memw l (mth l f) f j) fun ms q=>EO.ok (⟨2,n.2,0,n.1,false,noPX,[],[],ms,false,noTX,[]⟩:DX) q)=R:=⟨_,rfl⟩
 change (thn (wo l wType i) fun _ j=>thn (na l j) fun n j=>if isW (tkAt l j) wStruct then thn (memw l (fld l) f (j + 1)) fun fs q=>EO.ok (⟨1,n.2,0,n.1,false,noPX,[],fs,[],false,noTX,[]⟩:DX) q else thn (wo l wInterface j) fun _ j=>thn (memw l (mth l f) f j) fun ms q=>EO.ok (⟨2,n.2,0,n.1,false,noPX,[],[],ms,false,noTX,[]⟩:DX) q)≠.out at hr
 change Calls _ _ _ _ (TelF b o c l _ w (thn (wo l wType i) fun _ j=>thn (na l j) fun n j=>if isW (tkAt l j) wStruct then thn (memw l (fld l) f (j + 1)) fun fs q=>EO.ok (⟨1,n.2,0,n.1,false,noPX,[],fs,[],false,noTX,[]⟩:DX) q else thn (wo l wInterface j) fun _ j=>thn (memw l (mth l f) f j) fun ms q=>EO.ok (⟨2,n.2,0,n.1,false,noPX,[],[],ms,false,noTX,[]⟩:DX) q))
 rw [hR] at hr ⊢
 have HR:=Lib.hid hR
 have HRO:=Lib.hid hr
 have S0:=Lib.hid (S.alloc (.cells #[.int .i64 0,.int .i64 0,.int .i64 0,.string ⟨#[]⟩,.bool false,.string ⟨#[]⟩,.int .i64 0,.int .i64 0,.int .i64 0,.string ⟨#[]⟩,.string ⟨#[]⟩,.slice none 0 0,.slice none 0 0,.slice none 0 0,.slice none 0 0,.bool false,.int .i64 0,.int .i64 0,.string ⟨#[]⟩,.string ⟨#[]⟩,.slice none 0 0,.slice none 0 0] 76))
 have K0:=Lib.hid ((Kp.refl b w).alloc (.cells #[.int .i64 0,.int .i64 0,.int .i64 0,.string ⟨#[]⟩,.bool false,.string ⟨#[]⟩,.int .i64 0,.int .i64 0,.int .i64 0,.string ⟨#[]⟩,.string ⟨#[]⟩,.slice none 0 0,.slice none 0 0,.slice none 0 0,.slice none 0 0,.bool false,.int .i64 0,.int .i64 0,.string ⟨#[]⟩,.string ⟨#[]⟩,.slice none 0 0,.slice none 0 0] 76))
 have XA0:Hid (Blk (w.alloc (.cells #[.int .i64 0,.int .i64 0,.int .i64 0,.string ⟨#[]⟩,.bool false,.string ⟨#[]⟩,.int .i64 0,.int .i64 0,.int .i64 0,.string ⟨#[]⟩,.string ⟨#[]⟩,.slice none 0 0,.slice none 0 0,.slice none 0 0,.slice none 0 0,.bool false,.int .i64 0,.int .i64 0,.string ⟨#[]⟩,.string ⟨#[]⟩,.slice none 0 0,.slice none 0 0] 76)) w.heap.size 76 #[.int .i64 0,.int .i64 0,.int .i64 0,.string ⟨#[]⟩,.bool false,.string ⟨#[]⟩,.int .i64 0,.int .i64 0,.int .i64 0,.string ⟨#[]⟩,.string ⟨#[]⟩,.slice none 0 0,.slice none 0 0,.slice none 0 0,.slice none 0 0,.bool false,.int .i64 0,.int .i64 0,.string ⟨#[]⟩,.string ⟨#[]⟩,.slice none 0 0,.slice none 0 0]):=(Blk.new w 76 #[.int .i64 0,.int .i64 0,.int .i64 0,.string ⟨#[]⟩,.bool false,.string ⟨#[]⟩,.int .i64 0,.int .i64 0,.int .i64 0,.string ⟨#[]⟩,.string ⟨#[]⟩,.slice none 0 0,.slice none 0 0,.slice none 0 0,.slice none 0 0,.bool false,.int .i64 0,.int .i64 0,.string ⟨#[]⟩,.string ⟨#[]⟩,.slice none 0 0,.slice none 0 0])
 have wxA:w.heap.size≤w.heap.size:=by omega
 have bxA:b < w.heap.size:=by omega
 clear S hn hf hr hR
 go_enter Tryz.func109,Tryz.ntmps109
 go_wp2_with fail
 refine (HWO.out _ _ wType S0.out).mono ?_
 rintro e w1 hT
 cases hq:wo l wType i with
 |out=>exact (HRO.out (by have h:=HR.out;rw [hq] at h;exact h.symm)).elim
 |err p q =>
  rw [hq] at hT
  obtain ⟨rfl,hK⟩:=hT
  have KE:=Lib.hid (K0.out.trans hK)
  have HB:Hid (EO.err p q=R):=by have h:=HR.out;rw [hq] at h;exact h
  clear hq hK
  go_wp2
  refine ⟨rfl,?_⟩
  rw [← HB.out]
  exact ⟨rfl,KE.out⟩
 |ok y0 j =>
  rw [hq] at hT
  obtain ⟨v,rfl,hv,hS,hK⟩:=hT
  have HR:Hid ((thn (na l j) fun n j=>if isW (tkAt l j) wStruct then thn (memw l (fld l) f (j + 1)) fun fs q=>EO.ok (⟨1,n.2,0,n.1,false,noPX,[],fs,[],false,noTX,[]⟩:DX) q else thn (wo l wInterface j) fun _ j=>thn (memw l (mth l f) f j) fun ms q=>EO.ok (⟨2,n.2,0,n.1,false,noPX,[],[],ms,false,noTX,[]⟩:DX) q)=R):=by have h:=HR.out;rw [hq] at h;exact h
  obtain rfl:v=.tuple #[]:=hv
  have S1:=Lib.hid hS
  have K1:=Lib.hid (K0.out.trans hK)
  have hb1:=hS.lt
  have XA1:=Lib.hid (XA0.out.kp hK (by omega))
  have lA1:=XA1.out.lt
  clear hS hK hq
  have XB0:=Lib.hid (Blk.new w1 76 #[.int .i64 0,.int .i64 0,.int .i64 0,.string ⟨#[]⟩,.bool false,.string ⟨#[]⟩,.int .i64 0,.int .i64 0,.int .i64 0,.string ⟨#[]⟩,.string ⟨#[]⟩,.slice none 0 0,.slice none 0 0,.slice none 0 0,.slice none 0 0,.bool false,.int .i64 0,.int .i64 0,.string ⟨#[]⟩,.string ⟨#[]⟩,.slice none 0 0,.slice none 0 0])
  have wxB:w.heap.size≤w1.heap.size:=K1.out.size
  have bxB:b < w1.heap.size:=hb1
  have oAB:w.heap.size < w1.heap.size:=lA1
  have S1a:=Lib.hid (S1.out.alloc (.cells #[.int .i64 0,.int .i64 0,.int .i64 0,.string ⟨#[]⟩,.bool false,.string ⟨#[]⟩,.int .i64 0,.int .i64 0,.int .i64 0,.string ⟨#[]⟩,.string ⟨#[]⟩,.slice none 0 0,.slice none 0 0,.slice none 0 0,.slice none 0 0,.bool false,.int .i64 0,.int .i64 0,.string ⟨#[]⟩,.string ⟨#[]⟩,.slice none 0 0,.slice none 0 0] 76))
  have K1a:=Lib.hid (K1.out.alloc (.cells #[.int .i64 0,.int .i64 0,.int .i64 0,.string ⟨#[]⟩,.bool false,.string ⟨#[]⟩,.int .i64 0,.int .i64 0,.int .i64 0,.string ⟨#[]⟩,.string ⟨#[]⟩,.slice none 0 0,.slice none 0 0,.slice none 0 0,.slice none 0 0,.bool false,.int .i64 0,.int .i64 0,.string ⟨#[]⟩,.string ⟨#[]⟩,.slice none 0 0,.slice none 0 0] 76))
  have XA1a:=Lib.hid (XA1.out.alloc (.cells #[.int .i64 0,.int .i64 0,.int .i64 0,.string ⟨#[]⟩,.bool false,.string ⟨#[]⟩,.int .i64 0,.int .i64 0,.int .i64 0,.string ⟨#[]⟩,.string ⟨#[]⟩,.slice none 0 0,.slice none 0 0,.slice none 0 0,.slice none 0 0,.bool false,.int .i64 0,.int .i64 0,.string ⟨#[]⟩,.string ⟨#[]⟩,.slice none 0 0,.slice none 0 0] 76))
  go_wp2_with fail
  refine (HNM.out _ _ S1a.out).mono ?_
  rintro e w2 hT
  cases hq:na l j with
  |out=>exact (HRO.out (by have h:=HR.out;rw [hq] at h;exact h.symm)).elim
  |err p q =>
   rw [hq] at hT
   obtain ⟨rfl,hK⟩:=hT
   have KE:=Lib.hid (K1a.out.trans hK)
   have HB:Hid (EO.err p q=R):=by have h:=HR.out;rw [hq] at h;exact h
   clear hq hK
   go_wp2
   refine ⟨rfl,?_⟩
   rw [← HB.out]
   exact ⟨rfl,KE.out⟩
  |ok n j =>
   rw [hq] at hT
   obtain ⟨v,rfl,hv,hS,hK⟩:=hT
   have HR:Hid ((if isW (tkAt l j) wStruct then thn (memw l (fld l) f (j + 1)) fun fs q=>EO.ok (⟨1,n.2,0,n.1,false,noPX,[],fs,[],false,noTX,[]⟩:DX) q else thn (wo l wInterface j) fun _ j=>thn (memw l (mth l f) f j) fun ms q=>EO.ok (⟨2,n.2,0,n.1,false,noPX,[],[],ms,false,noTX,[]⟩:DX) q)=R):=by have h:=HR.out;rw [hq] at h;exact h
   obtain rfl:v=.tuple #[.string n.1,.int .i64 n.2]:=hv
   have S2:=Lib.hid hS
   have K2:=Lib.hid (K1a.out.trans hK)
   have hb2:=hS.lt
   have XA2:=Lib.hid (XA1a.out.kp hK (by omega))
   have lA2:=XA2.out.lt
   have XB2:=Lib.hid (XB0.out.kp hK (by omega))
   have lB2:=XB2.out.lt
   clear hS hK hq
   have cX:=XB2.out.cell
   have fX:=XB2.out.frozen
   have lX:=XB2.out.lt
   have Ss1:=Lib.hid (S2.out.set_ (a:=⟨w1.heap.size,3,none⟩) (by simp only;omega) (.string n.1))
   have Ks1:=Lib.hid (K2.out.setCell (p:=⟨w1.heap.size,3,none⟩) (.inl (by simp only;omega)) (.string n.1))
   have XBs1:Hid (Blk _ w1.heap.size 76 #[.int .i64 0,.int .i64 0,.int .i64 0,.string n.1,.bool false,.string ⟨#[]⟩,.int .i64 0,.int .i64 0,.int .i64 0,.string ⟨#[]⟩,.string ⟨#[]⟩,.slice none 0 0,.slice none 0 0,.slice none 0 0,.slice none 0 0,.bool false,.int .i64 0,.int .i64 0,.string ⟨#[]⟩,.string ⟨#[]⟩,.slice none 0 0,.slice none 0 0]):=XB2.out.setL 3 (.string n.1)
   have XAs1:=Lib.hid (XA2.out.far (p:=⟨w1.heap.size,3,none⟩) (by simp only;omega) (.string n.1))
   have Ss2:=Lib.hid (Ss1.out.set_ (a:=⟨w1.heap.size,1,none⟩) (by simp only;omega) (.int .i64 n.2))
   have Ks2:=Lib.hid (Ks1.out.setCell (p:=⟨w1.heap.size,1,none⟩) (.inl (by simp only;omega)) (.int .i64 n.2))
   have XBs2:Hid (Blk _ w1.heap.size 76 #[.int .i64 0,.int .i64 n.2,.int .i64 0,.string n.1,.bool false,.string ⟨#[]⟩,.int .i64 0,.int .i64 0,.int .i64 0,.string ⟨#[]⟩,.string ⟨#[]⟩,.slice none 0 0,.slice none 0 0,.slice none 0 0,.slice none 0 0,.bool false,.int .i64 0,.int .i64 0,.string ⟨#[]⟩,.string ⟨#[]⟩,.slice none 0 0,.slice none 0 0]):=XBs1.out.setL 1 (.int .i64 n.2)
   have XAs2:=Lib.hid (XAs1.out.far (p:=⟨w1.heap.size,1,none⟩) (by simp only;omega) (.int .i64 n.2))
   have HSX:=Lib.hid (HSW.out _ j wStruct Ss2.out)
   cases hz:isW (tkAt l j) wStruct
   ·rw [hz] at HSX
    have HR:Hid ((thn (wo l wInterface j) fun _ j=>thn (memw l (mth l f) f j) fun ms q=>EO.ok (⟨2,n.2,0,n.1,false,noPX,[],[],ms,false,noTX,[]⟩:DX) q)=R):=by have h:=HR.out;rw [hz] at h;exact h
    clear hz
    go_wp2_with fail
    refine HSX.out.mono ?_
    rintro e w3 ⟨rfl,hB⟩
    clear cX fX lX
    have S3:=Lib.hid (Ss2.out.step hB)
    have K3:=Lib.hid (Ks2.out.then_below hB)
    have hb3:=S3.out.lt
    have XA3:=Lib.hid (XAs2.out.below hB)
    have lA3:=XA3.out.lt
    have XB3:=Lib.hid (XBs2.out.below hB)
    have lB3:=XB3.out.lt
    clear hB HSX
    go_wp2_with fail
    refine (HWO.out _ _ wInterface S3.out).mono ?_
    rintro e w4 hT
    cases hq:wo l wInterface j with
    |out=>exact (HRO.out (by have h:=HR.out;rw [hq] at h;exact h.symm)).elim
    |err p q =>
     rw [hq] at hT
     obtain ⟨rfl,hK⟩:=hT
     have KE:=Lib.hid (K3.out.trans hK)
     have HB:Hid (EO.err p q=R):=by have h:=HR.out;rw [hq] at h;exact h
     clear hq hK
     go_wp2
     refine ⟨rfl,?_⟩
     rw [← HB.out]
     exact ⟨rfl,KE.out⟩
    |ok y1 j =>
     rw [hq] at hT
     obtain ⟨v,rfl,hv,hS,hK⟩:=hT
     have HR:Hid ((thn (memw l (mth l f) f j) fun ms q=>EO.ok (⟨2,n.2,0,n.1,false,noPX,[],[],ms,false,noTX,[]⟩:DX) q)=R):=by have h:=HR.out;rw [hq] at h;exact h
     obtain rfl:v=.tuple #[]:=hv
     have S4:=Lib.hid hS
     have K4:=Lib.hid (K3.out.trans hK)
     have hb4:=hS.lt
     have XA4:=Lib.hid (XA3.out.kp hK (by omega))
     have lA4:=XA4.out.lt
     have XB4:=Lib.hid (XB3.out.kp hK (by omega))
     have lB4:=XB4.out.lt
     clear hS hK hq
     go_wp2_with fail
     refine (HMM.out _ _ S4.out (fun h0=>HRO.out (by have h:=HR.out;rw [h0] at h;exact h.symm))).mono ?_
     rintro e w5 hT
     cases hq:memw l (mth l f) f j with
     |out=>exact (HRO.out (by have h:=HR.out;rw [hq] at h;exact h.symm)).elim
     |err p q =>
      rw [hq] at hT
      obtain ⟨rfl,hK⟩:=hT
      have KE:=Lib.hid (K4.out.trans hK)
      have HB:Hid (EO.err p q=R):=by have h:=HR.out;rw [hq] at h;exact h
      clear hq hK
      go_wp2
      refine ⟨rfl,?_⟩
      rw [← HB.out]
      exact ⟨rfl,KE.out⟩
     |ok ms q =>
      rw [hq] at hT
      obtain ⟨v,rfl,hv,hS,hK⟩:=hT
      have HR:Hid ((EO.ok (⟨2,n.2,0,n.1,false,noPX,[],[],ms,false,noTX,[]⟩:DX) q)=R):=by have h:=HR.out;rw [hq] at h;exact h
      obtain ⟨QRo,QRc,rfl,hrow⟩:=hv
      have S5:=Lib.hid hS
      have K5:=Lib.hid (K4.out.trans hK)
      have hb5:=hS.lt
      have XA5:=Lib.hid (XA4.out.kp hK (by omega))
      have lA5:=XA5.out.lt
      have XB5:=Lib.hid (XB4.out.kp hK (by omega))
      have lB5:=XB5.out.lt
      have QR:=Lib.hid (monoR (B':=w1.heap.size + 1) (by have h:=XB4.out.lt;omega) hrow)
      clear hS hK hq hrow
      have cX:=XB5.out.cell
      have fX:=XB5.out.frozen
      have lX:=XB5.out.lt
      have Ss3:=Lib.hid (S5.out.set_ (a:=⟨w1.heap.size,0,none⟩) (by simp only;omega) (.int .i64 2))
      have Ks3:=Lib.hid (K5.out.setCell (p:=⟨w1.heap.size,0,none⟩) (.inl (by simp only;omega)) (.int .i64 2))
      have XBs3:Hid (Blk _ w1.heap.size 76 #[.int .i64 2,.int .i64 n.2,.int .i64 0,.string n.1,.bool false,.string ⟨#[]⟩,.int .i64 0,.int .i64 0,.int .i64 0,.string ⟨#[]⟩,.string ⟨#[]⟩,.slice none 0 0,.slice none 0 0,.slice none 0 0,.slice none 0 0,.bool false,.int .i64 0,.int .i64 0,.string ⟨#[]⟩,.string ⟨#[]⟩,.slice none 0 0,.slice none 0 0]):=XB5.out.setL 0 (.int .i64 2)
      have XAs3:=Lib.hid (XA5.out.far (p:=⟨w1.heap.size,0,none⟩) (by simp only;omega) (.int .i64 2))
      have QR:=Lib.hid (stayR QR.out ((Ab.refl _ _).setCell (p:=⟨w1.heap.size,0,none⟩) (by simp only;omega) (.int .i64 2)))
      have Ss4:=Lib.hid (Ss3.out.set_ (a:=⟨w1.heap.size,14,none⟩) (by simp only;omega) (.slice QRo ms.length QRc))
      have Ks4:=Lib.hid (Ks3.out.setCell (p:=⟨w1.heap.size,14,none⟩) (.inl (by simp only;omega)) (.slice QRo ms.length QRc))
      have XBs4:Hid (Blk _ w1.heap.size 76 #[.int .i64 2,.int .i64 n.2,.int .i64 0,.string n.1,.bool false,.string ⟨#[]⟩,.int .i64 0,.int .i64 0,.int .i64 0,.string ⟨#[]⟩,.string ⟨#[]⟩,.slice none 0 0,.slice none 0 0,.slice none 0 0,.slice QRo ms.length QRc,.bool false,.int .i64 0,.int .i64 0,.string ⟨#[]⟩,.string ⟨#[]⟩,.slice none 0 0,.slice none 0 0]):=XBs3.out.setL 14 (.slice QRo ms.length QRc)
      have XAs4:=Lib.hid (XAs3.out.far (p:=⟨w1.heap.size,14,none⟩) (by simp only;omega) (.slice QRo ms.length QRc))
      have QR:=Lib.hid (stayR QR.out ((Ab.refl _ _).setCell (p:=⟨w1.heap.size,14,none⟩) (by simp only;omega) (.slice QRo ms.length QRc)))
      go_wp2_with (first | (refine boxLoad 76 22 (sizeOfI infoD) Tryz.underlying76 rfl _ rfl w1.heap.size rfl XBs4.out rfl ?_) | (refine boxStore 76 22 (sizeOfI infoD) rfl _ _ rfl w.heap.size rfl _ rfl XAs4.out rfl rfl rfl ?_))
      refine bodyPost_ret (v:=.agg #[.int .i64 2,.int .i64 n.2,.int .i64 0,.string n.1,.bool false,.string ⟨#[]⟩,.int .i64 0,.int .i64 0,.int .i64 0,.string ⟨#[]⟩,.string ⟨#[]⟩,.slice none 0 0,.slice none 0 0,.slice none 0 0,.slice QRo ms.length QRc,.bool false,.int .i64 0,.int .i64 0,.string ⟨#[]⟩,.string ⟨#[]⟩,.slice none 0 0,.slice none 0 0]) ?_ ?_ ?_
      ·exact boxRes 76 22 (sizeOfI infoD) Tryz.underlying76 Tryz.results109 _ w.heap.size rfl (XAs4.out.row _) rfl
      ·rfl
      rw [← HR.out]
      exact ⟨_,rfl,⟨_,_,_,_,_,_,_,_,_,_,_,_,_,_,_,_,_,_,_,_,_,_,rfl,noPX_at _ _,trivial,trivial,monoR (E:=eltM) (by omega) (stayR (E:=eltM) QR.out (setRow_ab (Ab.refl _ _) (g:=w.heap.size) (by omega) _)),rfl,noSX_at _ _ _⟩,Ss4.out.row (by omega) _,setRow_kp Ks4.out (.inl (by omega)) _⟩
   ·rw [hz] at HSX
    have HR:Hid ((thn (wo l wStruct j) fun _ j=>thn (memw l (fld l) f j) fun fs q=>EO.ok (⟨1,n.2,0,n.1,false,noPX,[],fs,[],false,noTX,[]⟩:DX) q)=R):=by have h:=HR.out;rw [hz] at h;show thn (wo l wStruct j) _=R;rw [wo_yes hz];exact h
    clear hz
    go_wp2_with fail
    refine HSX.out.mono ?_
    rintro e w3 ⟨rfl,hB⟩
    clear cX fX lX
    have S3:=Lib.hid (Ss2.out.step hB)
    have K3:=Lib.hid (Ks2.out.then_below hB)
    have hb3:=S3.out.lt
    have XA3:=Lib.hid (XAs2.out.below hB)
    have lA3:=XA3.out.lt
    have XB3:=Lib.hid (XBs2.out.below hB)
    have lB3:=XB3.out.lt
    clear hB HSX
    go_wp2_with fail
    refine (HWO.out _ _ wStruct S3.out).mono ?_
    rintro e w4 hT
    cases hq:wo l wStruct j with
    |out=>exact (HRO.out (by have h:=HR.out;rw [hq] at h;exact h.symm)).elim
    |err p q =>
     rw [hq] at hT
     obtain ⟨rfl,hK⟩:=hT
     have KE:=Lib.hid (K3.out.trans hK)
     have HB:Hid (EO.err p q=R):=by have h:=HR.out;rw [hq] at h;exact h
     clear hq hK
     go_wp2
     refine ⟨rfl,?_⟩
     rw [← HB.out]
     exact ⟨rfl,KE.out⟩
    |ok y1 j =>
     rw [hq] at hT
     obtain ⟨v,rfl,hv,hS,hK⟩:=hT
     have HR:Hid ((thn (memw l (fld l) f j) fun fs q=>EO.ok (⟨1,n.2,0,n.1,false,noPX,[],fs,[],false,noTX,[]⟩:DX) q)=R):=by have h:=HR.out;rw [hq] at h;exact h
     obtain rfl:v=.tuple #[]:=hv
     have S4:=Lib.hid hS
     have K4:=Lib.hid (K3.out.trans hK)
     have hb4:=hS.lt
     have XA4:=Lib.hid (XA3.out.kp hK (by omega))
     have lA4:=XA4.out.lt
     have XB4:=Lib.hid (XB3.out.kp hK (by omega))
     have lB4:=XB4.out.lt
     clear hS hK hq
     go_wp2_with fail
     refine (HMP.out _ _ S4.out (fun h0=>HRO.out (by have h:=HR.out;rw [h0] at h;exact h.symm))).mono ?_
     rintro e w5 hT
     cases hq:memw l (fld l) f j with
     |out=>exact (HRO.out (by have h:=HR.out;rw [hq] at h;exact h.symm)).elim
     |err p q =>
      rw [hq] at hT
      obtain ⟨rfl,hK⟩:=hT
      have KE:=Lib.hid (K4.out.trans hK)
      have HB:Hid (EO.err p q=R):=by have h:=HR.out;rw [hq] at h;exact h
      clear hq hK
      go_wp2
      refine ⟨rfl,?_⟩
      rw [← HB.out]
      exact ⟨rfl,KE.out⟩
     |ok fs q =>
      rw [hq] at hT
      obtain ⟨v,rfl,hv,hS,hK⟩:=hT
      have HR:Hid ((EO.ok (⟨1,n.2,0,n.1,false,noPX,[],fs,[],false,noTX,[]⟩:DX) q)=R):=by have h:=HR.out;rw [hq] at h;exact h
      obtain ⟨QRo,QRc,rfl,hrow⟩:=hv
      have S5:=Lib.hid hS
      have K5:=Lib.hid (K4.out.trans hK)
      have hb5:=hS.lt
      have XA5:=Lib.hid (XA4.out.kp hK (by omega))
      have lA5:=XA5.out.lt
      have XB5:=Lib.hid (XB4.out.kp hK (by omega))
      have lB5:=XB5.out.lt
      have QR:=Lib.hid (monoR (B':=w1.heap.size + 1) (by have h:=XB4.out.lt;omega) hrow)
      clear hS hK hq hrow
      have cX:=XB5.out.cell
      have fX:=XB5.out.frozen
      have lX:=XB5.out.lt
      have Ss3:=Lib.hid (S5.out.set_ (a:=⟨w1.heap.size,0,none⟩) (by simp only;omega) (.int .i64 1))
      have Ks3:=Lib.hid (K5.out.setCell (p:=⟨w1.heap.size,0,none⟩) (.inl (by simp only;omega)) (.int .i64 1))
      have XBs3:Hid (Blk _ w1.heap.size 76 #[.int .i64 1,.int .i64 n.2,.int .i64 0,.string n.1,.bool false,.string ⟨#[]⟩,.int .i64 0,.int .i64 0,.int .i64 0,.string ⟨#[]⟩,.string ⟨#[]⟩,.slice none 0 0,.slice none 0 0,.slice none 0 0,.slice none 0 0,.bool false,.int .i64 0,.int .i64 0,.string ⟨#[]⟩,.string ⟨#[]⟩,.slice none 0 0,.slice none 0 0]):=XB5.out.setL 0 (.int .i64 1)
      have XAs3:=Lib.hid (XA5.out.far (p:=⟨w1.heap.size,0,none⟩) (by simp only;omega) (.int .i64 1))
      have QR:=Lib.hid (stayR QR.out ((Ab.refl _ _).setCell (p:=⟨w1.heap.size,0,none⟩) (by simp only;omega) (.int .i64 1)))
      have Ss4:=Lib.hid (Ss3.out.set_ (a:=⟨w1.heap.size,13,none⟩) (by simp only;omega) (.slice QRo fs.length QRc))
      have Ks4:=Lib.hid (Ks3.out.setCell (p:=⟨w1.heap.size,13,none⟩) (.inl (by simp only;omega)) (.slice QRo fs.length QRc))
      have XBs4:Hid (Blk _ w1.heap.size 76 #[.int .i64 1,.int .i64 n.2,.int .i64 0,.string n.1,.bool false,.string ⟨#[]⟩,.int .i64 0,.int .i64 0,.int .i64 0,.string ⟨#[]⟩,.string ⟨#[]⟩,.slice none 0 0,.slice none 0 0,.slice QRo fs.length QRc,.slice none 0 0,.bool false,.int .i64 0,.int .i64 0,.string ⟨#[]⟩,.string ⟨#[]⟩,.slice none 0 0,.slice none 0 0]):=XBs3.out.setL 13 (.slice QRo fs.length QRc)
      have XAs4:=Lib.hid (XAs3.out.far (p:=⟨w1.heap.size,13,none⟩) (by simp only;omega) (.slice QRo fs.length QRc))
      have QR:=Lib.hid (stayR QR.out ((Ab.refl _ _).setCell (p:=⟨w1.heap.size,13,none⟩) (by simp only;omega) (.slice QRo fs.length QRc)))
      go_wp2_with (first | (refine boxLoad 76 22 (sizeOfI infoD) Tryz.underlying76 rfl _ rfl w1.heap.size rfl XBs4.out rfl ?_) | (refine boxStore 76 22 (sizeOfI infoD) rfl _ _ rfl w.heap.size rfl _ rfl XAs4.out rfl rfl rfl ?_))
      refine bodyPost_ret (v:=.agg #[.int .i64 1,.int .i64 n.2,.int .i64 0,.string n.1,.bool false,.string ⟨#[]⟩,.int .i64 0,.int .i64 0,.int .i64 0,.string ⟨#[]⟩,.string ⟨#[]⟩,.slice none 0 0,.slice none 0 0,.slice QRo fs.length QRc,.slice none 0 0,.bool false,.int .i64 0,.int .i64 0,.string ⟨#[]⟩,.string ⟨#[]⟩,.slice none 0 0,.slice none 0 0]) ?_ ?_ ?_
      ·exact boxRes 76 22 (sizeOfI infoD) Tryz.underlying76 Tryz.results109 _ w.heap.size rfl (XAs4.out.row _) rfl
      ·rfl
      rw [← HR.out]
      exact ⟨_,rfl,⟨_,_,_,_,_,_,_,_,_,_,_,_,_,_,_,_,_,_,_,_,_,_,rfl,noPX_at _ _,trivial,monoR (E:=eltP) (by omega) (stayR (E:=eltP) QR.out (setRow_ab (Ab.refl _ _) (g:=w.heap.size) (by omega) _)),trivial,rfl,noSX_at _ _ _⟩,Ss4.out.row (by omega) _,setRow_kp Ks4.out (.inl (by omega)) _⟩
end
end Go.Proofs.YtfcgoainglpdlaaGreatDoor
