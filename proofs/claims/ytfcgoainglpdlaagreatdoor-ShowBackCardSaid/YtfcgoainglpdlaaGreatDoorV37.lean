/- The walks of the packages' parser's members, separated, listed (at each type), and of bounds. Condition: the parser lies in memory as said. -/
import Derived.Test.YtfcgoainglpdlaaGreatDoorV36
set_option maxRecDepth 20000
set_option maxHeartbeats 16000000
namespace Go.Proofs.YtfcgoainglpdlaaGreatDoor
open Go.RowKit
open Go.Lib hiding intOf
theorem infoTb:(Tryz.prog.info? 24).map (fun i=>(i.zero,i.size,i.bytes))=some (some (.agg #[.int .i64 0,.int .i64 0,.string ⟨#[]⟩,.string ⟨#[]⟩,.slice none 0 0]),5,72):=by kernel_rfl
theorem infoPb:(Tryz.prog.info? 72).map (fun i=>(i.zero,i.size,i.bytes))=some (some (.agg #[.string ⟨#[]⟩,.int .i64 0,.int .i64 0,.int .i64 0,.string ⟨#[]⟩,.string ⟨#[]⟩,.slice none 0 0]),7,96):=by kernel_rfl
theorem infoMb:(Tryz.prog.info? 111).map (fun i=>(i.zero,i.size,i.bytes))=some (some (.agg #[.string ⟨#[]⟩,.int .i64 0,.slice none 0 0,.bool false,.int .i64 0,.int .i64 0,.string ⟨#[]⟩,.string ⟨#[]⟩,.slice none 0 0]),9,128):=by kernel_rfl
theorem infoDb:(Tryz.prog.info? 76).map (fun i=>(i.zero,i.size,i.bytes))=some (some (.agg zeroDL.toArray),22,320):=by kernel_rfl
theorem infoNb:(Tryz.prog.info? 69).map (fun i=>(i.zero,i.size,i.bytes))=some (some (.agg #[.string ⟨#[]⟩,.int .i64 0]),2,24):=by kernel_rfl
theorem sy_yes {l:List TZ} {z:UInt8} {j:Int} (h:isS (tkAt l j) z=true):sy l z j=.ok () (j + 1):=by unfold sy;rw [if_pos h]
theorem aftw_shut {α:Type} {l:List TZ} {one:Int→EO α} {g:Nat} {j:Int} (h:isS (tkAt l j) 44=false):aftw l one g j=.ok [] j:=by unfold aftw;rw [if_neg (by rw [h];decide)]
theorem aftw_more {α:Type} {l:List TZ} {one:Int→EO α} {g:Nat} {j:Int} (h:isS (tkAt l j) 44=true):aftw l one g j=sepw l one g (j + 1):=by unfold aftw;rw [if_pos h]
theorem preG_stop {α:Type} (ys:List α) (j:Int):preG ys (.ok [] j)=.ok ys j:=by show EO.ok (ys++[]) j=_;rw [List.append_nil]
theorem lstw_eq {α:Type} {l:List TZ} {one:Int→EO α} (f:Nat) (i:Int):lstw l one f i=thn (sy l 40 i) fun _ j=>thn (midw l one f j) fun xs q=>thn (sy l 41 q) fun _ r=>.ok xs r:=thn_congr _ fun _ j _=>sepn_eq f j
section
variable {b c:Nat} {o:Option Addr} {l:List TZ} {i:Int} {w:World}
theorem separatedP {one:Int→EO PX} (h1:∀ i x j,one i=.ok x j→i < j∧j≤l.length) (HE:∀ (i:Int) (W:World),FS b o c l i W→one i≠.out→Calls Tryz.prog 135 #[.pointer (some ⟨b,0,none⟩)] W (TelF b o c l (isPart eltP) W (one i))) (S:FS b o c l i w) (hn:l.length≤1073741824) (f:Nat) (hr:sepw l one f i≠.out) :
  Calls Tryz.prog 151 #[.pointer (some ⟨b,0,none⟩),.func (.func 135) #[.pointer (some ⟨b,0,none⟩)] #[]] w (TelF b o c l (isRow eltP) w (sepw l one f i)):=by
 have hbl:=S.lt
 have HSY:=Lib.hid (fun (W:World) (j:Int) (z:UInt8) (h:FS b o c l j W)=>symF h hn z)
 have HSE:=Lib.hid (fun (W:World) (j:Int) (z:UInt8) (h:FS b o c l j W)=>seesSF h hn z)
 have HEL:=Lib.hid HE
 have H1:=Lib.hid h1
 have HN:=Lib.hid hn
 have H:=Lib.hid S
 obtain ⟨f0,rfl⟩:∃ f0,f=f0 + 1:=by
  cases f with
  |zero=>exact (hr rfl).elim
  |succ q=>exact ⟨q,rfl⟩
 obtain ⟨R,hR⟩:∃ R,sepw l one (f0 + 1) i=R:=⟨_,rfl⟩
 rw [hR] at hr ⊢
 rw [sepw_eq] at hR
 have HR:=Lib.hid hR
 have HRO:=Lib.hid hr
 have K0:=Lib.hid (Kp.refl b w)
 clear S hn h1 HE hr hR
 cases hq:one i with
 |out=>exact (HRO.out (by have h:=HR.out;rw [hq] at h;exact h.symm)).elim
 |err p q =>
  have HC:=Lib.hid (HEL.out i _ H.out (by rw [hq];simp))
  rw [hq] at HC
  have HB:Hid (EO.err p q=R):=by have h:=HR.out;rw [hq] at h;exact h
  clear hq
  go_enter Tryz.func151,Tryz.ntmps151
  go_wp2_with fail
  refine HC.out.mono ?_
  rintro e w4 ⟨rfl,hK⟩
  have K4:=Lib.hid hK
  clear hK
  go_wp2
  refine ⟨rfl,?_⟩
  rw [← HB.out]
  exact ⟨rfl,K4.out⟩
 |ok x0 j0 =>
  have HC:=Lib.hid (HEL.out i _ H.out (by rw [hq];simp))
  have hrng:=H1.out _ _ _ hq
  have hpos:=H.out.pos
  rw [hq] at HC
  have HR0:Hid (preG [x0] (aftw l one f0 j0)=R):=by have h:=HR.out;rw [hq] at h;exact h
  have HJ:Hid ((1:Int)≤j0∧j0≤(l.length:Nat)):=by show _∧_;omega
  clear hq hrng hpos H HR
  go_enter Tryz.func151,Tryz.ntmps151
  go_wp2_with fail
  refine HC.out.mono ?_
  rintro e w1 ⟨v,rfl,hy,hS,hK⟩
  obtain ⟨cs0,rfl,hl,h1c⟩:=eltP.cells hy
  have HL0:=Lib.hid hl
  have S1:=Lib.hid (hS.alloc (.cells cs0.toArray 72))
  have K1:=Lib.hid (hK.alloc (.cells cs0.toArray 72))
  have V1:Hid (RowG eltP 72 w.heap.size (w1.alloc (.cells cs0.toArray 72)) (.slice (some ⟨w1.heap.size,0,none⟩) 1 1) [x0]):=RowG.one hl h1c hy (Nat.le_refl _) hK.size
  clear hy hS hK hl h1c HC
  go_wp2_with (refine boxRow1 73 72 7 _ Tryz.underlying73 infoP rfl (by decide) rfl _ rfl cs0 rfl HL0.out ?_)
  generalize w1.alloc (.cells cs0.toArray 72)=w2 at *
  go_loopg [5] f0 (fun g v wr=>∃ (ys:List PX) (j:Int) (o':Option Addr) (cap:Nat),v=.slice o' ys.length cap∧Hid (preG ys (aftw l one g j)=R)∧Hid (RowG eltP 72 w.heap.size wr (.slice o' ys.length cap) ys)∧Hid (FS b o c l j wr)∧Hid (Kp b w wr)∧g≤f0∧Hid (((ys.length:Nat):Int)≤j∧j≤(l.length:Nat)))
  case atStart=>exact ⟨[x0],j0,_,1,rfl,HR0,V1,S1,K1,Nat.le_refl _,Lib.hid ⟨HJ.out.1,HJ.out.2⟩⟩
  case round =>
   clear S1 K1 HR0 V1
   obtain ⟨ys,j,o',cap,rfl,HR,HV,HS,HK,hgf,HYJ⟩:=hrel
   have HS2:=Lib.hid (HSE.out _ j 44 HS.out)
   cases hzj:isS (tkAt l j) 44
   ·rw [hzj] at HS2
    have HB:Hid (EO.ok ys j=R):=by have h:=HR.out;rw [aftw_shut hzj,preG_stop] at h;exact h
    clear hzj
    go_wp2_with fail
    refine HS2.out.mono ?_
    rintro e w3 ⟨rfl,hB⟩
    have S3:=Lib.hid (HS.out.step hB)
    have K3:=Lib.hid (HK.out.then_below hB)
    have V3:=Lib.hid (HV.out.below hB)
    clear hB HS2
    go_wp2
    go_ret
    rw [← HB.out]
    obtain ⟨o2,c2,he,hrow⟩:=V3.out.row
    injection he with he1 _ he3
    subst he1 he3
    exact ⟨_,rfl,⟨_,_,rfl,hrow⟩,S3.out,K3.out⟩
   ·rw [hzj] at HS2
    have hb:=HR.out
    rw [aftw_more hzj] at hb
    obtain ⟨gg,rfl⟩:∃ gg,gk=gg + 1:=by
     cases gk with
     |zero=>exact (HRO.out (by rw [sepw] at hb;exact hb.symm)).elim
     |succ q=>exact ⟨q,rfl⟩
    rw [sepw_eq] at hb
    have HR2:=Lib.hid hb
    have HSJ:=Lib.hid (fun (W:World) (h:FS b o c l j W)=>by have h:=HSY.out W j 44 h;rw [sy_yes hzj] at h;exact h)
    clear hzj hb
    go_wp2_with fail
    refine HS2.out.mono ?_
    rintro e w3 ⟨rfl,hB⟩
    have S3:=Lib.hid (HS.out.step hB)
    have K3:=Lib.hid (HK.out.then_below hB)
    have V3:=Lib.hid (HV.out.below hB)
    clear hB HS2
    go_wp2_with fail
    refine (HSJ.out _ S3.out).mono ?_
    rintro e w5 ⟨v,rfl,hv,hS,hK⟩
    obtain rfl:v=.tuple #[]:=hv
    have S5:=Lib.hid hS
    have K5:=Lib.hid (K3.out.trans hK)
    have V5:=Lib.hid (V3.out.kp hK hbl)
    clear hS hK
    cases hq:one (j + 1) with
    |out=>exact (HRO.out (by have h:=HR2.out;rw [hq] at h;exact h.symm)).elim
    |err p q =>
     have HC:=Lib.hid (HEL.out (j + 1) _ S5.out (by rw [hq];simp))
     rw [hq] at HC
     have HB:Hid (EO.err p q=R):=by have h:=HR2.out;rw [hq] at h;exact h
     clear hq
     go_wp2_with fail
     refine HC.out.mono ?_
     rintro e w4 ⟨rfl,hK⟩
     have K4:=Lib.hid (K5.out.trans hK)
     clear hK
     go_wp2
     refine ⟨rfl,?_⟩
     rw [← HB.out]
     exact ⟨rfl,K4.out⟩
    |ok y q =>
     have HC:=Lib.hid (HEL.out (j + 1) _ S5.out (by rw [hq];simp))
     have hrng:=H1.out _ _ _ hq
     rw [hq] at HC
     have HB:Hid (preG (ys++[y]) (aftw l one gg q)=R):=by have h:=HR2.out;rw [hq] at h;show _=_;rw [← preG_snoc];exact h
     have HQ:=Lib.hid hrng
     clear hq hrng
     go_wp2_with fail
     refine HC.out.mono ?_
     rintro e w4 ⟨v,rfl,hy,hS,hK⟩
     obtain ⟨cs,rfl,hl,h1c⟩:=eltP.cells hy
     have S4:=Lib.hid hS
     have K4:=Lib.hid (K5.out.trans hK)
     have V4:=Lib.hid (V5.out.kp hK hbl)
     have OL:=Lib.hid V5.out.own_lt
     have HY:=Lib.hid hy
     have HL:=Lib.hid hl
     have H1C:=Lib.hid h1c
     have hz3:=K5.out.size
     have hz4:=hK.size
     have HLB:Hid (ys.length + 1≤1073741825):=by
      have h1:=HQ.out
      have h2:=HYJ.out
      have h3:=HN.out
      show ys.length + 1≤1073741825
      omega
     clear hy hS hK hl h1c
     go_wp2_with (first | (refine boxRow1 73 72 7 _ Tryz.underlying73 infoP rfl (by decide) rfl _ rfl cs rfl HL.out ?_) | (refine boxAppend (E:=eltP) (T:=72) Tryz.underlying73 infoPb rfl (by decide) rfl _ _ rfl w.heap.size w4 (.slice o' ys.length cap) ys rfl rfl V4.out _ hz3 OL.out y cs HL.out H1C.out HY.out hz4 HLB.out ?_;intro v' w' hrow hbel;obtain ⟨o2,cap2,rfl⟩:=hrow.slice;have V5:=Lib.hid hrow;have S5:=Lib.hid ((S4.out.alloc _).under (hbel.mono (by omega)));have K5:=Lib.hid ((K4.out.alloc _).then_base hbel);clear hrow hbel))
     go_roundg gg
     case measure=>omega
     case rel =>
      exact ⟨ys++[y],q,o2,cap2,by rw [List.length_append];rfl,HB,V5,S5,K5,by omega,Lib.hid ⟨by have h1:=HQ.out;have h2:=HYJ.out;rw [List.length_append,List.length_singleton];omega,HQ.out.2⟩⟩
theorem separatedT {one:Int→EO TX} (h1:∀ i x j,one i=.ok x j→i < j∧j≤l.length) (HE:∀ (i:Int) (W:World),FS b o c l i W→one i≠.out→Calls Tryz.prog 150 #[.pointer (some ⟨b,0,none⟩)] W (TelF b o c l (isPart eltT) W (one i))) (S:FS b o c l i w) (hn:l.length≤1073741824) (f:Nat) (hr:sepw l one f i≠.out) :
  Calls Tryz.prog 161 #[.pointer (some ⟨b,0,none⟩),.func (.func 150) #[.pointer (some ⟨b,0,none⟩)] #[]] w (TelF b o c l (isRow eltT) w (sepw l one f i)):=by
 have hbl:=S.lt
 have HSY:=Lib.hid (fun (W:World) (j:Int) (z:UInt8) (h:FS b o c l j W)=>symF h hn z)
 have HSE:=Lib.hid (fun (W:World) (j:Int) (z:UInt8) (h:FS b o c l j W)=>seesSF h hn z)
 have HEL:=Lib.hid HE
 have H1:=Lib.hid h1
 have HN:=Lib.hid hn
 have H:=Lib.hid S
 obtain ⟨f0,rfl⟩:∃ f0,f=f0 + 1:=by
  cases f with
  |zero=>exact (hr rfl).elim
  |succ q=>exact ⟨q,rfl⟩
 obtain ⟨R,hR⟩:∃ R,sepw l one (f0 + 1) i=R:=⟨_,rfl⟩
 rw [hR] at hr ⊢
 rw [sepw_eq] at hR
 have HR:=Lib.hid hR
 have HRO:=Lib.hid hr
 have K0:=Lib.hid (Kp.refl b w)
 clear S hn h1 HE hr hR
 cases hq:one i with
 |out=>exact (HRO.out (by have h:=HR.out;rw [hq] at h;exact h.symm)).elim
 |err p q =>
  have HC:=Lib.hid (HEL.out i _ H.out (by rw [hq];simp))
  rw [hq] at HC
  have HB:Hid (EO.err p q=R):=by have h:=HR.out;rw [hq] at h;exact h
  clear hq
  go_enter Tryz.func161,Tryz.ntmps161
  go_wp2_with fail
  refine HC.out.mono ?_
  rintro e w4 ⟨rfl,hK⟩
  have K4:=Lib.hid hK
  clear hK
  go_wp2
  refine ⟨rfl,?_⟩
  rw [← HB.out]
  exact ⟨rfl,K4.out⟩
 |ok x0 j0 =>
  have HC:=Lib.hid (HEL.out i _ H.out (by rw [hq];simp))
  have hrng:=H1.out _ _ _ hq
  have hpos:=H.out.pos
  rw [hq] at HC
  have HR0:Hid (preG [x0] (aftw l one f0 j0)=R):=by have h:=HR.out;rw [hq] at h;exact h
  have HJ:Hid ((1:Int)≤j0∧j0≤(l.length:Nat)):=by show _∧_;omega
  clear hq hrng hpos H HR
  go_enter Tryz.func161,Tryz.ntmps161
  go_wp2_with fail
  refine HC.out.mono ?_
  rintro e w1 ⟨v,rfl,hy,hS,hK⟩
  obtain ⟨cs0,rfl,hl,h1c⟩:=eltT.cells hy
  have HL0:=Lib.hid hl
  have S1:=Lib.hid (hS.alloc (.cells cs0.toArray 24))
  have K1:=Lib.hid (hK.alloc (.cells cs0.toArray 24))
  have V1:Hid (RowG eltT 24 w.heap.size (w1.alloc (.cells cs0.toArray 24)) (.slice (some ⟨w1.heap.size,0,none⟩) 1 1) [x0]):=RowG.one hl h1c hy (Nat.le_refl _) hK.size
  clear hy hS hK hl h1c HC
  go_wp2_with (refine boxRow1 22 24 5 _ Tryz.underlying22 infoT rfl (by decide) rfl _ rfl cs0 rfl HL0.out ?_)
  generalize w1.alloc (.cells cs0.toArray 24)=w2 at *
  go_loopg [5] f0 (fun g v wr=>∃ (ys:List TX) (j:Int) (o':Option Addr) (cap:Nat),v=.slice o' ys.length cap∧Hid (preG ys (aftw l one g j)=R)∧Hid (RowG eltT 24 w.heap.size wr (.slice o' ys.length cap) ys)∧Hid (FS b o c l j wr)∧Hid (Kp b w wr)∧g≤f0∧Hid (((ys.length:Nat):Int)≤j∧j≤(l.length:Nat)))
  case atStart=>exact ⟨[x0],j0,_,1,rfl,HR0,V1,S1,K1,Nat.le_refl _,Lib.hid ⟨HJ.out.1,HJ.out.2⟩⟩
  case round =>
   clear S1 K1 HR0 V1
   obtain ⟨ys,j,o',cap,rfl,HR,HV,HS,HK,hgf,HYJ⟩:=hrel
   have HS2:=Lib.hid (HSE.out _ j 44 HS.out)
   cases hzj:isS (tkAt l j) 44
   ·rw [hzj] at HS2
    have HB:Hid (EO.ok ys j=R):=by have h:=HR.out;rw [aftw_shut hzj,preG_stop] at h;exact h
    clear hzj
    go_wp2_with fail
    refine HS2.out.mono ?_
    rintro e w3 ⟨rfl,hB⟩
    have S3:=Lib.hid (HS.out.step hB)
    have K3:=Lib.hid (HK.out.then_below hB)
    have V3:=Lib.hid (HV.out.below hB)
    clear hB HS2
    go_wp2
    go_ret
    rw [← HB.out]
    obtain ⟨o2,c2,he,hrow⟩:=V3.out.row
    injection he with he1 _ he3
    subst he1 he3
    exact ⟨_,rfl,⟨_,_,rfl,hrow⟩,S3.out,K3.out⟩
   ·rw [hzj] at HS2
    have hb:=HR.out
    rw [aftw_more hzj] at hb
    obtain ⟨gg,rfl⟩:∃ gg,gk=gg + 1:=by
     cases gk with
     |zero=>exact (HRO.out (by rw [sepw] at hb;exact hb.symm)).elim
     |succ q=>exact ⟨q,rfl⟩
    rw [sepw_eq] at hb
    have HR2:=Lib.hid hb
    have HSJ:=Lib.hid (fun (W:World) (h:FS b o c l j W)=>by have h:=HSY.out W j 44 h;rw [sy_yes hzj] at h;exact h)
    clear hzj hb
    go_wp2_with fail
    refine HS2.out.mono ?_
    rintro e w3 ⟨rfl,hB⟩
    have S3:=Lib.hid (HS.out.step hB)
    have K3:=Lib.hid (HK.out.then_below hB)
    have V3:=Lib.hid (HV.out.below hB)
    clear hB HS2
    go_wp2_with fail
    refine (HSJ.out _ S3.out).mono ?_
    rintro e w5 ⟨v,rfl,hv,hS,hK⟩
    obtain rfl:v=.tuple #[]:=hv
    have S5:=Lib.hid hS
    have K5:=Lib.hid (K3.out.trans hK)
    have V5:=Lib.hid (V3.out.kp hK hbl)
    clear hS hK
    cases hq:one (j + 1) with
    |out=>exact (HRO.out (by have h:=HR2.out;rw [hq] at h;exact h.symm)).elim
    |err p q =>
     have HC:=Lib.hid (HEL.out (j + 1) _ S5.out (by rw [hq];simp))
     rw [hq] at HC
     have HB:Hid (EO.err p q=R):=by have h:=HR2.out;rw [hq] at h;exact h
     clear hq
     go_wp2_with fail
     refine HC.out.mono ?_
     rintro e w4 ⟨rfl,hK⟩
     have K4:=Lib.hid (K5.out.trans hK)
     clear hK
     go_wp2
     refine ⟨rfl,?_⟩
     rw [← HB.out]
     exact ⟨rfl,K4.out⟩
    |ok y q =>
     have HC:=Lib.hid (HEL.out (j + 1) _ S5.out (by rw [hq];simp))
     have hrng:=H1.out _ _ _ hq
     rw [hq] at HC
     have HB:Hid (preG (ys++[y]) (aftw l one gg q)=R):=by have h:=HR2.out;rw [hq] at h;show _=_;rw [← preG_snoc];exact h
     have HQ:=Lib.hid hrng
     clear hq hrng
     go_wp2_with fail
     refine HC.out.mono ?_
     rintro e w4 ⟨v,rfl,hy,hS,hK⟩
     obtain ⟨cs,rfl,hl,h1c⟩:=eltT.cells hy
     have S4:=Lib.hid hS
     have K4:=Lib.hid (K5.out.trans hK)
     have V4:=Lib.hid (V5.out.kp hK hbl)
     have OL:=Lib.hid V5.out.own_lt
     have HY:=Lib.hid hy
     have HL:=Lib.hid hl
     have H1C:=Lib.hid h1c
     have hz3:=K5.out.size
     have hz4:=hK.size
     have HLB:Hid (ys.length + 1≤1073741825):=by
      have h1:=HQ.out
      have h2:=HYJ.out
      have h3:=HN.out
      show ys.length + 1≤1073741825
      omega
     clear hy hS hK hl h1c
     go_wp2_with (first | (refine boxRow1 22 24 5 _ Tryz.underlying22 infoT rfl (by decide) rfl _ rfl cs rfl HL.out ?_) | (refine boxAppend (E:=eltT) (T:=24) Tryz.underlying22 infoTb rfl (by decide) rfl _ _ rfl w.heap.size w4 (.slice o' ys.length cap) ys rfl rfl V4.out _ hz3 OL.out y cs HL.out H1C.out HY.out hz4 HLB.out ?_;intro v' w' hrow hbel;obtain ⟨o2,cap2,rfl⟩:=hrow.slice;have V5:=Lib.hid hrow;have S5:=Lib.hid ((S4.out.alloc _).under (hbel.mono (by omega)));have K5:=Lib.hid ((K4.out.alloc _).then_base hbel);clear hrow hbel))
     go_roundg gg
     case measure=>omega
     case rel =>
      exact ⟨ys++[y],q,o2,cap2,by rw [List.length_append];rfl,HB,V5,S5,K5,by omega,Lib.hid ⟨by have h1:=HQ.out;have h2:=HYJ.out;rw [List.length_append,List.length_singleton];omega,HQ.out.2⟩⟩
theorem membersP {one:Int→EO PX} (h1:∀ i x j,one i=.ok x j→i < j∧j≤l.length) (HE:∀ (i:Int) (W:World),FS b o c l i W→one i≠.out→Calls Tryz.prog 129 #[.pointer (some ⟨b,0,none⟩)] W (TelF b o c l (isPart eltP) W (one i))) (S:FS b o c l i w) (hn:l.length≤1073741824) (f:Nat) (hr:memw l one f i≠.out) :
  Calls Tryz.prog 128 #[.pointer (some ⟨b,0,none⟩),.func (.func 129) #[.pointer (some ⟨b,0,none⟩)] #[]] w (TelF b o c l (isRow eltP) w (memw l one f i)):=by
 have hbl:=S.lt
 have HSY:=Lib.hid (fun (W:World) (j:Int) (z:UInt8) (h:FS b o c l j W)=>symF h hn z)
 have HSE:=Lib.hid (fun (W:World) (j:Int) (z:UInt8) (h:FS b o c l j W)=>seesSF h hn z)
 have HEL:=Lib.hid HE
 have H1:=Lib.hid h1
 have HN:=Lib.hid hn
 have H:=Lib.hid S
 obtain ⟨R,hR⟩:∃ R,(thn (sy l 123 i) fun _ j=>upto l one f j)=R:=⟨_,rfl⟩
 change (thn (sy l 123 i) fun _ j=>upto l one f j)≠.out at hr
 change Calls _ _ _ _ (TelF b o c l _ w (thn (sy l 123 i) fun _ j=>upto l one f j))
 rw [hR] at hr ⊢
 have HR:=Lib.hid hR
 have HRO:=Lib.hid hr
 have K0:=Lib.hid (Kp.refl b w)
 clear S hn h1 HE hr hR
 go_enter Tryz.func128,Tryz.ntmps128
 go_wp2_with fail
 refine (HSY.out _ _ 123 H.out).mono ?_
 rintro e w1 hT
 cases hq:sy l 123 i with
 |out=>exact (HRO.out (by have h:=HR.out;rw [hq] at h;exact h.symm)).elim
 |err p q =>
  rw [hq] at hT
  obtain ⟨rfl,hK⟩:=hT
  have KE:=Lib.hid (K0.out.trans hK)
  have HB:Hid (EO.err p q=R):=by have h:=HR.out;rw [hq] at h;exact h
  clear hq hK
  go_wp2
  refine ⟨rfl,?_⟩
  rw [← HB.out]
  exact ⟨rfl,KE.out⟩
 |ok y0 j0 =>
  rw [hq] at hT
  obtain ⟨v,rfl,hv,hS,hK⟩:=hT
  have HR0:Hid (preG [] (upto l one f j0)=R):=by have h:=HR.out;rw [hq] at h;show _=_;rw [preG_nil];exact h
  obtain rfl:v=.tuple #[]:=hv
  have hj:=sy_rng hq
  have HJ:Hid ((0:Int)≤j0∧j0≤(l.length:Nat)):=by show _∧_;omega
  have S1:=Lib.hid hS
  have K1:=Lib.hid hK
  clear hS hK hq hj H HR
  go_wp2_with fail
  go_loopg [5] f (fun g v wr=>∃ (ys:List PX) (j:Int) (o':Option Addr) (cap:Nat),v=.slice o' ys.length cap∧Hid (preG ys (upto l one g j)=R)∧Hid (RowG eltP 72 w.heap.size wr (.slice o' ys.length cap) ys)∧Hid (FS b o c l j wr)∧Hid (Kp b w wr)∧g≤f∧Hid (((ys.length:Nat):Int)≤j∧j≤(l.length:Nat)))
  case atStart=>exact ⟨[],j0,none,0,rfl,HR0,RowG.nil _ _,S1,K1,Nat.le_refl _,Lib.hid ⟨HJ.out.1,HJ.out.2⟩⟩
  case round =>
   clear S1 K1 HR0
   obtain ⟨ys,j,o',cap,rfl,HR,HV,HS,HK,hgf,HYJ⟩:=hrel
   obtain ⟨gg,rfl⟩:∃ gg,gk=gg + 1:=by
    cases gk with
    |zero=>exact (HRO.out (by have h:=HR.out;rw [upto] at h;exact h.symm)).elim
    |succ q=>exact ⟨q,rfl⟩
   have HS2:=Lib.hid (HSE.out _ j 125 HS.out)
   cases hzj:isS (tkAt l j) 125
   ·rw [hzj] at HS2
    have hb:=HR.out
    rw [upto_more hzj] at hb
    have HR2:=Lib.hid hb
    clear hzj hb
    go_wp2_with fail
    refine HS2.out.mono ?_
    rintro e w3 ⟨rfl,hB⟩
    have S3:=Lib.hid (HS.out.step hB)
    have K3:=Lib.hid (HK.out.then_below hB)
    have V3:=Lib.hid (HV.out.below hB)
    clear hB HS2
    cases hq:one (j) with
    |out=>exact (HRO.out (by have h:=HR2.out;rw [hq] at h;exact h.symm)).elim
    |err p q =>
     have HC:=Lib.hid (HEL.out (j) _ S3.out (by rw [hq];simp))
     rw [hq] at HC
     have HB:Hid (EO.err p q=R):=by have h:=HR2.out;rw [hq] at h;exact h
     clear hq
     go_wp2_with fail
     refine HC.out.mono ?_
     rintro e w4 ⟨rfl,hK⟩
     have K4:=Lib.hid (K3.out.trans hK)
     clear hK
     go_wp2
     refine ⟨rfl,?_⟩
     rw [← HB.out]
     exact ⟨rfl,K4.out⟩
    |ok y q =>
     have HC:=Lib.hid (HEL.out (j) _ S3.out (by rw [hq];simp))
     have hrng:=H1.out _ _ _ hq
     rw [hq] at HC
     have HB:Hid (preG (ys++[y]) (upto l one gg q)=R):=by have h:=HR2.out;rw [hq] at h;show _=_;rw [← preG_snoc];exact h
     have HQ:=Lib.hid hrng
     clear hq hrng
     go_wp2_with fail
     refine HC.out.mono ?_
     rintro e w4 ⟨v,rfl,hy,hS,hK⟩
     obtain ⟨cs,rfl,hl,h1c⟩:=eltP.cells hy
     have S4:=Lib.hid hS
     have K4:=Lib.hid (K3.out.trans hK)
     have V4:=Lib.hid (V3.out.kp hK hbl)
     have OL:=Lib.hid V3.out.own_lt
     have HY:=Lib.hid hy
     have HL:=Lib.hid hl
     have H1C:=Lib.hid h1c
     have hz3:=K3.out.size
     have hz4:=hK.size
     have HLB:Hid (ys.length + 1≤1073741825):=by
      have h1:=HQ.out
      have h2:=HYJ.out
      have h3:=HN.out
      show ys.length + 1≤1073741825
      omega
     clear hy hS hK hl h1c
     go_wp2_with (first | (refine boxRow1 73 72 7 _ Tryz.underlying73 infoP rfl (by decide) rfl _ rfl cs rfl HL.out ?_) | (refine boxAppend (E:=eltP) (T:=72) Tryz.underlying73 infoPb rfl (by decide) rfl _ _ rfl w.heap.size w4 (.slice o' ys.length cap) ys rfl rfl V4.out _ hz3 OL.out y cs HL.out H1C.out HY.out hz4 HLB.out ?_;intro v' w' hrow hbel;obtain ⟨o2,cap2,rfl⟩:=hrow.slice;have V5:=Lib.hid hrow;have S5:=Lib.hid ((S4.out.alloc _).under (hbel.mono (by omega)));have K5:=Lib.hid ((K4.out.alloc _).then_base hbel);clear hrow hbel))
     go_roundg gg
     case measure=>omega
     case rel =>
      exact ⟨ys++[y],q,o2,cap2,by rw [List.length_append];rfl,HB,V5,S5,K5,by omega,Lib.hid ⟨by have h1:=HQ.out;have h2:=HYJ.out;rw [List.length_append,List.length_singleton];omega,HQ.out.2⟩⟩
   ·rw [hzj] at HS2
    have HB:Hid (EO.ok ys (j + 1)=R):=by have h:=HR.out;rw [upto_shut hzj,preG_stop] at h;exact h
    have HSJ:=Lib.hid (fun (W:World) (h:FS b o c l j W)=>by have h:=HSY.out W j 125 h;rw [sy_yes hzj] at h;exact h)
    clear hzj
    go_wp2_with fail
    refine HS2.out.mono ?_
    rintro e w3 ⟨rfl,hB⟩
    have S3:=Lib.hid (HS.out.step hB)
    have K3:=Lib.hid (HK.out.then_below hB)
    have V3:=Lib.hid (HV.out.below hB)
    clear hB HS2
    go_wp2_with fail
    refine (HSJ.out _ S3.out).mono ?_
    rintro e w4 ⟨v,rfl,hv,hS,hK⟩
    obtain rfl:v=.tuple #[]:=hv
    have S4:=Lib.hid hS
    have K4:=Lib.hid (K3.out.trans hK)
    have V4:=Lib.hid (V3.out.kp hK hbl)
    clear hS hK
    go_wp2
    go_ret
    rw [← HB.out]
    obtain ⟨o2,c2,he,hrow⟩:=V4.out.row
    injection he with he1 _ he3
    subst he1 he3
    exact ⟨_,rfl,⟨_,_,rfl,hrow⟩,S4.out,K4.out⟩
theorem listedP {one:Int→EO PX} (h1:∀ i x j,one i=.ok x j→i < j∧j≤l.length) (HE:∀ (i:Int) (W:World),FS b o c l i W→one i≠.out→Calls Tryz.prog 135 #[.pointer (some ⟨b,0,none⟩)] W (TelF b o c l (isPart eltP) W (one i))) (S:FS b o c l i w) (hn:l.length≤1073741824) (f:Nat) (hr:lstw l one f i≠.out) :
  Calls Tryz.prog 134 #[.pointer (some ⟨b,0,none⟩),.func (.func 135) #[.pointer (some ⟨b,0,none⟩)] #[]] w (TelF b o c l (isRow eltP) w (lstw l one f i)):=by
 have hbl:=S.lt
 have HSY:=Lib.hid (fun (W:World) (j:Int) (z:UInt8) (h:FS b o c l j W)=>symF h hn z)
 have HSE:=Lib.hid (fun (W:World) (j:Int) (z:UInt8) (h:FS b o c l j W)=>seesSF h hn z)
 have HEL:=Lib.hid HE
 have H1:=Lib.hid h1
 have HN:=Lib.hid hn
 have H:=Lib.hid S
 have HSP:=Lib.hid (fun (W:World) (j:Int) (h:FS b o c l j W) (hr:sepw l one f j≠.out)=>separatedP h1 HE h hn f hr)
 rw [lstw_eq] at hr ⊢
 obtain ⟨R,hR⟩:∃ R,(thn (sy l 40 i) fun _ j=>thn (midw l one f j) fun xs q=>thn (sy l 41 q) fun _ r=>EO.ok xs r)=R:=⟨_,rfl⟩
 rw [hR] at hr ⊢
 have HR:=Lib.hid hR
 have HRO:=Lib.hid hr
 have K0:=Lib.hid (Kp.refl b w)
 clear S hn h1 HE hr hR
 go_enter Tryz.func134,Tryz.ntmps134
 go_wp2_with fail
 refine (HSY.out _ _ 40 H.out).mono ?_
 rintro e w1 hT
 cases hq:sy l 40 i with
 |out=>exact (HRO.out (by have h:=HR.out;rw [hq] at h;exact h.symm)).elim
 |err p q =>
  rw [hq] at hT
  obtain ⟨rfl,hK⟩:=hT
  have KE:=Lib.hid (K0.out.trans hK)
  have HB:Hid (EO.err p q=R):=by have h:=HR.out;rw [hq] at h;exact h
  clear hq hK
  go_wp2
  refine ⟨rfl,?_⟩
  rw [← HB.out]
  exact ⟨rfl,KE.out⟩
 |ok y0 j =>
  rw [hq] at hT
  obtain ⟨v,rfl,hv,hS,hK⟩:=hT
  have HR0:Hid ((thn (midw l one f j) fun xs q=>thn (sy l 41 q) fun _ r=>EO.ok xs r)=R):=by have h:=HR.out;rw [hq] at h;exact h
  obtain rfl:v=.tuple #[]:=hv
  have S1:=Lib.hid hS
  have K1:=Lib.hid hK
  have HS2:=Lib.hid (HSE.out _ j 41 hS)
  clear hS hK hq H HR
  cases hzj:isS (tkAt l j) 41
  ·rw [hzj] at HS2
   have HR:Hid ((thn (sepw l one f j) fun xs q=>thn (sy l 41 q) fun _ r=>EO.ok xs r)=R):=by have h:=HR0.out;unfold midw at h;rw [hzj] at h;exact h
   clear hzj HR0
   go_wp2_with fail
   refine HS2.out.mono ?_
   rintro e w3 ⟨rfl,hB⟩
   have S3:=Lib.hid (S1.out.step hB)
   have K3:=Lib.hid (K1.out.then_below hB)
   clear hB HS2
   go_wp2_with fail
   refine (HSP.out _ _ S3.out (fun h0=>HRO.out (by have h:=HR.out;rw [h0] at h;exact h.symm))).mono ?_
   rintro e w4 hT
   cases hq:sepw l one f j with
   |out=>exact (HRO.out (by have h:=HR.out;rw [hq] at h;exact h.symm)).elim
   |err p q =>
    rw [hq] at hT
    obtain ⟨rfl,hK⟩:=hT
    have KE:=Lib.hid (K3.out.trans hK)
    have HB:Hid (EO.err p q=R):=by have h:=HR.out;rw [hq] at h;exact h
    clear hq hK
    go_wp2
    refine ⟨rfl,?_⟩
    rw [← HB.out]
    exact ⟨rfl,KE.out⟩
   |ok xs q =>
    rw [hq] at hT
    obtain ⟨v,rfl,hv,hS,hK⟩:=hT
    obtain ⟨o',c',rfl,hrow⟩:=hv
    have HR2:Hid ((thn (sy l 41 q) fun _ r=>EO.ok xs r)=R):=by have h:=HR.out;rw [hq] at h;exact h
    have HR:=HR2
    have S4:=Lib.hid hS
    have K4:=Lib.hid (K3.out.trans hK)
    have V4:=Lib.hid (monoR (B':=w.heap.size) K3.out.size hrow)
    clear hS hK hq hrow HR2
    go_wp2_with fail
    refine (HSY.out _ _ 41 S4.out).mono ?_
    rintro e w5 hT
    cases hq:sy l 41 q with
    |out=>exact (HRO.out (by have h:=HR.out;rw [hq] at h;exact h.symm)).elim
    |err p q =>
     rw [hq] at hT
     obtain ⟨rfl,hK⟩:=hT
     have KE:=Lib.hid (K4.out.trans hK)
     have HB:Hid (EO.err p q=R):=by have h:=HR.out;rw [hq] at h;exact h
     clear hq hK
     go_wp2
     refine ⟨rfl,?_⟩
     rw [← HB.out]
     exact ⟨rfl,KE.out⟩
    |ok y1 r =>
     rw [hq] at hT
     obtain ⟨v,rfl,hv,hS,hK⟩:=hT
     obtain rfl:v=.tuple #[]:=hv
     have HB:Hid (EO.ok xs r=R):=by have h:=HR.out;rw [hq] at h;exact h
     have S5:=Lib.hid hS
     have K5:=Lib.hid (K4.out.trans hK)
     have V5:=Lib.hid (stayR V4.out ((Ab.refl _ _).kp hK hbl))
     clear hS hK hq
     go_wp2
     go_ret
     rw [← HB.out]
     exact ⟨_,rfl,⟨_,_,rfl,V5.out⟩,S5.out,K5.out⟩
  ·rw [hzj] at HS2
   have HB:Hid (EO.ok [] (j + 1)=R):=by have h:=HR0.out;unfold midw at h;rw [hzj] at h;change thn (sy l 41 j) (fun _ r=>EO.ok [] r)=R at h;rw [sy_yes hzj] at h;exact h
   have HSJ:=Lib.hid (fun (W:World) (h:FS b o c l j W)=>by have h:=HSY.out W j 41 h;rw [sy_yes hzj] at h;exact h)
   clear hzj HR0
   go_wp2_with fail
   refine HS2.out.mono ?_
   rintro e w3 ⟨rfl,hB⟩
   have S3:=Lib.hid (S1.out.step hB)
   have K3:=Lib.hid (K1.out.then_below hB)
   clear hB HS2
   go_wp2_with fail
   refine (HSJ.out _ S3.out).mono ?_
   rintro e w4 ⟨v,rfl,hv,hS,hK⟩
   obtain rfl:v=.tuple #[]:=hv
   have S4:=Lib.hid hS
   have K4:=Lib.hid (K3.out.trans hK)
   clear hS hK
   go_wp2
   go_ret
   rw [← HB.out]
   exact ⟨_,rfl,⟨none,0,rfl,trivial⟩,S4.out,K4.out⟩
theorem listedT {one:Int→EO TX} (h1:∀ i x j,one i=.ok x j→i < j∧j≤l.length) (HE:∀ (i:Int) (W:World),FS b o c l i W→one i≠.out→Calls Tryz.prog 150 #[.pointer (some ⟨b,0,none⟩)] W (TelF b o c l (isPart eltT) W (one i))) (S:FS b o c l i w) (hn:l.length≤1073741824) (f:Nat) (hr:lstw l one f i≠.out) :
  Calls Tryz.prog 149 #[.pointer (some ⟨b,0,none⟩),.func (.func 150) #[.pointer (some ⟨b,0,none⟩)] #[]] w (TelF b o c l (isRow eltT) w (lstw l one f i)):=by
 have hbl:=S.lt
 have HSY:=Lib.hid (fun (W:World) (j:Int) (z:UInt8) (h:FS b o c l j W)=>symF h hn z)
 have HSE:=Lib.hid (fun (W:World) (j:Int) (z:UInt8) (h:FS b o c l j W)=>seesSF h hn z)
 have HEL:=Lib.hid HE
 have H1:=Lib.hid h1
 have HN:=Lib.hid hn
 have H:=Lib.hid S
 have HSP:=Lib.hid (fun (W:World) (j:Int) (h:FS b o c l j W) (hr:sepw l one f j≠.out)=>separatedT h1 HE h hn f hr)
 rw [lstw_eq] at hr ⊢
 obtain ⟨R,hR⟩:∃ R,(thn (sy l 40 i) fun _ j=>thn (midw l one f j) fun xs q=>thn (sy l 41 q) fun _ r=>EO.ok xs r)=R:=⟨_,rfl⟩
 rw [hR] at hr ⊢
 have HR:=Lib.hid hR
 have HRO:=Lib.hid hr
 have K0:=Lib.hid (Kp.refl b w)
 clear S hn h1 HE hr hR
 go_enter Tryz.func149,Tryz.ntmps149
 go_wp2_with fail
 refine (HSY.out _ _ 40 H.out).mono ?_
 rintro e w1 hT
 cases hq:sy l 40 i with
 |out=>exact (HRO.out (by have h:=HR.out;rw [hq] at h;exact h.symm)).elim
 |err p q =>
  rw [hq] at hT
  obtain ⟨rfl,hK⟩:=hT
  have KE:=Lib.hid (K0.out.trans hK)
  have HB:Hid (EO.err p q=R):=by have h:=HR.out;rw [hq] at h;exact h
  clear hq hK
  go_wp2
  refine ⟨rfl,?_⟩
  rw [← HB.out]
  exact ⟨rfl,KE.out⟩
 |ok y0 j =>
  rw [hq] at hT
  obtain ⟨v,rfl,hv,hS,hK⟩:=hT
  have HR0:Hid ((thn (midw l one f j) fun xs q=>thn (sy l 41 q) fun _ r=>EO.ok xs r)=R):=by have h:=HR.out;rw [hq] at h;exact h
  obtain rfl:v=.tuple #[]:=hv
  have S1:=Lib.hid hS
  have K1:=Lib.hid hK
  have HS2:=Lib.hid (HSE.out _ j 41 hS)
  clear hS hK hq H HR
  cases hzj:isS (tkAt l j) 41
  ·rw [hzj] at HS2
   have HR:Hid ((thn (sepw l one f j) fun xs q=>thn (sy l 41 q) fun _ r=>EO.ok xs r)=R):=by have h:=HR0.out;unfold midw at h;rw [hzj] at h;exact h
   clear hzj HR0
   go_wp2_with fail
   refine HS2.out.mono ?_
   rintro e w3 ⟨rfl,hB⟩
   have S3:=Lib.hid (S1.out.step hB)
   have K3:=Lib.hid (K1.out.then_below hB)
   clear hB HS2
   go_wp2_with fail
   refine (HSP.out _ _ S3.out (fun h0=>HRO.out (by have h:=HR.out;rw [h0] at h;exact h.symm))).mono ?_
   rintro e w4 hT
   cases hq:sepw l one f j with
   |out=>exact (HRO.out (by have h:=HR.out;rw [hq] at h;exact h.symm)).elim
   |err p q =>
    rw [hq] at hT
    obtain ⟨rfl,hK⟩:=hT
    have KE:=Lib.hid (K3.out.trans hK)
    have HB:Hid (EO.err p q=R):=by have h:=HR.out;rw [hq] at h;exact h
    clear hq hK
    go_wp2
    refine ⟨rfl,?_⟩
    rw [← HB.out]
    exact ⟨rfl,KE.out⟩
   |ok xs q =>
    rw [hq] at hT
    obtain ⟨v,rfl,hv,hS,hK⟩:=hT
    obtain ⟨o',c',rfl,hrow⟩:=hv
    have HR2:Hid ((thn (sy l 41 q) fun _ r=>EO.ok xs r)=R):=by have h:=HR.out;rw [hq] at h;exact h
    have HR:=HR2
    have S4:=Lib.hid hS
    have K4:=Lib.hid (K3.out.trans hK)
    have V4:=Lib.hid (monoR (B':=w.heap.size) K3.out.size hrow)
    clear hS hK hq hrow HR2
    go_wp2_with fail
    refine (HSY.out _ _ 41 S4.out).mono ?_
    rintro e w5 hT
    cases hq:sy l 41 q with
    |out=>exact (HRO.out (by have h:=HR.out;rw [hq] at h;exact h.symm)).elim
    |err p q =>
     rw [hq] at hT
     obtain ⟨rfl,hK⟩:=hT
     have KE:=Lib.hid (K4.out.trans hK)
     have HB:Hid (EO.err p q=R):=by have h:=HR.out;rw [hq] at h;exact h
     clear hq hK
     go_wp2
     refine ⟨rfl,?_⟩
     rw [← HB.out]
     exact ⟨rfl,KE.out⟩
    |ok y1 r =>
     rw [hq] at hT
     obtain ⟨v,rfl,hv,hS,hK⟩:=hT
     obtain rfl:v=.tuple #[]:=hv
     have HB:Hid (EO.ok xs r=R):=by have h:=HR.out;rw [hq] at h;exact h
     have S5:=Lib.hid hS
     have K5:=Lib.hid (K4.out.trans hK)
     have V5:=Lib.hid (stayR V4.out ((Ab.refl _ _).kp hK hbl))
     clear hS hK hq
     go_wp2
     go_ret
     rw [← HB.out]
     exact ⟨_,rfl,⟨_,_,rfl,V5.out⟩,S5.out,K5.out⟩
  ·rw [hzj] at HS2
   have HB:Hid (EO.ok [] (j + 1)=R):=by have h:=HR0.out;unfold midw at h;rw [hzj] at h;change thn (sy l 41 j) (fun _ r=>EO.ok [] r)=R at h;rw [sy_yes hzj] at h;exact h
   have HSJ:=Lib.hid (fun (W:World) (h:FS b o c l j W)=>by have h:=HSY.out W j 41 h;rw [sy_yes hzj] at h;exact h)
   clear hzj HR0
   go_wp2_with fail
   refine HS2.out.mono ?_
   rintro e w3 ⟨rfl,hB⟩
   have S3:=Lib.hid (S1.out.step hB)
   have K3:=Lib.hid (K1.out.then_below hB)
   clear hB HS2
   go_wp2_with fail
   refine (HSJ.out _ S3.out).mono ?_
   rintro e w4 ⟨v,rfl,hv,hS,hK⟩
   obtain rfl:v=.tuple #[]:=hv
   have S4:=Lib.hid hS
   have K4:=Lib.hid (K3.out.trans hK)
   clear hS hK
   go_wp2
   go_ret
   rw [← HB.out]
   exact ⟨_,rfl,⟨none,0,rfl,trivial⟩,S4.out,K4.out⟩
theorem membersM {one:Int→EO MX} (h1:∀ i x j,one i=.ok x j→i < j∧j≤l.length) (HE:∀ (i:Int) (W:World),FS b o c l i W→one i≠.out→Calls Tryz.prog 131 #[.pointer (some ⟨b,0,none⟩)] W (TelF b o c l (isPart eltM) W (one i))) (S:FS b o c l i w) (hn:l.length≤1073741824) (f:Nat) (hr:memw l one f i≠.out) :
  Calls Tryz.prog 130 #[.pointer (some ⟨b,0,none⟩),.func (.func 131) #[.pointer (some ⟨b,0,none⟩)] #[]] w (TelF b o c l (isRow eltM) w (memw l one f i)):=by
 have hbl:=S.lt
 have HSY:=Lib.hid (fun (W:World) (j:Int) (z:UInt8) (h:FS b o c l j W)=>symF h hn z)
 have HSE:=Lib.hid (fun (W:World) (j:Int) (z:UInt8) (h:FS b o c l j W)=>seesSF h hn z)
 have HEL:=Lib.hid HE
 have H1:=Lib.hid h1
 have HN:=Lib.hid hn
 have H:=Lib.hid S
 obtain ⟨R,hR⟩:∃ R,(thn (sy l 123 i) fun _ j=>upto l one f j)=R:=⟨_,rfl⟩
 change (thn (sy l 123 i) fun _ j=>upto l one f j)≠.out at hr
 change Calls _ _ _ _ (TelF b o c l _ w (thn (sy l 123 i) fun _ j=>upto l one f j))
 rw [hR] at hr ⊢
 have HR:=Lib.hid hR
 have HRO:=Lib.hid hr
 have K0:=Lib.hid (Kp.refl b w)
 clear S hn h1 HE hr hR
 go_enter Tryz.func130,Tryz.ntmps130
 go_wp2_with fail
 refine (HSY.out _ _ 123 H.out).mono ?_
 rintro e w1 hT
 cases hq:sy l 123 i with
 |out=>exact (HRO.out (by have h:=HR.out;rw [hq] at h;exact h.symm)).elim
 |err p q =>
  rw [hq] at hT
  obtain ⟨rfl,hK⟩:=hT
  have KE:=Lib.hid (K0.out.trans hK)
  have HB:Hid (EO.err p q=R):=by have h:=HR.out;rw [hq] at h;exact h
  clear hq hK
  go_wp2
  refine ⟨rfl,?_⟩
  rw [← HB.out]
  exact ⟨rfl,KE.out⟩
 |ok y0 j0 =>
  rw [hq] at hT
  obtain ⟨v,rfl,hv,hS,hK⟩:=hT
  have HR0:Hid (preG [] (upto l one f j0)=R):=by have h:=HR.out;rw [hq] at h;show _=_;rw [preG_nil];exact h
  obtain rfl:v=.tuple #[]:=hv
  have hj:=sy_rng hq
  have HJ:Hid ((0:Int)≤j0∧j0≤(l.length:Nat)):=by show _∧_;omega
  have S1:=Lib.hid hS
  have K1:=Lib.hid hK
  clear hS hK hq hj H HR
  go_wp2_with fail
  go_loopg [5] f (fun g v wr=>∃ (ys:List MX) (j:Int) (o':Option Addr) (cap:Nat),v=.slice o' ys.length cap∧Hid (preG ys (upto l one g j)=R)∧Hid (RowG eltM 111 w.heap.size wr (.slice o' ys.length cap) ys)∧Hid (FS b o c l j wr)∧Hid (Kp b w wr)∧g≤f∧Hid (((ys.length:Nat):Int)≤j∧j≤(l.length:Nat)))
  case atStart=>exact ⟨[],j0,none,0,rfl,HR0,RowG.nil _ _,S1,K1,Nat.le_refl _,Lib.hid ⟨HJ.out.1,HJ.out.2⟩⟩
  case round =>
   clear S1 K1 HR0
   obtain ⟨ys,j,o',cap,rfl,HR,HV,HS,HK,hgf,HYJ⟩:=hrel
   obtain ⟨gg,rfl⟩:∃ gg,gk=gg + 1:=by
    cases gk with
    |zero=>exact (HRO.out (by have h:=HR.out;rw [upto] at h;exact h.symm)).elim
    |succ q=>exact ⟨q,rfl⟩
   have HS2:=Lib.hid (HSE.out _ j 125 HS.out)
   cases hzj:isS (tkAt l j) 125
   ·rw [hzj] at HS2
    have hb:=HR.out
    rw [upto_more hzj] at hb
    have HR2:=Lib.hid hb
    clear hzj hb
    go_wp2_with fail
    refine HS2.out.mono ?_
    rintro e w3 ⟨rfl,hB⟩
    have S3:=Lib.hid (HS.out.step hB)
    have K3:=Lib.hid (HK.out.then_below hB)
    have V3:=Lib.hid (HV.out.below hB)
    clear hB HS2
    cases hq:one (j) with
    |out=>exact (HRO.out (by have h:=HR2.out;rw [hq] at h;exact h.symm)).elim
    |err p q =>
     have HC:=Lib.hid (HEL.out (j) _ S3.out (by rw [hq];simp))
     rw [hq] at HC
     have HB:Hid (EO.err p q=R):=by have h:=HR2.out;rw [hq] at h;exact h
     clear hq
     go_wp2_with fail
     refine HC.out.mono ?_
     rintro e w4 ⟨rfl,hK⟩
     have K4:=Lib.hid (K3.out.trans hK)
     clear hK
     go_wp2
     refine ⟨rfl,?_⟩
     rw [← HB.out]
     exact ⟨rfl,K4.out⟩
    |ok y q =>
     have HC:=Lib.hid (HEL.out (j) _ S3.out (by rw [hq];simp))
     have hrng:=H1.out _ _ _ hq
     rw [hq] at HC
     have HB:Hid (preG (ys++[y]) (upto l one gg q)=R):=by have h:=HR2.out;rw [hq] at h;show _=_;rw [← preG_snoc];exact h
     have HQ:=Lib.hid hrng
     clear hq hrng
     go_wp2_with fail
     refine HC.out.mono ?_
     rintro e w4 ⟨v,rfl,hy,hS,hK⟩
     obtain ⟨cs,rfl,hl,h1c⟩:=eltM.cells hy
     have S4:=Lib.hid hS
     have K4:=Lib.hid (K3.out.trans hK)
     have V4:=Lib.hid (V3.out.kp hK hbl)
     have OL:=Lib.hid V3.out.own_lt
     have HY:=Lib.hid hy
     have HL:=Lib.hid hl
     have H1C:=Lib.hid h1c
     have hz3:=K3.out.size
     have hz4:=hK.size
     have HLB:Hid (ys.length + 1≤1073741825):=by
      have h1:=HQ.out
      have h2:=HYJ.out
      have h3:=HN.out
      show ys.length + 1≤1073741825
      omega
     clear hy hS hK hl h1c
     go_wp2_with (first | (refine boxRow1 74 111 9 _ Tryz.underlying74 infoM rfl (by decide) rfl _ rfl cs rfl HL.out ?_) | (refine boxAppend (E:=eltM) (T:=111) Tryz.underlying74 infoMb rfl (by decide) rfl _ _ rfl w.heap.size w4 (.slice o' ys.length cap) ys rfl rfl V4.out _ hz3 OL.out y cs HL.out H1C.out HY.out hz4 HLB.out ?_;intro v' w' hrow hbel;obtain ⟨o2,cap2,rfl⟩:=hrow.slice;have V5:=Lib.hid hrow;have S5:=Lib.hid ((S4.out.alloc _).under (hbel.mono (by omega)));have K5:=Lib.hid ((K4.out.alloc _).then_base hbel);clear hrow hbel))
     go_roundg gg
     case measure=>omega
     case rel =>
      exact ⟨ys++[y],q,o2,cap2,by rw [List.length_append];rfl,HB,V5,S5,K5,by omega,Lib.hid ⟨by have h1:=HQ.out;have h2:=HYJ.out;rw [List.length_append,List.length_singleton];omega,HQ.out.2⟩⟩
   ·rw [hzj] at HS2
    have HB:Hid (EO.ok ys (j + 1)=R):=by have h:=HR.out;rw [upto_shut hzj,preG_stop] at h;exact h
    have HSJ:=Lib.hid (fun (W:World) (h:FS b o c l j W)=>by have h:=HSY.out W j 125 h;rw [sy_yes hzj] at h;exact h)
    clear hzj
    go_wp2_with fail
    refine HS2.out.mono ?_
    rintro e w3 ⟨rfl,hB⟩
    have S3:=Lib.hid (HS.out.step hB)
    have K3:=Lib.hid (HK.out.then_below hB)
    have V3:=Lib.hid (HV.out.below hB)
    clear hB HS2
    go_wp2_with fail
    refine (HSJ.out _ S3.out).mono ?_
    rintro e w4 ⟨v,rfl,hv,hS,hK⟩
    obtain rfl:v=.tuple #[]:=hv
    have S4:=Lib.hid hS
    have K4:=Lib.hid (K3.out.trans hK)
    have V4:=Lib.hid (V3.out.kp hK hbl)
    clear hS hK
    go_wp2
    go_ret
    rw [← HB.out]
    obtain ⟨o2,c2,he,hrow⟩:=V4.out.row
    injection he with he1 _ he3
    subst he1 he3
    exact ⟨_,rfl,⟨_,_,rfl,hrow⟩,S4.out,K4.out⟩
theorem boundsF (S:FS b o c l i w) (hn:l.length≤1073741824) (hf:Fits l) (f:Nat) (hr:(thn (sy l 91 i) fun _ j=>thn (sepw l (prm l) f j) fun xs q=>thn (sy l 93 q) fun _ r=>EO.ok xs r)≠.out) :
  Calls Tryz.prog 133 #[.pointer (some ⟨b,0,none⟩)] w (TelF b o c l (isRow eltP) w (thn (sy l 91 i) fun _ j=>thn (sepw l (prm l) f j) fun xs q=>thn (sy l 93 q) fun _ r=>EO.ok xs r)):=by
 have hbl:=S.lt
 have hmf:∀ (fn:Fn) (first cap:Array Value) (w:World),(Instr.makeFunc fn first cap).run Tryz.prog w=.ok (.func fn first cap) w:=fun _ _ _ _=>rfl
 have HSY:=Lib.hid (fun (W:World) (j:Int) (z:UInt8) (h:FS b o c l j W)=>symF h hn z)
 have HSP:=Lib.hid (fun (W:World) (j:Int) (h:FS b o c l j W) (hr:sepw l (prm l) f j≠.out)=>separatedP (fun _ _ _ h=>by have:=prm_rng h;omega) (fun i W h hr=>paramF h hn hf hr) h hn f hr)
 obtain ⟨R,hR⟩:∃ R,(thn (sy l 91 i) fun _ j=>thn (sepw l (prm l) f j) fun xs q=>thn (sy l 93 q) fun _ r=>EO.ok xs r)=R:=⟨_,rfl⟩
 rw [hR] at hr ⊢
 have HR:=Lib.hid hR
 have HRO:=Lib.hid hr
 have K0:=Lib.hid (Kp.refl b w)
 have H:=Lib.hid S
 clear S hn hf hr hR
 go_enter Tryz.func133,Tryz.ntmps133
 go_wp2_with fail
 refine (HSY.out _ _ 91 H.out).mono ?_
 rintro e w1 hT
 cases hq:sy l 91 i with
 |out=>exact (HRO.out (by have h:=HR.out;rw [hq] at h;exact h.symm)).elim
 |err p q =>
  rw [hq] at hT
  obtain ⟨rfl,hK⟩:=hT
  have KE:=Lib.hid (K0.out.trans hK)
  have HB:Hid (EO.err p q=R):=by have h:=HR.out;rw [hq] at h;exact h
  clear hq hK
  go_wp2
  refine ⟨rfl,?_⟩
  rw [← HB.out]
  exact ⟨rfl,KE.out⟩
 |ok y0 j =>
  rw [hq] at hT
  obtain ⟨v,rfl,hv,hS,hK⟩:=hT
  obtain rfl:v=.tuple #[]:=hv
  have HR2:Hid ((thn (sepw l (prm l) f j) fun xs q=>thn (sy l 93 q) fun _ r=>EO.ok xs r)=R):=by have h:=HR.out;rw [hq] at h;exact h
  have HR:=HR2
  have S3:=Lib.hid hS
  have K3:=Lib.hid hK
  clear hS hK hq H HR2
  go_wp2_with fail
  refine (HSP.out _ _ S3.out (fun h0=>HRO.out (by have h:=HR.out;rw [h0] at h;exact h.symm))).mono ?_
  rintro e w4 hT
  cases hq:sepw l (prm l) f j with
  |out=>exact (HRO.out (by have h:=HR.out;rw [hq] at h;exact h.symm)).elim
  |err p q =>
   rw [hq] at hT
   obtain ⟨rfl,hK⟩:=hT
   have KE:=Lib.hid (K3.out.trans hK)
   have HB:Hid (EO.err p q=R):=by have h:=HR.out;rw [hq] at h;exact h
   clear hq hK
   go_wp2
   refine ⟨rfl,?_⟩
   rw [← HB.out]
   exact ⟨rfl,KE.out⟩
  |ok xs q =>
   rw [hq] at hT
   obtain ⟨v,rfl,hv,hS,hK⟩:=hT
   obtain ⟨o',c',rfl,hrow⟩:=hv
   have HR2:Hid ((thn (sy l 93 q) fun _ r=>EO.ok xs r)=R):=by have h:=HR.out;rw [hq] at h;exact h
   have HR:=HR2
   have S4:=Lib.hid hS
   have K4:=Lib.hid (K3.out.trans hK)
   have V4:=Lib.hid (monoR (B':=w.heap.size) K3.out.size hrow)
   clear hS hK hq hrow HR2
   go_wp2_with fail
   refine (HSY.out _ _ 93 S4.out).mono ?_
   rintro e w5 hT
   cases hq:sy l 93 q with
   |out=>exact (HRO.out (by have h:=HR.out;rw [hq] at h;exact h.symm)).elim
   |err p q =>
    rw [hq] at hT
    obtain ⟨rfl,hK⟩:=hT
    have KE:=Lib.hid (K4.out.trans hK)
    have HB:Hid (EO.err p q=R):=by have h:=HR.out;rw [hq] at h;exact h
    clear hq hK
    go_wp2
    refine ⟨rfl,?_⟩
    rw [← HB.out]
    exact ⟨rfl,KE.out⟩
   |ok y1 r =>
    rw [hq] at hT
    obtain ⟨v,rfl,hv,hS,hK⟩:=hT
    obtain rfl:v=.tuple #[]:=hv
    have HB:Hid (EO.ok xs r=R):=by have h:=HR.out;rw [hq] at h;exact h
    have S5:=Lib.hid hS
    have K5:=Lib.hid (K4.out.trans hK)
    have V5:=Lib.hid (stayR V4.out ((Ab.refl _ _).kp hK hbl))
    clear hS hK hq
    go_wp2
    go_ret
    rw [← HB.out]
    exact ⟨_,rfl,⟨_,_,rfl,V5.out⟩,S5.out,K5.out⟩
end
end Go.Proofs.YtfcgoainglpdlaaGreatDoor
