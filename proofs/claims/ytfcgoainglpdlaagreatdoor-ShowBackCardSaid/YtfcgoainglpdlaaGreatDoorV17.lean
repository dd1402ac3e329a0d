/- The walk of 'first', out of what it calls. Condition: the parser lies in memory as said. -/
import Derived.Test.YtfcgoainglpdlaaGreatDoorV16
set_option maxRecDepth 20000
set_option maxHeartbeats 4000000
namespace Go.Proofs.YtfcgoainglpdlaaGreatDoor
open Go.RowKit
open Go.Lib hiding intOf
def CreC (b:Nat) (o:Option Addr) (c m:Nat) (l:List TZ) (f:Nat):Prop :=
 ∀ (d:Nat) (i:Int) (w:World),d≤30→PS b o c m l i d w→(0≤i∧i < l.length)→crt l f d i≠.out →
  Calls Tryz.prog 143 #[.pointer (some ⟨b,0,none⟩)] w (Tel b o c m l d w (crt l f d i))
theorem leafE (B:Nat) (W:World) (k p s n:Int) (nm:ByteArray):IsEX B W (.mk k p s n nm noTX []) (.agg #[.int .i64 k,.int .i64 p,.int .i64 s,.string nm,.int .i64 n,.int .i64 0,.int .i64 0,.string ⟨#[]⟩,.string ⟨#[]⟩,.slice none 0 0,.slice none 0 0]):=by
 unfold IsEX IsEP
 exact ⟨0,0,⟨#[]⟩,⟨#[]⟩,none,0,none,0,rfl,⟨Nat.le_refl _,Nat.zero_le _⟩,rfl,by unfold IsEPs;trivial⟩
section
variable {l:List TZ} {f d:Nat} {i:Int}
theorem prim_num (h:(tkAt l i).kind=2) {n:Int} (hn:numOf (tkAt l i).text.data.toList=some n):prim l (f + 1) d i=.ok (.mk 1 (tkAt l i).pos (tkAt l i).stop n ⟨#[]⟩ noTX []) (i + 1):=by rw [prim,if_pos h,hn]
theorem prim_num_no (h:(tkAt l i).kind=2) (hn:numOf (tkAt l i).text.data.toList=none):prim l (f + 1) d i=.err (tkAt l i).pos 2:=by rw [prim,if_pos h,hn]
theorem prim_text (h:(tkAt l i).kind=3) (hq:quoted (tkAt l i).text.data.toList=true):prim l (f + 1) d i=.ok (.mk 2 (tkAt l i).pos (tkAt l i).stop 0 ⟨(unquote (tkAt l i).text.data.toList).toArray⟩ noTX []) (i + 1):=by rw [prim,if_neg (by rw [h];decide),if_pos h,if_pos hq]
theorem prim_text_no (h:(tkAt l i).kind=3) (hq:quoted (tkAt l i).text.data.toList=false):prim l (f + 1) d i=.err (tkAt l i).pos 3:=by rw [prim,if_neg (by rw [h];decide),if_pos h,if_neg (by rw [hq];decide)]
theorem isW_no {t:TZ} {s:List UInt8} (h:t.kind≠5):isW t s=false:=by unfold isW;rw [decide_eq_false h];rfl
theorem isS_no {t:TZ} {s:UInt8} (h:t.kind≠4):isS t s=false:=by unfold isS;rw [decide_eq_false h];rfl
theorem prim_name (h:(tkAt l i).kind=1):prim l (f + 1) d i=.ok (.mk 4 (tkAt l i).pos (tkAt l i).stop 0 (tkAt l i).text noTX []) (i + 1):=by
 rw [prim,if_neg (by rw [h];decide),if_neg (by rw [h];decide),if_neg (by rw [isW_no (by rw [h];decide)];decide),if_neg (by rw [isW_no (by rw [h];decide)];decide),if_pos h]
theorem prim_true (h2:(tkAt l i).kind≠2) (h3:(tkAt l i).kind≠3) (h:isW (tkAt l i) [116,114,117,101]=true):prim l (f + 1) d i=.ok (.mk 3 (tkAt l i).pos (tkAt l i).stop 1 ⟨#[]⟩ noTX []) (i + 1):=by
 rw [prim,if_neg h2,if_neg h3,if_pos h]
theorem prim_false (h2:(tkAt l i).kind≠2) (h3:(tkAt l i).kind≠3) (h4:isW (tkAt l i) [116,114,117,101]=false) (h:isW (tkAt l i) [102,97,108,115,101]=true):prim l (f + 1) d i=.ok (.mk 3 (tkAt l i).pos (tkAt l i).stop 0 ⟨#[]⟩ noTX []) (i + 1):=by
 rw [prim,if_neg h2,if_neg h3,if_neg (by rw [h4];decide),if_pos h]
theorem prim_in (h2:(tkAt l i).kind≠2) (h3:(tkAt l i).kind≠3) (h1:(tkAt l i).kind≠1) (h4:isW (tkAt l i) [116,114,117,101]=false) (h5:isW (tkAt l i) [102,97,108,115,101]=false) (h:isS (tkAt l i) 40=true):prim l (f + 1) d i=ins l f 41 d i:=by
 rw [prim,if_neg h2,if_neg h3,if_neg (by rw [h4];decide),if_neg (by rw [h5];decide),if_neg h1,if_pos h]
 unfold ins
 rfl
theorem prim_new (h2:(tkAt l i).kind≠2) (h3:(tkAt l i).kind≠3) (h1:(tkAt l i).kind≠1) (h4:isW (tkAt l i) [116,114,117,101]=false) (h5:isW (tkAt l i) [102,97,108,115,101]=false) (h6:isS (tkAt l i) 40=false) (h:isW (tkAt l i) [110,101,119]=true):prim l (f + 1) d i=crt l f d i:=by
 rw [prim,if_neg h2,if_neg h3,if_neg (by rw [h4];decide),if_neg (by rw [h5];decide),if_neg h1,if_neg (by rw [h6];decide),if_pos h]
 unfold crt
 rfl
theorem prim_bad (h2:(tkAt l i).kind≠2) (h3:(tkAt l i).kind≠3) (h1:(tkAt l i).kind≠1) (h4:isW (tkAt l i) [116,114,117,101]=false) (h5:isW (tkAt l i) [102,97,108,115,101]=false) (h6:isS (tkAt l i) 40=false) (h:isW (tkAt l i) [110,101,119]=false):prim l (f + 1) d i=.err (tkAt l i).pos 5:=by
 rw [prim,if_neg h2,if_neg h3,if_neg (by rw [h4];decide),if_neg (by rw [h5];decide),if_neg h1,if_neg (by rw [h6];decide),if_neg (by rw [h];decide)]
end
section
variable {b c m:Nat} {o:Option Addr} {l:List TZ}
theorem first_num {f:Nat} (hn:l.length≤1073741824) (hf:Fits l) (d:Nat) (i:Int) (w:World) (S:PS b o c m l i d w) (hk:(tkAt l i).kind=2) {n:Int} (hnum:numOf (tkAt l i).text.data.toList=some n) :
  Calls Tryz.prog 119 #[.pointer (some ⟨b,0,none⟩)] w (Tel b o c m l d w (prim l (f + 1) d i)):=by
 have HP:=Lib.hid (peek_any (S.alloc (.cells zeroE 31)) (by omega))
 have H:=Lib.hid S
 have hbl:=S.lt
 have HN:=Lib.hid hn
 have HF:=Lib.hid hf
 have hreal:=tkAt_real (l:=l) (i:=i) (by rw [hk];decide)
 have HT:=Lib.hid (fun (W:World) (h:PS b o c m l i d W)=>take_any h (by have:=HN.out;omega) hreal)
 have e2:((tkAt l i).kind == 2)=true:=by simpa using hk
 have HE:=Lib.hid (prim_num (f:=f) (d:=d) hk hnum)
 have HQ:=Lib.hid hnum
 clear hk hnum hreal
 obtain ⟨R,hR0⟩:∃ R,prim l (f + 1) d i=R:=⟨_,rfl⟩
 have HRR:=Lib.hid hR0
 rw [hR0]
 clear S hn hf hR0
 go_enter Tryz.func119,Tryz.ntmps119
 go_wp2_with fail
 refine HP.out.mono ?_
 rintro e w1 ⟨rfl,hB⟩
 have S1:=Lib.hid ((H.out.alloc _).step hB)
 have K1:=Lib.hid (((Kp.refl b w).alloc _).then_below hB)
 have R1:=Lib.hid (blk_mid3 hB)
 have hz1:=mid_size hB
 have S2:=Lib.hid ((S1.out.alloc (.cells #[.int .i64 (tkAt l i).kind,.int .i64 (tkAt l i).pos,.int .i64 (tkAt l i).stop,.string (tkAt l i).text] 81)).alloc (.cells #[.int .i64 0,.int .i64 (tkAt l i).pos,.int .i64 (tkAt l i).stop,.string ⟨#[]⟩,.int .i64 0,.int .i64 0,.int .i64 0,.string ⟨#[]⟩,.string ⟨#[]⟩,.slice none 0 0,.slice none 0 0] 31))
 have K2:=Lib.hid ((K1.out.alloc (.cells #[.int .i64 (tkAt l i).kind,.int .i64 (tkAt l i).pos,.int .i64 (tkAt l i).stop,.string (tkAt l i).text] 81)).alloc (.cells #[.int .i64 0,.int .i64 (tkAt l i).pos,.int .i64 (tkAt l i).stop,.string ⟨#[]⟩,.int .i64 0,.int .i64 0,.int .i64 0,.string ⟨#[]⟩,.string ⟨#[]⟩,.slice none 0 0,.slice none 0 0] 31))
 have R2:=Lib.hid ((R1.out.alloc (.cells #[.int .i64 (tkAt l i).kind,.int .i64 (tkAt l i).pos,.int .i64 (tkAt l i).stop,.string (tkAt l i).text] 81)).alloc (.cells #[.int .i64 0,.int .i64 (tkAt l i).pos,.int .i64 (tkAt l i).stop,.string ⟨#[]⟩,.int .i64 0,.int .i64 0,.int .i64 0,.string ⟨#[]⟩,.string ⟨#[]⟩,.slice none 0 0,.slice none 0 0] 31))
 have T2:=Lib.hid ((Blk.new w1 81 #[.int .i64 (tkAt l i).kind,.int .i64 (tkAt l i).pos,.int .i64 (tkAt l i).stop,.string (tkAt l i).text]).alloc (.cells #[.int .i64 0,.int .i64 (tkAt l i).pos,.int .i64 (tkAt l i).stop,.string ⟨#[]⟩,.int .i64 0,.int .i64 0,.int .i64 0,.string ⟨#[]⟩,.string ⟨#[]⟩,.slice none 0 0,.slice none 0 0] 31))
 have X2:Hid (Blk ((w1.alloc (.cells #[.int .i64 (tkAt l i).kind,.int .i64 (tkAt l i).pos,.int .i64 (tkAt l i).stop,.string (tkAt l i).text] 81)).alloc (.cells #[.int .i64 0,.int .i64 (tkAt l i).pos,.int .i64 (tkAt l i).stop,.string ⟨#[]⟩,.int .i64 0,.int .i64 0,.int .i64 0,.string ⟨#[]⟩,.string ⟨#[]⟩,.slice none 0 0,.slice none 0 0] 31)) (w1.heap.size + 1) 31 #[.int .i64 0,.int .i64 (tkAt l i).pos,.int .i64 (tkAt l i).stop,.string ⟨#[]⟩,.int .i64 0,.int .i64 0,.int .i64 0,.string ⟨#[]⟩,.string ⟨#[]⟩,.slice none 0 0,.slice none 0 0]):=by
  have:=Blk.new (w1.alloc (.cells #[.int .i64 (tkAt l i).kind,.int .i64 (tkAt l i).pos,.int .i64 (tkAt l i).stop,.string (tkAt l i).text] 81)) 31 #[.int .i64 0,.int .i64 (tkAt l i).pos,.int .i64 (tkAt l i).stop,.string ⟨#[]⟩,.int .i64 0,.int .i64 0,.int .i64 0,.string ⟨#[]⟩,.string ⟨#[]⟩,.slice none 0 0,.slice none 0 0]
  show Blk _ _ _ _
  simpa using this
 clear hB S1 K1 R1 HP
 go_wp2_with fail
 generalize ((w1.alloc (.cells #[.int .i64 (tkAt l i).kind,.int .i64 (tkAt l i).pos,.int .i64 (tkAt l i).stop,.string (tkAt l i).text] 81)).alloc (.cells #[.int .i64 0,.int .i64 (tkAt l i).pos,.int .i64 (tkAt l i).stop,.string ⟨#[]⟩,.int .i64 0,.int .i64 0,.int .i64 0,.string ⟨#[]⟩,.string ⟨#[]⟩,.slice none 0 0,.slice none 0 0] 31))=w2 at *
 generalize w1.heap.size=T at *
 have tc:=T2.out.cell
 have xc:=X2.out.cell
 refine (number_any (tkAt l i) _ (HF.out.tkAt i)).mono ?_
 rintro e w3 ⟨hnum,hB⟩
 rw [HQ.out] at hnum
 obtain rfl:e=.returned (.int .i64 n):=hnum
 have S3:=Lib.hid (S2.out.step hB)
 have K3:=Lib.hid (K2.out.then_below hB)
 have R3:=Lib.hid (R2.out.below hB)
 have T3:=Lib.hid (T2.out.below hB)
 have X3:=Lib.hid (X2.out.below hB)
 clear hB tc xc
 have tc:=T3.out.cell
 have xc:=X3.out.cell
 have xf:=X3.out.frozen
 have S8:=Lib.hid ((S3.out.set_ (p:=⟨T + 1,0,none⟩) (by simp only;omega) (.int .i64 1)).set_ (p:=⟨T + 1,4,none⟩) (by simp only;omega) (.int .i64 n))
 have K8:=Lib.hid ((K3.out.setCell (p:=⟨T + 1,0,none⟩) (.inl (by simp only;omega)) (.int .i64 1)).setCell (p:=⟨T + 1,4,none⟩) (.inl (by simp only;omega)) (.int .i64 n))
 have R8:=Lib.hid ((R3.out.far (p:=⟨T + 1,0,none⟩) (by simp only;omega) (.int .i64 1)).far (p:=⟨T + 1,4,none⟩) (by simp only;omega) (.int .i64 n))
 have hx8:=((X3.out.set_ 0 (.int .i64 1)).set_ 4 (.int .i64 n))
 simp only [List.setIfInBounds_toArray,List.set_cons_zero,List.set_cons_succ] at hx8
 have X8:=Lib.hid hx8
 clear hx8
 go_wp2_with fail
 refine (HT.out _ S8.out).mono ?_
 rintro e w9 ⟨rfl,hS,hK⟩
 have S9:=Lib.hid hS
 have K9:=Lib.hid (K8.out.trans hK)
 have hr9:=R8.out.kp hK (by omega)
 have hx9:=X8.out.kp hK (by omega)
 have r9:=hr9.cell
 have f9:=hr9.frozen
 have x9:=hx9.cell
 simp only [zeroE] at r9
 clear hS hK hr9 hx9 tc xc xf
 go_wp2
 refine bodyPost_ret (v:=.agg #[.int .i64 1,.int .i64 (tkAt l i).pos,.int .i64 (tkAt l i).stop,.string ⟨#[]⟩,.int .i64 n,.int .i64 0,.int .i64 0,.string ⟨#[]⟩,.string ⟨#[]⟩,.slice none 0 0,.slice none 0 0]) (by simp [results,Tryz.results119,go_sem,r9]) rfl ?_
 rw [← HRR.out,HE.out]
 exact ⟨_,rfl,leafE _ _ _ _ _ _ _,S9.out.set11 hbl _ _ _ _ _ _ _ _ _ _ _,set11_kp K9.out (.inl (Nat.le_refl _)) _ _ _ _ _ _ _ _ _ _ _⟩
theorem first_num_no {f:Nat} (hn:l.length≤1073741824) (hf:Fits l) (d:Nat) (i:Int) (w:World) (S:PS b o c m l i d w) (hk:(tkAt l i).kind=2) (hnum:numOf (tkAt l i).text.data.toList=none) :
  Calls Tryz.prog 119 #[.pointer (some ⟨b,0,none⟩)] w (Tel b o c m l d w (prim l (f + 1) d i)):=by
 have HP:=Lib.hid (peek_any (S.alloc (.cells zeroE 31)) (by omega))
 have H:=Lib.hid S
 have hbl:=S.lt
 have HN:=Lib.hid hn
 have HF:=Lib.hid hf
 have e2:((tkAt l i).kind == 2)=true:=by simpa using hk
 have HE:=Lib.hid (prim_num_no (f:=f) (d:=d) hk hnum)
 have HQ:=Lib.hid hnum
 clear hk hnum
 obtain ⟨R,hR0⟩:∃ R,prim l (f + 1) d i=R:=⟨_,rfl⟩
 have HRR:=Lib.hid hR0
 rw [hR0]
 clear S hn hf hR0
 go_enter Tryz.func119,Tryz.ntmps119
 go_wp2_with fail
 refine HP.out.mono ?_
 rintro e w1 ⟨rfl,hB⟩
 have S1:=Lib.hid ((H.out.alloc _).step hB)
 have K1:=Lib.hid (((Kp.refl b w).alloc _).then_below hB)
 have R1:=Lib.hid (blk_mid3 hB)
 have hz1:=mid_size hB
 have S2:=Lib.hid ((S1.out.alloc (.cells #[.int .i64 (tkAt l i).kind,.int .i64 (tkAt l i).pos,.int .i64 (tkAt l i).stop,.string (tkAt l i).text] 81)).alloc (.cells #[.int .i64 0,.int .i64 (tkAt l i).pos,.int .i64 (tkAt l i).stop,.string ⟨#[]⟩,.int .i64 0,.int .i64 0,.int .i64 0,.string ⟨#[]⟩,.string ⟨#[]⟩,.slice none 0 0,.slice none 0 0] 31))
 have K2:=Lib.hid ((K1.out.alloc (.cells #[.int .i64 (tkAt l i).kind,.int .i64 (tkAt l i).pos,.int .i64 (tkAt l i).stop,.string (tkAt l i).text] 81)).alloc (.cells #[.int .i64 0,.int .i64 (tkAt l i).pos,.int .i64 (tkAt l i).stop,.string ⟨#[]⟩,.int .i64 0,.int .i64 0,.int .i64 0,.string ⟨#[]⟩,.string ⟨#[]⟩,.slice none 0 0,.slice none 0 0] 31))
 have R2:=Lib.hid ((R1.out.alloc (.cells #[.int .i64 (tkAt l i).kind,.int .i64 (tkAt l i).pos,.int .i64 (tkAt l i).stop,.string (tkAt l i).text] 81)).alloc (.cells #[.int .i64 0,.int .i64 (tkAt l i).pos,.int .i64 (tkAt l i).stop,.string ⟨#[]⟩,.int .i64 0,.int .i64 0,.int .i64 0,.string ⟨#[]⟩,.string ⟨#[]⟩,.slice none 0 0,.slice none 0 0] 31))
 have T2:=Lib.hid ((Blk.new w1 81 #[.int .i64 (tkAt l i).kind,.int .i64 (tkAt l i).pos,.int .i64 (tkAt l i).stop,.string (tkAt l i).text]).alloc (.cells #[.int .i64 0,.int .i64 (tkAt l i).pos,.int .i64 (tkAt l i).stop,.string ⟨#[]⟩,.int .i64 0,.int .i64 0,.int .i64 0,.string ⟨#[]⟩,.string ⟨#[]⟩,.slice none 0 0,.slice none 0 0] 31))
 have X2:Hid (Blk ((w1.alloc (.cells #[.int .i64 (tkAt l i).kind,.int .i64 (tkAt l i).pos,.int .i64 (tkAt l i).stop,.string (tkAt l i).text] 81)).alloc (.cells #[.int .i64 0,.int .i64 (tkAt l i).pos,.int .i64 (tkAt l i).stop,.string ⟨#[]⟩,.int .i64 0,.int .i64 0,.int .i64 0,.string ⟨#[]⟩,.string ⟨#[]⟩,.slice none 0 0,.slice none 0 0] 31)) (w1.heap.size + 1) 31 #[.int .i64 0,.int .i64 (tkAt l i).pos,.int .i64 (tkAt l i).stop,.string ⟨#[]⟩,.int .i64 0,.int .i64 0,.int .i64 0,.string ⟨#[]⟩,.string ⟨#[]⟩,.slice none 0 0,.slice none 0 0]):=by
  have:=Blk.new (w1.alloc (.cells #[.int .i64 (tkAt l i).kind,.int .i64 (tkAt l i).pos,.int .i64 (tkAt l i).stop,.string (tkAt l i).text] 81)) 31 #[.int .i64 0,.int .i64 (tkAt l i).pos,.int .i64 (tkAt l i).stop,.string ⟨#[]⟩,.int .i64 0,.int .i64 0,.int .i64 0,.string ⟨#[]⟩,.string ⟨#[]⟩,.slice none 0 0,.slice none 0 0]
  show Blk _ _ _ _
  simpa using this
 clear hB S1 K1 R1 HP
 go_wp2_with fail
 generalize ((w1.alloc (.cells #[.int .i64 (tkAt l i).kind,.int .i64 (tkAt l i).pos,.int .i64 (tkAt l i).stop,.string (tkAt l i).text] 81)).alloc (.cells #[.int .i64 0,.int .i64 (tkAt l i).pos,.int .i64 (tkAt l i).stop,.string ⟨#[]⟩,.int .i64 0,.int .i64 0,.int .i64 0,.string ⟨#[]⟩,.string ⟨#[]⟩,.slice none 0 0,.slice none 0 0] 31))=w2 at *
 generalize w1.heap.size=T at *
 refine (number_any (tkAt l i) _ (HF.out.tkAt i)).mono ?_
 rintro e w3 ⟨hnum,hB⟩
 rw [HQ.out] at hnum
 obtain rfl:e=.panicked (thrown (tkAt l i).pos 2):=hnum
 have K9:=Lib.hid (K2.out.then_below hB)
 clear hB
 go_wp2
 refine ⟨rfl,?_⟩
 rw [← HRR.out,HE.out]
 exact ⟨rfl,K9.out⟩
theorem first_text {f:Nat} (hn:l.length≤1073741824) (hf:Fits l) (d:Nat) (i:Int) (w:World) (S:PS b o c m l i d w) (hk:(tkAt l i).kind=3) (hq:quoted (tkAt l i).text.data.toList=true) :
  Calls Tryz.prog 119 #[.pointer (some ⟨b,0,none⟩)] w (Tel b o c m l d w (prim l (f + 1) d i)):=by
 have HP:=Lib.hid (peek_any (S.alloc (.cells zeroE 31)) (by omega))
 have H:=Lib.hid S
 have hbl:=S.lt
 have HN:=Lib.hid hn
 have HF:=Lib.hid hf
 have hreal:=tkAt_real (l:=l) (i:=i) (by rw [hk];decide)
 have HT:=Lib.hid (fun (W:World) (h:PS b o c m l i d W)=>take_any h (by have:=HN.out;omega) hreal)
 have e2:((tkAt l i).kind == 2)=false:=by rw [beq_eq_false_iff_ne];omega
 have e3:((tkAt l i).kind == 3)=true:=by simpa using hk
 have HE:=Lib.hid (prim_text (f:=f) (d:=d) hk hq)
 have HQ:=Lib.hid hq
 clear hk hq hreal
 obtain ⟨R,hR0⟩:∃ R,prim l (f + 1) d i=R:=⟨_,rfl⟩
 have HRR:=Lib.hid hR0
 rw [hR0]
 clear S hn hf hR0
 go_enter Tryz.func119,Tryz.ntmps119
 go_wp2_with fail
 refine HP.out.mono ?_
 rintro e w1 ⟨rfl,hB⟩
 have S1:=Lib.hid ((H.out.alloc _).step hB)
 have K1:=Lib.hid (((Kp.refl b w).alloc _).then_below hB)
 have R1:=Lib.hid (blk_mid3 hB)
 have hz1:=mid_size hB
 have S2:=Lib.hid ((S1.out.alloc (.cells #[.int .i64 (tkAt l i).kind,.int .i64 (tkAt l i).pos,.int .i64 (tkAt l i).stop,.string (tkAt l i).text] 81)).alloc (.cells #[.int .i64 0,.int .i64 (tkAt l i).pos,.int .i64 (tkAt l i).stop,.string ⟨#[]⟩,.int .i64 0,.int .i64 0,.int .i64 0,.string ⟨#[]⟩,.string ⟨#[]⟩,.slice none 0 0,.slice none 0 0] 31))
 have K2:=Lib.hid ((K1.out.alloc (.cells #[.int .i64 (tkAt l i).kind,.int .i64 (tkAt l i).pos,.int .i64 (tkAt l i).stop,.string (tkAt l i).text] 81)).alloc (.cells #[.int .i64 0,.int .i64 (tkAt l i).pos,.int .i64 (tkAt l i).stop,.string ⟨#[]⟩,.int .i64 0,.int .i64 0,.int .i64 0,.string ⟨#[]⟩,.string ⟨#[]⟩,.slice none 0 0,.slice none 0 0] 31))
 have R2:=Lib.hid ((R1.out.alloc (.cells #[.int .i64 (tkAt l i).kind,.int .i64 (tkAt l i).pos,.int .i64 (tkAt l i).stop,.string (tkAt l i).text] 81)).alloc (.cells #[.int .i64 0,.int .i64 (tkAt l i).pos,.int .i64 (tkAt l i).stop,.string ⟨#[]⟩,.int .i64 0,.int .i64 0,.int .i64 0,.string ⟨#[]⟩,.string ⟨#[]⟩,.slice none 0 0,.slice none 0 0] 31))
 have T2:=Lib.hid ((Blk.new w1 81 #[.int .i64 (tkAt l i).kind,.int .i64 (tkAt l i).pos,.int .i64 (tkAt l i).stop,.string (tkAt l i).text]).alloc (.cells #[.int .i64 0,.int .i64 (tkAt l i).pos,.int .i64 (tkAt l i).stop,.string ⟨#[]⟩,.int .i64 0,.int .i64 0,.int .i64 0,.string ⟨#[]⟩,.string ⟨#[]⟩,.slice none 0 0,.slice none 0 0] 31))
 have X2:Hid (Blk ((w1.alloc (.cells #[.int .i64 (tkAt l i).kind,.int .i64 (tkAt l i).pos,.int .i64 (tkAt l i).stop,.string (tkAt l i).text] 81)).alloc (.cells #[.int .i64 0,.int .i64 (tkAt l i).pos,.int .i64 (tkAt l i).stop,.string ⟨#[]⟩,.int .i64 0,.int .i64 0,.int .i64 0,.string ⟨#[]⟩,.string ⟨#[]⟩,.slice none 0 0,.slice none 0 0] 31)) (w1.heap.size + 1) 31 #[.int .i64 0,.int .i64 (tkAt l i).pos,.int .i64 (tkAt l i).stop,.string ⟨#[]⟩,.int .i64 0,.int .i64 0,.int .i64 0,.string ⟨#[]⟩,.string ⟨#[]⟩,.slice none 0 0,.slice none 0 0]):=by
  have:=Blk.new (w1.alloc (.cells #[.int .i64 (tkAt l i).kind,.int .i64 (tkAt l i).pos,.int .i64 (tkAt l i).stop,.string (tkAt l i).text] 81)) 31 #[.int .i64 0,.int .i64 (tkAt l i).pos,.int .i64 (tkAt l i).stop,.string ⟨#[]⟩,.int .i64 0,.int .i64 0,.int .i64 0,.string ⟨#[]⟩,.string ⟨#[]⟩,.slice none 0 0,.slice none 0 0]
  show Blk _ _ _ _
  simpa using this
 clear hB S1 K1 R1 HP
 go_wp2_with fail
 generalize ((w1.alloc (.cells #[.int .i64 (tkAt l i).kind,.int .i64 (tkAt l i).pos,.int .i64 (tkAt l i).stop,.string (tkAt l i).text] 81)).alloc (.cells #[.int .i64 0,.int .i64 (tkAt l i).pos,.int .i64 (tkAt l i).stop,.string ⟨#[]⟩,.int .i64 0,.int .i64 0,.int .i64 0,.string ⟨#[]⟩,.string ⟨#[]⟩,.slice none 0 0,.slice none 0 0] 31))=w2 at *
 generalize w1.heap.size=T at *
 refine (unquoted_ok (tkAt l i) _ (HF.out.tkAt i) HQ.out).mono ?_
 rintro e w3 ⟨rfl,hB⟩
 have S3:=Lib.hid (S2.out.step hB)
 have K3:=Lib.hid (K2.out.then_below hB)
 have R3:=Lib.hid (R2.out.below hB)
 have T3:=Lib.hid (T2.out.below hB)
 have X3:=Lib.hid (X2.out.below hB)
 clear hB
 have tc:=T3.out.cell
 have xc:=X3.out.cell
 have xf:=X3.out.frozen
 have S8:=Lib.hid ((S3.out.set_ (p:=⟨T + 1,0,none⟩) (by simp only;omega) (.int .i64 2)).set_ (p:=⟨T + 1,3,none⟩) (by simp only;omega) (.string ⟨(unquote (tkAt l i).text.data.toList).toArray⟩))
 have K8:=Lib.hid ((K3.out.setCell (p:=⟨T + 1,0,none⟩) (.inl (by simp only;omega)) (.int .i64 2)).setCell (p:=⟨T + 1,3,none⟩) (.inl (by simp only;omega)) (.string ⟨(unquote (tkAt l i).text.data.toList).toArray⟩))
 have R8:=Lib.hid ((R3.out.far (p:=⟨T + 1,0,none⟩) (by simp only;omega) (.int .i64 2)).far (p:=⟨T + 1,3,none⟩) (by simp only;omega) (.string ⟨(unquote (tkAt l i).text.data.toList).toArray⟩))
 have hx8:=((X3.out.set_ 0 (.int .i64 2)).set_ 3 (.string ⟨(unquote (tkAt l i).text.data.toList).toArray⟩))
 simp only [List.setIfInBounds_toArray,List.set_cons_zero,List.set_cons_succ] at hx8
 have X8:=Lib.hid hx8
 clear hx8
 go_wp2_with fail
 refine (HT.out _ S8.out).mono ?_
 rintro e w9 ⟨rfl,hS,hK⟩
 have S9:=Lib.hid hS
 have K9:=Lib.hid (K8.out.trans hK)
 have hr9:=R8.out.kp hK (by omega)
 have hx9:=X8.out.kp hK (by omega)
 have r9:=hr9.cell
 have f9:=hr9.frozen
 have x9:=hx9.cell
 simp only [zeroE] at r9
 clear hS hK hr9 hx9 tc xc xf
 go_wp2
 refine bodyPost_ret (v:=.agg #[.int .i64 2,.int .i64 (tkAt l i).pos,.int .i64 (tkAt l i).stop,.string ⟨(unquote (tkAt l i).text.data.toList).toArray⟩,.int .i64 0,.int .i64 0,.int .i64 0,.string ⟨#[]⟩,.string ⟨#[]⟩,.slice none 0 0,.slice none 0 0]) (by simp [results,Tryz.results119,go_sem,r9]) rfl ?_
 rw [← HRR.out,HE.out]
 exact ⟨_,rfl,leafE _ _ _ _ _ _ _,S9.out.set11 hbl _ _ _ _ _ _ _ _ _ _ _,set11_kp K9.out (.inl (Nat.le_refl _)) _ _ _ _ _ _ _ _ _ _ _⟩
theorem first_text_no {f:Nat} (hn:l.length≤1073741824) (hf:Fits l) (d:Nat) (i:Int) (w:World) (S:PS b o c m l i d w) (hk:(tkAt l i).kind=3) (hq:quoted (tkAt l i).text.data.toList=false) :
  Calls Tryz.prog 119 #[.pointer (some ⟨b,0,none⟩)] w (Tel b o c m l d w (prim l (f + 1) d i)):=by
 have HP:=Lib.hid (peek_any (S.alloc (.cells zeroE 31)) (by omega))
 have H:=Lib.hid S
 have hbl:=S.lt
 have HN:=Lib.hid hn
 have HF:=Lib.hid hf
 have e2:((tkAt l i).kind == 2)=false:=by rw [beq_eq_false_iff_ne];omega
 have e3:((tkAt l i).kind == 3)=true:=by simpa using hk
 have HE:=Lib.hid (prim_text_no (f:=f) (d:=d) hk hq)
 have HQ:=Lib.hid hq
 clear hk hq
 obtain ⟨R,hR0⟩:∃ R,prim l (f + 1) d i=R:=⟨_,rfl⟩
 have HRR:=Lib.hid hR0
 rw [hR0]
 clear S hn hf hR0
 go_enter Tryz.func119,Tryz.ntmps119
 go_wp2_with fail
 refine HP.out.mono ?_
 rintro e w1 ⟨rfl,hB⟩
 have S1:=Lib.hid ((H.out.alloc _).step hB)
 have K1:=Lib.hid (((Kp.refl b w).alloc _).then_below hB)
 have R1:=Lib.hid (blk_mid3 hB)
 have hz1:=mid_size hB
 have S2:=Lib.hid ((S1.out.alloc (.cells #[.int .i64 (tkAt l i).kind,.int .i64 (tkAt l i).pos,.int .i64 (tkAt l i).stop,.string (tkAt l i).text] 81)).alloc (.cells #[.int .i64 0,.int .i64 (tkAt l i).pos,.int .i64 (tkAt l i).stop,.string ⟨#[]⟩,.int .i64 0,.int .i64 0,.int .i64 0,.string ⟨#[]⟩,.string ⟨#[]⟩,.slice none 0 0,.slice none 0 0] 31))
 have K2:=Lib.hid ((K1.out.alloc (.cells #[.int .i64 (tkAt l i).kind,.int .i64 (tkAt l i).pos,.int .i64 (tkAt l i).stop,.string (tkAt l i).text] 81)).alloc (.cells #[.int .i64 0,.int .i64 (tkAt l i).pos,.int .i64 (tkAt l i).stop,.string ⟨#[]⟩,.int .i64 0,.int .i64 0,.int .i64 0,.string ⟨#[]⟩,.string ⟨#[]⟩,.slice none 0 0,.slice none 0 0] 31))
 have R2:=Lib.hid ((R1.out.alloc (.cells #[.int .i64 (tkAt l i).kind,.int .i64 (tkAt l i).pos,.int .i64 (tkAt l i).stop,.string (tkAt l i).text] 81)).alloc (.cells #[.int .i64 0,.int .i64 (tkAt l i).pos,.int .i64 (tkAt l i).stop,.string ⟨#[]⟩,.int .i64 0,.int .i64 0,.int .i64 0,.string ⟨#[]⟩,.string ⟨#[]⟩,.slice none 0 0,.slice none 0 0] 31))
 have T2:=Lib.hid ((Blk.new w1 81 #[.int .i64 (tkAt l i).kind,.int .i64 (tkAt l i).pos,.int .i64 (tkAt l i).stop,.string (tkAt l i).text]).alloc (.cells #[.int .i64 0,.int .i64 (tkAt l i).pos,.int .i64 (tkAt l i).stop,.string ⟨#[]⟩,.int .i64 0,.int .i64 0,.int .i64 0,.string ⟨#[]⟩,.string ⟨#[]⟩,.slice none 0 0,.slice none 0 0] 31))
 have X2:Hid (Blk ((w1.alloc (.cells #[.int .i64 (tkAt l i).kind,.int .i64 (tkAt l i).pos,.int .i64 (tkAt l i).stop,.string (tkAt l i).text] 81)).alloc (.cells #[.int .i64 0,.int .i64 (tkAt l i).pos,.int .i64 (tkAt l i).stop,.string ⟨#[]⟩,.int .i64 0,.int .i64 0,.int .i64 0,.string ⟨#[]⟩,.string ⟨#[]⟩,.slice none 0 0,.slice none 0 0] 31)) (w1.heap.size + 1) 31 #[.int .i64 0,.int .i64 (tkAt l i).pos,.int .i64 (tkAt l i).stop,.string ⟨#[]⟩,.int .i64 0,.int .i64 0,.int .i64 0,.string ⟨#[]⟩,.string ⟨#[]⟩,.slice none 0 0,.slice none 0 0]):=by
  have:=Blk.new (w1.alloc (.cells #[.int .i64 (tkAt l i).kind,.int .i64 (tkAt l i).pos,.int .i64 (tkAt l i).stop,.string (tkAt l i).text] 81)) 31 #[.int .i64 0,.int .i64 (tkAt l i).pos,.int .i64 (tkAt l i).stop,.string ⟨#[]⟩,.int .i64 0,.int .i64 0,.int .i64 0,.string ⟨#[]⟩,.string ⟨#[]⟩,.slice none 0 0,.slice none 0 0]
  show Blk _ _ _ _
  simpa using this
 clear hB S1 K1 R1 HP
 go_wp2_with fail
 generalize ((w1.alloc (.cells #[.int .i64 (tkAt l i).kind,.int .i64 (tkAt l i).pos,.int .i64 (tkAt l i).stop,.string (tkAt l i).text] 81)).alloc (.cells #[.int .i64 0,.int .i64 (tkAt l i).pos,.int .i64 (tkAt l i).stop,.string ⟨#[]⟩,.int .i64 0,.int .i64 0,.int .i64 0,.string ⟨#[]⟩,.string ⟨#[]⟩,.slice none 0 0,.slice none 0 0] 31))=w2 at *
 generalize w1.heap.size=T at *
 refine (unquoted_no (tkAt l i) _ (HF.out.tkAt i) HQ.out).mono ?_
 rintro e w3 ⟨rfl,hB⟩
 have K9:=Lib.hid (K2.out.then_below hB)
 clear hB
 go_wp2
 refine ⟨rfl,?_⟩
 rw [← HRR.out,HE.out]
 exact ⟨rfl,K9.out⟩
theorem first_name {f:Nat} (hn:l.length≤1073741824) (hf:Fits l) (d:Nat) (i:Int) (w:World) (S:PS b o c m l i d w) (hk:(tkAt l i).kind=1) :
  Calls Tryz.prog 119 #[.pointer (some ⟨b,0,none⟩)] w (Tel b o c m l d w (prim l (f + 1) d i)):=by
 have HP:=Lib.hid (peek_any (S.alloc (.cells zeroE 31)) (by omega))
 have H:=Lib.hid S
 have hbl:=S.lt
 have HN:=Lib.hid hn
 have HF:=Lib.hid hf
 have hreal:=tkAt_real (l:=l) (i:=i) (by rw [hk];decide)
 have HT:=Lib.hid (fun (W:World) (h:PS b o c m l i d W)=>take_any h (by have:=HN.out;omega) hreal)
 have e2:((tkAt l i).kind == 2)=false:=by rw [beq_eq_false_iff_ne];omega
 have e3:((tkAt l i).kind == 3)=false:=by rw [beq_eq_false_iff_ne];omega
 have e1:((tkAt l i).kind == 1)=true:=by simpa using hk
 have HE:=Lib.hid (prim_name (f:=f) (d:=d) hk)
 clear hk hreal
 obtain ⟨R,hR0⟩:∃ R,prim l (f + 1) d i=R:=⟨_,rfl⟩
 have HRR:=Lib.hid hR0
 rw [hR0]
 clear S hn hf hR0
 go_enter Tryz.func119,Tryz.ntmps119
 go_wp2_with fail
 refine HP.out.mono ?_
 rintro e w1 ⟨rfl,hB⟩
 have S1:=Lib.hid ((H.out.alloc _).step hB)
 have K1:=Lib.hid (((Kp.refl b w).alloc _).then_below hB)
 have R1:=Lib.hid (blk_mid3 hB)
 have hz1:=mid_size hB
 have S2:=Lib.hid ((S1.out.alloc (.cells #[.int .i64 (tkAt l i).kind,.int .i64 (tkAt l i).pos,.int .i64 (tkAt l i).stop,.string (tkAt l i).text] 81)).alloc (.cells #[.int .i64 0,.int .i64 (tkAt l i).pos,.int .i64 (tkAt l i).stop,.string ⟨#[]⟩,.int .i64 0,.int .i64 0,.int .i64 0,.string ⟨#[]⟩,.string ⟨#[]⟩,.slice none 0 0,.slice none 0 0] 31))
 have K2:=Lib.hid ((K1.out.alloc (.cells #[.int .i64 (tkAt l i).kind,.int .i64 (tkAt l i).pos,.int .i64 (tkAt l i).stop,.string (tkAt l i).text] 81)).alloc (.cells #[.int .i64 0,.int .i64 (tkAt l i).pos,.int .i64 (tkAt l i).stop,.string ⟨#[]⟩,.int .i64 0,.int .i64 0,.int .i64 0,.string ⟨#[]⟩,.string ⟨#[]⟩,.slice none 0 0,.slice none 0 0] 31))
 have R2:=Lib.hid ((R1.out.alloc (.cells #[.int .i64 (tkAt l i).kind,.int .i64 (tkAt l i).pos,.int .i64 (tkAt l i).stop,.string (tkAt l i).text] 81)).alloc (.cells #[.int .i64 0,.int .i64 (tkAt l i).pos,.int .i64 (tkAt l i).stop,.string ⟨#[]⟩,.int .i64 0,.int .i64 0,.int .i64 0,.string ⟨#[]⟩,.string ⟨#[]⟩,.slice none 0 0,.slice none 0 0] 31))
 have T2:=Lib.hid ((Blk.new w1 81 #[.int .i64 (tkAt l i).kind,.int .i64 (tkAt l i).pos,.int .i64 (tkAt l i).stop,.string (tkAt l i).text]).alloc (.cells #[.int .i64 0,.int .i64 (tkAt l i).pos,.int .i64 (tkAt l i).stop,.string ⟨#[]⟩,.int .i64 0,.int .i64 0,.int .i64 0,.string ⟨#[]⟩,.string ⟨#[]⟩,.slice none 0 0,.slice none 0 0] 31))
 have X2:Hid (Blk ((w1.alloc (.cells #[.int .i64 (tkAt l i).kind,.int .i64 (tkAt l i).pos,.int .i64 (tkAt l i).stop,.string (tkAt l i).text] 81)).alloc (.cells #[.int .i64 0,.int .i64 (tkAt l i).pos,.int .i64 (tkAt l i).stop,.string ⟨#[]⟩,.int .i64 0,.int .i64 0,.int .i64 0,.string ⟨#[]⟩,.string ⟨#[]⟩,.slice none 0 0,.slice none 0 0] 31)) (w1.heap.size + 1) 31 #[.int .i64 0,.int .i64 (tkAt l i).pos,.int .i64 (tkAt l i).stop,.string ⟨#[]⟩,.int .i64 0,.int .i64 0,.int .i64 0,.string ⟨#[]⟩,.string ⟨#[]⟩,.slice none 0 0,.slice none 0 0]):=by
  have:=Blk.new (w1.alloc (.cells #[.int .i64 (tkAt l i).kind,.int .i64 (tkAt l i).pos,.int .i64 (tkAt l i).stop,.string (tkAt l i).text] 81)) 31 #[.int .i64 0,.int .i64 (tkAt l i).pos,.int .i64 (tkAt l i).stop,.string ⟨#[]⟩,.int .i64 0,.int .i64 0,.int .i64 0,.string ⟨#[]⟩,.string ⟨#[]⟩,.slice none 0 0,.slice none 0 0]
  show Blk _ _ _ _
  simpa using this
 clear hB S1 K1 R1 HP
 go_wp2_with fail
 generalize ((w1.alloc (.cells #[.int .i64 (tkAt l i).kind,.int .i64 (tkAt l i).pos,.int .i64 (tkAt l i).stop,.string (tkAt l i).text] 81)).alloc (.cells #[.int .i64 0,.int .i64 (tkAt l i).pos,.int .i64 (tkAt l i).stop,.string ⟨#[]⟩,.int .i64 0,.int .i64 0,.int .i64 0,.string ⟨#[]⟩,.string ⟨#[]⟩,.slice none 0 0,.slice none 0 0] 31))=w2 at *
 generalize w1.heap.size=T at *
 refine (clone_any (tkAt l i).text _ (HF.out.tkAt i)).mono ?_
 rintro e w3 ⟨rfl,hB⟩
 have S3:=Lib.hid (S2.out.step hB)
 have K3:=Lib.hid (K2.out.then_below hB)
 have R3:=Lib.hid (R2.out.below hB)
 have T3:=Lib.hid (T2.out.below hB)
 have X3:=Lib.hid (X2.out.below hB)
 clear hB
 have tc:=T3.out.cell
 have xc:=X3.out.cell
 have xf:=X3.out.frozen
 have S8:=Lib.hid ((S3.out.set_ (p:=⟨T + 1,0,none⟩) (by simp only;omega) (.int .i64 4)).set_ (p:=⟨T + 1,3,none⟩) (by simp only;omega) (.string (tkAt l i).text))
 have K8:=Lib.hid ((K3.out.setCell (p:=⟨T + 1,0,none⟩) (.inl (by simp only;omega)) (.int .i64 4)).setCell (p:=⟨T + 1,3,none⟩) (.inl (by simp only;omega)) (.string (tkAt l i).text))
 have R8:=Lib.hid ((R3.out.far (p:=⟨T + 1,0,none⟩) (by simp only;omega) (.int .i64 4)).far (p:=⟨T + 1,3,none⟩) (by simp only;omega) (.string (tkAt l i).text))
 have hx8:=((X3.out.set_ 0 (.int .i64 4)).set_ 3 (.string (tkAt l i).text))
 simp only [List.setIfInBounds_toArray,List.set_cons_zero,List.set_cons_succ] at hx8
 have X8:=Lib.hid hx8
 clear hx8
 go_wp2_with fail
 refine (HT.out _ S8.out).mono ?_
 rintro e w9 ⟨rfl,hS,hK⟩
 have S9:=Lib.hid hS
 have K9:=Lib.hid (K8.out.trans hK)
 have hr9:=R8.out.kp hK (by omega)
 have hx9:=X8.out.kp hK (by omega)
 have r9:=hr9.cell
 have f9:=hr9.frozen
 have x9:=hx9.cell
 simp only [zeroE] at r9
 clear hS hK hr9 hx9 tc xc xf
 go_wp2
 refine bodyPost_ret (v:=.agg #[.int .i64 4,.int .i64 (tkAt l i).pos,.int .i64 (tkAt l i).stop,.string (tkAt l i).text,.int .i64 0,.int .i64 0,.int .i64 0,.string ⟨#[]⟩,.string ⟨#[]⟩,.slice none 0 0,.slice none 0 0]) (by simp [results,Tryz.results119,go_sem,r9]) rfl ?_
 rw [← HRR.out,HE.out]
 exact ⟨_,rfl,leafE _ _ _ _ _ _ _,S9.out.set11 hbl _ _ _ _ _ _ _ _ _ _ _,set11_kp K9.out (.inl (Nat.le_refl _)) _ _ _ _ _ _ _ _ _ _ _⟩
theorem first_true {f:Nat} (hn:l.length≤1073741824) (hf:Fits l) (d:Nat) (i:Int) (w:World) (S:PS b o c m l i d w) (h2:(tkAt l i).kind≠2) (h3:(tkAt l i).kind≠3) (hw:isW (tkAt l i) [116,114,117,101]=true) :
  Calls Tryz.prog 119 #[.pointer (some ⟨b,0,none⟩)] w (Tel b o c m l d w (prim l (f + 1) d i)):=by
 have HP:=Lib.hid (peek_any (S.alloc (.cells zeroE 31)) (by omega))
 have H:=Lib.hid S
 have hbl:=S.lt
 have HN:=Lib.hid hn
 have HF:=Lib.hid hf
 have hreal:=tkAt_real (l:=l) (i:=i) (by rw [isW_kind hw];decide)
 have h1:(tkAt l i).kind≠1:=by rw [isW_kind hw];decide
 have HT:=Lib.hid (fun (W:World) (h:PS b o c m l i d W)=>take_any h (by have:=HN.out;omega) hreal)
 have e2:((tkAt l i).kind == 2)=false:=by rw [beq_eq_false_iff_ne];exact h2
 have e3:((tkAt l i).kind == 3)=false:=by rw [beq_eq_false_iff_ne];exact h3
 have e1:((tkAt l i).kind == 1)=false:=by rw [beq_eq_false_iff_ne];exact h1
 have HE:=Lib.hid (prim_true (f:=f) (d:=d) h2 h3 hw)
 have HQ:=Lib.hid hw
 clear h1 h2 h3 hw hreal
 obtain ⟨R,hR0⟩:∃ R,prim l (f + 1) d i=R:=⟨_,rfl⟩
 have HRR:=Lib.hid hR0
 rw [hR0]
 clear S hn hf hR0
 go_enter Tryz.func119,Tryz.ntmps119
 go_wp2_with fail
 refine HP.out.mono ?_
 rintro e w1 ⟨rfl,hB⟩
 have S1:=Lib.hid ((H.out.alloc _).step hB)
 have K1:=Lib.hid (((Kp.refl b w).alloc _).then_below hB)
 have R1:=Lib.hid (blk_mid3 hB)
 have hz1:=mid_size hB
 have S2:=Lib.hid ((S1.out.alloc (.cells #[.int .i64 (tkAt l i).kind,.int .i64 (tkAt l i).pos,.int .i64 (tkAt l i).stop,.string (tkAt l i).text] 81)).alloc (.cells #[.int .i64 0,.int .i64 (tkAt l i).pos,.int .i64 (tkAt l i).stop,.string ⟨#[]⟩,.int .i64 0,.int .i64 0,.int .i64 0,.string ⟨#[]⟩,.string ⟨#[]⟩,.slice none 0 0,.slice none 0 0] 31))
 have K2:=Lib.hid ((K1.out.alloc (.cells #[.int .i64 (tkAt l i).kind,.int .i64 (tkAt l i).pos,.int .i64 (tkAt l i).stop,.string (tkAt l i).text] 81)).alloc (.cells #[.int .i64 0,.int .i64 (tkAt l i).pos,.int .i64 (tkAt l i).stop,.string ⟨#[]⟩,.int .i64 0,.int .i64 0,.int .i64 0,.string ⟨#[]⟩,.string ⟨#[]⟩,.slice none 0 0,.slice none 0 0] 31))
 have R2:=Lib.hid ((R1.out.alloc (.cells #[.int .i64 (tkAt l i).kind,.int .i64 (tkAt l i).pos,.int .i64 (tkAt l i).stop,.string (tkAt l i).text] 81)).alloc (.cells #[.int .i64 0,.int .i64 (tkAt l i).pos,.int .i64 (tkAt l i).stop,.string ⟨#[]⟩,.int .i64 0,.int .i64 0,.int .i64 0,.string ⟨#[]⟩,.string ⟨#[]⟩,.slice none 0 0,.slice none 0 0] 31))
 have T2:=Lib.hid ((Blk.new w1 81 #[.int .i64 (tkAt l i).kind,.int .i64 (tkAt l i).pos,.int .i64 (tkAt l i).stop,.string (tkAt l i).text]).alloc (.cells #[.int .i64 0,.int .i64 (tkAt l i).pos,.int .i64 (tkAt l i).stop,.string ⟨#[]⟩,.int .i64 0,.int .i64 0,.int .i64 0,.string ⟨#[]⟩,.string ⟨#[]⟩,.slice none 0 0,.slice none 0 0] 31))
 have X2:Hid (Blk ((w1.alloc (.cells #[.int .i64 (tkAt l i).kind,.int .i64 (tkAt l i).pos,.int .i64 (tkAt l i).stop,.string (tkAt l i).text] 81)).alloc (.cells #[.int .i64 0,.int .i64 (tkAt l i).pos,.int .i64 (tkAt l i).stop,.string ⟨#[]⟩,.int .i64 0,.int .i64 0,.int .i64 0,.string ⟨#[]⟩,.string ⟨#[]⟩,.slice none 0 0,.slice none 0 0] 31)) (w1.heap.size + 1) 31 #[.int .i64 0,.int .i64 (tkAt l i).pos,.int .i64 (tkAt l i).stop,.string ⟨#[]⟩,.int .i64 0,.int .i64 0,.int .i64 0,.string ⟨#[]⟩,.string ⟨#[]⟩,.slice none 0 0,.slice none 0 0]):=by
  have:=Blk.new (w1.alloc (.cells #[.int .i64 (tkAt l i).kind,.int .i64 (tkAt l i).pos,.int .i64 (tkAt l i).stop,.string (tkAt l i).text] 81)) 31 #[.int .i64 0,.int .i64 (tkAt l i).pos,.int .i64 (tkAt l i).stop,.string ⟨#[]⟩,.int .i64 0,.int .i64 0,.int .i64 0,.string ⟨#[]⟩,.string ⟨#[]⟩,.slice none 0 0,.slice none 0 0]
  show Blk _ _ _ _
  simpa using this
 clear hB S1 K1 R1 HP
 go_wp2_with fail
 generalize ((w1.alloc (.cells #[.int .i64 (tkAt l i).kind,.int .i64 (tkAt l i).pos,.int .i64 (tkAt l i).stop,.string (tkAt l i).text] 81)).alloc (.cells #[.int .i64 0,.int .i64 (tkAt l i).pos,.int .i64 (tkAt l i).stop,.string ⟨#[]⟩,.int .i64 0,.int .i64 0,.int .i64 0,.string ⟨#[]⟩,.string ⟨#[]⟩,.slice none 0 0,.slice none 0 0] 31))=w2 at *
 generalize w1.heap.size=T at *
 refine (word_v (tkAt l i).kind (tkAt l i).pos (tkAt l i).stop (tkAt l i).text _ _).mono ?_
 rintro e w3 ⟨rfl,hB⟩
 have hw2:isKT ⟨(tkAt l i).kind,(tkAt l i).pos,(tkAt l i).stop,(tkAt l i).text⟩ 5 ⟨#[116,114,117,101]⟩=true:=(isKT_W (tkAt l i) [116,114,117,101]).trans HQ.out
 rw [hw2]
 clear hw2
 have S3:=Lib.hid (S2.out.step hB)
 have K3:=Lib.hid (K2.out.then_below hB)
 have R3:=Lib.hid (R2.out.below hB)
 have T3:=Lib.hid (T2.out.below hB)
 have X3:=Lib.hid (X2.out.below hB)
 clear hB
 have tc:=T3.out.cell
 have xc:=X3.out.cell
 have xf:=X3.out.frozen
 have S8:=Lib.hid ((S3.out.set_ (p:=⟨T + 1,0,none⟩) (by simp only;omega) (.int .i64 3)).set_ (p:=⟨T + 1,4,none⟩) (by simp only;omega) (.int .i64 1))
 have K8:=Lib.hid ((K3.out.setCell (p:=⟨T + 1,0,none⟩) (.inl (by simp only;omega)) (.int .i64 3)).setCell (p:=⟨T + 1,4,none⟩) (.inl (by simp only;omega)) (.int .i64 1))
 have R8:=Lib.hid ((R3.out.far (p:=⟨T + 1,0,none⟩) (by simp only;omega) (.int .i64 3)).far (p:=⟨T + 1,4,none⟩) (by simp only;omega) (.int .i64 1))
 have hx8:=((X3.out.set_ 0 (.int .i64 3)).set_ 4 (.int .i64 1))
 simp only [List.setIfInBounds_toArray,List.set_cons_zero,List.set_cons_succ] at hx8
 have X8:=Lib.hid hx8
 clear hx8
 go_wp2_with fail
 refine (HT.out _ S8.out).mono ?_
 rintro e w9 ⟨rfl,hS,hK⟩
 have S9:=Lib.hid hS
 have K9:=Lib.hid (K8.out.trans hK)
 have hr9:=R8.out.kp hK (by omega)
 have hx9:=X8.out.kp hK (by omega)
 have r9:=hr9.cell
 have f9:=hr9.frozen
 have x9:=hx9.cell
 simp only [zeroE] at r9
 clear hS hK hr9 hx9 tc xc xf
 go_wp2
 refine bodyPost_ret (v:=.agg #[.int .i64 3,.int .i64 (tkAt l i).pos,.int .i64 (tkAt l i).stop,.string ⟨#[]⟩,.int .i64 1,.int .i64 0,.int .i64 0,.string ⟨#[]⟩,.string ⟨#[]⟩,.slice none 0 0,.slice none 0 0]) (by simp [results,Tryz.results119,go_sem,r9]) rfl ?_
 rw [← HRR.out,HE.out]
 exact ⟨_,rfl,leafE _ _ _ _ _ _ _,S9.out.set11 hbl _ _ _ _ _ _ _ _ _ _ _,set11_kp K9.out (.inl (Nat.le_refl _)) _ _ _ _ _ _ _ _ _ _ _⟩
theorem first_false {f:Nat} (hn:l.length≤1073741824) (hf:Fits l) (d:Nat) (i:Int) (w:World) (S:PS b o c m l i d w) (h2:(tkAt l i).kind≠2) (h3:(tkAt l i).kind≠3) (hv:isW (tkAt l i) [116,114,117,101]=false) (hw:isW (tkAt l i) [102,97,108,115,101]=true) :
  Calls Tryz.prog 119 #[.pointer (some ⟨b,0,none⟩)] w (Tel b o c m l d w (prim l (f + 1) d i)):=by
 have HP:=Lib.hid (peek_any (S.alloc (.cells zeroE 31)) (by omega))
 have H:=Lib.hid S
 have hbl:=S.lt
 have HN:=Lib.hid hn
 have HF:=Lib.hid hf
 have hreal:=tkAt_real (l:=l) (i:=i) (by rw [isW_kind hw];decide)
 have h1:(tkAt l i).kind≠1:=by rw [isW_kind hw];decide
 have HT:=Lib.hid (fun (W:World) (h:PS b o c m l i d W)=>take_any h (by have:=HN.out;omega) hreal)
 have e2:((tkAt l i).kind == 2)=false:=by rw [beq_eq_false_iff_ne];exact h2
 have e3:((tkAt l i).kind == 3)=false:=by rw [beq_eq_false_iff_ne];exact h3
 have e1:((tkAt l i).kind == 1)=false:=by rw [beq_eq_false_iff_ne];exact h1
 have HE:=Lib.hid (prim_false (f:=f) (d:=d) h2 h3 hv hw)
 have HQ:=Lib.hid hw
 have HV:=Lib.hid hv
 clear h1 h2 h3 hw hv hreal
 obtain ⟨R,hR0⟩:∃ R,prim l (f + 1) d i=R:=⟨_,rfl⟩
 have HRR:=Lib.hid hR0
 rw [hR0]
 clear S hn hf hR0
 go_enter Tryz.func119,Tryz.ntmps119
 go_wp2_with fail
 refine HP.out.mono ?_
 rintro e w1 ⟨rfl,hB⟩
 have S1:=Lib.hid ((H.out.alloc _).step hB)
 have K1:=Lib.hid (((Kp.refl b w).alloc _).then_below hB)
 have R1:=Lib.hid (blk_mid3 hB)
 have hz1:=mid_size hB
 have S2:=Lib.hid ((S1.out.alloc (.cells #[.int .i64 (tkAt l i).kind,.int .i64 (tkAt l i).pos,.int .i64 (tkAt l i).stop,.string (tkAt l i).text] 81)).alloc (.cells #[.int .i64 0,.int .i64 (tkAt l i).pos,.int .i64 (tkAt l i).stop,.string ⟨#[]⟩,.int .i64 0,.int .i64 0,.int .i64 0,.string ⟨#[]⟩,.string ⟨#[]⟩,.slice none 0 0,.slice none 0 0] 31))
 have K2:=Lib.hid ((K1.out.alloc (.cells #[.int .i64 (tkAt l i).kind,.int .i64 (tkAt l i).pos,.int .i64 (tkAt l i).stop,.string (tkAt l i).text] 81)).alloc (.cells #[.int .i64 0,.int .i64 (tkAt l i).pos,.int .i64 (tkAt l i).stop,.string ⟨#[]⟩,.int .i64 0,.int .i64 0,.int .i64 0,.string ⟨#[]⟩,.string ⟨#[]⟩,.slice none 0 0,.slice none 0 0] 31))
 have R2:=Lib.hid ((R1.out.alloc (.cells #[.int .i64 (tkAt l i).kind,.int .i64 (tkAt l i).pos,.int .i64 (tkAt l i).stop,.string (tkAt l i).text] 81)).alloc (.cells #[.int .i64 0,.int .i64 (tkAt l i).pos,.int .i64 (tkAt l i).stop,.string ⟨#[]⟩,.int .i64 0,.int .i64 0,.int .i64 0,.string ⟨#[]⟩,.string ⟨#[]⟩,.slice none 0 0,.slice none 0 0] 31))
 have T2:=Lib.hid ((Blk.new w1 81 #[.int .i64 (tkAt l i).kind,.int .i64 (tkAt l i).pos,.int .i64 (tkAt l i).stop,.string (tkAt l i).text]).alloc (.cells #[.int .i64 0,.int .i64 (tkAt l i).pos,.int .i64 (tkAt l i).stop,.string ⟨#[]⟩,.int .i64 0,.int .i64 0,.int .i64 0,.string ⟨#[]⟩,.string ⟨#[]⟩,.slice none 0 0,.slice none 0 0] 31))
 have X2:Hid (Blk ((w1.alloc (.cells #[.int .i64 (tkAt l i).kind,.int .i64 (tkAt l i).pos,.int .i64 (tkAt l i).stop,.string (tkAt l i).text] 81)).alloc (.cells #[.int .i64 0,.int .i64 (tkAt l i).pos,.int .i64 (tkAt l i).stop,.string ⟨#[]⟩,.int .i64 0,.int .i64 0,.int .i64 0,.string ⟨#[]⟩,.string ⟨#[]⟩,.slice none 0 0,.slice none 0 0] 31)) (w1.heap.size + 1) 31 #[.int .i64 0,.int .i64 (tkAt l i).pos,.int .i64 (tkAt l i).stop,.string ⟨#[]⟩,.int .i64 0,.int .i64 0,.int .i64 0,.string ⟨#[]⟩,.string ⟨#[]⟩,.slice none 0 0,.slice none 0 0]):=by
  have:=Blk.new (w1.alloc (.cells #[.int .i64 (tkAt l i).kind,.int .i64 (tkAt l i).pos,.int .i64 (tkAt l i).stop,.string (tkAt l i).text] 81)) 31 #[.int .i64 0,.int .i64 (tkAt l i).pos,.int .i64 (tkAt l i).stop,.string ⟨#[]⟩,.int .i64 0,.int .i64 0,.int .i64 0,.string ⟨#[]⟩,.string ⟨#[]⟩,.slice none 0 0,.slice none 0 0]
  show Blk _ _ _ _
  simpa using this
 clear hB S1 K1 R1 HP
 go_wp2_with fail
 generalize ((w1.alloc (.cells #[.int .i64 (tkAt l i).kind,.int .i64 (tkAt l i).pos,.int .i64 (tkAt l i).stop,.string (tkAt l i).text] 81)).alloc (.cells #[.int .i64 0,.int .i64 (tkAt l i).pos,.int .i64 (tkAt l i).stop,.string ⟨#[]⟩,.int .i64 0,.int .i64 0,.int .i64 0,.string ⟨#[]⟩,.string ⟨#[]⟩,.slice none 0 0,.slice none 0 0] 31))=w2 at *
 generalize w1.heap.size=T at *
 refine (word_v (tkAt l i).kind (tkAt l i).pos (tkAt l i).stop (tkAt l i).text _ _).mono ?_
 rintro e w3 ⟨rfl,hB⟩
 have hw2:isKT ⟨(tkAt l i).kind,(tkAt l i).pos,(tkAt l i).stop,(tkAt l i).text⟩ 5 ⟨#[116,114,117,101]⟩=false:=(isKT_W (tkAt l i) [116,114,117,101]).trans HV.out
 rw [hw2]
 clear hw2
 have S3:=Lib.hid (S2.out.step hB)
 have K3:=Lib.hid (K2.out.then_below hB)
 have R3:=Lib.hid (R2.out.below hB)
 have T3:=Lib.hid (T2.out.below hB)
 have X3:=Lib.hid (X2.out.below hB)
 clear hB
 have tc:=T3.out.cell
 go_wp2_with fail
 clear tc
 refine (word_v (tkAt l i).kind (tkAt l i).pos (tkAt l i).stop (tkAt l i).text _ _).mono ?_
 rintro e w4 ⟨rfl,hB⟩
 have hw3:isKT ⟨(tkAt l i).kind,(tkAt l i).pos,(tkAt l i).stop,(tkAt l i).text⟩ 5 ⟨#[102,97,108,115,101]⟩=true:=(isKT_W (tkAt l i) [102,97,108,115,101]).trans HQ.out
 rw [hw3]
 clear hw3
 have S4:=Lib.hid (S3.out.step hB)
 have K4:=Lib.hid (K3.out.then_below hB)
 have R4:=Lib.hid (R3.out.below hB)
 have T4:=Lib.hid (T3.out.below hB)
 have X4:=Lib.hid (X3.out.below hB)
 clear hB
 have tc:=T4.out.cell
 have xc:=X4.out.cell
 have xf:=X4.out.frozen
 have S8:=Lib.hid (S4.out.set_ (p:=⟨T + 1,0,none⟩) (by simp only;omega) (.int .i64 3))
 have K8:=Lib.hid (K4.out.setCell (p:=⟨T + 1,0,none⟩) (.inl (by simp only;omega)) (.int .i64 3))
 have R8:=Lib.hid (R4.out.far (p:=⟨T + 1,0,none⟩) (by simp only;omega) (.int .i64 3))
 have hx8:=(X4.out.set_ 0 (.int .i64 3))
 simp only [List.setIfInBounds_toArray,List.set_cons_zero] at hx8
 have X8:=Lib.hid hx8
 clear hx8
 go_wp2_with fail
 refine (HT.out _ S8.out).mono ?_
 rintro e w9 ⟨rfl,hS,hK⟩
 have S9:=Lib.hid hS
 have K9:=Lib.hid (K8.out.trans hK)
 have hr9:=R8.out.kp hK (by omega)
 have hx9:=X8.out.kp hK (by omega)
 have r9:=hr9.cell
 have f9:=hr9.frozen
 have x9:=hx9.cell
 simp only [zeroE] at r9
 clear hS hK hr9 hx9 tc xc xf
 go_wp2
 refine bodyPost_ret (v:=.agg #[.int .i64 3,.int .i64 (tkAt l i).pos,.int .i64 (tkAt l i).stop,.string ⟨#[]⟩,.int .i64 0,.int .i64 0,.int .i64 0,.string ⟨#[]⟩,.string ⟨#[]⟩,.slice none 0 0,.slice none 0 0]) (by simp [results,Tryz.results119,go_sem,r9]) rfl ?_
 rw [← HRR.out,HE.out]
 exact ⟨_,rfl,leafE _ _ _ _ _ _ _,S9.out.set11 hbl _ _ _ _ _ _ _ _ _ _ _,set11_kp K9.out (.inl (Nat.le_refl _)) _ _ _ _ _ _ _ _ _ _ _⟩
theorem first_in_ok {f:Nat} (hn:l.length≤1073741824) (hf:Fits l) (d:Nat) (i:Int) (w:World) (S:PS b o c m l i d w) (h2:(tkAt l i).kind≠2) (h3:(tkAt l i).kind≠3) (h1:(tkAt l i).kind≠1) (hv:isW (tkAt l i) [116,114,117,101]=false) (hv2:isW (tkAt l i) [102,97,108,115,101]=false) (hw:isS (tkAt l i) 40=true) (hd:d≤30) (HL:LevC b o c m l f) {x:EX} {j:Int} (hq:ins l f 41 d i=(.ok x j)) :
  Calls Tryz.prog 119 #[.pointer (some ⟨b,0,none⟩)] w (Tel b o c m l d w (prim l (f + 1) d i)):=by
 have HP:=Lib.hid (peek_any (S.alloc (.cells zeroE 31)) (by omega))
 have H:=Lib.hid S
 have hbl:=S.lt
 have HN:=Lib.hid hn
 have HF:=Lib.hid hf
 have e2:((tkAt l i).kind == 2)=false:=by rw [beq_eq_false_iff_ne];exact h2
 have e3:((tkAt l i).kind == 3)=false:=by rw [beq_eq_false_iff_ne];exact h3
 have e1:((tkAt l i).kind == 1)=false:=by rw [beq_eq_false_iff_ne];exact h1
 have HE:=Lib.hid ((prim_in (f:=f) (d:=d) h2 h3 h1 hv hv2 hw).trans hq)
 have HI:=Lib.hid (fun (W:World) (h:PS b o c m l i d W)=>inside_any HN.out HL 40 41 d i W hd h hw (by rw [hq];simp))
 rw [hq] at HI
 have HQ:=Lib.hid hw
 have HV:=Lib.hid hv
 have HV2:=Lib.hid hv2
 clear h1 h2 h3 hw hv hv2 hq HL hd
 obtain ⟨R,hR0⟩:∃ R,prim l (f + 1) d i=R:=⟨_,rfl⟩
 have HRR:=Lib.hid hR0
 rw [hR0]
 clear S hn hf hR0
 go_enter Tryz.func119,Tryz.ntmps119
 go_wp2_with fail
 refine HP.out.mono ?_
 rintro e w1 ⟨rfl,hB⟩
 have S1:=Lib.hid ((H.out.alloc _).step hB)
 have K1:=Lib.hid (((Kp.refl b w).alloc _).then_below hB)
 have R1:=Lib.hid (blk_mid3 hB)
 have hz1:=mid_size hB
 have S2:=Lib.hid ((S1.out.alloc (.cells #[.int .i64 (tkAt l i).kind,.int .i64 (tkAt l i).pos,.int .i64 (tkAt l i).stop,.string (tkAt l i).text] 81)).alloc (.cells #[.int .i64 0,.int .i64 (tkAt l i).pos,.int .i64 (tkAt l i).stop,.string ⟨#[]⟩,.int .i64 0,.int .i64 0,.int .i64 0,.string ⟨#[]⟩,.string ⟨#[]⟩,.slice none 0 0,.slice none 0 0] 31))
 have K2:=Lib.hid ((K1.out.alloc (.cells #[.int .i64 (tkAt l i).kind,.int .i64 (tkAt l i).pos,.int .i64 (tkAt l i).stop,.string (tkAt l i).text] 81)).alloc (.cells #[.int .i64 0,.int .i64 (tkAt l i).pos,.int .i64 (tkAt l i).stop,.string ⟨#[]⟩,.int .i64 0,.int .i64 0,.int .i64 0,.string ⟨#[]⟩,.string ⟨#[]⟩,.slice none 0 0,.slice none 0 0] 31))
 have R2:=Lib.hid ((R1.out.alloc (.cells #[.int .i64 (tkAt l i).kind,.int .i64 (tkAt l i).pos,.int .i64 (tkAt l i).stop,.string (tkAt l i).text] 81)).alloc (.cells #[.int .i64 0,.int .i64 (tkAt l i).pos,.int .i64 (tkAt l i).stop,.string ⟨#[]⟩,.int .i64 0,.int .i64 0,.int .i64 0,.string ⟨#[]⟩,.string ⟨#[]⟩,.slice none 0 0,.slice none 0 0] 31))
 have T2:=Lib.hid ((Blk.new w1 81 #[.int .i64 (tkAt l i).kind,.int .i64 (tkAt l i).pos,.int .i64 (tkAt l i).stop,.string (tkAt l i).text]).alloc (.cells #[.int .i64 0,.int .i64 (tkAt l i).pos,.int .i64 (tkAt l i).stop,.string ⟨#[]⟩,.int .i64 0,.int .i64 0,.int .i64 0,.string ⟨#[]⟩,.string ⟨#[]⟩,.slice none 0 0,.slice none 0 0] 31))
 have X2:Hid (Blk ((w1.alloc (.cells #[.int .i64 (tkAt l i).kind,.int .i64 (tkAt l i).pos,.int .i64 (tkAt l i).stop,.string (tkAt l i).text] 81)).alloc (.cells #[.int .i64 0,.int .i64 (tkAt l i).pos,.int .i64 (tkAt l i).stop,.string ⟨#[]⟩,.int .i64 0,.int .i64 0,.int .i64 0,.string ⟨#[]⟩,.string ⟨#[]⟩,.slice none 0 0,.slice none 0 0] 31)) (w1.heap.size + 1) 31 #[.int .i64 0,.int .i64 (tkAt l i).pos,.int .i64 (tkAt l i).stop,.string ⟨#[]⟩,.int .i64 0,.int .i64 0,.int .i64 0,.string ⟨#[]⟩,.string ⟨#[]⟩,.slice none 0 0,.slice none 0 0]):=by
  have:=Blk.new (w1.alloc (.cells #[.int .i64 (tkAt l i).kind,.int .i64 (tkAt l i).pos,.int .i64 (tkAt l i).stop,.string (tkAt l i).text] 81)) 31 #[.int .i64 0,.int .i64 (tkAt l i).pos,.int .i64 (tkAt l i).stop,.string ⟨#[]⟩,.int .i64 0,.int .i64 0,.int .i64 0,.string ⟨#[]⟩,.string ⟨#[]⟩,.slice none 0 0,.slice none 0 0]
  show Blk _ _ _ _
  simpa using this
 clear hB S1 K1 R1 HP
 go_wp2_with fail
 generalize ((w1.alloc (.cells #[.int .i64 (tkAt l i).kind,.int .i64 (tkAt l i).pos,.int .i64 (tkAt l i).stop,.string (tkAt l i).text] 81)).alloc (.cells #[.int .i64 0,.int .i64 (tkAt l i).pos,.int .i64 (tkAt l i).stop,.string ⟨#[]⟩,.int .i64 0,.int .i64 0,.int .i64 0,.string ⟨#[]⟩,.string ⟨#[]⟩,.slice none 0 0,.slice none 0 0] 31))=w2 at *
 generalize w1.heap.size=T at *
 refine (word_v (tkAt l i).kind (tkAt l i).pos (tkAt l i).stop (tkAt l i).text _ _).mono ?_
 rintro e w3 ⟨rfl,hB⟩
 have hw2:isKT ⟨(tkAt l i).kind,(tkAt l i).pos,(tkAt l i).stop,(tkAt l i).text⟩ 5 ⟨#[116,114,117,101]⟩=false:=(isKT_W (tkAt l i) [116,114,117,101]).trans HV.out
 rw [hw2]
 clear hw2
 have S3:=Lib.hid (S2.out.step hB)
 have K3:=Lib.hid (K2.out.then_below hB)
 have R3:=Lib.hid (R2.out.below hB)
 have T3:=Lib.hid (T2.out.below hB)
 have X3:=Lib.hid (X2.out.below hB)
 clear hB
 have tc:=T3.out.cell
 go_wp2_with fail
 clear tc
 refine (word_v (tkAt l i).kind (tkAt l i).pos (tkAt l i).stop (tkAt l i).text _ _).mono ?_
 rintro e w4 ⟨rfl,hB⟩
 have hw3:isKT ⟨(tkAt l i).kind,(tkAt l i).pos,(tkAt l i).stop,(tkAt l i).text⟩ 5 ⟨#[102,97,108,115,101]⟩=false:=(isKT_W (tkAt l i) [102,97,108,115,101]).trans HV2.out
 rw [hw3]
 clear hw3
 have S4:=Lib.hid (S3.out.step hB)
 have K4:=Lib.hid (K3.out.then_below hB)
 have R4:=Lib.hid (R3.out.below hB)
 have T4:=Lib.hid (T3.out.below hB)
 have X4:=Lib.hid (X3.out.below hB)
 clear hB
 have tc:=T4.out.cell
 go_wp2_with fail
 clear tc
 refine (symbol_v (tkAt l i).kind (tkAt l i).pos (tkAt l i).stop (tkAt l i).text _ _).mono ?_
 rintro e w5 ⟨rfl,hB⟩
 have hw4:isKT ⟨(tkAt l i).kind,(tkAt l i).pos,(tkAt l i).stop,(tkAt l i).text⟩ 4 ⟨#[40]⟩=true:=(isKT_S (tkAt l i) 40).trans HQ.out
 rw [hw4]
 clear hw4
 have S5:=Lib.hid (S4.out.step hB)
 have K5:=Lib.hid (K4.out.then_below hB)
 have R5:=Lib.hid (R4.out.below hB)
 have T5:=Lib.hid (T4.out.below hB)
 have X5:=Lib.hid (X4.out.below hB)
 clear hB
 go_wp2_with fail
 refine (HI.out _ S5.out).mono ?_
 rintro e w9 h
 obtain ⟨v,rfl,hx,hS,hK⟩:=h
 obtain ⟨n,nm,tk,tp,tg,tn,tz,ta,o',c',rfl,_⟩:=hx.parts
 have HX:=Lib.hid hx
 have S9:=Lib.hid hS
 have K9:=Lib.hid (K5.out.trans hK)
 have hr9:=R5.out.kp hK (by omega)
 have r9:=hr9.cell
 have f9:=hr9.frozen
 simp only [zeroE] at r9
 have hz9:w.heap.size < w5.heap.size:=R5.out.lt
 clear hx hS hK hr9
 go_wp2
 refine bodyPost_ret (v:=.agg #[.int .i64 x.kind,.int .i64 x.pos,.int .i64 x.stop,.string nm,.int .i64 n,.int .i64 tk,.int .i64 tp,.string tg,.string tn,.slice tz ta ta,.slice o' x.args.length c']) (by simp [results,Tryz.results119,go_sem,r9]) rfl ?_
 rw [← HRR.out,HE.out]
 exact ⟨_,rfl,(HX.out.set11 hz9 _ _ _ _ _ _ _ _ _ _ _).mono (Nat.le_of_lt hz9),S9.out.set11 hbl _ _ _ _ _ _ _ _ _ _ _,set11_kp K9.out (.inl (Nat.le_refl _)) _ _ _ _ _ _ _ _ _ _ _⟩
theorem first_new_ok {f:Nat} (hn:l.length≤1073741824) (hf:Fits l) (d:Nat) (i:Int) (w:World) (S:PS b o c m l i d w) (h2:(tkAt l i).kind≠2) (h3:(tkAt l i).kind≠3) (h1:(tkAt l i).kind≠1) (hv:isW (tkAt l i) [116,114,117,101]=false) (hv2:isW (tkAt l i) [102,97,108,115,101]=false) (hw:isW (tkAt l i) [110,101,119]=true) (hd:d≤30) (HL:CreC b o c m l f) {x:EX} {j:Int} (hq:crt l f d i=(.ok x j)) :
  Calls Tryz.prog 119 #[.pointer (some ⟨b,0,none⟩)] w (Tel b o c m l d w (prim l (f + 1) d i)):=by
 have HP:=Lib.hid (peek_any (S.alloc (.cells zeroE 31)) (by omega))
 have H:=Lib.hid S
 have hbl:=S.lt
 have HN:=Lib.hid hn
 have HF:=Lib.hid hf
 have hreal:=tkAt_real (l:=l) (i:=i) (by rw [isW_kind hw];decide)
 have hs:isS (tkAt l i) 40=false:=isS_no (by rw [isW_kind hw];decide)
 have e2:((tkAt l i).kind == 2)=false:=by rw [beq_eq_false_iff_ne];exact h2
 have e3:((tkAt l i).kind == 3)=false:=by rw [beq_eq_false_iff_ne];exact h3
 have e1:((tkAt l i).kind == 1)=false:=by rw [beq_eq_false_iff_ne];exact h1
 have HE:=Lib.hid ((prim_new (f:=f) (d:=d) h2 h3 h1 hv hv2 hs hw).trans hq)
 have HI:=Lib.hid (fun (W:World) (h:PS b o c m l i d W)=>HL d i W hd h hreal (by rw [hq];simp))
 rw [hq] at HI
 have HQ:=Lib.hid hw
 have HS:=Lib.hid hs
 have HV:=Lib.hid hv
 have HV2:=Lib.hid hv2
 clear h1 h2 h3 hw hv hv2 hs hq HL hd hreal
 obtain ⟨R,hR0⟩:∃ R,prim l (f + 1) d i=R:=⟨_,rfl⟩
 have HRR:=Lib.hid hR0
 rw [hR0]
 clear S hn hf hR0
 go_enter Tryz.func119,Tryz.ntmps119
 go_wp2_with fail
 refine HP.out.mono ?_
 rintro e w1 ⟨rfl,hB⟩
 have S1:=Lib.hid ((H.out.alloc _).step hB)
 have K1:=Lib.hid (((Kp.refl b w).alloc _).then_below hB)
 have R1:=Lib.hid (blk_mid3 hB)
 have hz1:=mid_size hB
 have S2:=Lib.hid ((S1.out.alloc (.cells #[.int .i64 (tkAt l i).kind,.int .i64 (tkAt l i).pos,.int .i64 (tkAt l i).stop,.string (tkAt l i).text] 81)).alloc (.cells #[.int .i64 0,.int .i64 (tkAt l i).pos,.int .i64 (tkAt l i).stop,.string ⟨#[]⟩,.int .i64 0,.int .i64 0,.int .i64 0,.string ⟨#[]⟩,.string ⟨#[]⟩,.slice none 0 0,.slice none 0 0] 31))
 have K2:=Lib.hid ((K1.out.alloc (.cells #[.int .i64 (tkAt l i).kind,.int .i64 (tkAt l i).pos,.int .i64 (tkAt l i).stop,.string (tkAt l i).text] 81)).alloc (.cells #[.int .i64 0,.int .i64 (tkAt l i).pos,.int .i64 (tkAt l i).stop,.string ⟨#[]⟩,.int .i64 0,.int .i64 0,.int .i64 0,.string ⟨#[]⟩,.string ⟨#[]⟩,.slice none 0 0,.slice none 0 0] 31))
 have R2:=Lib.hid ((R1.out.alloc (.cells #[.int .i64 (tkAt l i).kind,.int .i64 (tkAt l i).pos,.int .i64 (tkAt l i).stop,.string (tkAt l i).text] 81)).alloc (.cells #[.int .i64 0,.int .i64 (tkAt l i).pos,.int .i64 (tkAt l i).stop,.string ⟨#[]⟩,.int .i64 0,.int .i64 0,.int .i64 0,.string ⟨#[]⟩,.string ⟨#[]⟩,.slice none 0 0,.slice none 0 0] 31))
 have T2:=Lib.hid ((Blk.new w1 81 #[.int .i64 (tkAt l i).kind,.int .i64 (tkAt l i).pos,.int .i64 (tkAt l i).stop,.string (tkAt l i).text]).alloc (.cells #[.int .i64 0,.int .i64 (tkAt l i).pos,.int .i64 (tkAt l i).stop,.string ⟨#[]⟩,.int .i64 0,.int .i64 0,.int .i64 0,.string ⟨#[]⟩,.string ⟨#[]⟩,.slice none 0 0,.slice none 0 0] 31))
 have X2:Hid (Blk ((w1.alloc (.cells #[.int .i64 (tkAt l i).kind,.int .i64 (tkAt l i).pos,.int .i64 (tkAt l i).stop,.string (tkAt l i).text] 81)).alloc (.cells #[.int .i64 0,.int .i64 (tkAt l i).pos,.int .i64 (tkAt l i).stop,.string ⟨#[]⟩,.int .i64 0,.int .i64 0,.int .i64 0,.string ⟨#[]⟩,.string ⟨#[]⟩,.slice none 0 0,.slice none 0 0] 31)) (w1.heap.size + 1) 31 #[.int .i64 0,.int .i64 (tkAt l i).pos,.int .i64 (tkAt l i).stop,.string ⟨#[]⟩,.int .i64 0,.int .i64 0,.int .i64 0,.string ⟨#[]⟩,.string ⟨#[]⟩,.slice none 0 0,.slice none 0 0]):=by
  have:=Blk.new (w1.alloc (.cells #[.int .i64 (tkAt l i).kind,.int .i64 (tkAt l i).pos,.int .i64 (tkAt l i).stop,.string (tkAt l i).text] 81)) 31 #[.int .i64 0,.int .i64 (tkAt l i).pos,.int .i64 (tkAt l i).stop,.string ⟨#[]⟩,.int .i64 0,.int .i64 0,.int .i64 0,.string ⟨#[]⟩,.string ⟨#[]⟩,.slice none 0 0,.slice none 0 0]
  show Blk _ _ _ _
  simpa using this
 clear hB S1 K1 R1 HP
 go_wp2_with fail
 generalize ((w1.alloc (.cells #[.int .i64 (tkAt l i).kind,.int .i64 (tkAt l i).pos,.int .i64 (tkAt l i).stop,.string (tkAt l i).text] 81)).alloc (.cells #[.int .i64 0,.int .i64 (tkAt l i).pos,.int .i64 (tkAt l i).stop,.string ⟨#[]⟩,.int .i64 0,.int .i64 0,.int .i64 0,.string ⟨#[]⟩,.string ⟨#[]⟩,.slice none 0 0,.slice none 0 0] 31))=w2 at *
 generalize w1.heap.size=T at *
 refine (word_v (tkAt l i).kind (tkAt l i).pos (tkAt l i).stop (tkAt l i).text _ _).mono ?_
 rintro e w3 ⟨rfl,hB⟩
 have hw2:isKT ⟨(tkAt l i).kind,(tkAt l i).pos,(tkAt l i).stop,(tkAt l i).text⟩ 5 ⟨#[116,114,117,101]⟩=false:=(isKT_W (tkAt l i) [116,114,117,101]).trans HV.out
 rw [hw2]
 clear hw2
 have S3:=Lib.hid (S2.out.step hB)
 have K3:=Lib.hid (K2.out.then_below hB)
 have R3:=Lib.hid (R2.out.below hB)
 have T3:=Lib.hid (T2.out.below hB)
 have X3:=Lib.hid (X2.out.below hB)
 clear hB
 have tc:=T3.out.cell
 go_wp2_with fail
 clear tc
 refine (word_v (tkAt l i).kind (tkAt l i).pos (tkAt l i).stop (tkAt l i).text _ _).mono ?_
 rintro e w4 ⟨rfl,hB⟩
 have hw3:isKT ⟨(tkAt l i).kind,(tkAt l i).pos,(tkAt l i).stop,(tkAt l i).text⟩ 5 ⟨#[102,97,108,115,101]⟩=false:=(isKT_W (tkAt l i) [102,97,108,115,101]).trans HV2.out
 rw [hw3]
 clear hw3
 have S4:=Lib.hid (S3.out.step hB)
 have K4:=Lib.hid (K3.out.then_below hB)
 have R4:=Lib.hid (R3.out.below hB)
 have T4:=Lib.hid (T3.out.below hB)
 have X4:=Lib.hid (X3.out.below hB)
 clear hB
 have tc:=T4.out.cell
 go_wp2_with fail
 clear tc
 refine (symbol_v (tkAt l i).kind (tkAt l i).pos (tkAt l i).stop (tkAt l i).text _ _).mono ?_
 rintro e w5 ⟨rfl,hB⟩
 have hw4:isKT ⟨(tkAt l i).kind,(tkAt l i).pos,(tkAt l i).stop,(tkAt l i).text⟩ 4 ⟨#[40]⟩=false:=(isKT_S (tkAt l i) 40).trans HS.out
 rw [hw4]
 clear hw4
 have S5:=Lib.hid (S4.out.step hB)
 have K5:=Lib.hid (K4.out.then_below hB)
 have R5:=Lib.hid (R4.out.below hB)
 have T5:=Lib.hid (T4.out.below hB)
 have X5:=Lib.hid (X4.out.below hB)
 clear hB
 have tc:=T5.out.cell
 go_wp2_with fail
 clear tc
 refine (word_v (tkAt l i).kind (tkAt l i).pos (tkAt l i).stop (tkAt l i).text _ _).mono ?_
 rintro e w6 ⟨rfl,hB⟩
 have hw5:isKT ⟨(tkAt l i).kind,(tkAt l i).pos,(tkAt l i).stop,(tkAt l i).text⟩ 5 ⟨#[110,101,119]⟩=true:=(isKT_W (tkAt l i) [110,101,119]).trans HQ.out
 rw [hw5]
 clear hw5
 have S6:=Lib.hid (S5.out.step hB)
 have K6:=Lib.hid (K5.out.then_below hB)
 have R6:=Lib.hid (R5.out.below hB)
 have T6:=Lib.hid (T5.out.below hB)
 have X6:=Lib.hid (X5.out.below hB)
 clear hB
 go_wp2_with fail
 refine (HI.out _ S6.out).mono ?_
 rintro e w9 h
 obtain ⟨v,rfl,hx,hS,hK⟩:=h
 obtain ⟨n,nm,tk,tp,tg,tn,tz,ta,o',c',rfl,_⟩:=hx.parts
 have HX:=Lib.hid hx
 have S9:=Lib.hid hS
 have K9:=Lib.hid (K6.out.trans hK)
 have hr9:=R6.out.kp hK (by omega)
 have r9:=hr9.cell
 have f9:=hr9.frozen
 simp only [zeroE] at r9
 have hz9:w.heap.size < w6.heap.size:=R6.out.lt
 clear hx hS hK hr9
 go_wp2
 refine bodyPost_ret (v:=.agg #[.int .i64 x.kind,.int .i64 x.pos,.int .i64 x.stop,.string nm,.int .i64 n,.int .i64 tk,.int .i64 tp,.string tg,.string tn,.slice tz ta ta,.slice o' x.args.length c']) (by simp [results,Tryz.results119,go_sem,r9]) rfl ?_
 rw [← HRR.out,HE.out]
 exact ⟨_,rfl,(HX.out.set11 hz9 _ _ _ _ _ _ _ _ _ _ _).mono (Nat.le_of_lt hz9),S9.out.set11 hbl _ _ _ _ _ _ _ _ _ _ _,set11_kp K9.out (.inl (Nat.le_refl _)) _ _ _ _ _ _ _ _ _ _ _⟩
theorem first_in_err {f:Nat} (hn:l.length≤1073741824) (hf:Fits l) (d:Nat) (i:Int) (w:World) (S:PS b o c m l i d w) (h2:(tkAt l i).kind≠2) (h3:(tkAt l i).kind≠3) (h1:(tkAt l i).kind≠1) (hv:isW (tkAt l i) [116,114,117,101]=false) (hv2:isW (tkAt l i) [102,97,108,115,101]=false) (hw:isS (tkAt l i) 40=true) (hd:d≤30) (HL:LevC b o c m l f) {p q:Int} (hq:ins l f 41 d i=(.err p q)) :
  Calls Tryz.prog 119 #[.pointer (some ⟨b,0,none⟩)] w (Tel b o c m l d w (prim l (f + 1) d i)):=by
 have HP:=Lib.hid (peek_any (S.alloc (.cells zeroE 31)) (by omega))
 have H:=Lib.hid S
 have hbl:=S.lt
 have HN:=Lib.hid hn
 have HF:=Lib.hid hf
 have e2:((tkAt l i).kind == 2)=false:=by rw [beq_eq_false_iff_ne];exact h2
 have e3:((tkAt l i).kind == 3)=false:=by rw [beq_eq_false_iff_ne];exact h3
 have e1:((tkAt l i).kind == 1)=false:=by rw [beq_eq_false_iff_ne];exact h1
 have HE:=Lib.hid ((prim_in (f:=f) (d:=d) h2 h3 h1 hv hv2 hw).trans hq)
 have HI:=Lib.hid (fun (W:World) (h:PS b o c m l i d W)=>inside_any HN.out HL 40 41 d i W hd h hw (by rw [hq];simp))
 rw [hq] at HI
 have HQ:=Lib.hid hw
 have HV:=Lib.hid hv
 have HV2:=Lib.hid hv2
 clear h1 h2 h3 hw hv hv2 hq HL hd
 obtain ⟨R,hR0⟩:∃ R,prim l (f + 1) d i=R:=⟨_,rfl⟩
 have HRR:=Lib.hid hR0
 rw [hR0]
 clear S hn hf hR0
 go_enter Tryz.func119,Tryz.ntmps119
 go_wp2_with fail
 refine HP.out.mono ?_
 rintro e w1 ⟨rfl,hB⟩
 have S1:=Lib.hid ((H.out.alloc _).step hB)
 have K1:=Lib.hid (((Kp.refl b w).alloc _).then_below hB)
 have R1:=Lib.hid (blk_mid3 hB)
 have hz1:=mid_size hB
 have S2:=Lib.hid ((S1.out.alloc (.cells #[.int .i64 (tkAt l i).kind,.int .i64 (tkAt l i).pos,.int .i64 (tkAt l i).stop,.string (tkAt l i).text] 81)).alloc (.cells #[.int .i64 0,.int .i64 (tkAt l i).pos,.int .i64 (tkAt l i).stop,.string ⟨#[]⟩,.int .i64 0,.int .i64 0,.int .i64 0,.string ⟨#[]⟩,.string ⟨#[]⟩,.slice none 0 0,.slice none 0 0] 31))
 have K2:=Lib.hid ((K1.out.alloc (.cells #[.int .i64 (tkAt l i).kind,.int .i64 (tkAt l i).pos,.int .i64 (tkAt l i).stop,.string (tkAt l i).text] 81)).alloc (.cells #[.int .i64 0,.int .i64 (tkAt l i).pos,.int .i64 (tkAt l i).stop,.string ⟨#[]⟩,.int .i64 0,.int .i64 0,.int .i64 0,.string ⟨#[]⟩,.string ⟨#[]⟩,.slice none 0 0,.slice none 0 0] 31))
 have R2:=Lib.hid ((R1.out.alloc (.cells #[.int .i64 (tkAt l i).kind,.int .i64 (tkAt l i).pos,.int .i64 (tkAt l i).stop,.string (tkAt l i).text] 81)).alloc (.cells #[.int .i64 0,.int .i64 (tkAt l i).pos,.int .i64 (tkAt l i).stop,.string ⟨#[]⟩,.int .i64 0,.int .i64 0,.int .i64 0,.string ⟨#[]⟩,.string ⟨#[]⟩,.slice none 0 0,.slice none 0 0] 31))
 have T2:=Lib.hid ((Blk.new w1 81 #[.int .i64 (tkAt l i).kind,.int .i64 (tkAt l i).pos,.int .i64 (tkAt l i).stop,.string (tkAt l i).text]).alloc (.cells #[.int .i64 0,.int .i64 (tkAt l i).pos,.int .i64 (tkAt l i).stop,.string ⟨#[]⟩,.int .i64 0,.int .i64 0,.int .i64 0,.string ⟨#[]⟩,.string ⟨#[]⟩,.slice none 0 0,.slice none 0 0] 31))
 have X2:Hid (Blk ((w1.alloc (.cells #[.int .i64 (tkAt l i).kind,.int .i64 (tkAt l i).pos,.int .i64 (tkAt l i).stop,.string (tkAt l i).text] 81)).alloc (.cells #[.int .i64 0,.int .i64 (tkAt l i).pos,.int .i64 (tkAt l i).stop,.string ⟨#[]⟩,.int .i64 0,.int .i64 0,.int .i64 0,.string ⟨#[]⟩,.string ⟨#[]⟩,.slice none 0 0,.slice none 0 0] 31)) (w1.heap.size + 1) 31 #[.int .i64 0,.int .i64 (tkAt l i).pos,.int .i64 (tkAt l i).stop,.string ⟨#[]⟩,.int .i64 0,.int .i64 0,.int .i64 0,.string ⟨#[]⟩,.string ⟨#[]⟩,.slice none 0 0,.slice none 0 0]):=by
  have:=Blk.new (w1.alloc (.cells #[.int .i64 (tkAt l i).kind,.int .i64 (tkAt l i).pos,.int .i64 (tkAt l i).stop,.string (tkAt l i).text] 81)) 31 #[.int .i64 0,.int .i64 (tkAt l i).pos,.int .i64 (tkAt l i).stop,.string ⟨#[]⟩,.int .i64 0,.int .i64 0,.int .i64 0,.string ⟨#[]⟩,.string ⟨#[]⟩,.slice none 0 0,.slice none 0 0]
  show Blk _ _ _ _
  simpa using this
 clear hB S1 K1 R1 HP
 go_wp2_with fail
 generalize ((w1.alloc (.cells #[.int .i64 (tkAt l i).kind,.int .i64 (tkAt l i).pos,.int .i64 (tkAt l i).stop,.string (tkAt l i).text] 81)).alloc (.cells #[.int .i64 0,.int .i64 (tkAt l i).pos,.int .i64 (tkAt l i).stop,.string ⟨#[]⟩,.int .i64 0,.int .i64 0,.int .i64 0,.string ⟨#[]⟩,.string ⟨#[]⟩,.slice none 0 0,.slice none 0 0] 31))=w2 at *
 generalize w1.heap.size=T at *
 refine (word_v (tkAt l i).kind (tkAt l i).pos (tkAt l i).stop (tkAt l i).text _ _).mono ?_
 rintro e w3 ⟨rfl,hB⟩
 have hw2:isKT ⟨(tkAt l i).kind,(tkAt l i).pos,(tkAt l i).stop,(tkAt l i).text⟩ 5 ⟨#[116,114,117,101]⟩=false:=(isKT_W (tkAt l i) [116,114,117,101]).trans HV.out
 rw [hw2]
 clear hw2
 have S3:=Lib.hid (S2.out.step hB)
 have K3:=Lib.hid (K2.out.then_below hB)
 have R3:=Lib.hid (R2.out.below hB)
 have T3:=Lib.hid (T2.out.below hB)
 have X3:=Lib.hid (X2.out.below hB)
 clear hB
 have tc:=T3.out.cell
 go_wp2_with fail
 clear tc
 refine (word_v (tkAt l i).kind (tkAt l i).pos (tkAt l i).stop (tkAt l i).text _ _).mono ?_
 rintro e w4 ⟨rfl,hB⟩
 have hw3:isKT ⟨(tkAt l i).kind,(tkAt l i).pos,(tkAt l i).stop,(tkAt l i).text⟩ 5 ⟨#[102,97,108,115,101]⟩=false:=(isKT_W (tkAt l i) [102,97,108,115,101]).trans HV2.out
 rw [hw3]
 clear hw3
 have S4:=Lib.hid (S3.out.step hB)
 have K4:=Lib.hid (K3.out.then_below hB)
 have R4:=Lib.hid (R3.out.below hB)
 have T4:=Lib.hid (T3.out.below hB)
 have X4:=Lib.hid (X3.out.below hB)
 clear hB
 have tc:=T4.out.cell
 go_wp2_with fail
 clear tc
 refine (symbol_v (tkAt l i).kind (tkAt l i).pos (tkAt l i).stop (tkAt l i).text _ _).mono ?_
 rintro e w5 ⟨rfl,hB⟩
 have hw4:isKT ⟨(tkAt l i).kind,(tkAt l i).pos,(tkAt l i).stop,(tkAt l i).text⟩ 4 ⟨#[40]⟩=true:=(isKT_S (tkAt l i) 40).trans HQ.out
 rw [hw4]
 clear hw4
 have S5:=Lib.hid (S4.out.step hB)
 have K5:=Lib.hid (K4.out.then_below hB)
 have R5:=Lib.hid (R4.out.below hB)
 have T5:=Lib.hid (T4.out.below hB)
 have X5:=Lib.hid (X4.out.below hB)
 clear hB
 go_wp2_with fail
 refine (HI.out _ S5.out).mono ?_
 rintro e w9 h
 obtain ⟨rfl,hK⟩:=h
 have K9:=Lib.hid (K5.out.trans hK)
 clear hK
 go_wp2
 refine ⟨rfl,?_⟩
 rw [← HRR.out,HE.out]
 exact ⟨rfl,K9.out⟩
theorem first_new_err {f:Nat} (hn:l.length≤1073741824) (hf:Fits l) (d:Nat) (i:Int) (w:World) (S:PS b o c m l i d w) (h2:(tkAt l i).kind≠2) (h3:(tkAt l i).kind≠3) (h1:(tkAt l i).kind≠1) (hv:isW (tkAt l i) [116,114,117,101]=false) (hv2:isW (tkAt l i) [102,97,108,115,101]=false) (hw:isW (tkAt l i) [110,101,119]=true) (hd:d≤30) (HL:CreC b o c m l f) {p q:Int} (hq:crt l f d i=(.err p q)) :
  Calls Tryz.prog 119 #[.pointer (some ⟨b,0,none⟩)] w (Tel b o c m l d w (prim l (f + 1) d i)):=by
 have HP:=Lib.hid (peek_any (S.alloc (.cells zeroE 31)) (by omega))
 have H:=Lib.hid S
 have hbl:=S.lt
 have HN:=Lib.hid hn
 have HF:=Lib.hid hf
 have hreal:=tkAt_real (l:=l) (i:=i) (by rw [isW_kind hw];decide)
 have hs:isS (tkAt l i) 40=false:=isS_no (by rw [isW_kind hw];decide)
 have e2:((tkAt l i).kind == 2)=false:=by rw [beq_eq_false_iff_ne];exact h2
 have e3:((tkAt l i).kind == 3)=false:=by rw [beq_eq_false_iff_ne];exact h3
 have e1:((tkAt l i).kind == 1)=false:=by rw [beq_eq_false_iff_ne];exact h1
 have HE:=Lib.hid ((prim_new (f:=f) (d:=d) h2 h3 h1 hv hv2 hs hw).trans hq)
 have HI:=Lib.hid (fun (W:World) (h:PS b o c m l i d W)=>HL d i W hd h hreal (by rw [hq];simp))
 rw [hq] at HI
 have HQ:=Lib.hid hw
 have HS:=Lib.hid hs
 have HV:=Lib.hid hv
 have HV2:=Lib.hid hv2
 clear h1 h2 h3 hw hv hv2 hs hq HL hd hreal
 obtain ⟨R,hR0⟩:∃ R,prim l (f + 1) d i=R:=⟨_,rfl⟩
 have HRR:=Lib.hid hR0
 rw [hR0]
 clear S hn hf hR0
 go_enter Tryz.func119,Tryz.ntmps119
 go_wp2_with fail
 refine HP.out.mono ?_
 rintro e w1 ⟨rfl,hB⟩
 have S1:=Lib.hid ((H.out.alloc _).step hB)
 have K1:=Lib.hid (((Kp.refl b w).alloc _).then_below hB)
 have R1:=Lib.hid (blk_mid3 hB)
 have hz1:=mid_size hB
 have S2:=Lib.hid ((S1.out.alloc (.cells #[.int .i64 (tkAt l i).kind,.int .i64 (tkAt l i).pos,.int .i64 (tkAt l i).stop,.string (tkAt l i).text] 81)).alloc (.cells #[.int .i64 0,.int .i64 (tkAt l i).pos,.int .i64 (tkAt l i).stop,.string ⟨#[]⟩,.int .i64 0,.int .i64 0,.int .i64 0,.string ⟨#[]⟩,.string ⟨#[]⟩,.slice none 0 0,.slice none 0 0] 31))
 have K2:=Lib.hid ((K1.out.alloc (.cells #[.int .i64 (tkAt l i).kind,.int .i64 (tkAt l i).pos,.int .i64 (tkAt l i).stop,.string (tkAt l i).text] 81)).alloc (.cells #[.int .i64 0,.int .i64 (tkAt l i).pos,.int .i64 (tkAt l i).stop,.string ⟨#[]⟩,.int .i64 0,.int .i64 0,.int .i64 0,.string ⟨#[]⟩,.string ⟨#[]⟩,.slice none 0 0,.slice none 0 0] 31))
 have R2:=Lib.hid ((R1.out.alloc (.cells #[.int .i64 (tkAt l i).kind,.int .i64 (tkAt l i).pos,.int .i64 (tkAt l i).stop,.string (tkAt l i).text] 81)).alloc (.cells #[.int .i64 0,.int .i64 (tkAt l i).pos,.int .i64 (tkAt l i).stop,.string ⟨#[]⟩,.int .i64 0,.int .i64 0,.int .i64 0,.string ⟨#[]⟩,.string ⟨#[]⟩,.slice none 0 0,.slice none 0 0] 31))
 have T2:=Lib.hid ((Blk.new w1 81 #[.int .i64 (tkAt l i).kind,.int .i64 (tkAt l i).pos,.int .i64 (tkAt l i).stop,.string (tkAt l i).text]).alloc (.cells #[.int .i64 0,.int .i64 (tkAt l i).pos,.int .i64 (tkAt l i).stop,.string ⟨#[]⟩,.int .i64 0,.int .i64 0,.int .i64 0,.string ⟨#[]⟩,.string ⟨#[]⟩,.slice none 0 0,.slice none 0 0] 31))
 have X2:Hid (Blk ((w1.alloc (.cells #[.int .i64 (tkAt l i).kind,.int .i64 (tkAt l i).pos,.int .i64 (tkAt l i).stop,.string (tkAt l i).text] 81)).alloc (.cells #[.int .i64 0,.int .i64 (tkAt l i).pos,.int .i64 (tkAt l i).stop,.string ⟨#[]⟩,.int .i64 0,.int .i64 0,.int .i64 0,.string ⟨#[]⟩,.string ⟨#[]⟩,.slice none 0 0,.slice none 0 0] 31)) (w1.heap.size + 1) 31 #[.int .i64 0,.int .i64 (tkAt l i).pos,.int .i64 (tkAt l i).stop,.string ⟨#[]⟩,.int .i64 0,.int .i64 0,.int .i64 0,.string ⟨#[]⟩,.string ⟨#[]⟩,.slice none 0 0,.slice none 0 0]):=by
  have:=Blk.new (w1.alloc (.cells #[.int .i64 (tkAt l i).kind,.int .i64 (tkAt l i).pos,.int .i64 (tkAt l i).stop,.string (tkAt l i).text] 81)) 31 #[.int .i64 0,.int .i64 (tkAt l i).pos,.int .i64 (tkAt l i).stop,.string ⟨#[]⟩,.int .i64 0,.int .i64 0,.int .i64 0,.string ⟨#[]⟩,.string ⟨#[]⟩,.slice none 0 0,.slice none 0 0]
  show Blk _ _ _ _
  simpa using this
 clear hB S1 K1 R1 HP
 go_wp2_with fail
 generalize ((w1.alloc (.cells #[.int .i64 (tkAt l i).kind,.int .i64 (tkAt l i).pos,.int .i64 (tkAt l i).stop,.string (tkAt l i).text] 81)).alloc (.cells #[.int .i64 0,.int .i64 (tkAt l i).pos,.int .i64 (tkAt l i).stop,.string ⟨#[]⟩,.int .i64 0,.int .i64 0,.int .i64 0,.string ⟨#[]⟩,.string ⟨#[]⟩,.slice none 0 0,.slice none 0 0] 31))=w2 at *
 generalize w1.heap.size=T at *
 refine (word_v (tkAt l i).kind (tkAt l i).pos (tkAt l i).stop (tkAt l i).text _ _).mono ?_
 rintro e w3 ⟨rfl,hB⟩
 have hw2:isKT ⟨(tkAt l i).kind,(tkAt l i).pos,(tkAt l i).stop,(tkAt l i).text⟩ 5 ⟨#[116,114,117,101]⟩=false:=(isKT_W (tkAt l i) [116,114,117,101]).trans HV.out
 rw [hw2]
 clear hw2
 have S3:=Lib.hid (S2.out.step hB)
 have K3:=Lib.hid (K2.out.then_below hB)
 have R3:=Lib.hid (R2.out.below hB)
 have T3:=Lib.hid (T2.out.below hB)
 have X3:=Lib.hid (X2.out.below hB)
 clear hB
 have tc:=T3.out.cell
 go_wp2_with fail
 clear tc
 refine (word_v (tkAt l i).kind (tkAt l i).pos (tkAt l i).stop (tkAt l i).text _ _).mono ?_
 rintro e w4 ⟨rfl,hB⟩
 have hw3:isKT ⟨(tkAt l i).kind,(tkAt l i).pos,(tkAt l i).stop,(tkAt l i).text⟩ 5 ⟨#[102,97,108,115,101]⟩=false:=(isKT_W (tkAt l i) [102,97,108,115,101]).trans HV2.out
 rw [hw3]
 clear hw3
 have S4:=Lib.hid (S3.out.step hB)
 have K4:=Lib.hid (K3.out.then_below hB)
 have R4:=Lib.hid (R3.out.below hB)
 have T4:=Lib.hid (T3.out.below hB)
 have X4:=Lib.hid (X3.out.below hB)
 clear hB
 have tc:=T4.out.cell
 go_wp2_with fail
 clear tc
 refine (symbol_v (tkAt l i).kind (tkAt l i).pos (tkAt l i).stop (tkAt l i).text _ _).mono ?_
 rintro e w5 ⟨rfl,hB⟩
 have hw4:isKT ⟨(tkAt l i).kind,(tkAt l i).pos,(tkAt l i).stop,(tkAt l i).text⟩ 4 ⟨#[40]⟩=false:=(isKT_S (tkAt l i) 40).trans HS.out
 rw [hw4]
 clear hw4
 have S5:=Lib.hid (S4.out.step hB)
 have K5:=Lib.hid (K4.out.then_below hB)
 have R5:=Lib.hid (R4.out.below hB)
 have T5:=Lib.hid (T4.out.below hB)
 have X5:=Lib.hid (X4.out.below hB)
 clear hB
 have tc:=T5.out.cell
 go_wp2_with fail
 clear tc
 refine (word_v (tkAt l i).kind (tkAt l i).pos (tkAt l i).stop (tkAt l i).text _ _).mono ?_
 rintro e w6 ⟨rfl,hB⟩
 have hw5:isKT ⟨(tkAt l i).kind,(tkAt l i).pos,(tkAt l i).stop,(tkAt l i).text⟩ 5 ⟨#[110,101,119]⟩=true:=(isKT_W (tkAt l i) [110,101,119]).trans HQ.out
 rw [hw5]
 clear hw5
 have S6:=Lib.hid (S5.out.step hB)
 have K6:=Lib.hid (K5.out.then_below hB)
 have R6:=Lib.hid (R5.out.below hB)
 have T6:=Lib.hid (T5.out.below hB)
 have X6:=Lib.hid (X5.out.below hB)
 clear hB
 go_wp2_with fail
 refine (HI.out _ S6.out).mono ?_
 rintro e w9 h
 obtain ⟨rfl,hK⟩:=h
 have K9:=Lib.hid (K6.out.trans hK)
 clear hK
 go_wp2
 refine ⟨rfl,?_⟩
 rw [← HRR.out,HE.out]
 exact ⟨rfl,K9.out⟩
theorem first_bad {f:Nat} (hn:l.length≤1073741824) (hf:Fits l) (d:Nat) (i:Int) (w:World) (S:PS b o c m l i d w) (h2:(tkAt l i).kind≠2) (h3:(tkAt l i).kind≠3) (h1:(tkAt l i).kind≠1) (hv:isW (tkAt l i) [116,114,117,101]=false) (hv2:isW (tkAt l i) [102,97,108,115,101]=false) (hs:isS (tkAt l i) 40=false) (hw:isW (tkAt l i) [110,101,119]=false) :
  Calls Tryz.prog 119 #[.pointer (some ⟨b,0,none⟩)] w (Tel b o c m l d w (prim l (f + 1) d i)):=by
 have HP:=Lib.hid (peek_any (S.alloc (.cells zeroE 31)) (by omega))
 have H:=Lib.hid S
 have hbl:=S.lt
 have HN:=Lib.hid hn
 have HF:=Lib.hid hf
 have e2:((tkAt l i).kind == 2)=false:=by rw [beq_eq_false_iff_ne];exact h2
 have e3:((tkAt l i).kind == 3)=false:=by rw [beq_eq_false_iff_ne];exact h3
 have e1:((tkAt l i).kind == 1)=false:=by rw [beq_eq_false_iff_ne];exact h1
 have HE:=Lib.hid (prim_bad (f:=f) (d:=d) h2 h3 h1 hv hv2 hs hw)
 have HQ:=Lib.hid hw
 have HS:=Lib.hid hs
 have HV:=Lib.hid hv
 have HV2:=Lib.hid hv2
 clear h1 h2 h3 hw hv hv2 hs
 obtain ⟨R,hR0⟩:∃ R,prim l (f + 1) d i=R:=⟨_,rfl⟩
 have HRR:=Lib.hid hR0
 rw [hR0]
 clear S hn hf hR0
 go_enter Tryz.func119,Tryz.ntmps119
 go_wp2_with fail
 refine HP.out.mono ?_
 rintro e w1 ⟨rfl,hB⟩
 have S1:=Lib.hid ((H.out.alloc _).step hB)
 have K1:=Lib.hid (((Kp.refl b w).alloc _).then_below hB)
 have R1:=Lib.hid (blk_mid3 hB)
 have hz1:=mid_size hB
 have S2:=Lib.hid ((S1.out.alloc (.cells #[.int .i64 (tkAt l i).kind,.int .i64 (tkAt l i).pos,.int .i64 (tkAt l i).stop,.string (tkAt l i).text] 81)).alloc (.cells #[.int .i64 0,.int .i64 (tkAt l i).pos,.int .i64 (tkAt l i).stop,.string ⟨#[]⟩,.int .i64 0,.int .i64 0,.int .i64 0,.string ⟨#[]⟩,.string ⟨#[]⟩,.slice none 0 0,.slice none 0 0] 31))
 have K2:=Lib.hid ((K1.out.alloc (.cells #[.int .i64 (tkAt l i).kind,.int .i64 (tkAt l i).pos,.int .i64 (tkAt l i).stop,.string (tkAt l i).text] 81)).alloc (.cells #[.int .i64 0,.int .i64 (tkAt l i).pos,.int .i64 (tkAt l i).stop,.string ⟨#[]⟩,.int .i64 0,.int .i64 0,.int .i64 0,.string ⟨#[]⟩,.string ⟨#[]⟩,.slice none 0 0,.slice none 0 0] 31))
 have R2:=Lib.hid ((R1.out.alloc (.cells #[.int .i64 (tkAt l i).kind,.int .i64 (tkAt l i).pos,.int .i64 (tkAt l i).stop,.string (tkAt l i).text] 81)).alloc (.cells #[.int .i64 0,.int .i64 (tkAt l i).pos,.int .i64 (tkAt l i).stop,.string ⟨#[]⟩,.int .i64 0,.int .i64 0,.int .i64 0,.string ⟨#[]⟩,.string ⟨#[]⟩,.slice none 0 0,.slice none 0 0] 31))
 have T2:=Lib.hid ((Blk.new w1 81 #[.int .i64 (tkAt l i).kind,.int .i64 (tkAt l i).pos,.int .i64 (tkAt l i).stop,.string (tkAt l i).text]).alloc (.cells #[.int .i64 0,.int .i64 (tkAt l i).pos,.int .i64 (tkAt l i).stop,.string ⟨#[]⟩,.int .i64 0,.int .i64 0,.int .i64 0,.string ⟨#[]⟩,.string ⟨#[]⟩,.slice none 0 0,.slice none 0 0] 31))
 have X2:Hid (Blk ((w1.alloc (.cells #[.int .i64 (tkAt l i).kind,.int .i64 (tkAt l i).pos,.int .i64 (tkAt l i).stop,.string (tkAt l i).text] 81)).alloc (.cells #[.int .i64 0,.int .i64 (tkAt l i).pos,.int .i64 (tkAt l i).stop,.string ⟨#[]⟩,.int .i64 0,.int .i64 0,.int .i64 0,.string ⟨#[]⟩,.string ⟨#[]⟩,.slice none 0 0,.slice none 0 0] 31)) (w1.heap.size + 1) 31 #[.int .i64 0,.int .i64 (tkAt l i).pos,.int .i64 (tkAt l i).stop,.string ⟨#[]⟩,.int .i64 0,.int .i64 0,.int .i64 0,.string ⟨#[]⟩,.string ⟨#[]⟩,.slice none 0 0,.slice none 0 0]):=by
  have:=Blk.new (w1.alloc (.cells #[.int .i64 (tkAt l i).kind,.int .i64 (tkAt l i).pos,.int .i64 (tkAt l i).stop,.string (tkAt l i).text] 81)) 31 #[.int .i64 0,.int .i64 (tkAt l i).pos,.int .i64 (tkAt l i).stop,.string ⟨#[]⟩,.int .i64 0,.int .i64 0,.int .i64 0,.string ⟨#[]⟩,.string ⟨#[]⟩,.slice none 0 0,.slice none 0 0]
  show Blk _ _ _ _
  simpa using this
 clear hB S1 K1 R1 HP
 go_wp2_with fail
 generalize ((w1.alloc (.cells #[.int .i64 (tkAt l i).kind,.int .i64 (tkAt l i).pos,.int .i64 (tkAt l i).stop,.string (tkAt l i).text] 81)).alloc (.cells #[.int .i64 0,.int .i64 (tkAt l i).pos,.int .i64 (tkAt l i).stop,.string ⟨#[]⟩,.int .i64 0,.int .i64 0,.int .i64 0,.string ⟨#[]⟩,.string ⟨#[]⟩,.slice none 0 0,.slice none 0 0] 31))=w2 at *
 generalize w1.heap.size=T at *
 refine (word_v (tkAt l i).kind (tkAt l i).pos (tkAt l i).stop (tkAt l i).text _ _).mono ?_
 rintro e w3 ⟨rfl,hB⟩
 have hw2:isKT ⟨(tkAt l i).kind,(tkAt l i).pos,(tkAt l i).stop,(tkAt l i).text⟩ 5 ⟨#[116,114,117,101]⟩=false:=(isKT_W (tkAt l i) [116,114,117,101]).trans HV.out
 rw [hw2]
 clear hw2
 have S3:=Lib.hid (S2.out.step hB)
 have K3:=Lib.hid (K2.out.then_below hB)
 have R3:=Lib.hid (R2.out.below hB)
 have T3:=Lib.hid (T2.out.below hB)
 have X3:=Lib.hid (X2.out.below hB)
 clear hB
 have tc:=T3.out.cell
 go_wp2_with fail
 clear tc
 refine (word_v (tkAt l i).kind (tkAt l i).pos (tkAt l i).stop (tkAt l i).text _ _).mono ?_
 rintro e w4 ⟨rfl,hB⟩
 have hw3:isKT ⟨(tkAt l i).kind,(tkAt l i).pos,(tkAt l i).stop,(tkAt l i).text⟩ 5 ⟨#[102,97,108,115,101]⟩=false:=(isKT_W (tkAt l i) [102,97,108,115,101]).trans HV2.out
 rw [hw3]
 clear hw3
 have S4:=Lib.hid (S3.out.step hB)
 have K4:=Lib.hid (K3.out.then_below hB)
 have R4:=Lib.hid (R3.out.below hB)
 have T4:=Lib.hid (T3.out.below hB)
 have X4:=Lib.hid (X3.out.below hB)
 clear hB
 have tc:=T4.out.cell
 go_wp2_with fail
 clear tc
 refine (symbol_v (tkAt l i).kind (tkAt l i).pos (tkAt l i).stop (tkAt l i).text _ _).mono ?_
 rintro e w5 ⟨rfl,hB⟩
 have hw4:isKT ⟨(tkAt l i).kind,(tkAt l i).pos,(tkAt l i).stop,(tkAt l i).text⟩ 4 ⟨#[40]⟩=false:=(isKT_S (tkAt l i) 40).trans HS.out
 rw [hw4]
 clear hw4
 have S5:=Lib.hid (S4.out.step hB)
 have K5:=Lib.hid (K4.out.then_below hB)
 have R5:=Lib.hid (R4.out.below hB)
 have T5:=Lib.hid (T4.out.below hB)
 have X5:=Lib.hid (X4.out.below hB)
 clear hB
 have tc:=T5.out.cell
 go_wp2_with fail
 clear tc
 refine (word_v (tkAt l i).kind (tkAt l i).pos (tkAt l i).stop (tkAt l i).text _ _).mono ?_
 rintro e w6 ⟨rfl,hB⟩
 have hw5:isKT ⟨(tkAt l i).kind,(tkAt l i).pos,(tkAt l i).stop,(tkAt l i).text⟩ 5 ⟨#[110,101,119]⟩=false:=(isKT_W (tkAt l i) [110,101,119]).trans HQ.out
 rw [hw5]
 clear hw5
 have S6:=Lib.hid (S5.out.step hB)
 have K6:=Lib.hid (K5.out.then_below hB)
 have R6:=Lib.hid (R5.out.below hB)
 have T6:=Lib.hid (T5.out.below hB)
 have X6:=Lib.hid (X5.out.below hB)
 clear hB
 have tc:=T6.out.cell
 go_wp2_with fail
 clear tc
 refine (throw_any _ _ _ _ 5 _).mono ?_
 rintro e w9 ⟨rfl,hB⟩
 have K9:=Lib.hid (K6.out.then_below hB)
 clear hB
 go_wp2
 refine ⟨rfl,?_⟩
 rw [← HRR.out,HE.out]
 exact ⟨rfl,K9.out⟩
end
end Go.Proofs.YtfcgoainglpdlaaGreatDoor
