/- The walk of 'created', out of what it calls. Condition: the parser lies in memory as said. -/
import Derived.Test.YtfcgoainglpdlaaGreatDoorV16
import Derived.Test.YtfcgoainglpdlaaGreatDoorV13
import Derived.Deep.RegionHeld3
set_option maxRecDepth 20000
set_option maxHeartbeats 16000000
namespace Go.Proofs.YtfcgoainglpdlaaGreatDoor
open Go.RowKit
open Go.Lib hiding intOf
section
variable {b c m:Nat} {o:Option Addr} {l:List TZ}
theorem newEnd {d:Nat} {w W:World} {p e:Int} {t:TX} {ys:List EX} {q:Int} {tk tp:Int} {tg tn:ByteArray} {tz:Option Addr} {ta:Nat} {oy:Option Addr} {cy:Nat} (ht:IsTP (fun n=>w.heap.size + 1≤n) W t (.agg #[.int .i64 tk,.int .i64 tp,.string tg,.string tn,.slice tz ta ta])) (hy:IsEPs (fun n=>w.heap.size + 1≤n) W oy 0 ys) (hcap:ys.length≤cy∧cy≤maxLen)
  (hS:PS b o c m l q d W) (hK:Kp b w W) (hb:b < w.heap.size) :
  IsEX w.heap.size (set11 W w.heap.size (.int .i64 8) (.int .i64 p) (.int .i64 e) (.string ⟨#[]⟩) (.int .i64 0) (.int .i64 tk) (.int .i64 tp) (.string tg) (.string tn) (.slice tz ta ta) (.slice oy ys.length cy)) (.mk 8 p e 0 ⟨#[]⟩ t ys)
   (.agg #[.int .i64 8,.int .i64 p,.int .i64 e,.string ⟨#[]⟩,.int .i64 0,.int .i64 tk,.int .i64 tp,.string tg,.string tn,.slice tz ta ta,.slice oy ys.length cy]) ∧
  PS b o c m l q d (set11 W w.heap.size (.int .i64 8) (.int .i64 p) (.int .i64 e) (.string ⟨#[]⟩) (.int .i64 0) (.int .i64 tk) (.int .i64 tp) (.string tg) (.string tn) (.slice tz ta ta) (.slice oy ys.length cy)) ∧
  Kp b w (set11 W w.heap.size (.int .i64 8) (.int .i64 p) (.int .i64 e) (.string ⟨#[]⟩) (.int .i64 0) (.int .i64 tk) (.int .i64 tp) (.string tg) (.string tn) (.slice tz ta ta) (.slice oy ys.length cy)):=by
 refine ⟨?_,hS.set11 hb _ _ _ _ _ _ _ _ _ _ _,set11_kp hK (.inl (Nat.le_refl _)) _ _ _ _ _ _ _ _ _ _ _⟩
 have h1:=epsSet11 hy (r:=w.heap.size) (by omega) (.int .i64 8) (.int .i64 p) (.int .i64 e) (.string ⟨#[]⟩) (.int .i64 0) (.int .i64 tk) (.int .i64 tp) (.string tg) (.string tn) (.slice tz ta ta) (.slice oy ys.length cy)
 have h2:IsTP (fun n=>w.heap.size + 1≤n) (set11 W w.heap.size (.int .i64 8) (.int .i64 p) (.int .i64 e) (.string ⟨#[]⟩) (.int .i64 0) (.int .i64 tk) (.int .i64 tp) (.string tg) (.string tn) (.slice tz ta ta) (.slice oy ys.length cy)) t (.agg #[.int .i64 tk,.int .i64 tp,.string tg,.string tn,.slice tz ta ta]) :=
  ht.keep (fun _ _ _ h _=>h) fun n i u hp hc=>by
   have e:∀ W':World,W'.cell? ⟨n,i,none⟩=some u→∀ (j:Nat) (x:Value),(W'.setCell ⟨w.heap.size,j,none⟩ x).cell? ⟨n,i,none⟩=some u:=fun W' h j x=>(World.cell?_of_block (w:=W') (a:=⟨n,i,none⟩) (Below.heap_setCell W' ⟨w.heap.size,j,none⟩ x n (by simp only;omega))).trans h
   unfold set11
   exact e _ (e _ (e _ (e _ (e _ (e _ (e _ (e _ (e _ (e _ (e _ hc 0 _) 1 _) 2 _) 3 _) 4 _) 5 _) 6 _) 7 _) 8 _) 9 _) 10 _
 unfold IsEX IsEP
 exact ⟨tk,tp,tg,tn,tz,ta,oy,cy,rfl,hcap,h2.keep (fun _ _ _ h _=>by omega) (fun _ _ _ _ h=>h),h1.keep (fun _ _ _ h _=>by omega) fun _ _ _ _ h=>h⟩
theorem IsTP.kp {P:Nat→Prop} {b:Nat} {w w':World} {x:TX} {v:Value} (h:IsTP P w x v) (hk:Kp b w w') (hb:¬ P b):IsTP P w' x v :=
 h.keep (fun _ _ _ h _=>h) fun k i u hP hc=>by
  have e:w'.heap[k]?=w.heap[k]?:=hk.block k (World.block_lt_of_cell? w ⟨k,i,none⟩ hc) (fun e=>hb (e ▸ hP))
  exact (World.cell?_of_block (w:=w) (a:=⟨k,i,none⟩) e).trans hc
theorem crt_err {f d:Nat} {i p q:Int} (h:prs l 30 (i + 1)=.err p q):crt l f d i=.err p q:=by unfold crt;rw [h]
theorem crt_bad {f d:Nat} {i j:Int} {t:TX} (h:prs l 30 (i + 1)=.ok t j) (hb:isS (tkAt l j) 123=false):crt l f d i=.err (tkAt l j).pos 5:=by
 unfold crt;rw [h];simp only [hb];rfl
theorem crt_out {f d:Nat} {i j:Int} {t:TX} (h:prs l 30 (i + 1)=.ok t j) (hb:isS (tkAt l j) 123=true) (hl:lst l f 125 d j=.out):crt l f d i=.out:=by
 unfold crt;rw [h];simp only [hb,hl];rfl
theorem crt_no {f d:Nat} {i j:Int} {t:TX} (h:prs l 30 (i + 1)=.ok t j) (hb:isS (tkAt l j) 123=true) {p q:Int} (hl:lst l f 125 d j=.err p q):crt l f d i=.err p q:=by
 unfold crt;rw [h];simp only [hb,hl];rfl
theorem crt_ok {f d:Nat} {i j:Int} {t:TX} (h:prs l 30 (i + 1)=.ok t j) (hb:isS (tkAt l j) 123=true) {ys:List EX} {q:Int} (hl:lst l f 125 d j=.ok ys q):crt l f d i=.ok (.mk 8 (tkAt l i).pos (tkAt l (q - 1)).stop 0 ⟨#[]⟩ t ys) q:=by
 unfold crt;rw [h];simp only [hb,hl];rfl
theorem created_any {f:Nat} (hn:l.length≤1073741824) (hf:Fits l) (IH:∀ g,g < f→LevC b o c m l g) (d:Nat) (i:Int) (w:World) (hd:d≤30) (S:PS b o c m l i d w) (hi:0≤i∧i < l.length) (hr:crt l f d i≠.out) :
  Calls Tryz.prog 143 #[.pointer (some ⟨b,0,none⟩)] w (Tel b o c m l d w (crt l f d i)):=by
 have HT:=Lib.hid (take_any (S.alloc (.cells zeroE 31)) (by omega) hi)
 have hbl:=S.lt
 have HN:=Lib.hid hn
 have HC:=Lib.hid (fun (W:World) (h:PS b o c m l (i + 1) d W)=>parse_any o c l (i + 1) W h.toks (by have:=HN.out;omega) hf)
 have hfield:=run_field1
 have HIH:=Lib.hid IH
 have HD:=Lib.hid hd
 have HRO:=Lib.hid hr
 obtain ⟨R,hR0⟩:∃ R,crt l f d i=R:=⟨_,rfl⟩
 have HRR:=Lib.hid hR0
 rw [hR0]
 clear S hn hi hf IH hd hr hR0
 go_enter Tryz.func143,Tryz.ntmps143
 go_wp2_with fail
 refine HT.out.mono ?_
 rintro e w1 ⟨rfl,hS,hK⟩
 have S1:=Lib.hid hS
 have K1:=Lib.hid (((Kp.refl b w).alloc _).trans hK)
 have R1:=Lib.hid ((Blk.new w 31 zeroE).kp hK (by omega))
 have hz1:w.heap.size < w1.heap.size:=R1.out.lt
 obtain ⟨p0,p1,p2,p3,pf⟩:=hS.cells
 have hb1:b < w1.heap.size:=hS.lt
 clear hS hK HT
 go_wp2_with fail
 go_cut [4,5,6] (fun p4 n5 p6 wx=>∃ (B4 B6:Nat) (k p:Int) (g s:ByteArray) (oo:Option Addr) (aa:Nat) (n e1 e2:Int),p4=.pointer (some ⟨B4,0,none⟩)∧n5=.int .i64 n∧p6=.pointer (some ⟨B6,0,none⟩)∧Hid (TyRel (prs l 30 (i + 1)) w1 B4 B6 (.int .i64 k) (.int .i64 p) (.string g) (.string s) (.slice oo aa aa) n e1 e2 wx))
 case first =>
  clear HIH HD HRO HRR hfield HN R1 K1 hbl hz1 p2 p3 pf
  have n0:w1.heap.size≠b:=by omega
  have n1:w1.heap.size + 1≠b:=by omega
  go_region_held3 (fun w'=>w'.cell? ⟨b,0,none⟩=some (.slice o l.length c)∧w'.cell? ⟨b,1,none⟩=some (.int .i64 (i + 1))) (refine ⟨?_,?_⟩ <;> (first | with_reducible assumption | (simp [q0,q1,n0,n1,World.cell?_alloc_some,World.cell?_setCell_far];done) | (simp [p0,p1,World.cell?_alloc_some];done) | (trace_state;fail))) ((go_at_call 155;refine (HC.out _ ?_).mono ?_;(first | exact S1.out.drew | exact (S1.out.alloc _).drew | exact ((S1.out.alloc _).alloc _).drew);rintro e w2 ⟨v,rfl,hres,hB⟩;obtain ⟨k,p,g,s,oo,aa,n,e1,e2,rfl,hr⟩:=hres.ty;(first | (have X:=blk_mid2 hB.undrew;have Y:=blk_sec hB.undrew;have xc:=X.cell;have xf:=X.frozen;have yc:=Y.cell;have yf:=Y.frozen;have zz:=mid_size' hB.undrew;have zx:=X.lt;have HB2:=Lib.hid ((((Below.refl w1.heap.size w1).alloc (Nat.le_refl _) _).alloc (by simp) _).trans (hB.undrew.mono (by simp;omega)));have HR:=Lib.hid (hr.keep (B':=w1.heap.size + 1 + 1 + 2) fun t h=>IsTX.mono (by simp) h);have XX:=Lib.hid X;have YY:=Lib.hid Y;clear X Y) | (have X:=blk_mid3 hB.undrew;have xc:=X.cell;have xf:=X.frozen;have zz:=mid_size hB.undrew;have HB2:=Lib.hid (((Below.refl w1.heap.size w1).alloc (Nat.le_refl _) _).trans (hB.undrew.mono (by simp)));have HR:=Lib.hid (hr.keep (B':=w1.heap.size + 1 + 2) fun t h=>IsTX.mono (by simp) h);have XX:=Lib.hid X;clear X) | (have HB2:=Lib.hid hB.undrew;have HR:=Lib.hid (hr.keep (B':=w1.heap.size + 2) fun t h=>IsTX.mono (by simp) h)));have q0:w2.cell? ⟨b,0,none⟩=some (.slice o l.length c):=(HB2.out.cell hb1).trans p0;have q1:w2.cell? ⟨b,1,none⟩=some (.int .i64 (i + 1)):=(HB2.out.cell hb1).trans p1;clear hB hr hres))
  all_goals go_wp2_with fail
  all_goals go_meet
  all_goals
   refine ⟨_,_,k,p,g,s,oo,aa,n,e1,e2,rfl,rfl,rfl,Lib.hid ?_⟩
   first
   |(have t:=tyF1 HB2.out HR.out;with_reducible exact t)
   |(have t:=tyF2 HB2.out HR.out;with_reducible exact t)
   |(have t:=tyF5 HB2.out XX.out YY.out HR.out;simp only [st5,set2] at t;with_reducible exact t)
   |(have t:=tyF6 HB2.out XX.out YY.out HR.out;simp only [st5,set2] at t;with_reducible exact t)
   |(have t:=tyF3 HB2.out XX.out HR.out;simp only [st5] at t;with_reducible exact t)
   |(have t:=tyF4 HB2.out XX.out HR.out;simp only [set2] at t;with_reducible exact t)
 case rest =>
  obtain ⟨B4,B6,k,p,g,s,oo,aa,n,e1,e2,rfl,rfl,rfl,hT⟩:=hcut
  obtain ⟨h4,h6,hA5,hA2,hB,hR⟩:=hT.out
  have S2:=Lib.hid (S1.out.step hB)
  have K2:=Lib.hid (K1.out.then_below hB)
  have R2:=Lib.hid (R1.out.below hB)
  obtain ⟨c60,c61⟩:=hA2
  have A5:=Lib.hid hA5
  have HR:=Lib.hid hR
  have hz2:w1.heap.size≤wc.heap.size:=hB.size
  clear hT hA5 hB hR p0 p1 p2 p3 pf S1 K1 R1 HC
  cases hq:prs l 30 (i + 1) with
  |err pp cc =>
   have hc0:=(prs_err hq).2
   have hR:=HR.out
   rw [hq] at hR
   obtain ⟨rfl,rfl⟩:=hR
   have ec:(e2 != 0)=true:=by simpa using hc0
   have HE:=Lib.hid (crt_err (f:=f) (d:=d) hq)
   clear hc0 hq HR HRO
   go_wp2
   refine ⟨rfl,?_⟩
   rw [← HRR.out,HE.out]
   exact ⟨rfl,K2.out⟩
  |ok t j =>
   have hR:=HR.out
   rw [hq] at hR
   obtain ⟨rfl,rfl,rfl,hX⟩:=hR
   obtain ⟨p0,p1,p2,p3,pf⟩:=S2.out.cells
   have hb2:b < wc.heap.size:=S2.out.lt
   have S3:=Lib.hid (S2.out.next n)
   have K3:=Lib.hid (K2.out.setCell (p:=⟨b,1,none⟩) (.inr rfl) (.int .i64 n))
   have R3:=Lib.hid (R2.out.far (p:=⟨b,1,none⟩) (by simp only;omega) (.int .i64 n))
   have A53:=Lib.hid (A5.out.kp ((Kp.refl b wc).setCell (p:=⟨b,1,none⟩) (.inr rfl) (.int .i64 n)) (by omega))
   have X3:=Lib.hid (IsTP.kp hX ((Kp.refl b wc).setCell (p:=⟨b,1,none⟩) (.inr rfl) (.int .i64 n)) (by omega))
   have HQ:=Lib.hid hq
   clear hX hq HR A5 S2 K2 R2
   cases hb:isS (tkAt l n) 123
   ·have HL:=Lib.hid (fun (W:World) (h:PS b o c m l n d W)=>list_no HN.out 123 125 d n W h hb)
    have HE:=Lib.hid (crt_bad (f:=f) (d:=d) HQ.out hb)
    clear hb HRO
    go_wp2_with fail
    refine (HL.out _ S3.out).mono ?_
    rintro e w3 ⟨rfl,hK⟩
    have K4:=Lib.hid (K3.out.trans hK)
    clear hK
    go_wp2
    refine ⟨rfl,?_⟩
    rw [← HRR.out,HE.out]
    exact ⟨rfl,K4.out⟩
   ·have HBR:=Lib.hid hb
    cases hl:lst l f 125 d n with
    |out=>exact (HRO.out (crt_out HQ.out hb hl)).elim
    |err pp cc =>
     obtain ⟨f',rfl⟩:∃ f',f=f' + 1:=by
      cases f with
      |zero=>rw [lst] at hl;cases hl
      |succ q=>exact ⟨q,rfl⟩
     have HL:=Lib.hid (fun (W:World) (h:PS b o c m l n d W)=>list_any (f:=f') HN.out (fun g hg=>HIH.out g (by omega)) 123 125 (by decide) d n W HD.out h HBR.out (by rw [hl];simp))
     rw [hl] at HL
     have HE:=Lib.hid (crt_no (d:=d) HQ.out hb hl)
     clear hb hl HRO
     go_wp2_with fail
     refine (HL.out _ S3.out).mono ?_
     rintro e w3 ⟨rfl,hK⟩
     have K4:=Lib.hid (K3.out.trans hK)
     clear hK
     go_wp2
     refine ⟨rfl,?_⟩
     rw [← HRR.out,HE.out]
     exact ⟨rfl,K4.out⟩
    |ok ys q =>
     obtain ⟨f',rfl⟩:∃ f',f=f' + 1:=by
      cases f with
      |zero=>rw [lst] at hl;cases hl
      |succ q=>exact ⟨q,rfl⟩
     have HL:=Lib.hid (fun (W:World) (h:PS b o c m l n d W)=>list_any (f:=f') HN.out (fun g hg=>HIH.out g (by omega)) 123 125 (by decide) d n W HD.out h HBR.out (by rw [hl];simp))
     have hrng:=(read_rng (l:=l) (f' + 1)).2.2.2.2.2.1 _ _ _ _ _ hl
     have hn0:=isS_real hb
     have HQQ:Hid (1≤q∧q≤(l.length:Nat)):=by show 1≤q∧q≤(l.length:Nat);omega
     rw [hl] at HL
     have HE:=Lib.hid (crt_ok (d:=d) HQ.out hb hl)
     clear hb hl HRO hrng hn0
     go_wp2_with fail
     refine (HL.out _ S3.out).mono ?_
     rintro e w3 ⟨oy,cy,rfl,hV,hS,hK⟩
     have HCAP:=Lib.hid hV.cap
     obtain ⟨o2,c2,e2,hA⟩:=hV.eps
     injection e2 with e2 _ e3
     subst e2 e3
     have S4:=Lib.hid hS
     have K4:=Lib.hid (K3.out.trans hK)
     have R4:=Lib.hid (R3.out.kp hK (by omega))
     have A54:=Lib.hid (A53.out.kp hK (by omega))
     have X4:=Lib.hid (IsTP.kp X3.out hK (by omega))
     have hsz:(wc.setCell ⟨b,1,none⟩ (.int .i64 n)).heap.size=wc.heap.size:=by simp [World.setCell]
     have HA:=Lib.hid (hA.keep (P':=fun n=>w.heap.size + 1≤n) (fun t _ _ (ht:(wc.setCell ⟨b,1,none⟩ (.int .i64 n)).heap.size≤t) _=>by rw [hsz] at ht;omega) (fun _ _ _ _ h=>h))
     have hz4:wc.heap.size≤w3.heap.size:=by have:=hK.size;simpa [World.setCell] using this
     obtain ⟨a0,a1,a2,a3,a4⟩:=A54.out
     have HEN:=Lib.hid (fun (W:World) (h:PS b o c m l q d W)=>end_any h (by have:=HN.out;omega) HQQ.out)
     clear hV hS hK hA hsz p0 p1 p2 p3 pf hb2
     go_wp2_with fail
     go_region_with (go_at_call 71;refine (HEN.out _ S4.out.drew).mono ?_;rintro e w6 ⟨rfl,hB⟩;have hk6:=hB.undrew;have A56:=A54.out.kp (b:=b) (.of_below hk6) (by omega);obtain ⟨d0,d1,d2,d3,d4⟩:=A56;have r6:=R4.out.below hk6;have c7:=r6.cell;have f7:=r6.frozen;simp only [zeroE] at c7;have HB6:=Lib.hid hk6;clear hB hk6 r6)
     all_goals
      go_wp2
      have E:=Lib.hid (newEnd (w:=w) (p:=(tkAt l i).pos) (e:=(tkAt l (q - 1)).stop) (cy:=cy) (IsTP.mono (P':=fun n=>w.heap.size + 1≤n) (fun t _ (ht:w1.heap.size≤t)=>by omega) (IsTP.below X4.out HB6.out)) (IsEPs.below HA.out HB6.out) HCAP.out (S4.out.step HB6.out) (K4.out.then_below HB6.out) hbl)
      refine bodyPost_ret (v:=.agg #[.int .i64 8,.int .i64 (tkAt l i).pos,.int .i64 (tkAt l (q - 1)).stop,.string ⟨#[]⟩,.int .i64 0,.int .i64 k,.int .i64 p,.string g,.string s,.slice oo aa aa,.slice oy ys.length cy]) (by simp [results,Tryz.results143,go_sem,c7]) rfl ?_
      rw [← HRR.out,HE.out]
      exact ⟨_,rfl,E.out.1,E.out.2.1,E.out.2.2⟩
end
end Go.Proofs.YtfcgoainglpdlaaGreatDoor
