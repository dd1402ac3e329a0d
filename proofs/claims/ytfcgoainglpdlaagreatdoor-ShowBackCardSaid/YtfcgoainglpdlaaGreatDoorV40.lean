/- The walk of the packages' parser's declared. Condition: the parser lies in memory as said. The walk of the packages' parser's file. Condition: the parser lies in memory as said. The walk of the packages' Parse, out of 'file'. Condition: the tokens lie in memory as 'ZAt' says; texts of at most 2^48 bytes. -/
import Derived.Test.YtfcgoainglpdlaaGreatDoorV39
import Derived.RegionDies
import Derived.Deep.RegionLaw
import Derived.Deep.LoopGhost
import Derived.Test.YtfcgoainglpdlaaGreatDoorV33
set_option maxRecDepth 100000
set_option maxHeartbeats 8000000
namespace Go.Proofs.YtfcgoainglpdlaaGreatDoor
open Go.RowKit
open Go.Lib hiding intOf
theorem stayD {B:Nat} {w w':World} {x:DX} {v:Value} (h:IsDX (fun q=>B≤q) w x v) (ha:Ab B w w'):IsDX (fun q=>B≤q) w' x v:=stayE (E:=eltD) h ha
theorem monoD {B B':Nat} (hB:B'≤B) {w:World} {x:DX} {v:Value} (h:IsDX (fun q=>B≤q) w x v):IsDX (fun q=>B'≤q) w x v:=monoE (E:=eltD) hB h
theorem IsDX.shut {P:Nat→Prop} {w:World} {x:DX} {c0 c1 c2 c3 c4 c5 c6 c7 c8 c9 c10 c11 c12 c13 c14 c15 c16 c17 c18 c19 c20 c21:Value} (h:IsDX P w x (.agg #[c0,c1,c2,c3,c4,c5,c6,c7,c8,c9,c10,c11,c12,c13,c14,c15,c16,c17,c18,c19,c20,c21])) (s:Int):IsDX P w (shutD x s) (.agg #[c0,c1,.int .i64 s,c3,c4,c5,c6,c7,c8,c9,c10,c11,c12,c13,c14,c15,c16,c17,c18,c19,c20,c21]):=by
 obtain ⟨rn,rp,rk,rq,rg,rm,rz,ra,ob,cb,of,cf,om,cm,tk,tp,tg,tn,tz,ta,os,cs,hve,h1,h2,h3,h4,h5,h6⟩:=h
 simp only [Value.agg.injEq,Array.mk.injEq,List.cons.injEq,and_true] at hve
 obtain ⟨rfl,rfl,rfl,rfl,rfl,rfl,rfl,rfl,rfl,rfl,rfl,rfl,rfl,rfl,rfl,rfl,rfl,rfl,rfl,rfl,rfl,rfl⟩:=hve
 exact ⟨_,_,_,_,_,_,_,_,_,_,_,_,_,_,_,_,_,_,_,_,_,_,rfl,h1,h2,h3,h4,h5,h6⟩
section
variable {b c:Nat} {o:Option Addr} {l:List TZ} {i:Int} {w:World}
theorem declaredF (F fb f:Nat) (hF:fuel l≤F) (S:FS b o c l i w) (hn:l.length≤1073741824) (hf:Fits l) (hr:dcl l F fb f i≠.out) :
  Calls Tryz.prog 86 #[.pointer (some ⟨b,0,none⟩)] w (TelF b o c l (isPart eltD) w (dcl l F fb f i)):=by
 have hbl:=S.lt
 have HSW:=Lib.hid (fun (W:World) (j:Int) (s:List UInt8) (h:FS b o c l j W)=>seesWF h hn s)
 have HDT:=Lib.hid (fun (W:World) (j:Int) (h:FS b o c l j W) (hr:dtyw l f j≠.out)=>show Calls Tryz.prog 109 #[.pointer (some ⟨b,0,none⟩)] W (TelF b o c l (isPart eltD) W (dtyw l f j)) from declaredTypeF f h hn hf hr)
 have HDF:=Lib.hid (fun (W:World) (j:Int) (h:FS b o c l j W) (hr:dfnw l F fb f j≠.out)=>declaredFuncF F fb f hF h hn hf hr)
 have HN:=Lib.hid hn
 have HRG:Hid (∀ x q,(if isW (tkAt l i) wType then dtyw l f i else dfnw l F fb f i)=EO.ok x q→0≤q - 1∧q - 1 < l.length):=fun x q h=>(dcl0_rng (F:=F) (fb:=fb) (f:=f) (i:=i) (x:=x) (by rw [dcl0_eq];exact h)).2
 rw [dcl_eq,dcl0_eq] at hr ⊢
 obtain ⟨R,hR⟩:∃ R,(thn (if isW (tkAt l i) wType then dtyw l f i else dfnw l F fb f i) fun x q=>EO.ok (shutD x (tkAt l (q - 1)).stop) q)=R:=⟨_,rfl⟩
 change (thn (if isW (tkAt l i) wType then dtyw l f i else dfnw l F fb f i) fun x q=>EO.ok (shutD x (tkAt l (q - 1)).stop) q)≠.out at hr
 change Calls _ _ _ _ (TelF b o c l _ w (thn (if isW (tkAt l i) wType then dtyw l f i else dfnw l F fb f i) fun x q=>EO.ok (shutD x (tkAt l (q - 1)).stop) q))
 rw [hR] at hr ⊢
 have HR:=Lib.hid hR
 have HRO:=Lib.hid hr
 have S0:=Lib.hid ((S.alloc (.cells #[.int .i64 0,.int .i64 0,.int .i64 0,.string ⟨#[]⟩,.bool false,.string ⟨#[]⟩,.int .i64 0,.int .i64 0,.int .i64 0,.string ⟨#[]⟩,.string ⟨#[]⟩,.slice none 0 0,.slice none 0 0,.slice none 0 0,.slice none 0 0,.bool false,.int .i64 0,.int .i64 0,.string ⟨#[]⟩,.string ⟨#[]⟩,.slice none 0 0,.slice none 0 0] 76)).alloc (.cells #[.int .i64 0,.int .i64 0,.int .i64 0,.string ⟨#[]⟩,.bool false,.string ⟨#[]⟩,.int .i64 0,.int .i64 0,.int .i64 0,.string ⟨#[]⟩,.string ⟨#[]⟩,.slice none 0 0,.slice none 0 0,.slice none 0 0,.slice none 0 0,.bool false,.int .i64 0,.int .i64 0,.string ⟨#[]⟩,.string ⟨#[]⟩,.slice none 0 0,.slice none 0 0] 76))
 have K0:=Lib.hid (((Kp.refl b w).alloc (.cells #[.int .i64 0,.int .i64 0,.int .i64 0,.string ⟨#[]⟩,.bool false,.string ⟨#[]⟩,.int .i64 0,.int .i64 0,.int .i64 0,.string ⟨#[]⟩,.string ⟨#[]⟩,.slice none 0 0,.slice none 0 0,.slice none 0 0,.slice none 0 0,.bool false,.int .i64 0,.int .i64 0,.string ⟨#[]⟩,.string ⟨#[]⟩,.slice none 0 0,.slice none 0 0] 76)).alloc (.cells #[.int .i64 0,.int .i64 0,.int .i64 0,.string ⟨#[]⟩,.bool false,.string ⟨#[]⟩,.int .i64 0,.int .i64 0,.int .i64 0,.string ⟨#[]⟩,.string ⟨#[]⟩,.slice none 0 0,.slice none 0 0,.slice none 0 0,.slice none 0 0,.bool false,.int .i64 0,.int .i64 0,.string ⟨#[]⟩,.string ⟨#[]⟩,.slice none 0 0,.slice none 0 0] 76))
 have XA0:Hid (Blk ((w.alloc (.cells #[.int .i64 0,.int .i64 0,.int .i64 0,.string ⟨#[]⟩,.bool false,.string ⟨#[]⟩,.int .i64 0,.int .i64 0,.int .i64 0,.string ⟨#[]⟩,.string ⟨#[]⟩,.slice none 0 0,.slice none 0 0,.slice none 0 0,.slice none 0 0,.bool false,.int .i64 0,.int .i64 0,.string ⟨#[]⟩,.string ⟨#[]⟩,.slice none 0 0,.slice none 0 0] 76)).alloc (.cells #[.int .i64 0,.int .i64 0,.int .i64 0,.string ⟨#[]⟩,.bool false,.string ⟨#[]⟩,.int .i64 0,.int .i64 0,.int .i64 0,.string ⟨#[]⟩,.string ⟨#[]⟩,.slice none 0 0,.slice none 0 0,.slice none 0 0,.slice none 0 0,.bool false,.int .i64 0,.int .i64 0,.string ⟨#[]⟩,.string ⟨#[]⟩,.slice none 0 0,.slice none 0 0] 76)) w.heap.size 76 #[.int .i64 0,.int .i64 0,.int .i64 0,.string ⟨#[]⟩,.bool false,.string ⟨#[]⟩,.int .i64 0,.int .i64 0,.int .i64 0,.string ⟨#[]⟩,.string ⟨#[]⟩,.slice none 0 0,.slice none 0 0,.slice none 0 0,.slice none 0 0,.bool false,.int .i64 0,.int .i64 0,.string ⟨#[]⟩,.string ⟨#[]⟩,.slice none 0 0,.slice none 0 0]):=((Blk.new w 76 #[.int .i64 0,.int .i64 0,.int .i64 0,.string ⟨#[]⟩,.bool false,.string ⟨#[]⟩,.int .i64 0,.int .i64 0,.int .i64 0,.string ⟨#[]⟩,.string ⟨#[]⟩,.slice none 0 0,.slice none 0 0,.slice none 0 0,.slice none 0 0,.bool false,.int .i64 0,.int .i64 0,.string ⟨#[]⟩,.string ⟨#[]⟩,.slice none 0 0,.slice none 0 0]).alloc (.cells #[.int .i64 0,.int .i64 0,.int .i64 0,.string ⟨#[]⟩,.bool false,.string ⟨#[]⟩,.int .i64 0,.int .i64 0,.int .i64 0,.string ⟨#[]⟩,.string ⟨#[]⟩,.slice none 0 0,.slice none 0 0,.slice none 0 0,.slice none 0 0,.bool false,.int .i64 0,.int .i64 0,.string ⟨#[]⟩,.string ⟨#[]⟩,.slice none 0 0,.slice none 0 0] 76))
 have wxA:w.heap.size≤w.heap.size:=by omega
 have bxA:b < w.heap.size:=by omega
 have XB0:Hid (Blk ((w.alloc (.cells #[.int .i64 0,.int .i64 0,.int .i64 0,.string ⟨#[]⟩,.bool false,.string ⟨#[]⟩,.int .i64 0,.int .i64 0,.int .i64 0,.string ⟨#[]⟩,.string ⟨#[]⟩,.slice none 0 0,.slice none 0 0,.slice none 0 0,.slice none 0 0,.bool false,.int .i64 0,.int .i64 0,.string ⟨#[]⟩,.string ⟨#[]⟩,.slice none 0 0,.slice none 0 0] 76)).alloc (.cells #[.int .i64 0,.int .i64 0,.int .i64 0,.string ⟨#[]⟩,.bool false,.string ⟨#[]⟩,.int .i64 0,.int .i64 0,.int .i64 0,.string ⟨#[]⟩,.string ⟨#[]⟩,.slice none 0 0,.slice none 0 0,.slice none 0 0,.slice none 0 0,.bool false,.int .i64 0,.int .i64 0,.string ⟨#[]⟩,.string ⟨#[]⟩,.slice none 0 0,.slice none 0 0] 76)) (w.heap.size + 1) 76 #[.int .i64 0,.int .i64 0,.int .i64 0,.string ⟨#[]⟩,.bool false,.string ⟨#[]⟩,.int .i64 0,.int .i64 0,.int .i64 0,.string ⟨#[]⟩,.string ⟨#[]⟩,.slice none 0 0,.slice none 0 0,.slice none 0 0,.slice none 0 0,.bool false,.int .i64 0,.int .i64 0,.string ⟨#[]⟩,.string ⟨#[]⟩,.slice none 0 0,.slice none 0 0]):=by have h:=Blk.new (w.alloc (.cells #[.int .i64 0,.int .i64 0,.int .i64 0,.string ⟨#[]⟩,.bool false,.string ⟨#[]⟩,.int .i64 0,.int .i64 0,.int .i64 0,.string ⟨#[]⟩,.string ⟨#[]⟩,.slice none 0 0,.slice none 0 0,.slice none 0 0,.slice none 0 0,.bool false,.int .i64 0,.int .i64 0,.string ⟨#[]⟩,.string ⟨#[]⟩,.slice none 0 0,.slice none 0 0] 76)) 76 #[.int .i64 0,.int .i64 0,.int .i64 0,.string ⟨#[]⟩,.bool false,.string ⟨#[]⟩,.int .i64 0,.int .i64 0,.int .i64 0,.string ⟨#[]⟩,.string ⟨#[]⟩,.slice none 0 0,.slice none 0 0,.slice none 0 0,.slice none 0 0,.bool false,.int .i64 0,.int .i64 0,.string ⟨#[]⟩,.string ⟨#[]⟩,.slice none 0 0,.slice none 0 0];rw [World.size_alloc] at h;exact h
 have wxB:w.heap.size≤(w.heap.size + 1):=by omega
 have bxB:b < (w.heap.size + 1):=by omega
 clear S hn hf hr hR
 go_enter Tryz.func86,Tryz.ntmps86
 have HSX:=Lib.hid (HSW.out _ i wType S0.out)
 cases hz:isW (tkAt l i) wType
 ·rw [hz] at HSX
  have HR:Hid ((thn (dfnw l F fb f i) fun x q=>EO.ok (shutD x (tkAt l (q - 1)).stop) q)=R):=by have h:=HR.out;rw [hz] at h;exact h
  have HRZ:=HRG.out
  rw [hz] at HRZ
  have HRZ:=Lib.hid HRZ
  clear hz
  go_wp2_with fail
  refine HSX.out.mono ?_
  rintro e w1 ⟨rfl,hB⟩
  have S1:=Lib.hid (S0.out.step hB)
  have K1:=Lib.hid (K0.out.then_below hB)
  have hb1:=S1.out.lt
  have XA1:=Lib.hid (XA0.out.below hB)
  have lA1:=XA1.out.lt
  have XB1:=Lib.hid (XB0.out.below hB)
  have lB1:=XB1.out.lt
  clear hB HSX
  have HRJ:Hid (∀ x q,dfnw l F fb f i=EO.ok x q→0≤q - 1∧q - 1 < l.length):=HRZ.out
  go_wp2_with fail
  refine (HDF.out _ _ S1.out (fun h0=>HRO.out (by have h:=HR.out;rw [h0] at h;exact h.symm))).mono ?_
  rintro e w2 hT
  cases hq:dfnw l F fb f i with
  |out=>exact (HRO.out (by have h:=HR.out;rw [hq] at h;exact h.symm)).elim
  |err p q =>
   rw [hq] at hT
   obtain ⟨rfl,hK⟩:=hT
   have KE:=Lib.hid (K1.out.trans hK)
   have HB:Hid (EO.err p q=R):=by have h:=HR.out;rw [hq] at h;exact h
   clear hq hK
   go_wp2
   refine ⟨rfl,?_⟩
   rw [← HB.out]
   exact ⟨rfl,KE.out⟩
  |ok x q =>
   rw [hq] at hT
   obtain ⟨v,rfl,hv,hS,hK⟩:=hT
   have HR:Hid ((EO.ok (shutD x (tkAt l (q - 1)).stop) q)=R):=by have h:=HR.out;rw [hq] at h;exact h
   have hv2:=hv
   obtain ⟨rn,rp,rk,rq,rg,rm,rz,ra,ob,cb,of,cf,om,cm,tk,tp,tg,tn,tz,ta,os,cs,hve,_⟩:=hv2
   subst hve
   have S2:=Lib.hid hS
   have K2:=Lib.hid (K1.out.trans hK)
   have hb2:=hS.lt
   have XA2:=Lib.hid (XA1.out.kp hK (by omega))
   have lA2:=XA2.out.lt
   have XB2:=Lib.hid (XB1.out.kp hK (by omega))
   have lB2:=XB2.out.lt
   have QD:=Lib.hid (monoD (B':=(w.heap.size + 1) + 1) (by have h:=XB1.out.lt;omega) hv)
   have HQG:=Lib.hid (HRJ.out _ _ hq)
   clear hS hK hq hv
   have XBv:Hid (Blk _ (w.heap.size + 1) 76 #[.int .i64 x.kind,.int .i64 x.pos,.int .i64 x.stop,.string x.name,.bool x.method,.string rn,.int .i64 rp,.int .i64 rk,.int .i64 rq,.string rg,.string rm,.slice rz ra ra,.slice ob x.bounds.length cb,.slice of x.fields.length cf,.slice om x.methods.length cm,.bool x.has,.int .i64 tk,.int .i64 tp,.string tg,.string tn,.slice tz ta ta,.slice os x.body.length cs]):=XB2.out.row #[.int .i64 x.kind,.int .i64 x.pos,.int .i64 x.stop,.string x.name,.bool x.method,.string rn,.int .i64 rp,.int .i64 rk,.int .i64 rq,.string rg,.string rm,.slice rz ra ra,.slice ob x.bounds.length cb,.slice of x.fields.length cf,.slice om x.methods.length cm,.bool x.has,.int .i64 tk,.int .i64 tp,.string tg,.string tn,.slice tz ta ta,.slice os x.body.length cs]
   have XAv:=Lib.hid (XA2.out.rowFar (g:=(w.heap.size + 1)) (by omega) #[.int .i64 x.kind,.int .i64 x.pos,.int .i64 x.stop,.string x.name,.bool x.method,.string rn,.int .i64 rp,.int .i64 rk,.int .i64 rq,.string rg,.string rm,.slice rz ra ra,.slice ob x.bounds.length cb,.slice of x.fields.length cf,.slice om x.methods.length cm,.bool x.has,.int .i64 tk,.int .i64 tp,.string tg,.string tn,.slice tz ta ta,.slice os x.body.length cs])
   have Sv:=Lib.hid (S2.out.row (g:=(w.heap.size + 1)) (by omega) #[.int .i64 x.kind,.int .i64 x.pos,.int .i64 x.stop,.string x.name,.bool x.method,.string rn,.int .i64 rp,.int .i64 rk,.int .i64 rq,.string rg,.string rm,.slice rz ra ra,.slice ob x.bounds.length cb,.slice of x.fields.length cf,.slice om x.methods.length cm,.bool x.has,.int .i64 tk,.int .i64 tp,.string tg,.string tn,.slice tz ta ta,.slice os x.body.length cs])
   have Kv:=Lib.hid (setRow_kp K2.out (g:=(w.heap.size + 1)) (.inl (by omega)) #[.int .i64 x.kind,.int .i64 x.pos,.int .i64 x.stop,.string x.name,.bool x.method,.string rn,.int .i64 rp,.int .i64 rk,.int .i64 rq,.string rg,.string rm,.slice rz ra ra,.slice ob x.bounds.length cb,.slice of x.fields.length cf,.slice om x.methods.length cm,.bool x.has,.int .i64 tk,.int .i64 tp,.string tg,.string tn,.slice tz ta ta,.slice os x.body.length cs])
   have QD:=Lib.hid (stayD QD.out (setRow_ab (Ab.refl _ _) (g:=(w.heap.size + 1)) (by omega) #[.int .i64 x.kind,.int .i64 x.pos,.int .i64 x.stop,.string x.name,.bool x.method,.string rn,.int .i64 rp,.int .i64 rk,.int .i64 rq,.string rg,.string rm,.slice rz ra ra,.slice ob x.bounds.length cb,.slice of x.fields.length cf,.slice om x.methods.length cm,.bool x.has,.int .i64 tk,.int .i64 tp,.string tg,.string tn,.slice tz ta ta,.slice os x.body.length cs]))
   go_wp2_with (first | (refine boxStore 76 22 (sizeOfI infoD) rfl _ _ rfl (w.heap.size + 1) rfl _ rfl XB2.out rfl rfl rfl ?_))
   obtain ⟨k,hqk⟩:∃ k:Nat,q=(k:Nat) + 1:=⟨(q - 1).toNat,by have:=HQG.out;omega⟩
   subst hqk
   have hk:k < l.length:=by have:=HQG.out;omega
   have hk1:((k:Nat):Int) + 1 - 1=k:=by omega
   have hk2:((k:Nat):Int) < (l.length:Nat):=by omega
   have hn:l.length≤9223372036854775807:=by have:=HN.out;omega
   obtain ⟨a,ha,e0,e1,e2,e3⟩:=Sv.out.toks.tok (List.getElem?_eq_getElem hk)
   subst ha
   have ht:=Lib.hid (tkAt_in (List.getElem?_eq_getElem hk))
   have HB:=HR.out
   rw [hk1] at HB
   generalize l[k]=t at *
   rw [ht.out] at HB
   have HB:=Lib.hid HB
   obtain ⟨p0,p1,pf⟩:=Sv.out.cells
   have hbv:=Sv.out.lt
   have cX:=XBv.out.cell
   have fX:=XBv.out.frozen
   have lX:=XBv.out.lt
   clear e0 e1 e3 HR HQG ht
   generalize w2.setRow _ _=wv at *
   dsimp only [Act.put]
   go_region
   all_goals
    have X2:Blk _ (w.heap.size + 1) 76 #[.int .i64 x.kind,.int .i64 x.pos,.int .i64 t.stop,.string x.name,.bool x.method,.string rn,.int .i64 rp,.int .i64 rk,.int .i64 rq,.string rg,.string rm,.slice rz ra ra,.slice ob x.bounds.length cb,.slice of x.fields.length cf,.slice om x.methods.length cm,.bool x.has,.int .i64 tk,.int .i64 tp,.string tg,.string tn,.slice tz ta ta,.slice os x.body.length cs]:=blk_drew (XBv.out.setL 2 (.int .i64 t.stop))
    have XA2:=blk_drew (XAv.out.far (p:=⟨(w.heap.size + 1),2,none⟩) (by simp only;omega) (.int .i64 t.stop))
    have X2:=Lib.hid X2
    have XA2:=Lib.hid XA2
    clear cX fX lX p0 p1 pf e2
    go_wp2_with (first | (refine boxLoad 76 22 (sizeOfI infoD) Tryz.underlying76 rfl _ rfl (w.heap.size + 1) rfl X2.out rfl ?_) | (refine boxStore 76 22 (sizeOfI infoD) rfl _ _ rfl w.heap.size rfl _ rfl XA2.out rfl rfl rfl ?_))
    refine bodyPost_ret (v:=.agg #[.int .i64 x.kind,.int .i64 x.pos,.int .i64 t.stop,.string x.name,.bool x.method,.string rn,.int .i64 rp,.int .i64 rk,.int .i64 rq,.string rg,.string rm,.slice rz ra ra,.slice ob x.bounds.length cb,.slice of x.fields.length cf,.slice om x.methods.length cm,.bool x.has,.int .i64 tk,.int .i64 tp,.string tg,.string tn,.slice tz ta ta,.slice os x.body.length cs]) ?_ ?_ ?_
    ·exact boxRes 76 22 (sizeOfI infoD) Tryz.underlying76 Tryz.results86 _ w.heap.size rfl (XA2.out.row _) rfl
    ·rfl
    rw [← HB.out]
    refine ⟨_,rfl,?_,((Sv.out.set_ (a:=⟨(w.heap.size + 1),2,none⟩) (by simp only;omega) _).drew).row (by omega) _,setRow_kp ((Kv.out.setCell (p:=⟨(w.heap.size + 1),2,none⟩) (.inl (by simp only;omega)) _).drew) (.inl (by omega)) _⟩
    have hx:=monoD (B':=w.heap.size) (by omega) (stayD QD.out (setRow_ab ((Ab.refl _ _).setCell (p:=⟨(w.heap.size + 1),2,none⟩) (by simp only;omega) (.int .i64 t.stop)).drew (g:=w.heap.size) (by omega) #[.int .i64 x.kind,.int .i64 x.pos,.int .i64 t.stop,.string x.name,.bool x.method,.string rn,.int .i64 rp,.int .i64 rk,.int .i64 rq,.string rg,.string rm,.slice rz ra ra,.slice ob x.bounds.length cb,.slice of x.fields.length cf,.slice om x.methods.length cm,.bool x.has,.int .i64 tk,.int .i64 tp,.string tg,.string tn,.slice tz ta ta,.slice os x.body.length cs]))
    exact IsDX.shut hx t.stop
 ·rw [hz] at HSX
  have HR:Hid ((thn (dtyw l f i) fun x q=>EO.ok (shutD x (tkAt l (q - 1)).stop) q)=R):=by have h:=HR.out;rw [hz] at h;exact h
  have HRZ:=HRG.out
  rw [hz] at HRZ
  have HRZ:=Lib.hid HRZ
  clear hz
  go_wp2_with fail
  refine HSX.out.mono ?_
  rintro e w1 ⟨rfl,hB⟩
  have S1:=Lib.hid (S0.out.step hB)
  have K1:=Lib.hid (K0.out.then_below hB)
  have hb1:=S1.out.lt
  have XA1:=Lib.hid (XA0.out.below hB)
  have lA1:=XA1.out.lt
  have XB1:=Lib.hid (XB0.out.below hB)
  have lB1:=XB1.out.lt
  clear hB HSX
  have HRJ:Hid (∀ x q,dtyw l f i=EO.ok x q→0≤q - 1∧q - 1 < l.length):=HRZ.out
  go_wp2_with fail
  refine (HDT.out _ _ S1.out (fun h0=>HRO.out (by have h:=HR.out;rw [h0] at h;exact h.symm))).mono ?_
  rintro e w2 hT
  cases hq:dtyw l f i with
  |out=>exact (HRO.out (by have h:=HR.out;rw [hq] at h;exact h.symm)).elim
  |err p q =>
   rw [hq] at hT
   obtain ⟨rfl,hK⟩:=hT
   have KE:=Lib.hid (K1.out.trans hK)
   have HB:Hid (EO.err p q=R):=by have h:=HR.out;rw [hq] at h;exact h
   clear hq hK
   go_wp2
   refine ⟨rfl,?_⟩
   rw [← HB.out]
   exact ⟨rfl,KE.out⟩
  |ok x q =>
   rw [hq] at hT
   obtain ⟨v,rfl,hv,hS,hK⟩:=hT
   have HR:Hid ((EO.ok (shutD x (tkAt l (q - 1)).stop) q)=R):=by have h:=HR.out;rw [hq] at h;exact h
   have hv2:=hv
   obtain ⟨rn,rp,rk,rq,rg,rm,rz,ra,ob,cb,of,cf,om,cm,tk,tp,tg,tn,tz,ta,os,cs,hve,_⟩:=hv2
   subst hve
   have S2:=Lib.hid hS
   have K2:=Lib.hid (K1.out.trans hK)
   have hb2:=hS.lt
   have XA2:=Lib.hid (XA1.out.kp hK (by omega))
   have lA2:=XA2.out.lt
   have XB2:=Lib.hid (XB1.out.kp hK (by omega))
   have lB2:=XB2.out.lt
   have QD:=Lib.hid (monoD (B':=(w.heap.size + 1) + 1) (by have h:=XB1.out.lt;omega) hv)
   have HQG:=Lib.hid (HRJ.out _ _ hq)
   clear hS hK hq hv
   have XBv:Hid (Blk _ (w.heap.size + 1) 76 #[.int .i64 x.kind,.int .i64 x.pos,.int .i64 x.stop,.string x.name,.bool x.method,.string rn,.int .i64 rp,.int .i64 rk,.int .i64 rq,.string rg,.string rm,.slice rz ra ra,.slice ob x.bounds.length cb,.slice of x.fields.length cf,.slice om x.methods.length cm,.bool x.has,.int .i64 tk,.int .i64 tp,.string tg,.string tn,.slice tz ta ta,.slice os x.body.length cs]):=XB2.out.row #[.int .i64 x.kind,.int .i64 x.pos,.int .i64 x.stop,.string x.name,.bool x.method,.string rn,.int .i64 rp,.int .i64 rk,.int .i64 rq,.string rg,.string rm,.slice rz ra ra,.slice ob x.bounds.length cb,.slice of x.fields.length cf,.slice om x.methods.length cm,.bool x.has,.int .i64 tk,.int .i64 tp,.string tg,.string tn,.slice tz ta ta,.slice os x.body.length cs]
   have XAv:=Lib.hid (XA2.out.rowFar (g:=(w.heap.size + 1)) (by omega) #[.int .i64 x.kind,.int .i64 x.pos,.int .i64 x.stop,.string x.name,.bool x.method,.string rn,.int .i64 rp,.int .i64 rk,.int .i64 rq,.string rg,.string rm,.slice rz ra ra,.slice ob x.bounds.length cb,.slice of x.fields.length cf,.slice om x.methods.length cm,.bool x.has,.int .i64 tk,.int .i64 tp,.string tg,.string tn,.slice tz ta ta,.slice os x.body.length cs])
   have Sv:=Lib.hid (S2.out.row (g:=(w.heap.size + 1)) (by omega) #[.int .i64 x.kind,.int .i64 x.pos,.int .i64 x.stop,.string x.name,.bool x.method,.string rn,.int .i64 rp,.int .i64 rk,.int .i64 rq,.string rg,.string rm,.slice rz ra ra,.slice ob x.bounds.length cb,.slice of x.fields.length cf,.slice om x.methods.length cm,.bool x.has,.int .i64 tk,.int .i64 tp,.string tg,.string tn,.slice tz ta ta,.slice os x.body.length cs])
   have Kv:=Lib.hid (setRow_kp K2.out (g:=(w.heap.size + 1)) (.inl (by omega)) #[.int .i64 x.kind,.int .i64 x.pos,.int .i64 x.stop,.string x.name,.bool x.method,.string rn,.int .i64 rp,.int .i64 rk,.int .i64 rq,.string rg,.string rm,.slice rz ra ra,.slice ob x.bounds.length cb,.slice of x.fields.length cf,.slice om x.methods.length cm,.bool x.has,.int .i64 tk,.int .i64 tp,.string tg,.string tn,.slice tz ta ta,.slice os x.body.length cs])
   have QD:=Lib.hid (stayD QD.out (setRow_ab (Ab.refl _ _) (g:=(w.heap.size + 1)) (by omega) #[.int .i64 x.kind,.int .i64 x.pos,.int .i64 x.stop,.string x.name,.bool x.method,.string rn,.int .i64 rp,.int .i64 rk,.int .i64 rq,.string rg,.string rm,.slice rz ra ra,.slice ob x.bounds.length cb,.slice of x.fields.length cf,.slice om x.methods.length cm,.bool x.has,.int .i64 tk,.int .i64 tp,.string tg,.string tn,.slice tz ta ta,.slice os x.body.length cs]))
   go_wp2_with (first | (refine boxStore 76 22 (sizeOfI infoD) rfl _ _ rfl (w.heap.size + 1) rfl _ rfl XB2.out rfl rfl rfl ?_))
   obtain ⟨k,hqk⟩:∃ k:Nat,q=(k:Nat) + 1:=⟨(q - 1).toNat,by have:=HQG.out;omega⟩
   subst hqk
   have hk:k < l.length:=by have:=HQG.out;omega
   have hk1:((k:Nat):Int) + 1 - 1=k:=by omega
   have hk2:((k:Nat):Int) < (l.length:Nat):=by omega
   have hn:l.length≤9223372036854775807:=by have:=HN.out;omega
   obtain ⟨a,ha,e0,e1,e2,e3⟩:=Sv.out.toks.tok (List.getElem?_eq_getElem hk)
   subst ha
   have ht:=Lib.hid (tkAt_in (List.getElem?_eq_getElem hk))
   have HB:=HR.out
   rw [hk1] at HB
   generalize l[k]=t at *
   rw [ht.out] at HB
   have HB:=Lib.hid HB
   obtain ⟨p0,p1,pf⟩:=Sv.out.cells
   have hbv:=Sv.out.lt
   have cX:=XBv.out.cell
   have fX:=XBv.out.frozen
   have lX:=XBv.out.lt
   clear e0 e1 e3 HR HQG ht
   generalize w2.setRow _ _=wv at *
   dsimp only [Act.put]
   go_region
   all_goals
    have X2:Blk _ (w.heap.size + 1) 76 #[.int .i64 x.kind,.int .i64 x.pos,.int .i64 t.stop,.string x.name,.bool x.method,.string rn,.int .i64 rp,.int .i64 rk,.int .i64 rq,.string rg,.string rm,.slice rz ra ra,.slice ob x.bounds.length cb,.slice of x.fields.length cf,.slice om x.methods.length cm,.bool x.has,.int .i64 tk,.int .i64 tp,.string tg,.string tn,.slice tz ta ta,.slice os x.body.length cs]:=blk_drew (XBv.out.setL 2 (.int .i64 t.stop))
    have XA2:=blk_drew (XAv.out.far (p:=⟨(w.heap.size + 1),2,none⟩) (by simp only;omega) (.int .i64 t.stop))
    have X2:=Lib.hid X2
    have XA2:=Lib.hid XA2
    clear cX fX lX p0 p1 pf e2
    go_wp2_with (first | (refine boxLoad 76 22 (sizeOfI infoD) Tryz.underlying76 rfl _ rfl (w.heap.size + 1) rfl X2.out rfl ?_) | (refine boxStore 76 22 (sizeOfI infoD) rfl _ _ rfl w.heap.size rfl _ rfl XA2.out rfl rfl rfl ?_))
    refine bodyPost_ret (v:=.agg #[.int .i64 x.kind,.int .i64 x.pos,.int .i64 t.stop,.string x.name,.bool x.method,.string rn,.int .i64 rp,.int .i64 rk,.int .i64 rq,.string rg,.string rm,.slice rz ra ra,.slice ob x.bounds.length cb,.slice of x.fields.length cf,.slice om x.methods.length cm,.bool x.has,.int .i64 tk,.int .i64 tp,.string tg,.string tn,.slice tz ta ta,.slice os x.body.length cs]) ?_ ?_ ?_
    ·exact boxRes 76 22 (sizeOfI infoD) Tryz.underlying76 Tryz.results86 _ w.heap.size rfl (XA2.out.row _) rfl
    ·rfl
    rw [← HB.out]
    refine ⟨_,rfl,?_,((Sv.out.set_ (a:=⟨(w.heap.size + 1),2,none⟩) (by simp only;omega) _).drew).row (by omega) _,setRow_kp ((Kv.out.setCell (p:=⟨(w.heap.size + 1),2,none⟩) (.inl (by simp only;omega)) _).drew) (.inl (by omega)) _⟩
    have hx:=monoD (B':=w.heap.size) (by omega) (stayD QD.out (setRow_ab ((Ab.refl _ _).setCell (p:=⟨(w.heap.size + 1),2,none⟩) (by simp only;omega) (.int .i64 t.stop)).drew (g:=w.heap.size) (by omega) #[.int .i64 x.kind,.int .i64 x.pos,.int .i64 t.stop,.string x.name,.bool x.method,.string rn,.int .i64 rp,.int .i64 rk,.int .i64 rq,.string rg,.string rm,.slice rz ra ra,.slice ob x.bounds.length cb,.slice of x.fields.length cf,.slice om x.methods.length cm,.bool x.has,.int .i64 tk,.int .i64 tp,.string tg,.string tn,.slice tz ta ta,.slice os x.body.length cs]))
    exact IsDX.shut hx t.stop
end
end Go.Proofs.YtfcgoainglpdlaaGreatDoor
namespace Go.Proofs.YtfcgoainglpdlaaGreatDoor
open Go.RowKit
open Go.Lib hiding intOf
def isFile (B:Nat) (w:World) (X:FX) (v:Value):Prop:=IsFX (fun q=>B≤q) w X v∧∀ (nm ps:Value) (oi:Option Addr) (ni ci:Nat) (od:Option Addr) (nd cd:Nat),v=.agg #[nm,ps,.slice oi ni ci,.slice od nd cd]→nd≤cd
theorem RowG.room {α:Type} {E:Elt α} {T:TypeId} {base:Nat} {w:World} {o:Option Addr} {n cap:Nat} {xs:List α} (h:RowG E T base w (.slice o n cap) xs):n≤cap:=by
 obtain ⟨cs,h1,_⟩:=h
 rcases h1.2 with ⟨h,h0⟩ | ⟨g,cap',cur,h,hbg,hg,hnc,_⟩
 ·injection h with _ h1 _
  omega
 ·injection h with _ h1 h2
  omega
def TelX (b:Nat) (w:World) (r:EO FX) (e:Ending) (w':World):Prop :=
 match r with
 |.ok X _=>∃ v,e=.returned v∧isFile w.heap.size w' X v∧Kp b w w'
 |.err p q=>e=.panicked (thrownF p q)∧Kp b w w'
 |.out=>True
theorem RowG.set {α:Type} {E:Elt α} {T:TypeId} {base:Nat} {w:World} {v:Value} {xs:List α} (h:RowG E T base w v xs) {p:Addr} (hp:p.block < base) (u:Value):RowG E T base (w.setCell p u) v xs :=
 h.kp (b:=p.block) ((Kp.refl _ _).setCell (.inr rfl) u) hp
theorem InRow.kpN {α:Type} {k:Nat} {one:α→Value→Prop} {P:Nat→Prop} {b:Nat} {w w':World} {o:Option Addr} {xs:List α} (h0:0 < k) (h:InRow k one P w o 0 xs) (hk:Kp b w w') (hb:¬ P b):InRow k one P w' o 0 xs :=
 h.keep (fun _ _ _ h _=>h) (fun q i _ hP hc=>(World.cell?_of_block (w:=w) (a:=⟨q,i,none⟩) (hk.block q (World.block_lt_of_cell? w ⟨q,i,none⟩ hc) (fun e=>hb (e ▸ hP)))).trans hc) (fun _ _ h=>h) h0
theorem InRow.belowN {α:Type} {k N:Nat} {one:α→Value→Prop} {P:Nat→Prop} {w w':World} {o:Option Addr} {xs:List α} (h0:0 < k) (h:InRow k one P w o 0 xs) (hb:Below N w w') (hP:∀ q,P q→q < N):InRow k one P w' o 0 xs :=
 h.keep (fun _ _ _ h _=>h) (fun q i _ hq hc=>(World.cell?_of_block (w:=w) (a:=⟨q,i,none⟩) (hb.block q (hP q hq))).trans hc) (fun _ _ h=>h) h0
theorem run_field0F (a b c:Int) (t:ByteArray) (w:World):(Instr.field 81 (.agg #[.int .i64 a,.int .i64 b,.int .i64 c,.string t]) 0).run Tryz.prog w=.ok (.int .i64 a) w:=by
 simp [Instr.field,go_sem,part,asAgg]
theorem dcl_in {l:List TZ} {F fb f:Nat} {i:Int} {x:DX} {q:Int} (h:dcl l F fb f i=.ok x q):i < q∧q≤(l.length:Nat):=by
 have h1:=dcl_rng h
 have h2:=isS_real (dcl_at h).last
 omega
section
variable {b c:Nat} {o:Option Addr} {l:List TZ} {i:Int} {w:World}
theorem fileF (F fb f:Nat) (hF:fuel l≤F) (S:FS b o c l 0 w) (hn:l.length≤1073741824) (hf:Fits l) (hr:fil l F fb f≠.out) :
  Calls Tryz.prog 56 #[.pointer (some ⟨b,0,none⟩)] w (TelX b w (fil l F fb f)):=by
 have hbl:=S.lt
 have HNM:=Lib.hid (fun (W:World) (j:Int) (h:FS b o c l j W)=>nameF h hn hf)
 have HWO:=Lib.hid (fun (W:World) (j:Int) (s:List UInt8) (h:FS b o c l j W)=>wordF h hn s)
 have HSY:=Lib.hid (fun (W:World) (j:Int) (z:UInt8) (h:FS b o c l j W)=>symF h hn z)
 have HSW:=Lib.hid (fun (W:World) (j:Int) (s:List UInt8) (h:FS b o c l j W)=>seesWF h hn s)
 have HPK:=Lib.hid (fun (W:World) (j:Int) (h:FS b o c l j W)=>peekF h (by omega))
 have HIM:=Lib.hid (fun (W:World) (j:Int) (h:FS b o c l j W) (hr:(thn (wo l wImport j) fun _ j=>impw l j)≠.out)=>importedF h hn hf hr)
 have HDC:=Lib.hid (fun (W:World) (j:Int) (h:FS b o c l j W) (hr:dcl l F fb f j≠.out)=>declaredF F fb f hF h hn hf hr)
 have HN:=Lib.hid hn
 obtain ⟨R,hR⟩:∃ R,(thn (wo l wPackage 0) fun _ j=>thn (na l j) fun n j=>thn (sy l 59 j) fun _ j=>thn (imps l f j) fun is j=>thn (dcls l F fb f f j) fun ds q=>EO.ok (⟨n.1,n.2,is,ds⟩:FX) q)=R:=⟨_,rfl⟩
 change (thn (wo l wPackage 0) fun _ j=>thn (na l j) fun n j=>thn (sy l 59 j) fun _ j=>thn (imps l f j) fun is j=>thn (dcls l F fb f f j) fun ds q=>EO.ok (⟨n.1,n.2,is,ds⟩:FX) q)≠.out at hr
 change Calls _ _ _ _ (TelX b w (thn (wo l wPackage 0) fun _ j=>thn (na l j) fun n j=>thn (sy l 59 j) fun _ j=>thn (imps l f j) fun is j=>thn (dcls l F fb f f j) fun ds q=>EO.ok (⟨n.1,n.2,is,ds⟩:FX) q))
 rw [hR] at hr ⊢
 have HR:=Lib.hid hR
 have HRO:=Lib.hid hr
 have S0:=Lib.hid (S.alloc (.cells #[.string ⟨#[]⟩,.int .i64 0,.slice none 0 0,.slice none 0 0] 42))
 have K0:=Lib.hid ((Kp.refl b w).alloc (.cells #[.string ⟨#[]⟩,.int .i64 0,.slice none 0 0,.slice none 0 0] 42))
 have XA0:Hid (Blk (w.alloc (.cells #[.string ⟨#[]⟩,.int .i64 0,.slice none 0 0,.slice none 0 0] 42)) w.heap.size 42 #[.string ⟨#[]⟩,.int .i64 0,.slice none 0 0,.slice none 0 0]):=(Blk.new w 42 #[.string ⟨#[]⟩,.int .i64 0,.slice none 0 0,.slice none 0 0])
 have wxA:w.heap.size≤w.heap.size:=by omega
 have bxA:b < w.heap.size:=by omega
 clear S hn hf hr hR
 go_enter Tryz.func56,Tryz.ntmps56
 go_wp2_with fail
 refine (HWO.out _ _ wPackage S0.out).mono ?_
 rintro e w1 hT
 cases hq:wo l wPackage 0 with
 |out=>exact (HRO.out (by have h:=HR.out;rw [hq] at h;exact h.symm)).elim
 |err p q =>
  rw [hq] at hT
  obtain ⟨rfl,hK⟩:=hT
  have KE:=Lib.hid (K0.out.trans hK)
  have HB:Hid (EO.err p q=R):=by have h:=HR.out;rw [hq] at h;exact h
  clear hq hK
  go_wp2
  refine ⟨rfl,?_⟩
  rw [← HB.out]
  exact ⟨rfl,KE.out⟩
 |ok y0 j =>
  rw [hq] at hT
  obtain ⟨v,rfl,hv,hS,hK⟩:=hT
  have HR:Hid ((thn (na l j) fun n j=>thn (sy l 59 j) fun _ j=>thn (imps l f j) fun is j=>thn (dcls l F fb f f j) fun ds q=>EO.ok (⟨n.1,n.2,is,ds⟩:FX) q)=R):=by have h:=HR.out;rw [hq] at h;exact h
  obtain rfl:v=.tuple #[]:=hv
  have S1:=Lib.hid hS
  have K1:=Lib.hid (K0.out.trans hK)
  have hb1:=hS.lt
  have XA1:=Lib.hid (XA0.out.kp hK (by omega))
  have lA1:=XA1.out.lt
  clear hS hK hq
  have XB0:=Lib.hid (Blk.new w1 42 #[.string ⟨#[]⟩,.int .i64 0,.slice none 0 0,.slice none 0 0])
  have wxB:w.heap.size≤w1.heap.size:=K1.out.size
  have bxB:b < w1.heap.size:=hb1
  have oAB:w.heap.size < w1.heap.size:=lA1
  have S1a:=Lib.hid (S1.out.alloc (.cells #[.string ⟨#[]⟩,.int .i64 0,.slice none 0 0,.slice none 0 0] 42))
  have K1a:=Lib.hid (K1.out.alloc (.cells #[.string ⟨#[]⟩,.int .i64 0,.slice none 0 0,.slice none 0 0] 42))
  have XA1a:=Lib.hid (XA1.out.alloc (.cells #[.string ⟨#[]⟩,.int .i64 0,.slice none 0 0,.slice none 0 0] 42))
  go_wp2_with fail
  refine (HNM.out _ _ S1a.out).mono ?_
  rintro e w2 hT
  cases hq:na l j with
  |out=>exact (HRO.out (by have h:=HR.out;rw [hq] at h;exact h.symm)).elim
  |err p q =>
   rw [hq] at hT
   obtain ⟨rfl,hK⟩:=hT
   have KE:=Lib.hid (K1a.out.trans hK)
   have HB:Hid (EO.err p q=R):=by have h:=HR.out;rw [hq] at h;exact h
   clear hq hK
   go_wp2
   refine ⟨rfl,?_⟩
   rw [← HB.out]
   exact ⟨rfl,KE.out⟩
  |ok n j =>
   rw [hq] at hT
   obtain ⟨v,rfl,hv,hS,hK⟩:=hT
   have HR:Hid ((thn (sy l 59 j) fun _ j=>thn (imps l f j) fun is j=>thn (dcls l F fb f f j) fun ds q=>EO.ok (⟨n.1,n.2,is,ds⟩:FX) q)=R):=by have h:=HR.out;rw [hq] at h;exact h
   obtain rfl:v=.tuple #[.string n.1,.int .i64 n.2]:=hv
   have S2:=Lib.hid hS
   have K2:=Lib.hid (K1a.out.trans hK)
   have hb2:=hS.lt
   have XA2:=Lib.hid (XA1a.out.kp hK (by omega))
   have lA2:=XA2.out.lt
   have XB2:=Lib.hid (XB0.out.kp hK (by omega))
   have lB2:=XB2.out.lt
   clear hS hK hq
   have cX:=XB2.out.cell
   have fX:=XB2.out.frozen
   have lX:=XB2.out.lt
   have Ss1:=Lib.hid (S2.out.set_ (a:=⟨w1.heap.size,0,none⟩) (by simp only;omega) (.string n.1))
   have Ks1:=Lib.hid (K2.out.setCell (p:=⟨w1.heap.size,0,none⟩) (.inl (by simp only;omega)) (.string n.1))
   have XBs1:Hid (Blk _ w1.heap.size 42 #[.string n.1,.int .i64 0,.slice none 0 0,.slice none 0 0]):=XB2.out.setL 0 (.string n.1)
   have XAs1:=Lib.hid (XA2.out.far (p:=⟨w1.heap.size,0,none⟩) (by simp only;omega) (.string n.1))
   have Ss2:=Lib.hid (Ss1.out.set_ (a:=⟨w1.heap.size,1,none⟩) (by simp only;omega) (.int .i64 n.2))
   have Ks2:=Lib.hid (Ks1.out.setCell (p:=⟨w1.heap.size,1,none⟩) (.inl (by simp only;omega)) (.int .i64 n.2))
   have XBs2:Hid (Blk _ w1.heap.size 42 #[.string n.1,.int .i64 n.2,.slice none 0 0,.slice none 0 0]):=XBs1.out.setL 1 (.int .i64 n.2)
   have XAs2:=Lib.hid (XAs1.out.far (p:=⟨w1.heap.size,1,none⟩) (by simp only;omega) (.int .i64 n.2))
   go_wp2_with fail
   refine (HSY.out _ _ 59 Ss2.out).mono ?_
   rintro e w3 hT
   cases hq:sy l 59 j with
   |out=>exact (HRO.out (by have h:=HR.out;rw [hq] at h;exact h.symm)).elim
   |err p q =>
    rw [hq] at hT
    obtain ⟨rfl,hK⟩:=hT
    have KE:=Lib.hid (Ks2.out.trans hK)
    have HB:Hid (EO.err p q=R):=by have h:=HR.out;rw [hq] at h;exact h
    clear hq hK
    go_wp2
    refine ⟨rfl,?_⟩
    rw [← HB.out]
    exact ⟨rfl,KE.out⟩
   |ok y1 j =>
    clear cX fX lX
    rw [hq] at hT
    obtain ⟨v,rfl,hv,hS,hK⟩:=hT
    have HR:Hid ((thn (imps l f j) fun is j=>thn (dcls l F fb f f j) fun ds q=>EO.ok (⟨n.1,n.2,is,ds⟩:FX) q)=R):=by have h:=HR.out;rw [hq] at h;exact h
    obtain rfl:v=.tuple #[]:=hv
    have S3:=Lib.hid hS
    have K3:=Lib.hid (Ks2.out.trans hK)
    have hb3:=hS.lt
    have XA3:=Lib.hid (XAs2.out.kp hK (by omega))
    have lA3:=XA3.out.lt
    have XB3:=Lib.hid (XBs2.out.kp hK (by omega))
    have lB3:=XB3.out.lt
    have HJS:Hid ((0:Int)≤j∧j≤(l.length:Nat)):=by have h:=sy_rng hq;show _∧_;omega
    clear hS hK hq
    have HJ3:Hid ((0:Int)≤j∧j≤(l.length:Nat)):=HJS.out
    have hgA:w.heap.size < w1.heap.size:=oAB
    obtain ⟨gB,hgB⟩:∃ gB,gB=w1.heap.size:=⟨_,rfl⟩
    have B3:Hid (Blk w3 gB 42 #[.string n.1,.int .i64 n.2,.slice none 0 0,.slice none 0 0]):=hgB ▸ XB3.out
    have hgB1:w.heap.size < gB:=by omega
    have hgB2:b < gB:=by omega
    have hgB3:gB < w3.heap.size:=B3.out.lt
    have A3:=Lib.hid XA3.out
    have S3:=Lib.hid S3.out
    have K3:=Lib.hid K3.out
    have HRI:=Lib.hid HR.out
    go_wp2_with fail
    rw [← hgB]
    clear hgB oAB bxA wxA wxB bxB
    go_loopg [] f (fun g wr=>∃ (ys:List (ByteArray × Int)) (j:Int) (o':Option Addr) (cap:Nat),Hid ((thn (preG ys (imps l g j)) fun is j=>thn (dcls l F fb f f j) fun ds q=>EO.ok (⟨n.1,n.2,is,ds⟩:FX) q)=R)∧Hid (RowG eltN 69 (gB + 1) wr (.slice o' ys.length cap) ys)∧Hid (FS b o c l j wr)∧Hid (Kp b w wr)∧Hid (Blk wr w.heap.size 42 #[.string ⟨#[]⟩,.int .i64 0,.slice none 0 0,.slice none 0 0])∧Hid (Blk wr gB 42 #[.string n.1,.int .i64 n.2,.slice o' ys.length cap,.slice none 0 0])∧g≤f∧Hid (((ys.length:Nat):Int)≤j∧j≤(l.length:Nat)))
    case atStart=>exact ⟨[],j,none,0,by show _=_;rw [preG_nil];exact HRI.out,RowG.nil _ _,S3,K3,A3,B3,Nat.le_refl _,HJ3⟩
    case round =>
     clear S3 K3 A3 B3 HRI HJ3 hgB3
     obtain ⟨ys,j,o',cap,HR,HV,HS,HK,HA,HB,hgf,HYJ⟩:=hrel
     obtain ⟨gg,rfl⟩:∃ gg,gk=gg + 1:=by
      cases gk with
      |zero=>exact (HRO.out (by have h:=HR.out;rw [imps] at h;exact h.symm)).elim
      |succ q=>exact ⟨q,rfl⟩
     have HS2:=Lib.hid (HSW.out _ j wImport HS.out)
     cases hz:isW (tkAt l j) wImport
     ·rw [hz] at HS2
      have HR2:Hid ((thn (dcls l F fb f f j) fun ds q=>EO.ok (⟨n.1,n.2,ys,ds⟩:FX) q)=R):=by have h:=HR.out;rw [imps_stop hz,preG_stop] at h;exact h
      clear hz HR
      go_wp2_with fail
      refine HS2.out.mono ?_
      rintro e w4 ⟨rfl,hB⟩
      have S4:=Lib.hid (HS.out.step hB)
      have K4:=Lib.hid (HK.out.then_below hB)
      have A4:=Lib.hid (HA.out.below hB)
      have B4:=Lib.hid (HB.out.below hB)
      have V4:=Lib.hid (HV.out.below hB)
      obtain ⟨oi,ci,hve,hrow⟩:=V4.out.row
      injection hve with he1 _ he3
      subst he1 he3
      obtain ⟨N,hN⟩:∃ N,N=w4.heap.size:=⟨_,rfl⟩
      have HI4:Hid (InRow 2 IsNX (fun q=>gB + 1≤q∧q < N) w4 o' 0 ys):=InRow.keep (P:=fun q=>gB + 1≤q) (fun q i u hq hc=>⟨hq,by rw [hN];exact World.block_lt_of_cell? w4 ⟨q,i,none⟩ hc⟩) (fun _ _ _ _ hc=>hc) (fun _ _ h=>h) (by decide) hrow
      have hN1:gB < N:=by rw [hN];exact B4.out.lt
      have hN2:N≤w4.heap.size:=by omega
      clear hB HS2 HV V4 hrow HS HK HA HB hN
      go_wp2_with fail
      go_loopg [] f (fun g wr=>∃ (xs:List DX) (j:Int) (o2:Option Addr) (cap2:Nat),Hid ((thn (preG xs (dcls l F fb f g j)) fun ds q=>EO.ok (⟨n.1,n.2,ys,ds⟩:FX) q)=R)∧Hid (RowG eltD 76 N wr (.slice o2 xs.length cap2) xs)∧Hid (FS b o c l j wr)∧Hid (Kp b w wr)∧Hid (Blk wr w.heap.size 42 #[.string ⟨#[]⟩,.int .i64 0,.slice none 0 0,.slice none 0 0])∧Hid (Blk wr gB 42 #[.string n.1,.int .i64 n.2,.slice o' ys.length cap,.slice o2 xs.length cap2])∧Hid (InRow 2 IsNX (fun q=>gB + 1≤q∧q < N) wr o' 0 ys)∧N≤wr.heap.size∧g≤f∧Hid (((xs.length:Nat):Int)≤j∧j≤(l.length:Nat) + 1))
      case atStart=>exact ⟨[],j,none,0,by show _=_;rw [preG_nil];exact HR2.out,RowG.nil _ _,S4,K4,A4,B4,HI4,hN2,Nat.le_refl _,Lib.hid ⟨by have:=HYJ.out;simp only [List.length_nil];omega,by have:=HYJ.out;omega⟩⟩
      case round =>
       clear S4 K4 A4 B4 HI4 HR2 hN2 HYJ
       obtain ⟨xs,j,o2,cap2,HR,HV,HS,HK,HA,HB,HI,hNr,hgf,HYJ⟩:=hrel
       obtain ⟨gg,rfl⟩:∃ gg,gk=gg + 1:=by
        cases gk with
        |zero=>exact (HRO.out (by have h:=HR.out;rw [dcls] at h;exact h.symm)).elim
        |succ q=>exact ⟨q,rfl⟩
       have HP2:=Lib.hid (HPK.out _ j HS.out)
       have hfield:=run_field0F
       by_cases hk:(tkAt l j).kind=0
       ·have e1:((tkAt l j).kind != 0)=false:=by simpa using hk
        have HE:Hid (EO.ok (⟨n.1,n.2,ys,xs⟩:FX) (j + 1)=R):=by have h:=HR.out;rw [dcls_stop hk,preG_stop] at h;exact h
        clear hk HR
        go_wp2_with fail
        refine HP2.out.mono ?_
        rintro e w6 ⟨rfl,hB⟩
        have K6:=Lib.hid (HK.out.then_below hB)
        have A6:=Lib.hid (HA.out.below hB)
        have B6:=Lib.hid (HB.out.below hB)
        have V6:=Lib.hid (HV.out.below hB)
        have I6:=Lib.hid (HI.out.belowN (by decide) (hB.mono hNr) (fun q h=>h.2))
        clear hB HP2
        go_wp2_with (first | (refine boxLoad 42 4 (sizeOfI infoF) Tryz.underlying42 rfl _ rfl gB rfl B6.out rfl ?_) | (refine boxStore 42 4 (sizeOfI infoF) rfl _ _ rfl w.heap.size rfl _ rfl A6.out rfl rfl rfl ?_))
        refine bodyPost_ret (v:=.agg #[.string n.1,.int .i64 n.2,.slice o' ys.length cap,.slice o2 xs.length cap2]) ?_ ?_ ?_
        ·exact boxRes 42 4 (sizeOfI infoF) Tryz.underlying42 Tryz.results56 _ w.heap.size rfl (A6.out.row _) rfl
        ·rfl
        rw [← HE.out]
        obtain ⟨o3,c3,hve,hrow⟩:=V6.out.row
        injection hve with he1 _ he3
        subst he1 he3
        have hab:=setRow_ab (Ab.refl (w.heap.size + 1) w6) (g:=w.heap.size) (Nat.lt_succ_self _) #[.string n.1,.int .i64 n.2,.slice o' ys.length cap,.slice o2 xs.length cap2]
        refine ⟨_,rfl,⟨⟨_,_,_,_,rfl,?_,?_⟩,fun nm ps oi ni ci od nd cd he=>?_⟩,setRow_kp K6.out (.inl (Nat.le_refl _)) _⟩
        ·exact I6.out.keep (fun _ _ _ h _=>by have:=h.1;show w.heap.size≤_;omega) (fun q i u h hc=>hab.cell (by have:=h.1;omega) hc) (fun _ _ h=>h) (by decide)
        ·exact monoR (E:=eltD) (B:=w.heap.size + 1) (by omega) (stayR (E:=eltD) (monoR (E:=eltD) (by omega) hrow) hab)
        ·have hroom:=V6.out.room
         simp only [Value.agg.injEq,Array.mk.injEq,List.cons.injEq,Value.slice.injEq,and_true] at he
         omega
       ·have e1:((tkAt l j).kind != 0)=true:=by simpa using hk
        have hb:=HR.out
        rw [dcls_step hk] at hb
        have HR2:=Lib.hid hb
        clear hk hb HR
        go_wp2_with fail
        refine HP2.out.mono ?_
        rintro e w6 ⟨rfl,hB⟩
        have S6:=Lib.hid (HS.out.step hB)
        have K6:=Lib.hid (HK.out.then_below hB)
        have A6:=Lib.hid (HA.out.below hB)
        have B6:=Lib.hid (HB.out.below hB)
        have V6:=Lib.hid (HV.out.below hB)
        have I6:=Lib.hid (HI.out.belowN (by decide) (hB.mono hNr) (fun q h=>h.2))
        have hN6:N≤w6.heap.size:=Nat.le_trans hNr hB.size
        have OL:=Lib.hid V6.out.own_lt
        clear hB HP2 HV HS HK HA HB HI hNr
        cases hq:dcl l F fb f j with
        |out=>exact (HRO.out (by have h:=HR2.out;rw [hq] at h;exact h.symm)).elim
        |err p q =>
         have HC:=Lib.hid (fun (W:World) (h:FS b o c l j W)=>by have h:=HDC.out W j h (by rw [hq];simp);rw [hq] at h;exact h)
         have HE:Hid (EO.err p q=R):=by have h:=HR2.out;rw [hq] at h;exact h
         have c6:=B6.out.cell
         have l6:=B6.out.lt
         clear hq
         go_wp2_with fail
         go_region_dies
         all_goals
          refine (HC.out _ S6.out.drew).mono ?_
          rintro e w7 ⟨rfl,hK⟩
          have K7:=Lib.hid (K6.out.trans hK.undrew)
          clear hK
          go_wp2
          refine ⟨rfl,?_⟩
          rw [← HE.out]
          exact ⟨rfl,K7.out⟩
        |ok x q =>
         have HC:=Lib.hid (fun (W:World) (h:FS b o c l j W)=>by have h:=HDC.out W j h (by rw [hq];simp);rw [hq] at h;exact h)
         have hrng:=dcl_in hq
         have HE:Hid ((thn (preG (xs++[x]) (dcls l F fb f gg q)) fun ds q=>EO.ok (⟨n.1,n.2,ys,ds⟩:FX) q)=R):=by have h:=HR2.out;rw [hq] at h;show _=_;rw [← preG_snoc];exact h
         have HQ:=Lib.hid hrng
         have c6:=B6.out.cell
         have l6:=B6.out.lt
         have HLB:Hid (xs.length + 1≤1073741825):=by
          have h1:=HQ.out
          have h2:=HYJ.out
          have h3:=HN.out
          show xs.length + 1≤1073741825
          omega
         clear hq hrng HR2
         go_wp2_with fail
         go_region_law (first | (refine step_append rfl _ _ 40 rfl _ _ rfl rfl _ _ HRUN.out ?_) | (go_simp;go_wp2_with (go_at_call 86;refine (HC.out _ S6.out.drew).mono ?_;rintro e w7 ⟨v,rfl,hv,hS,hK⟩;obtain ⟨rn,rp,rk,rq,rg,rm,rz,ra,ob,cb,of,cf,om,cm,tk,tp,tg,tn,tz,ta,os,cs,rfl,hy⟩:=hv;have HK7:Hid (Kp b w6 w7):=hK.undrew;have hX7:=B6.out.kp HK7.out (by omega);have hsz7:=HK7.out.size;obtain ⟨v8,w8,hrun,hrow,hbel⟩:=RowG.append (E:=eltD) (T:=76) Tryz.underlying40 infoDb rfl (by decide) N 40 w7 (.slice o2 xs.length cap2) xs (V6.out.kp HK7.out (by omega)) w6.heap.size hN6 OL.out x [.int .i64 x.kind,.int .i64 x.pos,.int .i64 x.stop,.string x.name,.bool x.method,.string rn,.int .i64 rp,.int .i64 rk,.int .i64 rq,.string rg,.string rm,.slice rz ra ra,.slice ob x.bounds.length cb,.slice of x.fields.length cf,.slice om x.methods.length cm,.bool x.has,.int .i64 tk,.int .i64 tp,.string tg,.string tn,.slice tz ta ta,.slice os x.body.length cs] rfl rfl ⟨_,_,_,_,_,_,_,_,_,_,_,_,_,_,_,_,_,_,_,_,_,_,rfl,hy⟩ hsz7 HLB.out;obtain ⟨o3,cap3,rfl⟩:=hrow.slice;have HRUN:=Lib.hid hrun;have hX8:Blk w8 gB 42 _:=(hbel.block gB (by omega)).trans (hX7.alloc _);have A8:Hid (Blk w8 w.heap.size 42 #[.string ⟨#[]⟩,.int .i64 0,.slice none 0 0,.slice none 0 0]):=(hbel.block _ (by omega)).trans ((A6.out.kp HK7.out (by omega)).alloc _);have S8:=Lib.hid ((hS.alloc _).under (hbel.mono (by omega)));have K8:=Lib.hid (((K6.out.trans HK7.out).alloc _).then_base (hbel.mono (by omega)));have V8:=Lib.hid hrow;have I8:=Lib.hid (((I6.out.kpN (by decide) HK7.out (fun h=>by have:=h.1;omega)).belowN (by decide) ((Below.refl N _).alloc (by omega) _) (fun q h=>h.2)).belowN (by decide) hbel (fun q h=>h.2));have hN8:N≤w8.heap.size:=(by have:=hbel.size;simp at this;omega);have c7:=hX7.cell;have l7:=hX7.lt;have c8:=hX8.cell;have f8:=hX8.frozen;have HX8:=Lib.hid hX8;clear hK hS hrun hrow hbel hX7 hX8 hy)))
         all_goals
          go_wp2
          go_roundg gg
          case measure=>omega
          case rel =>
           have e8:(xs++[x]).length=xs.length + 1:=by rw [List.length_append];rfl
           refine ⟨xs++[x],q,o3,cap3,HE,V8.out.set (p:=⟨gB,3,none⟩) hN1 _,S8.out.set_ (a:=⟨gB,3,none⟩) hgB2 _,K8.out.setCell (p:=⟨gB,3,none⟩) (.inl (by simp only;omega)) _,A8.out.far (p:=⟨gB,3,none⟩) (by simp only;omega) _,(by rw [e8];exact HX8.out.setL 3 (.slice o3 (xs.length + 1) cap3)),I8.out.kpN (by decide) ((Kp.refl gB _).setCell (.inr rfl) _) (fun h=>by have:=h.1;omega),by simp [World.setCell];omega,by omega,Lib.hid ⟨by have h1:=HQ.out;have h2:=HYJ.out;rw [e8];omega,by have h1:=HQ.out;omega⟩⟩
     ·rw [hz] at HS2
      have hb:=HR.out
      rw [imps_step hz] at hb
      have HR2:=Lib.hid hb
      have hwo:=wo_yes hz
      go_wp2_with fail
      refine HS2.out.mono ?_
      rintro e w4 ⟨rfl,hB⟩
      have S4:=Lib.hid (HS.out.step hB)
      have K4:=Lib.hid (HK.out.then_below hB)
      have A4:=Lib.hid (HA.out.below hB)
      have B4:=Lib.hid (HB.out.below hB)
      have V4:=Lib.hid (HV.out.below hB)
      have OL:=Lib.hid V4.out.own_lt
      clear hB HS2 HV HS HK HA HB hz hb
      cases hq:impw l (j + 1) with
      |out=>exact (HRO.out (by have h:=HR2.out;rw [hq] at h;exact h.symm)).elim
      |err p q =>
       have HC:=Lib.hid (fun (W:World) (h:FS b o c l j W)=>by have h:=HIM.out W j h (by rw [hwo];show impw l (j + 1)≠.out;rw [hq];simp);rw [hwo] at h;change Calls _ _ _ _ (TelF b o c l _ W (impw l (j + 1))) at h;rw [hq] at h;exact h)
       have HE:Hid (EO.err p q=R):=by have h:=HR2.out;rw [hq] at h;exact h
       have c6:=B4.out.cell
       have l6:=B4.out.lt
       clear hq hwo
       go_wp2_with fail
       go_region_dies
       all_goals
        refine (HC.out _ S4.out.drew).mono ?_
        rintro e w7 ⟨rfl,hK⟩
        have K7:=Lib.hid (K4.out.trans hK.undrew)
        clear hK
        go_wp2
        refine ⟨rfl,?_⟩
        rw [← HE.out]
        exact ⟨rfl,K7.out⟩
      |ok x q =>
       have HC:=Lib.hid (fun (W:World) (h:FS b o c l j W)=>by have h:=HIM.out W j h (by rw [hwo];show impw l (j + 1)≠.out;rw [hq];simp);rw [hwo] at h;change Calls _ _ _ _ (TelF b o c l _ W (impw l (j + 1))) at h;rw [hq] at h;exact h)
       have hrng:=impw_rng hq
       have HE:Hid ((thn (preG (ys++[x]) (imps l gg q)) fun is j=>thn (dcls l F fb f f j) fun ds q=>EO.ok (⟨n.1,n.2,is,ds⟩:FX) q)=R):=by have h:=HR2.out;rw [hq] at h;show _=_;rw [← preG_snoc];exact h
       have HQ:=Lib.hid hrng
       have c6:=B4.out.cell
       have l6:=B4.out.lt
       have HLB:Hid (ys.length + 1≤1073741825):=by
        have h1:=HQ.out
        have h2:=HYJ.out
        have h3:=HN.out
        show ys.length + 1≤1073741825
        omega
       clear hq hrng HR2 hwo HR
       go_wp2_with fail
       go_region_law (first | (refine step_append rfl _ _ 39 rfl _ _ rfl rfl _ _ HRUN.out ?_) | (go_simp;go_wp2_with (go_at_call 84;refine (HC.out _ S4.out.drew).mono ?_;rintro e w7 ⟨v,rfl,hv,hS,hK⟩;obtain rfl:v=.agg #[.string x.1,.int .i64 x.2]:=hv;have HK7:Hid (Kp b w4 w7):=hK.undrew;have hX7:=B4.out.kp HK7.out (by omega);have hsz7:=HK7.out.size;obtain ⟨v8,w8,hrun,hrow,hbel⟩:=RowG.append (E:=eltN) (T:=69) Tryz.underlying39 infoNb rfl (by decide) (gB + 1) 39 w7 (.slice o' ys.length cap) ys (V4.out.kp HK7.out (by omega)) w4.heap.size (by omega) OL.out x [.string x.1,.int .i64 x.2] rfl rfl rfl hsz7 HLB.out;obtain ⟨o3,cap3,rfl⟩:=hrow.slice;have HRUN:=Lib.hid hrun;have hX8:Blk w8 gB 42 _:=(hbel.block gB (by omega)).trans (hX7.alloc _);have A8:Hid (Blk w8 w.heap.size 42 #[.string ⟨#[]⟩,.int .i64 0,.slice none 0 0,.slice none 0 0]):=(hbel.block _ (by omega)).trans ((A4.out.kp HK7.out (by omega)).alloc _);have S8:=Lib.hid ((hS.alloc _).under (hbel.mono (by omega)));have K8:=Lib.hid (((K4.out.trans HK7.out).alloc _).then_base (hbel.mono (by omega)));have V8:=Lib.hid hrow;have c7:=hX7.cell;have l7:=hX7.lt;have c8:=hX8.cell;have f8:=hX8.frozen;have HX8:=Lib.hid hX8;clear hK hS hrun hrow hbel hX7 hX8)))
       all_goals
        go_wp2
        go_roundg gg
        case measure=>omega
        case rel =>
         have e8:(ys++[x]).length=ys.length + 1:=by rw [List.length_append];rfl
         refine ⟨ys++[x],q,o3,cap3,HE,V8.out.set (p:=⟨gB,2,none⟩) (Nat.lt_succ_self _) _,S8.out.set_ (a:=⟨gB,2,none⟩) hgB2 _,K8.out.setCell (p:=⟨gB,2,none⟩) (.inl (by simp only;omega)) _,A8.out.far (p:=⟨gB,2,none⟩) (by simp only;omega) _,(by rw [e8];exact HX8.out.setL 2 (.slice o3 (ys.length + 1) cap3)),by omega,Lib.hid ⟨by have h1:=HQ.out;have h2:=HYJ.out;rw [e8];omega,HQ.out.2⟩⟩
end
end Go.Proofs.YtfcgoainglpdlaaGreatDoor
namespace Go.Proofs.YtfcgoainglpdlaaGreatDoor
open Go.RowKit
open Go.Lib hiding intOf
def retF (w:World) (p q:Nat) (x y:Int):World :=
 (((set2 (set4 w p (.string ⟨#[]⟩) (.int .i64 0) (.slice none 0 0) (.slice none 0 0)) q (.int .i64 x) (.int .i64 y)).alloc (.cells #[.int .i64 x,.int .i64 y] 103)).drew)
theorem blk_set4 {W:World} {r:Nat} {t:TypeId} {e0 e1 e2 e3:Value} (h:Blk W r t #[e0,e1,e2,e3]) (v0 v1 v2 v3:Value):Blk (set4 W r v0 v1 v2 v3) r t #[v0,v1,v2,v3]:=by
 have h:=(((h.set_ 0 v0).set_ 1 v1).set_ 2 v2).set_ 3 v3
 simp only [List.setIfInBounds_toArray,List.set_cons_zero,List.set_cons_succ] at h
 exact h
theorem blk_far4 {W:World} {k r:Nat} {t:TypeId} {cs:Array Value} (h:Blk W k t cs) (hr:k≠r) (v0 v1 v2 v3:Value):Blk (set4 W r v0 v1 v2 v3) k t cs :=
 (((h.far (p:=⟨r,0,none⟩) hr _).far (p:=⟨r,1,none⟩) hr _).far (p:=⟨r,2,none⟩) hr _).far (p:=⟨r,3,none⟩) hr _
theorem set4_size (W:World) (r:Nat) (v0 v1 v2 v3:Value):(set4 W r v0 v1 v2 v3).heap.size=W.heap.size:=by simp [set4,World.setCell]
theorem retFE {B p q:Nat} {x y:Int} {w:World} {v0 v1 v2 v3 s0 s1:Value} (h0:Blk w p 42 #[v0,v1,v2,v3]) (h1:Blk w q 44 #[s0,s1]) (hpq:p≠q) (hBp:B≤p) (hBq:B≤q) (hB:B≤w.heap.size) :
  Blk (retF w p q x y) p 42 #[.string ⟨#[]⟩,.int .i64 0,.slice none 0 0,.slice none 0 0]∧Blk (retF w p q x y) q 44 #[.int .i64 x,.int .i64 y]∧Below B w (retF w p q x y):=by
 unfold retF
 refine ⟨?_,?_,?_⟩
 ·exact blk_drew (Blk.alloc (blk_far2 (blk_set4 h0 _ _ _ _) hpq _ _) _)
 ·exact blk_drew (Blk.alloc (blk_set2 (blk_far4 h1 (fun e=>hpq e.symm) _ _ _ _) _ _) _)
 ·refine Below.drew (Below.alloc (set2_below (set4_below (Below.refl B w) hBp _ _ _ _) hBq _ _) ?_ _)
  rw [set2_size,set4_size]
  exact hB
theorem catch_idleF (p q:Addr) (w:World) :
  CallsD Tryz.prog 55 #[.pointer (some p),.pointer (some q)] .returning w fun e u' w'=>e=.returned (.tuple #[])∧u'=.returning∧w'=w:=by
 refine callsD_of_wpS Tryz.func55 rfl fun c₀ cs hu=>?_
 apply wpS_seq
 apply wpS_region
 simp [wpOpsS,go_sem,recoverD,hu,Tryz.ntmps55,Exit.thenS]
 apply wpS_seq
 apply wpS_seq
 apply wpS_region
 simp [wpOpsS,go_sem,Exit.thenS]
 refine wpS_cond (t:=true) (by simp [Act.eval,Array.replicate]) ?_
 simp only [if_true]
 refine wpS_of_wp (wp_ret ?_)
 cases c₀
 simp_all [bodyPostS,results,Tryz.results55,Exit.thenS]
theorem catch_faultF (B p q:Nat) (x y:Int) (w:World) {v0 v1 v2 v3 s0 s1:Value} (h0:Blk w p 42 #[v0,v1,v2,v3]) (h1:Blk w q 44 #[s0,s1]) (hpq:p≠q) (hBp:B≤p) (hBq:B≤q) :
  CallsD Tryz.prog 55 #[.pointer (some ⟨p,0,none⟩),.pointer (some ⟨q,0,none⟩)] (.panicking [{ v:=.iface 103 (.agg #[.int .i64 x,.int .i64 y]),recovered:=false }]) w fun e u' w'=>e=.returned (.tuple #[])∧u'=.panicking [{ v:=.iface 103 (.agg #[.int .i64 x,.int .i64 y]),recovered:=true }] ∧
   Blk w' p 42 #[.string ⟨#[]⟩,.int .i64 0,.slice none 0 0,.slice none 0 0]∧Blk w' q 44 #[.int .i64 x,.int .i64 y]∧Below B w w':=by
 have hta:∀ W:World,(Instr.typeAssert (.iface 103 (.agg #[.int .i64 x,.int .i64 y])) 20 103 true).run Tryz.prog W=.ok (.tuple #[.agg #[.int .i64 x,.int .i64 y],.bool true]) W:=fun W=>by kernel_rfl
 have hne:∀ W:World,(binOp BinOp.eql 20 (.iface 103 (.agg #[.int .i64 x,.int .i64 y])) .nilIface).run Tryz.prog W=.ok (.bool false) W:=fun W=>by kernel_rfl
 refine callsD_of_wpS Tryz.func55 rfl fun c₀ cs hu=>?_
 apply wpS_seq
 apply wpS_region
 simp [wpOpsS,go_sem,recoverD,hu,Tryz.ntmps55,Exit.thenS]
 refine wpS_of_wp (Code.wp_mono (Q:=fun e a' w'=>e=.normal∧a'.defers=[]∧Blk w' p 42 #[.string ⟨#[]⟩,.int .i64 0,.slice none 0 0,.slice none 0 0]∧Blk w' q 44 #[.int .i64 x,.int .i64 y]∧Below B w w') (fun e a' w' hq=>?_) ?_)
 ·obtain ⟨rfl,hd,hq⟩:=hq
  cases c₀
  simp_all [bodyPostS,results,Tryz.results55]
 ·have c0:=h0.cell
  have f0:=h0.frozen
  have c1:=h1.cell
  have f1:=h1.frozen
  have l0:=h0.lt
  have l1:=h1.lt
  have H0:=Lib.hid h0
  have H1:=Lib.hid h1
  clear h0 h1
  simp only [Array.replicate_succ,Array.replicate_zero,List.push_toArray,List.nil_append,List.cons_append,List.append_toArray,List.setIfInBounds_toArray,List.set_cons_zero,List.set_cons_succ]
  go_wp2
  go_region
  all_goals
   obtain ⟨e1,e2,e3⟩:=retFE (x:=x) (y:=y) H0.out H1.out hpq hBp hBq (by omega)
   exact ⟨rfl,rfl,e1,e2,e3⟩
def FParRes (B:Nat) (W:World) (r:EO FX) (v:Value):Prop :=
 match r with
 |.ok X _=>∃ vx,v=.tuple #[vx,.agg #[.int .i64 0,.int .i64 0]]∧isFile B W X vx
 |.err p q=>v=.tuple #[.agg #[.string ⟨#[]⟩,.int .i64 0,.slice none 0 0,.slice none 0 0],.agg #[.int .i64 p,.int .i64 q]]
 |.out=>True
theorem isFile.parts {B:Nat} {w:World} {X:FX} {v:Value} (h:isFile B w X v):∃ (oi:Option Addr) (ci:Nat) (od:Option Addr) (cd:Nat),v=.agg #[.string X.name,.int .i64 X.pos,.slice oi X.imports.length ci,.slice od X.decls.length cd]∧InRow 2 IsNX (fun q=>B≤q) w oi 0 X.imports∧InRow 22 (IsDX (fun q=>B≤q) w) (fun q=>B≤q) w od 0 X.decls:=h.1
theorem isFile.ab {B B':Nat} {w w':World} {X:FX} {v:Value} (h:isFile B w X v) (hB:B'≤B) (hk:∀ k,B≤k→k < w.heap.size→w'.heap[k]?=w.heap[k]?):isFile B' w' X v :=
 ⟨IsFX.keep (P:=fun q=>B≤q) (fun _ _ _ h _=>Nat.le_trans hB h) (fun b i _ hb hc=>(World.cell?_of_block (w:=w) (a:=⟨b,i,none⟩) (hk b hb (World.block_lt_of_cell? w ⟨b,i,none⟩ hc))).trans hc) h.1,h.2⟩
section
variable {o:Option Addr} {c:Nat} {l:List TZ}
theorem FS.start {w w1:World} (h:ZAt w o l) (hB:Below w.heap.size w w1) :
  FS w1.heap.size o c l 0 (w1.alloc (.cells #[.slice o l.length c,.int .i64 0] 106)):=by
 refine ⟨Blk.new _ _ _,fun k t ht=>?_,fun hl a ha=>Nat.lt_of_lt_of_le (h.old hl a ha) hB.size,Int.le_refl _⟩
 obtain ⟨a,ha,hc⟩:=h k t ht
 refine ⟨a,ha,fun j u hu=>?_⟩
 have h1:=(hB.cell (World.block_lt_of_cell? _ _ (hc j u hu))).trans (hc j u hu)
 exact (((Below.refl _ _).alloc (Nat.le_refl _) _).cell (World.block_lt_of_cell? _ _ h1)).trans h1
theorem parseF_any (w:World) (h:ZAt w o l) (hn:l.length≤1073741824) (hf:Fits l) (F fb f:Nat) (hF:fuel l≤F) (hr:fil l F fb f≠.out) :
  Calls Tryz.prog 35 #[.slice o l.length c] w fun e w'=>∃ v,e=.returned v∧FParRes w.heap.size w' (fil l F fb f) v∧Below w.heap.size w w':=by
 have hmf:∀ (fn:Fn) (first cap:Array Value) (w:World),(Instr.makeFunc fn first cap).run Tryz.prog w=.ok (.func fn first cap) w:=fun _ _ _ _=>rfl
 have HB0:=Lib.hid (((Below.refl w.heap.size w).alloc (Nat.le_refl _) (.cells #[.string ⟨#[]⟩,.int .i64 0,.slice none 0 0,.slice none 0 0] 42)).alloc (by simp) (.cells #[.int .i64 0,.int .i64 0] 44))
 have HX0:=Lib.hid ((Blk.new w 42 #[.string ⟨#[]⟩,.int .i64 0,.slice none 0 0,.slice none 0 0]).alloc (.cells #[.int .i64 0,.int .i64 0] 44))
 have HG0:Hid (Blk ((w.alloc (.cells #[.string ⟨#[]⟩,.int .i64 0,.slice none 0 0,.slice none 0 0] 42)).alloc (.cells #[.int .i64 0,.int .i64 0] 44)) (w.heap.size + 1) 44 #[.int .i64 0,.int .i64 0]):=by
  have:=Blk.new (w.alloc (.cells #[.string ⟨#[]⟩,.int .i64 0,.slice none 0 0,.slice none 0 0] 42)) 44 #[.int .i64 0,.int .i64 0]
  show Blk _ _ _ _
  rwa [World.size_alloc] at this
 have S1:Hid (FS (w.heap.size + 1 + 1) o c l 0 (((w.alloc (.cells #[.string ⟨#[]⟩,.int .i64 0,.slice none 0 0,.slice none 0 0] 42)).alloc (.cells #[.int .i64 0,.int .i64 0] 44)).alloc (.cells #[.slice o l.length c,.int .i64 0] 106))):=by
  have:=FS.start (c:=c) h HB0.out
  show FS _ _ _ _ _ _
  rwa [World.size_alloc,World.size_alloc] at this
 have HC:=Lib.hid (fileF F fb f hF S1.out hn hf hr)
 clear h hn hf
 cases hq:fil l F fb f with
 |out=>exact (hr hq).elim
 |err p q =>
  rw [hq] at HC
  clear hq hr
  go_enter_defers Tryz.func35,Tryz.ntmps35
  go_wp2_with fail
  refine HC.out.mono ?_
  rintro e w2 ⟨rfl,hK⟩
  have hx2:=(HX0.out.alloc (.cells #[.slice o l.length c,.int .i64 0] 106)).kp hK (by omega)
  have hg2:=(HG0.out.alloc (.cells #[.slice o l.length c,.int .i64 0] 106)).kp hK (by omega)
  have B2:=Lib.hid ((HB0.out.alloc HB0.out.size (.cells #[.slice o l.length c,.int .i64 0] 106)).trans ((hK.below (by simp)).mono (by omega)))
  have X2:=Lib.hid hx2
  have G2:=Lib.hid hg2
  clear hK hx2 hg2
  go_wp2
  unfold thrownF
  refine leaves_cons (f:=55) (args:=#[.pointer (some ⟨w.heap.size,0,none⟩),.pointer (some ⟨w.heap.size + 1,0,none⟩)]) (by simp) (by simp [go_sem]) ?_
  refine (catch_faultF w.heap.size w.heap.size (w.heap.size + 1) p q w2 X2.out G2.out (by omega) (Nat.le_refl _) (by omega)).mono ?_
  rintro e u' w3 ⟨rfl,rfl,hX,hG,hB⟩
  have c0:=hX.cell
  have c1:=hG.cell
  have B3:=Lib.hid (B2.out.trans hB)
  clear hX hG hB
  simp [Leaves,settle,results,Tryz.results35,go_sem,c0,c1]
  exact ⟨rfl,B3.out⟩
 |ok X j =>
  rw [hq] at HC
  clear hq hr
  go_enter_defers Tryz.func35,Tryz.ntmps35
  go_wp2_with fail
  refine HC.out.mono ?_
  rintro e w2 ⟨v,rfl,hx,hK⟩
  obtain ⟨oi,ci,od,cd,rfl,_⟩:=hx.parts
  have hx2:=(HX0.out.alloc (.cells #[.slice o l.length c,.int .i64 0] 106)).kp hK (by omega)
  have hg2:=(HG0.out.alloc (.cells #[.slice o l.length c,.int .i64 0] 106)).kp hK (by omega)
  have B2:=Lib.hid ((HB0.out.alloc HB0.out.size (.cells #[.slice o l.length c,.int .i64 0] 106)).trans ((hK.below (by simp)).mono (by omega)))
  have hz2:w.heap.size + 1 + 1 < w2.heap.size:=by have:=hK.size;simp at this;omega
  have c0:=hx2.cell
  have f0:=hx2.frozen
  have c1:=hg2.cell
  have f1:=hg2.frozen
  have l0:=hx2.lt
  have l1:=hg2.lt
  have HX:=Lib.hid hx
  have X3:=Lib.hid (blk_far2 (blk_set4 hx2 (.string X.name) (.int .i64 X.pos) (.slice oi X.imports.length ci) (.slice od X.decls.length cd)) (r:=w.heap.size + 1) (by omega) (.int .i64 0) (.int .i64 0))
  have G3:=Lib.hid (blk_set2 (blk_far4 hg2 (r:=w.heap.size) (by omega) (.string X.name) (.int .i64 X.pos) (.slice oi X.imports.length ci) (.slice od X.decls.length cd)) (.int .i64 0) (.int .i64 0))
  have B3:=Lib.hid (set2_below (set4_below B2.out (Nat.le_refl _) (.string X.name) (.int .i64 X.pos) (.slice oi X.imports.length ci) (.slice od X.decls.length cd)) (r:=w.heap.size + 1) (by omega) (.int .i64 0) (.int .i64 0))
  have A3:=Lib.hid ((((((((Ab.refl (w.heap.size + 1 + 1) w2).setCell (p:=⟨w.heap.size,0,none⟩) (by simp only;omega) (.string X.name)).setCell (p:=⟨w.heap.size,1,none⟩) (by simp only;omega) (.int .i64 X.pos)).setCell (p:=⟨w.heap.size,2,none⟩) (by simp only;omega) (.slice oi X.imports.length ci)).setCell (p:=⟨w.heap.size,3,none⟩) (by simp only;omega) (.slice od X.decls.length cd)).setCell (p:=⟨w.heap.size + 1,0,none⟩) (by simp only;omega) (.int .i64 0)).setCell (p:=⟨w.heap.size + 1,1,none⟩) (by simp only;omega) (.int .i64 0)))
  clear hK hx2 hg2 hx HX0 HG0 HB0 S1 HC B2
  go_wp2_with fail
  clear c0 f0 c1 f1
  refine leaves_cons (f:=55) (args:=#[.pointer (some ⟨w.heap.size,0,none⟩),.pointer (some ⟨w.heap.size + 1,0,none⟩)]) (by simp) (by simp [go_sem]) ?_
  refine (catch_idleF _ _ _).mono ?_
  rintro e u' w'' ⟨rfl,rfl,rfl⟩
  have c0:=X3.out.cell
  have c1:=G3.out.cell
  unfold set2 set4 at c0 c1
  simp [Leaves,settle,results,Tryz.results35,go_sem,c0,c1]
  exact ⟨⟨_,rfl,HX.out.ab (B':=w.heap.size) (by simp;omega) fun k h1 h2=>A3.out.keep k (by simp at h1;omega) h2⟩,B3.out⟩
end
end Go.Proofs.YtfcgoainglpdlaaGreatDoor
