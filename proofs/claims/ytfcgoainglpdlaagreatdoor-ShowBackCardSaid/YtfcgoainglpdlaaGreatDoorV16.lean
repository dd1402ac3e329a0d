/- What the parser's methods promise; the walks of 'level' and 'negated', out of what they call. Condition: the parser lies in memory as said. The walk of 'level', at levels with operators, out of what it calls. Condition: the parser lies in memory as said. The walk of 'negated', out of what it call .. -/
import Derived.Test.YtfcgoainglpdlaaGreatDoorV13
import Derived.Test.YtfcgoainglpdlaaGreatDoorV15
import Derived.Deep.LoopGhost
import Derived.RegionDies
import Derived.Deep.DeepCutAuto
import Derived.Laws.OwnMore
set_option maxRecDepth 20000
set_option maxHeartbeats 4000000
namespace Go.Proofs.YtfcgoainglpdlaaGreatDoor
open Go.RowKit
open Go.Lib hiding intOf
def Tel (b:Nat) (o:Option Addr) (c m:Nat) (l:List TZ) (d:Nat) (w:World) (r:EO EX) (e:Ending) (w':World):Prop :=
 match r with
 |.ok x j=>∃ v,e=.returned v∧IsEX w.heap.size w' x v∧PS b o c m l j d w'∧Kp b w w'
 |.err p q=>e=.panicked (thrown p q)∧Kp b w w'
 |.out=>True
def LevC (b:Nat) (o:Option Addr) (c m:Nat) (l:List TZ) (f:Nat):Prop :=
 ∀ (k:Nat) (kk:Int) (d:Nat) (i:Int) (w:World),kk=(k:Nat)→1≤k→k≤5→d≤30→PS b o c m l i d w→ex l f k d i≠.out →
  Calls Tryz.prog 44 #[.pointer (some ⟨b,0,none⟩),.int .i64 kk] w (Tel b o c m l d w (ex l f k d i))
def NegC (b:Nat) (o:Option Addr) (c m:Nat) (l:List TZ) (f:Nat):Prop :=
 ∀ (d:Nat) (i:Int) (w:World),d≤30→PS b o c m l i d w→una l f d i≠.out →
  Calls Tryz.prog 67 #[.pointer (some ⟨b,0,none⟩)] w (Tel b o c m l d w (una l f d i))
section
variable {b c m:Nat} {o:Option Addr} {l:List TZ}
def zeroE:Array Value:=#[.int .i64 0,.int .i64 0,.int .i64 0,.string ⟨#[]⟩,.int .i64 0,.int .i64 0,.int .i64 0,.string ⟨#[]⟩,.string ⟨#[]⟩,.slice none 0 0,.slice none 0 0]
theorem level5_any {f:Nat} (HN:NegC b o c m l f) (d:Nat) (i:Int) (w:World) (hd:d≤30) (S:PS b o c m l i d w) (hr:una l f d i≠.out) :
  Calls Tryz.prog 44 #[.pointer (some ⟨b,0,none⟩),.int .i64 5] w (Tel b o c m l d w (una l f d i)):=by
 have H:=Lib.hid (HN d i _ hd (S.alloc (.cells zeroE 31)) hr)
 have hbl:=S.lt
 clear HN S hd
 cases hq:una l f d i with
 |ok x j =>
  rw [hq] at H
  clear hq hr
  go_enter Tryz.func44,Tryz.ntmps44
  go_wp2_with fail
  refine H.out.mono ?_
  rintro e w1 ⟨v,rfl,hx,hS,hK⟩
  obtain ⟨n,nm,tk,tp,tg,tn,tz,ta,o',c',rfl,_⟩:=hx.parts
  have HX:=Lib.hid hx
  have S1:=Lib.hid hS
  have K1:=Lib.hid (((Kp.refl b w).alloc _).trans hK)
  have hB1:=(Blk.new w 31 zeroE).kp hK (by omega)
  have c1:=hB1.cell
  simp only [zeroE] at c1
  have f1:=hB1.frozen
  clear hx hS hK hB1
  go_wp2
  refine bodyPost_ret (v:=.agg #[.int .i64 x.kind,.int .i64 x.pos,.int .i64 x.stop,.string nm,.int .i64 n,.int .i64 tk,.int .i64 tp,.string tg,.string tn,.slice tz ta ta,.slice o' x.args.length c']) (by simp [results,Tryz.results44,go_sem,c1]) rfl ?_
  refine ⟨_,rfl,?_,?_,?_⟩
  ·exact (HX.out.set11 (by simp) _ _ _ _ _ _ _ _ _ _ _).mono (by simp)
  ·exact S1.out.set11 hbl _ _ _ _ _ _ _ _ _ _ _
  ·exact set11_kp K1.out (.inl (Nat.le_refl _)) _ _ _ _ _ _ _ _ _ _ _
 |err p q =>
  rw [hq] at H
  clear hq hr
  go_enter Tryz.func44,Tryz.ntmps44
  go_wp2_with fail
  refine H.out.mono ?_
  rintro e w1 ⟨rfl,hK⟩
  have K1:=Lib.hid (((Kp.refl b w).alloc _).trans hK)
  clear hK
  go_wp2
  exact ⟨rfl,rfl,K1.out⟩
 |out=>exact (hr hq).elim
end
end Go.Proofs.YtfcgoainglpdlaaGreatDoor
namespace Go.Proofs.YtfcgoainglpdlaaGreatDoor
open Go.RowKit
open Go.Lib hiding intOf
theorem run_field1 (a b c:Int) (t:ByteArray) (w:World):(Instr.field 81 (.agg #[.int .i64 a,.int .i64 b,.int .i64 c,.string t]) 1).run Tryz.prog w=.ok (.int .i64 b) w:=by
 simp [Instr.field,go_sem,part,asAgg]
section
variable {b c m:Nat} {o:Option Addr} {l:List TZ}
def MidB (b:Nat) (o:Option Addr) (c m:Nat) (l:List TZ) (d:Nat) (w:World) (B:Nat) (pos:Int) (op:ByteArray) (x y:EX) (q:Int) (W:World):Prop :=
 ∃ g:Nat,Blk W B 31 #[.int .i64 9,.int .i64 pos,.int .i64 0,.string op,.int .i64 0,.int .i64 0,.int .i64 0,.string ⟨#[]⟩,.string ⟨#[]⟩,.slice none 0 0,.slice (some ⟨g,0,none⟩) 2 2] ∧
  IsEPs (fun n=>w.heap.size + 1≤n∧n≠B) W (some ⟨g,0,none⟩) 0 [x,y]∧PS b o c m l q d W∧Kp b w W∧Blk W w.heap.size 31 zeroE
theorem boxB_end {w:World} {B:Nat} {pos:Int} {op:ByteArray} {x y:EX} {g:Nat} {W:World} (hX:Blk W B 31 #[.int .i64 9,.int .i64 pos,.int .i64 0,.string op,.int .i64 0,.int .i64 0,.int .i64 0,.string ⟨#[]⟩,.string ⟨#[]⟩,.slice none 0 0,.slice (some ⟨g,0,none⟩) 2 2])
  (hA:IsEPs (fun n=>w.heap.size + 1≤n∧n≠B) W (some ⟨g,0,none⟩) 0 [x,y]) (e:Int):BoxE (fun n=>w.heap.size + 1≤n∧n≠B) (W.setCell ⟨B,2,none⟩ (.int .i64 e)) B (mkBin pos e op x y):=by
 have h:=hX.set_ 2 (.int .i64 e)
 simp only [List.setIfInBounds_toArray,List.set_cons_zero,List.set_cons_succ] at h
 refine ⟨_,h,?_⟩
 unfold mkBin IsEP
 exact ⟨0,0,⟨#[]⟩,⟨#[]⟩,none,0,_,_,rfl,⟨Nat.le_refl 2,by decide⟩,rfl,hA.set_ (p:=⟨B,2,none⟩) (fun h=>h.2 rfl) _⟩
theorem midB_end {d:Nat} {w:World} {B:Nat} {pos:Int} {op:ByteArray} {x y:EX} {q:Int} {W:World} {e0 e1 e2 e3 e4 e5 e6 e7 e8 e9 e10 x0 x1 x2 x3 x4 x5 x6 x7 x8 x9 x10 y0 y1 y2 y3 y4 y5 y6 y7 y8 y9 y10:Value}
  (hX:Blk W B 31 #[e0,e1,e2,e3,e4,e5,e6,e7,e8,e9,e10]) (hx:IsEP (fun n=>w.heap.size + 1≤n∧n≠B) W x (.agg #[x0,x1,x2,x3,x4,x5,x6,x7,x8,x9,x10])) (hy:IsEP (fun n=>w.heap.size + 1≤n∧n≠B) W y (.agg #[y0,y1,y2,y3,y4,y5,y6,y7,y8,y9,y10]))
  (hS:PS b o c m l q d W) (hK:Kp b w W) (hR:Blk W w.heap.size 31 zeroE) (hb:b < w.heap.size) (hB:w.heap.size < B) :
  MidB b o c m l d w B pos op x y q ((set11 W B (.int .i64 9) (.int .i64 pos) (.int .i64 0) (.string op) (.int .i64 0) (.int .i64 0) (.int .i64 0) (.string ⟨#[]⟩) (.string ⟨#[]⟩) (.slice none 0 0) (.slice (some ⟨W.heap.size,0,none⟩) 2 2)).alloc (.cells #[x0,x1,x2,x3,x4,x5,x6,x7,x8,x9,x10,y0,y1,y2,y3,y4,y5,y6,y7,y8,y9,y10] 31)):=by
 have hlt:=hX.lt
 refine ⟨W.heap.size,?_,?_,?_,?_,?_⟩
 ·refine Blk.alloc ?_ _
  exact blk_set11 hX _ _ _ _ _ _ _ _ _ _ _
 ·exact two_args (hx.set11 (fun h=>h.2 rfl) _ _ _ _ _ _ _ _ _ _ _) (hy.set11 (fun h=>h.2 rfl) _ _ _ _ _ _ _ _ _ _ _) (by rw [set11_size]) ⟨by have:=hK.size;omega,by omega⟩
 ·exact (hS.set11 (by omega) _ _ _ _ _ _ _ _ _ _ _).alloc _
 ·exact (set11_kp hK (.inl (by omega)) _ _ _ _ _ _ _ _ _ _ _).alloc _
 ·refine Blk.alloc ?_ _
  exact blk_far11 hR (by omega) _ _ _ _ _ _ _ _ _ _ _
theorem level_any {f:Nat} (hn:l.length≤1073741824) (hf:Fits l) (IH:∀ g,g≤f→LevC b o c m l g) (k:Nat) (d:Nat) (i:Int) (w:World) (h1:1≤k) (h4:k≤4) (hd:d≤30) (S:PS b o c m l i d w) (hr:ex l (f + 1) k d i≠.out) :
  Calls Tryz.prog 44 #[.pointer (some ⟨b,0,none⟩),.int .i64 (k:Nat)] w (Tel b o c m l d w (ex l (f + 1) k d i)):=by
 have HP:=Lib.hid (peek_any (S.alloc (.cells zeroE 31)) (by omega))
 have H:=Lib.hid S
 have hbl:=S.lt
 have hfield:=run_field1
 have e5:(((k:Nat):Int) == 5)=false:=by simp;omega
 have hk1:(1:Int)≤(k:Nat):=by omega
 have hk4:((k:Nat):Int)≤4:=by omega
 rw [ex,if_neg (by omega)] at hr ⊢
 have HIH:=Lib.hid IH
 have HD:=Lib.hid hd
 have HK:=Lib.hid (⟨h1,h4⟩:1≤k∧k≤4)
 have HN:=Lib.hid hn
 have HF:=Lib.hid hf
 have HW:Hid (IntKind.i64.wrap ((k:Nat) + 1)=((k + 1:Nat):Int)):=by
  show IntKind.i64.wrap ((k:Nat) + 1)=((k + 1:Nat):Int)
  rw [IntKind.wrap_i64];omega
 clear S IH hd h1 h4 hn hf
 cases hq:ex l f (k + 1) d i with
 |out=>rw [hq] at hr;exact (hr rfl).elim
 |err p q =>
  have HC:=Lib.hid (fun (W:World) (h:PS b o c m l i d W)=>HIH.out f (Nat.le_refl _) (k + 1) ((k:Nat) + 1) d i W (by simp) (by omega) (by have:=HK.out;omega) HD.out h (by rw [hq];simp))
  rw [hq] at HC
  clear hq hr
  go_enter Tryz.func44,Tryz.ntmps44
  go_wp2_with fail
  refine HP.out.mono ?_
  rintro e w1 ⟨rfl,hB⟩
  have S1:=Lib.hid ((H.out.alloc _).step hB)
  have K1:=Lib.hid (((Kp.refl b w).alloc _).then_below hB)
  clear hB
  go_wp2_with fail
  refine (HC.out _ S1.out).mono ?_
  rintro e w2 ⟨rfl,hK⟩
  have K2:=Lib.hid (K1.out.trans hK)
  clear hK
  go_wp2
  exact ⟨rfl,rfl,K2.out⟩
 |ok x j =>
  have HC:=Lib.hid (fun (W:World) (h:PS b o c m l i d W)=>HIH.out f (Nat.le_refl _) (k + 1) ((k:Nat) + 1) d i W (by simp) (by omega) (by have:=HK.out;omega) HD.out h (by rw [hq];simp))
  rw [hq] at HC hr
  obtain ⟨R,hR⟩:∃ R,binT l f k d i x j=R:=⟨_,rfl⟩
  have hr2:R≠.out:=by rw [← hR];exact hr
  have HRO:=Lib.hid hr2
  show Calls _ _ _ _ (Tel b o c m l d w (binT l f k d i x j))
  rw [hR]
  have HR:=Lib.hid hR
  clear hq hr hR hr2
  go_enter Tryz.func44,Tryz.ntmps44
  go_wp2_with fail
  refine HP.out.mono ?_
  rintro e w1 ⟨rfl,hB⟩
  have S1:=Lib.hid ((H.out.alloc _).step hB)
  have K1:=Lib.hid (((Kp.refl b w).alloc _).then_below hB)
  have R1:=Lib.hid (blk_mid3 hB)
  have hz1:=mid_size hB
  clear hB
  go_wp2_with fail
  refine (HC.out _ S1.out).mono ?_
  rintro e w2 ⟨v,rfl,hx,hS,hK⟩
  obtain ⟨n,nm,tk,tp,tg,tn,tz,ta,o',c',rfl,_⟩:=hx.parts
  have hz2:w.heap.size < w2.heap.size:=Nat.lt_of_lt_of_le hz1 hK.size
  have R2:=Lib.hid ((R1.out.kp hK (by omega)).alloc (.cells #[.int .i64 x.kind,.int .i64 x.pos,.int .i64 x.stop,.string nm,.int .i64 n,.int .i64 tk,.int .i64 tp,.string tg,.string tn,.slice tz ta ta,.slice o' x.args.length c'] 31))
  have X2:Hid (BoxE (fun n=>w.heap.size + 1≤n∧n≠w2.heap.size) (w2.alloc (.cells #[.int .i64 x.kind,.int .i64 x.pos,.int .i64 x.stop,.string nm,.int .i64 n,.int .i64 tk,.int .i64 tp,.string tg,.string tn,.slice tz ta ta,.slice o' x.args.length c'] 31)) w2.heap.size x) :=
   ⟨_,Blk.new _ _ _,(IsEP.mono (fun q hq hp=>⟨by have:w1.heap.size≤q:=hp;omega,by omega⟩) hx).alloc _⟩
  have S2:=Lib.hid (hS.alloc (.cells #[.int .i64 x.kind,.int .i64 x.pos,.int .i64 x.stop,.string nm,.int .i64 n,.int .i64 tk,.int .i64 tp,.string tg,.string tn,.slice tz ta ta,.slice o' x.args.length c'] 31))
  have K2:=Lib.hid ((K1.out.trans hK).alloc (.cells #[.int .i64 x.kind,.int .i64 x.pos,.int .i64 x.stop,.string nm,.int .i64 n,.int .i64 tk,.int .i64 tp,.string tg,.string tn,.slice tz ta ta,.slice o' x.args.length c'] 31))
  clear hx hS hK R1 S1 K1 HC HP
  go_wp2_with fail
  generalize w2.heap.size=B at X2 hz2 ⊢
  go_loopg [7] f (fun g _ wr=>∃ (x:EX) (j:Int),Hid (binT l g k d i x j=R)∧Hid (BoxE (fun n=>w.heap.size + 1≤n∧n≠B) wr B x)∧Hid (PS b o c m l j d wr)∧Hid (Kp b w wr)∧Hid (Blk wr w.heap.size 31 zeroE)∧g≤f)
  case atStart=>exact ⟨x,j,HR,X2,S2,K2,R2,Nat.le_refl _⟩
  case round =>
   clear X2 S2 K2 R2 HR
   obtain ⟨x,j,HR,HX,HS,HK3,HRV,hgf⟩:=hrel
   obtain ⟨gg,rfl⟩:∃ gg,gk=gg + 1:=by
    cases gk with
    |zero=>exact (HRO.out (by rw [← HR.out,binT])).elim
    |succ q=>exact ⟨q,rfl⟩
   have hb:=HR.out
   rw [binT] at hb
   have HO:=Lib.hid (operator_any HS.out (by have:=HN.out;omega) HF.out)
   have hbB:b≠B:=by omega
   have hBW:B < wr.heap.size:=by obtain ⟨cs,h1,_⟩:=HX.out;exact h1.lt
   have hwB:w.heap.size < B:=by omega
   by_cases hl:lvlOf (tkAt l j)=k
   ·rw [if_pos hl] at hb
    have hreal:=tkAt_real (l:=l) (i:=j) (by rw [lvl_kind (by rw [hl];have:=HK.out;omega)];decide)
    have hj0:0≤j:=hreal.1
    have hj1:j < (l.length:Nat):=hreal.2
    have HT:=Lib.hid (fun (W:World) (h:PS b o c m l j d W)=>take_any h (by have:=HN.out;omega) hreal)
    have HCl:=Lib.hid (fun W:World=>clone_any (tkAt l j).text W (HF.out.tkAt j))
    have el:(((lvlOf (tkAt l j):Nat):Int) == ((k:Nat):Int))=true:=by rw [beq_iff_eq];omega
    have hfield3:=run_field3
    have HB:=Lib.hid hb
    clear hb hl hreal
    go_wp2_with fail
    refine HO.out.mono ?_
    rintro e w3 ⟨rfl,hB⟩
    have S3:=Lib.hid (HS.out.step hB)
    have K3:=Lib.hid (HK3.out.then_below hB)
    have R3:=Lib.hid (HRV.out.below hB)
    have X3:=Lib.hid (HX.out.below hB)
    clear hB
    go_wp2_with fail
    refine (HT.out _ S3.out).mono ?_
    rintro e w4 ⟨rfl,hS,hK⟩
    have S4:=Lib.hid hS
    have K4:=Lib.hid (K3.out.trans hK)
    have R4:=Lib.hid (R3.out.kp hK (by omega))
    have X4:=Lib.hid (X3.out.kp hK (by omega) (by omega))
    clear hS hK S3 K3 R3 X3
    go_wp2_with fail
    refine (HCl.out _).mono ?_
    rintro e w5 ⟨rfl,hB⟩
    have S5:=Lib.hid (S4.out.step hB)
    have K5:=Lib.hid (K4.out.then_below hB)
    have R5:=Lib.hid (R4.out.below hB)
    have X5:=Lib.hid (X4.out.below hB)
    clear hB S4 K4 R4 X4 HO HT HCl el
    cases hq2:ex l gg (k + 1) d (j + 1) with
    |out =>
     rw [hq2] at HB
     exact (HRO.out HB.out.symm).elim
    |err p q =>
     have HC:=Lib.hid (fun (kk:Int) (hkk:kk=((k + 1:Nat):Int)) (W:World) (h:PS b o c m l (j + 1) d W)=>HIH.out gg (by omega) (k + 1) kk d (j + 1) W hkk (by omega) (by have:=HK.out;omega) HD.out h (by rw [hq2];simp))
     rw [hq2] at HC HB
     clear hq2
     obtain ⟨cs,hX,hx⟩:=X5.out
     obtain ⟨n',nm',tk',tp',tg',tn',tz',ta',o'',c'',e,_⟩:=hx.parts
     injection e with e
     subst e
     have c5:=hX.cell
     clear hX hx
     go_wp2_with fail
     go_region_dies
     all_goals
      refine (HC.out _ HW.out _ S5.out.drew).mono ?_
      rintro e w6 ⟨rfl,hK⟩
      have K6:=Lib.hid (K5.out.trans hK.undrew)
      clear hK
      go_wp2
      refine ⟨rfl,?_⟩
      rw [← HB.out]
      exact ⟨rfl,K6.out⟩
    |ok y q =>
     have HC:=Lib.hid (fun (kk:Int) (hkk:kk=((k + 1:Nat):Int)) (W:World) (h:PS b o c m l (j + 1) d W)=>HIH.out gg (by omega) (k + 1) kk d (j + 1) W hkk (by omega) (by have:=HK.out;omega) HD.out h (by rw [hq2];simp))
     rw [hq2] at HC HB
     have hrng:=(read_rng (l:=l) gg).1 _ _ _ _ _ (by omega) hq2
     have hq0:1≤q∧q≤(l.length:Nat):=by omega
     clear hq2 hrng
     obtain ⟨cs,hX,hx⟩:=X5.out
     obtain ⟨n',nm',tk',tp',tg',tn',tz',ta',o'',c'',e,_⟩:=hx.parts
     injection e with e
     subst e
     have c5:=hX.cell
     have HX5:=Lib.hid hX
     have HE5:=Lib.hid hx
     have hB5:=hX.lt
     clear hX hx X5
     go_wp2_with fail
     go_cut [7] (fun _ wx=>Hid (MidB b o c m l d w B (tkAt l i).pos (tkAt l j).text x y q wx))
     case first =>
      go_region_with (go_at_call 44;refine (HC.out _ HW.out _ S5.out.drew).mono ?_;rintro e w6 ⟨v,rfl,hy,hS,hK⟩;obtain ⟨n6,nm6,tk6,tp6,tg6,tn6,tz6,ta6,o6,c6',rfl,_⟩:=hy.parts;have hX6:=HX5.out.kp hK.undrew (by omega);have c6:=hX6.cell;have f6:=hX6.frozen;have hz6:=hX6.lt;have HX6:=Lib.hid hX6;have HY6:=Lib.hid hy;have S6:=Lib.hid hS;have KK:=Lib.hid hK.undrew;clear hX6 hy hS hK)
      all_goals go_wp2_with fail
      all_goals go_meet
      all_goals exact midB_end HX6.out (HE5.out.kp KK.out (fun h=>by have:=h.1;omega)) (IsEP.mono (fun t _ (ht:w5.heap.size≤t)=>⟨by omega,by omega⟩) HY6.out) S6.out (K5.out.trans KK.out) (R5.out.kp KK.out (by omega)) hbl hwB
     case rest =>
      obtain ⟨ga,hX,hA,hS,hK,hR⟩:=hcut.out
      have HE:=Lib.hid (end_any hS (by have:=HN.out;omega) hq0)
      have S7:=Lib.hid hS
      have K7:=Lib.hid hK
      have R7:=Lib.hid hR
      have X7:=Lib.hid hX
      have A7:=Lib.hid hA
      clear hcut hX hA hS hK hR c5
      go_wp2_with fail
      refine HE.out.mono ?_
      rintro e w8 ⟨rfl,hB⟩
      have hX8:=X7.out.below hB
      have c8:=hX8.cell
      have f8:=hX8.frozen
      have X8:=Lib.hid hX8
      have A8:=Lib.hid (A7.out.below hB)
      have S8:=Lib.hid (S7.out.step hB)
      have K8:=Lib.hid (K7.out.then_below hB)
      have R8:=Lib.hid (R7.out.below hB)
      clear hX8 hB
      go_wp2
      go_roundg gg
      case measure=>omega
      case rel =>
       exact ⟨_,q,HB,boxB_end X8.out A8.out _,S8.out.set_ (p:=⟨B,2,none⟩) (by simp only;omega) _,K8.out.setCell (.inl (by simp only;omega)) _,R8.out.far (p:=⟨B,2,none⟩) (by simp only;omega) _,by omega⟩
   ·rw [if_neg hl] at hb
    have HB:=Lib.hid hb
    have el:(((lvlOf (tkAt l j):Nat):Int) == ((k:Nat):Int))=false:=by rw [beq_eq_false_iff_ne];omega
    clear hb hl
    go_wp2_with fail
    refine HO.out.mono ?_
    rintro e w3 ⟨rfl,hB⟩
    have S3:=Lib.hid (HS.out.step hB)
    have K3:=Lib.hid (HK3.out.then_below hB)
    have R3:=HRV.out.below hB
    obtain ⟨cs,hX,hx⟩:=HX.out.below hB
    obtain ⟨n,nm,tk,tp,tg,tn,tz,ta,o',c',e,_⟩:=hx.parts
    injection e with e
    subst e
    have c3:=hX.cell
    have r3:=R3.cell
    have f3:=R3.frozen
    simp only [zeroE] at r3
    have HX3:=Lib.hid hx
    have hzb:b < w3.heap.size:=S3.out.lt
    have hzw:w.heap.size < w3.heap.size:=R3.lt
    have hzB:B < w3.heap.size:=hX.lt
    clear hX hx R3 hB
    go_wp2
    refine bodyPost_ret (v:=.agg #[.int .i64 x.kind,.int .i64 x.pos,.int .i64 x.stop,.string nm,.int .i64 n,.int .i64 tk,.int .i64 tp,.string tg,.string tn,.slice tz ta ta,.slice o' x.args.length c']) (by simp [results,Tryz.results44,go_sem,r3]) rfl ?_
    rw [← HB.out]
    refine ⟨_,rfl,?_,?_,?_⟩
    ·exact IsEP.mono (fun q _ hp=>by have:=hp.1;omega) (HX3.out.set11 (fun h=>by have:=h.1;omega) _ _ _ _ _ _ _ _ _ _ _)
    ·exact S3.out.set11 hbl _ _ _ _ _ _ _ _ _ _ _
    ·exact set11_kp K3.out (.inl (Nat.le_refl _)) _ _ _ _ _ _ _ _ _ _ _
end
end Go.Proofs.YtfcgoainglpdlaaGreatDoor
namespace Go.Proofs.YtfcgoainglpdlaaGreatDoor
open Go.RowKit
open Go.Lib hiding intOf
theorem beq_bytes (a b:List UInt8):(a == b)=decide (a=b):=by
 by_cases h:a=b
 ·subst h;simp
 ·simp [h]
theorem isKT_eq (t:TZ) (k:Int) (s:ByteArray):isKT t k s=(decide (t.kind=k) && decide (t.text.data.toList=s.data.toList)):=by
 unfold isKT;rw [ByteArray.toList_eq,ByteArray.toList_eq,beq_bytes]
theorem isKT_S (t:TZ) (c:UInt8):isKT t 4 ⟨#[c]⟩=isS t c:=isKT_eq t 4 ⟨#[c]⟩
theorem isKT_W (t:TZ) (s:List UInt8):isKT t 5 ⟨s.toArray⟩=isW t s:=isKT_eq t 5 ⟨s.toArray⟩
def foll (l:List TZ) (f d:Nat) (i:Int):EO EX :=
 match prim l f d i with
 |.ok x j=>post l f d i x j
 |.err p c=>.err p c
 |.out=>.out
def FolC (b:Nat) (o:Option Addr) (c m:Nat) (l:List TZ) (f:Nat):Prop :=
 ∀ (d:Nat) (i:Int) (w:World),d≤30→PS b o c m l i d w→foll l f d i≠.out →
  Calls Tryz.prog 102 #[.pointer (some ⟨b,0,none⟩)] w (Tel b o c m l d w (foll l f d i))
theorem una_no {l:List TZ} {f d:Nat} {i:Int} (h:isS (tkAt l i) 33=false):una l (f + 1) d i=foll l f d i:=by
 rw [una,if_neg (by rw [h];decide)];rfl
theorem una_yes {l:List TZ} {f d:Nat} {i:Int} (h:isS (tkAt l i) 33=true) (hd:¬ 30≤d):una l (f + 1) d i=(match una l f (d + 1) (i + 1) with
   |.ok x j=>.ok (mkNot (tkAt l i).pos (tkAt l (j - 1)).stop x) j
   |.err p c=>.err p c
   |.out=>.out):=by
 rw [una,if_pos h,if_neg hd]
 rfl
theorem una_deep {l:List TZ} {f d:Nat} {i:Int} (h:isS (tkAt l i) 33=true) (hd:30≤d):una l (f + 1) d i=.err (tkAt l i).pos 6:=by
 rw [una,if_pos h,if_pos hd]
section
variable {b c m:Nat} {o:Option Addr} {l:List TZ}
theorem notEnd {d:Nat} {w W:World} {p e:Int} {x:EX} {q:Int} {x0 x1 x2 x3 x4 x5 x6 x7 x8 x9 x10:Value} (hx:IsEP (fun n=>w.heap.size + 1≤n) W x (.agg #[x0,x1,x2,x3,x4,x5,x6,x7,x8,x9,x10])) (hS:PS b o c m l q d W) (hK:Kp b w W) (hb:b < w.heap.size) (hz:w.heap.size < W.heap.size) :
  IsEX w.heap.size ((set11 W w.heap.size (.int .i64 10) (.int .i64 p) (.int .i64 e) (.string ⟨#[]⟩) (.int .i64 0) (.int .i64 0) (.int .i64 0) (.string ⟨#[]⟩) (.string ⟨#[]⟩) (.slice none 0 0) (.slice (some ⟨W.heap.size,0,none⟩) 1 1)).alloc (.cells #[x0,x1,x2,x3,x4,x5,x6,x7,x8,x9,x10] 31)) (mkNot p e x)
   (.agg #[.int .i64 10,.int .i64 p,.int .i64 e,.string ⟨#[]⟩,.int .i64 0,.int .i64 0,.int .i64 0,.string ⟨#[]⟩,.string ⟨#[]⟩,.slice none 0 0,.slice (some ⟨W.heap.size,0,none⟩) 1 1]) ∧
  PS b o c m l q d ((set11 W w.heap.size (.int .i64 10) (.int .i64 p) (.int .i64 e) (.string ⟨#[]⟩) (.int .i64 0) (.int .i64 0) (.int .i64 0) (.string ⟨#[]⟩) (.string ⟨#[]⟩) (.slice none 0 0) (.slice (some ⟨W.heap.size,0,none⟩) 1 1)).alloc (.cells #[x0,x1,x2,x3,x4,x5,x6,x7,x8,x9,x10] 31)) ∧
  Kp b w ((set11 W w.heap.size (.int .i64 10) (.int .i64 p) (.int .i64 e) (.string ⟨#[]⟩) (.int .i64 0) (.int .i64 0) (.int .i64 0) (.string ⟨#[]⟩) (.string ⟨#[]⟩) (.slice none 0 0) (.slice (some ⟨W.heap.size,0,none⟩) 1 1)).alloc (.cells #[x0,x1,x2,x3,x4,x5,x6,x7,x8,x9,x10] 31)):=by
 refine ⟨?_,(hS.set11 hb _ _ _ _ _ _ _ _ _ _ _).alloc _,(set11_kp hK (.inl (Nat.le_refl _)) _ _ _ _ _ _ _ _ _ _ _).alloc _⟩
 have h1:=one_arg (P:=fun n=>w.heap.size + 1≤n) (g:=W.heap.size) (hx.set11 (r:=w.heap.size) (fun h=>by omega) (.int .i64 10) (.int .i64 p) (.int .i64 e) (.string ⟨#[]⟩) (.int .i64 0) (.int .i64 0) (.int .i64 0) (.string ⟨#[]⟩) (.string ⟨#[]⟩) (.slice none 0 0) (.slice (some ⟨W.heap.size,0,none⟩) 1 1)) (by rw [set11_size]) (by omega)
 unfold mkNot IsEX IsEP
 exact ⟨0,0,⟨#[]⟩,⟨#[]⟩,none,0,_,_,rfl,⟨Nat.le_refl 1,by decide⟩,rfl,h1.keep (fun _ _ _ h _=>by omega) fun _ _ _ _ h=>h⟩
theorem notEnd2 {d:Nat} {w W:World} {p e:Int} {x:EX} {q:Int} {g:Nat} (hA:IsEPs (fun n=>w.heap.size + 1≤n) W (some ⟨g,0,none⟩) 0 [x]) (hS:PS b o c m l q d W) (hK:Kp b w W) (hb:b < w.heap.size) :
  IsEX w.heap.size (set11 W w.heap.size (.int .i64 10) (.int .i64 p) (.int .i64 e) (.string ⟨#[]⟩) (.int .i64 0) (.int .i64 0) (.int .i64 0) (.string ⟨#[]⟩) (.string ⟨#[]⟩) (.slice none 0 0) (.slice (some ⟨g,0,none⟩) 1 1)) (mkNot p e x)
   (.agg #[.int .i64 10,.int .i64 p,.int .i64 e,.string ⟨#[]⟩,.int .i64 0,.int .i64 0,.int .i64 0,.string ⟨#[]⟩,.string ⟨#[]⟩,.slice none 0 0,.slice (some ⟨g,0,none⟩) 1 1]) ∧
  PS b o c m l q d (set11 W w.heap.size (.int .i64 10) (.int .i64 p) (.int .i64 e) (.string ⟨#[]⟩) (.int .i64 0) (.int .i64 0) (.int .i64 0) (.string ⟨#[]⟩) (.string ⟨#[]⟩) (.slice none 0 0) (.slice (some ⟨g,0,none⟩) 1 1)) ∧
  Kp b w (set11 W w.heap.size (.int .i64 10) (.int .i64 p) (.int .i64 e) (.string ⟨#[]⟩) (.int .i64 0) (.int .i64 0) (.int .i64 0) (.string ⟨#[]⟩) (.string ⟨#[]⟩) (.slice none 0 0) (.slice (some ⟨g,0,none⟩) 1 1)):=by
 refine ⟨?_,hS.set11 hb _ _ _ _ _ _ _ _ _ _ _,set11_kp hK (.inl (Nat.le_refl _)) _ _ _ _ _ _ _ _ _ _ _⟩
 have h1:=epsSet11 hA (r:=w.heap.size) (by omega) (.int .i64 10) (.int .i64 p) (.int .i64 e) (.string ⟨#[]⟩) (.int .i64 0) (.int .i64 0) (.int .i64 0) (.string ⟨#[]⟩) (.string ⟨#[]⟩) (.slice none 0 0) (.slice (some ⟨g,0,none⟩) 1 1)
 unfold mkNot IsEX IsEP
 exact ⟨0,0,⟨#[]⟩,⟨#[]⟩,none,0,_,_,rfl,⟨Nat.le_refl 1,by decide⟩,rfl,h1.keep (fun _ _ _ h _=>by omega) fun _ _ _ _ h=>h⟩
theorem negated_any {f:Nat} (hn:l.length≤1073741824) (HF:FolC b o c m l f) (HG:NegC b o c m l f) (d:Nat) (i:Int) (w:World) (hd:d≤30) (S:PS b o c m l i d w) (hr:una l (f + 1) d i≠.out) :
  Calls Tryz.prog 67 #[.pointer (some ⟨b,0,none⟩)] w (Tel b o c m l d w (una l (f + 1) d i)):=by
 have HS:=Lib.hid (sees_any (S.alloc (.cells zeroE 31)) (by omega) ⟨#[33]⟩)
 rw [isKT_S] at HS
 have H:=Lib.hid S
 have hbl:=S.lt
 have HN:=Lib.hid hn
 have HD:=Lib.hid hd
 have hfield:=run_field1
 clear S hn hd
 cases he:isS (tkAt l i) 33
 ·rw [una_no he] at hr ⊢
  rw [he] at HS
  clear he
  cases hq:foll l f d i with
  |out=>exact (hr hq).elim
  |err p q =>
   have HC:=Lib.hid (fun (W:World) (h:PS b o c m l i d W)=>HF d i W HD.out h (by rw [hq];simp))
   rw [hq] at HC
   clear hq hr HF HG
   go_enter Tryz.func67,Tryz.ntmps67
   go_wp2_with fail
   refine HS.out.mono ?_
   rintro e w1 ⟨rfl,hB⟩
   have S1:=Lib.hid ((H.out.alloc _).step hB)
   have K1:=Lib.hid (((Kp.refl b w).alloc _).then_below hB)
   clear hB
   go_wp2_with fail
   refine (HC.out _ S1.out).mono ?_
   rintro e w2 ⟨rfl,hK⟩
   have K2:=Lib.hid (K1.out.trans hK)
   clear hK
   go_wp2
   exact ⟨rfl,rfl,K2.out⟩
  |ok x j =>
   have HC:=Lib.hid (fun (W:World) (h:PS b o c m l i d W)=>HF d i W HD.out h (by rw [hq];simp))
   rw [hq] at HC
   clear hq hr HF HG
   go_enter Tryz.func67,Tryz.ntmps67
   go_wp2_with fail
   refine HS.out.mono ?_
   rintro e w1 ⟨rfl,hB⟩
   have S1:=Lib.hid ((H.out.alloc _).step hB)
   have K1:=Lib.hid (((Kp.refl b w).alloc _).then_below hB)
   have R1:=Lib.hid (blk_mid3 hB)
   have hz1:=mid_size hB
   clear hB
   go_wp2_with fail
   refine (HC.out _ S1.out).mono ?_
   rintro e w2 ⟨v,rfl,hx,hS,hK⟩
   obtain ⟨n,nm,tk,tp,tg,tn,tz,ta,o',c',rfl,_⟩:=hx.parts
   have HX:=Lib.hid hx
   have S2:=Lib.hid hS
   have K2:=Lib.hid (K1.out.trans hK)
   have hB2:=R1.out.kp hK (by omega)
   have c1:=hB2.cell
   have f1:=hB2.frozen
   simp only [zeroE] at c1
   clear hx hS hK hB2
   go_wp2
   refine bodyPost_ret (v:=.agg #[.int .i64 x.kind,.int .i64 x.pos,.int .i64 x.stop,.string nm,.int .i64 n,.int .i64 tk,.int .i64 tp,.string tg,.string tn,.slice tz ta ta,.slice o' x.args.length c']) (by simp [results,Tryz.results67,go_sem,c1]) rfl ?_
   refine ⟨_,rfl,?_,?_,?_⟩
   ·exact (HX.out.set11 (by omega) _ _ _ _ _ _ _ _ _ _ _).mono (by omega)
   ·exact S2.out.set11 hbl _ _ _ _ _ _ _ _ _ _ _
   ·exact set11_kp K2.out (.inl (Nat.le_refl _)) _ _ _ _ _ _ _ _ _ _ _
 ·have HE:=Lib.hid he
  rw [he] at HS
  have hkt:isKT (tkAt l i) 4 ⟨#[33]⟩=true:=by rw [isKT_S];exact he
  have HKT:=Lib.hid hkt
  have HP:=Lib.hid (fun (W:World) (h:PS b o c m l i d W)=>peek_any h (by have:=HN.out;omega))
  clear he hkt
  by_cases h30:30≤d
  ·have hd30:d=30:=by have:=HD.out;omega
   rw [una_deep HE.out h30]
   have HX:=Lib.hid (fun (W:World) (h:PS b o c m l i d W)=>enter_deep (y:=⟨#[33]⟩) (by rw [hd30] at h;exact h) HN.out HKT.out)
   clear hr HF HG h30 hd30
   go_enter Tryz.func67,Tryz.ntmps67
   go_wp2_with fail
   refine HS.out.mono ?_
   rintro e w1 ⟨rfl,hB⟩
   have S1:=Lib.hid ((H.out.alloc _).step hB)
   have K1:=Lib.hid (((Kp.refl b w).alloc _).then_below hB)
   clear hB
   go_wp2_with fail
   refine (HP.out _ S1.out).mono ?_
   rintro e w2 ⟨rfl,hB⟩
   have S2:=Lib.hid (S1.out.step hB)
   have K2:=Lib.hid (K1.out.then_below hB)
   clear hB
   go_wp2_with fail
   refine (HX.out _ S2.out).mono ?_
   rintro e w3 ⟨rfl,hK⟩
   have K3:=Lib.hid (K2.out.trans hK)
   clear hK
   go_wp2
   exact ⟨rfl,rfl,K3.out⟩
  ·rw [una_yes HE.out h30] at hr ⊢
   have HX:=Lib.hid (fun (W:World) (h:PS b o c m l i d W)=>enter_ok (y:=⟨#[33]⟩) h HN.out HKT.out (by omega))
   have hd1:((d:Nat):Int) < 30:=by omega
   have hd0:(0:Int)≤(d:Nat):=by omega
   have HD1:Hid (d + 1≤30):=by show d + 1≤30;omega
   clear h30
   cases hq:una l f (d + 1) (i + 1) with
   |out=>rw [hq] at hr;exact (hr rfl).elim
   |err p q =>
    have HC:=Lib.hid (fun (W:World) (h:PS b o c m l (i + 1) ((d + 1:Nat):Int) W)=>HG (d + 1) (i + 1) W HD1.out h (by rw [hq];simp))
    rw [hq] at HC
    clear hq hr HF HG
    go_enter Tryz.func67,Tryz.ntmps67
    go_wp2_with fail
    refine HS.out.mono ?_
    rintro e w1 ⟨rfl,hB⟩
    have S1:=Lib.hid ((H.out.alloc _).step hB)
    have K1:=Lib.hid (((Kp.refl b w).alloc _).then_below hB)
    clear hB
    go_wp2_with fail
    refine (HP.out _ S1.out).mono ?_
    rintro e w2 ⟨rfl,hB⟩
    have S2:=Lib.hid (S1.out.step hB)
    have K2:=Lib.hid (K1.out.then_below hB)
    clear hB
    go_wp2_with fail
    refine (HX.out _ S2.out).mono ?_
    rintro e w3 ⟨rfl,hS,hK⟩
    have S3:=Lib.hid hS
    have K3:=Lib.hid (K2.out.trans hK)
    clear hK hS
    go_wp2_with fail
    refine (HC.out _ (by rw [Int.natCast_add];exact S3.out)).mono ?_
    rintro e w4 ⟨rfl,hK⟩
    have K4:=Lib.hid (K3.out.trans hK)
    clear hK
    go_wp2
    exact ⟨rfl,rfl,K4.out⟩
   |ok x j =>
    have HC:=Lib.hid (fun (W:World) (h:PS b o c m l (i + 1) ((d + 1:Nat):Int) W)=>HG (d + 1) (i + 1) W HD1.out h (by rw [hq];simp))
    rw [hq] at HC
    have hrng:=(read_rng (l:=l) f).2.2.1 _ _ _ _ hq
    have hq0:1≤j∧j≤(l.length:Nat):=by omega
    have HQ0:=Lib.hid hq0
    clear hq hr HF HG hq0 hrng
    go_enter Tryz.func67,Tryz.ntmps67
    go_wp2_with fail
    refine HS.out.mono ?_
    rintro e w1 ⟨rfl,hB⟩
    have S1:=Lib.hid ((H.out.alloc _).step hB)
    have K1:=Lib.hid (((Kp.refl b w).alloc _).then_below hB)
    have R1:=Lib.hid (blk_mid3 hB)
    clear hB
    go_wp2_with fail
    refine (HP.out _ S1.out).mono ?_
    rintro e w2 ⟨rfl,hB⟩
    have S2:=Lib.hid (S1.out.step hB)
    have K2:=Lib.hid (K1.out.then_below hB)
    have R2:=Lib.hid (R1.out.below hB)
    clear hB
    go_wp2_with fail
    refine (HX.out _ S2.out).mono ?_
    rintro e w3 ⟨rfl,hS,hK⟩
    have S3:=Lib.hid hS
    have K3:=Lib.hid (K2.out.trans hK)
    have R3:=Lib.hid (R2.out.kp hK (by omega))
    have hz3:=R3.out.lt
    clear hK hS
    go_wp2_with fail
    refine (HC.out _ (by rw [Int.natCast_add];exact S3.out)).mono ?_
    rintro e w4 ⟨v,rfl,hx,hS,hK⟩
    obtain ⟨n,nm,tk,tp,tg,tn,tz,ta,o',c',rfl,_⟩:=hx.parts
    have HX4:=Lib.hid hx
    rw [Int.natCast_add] at hS
    have S5:=Lib.hid ((hS.deep ((d:Nat):Int)).alloc (.cells #[.int .i64 x.kind,.int .i64 x.pos,.int .i64 x.stop,.string nm,.int .i64 n,.int .i64 tk,.int .i64 tp,.string tg,.string tn,.slice tz ta ta,.slice o' x.args.length c'] 31))
    have K5:=Lib.hid (((K3.out.trans hK).setCell (p:=⟨b,2,none⟩) (.inr rfl) (.int .i64 ((d:Nat):Int))).alloc (.cells #[.int .i64 x.kind,.int .i64 x.pos,.int .i64 x.stop,.string nm,.int .i64 n,.int .i64 tk,.int .i64 tp,.string tg,.string tn,.slice tz ta ta,.slice o' x.args.length c'] 31))
    have R5:=Lib.hid (((R3.out.kp hK (by omega)).far (p:=⟨b,2,none⟩) (by simp only;omega) (.int .i64 ((d:Nat):Int))).alloc (.cells #[.int .i64 x.kind,.int .i64 x.pos,.int .i64 x.stop,.string nm,.int .i64 n,.int .i64 tk,.int .i64 tp,.string tg,.string tn,.slice tz ta ta,.slice o' x.args.length c'] 31))
    have HX5:=Lib.hid (IsEP.alloc (IsEX.set_ HX4.out (p:=⟨b,2,none⟩) (by simp only;omega) (.int .i64 ((d:Nat):Int))) (.cells #[.int .i64 x.kind,.int .i64 x.pos,.int .i64 x.stop,.string nm,.int .i64 n,.int .i64 tk,.int .i64 tp,.string tg,.string tn,.slice tz ta ta,.slice o' x.args.length c'] 31))
    have hbx:Blk ((w4.setCell ⟨b,2,none⟩ (.int .i64 ((d:Nat):Int))).alloc (.cells #[.int .i64 x.kind,.int .i64 x.pos,.int .i64 x.stop,.string nm,.int .i64 n,.int .i64 tk,.int .i64 tp,.string tg,.string tn,.slice tz ta ta,.slice o' x.args.length c'] 31)) w4.heap.size 31 #[.int .i64 x.kind,.int .i64 x.pos,.int .i64 x.stop,.string nm,.int .i64 n,.int .i64 tk,.int .i64 tp,.string tg,.string tn,.slice tz ta ta,.slice o' x.args.length c']:=by
     have:=Blk.new (w4.setCell ⟨b,2,none⟩ (.int .i64 ((d:Nat):Int))) 31 #[.int .i64 x.kind,.int .i64 x.pos,.int .i64 x.stop,.string nm,.int .i64 n,.int .i64 tk,.int .i64 tp,.string tg,.string tn,.slice tz ta ta,.slice o' x.args.length c']
     simpa [World.setCell] using this
    have hz34:w3.heap.size≤w4.heap.size:=hK.size
    obtain ⟨p0,p1,p2,p3,pf⟩:=hS.cells
    have hb4:b < w4.heap.size:=hS.lt
    have hbn:b≠w4.heap.size:=by omega
    clear hK hS hx
    go_wp2_with fail
    generalize (w4.setCell ⟨b,2,none⟩ (.int .i64 ((d:Nat):Int))).alloc (.cells #[.int .i64 x.kind,.int .i64 x.pos,.int .i64 x.stop,.string nm,.int .i64 n,.int .i64 tk,.int .i64 tp,.string tg,.string tn,.slice tz ta ta,.slice o' x.args.length c'] 31)=w5 at *
    have HE:=Lib.hid (fun (W:World) (h:PS b o c m l j d W)=>end_any h (by have:=HN.out;omega) HQ0.out)
    have c5:=hbx.cell
    have HBX:=Lib.hid hbx
    have hz5:w.heap.size < w5.heap.size:=R5.out.lt
    generalize w4.heap.size=B at *
    clear hbx p0 p1 p2 p3 pf hb4 hbn
    go_region_with (go_at_call 71;refine (HE.out _ ?_).mono ?_;(first | exact S5.out.drew | exact (S5.out.alloc _).drew);rintro e w6 ⟨rfl,hB⟩;(first | (have HB6:Hid (Below w5.heap.size w5 w6):=hB.undrew;clear hB) | (have HA6:=Lib.hid ((one_arg (P:=fun n=>w.heap.size + 1≤n) (IsEP.mono (fun t _ (ht:w3.heap.size≤t)=>by omega) HX5.out) rfl (by omega)).below hB.undrew);have HB6:=Lib.hid (((Below.refl _ _).alloc (Nat.le_refl _) _).trans (hB.undrew.mono (by simp)));clear hB));have hbx:=HBX.out.below HB6.out;have c6:=hbx.cell;have r6:=R5.out.below HB6.out;have c7:=r6.cell;have f7:=r6.frozen;simp only [zeroE] at c7;have hz6:=r6.lt;clear hbx r6)
    all_goals
     go_wp2
     first
     |have E:=Lib.hid (notEnd2 (d:=d) (w:=w) (p:=(tkAt l i).pos) (e:=(tkAt l (j - 1)).stop) (q:=j) HA6.out (S5.out.step HB6.out) (K5.out.then_below HB6.out) hbl)
      refine bodyPost_ret (v:=.agg #[.int .i64 10,.int .i64 (tkAt l i).pos,.int .i64 (tkAt l (j - 1)).stop,.string ⟨#[]⟩,.int .i64 0,.int .i64 0,.int .i64 0,.string ⟨#[]⟩,.string ⟨#[]⟩,.slice none 0 0,.slice (some ⟨w5.heap.size,0,none⟩) 1 1]) (by simp [results,Tryz.results67,go_sem,c7]) rfl ?_
      exact ⟨_,rfl,E.out.1,E.out.2.1,E.out.2.2⟩
     |have E:=Lib.hid (notEnd (d:=d) (w:=w) (p:=(tkAt l i).pos) (e:=(tkAt l (j - 1)).stop) (q:=j) (IsEP.mono (fun t _ (ht:w3.heap.size≤t)=>by omega) (HX5.out.below HB6.out)) (S5.out.step HB6.out) (K5.out.then_below HB6.out) hbl hz6)
      refine bodyPost_ret (v:=.agg #[.int .i64 10,.int .i64 (tkAt l i).pos,.int .i64 (tkAt l (j - 1)).stop,.string ⟨#[]⟩,.int .i64 0,.int .i64 0,.int .i64 0,.string ⟨#[]⟩,.string ⟨#[]⟩,.slice none 0 0,.slice (some ⟨w6.heap.size,0,none⟩) 1 1]) (by simp [results,Tryz.results67,go_sem,c7,hz6]) rfl ?_
      exact ⟨_,rfl,E.out.1,E.out.2.1,E.out.2.2⟩
end
end Go.Proofs.YtfcgoainglpdlaaGreatDoor
namespace Go.Proofs.YtfcgoainglpdlaaGreatDoor
open Go.RowKit
open Go.Lib hiding intOf
def ins (l:List TZ) (f:Nat) (z:UInt8) (d:Nat) (i:Int):EO EX :=
 if 30≤d then .err (tkAt l i).pos 6 else
 match ex l f 1 (d + 1) (i + 1) with
 |.ok y j=>if isS (tkAt l j) z then .ok y (j + 1) else .err (tkAt l j).pos 5
 |.err p c=>.err p c
 |.out=>.out
section
variable {b c m:Nat} {o:Option Addr} {l:List TZ}
theorem inside_any {f:Nat} (hn:l.length≤1073741824) (HL:LevC b o c m l f) (a z:UInt8) (d:Nat) (i:Int) (w:World) (hd:d≤30) (S:PS b o c m l i d w) (ha:isS (tkAt l i) a=true) (hr:ins l f z d i≠.out) :
  Calls Tryz.prog 122 #[.pointer (some ⟨b,0,none⟩),.string ⟨#[a]⟩,.string ⟨#[z]⟩] w (Tel b o c m l d w (ins l f z d i)):=by
 have H:=Lib.hid S
 have hbl:=S.lt
 have HN:=Lib.hid hn
 have HD:=Lib.hid hd
 have hkt:isKT (tkAt l i) 4 ⟨#[a]⟩=true:=by rw [isKT_S];exact ha
 have HKT:=Lib.hid hkt
 clear S hn hd hkt ha
 unfold ins at hr ⊢
 by_cases h30:30≤d
 ·have hd30:d=30:=by have:=HD.out;omega
  rw [if_pos h30]
  have HX:=Lib.hid (fun (W:World) (h:PS b o c m l i d W)=>enter_deep (y:=⟨#[a]⟩) (by rw [hd30] at h;exact h) HN.out HKT.out)
  clear hr HL h30 hd30
  go_enter Tryz.func122,Tryz.ntmps122
  go_wp2_with fail
  refine (HX.out _ (H.out.alloc _)).mono ?_
  rintro e w3 ⟨rfl,hK⟩
  have K3:=Lib.hid (((Kp.refl b w).alloc _).trans hK)
  clear hK
  go_wp2
  exact ⟨rfl,rfl,K3.out⟩
 ·rw [if_neg h30] at hr ⊢
  have HX:=Lib.hid (fun (W:World) (h:PS b o c m l i d W)=>enter_ok (y:=⟨#[a]⟩) h HN.out HKT.out (by omega))
  have HD1:Hid (d + 1≤30):=by show d + 1≤30;omega
  clear h30
  cases hq:ex l f 1 (d + 1) (i + 1) with
  |out=>rw [hq] at hr;exact (hr rfl).elim
  |err p q =>
   have HC:=Lib.hid (fun (W:World) (h:PS b o c m l (i + 1) ((d + 1:Nat):Int) W)=>HL 1 1 (d + 1) (i + 1) W rfl (by decide) (by decide) HD1.out h (by rw [hq];simp))
   rw [hq] at HC
   clear hq hr HL
   go_enter Tryz.func122,Tryz.ntmps122
   go_wp2_with fail
   refine (HX.out _ (H.out.alloc _)).mono ?_
   rintro e w3 ⟨rfl,hS,hK⟩
   have S3:=Lib.hid hS
   have K3:=Lib.hid (((Kp.refl b w).alloc _).trans hK)
   clear hK hS
   go_wp2_with fail
   refine (HC.out _ (by rw [Int.natCast_add];exact S3.out)).mono ?_
   rintro e w4 ⟨rfl,hK⟩
   have K4:=Lib.hid (K3.out.trans hK)
   clear hK
   go_wp2
   exact ⟨rfl,rfl,K4.out⟩
  |ok x j =>
   have HC:=Lib.hid (fun (W:World) (h:PS b o c m l (i + 1) ((d + 1:Nat):Int) W)=>HL 1 1 (d + 1) (i + 1) W rfl (by decide) (by decide) HD1.out h (by rw [hq];simp))
   rw [hq] at HC
   clear hq hr HL
   cases hz:isS (tkAt l j) z
   ·have hkz:isKT (tkAt l j) 4 ⟨#[z]⟩=false:=by rw [isKT_S];exact hz
    have HV:=Lib.hid (fun (W:World) (d:Int) (h:PS b o c m l j d W)=>leave_no (y:=⟨#[z]⟩) h HN.out hkz)
    show Calls _ _ _ _ (Tel b o c m l d w (if isS (tkAt l j) z=true then _ else _))
    rw [hz,if_neg (by decide)]
    clear hkz hz
    go_enter Tryz.func122,Tryz.ntmps122
    go_wp2_with fail
    refine (HX.out _ (H.out.alloc _)).mono ?_
    rintro e w3 ⟨rfl,hS,hK⟩
    have S3:=Lib.hid hS
    have K3:=Lib.hid (((Kp.refl b w).alloc _).trans hK)
    clear hK hS
    go_wp2_with fail
    refine (HC.out _ (by rw [Int.natCast_add];exact S3.out)).mono ?_
    rintro e w4 ⟨v,rfl,hx,hS,hK⟩
    obtain ⟨n,nm,tk,tp,tg,tn,tz,ta,o',c',rfl,_⟩:=hx.parts
    have S4:=Lib.hid (hS.alloc (.cells #[.int .i64 x.kind,.int .i64 x.pos,.int .i64 x.stop,.string nm,.int .i64 n,.int .i64 tk,.int .i64 tp,.string tg,.string tn,.slice tz ta ta,.slice o' x.args.length c'] 31))
    have K4:=Lib.hid ((K3.out.trans hK).alloc (.cells #[.int .i64 x.kind,.int .i64 x.pos,.int .i64 x.stop,.string nm,.int .i64 n,.int .i64 tk,.int .i64 tp,.string tg,.string tn,.slice tz ta ta,.slice o' x.args.length c'] 31))
    clear hx hS hK
    go_wp2_with fail
    refine (HV.out _ _ S4.out).mono ?_
    rintro e w5 ⟨rfl,hK⟩
    have K5:=Lib.hid (K4.out.trans hK)
    clear hK
    go_wp2
    exact ⟨rfl,rfl,K5.out⟩
   ·have hkz:isKT (tkAt l j) 4 ⟨#[z]⟩=true:=by rw [isKT_S];exact hz
    have HV:=Lib.hid (fun (W:World) (h:PS b o c m l j ((d:Nat) + 1) W)=>leave_ok (y:=⟨#[z]⟩) h HN.out hkz (by have:=HD1.out;omega))
    show Calls _ _ _ _ (Tel b o c m l d w (if isS (tkAt l j) z=true then _ else _))
    rw [hz,if_pos rfl]
    clear hkz hz
    go_enter Tryz.func122,Tryz.ntmps122
    go_wp2_with fail
    refine (HX.out _ (H.out.alloc _)).mono ?_
    rintro e w3 ⟨rfl,hS,hK⟩
    have S3:=Lib.hid hS
    have K3:=Lib.hid (((Kp.refl b w).alloc _).trans hK)
    have R3:=Lib.hid ((Blk.new w 31 zeroE).kp hK (by omega))
    have hz3:w.heap.size < w3.heap.size:=R3.out.lt
    clear hK hS
    go_wp2_with fail
    refine (HC.out _ (by rw [Int.natCast_add];exact S3.out)).mono ?_
    rintro e w4 ⟨v,rfl,hx,hS,hK⟩
    obtain ⟨n,nm,tk,tp,tg,tn,tz,ta,o',c',rfl,_⟩:=hx.parts
    rw [Int.natCast_add] at hS
    have HX4:=Lib.hid (IsEP.alloc hx (.cells #[.int .i64 x.kind,.int .i64 x.pos,.int .i64 x.stop,.string nm,.int .i64 n,.int .i64 tk,.int .i64 tp,.string tg,.string tn,.slice tz ta ta,.slice o' x.args.length c'] 31))
    have S4:=Lib.hid (hS.alloc (.cells #[.int .i64 x.kind,.int .i64 x.pos,.int .i64 x.stop,.string nm,.int .i64 n,.int .i64 tk,.int .i64 tp,.string tg,.string tn,.slice tz ta ta,.slice o' x.args.length c'] 31))
    have K4:=Lib.hid ((K3.out.trans hK).alloc (.cells #[.int .i64 x.kind,.int .i64 x.pos,.int .i64 x.stop,.string nm,.int .i64 n,.int .i64 tk,.int .i64 tp,.string tg,.string tn,.slice tz ta ta,.slice o' x.args.length c'] 31))
    have R4:=Lib.hid ((R3.out.kp hK (by omega)).alloc (.cells #[.int .i64 x.kind,.int .i64 x.pos,.int .i64 x.stop,.string nm,.int .i64 n,.int .i64 tk,.int .i64 tp,.string tg,.string tn,.slice tz ta ta,.slice o' x.args.length c'] 31))
    have X4:=Lib.hid (Blk.new w4 31 #[.int .i64 x.kind,.int .i64 x.pos,.int .i64 x.stop,.string nm,.int .i64 n,.int .i64 tk,.int .i64 tp,.string tg,.string tn,.slice tz ta ta,.slice o' x.args.length c'])
    have hz34:w3.heap.size≤w4.heap.size:=hK.size
    clear hx hS hK
    go_wp2_with fail
    refine (HV.out _ S4.out).mono ?_
    rintro e w5 ⟨rfl,hS,hK⟩
    rw [show ((d:Nat):Int) + 1 - 1=(d:Nat) by omega] at hS
    have S5:=Lib.hid hS
    have K5:=Lib.hid (K4.out.trans hK)
    have hr5:=R4.out.kp hK (by omega)
    have hx5:=X4.out.kp hK (by omega)
    have HX5:=Lib.hid (IsEX.kp HX4.out hK (by omega))
    have c5:=hx5.cell
    have r5:=hr5.cell
    have f5:=hr5.frozen
    have hz5:w4.heap.size < w5.heap.size:=hx5.lt
    have hz6:w.heap.size < w5.heap.size:=hr5.lt
    simp only [zeroE] at r5
    clear hS hK hr5 hx5
    go_wp2
    refine bodyPost_ret (v:=.agg #[.int .i64 x.kind,.int .i64 x.pos,.int .i64 x.stop,.string nm,.int .i64 n,.int .i64 tk,.int .i64 tp,.string tg,.string tn,.slice tz ta ta,.slice o' x.args.length c']) (by simp [results,Tryz.results122,go_sem,r5]) rfl ?_
    refine ⟨_,rfl,?_,?_,?_⟩
    ·exact (HX5.out.set11 (by omega) _ _ _ _ _ _ _ _ _ _ _).mono (by omega)
    ·exact S5.out.set11 hbl _ _ _ _ _ _ _ _ _ _ _
    ·exact set11_kp K5.out (.inl (Nat.le_refl _)) _ _ _ _ _ _ _ _ _ _ _
end
end Go.Proofs.YtfcgoainglpdlaaGreatDoor
namespace Go.Proofs.YtfcgoainglpdlaaGreatDoor
open Go.RowKit
open Go.Lib hiding intOf
theorem add_none' (g off n:Nat):(⟨g,off,none⟩:Addr).add n=⟨g,off + n,none⟩:=by
 unfold Addr.add
 split
 ·next h=>rw [h];rfl
 ·rfl
theorem run_append_tells {P:Program} (w:World) (base:Nat) (t ty e:TypeId) (i:TypeInfo) (z:Value) (size bytes:Nat) (ht:P.underlying t=some (.slice e)) (hi:P.info? e=some i) (hz:i.zero=some z)
  (hsize:i.size=size) (hby:i.bytes=bytes) (hzs:z.cells.size=size) (hsz:0 < size)
  (v:Value) (n:Nat) (xs:List Value) (hown:w.ownsRow base e size v n xs)
  (a:Addr) (m c:Nat) (news:List Value) (hl:news.length=m * size) (hnews:∀ j u,news[j]?=some u→w.cell? (a.add j)=some u) (h1:∀ u ∈ news,u.oneCell'=true)
  (h63:n + m≤maxLen) (hbytes:(n + m) * bytes≤140737488355328) (hbase:base≤w.heap.size) (hm:0 < m) :
  ∃ v' w',(Builtin.append_ #[t,t] ty #[v,.slice (some a) m c]).run P w=.ok v' w'∧w'.ownsRow base e size v' (n + m) (xs++news) ∧
   ((∃ cap,v'=.slice (some ⟨w.heap.size,0,none⟩) (n + m) cap∧w.grownBy w' none)∨∃ g cap,v=.slice (some ⟨g,0,none⟩) n cap∧v'=.slice (some ⟨g,0,none⟩) (n + m) cap∧w.grownBy w' (some g)):=by
 obtain ⟨v',w',hrun,r1,r2,_⟩:=run_append_own (P:=P) w base t ty e i z size bytes ht hi hz hsize hby hzs hsz v n xs hown a m c news hl hnews h1 h63 hbytes hbase
 refine ⟨v',w',hrun,r1,?_⟩
 have hlim:n + m≤9223372036854775807:=by simp only [maxLen] at h63;omega
 have fresh:∀ o:Obj,w.grownBy (w.drew.alloc o) none:=fun o=>⟨rfl,rfl,rfl,by simp,fun k hk _=>Below.heap_alloc w.drew _ k hk⟩
 rcases hown.2 with ⟨rfl,rfl⟩ | ⟨g,cap,cur,rfl,hbg,hg,hnc,hcm,hcs,htake⟩
 ·have hr:=run_append_nil (P:=P) w t ty e i z ht hi hz a m c news (by rw [hsize];exact hl) hnews hm (by omega) (by rw [hby];have hb:=hbytes;simp only [Nat.zero_add] at hb;omega)
  have hh:=hrun.symm.trans hr
  injection hh with hv hw
  subst hw
  exact .inl ⟨_,by rw [hv,Nat.zero_add],fresh _⟩
 ·by_cases hroom:n + m≤cap
  ·obtain ⟨w2,hr,_,_⟩:=run_append_fits (P:=P) w base t ty e i size ht hi hsize g n cap xs hown a m c news hl hnews h1 hroom
   have hh:=hrun.symm.trans hr
   injection hh with hv hw
   exact .inr ⟨g,cap,rfl,hv,r2⟩
  ·have hr:=run_append_grow (P:=P) w t ty e i z ht hi hz ⟨g,0,none⟩ n cap xs (by rw [hsize];exact hown.1) (hown.cells (g:=g) rfl) a m c news (by rw [hsize];exact hl) hnews (by omega) (by omega) (by rw [hby];exact growslice_fits (by omega) hbytes)
   have hh:=hrun.symm.trans hr
   injection hh with hv hw
   subst hw
   exact .inl ⟨_,hv,fresh _⟩
def Ch (P:Nat→Prop) (w:World):List EX→List (List Value)→Prop
 |[],[]=>True
 |x::xs,c::cs=>c.length=11∧IsEP P w x (.agg c.toArray)∧Ch P w xs cs
 |_,_=>False
theorem Ch.len {P:Nat→Prop} {w:World}:∀ {xs:List EX} {cs:List (List Value)},Ch P w xs cs→cs.flatten.length=xs.length * 11
 |[],[],_=>rfl
 |x::xs,c::cs,h=>by
  unfold Ch at h
  rw [List.flatten_cons,List.length_append,h.1,Ch.len h.2.2,List.length_cons];omega
 |[],_::_,h=>by unfold Ch at h;exact h.elim
 |_::_,[],h=>by unfold Ch at h;exact h.elim
theorem Ch.keep {P P':Nat→Prop} {w w':World} (hP:∀ (b i:Nat) (u:Value),P b→w.cell? ⟨b,i,none⟩=some u→P' b) (hk:∀ (b i:Nat) (u:Value),P b→w.cell? ⟨b,i,none⟩=some u→w'.cell? ⟨b,i,none⟩=some u):∀ {xs:List EX} {cs:List (List Value)},Ch P w xs cs→Ch P' w' xs cs
 |[],[],_=>by unfold Ch;trivial
 |x::xs,c::cs,h=>by
  unfold Ch at h ⊢
  exact ⟨h.1,h.2.1.keep hP hk,Ch.keep hP hk h.2.2⟩
 |[],_::_,h=>by unfold Ch at h;exact h.elim
 |_::_,[],h=>by unfold Ch at h;exact h.elim
theorem Ch.below {P:Nat→Prop} {w w':World} {xs:List EX} {cs:List (List Value)} (h:Ch P w xs cs) (hb:Below w.heap.size w w'):Ch P w' xs cs :=
 h.keep (fun _ _ _ h _=>h) fun _ _ _ _ hc=>(hb.cell (World.block_lt_of_cell? _ _ hc)).trans hc
theorem Ch.mono {P P':Nat→Prop} {w:World} {xs:List EX} {cs:List (List Value)} (hP:∀ k,k < w.heap.size→P k→P' k) (h:Ch P w xs cs):Ch P' w xs cs :=
 h.keep (fun b i _ hb hc=>hP b (World.block_lt_of_cell? w ⟨b,i,none⟩ hc) hb) fun _ _ _ _ hc=>hc
theorem Ch.kp {P:Nat→Prop} {b:Nat} {w w':World} {xs:List EX} {cs:List (List Value)} (h:Ch P w xs cs) (hk:Kp b w w') (hb:¬ P b):Ch P w' xs cs :=
 h.keep (fun _ _ _ h _=>h) fun k i u hP hc=>by
  have e:w'.heap[k]?=w.heap[k]?:=hk.block k (World.block_lt_of_cell? w ⟨k,i,none⟩ hc) (fun e=>hb (e ▸ hP))
  exact (World.cell?_of_block (w:=w) (a:=⟨k,i,none⟩) e).trans hc
theorem Ch.grown {P:Nat→Prop} {w w':World} {row:Option Nat} {xs:List EX} {cs:List (List Value)} (h:Ch P w xs cs) (hg:w.grownBy w' row) (hr:∀ k,row=some k→¬ P k):Ch P w' xs cs :=
 h.keep (fun _ _ _ h _=>h) fun k i u hP hc=>by
  have e:w'.heap[k]?=w.heap[k]?:=hg.block k (World.block_lt_of_cell? w ⟨k,i,none⟩ hc) (fun e=>hr k e.symm hP)
  exact (World.cell?_of_block (w:=w) (a:=⟨k,i,none⟩) e).trans hc
theorem Ch.snoc {P:Nat→Prop} {w:World} {y:EX} {d:List Value} (hd:d.length=11) (hy:IsEP P w y (.agg d.toArray)):∀ {xs:List EX} {cs:List (List Value)},Ch P w xs cs→Ch P w (xs++[y]) (cs++[d])
 |[],[],_=>by unfold Ch;exact ⟨hd,hy,by unfold Ch;trivial⟩
 |x::xs,c::cs,h=>by
  unfold Ch at h
  show Ch P w (x::(xs++[y])) (c::(cs++[d]))
  unfold Ch
  exact ⟨h.1,h.2.1,Ch.snoc hd hy h.2.2⟩
 |[],_::_,h=>by unfold Ch at h;exact h.elim
 |_::_,[],h=>by unfold Ch at h;exact h.elim
theorem agg_one {P:Nat→Prop} {w:World} {x:EX} {c:List Value} (h:IsEP P w x (.agg c.toArray)):∀ u ∈ c,u.oneCell'=true:=by
 obtain ⟨n,nm,tk,tp,tg,tn,tz,ta,o,c',e,_⟩:=h.parts
 injection e with e
 have e2:c=[.int .i64 x.kind,.int .i64 x.pos,.int .i64 x.stop,.string nm,.int .i64 n,.int .i64 tk,.int .i64 tp,.string tg,.string tn,.slice tz ta ta,.slice o x.args.length c']:=by
  have:=congrArg Array.toList e
  simpa using this
 subst e2
 intro u hu
 simp only [List.mem_cons,List.not_mem_nil,or_false] at hu
 rcases hu with rfl | rfl | rfl | rfl | rfl | rfl | rfl | rfl | rfl | rfl | rfl <;> rfl
theorem Ch.one {P:Nat→Prop} {w:World}:∀ {xs:List EX} {cs:List (List Value)},Ch P w xs cs→∀ u ∈ cs.flatten,u.oneCell'=true
 |[],[],_,u,hu=>by simp at hu
 |x::xs,c::cs,h,u,hu=>by
  unfold Ch at h
  rw [List.flatten_cons,List.mem_append] at hu
  rcases hu with hu | hu
  ·exact agg_one h.2.1 u hu
  ·exact Ch.one h.2.2 u hu
 |[],_::_,h,_,_=>by unfold Ch at h;exact h.elim
 |_::_,[],h,_,_=>by unfold Ch at h;exact h.elim
theorem Ch.eps {P:Nat→Prop} {w:World} {g:Nat} (hg:P g):∀ {xs:List EX} {cs:List (List Value)} {i:Nat},Ch P w xs cs→(∀ j u,cs.flatten[j]?=some u→w.cell? ⟨g,i * 11 + j,none⟩=some u)→IsEPs P w (some ⟨g,0,none⟩) i xs
 |[],[],_,_,_=>by unfold IsEPs;trivial
 |x::xs,c::cs,i,h,hc=>by
  unfold Ch at h
  unfold IsEPs
  obtain ⟨h1,h2,h3⟩:=h
  match c,h1,h2,hc with
  |[c0,c1,c2,c3,c4,c5,c6,c7,c8,c9,c10],_,h2,hc =>
   refine ⟨⟨g,c0,c1,c2,c3,c4,c5,c6,c7,c8,c9,c10,rfl,hg,hc 0 _ rfl,hc 1 _ rfl,hc 2 _ rfl,hc 3 _ rfl,hc 4 _ rfl,hc 5 _ rfl,hc 6 _ rfl,hc 7 _ rfl,hc 8 _ rfl,hc 9 _ rfl,hc 10 _ rfl,h2⟩,Ch.eps hg h3 fun j u hj=>?_⟩
   have h4:=hc (11 + j) u (by rw [List.flatten_cons,List.getElem?_append_right (by simp)];simpa using hj)
   rw [show (i + 1) * 11 + j=i * 11 + (11 + j) by omega]
   exact h4
 |[],_::_,_,h,_=>by unfold Ch at h;exact h.elim
 |_::_,[],_,h,_=>by unfold Ch at h;exact h.elim
def RowE (base:Nat) (w:World) (v:Value) (xs:List EX):Prop :=
 ∃ cs:List (List Value),w.ownsRow base 31 11 v xs.length cs.flatten∧Ch (fun q=>base≤q∧some q≠v.ownBlock) w xs cs
theorem RowE.nil (base:Nat) (w:World):RowE base w (.slice none 0 0) []:=⟨[],World.ownsRow_nil _ _ _ _,by unfold Ch;trivial⟩
theorem RowE.slice {base:Nat} {w:World} {v:Value} {xs:List EX} (h:RowE base w v xs):∃ o cap,v=.slice o xs.length cap:=by
 obtain ⟨cs,h,_⟩:=h
 rcases h.2 with ⟨h,h0⟩ | ⟨g,cap,cur,h,_⟩
 ·exact ⟨none,0,by rw [h,h0]⟩
 ·exact ⟨_,cap,h⟩
theorem RowE.cap {base:Nat} {w:World} {o:Option Addr} {n c:Nat} {xs:List EX} (h:RowE base w (.slice o n c) xs):xs.length≤c∧c≤maxLen:=by
 obtain ⟨cs,h,_⟩:=h
 rcases h.2 with ⟨h,h0⟩ | ⟨g,cap,cur,h,_,_,h1,h2,_⟩
 ·injection h with _ _ h
  subst h
  exact ⟨by omega,Nat.zero_le _⟩
 ·injection h with _ _ h
  subst h
  exact ⟨h1,h2⟩
theorem RowE.kp {base b:Nat} {w w':World} {v:Value} {xs:List EX} (h:RowE base w v xs) (hk:Kp b w w') (hb:b < base):RowE base w' v xs:=by
 obtain ⟨cs,h1,h2⟩:=h
 refine ⟨cs,?_,h2.kp hk (fun h=>by have:=h.1;omega)⟩
 refine ⟨h1.1,?_⟩
 rcases h1.2 with h | ⟨g,cap,cur,h,hbg,hg,r⟩
 ·exact .inl h
 ·refine .inr ⟨g,cap,cur,h,hbg,?_,r⟩
  rw [hk.block g (Array.getElem?_eq_some_iff.1 hg).1 (by omega)];exact hg
theorem RowE.alloc {base:Nat} {w:World} {v:Value} {xs:List EX} (h:RowE base w v xs) (o:Obj):RowE base (w.alloc o) v xs:=by
 obtain ⟨cs,h1,h2⟩:=h
 exact ⟨cs,h1.alloc o,h2.below ((Below.refl _ _).alloc (Nat.le_refl _) o)⟩
theorem RowE.eps {base:Nat} {w:World} {v:Value} {xs:List EX} (h:RowE base w v xs):∃ o cap,v=.slice o xs.length cap∧IsEPs (fun q=>base≤q) w o 0 xs:=by
 obtain ⟨cs,h1,h2⟩:=h
 rcases h1.2 with ⟨rfl,h0⟩ | ⟨g,cap,cur,rfl,hbg,hg,r⟩
 ·have:xs=[]:=List.length_eq_zero_iff.1 h0
  subst this
  exact ⟨none,0,rfl,by unfold IsEPs;trivial⟩
 ·refine ⟨_,cap,rfl,Ch.eps (P:=fun q=>base≤q) (w:=w) hbg (h2.keep (fun _ _ _ h _=>h.1) fun _ _ _ _ h=>h) fun j u hj=>?_⟩
  rw [Nat.zero_mul,Nat.zero_add,h1.cellAt j (by have:=(List.getElem?_eq_some_iff.1 hj).1;have:=h2.len;omega)]
  exact hj
theorem Tryz.infoE:(Tryz.prog.info? 31).map (fun i=>(i.zero,i.size,i.bytes))=some (some (.agg zeroE),11,144):=by kernel_rfl
theorem below_grown' {base:Nat} {w w':World} {row:Option Nat} (hg:w.grownBy w' row) (hb:base≤w.heap.size) (hr:∀ k,row=some k→base≤k):Below base w w':=(Below.refl _ _).grown hg hb hr
theorem append_one (base:Nat) (ty:TypeId) (W:World) (v:Value) (xs:List EX) (hv:RowE base W v xs) (B:Nat) (hbase:base≤B) (hB:∀ g,v.ownBlock=some g→g < B) (y:EX) (y0 y1 y2 y3 y4 y5 y6 y7 y8 y9 y10:Value) (hy:IsEX B W y (.agg #[y0,y1,y2,y3,y4,y5,y6,y7,y8,y9,y10])) (hBW:B≤W.heap.size) (hn:xs.length + 1≤1073741824) :
  ∃ v' w',(Builtin.append_ #[29,29] ty #[v,.slice (some ⟨W.heap.size,0,none⟩) 1 1]).run Tryz.prog (W.alloc (.cells #[y0,y1,y2,y3,y4,y5,y6,y7,y8,y9,y10] 31))=.ok v' w'∧RowE base w' v' (xs++[y])∧Below base (W.alloc (.cells #[y0,y1,y2,y3,y4,y5,y6,y7,y8,y9,y10] 31)) w':=by
 obtain ⟨i0,hi,hi'⟩:=Option.map_eq_some_iff.1 Tryz.infoE
 simp only [Prod.mk.injEq] at hi'
 obtain ⟨hz0,hz1,hz2⟩:=hi'
 obtain ⟨cs,hown,hch⟩:=hv
 have hown1:=hown.alloc (.cells #[y0,y1,y2,y3,y4,y5,y6,y7,y8,y9,y10] 31)
 have hch1:=hch.below ((Below.refl _ _).alloc (Nat.le_refl _) (.cells #[y0,y1,y2,y3,y4,y5,y6,y7,y8,y9,y10] 31))
 have hy1:=IsEP.alloc hy (.cells #[y0,y1,y2,y3,y4,y5,y6,y7,y8,y9,y10] 31)
 have hnew:=(Blk.new W 31 #[y0,y1,y2,y3,y4,y5,y6,y7,y8,y9,y10]).cell
 have h1c:∀ u ∈ [y0,y1,y2,y3,y4,y5,y6,y7,y8,y9,y10],u.oneCell'=true:=agg_one (c:=[y0,y1,y2,y3,y4,y5,y6,y7,y8,y9,y10]) hy
 obtain ⟨v',w',hrun,hown',hcase⟩:=run_append_tells (P:=Tryz.prog) (W.alloc (.cells #[y0,y1,y2,y3,y4,y5,y6,y7,y8,y9,y10] 31)) base 29 ty 31 i0 (.agg zeroE) 11 144 Tryz.underlying29 hi hz0 hz1 hz2 rfl (by decide) v xs.length cs.flatten hown1
  ⟨W.heap.size,0,none⟩ 1 1 [y0,y1,y2,y3,y4,y5,y6,y7,y8,y9,y10] rfl (fun j u hu=>by rw [add_none',Nat.zero_add,hnew j];simpa using hu) h1c (by unfold maxLen;omega) (by omega) (by simp;omega) (by decide)
 refine ⟨v',w',hrun,⟨cs++[[y0,y1,y2,y3,y4,y5,y6,y7,y8,y9,y10]],?_,?_⟩,?_⟩
 ·rw [List.length_append,List.flatten_append];simpa using hown'
 ·rcases hcase with ⟨cap,rfl,hg⟩ | ⟨g,cap,rfl,rfl,hg⟩
  ·refine Ch.snoc rfl ?_ (Ch.mono (fun k hk hp=>⟨hp.1,by intro e;simp only [Value.ownBlock,Option.some.injEq,World.size_alloc] at e hk;omega⟩) (hch1) |>.grown hg (fun k e=>by cases e))
   exact (IsEP.mono (fun k hk (hp:B≤k)=>⟨by omega,by intro e;simp only [Value.ownBlock,Option.some.injEq,World.size_alloc] at e hk;omega⟩) hy1).keep (fun _ _ _ h _=>h) fun k i u hP hc=>by
    have e:w'.heap[k]?=_:=hg.block k (World.block_lt_of_cell? _ ⟨k,i,none⟩ hc) (by simp)
    exact (World.cell?_of_block (a:=⟨k,i,none⟩) e).trans hc
  ·have hgB:=hB g rfl
   refine Ch.snoc rfl ?_ (hch1.grown hg (fun k e hp=>by cases e;exact hp.2 rfl))
   exact (IsEP.mono (P':=fun q=>base≤q∧some q≠(Value.slice (some ⟨g,0,none⟩) (xs.length + 1) cap).ownBlock) (fun k hk (hp:B≤k)=>⟨by omega,by intro e;simp only [Value.ownBlock,Option.some.injEq] at e;omega⟩) hy1).keep (fun _ _ _ h _=>h) fun k i u hP hc=>by
    have e:w'.heap[k]?=_:=hg.block k (World.block_lt_of_cell? _ ⟨k,i,none⟩ hc) (fun e=>hP.2 (by simp only [Value.ownBlock,Option.some.injEq] at e ⊢;exact e))
    exact (World.cell?_of_block (a:=⟨k,i,none⟩) e).trans hc
 ·rcases hcase with ⟨cap,rfl,hg⟩ | ⟨g,cap,rfl,rfl,hg⟩
  ·exact below_grown' hg (by simp;omega) (fun k e=>by cases e)
  ·refine below_grown' hg (by simp;omega) (fun k e=>?_)
   cases e
   rcases hown.2 with ⟨h,_⟩ | ⟨g',cap',cur,h,hbg,_⟩
   ·cases h
   ·injection h with h
    injection h with h
    injection h with h
    omega
theorem wpList_append_one {ops:Array Oper} {rest:List Oper} {o:Oper} {a:Act} {Q:Exit→Act→World→Prop} (hgd:o.guard=none) (s x:Operand)
  (ho:o.op=.call { callee:=.builtin .append,args:=#[s,x],argTypes:=#[29,29] }) (base:Nat) (W:World) (v:Value) (xs:List EX) (hs:a.eval s=v) (hx:a.eval x=.slice (some ⟨W.heap.size,0,none⟩) 1 1)
  (hv:RowE base W v xs) (B:Nat) (hbase:base≤B) (hB:∀ g,v.ownBlock=some g→g < B) (y:EX) (y0 y1 y2 y3 y4 y5 y6 y7 y8 y9 y10:Value) (hy:IsEX B W y (.agg #[y0,y1,y2,y3,y4,y5,y6,y7,y8,y9,y10])) (hBW:B≤W.heap.size) (hn:xs.length + 1≤1073741824)
  (h:∀ v' w',RowE base w' v' (xs++[y])→Below base (W.alloc (.cells #[y0,y1,y2,y3,y4,y5,y6,y7,y8,y9,y10] 31)) w'→wpList Tryz.prog ops Q rest (a.put o.dst v') w') :
  wpList Tryz.prog ops Q (o::rest) a (W.alloc (.cells #[y0,y1,y2,y3,y4,y5,y6,y7,y8,y9,y10] 31)):=by
 obtain ⟨v',w',hrun,h1,h2⟩:=append_one base o.type W v xs hv B hbase hB y y0 y1 y2 y3 y4 y5 y6 y7 y8 y9 y10 hy hBW hn
 refine wpList_plain hgd fun K hK=>?_
 unfold Oper.wp
 simp [execOp,ho,resolve,invoke,builtin,hs,hx,hrun,Result.andThen]
 exact hK _ _ (h v' w' h1 h2)
end Go.Proofs.YtfcgoainglpdlaaGreatDoor
namespace Go.Proofs.YtfcgoainglpdlaaGreatDoor
open Go.RowKit
open Go.Lib hiding intOf
def consE (y:EX):EO (List EX)→EO (List EX)
 |.ok ys q=>.ok (y::ys) q
 |.err p c=>.err p c
 |.out=>.out
def aft (l:List TZ) (f:Nat) (z:UInt8) (d:Nat) (j:Int):EO (List EX) :=
 if isS (tkAt l j) 44 then items l f z d (j + 1) else if isS (tkAt l j) z then .ok [] (j + 1) else .err (tkAt l j).pos 5
theorem items_ok {l:List TZ} {f:Nat} {z:UInt8} {d:Nat} {j:Int} {y:EX} {q:Int} (h:ex l f 1 (d + 1) j=.ok y q):items l (f + 1) z d j=consE y (aft l f z d q):=by
 rw [items,h]
 unfold aft
 simp only []
 split
 ·cases items l f z d (q + 1) <;> rfl
 ·split <;> rfl
theorem items_err {l:List TZ} {f:Nat} {z:UInt8} {d:Nat} {j:Int} {p k:Int} (h:ex l f 1 (d + 1) j=.err p k):items l (f + 1) z d j=.err p k:=by
 rw [items,h]
theorem items_out {l:List TZ} {f:Nat} {z:UInt8} {d:Nat} {j:Int} (h:ex l f 1 (d + 1) j=.out):items l (f + 1) z d j=.out:=by
 rw [items,h]
def pre (ys:List EX):EO (List EX)→EO (List EX)
 |.ok zs q=>.ok (ys++zs) q
 |.err p c=>.err p c
 |.out=>.out
theorem pre_cons (ys:List EX) (y:EX) (r:EO (List EX)):pre ys (consE y r)=pre (ys++[y]) r:=by
 cases r <;> simp [pre,consE]
theorem pre_nil (r:EO (List EX)):pre [] r=r:=by cases r <;> rfl
def rest (l:List TZ) (f:Nat) (z:UInt8) (d:Nat) (ys:List EX) (j:Int):EO (List EX) :=
 if ys=[] then (if isS (tkAt l j) z then .ok [] (j + 1) else items l f z d j) else aft l f z d j
theorem isS_two {t:TZ} {x y:UInt8} (h:isS t x=true) (hxy:x≠y):isS t y=false:=by
 unfold isS at h ⊢
 simp only [Bool.and_eq_true,decide_eq_true_eq] at h
 rw [h.2,decide_eq_false (p:=[x]=[y]) (fun e=>hxy (by injection e)),Bool.and_false]
theorem rest_shut {l:List TZ} {f:Nat} {z:UInt8} {d:Nat} {ys:List EX} {j:Int} (hz:z≠44) (h:isS (tkAt l j) z=true):rest l f z d ys j=.ok [] (j + 1):=by
 unfold rest
 by_cases hy:ys=[]
 ·rw [if_pos hy,if_pos h]
 ·rw [if_neg hy]
  unfold aft
  rw [if_neg (by rw [isS_two h hz];decide),if_pos h]
theorem rest_nil {l:List TZ} {f:Nat} {z:UInt8} {d:Nat} {j:Int} (h:isS (tkAt l j) z=false):rest l f z d [] j=items l f z d j:=by
 unfold rest
 rw [if_pos rfl,if_neg (by rw [h];decide)]
theorem rest_more {l:List TZ} {f:Nat} {z:UInt8} {d:Nat} {ys:List EX} {j:Int} (hy:ys≠[]) (h:isS (tkAt l j) 44=true):rest l f z d ys j=items l f z d (j + 1):=by
 unfold rest aft
 rw [if_neg hy,if_pos h]
theorem rest_bad {l:List TZ} {f:Nat} {z:UInt8} {d:Nat} {ys:List EX} {j:Int} (hy:ys≠[]) (hz:isS (tkAt l j) z=false) (h:isS (tkAt l j) 44=false):rest l f z d ys j=.err (tkAt l j).pos 5:=by
 unfold rest aft
 rw [if_neg hy,if_neg (by rw [h];decide),if_neg (by rw [hz];decide)]
theorem rest_snoc {l:List TZ} {f:Nat} {z:UInt8} {d:Nat} {ys:List EX} {y:EX} {j:Int}:rest l f z d (ys++[y]) j=aft l f z d j:=by
 unfold rest
 rw [if_neg (by simp)]
theorem RowE.own_lt {base:Nat} {w:World} {v:Value} {xs:List EX} (h:RowE base w v xs):∀ g,v.ownBlock=some g→g < w.heap.size:=by
 intro g hg
 obtain ⟨cs,h1,_⟩:=h
 rcases h1.2 with ⟨rfl,_⟩ | ⟨g',cap,cur,rfl,_,hh,_⟩
 ·cases hg
 ·simp only [Value.ownBlock,Option.some.injEq] at hg
  subst hg
  exact (Array.getElem?_eq_some_iff.1 hh).1
def TelL (b:Nat) (o:Option Addr) (c m:Nat) (l:List TZ) (d:Nat) (w:World) (r:EO (List EX)) (e:Ending) (w':World):Prop :=
 match r with
 |.ok ys j=>∃ o' cap,e=.returned (.slice o' ys.length cap)∧RowE w.heap.size w' (.slice o' ys.length cap) ys∧PS b o c m l j d w'∧Kp b w w'
 |.err p q=>e=.panicked (thrown p q)∧Kp b w w'
 |.out=>True
section
variable {b c m:Nat} {o:Option Addr} {l:List TZ}
theorem list_in {f:Nat} (hn:l.length≤1073741824) (IH:∀ g,g < f→LevC b o c m l g) (a z:UInt8) (hz:z≠44) (d:Nat) (i:Int) (w:World) (hd:d < 30) (S:PS b o c m l i d w) (ha:isS (tkAt l i) a=true) (hr:rest l f z d [] (i + 1)≠.out) :
  Calls Tryz.prog 121 #[.pointer (some ⟨b,0,none⟩),.string ⟨#[a]⟩,.string ⟨#[z]⟩] w (TelL b o c m l d w (rest l f z d [] (i + 1))):=by
 have hia:=isS_real ha
 have H:=Lib.hid S
 have hbl:=S.lt
 have HN:=Lib.hid hn
 have HZ:=Lib.hid hz
 have HD1:Hid (d + 1≤30):=by show d + 1≤30;omega
 have HIH:=Lib.hid IH
 have hkt:isKT (tkAt l i) 4 ⟨#[a]⟩=true:=by rw [isKT_S];exact ha
 have HX:=Lib.hid (enter_ok (y:=⟨#[a]⟩) S hn hkt (by omega))
 have HSE:=Lib.hid (fun (W:World) (j:Int) (h:PS b o c m l j ((d:Nat) + 1) W)=>sees_any h (by have:=HN.out;omega) ⟨#[z]⟩)
 obtain ⟨R,hR⟩:∃ R,rest l f z d [] (i + 1)=R:=⟨_,rfl⟩
 rw [hR] at hr ⊢
 have HRO:=Lib.hid hr
 have HR:Hid (pre [] (rest l f z d [] (i + 1))=R):=by show _=_;rw [pre_nil];exact hR
 have HI0:Hid ((0:Int)≤i + 1):=by show (0:Int)≤i + 1;omega
 clear S hn hz IH hkt ha hr hR hd hia
 go_enter Tryz.func121,Tryz.ntmps121
 go_wp2_with fail
 refine HX.out.mono ?_
 rintro e w1 ⟨rfl,hS,hK⟩
 have S1:=Lib.hid hS
 have K1:=Lib.hid hK
 clear hS hK
 go_wp2_with fail
 go_loopg [7] f (fun g v wr=>∃ (ys:List EX) (j:Int) (o':Option Addr) (cap:Nat),v=.slice o' ys.length cap∧Hid (pre ys (rest l g z d ys j)=R)∧Hid (RowE w.heap.size wr (.slice o' ys.length cap) ys)∧Hid (PS b o c m l j ((d:Nat) + 1) wr)∧Hid (Kp b w wr)∧g≤f∧Hid (((ys.length:Nat):Int)≤j))
 case atStart=>exact ⟨[],i + 1,none,0,rfl,HR,RowE.nil _ _,S1,K1,Nat.le_refl _,HI0.out⟩
 case round =>
  clear S1 K1 HR
  obtain ⟨ys,j,o',cap,rfl,HR,HV,HS,HK,hgf,HYJ⟩:=hrel
  have HS2:=Lib.hid (HSE.out _ j HS.out)
  rw [isKT_S] at HS2
  cases hzj:isS (tkAt l j) z
  ·rw [hzj] at HS2
   have HZJ:=Lib.hid hzj
   clear hzj
   go_wp2_with fail
   refine HS2.out.mono ?_
   rintro e w3 ⟨rfl,hB⟩
   have S3:=Lib.hid (HS.out.step hB)
   have K3:=Lib.hid (HK.out.then_below hB)
   have V3:=Lib.hid (HV.out.kp (b:=b) (.of_below hB) hbl)
   clear hB HS2
   rcases ys with _ | ⟨y0,yr⟩
   ·have hb:=HR.out
    rw [rest_nil HZJ.out] at hb
    cases gk with
    |zero=>rw [items] at hb;exact (HRO.out hb.symm).elim
    |succ gg =>
     cases hq:ex l gg 1 (d + 1) (j) with
     |out=>rw [items_out hq] at hb;exact (HRO.out hb.symm).elim
     |err p q =>
      have HC:=Lib.hid (fun (W:World) (h:PS b o c m l (j) ((d + 1:Nat):Int) W)=>HIH.out gg (by omega) 1 1 (d + 1) (j) W rfl (by decide) (by decide) HD1.out h (by rw [hq];simp))
      rw [hq] at HC
      rw [items_err hq] at hb
      have HB:=Lib.hid hb
      clear hb hq
      go_wp2_with fail
      refine (HC.out _ (by rw [Int.natCast_add];exact S3.out)).mono ?_
      rintro e w4 ⟨rfl,hK⟩
      have K4:=Lib.hid (K3.out.trans hK)
      clear hK
      go_wp2
      refine ⟨rfl,?_⟩
      rw [← HB.out]
      exact ⟨rfl,K4.out⟩
     |ok y q =>
      have HC:=Lib.hid (fun (W:World) (h:PS b o c m l (j) ((d + 1:Nat):Int) W)=>HIH.out gg (by omega) 1 1 (d + 1) (j) W rfl (by decide) (by decide) HD1.out h (by rw [hq];simp))
      have hrng:=(read_rng (l:=l) gg).1 _ _ _ _ _ (by decide) hq
      rw [hq] at HC
      rw [items_ok hq,pre_cons] at hb
      have HB:=Lib.hid hb
      have HQ:=Lib.hid hrng
      clear hb hq hrng
      go_wp2_with fail
      refine (HC.out _ (by rw [Int.natCast_add];exact S3.out)).mono ?_
      rintro e w4 ⟨v,rfl,hy,hS,hK⟩
      obtain ⟨n,nm,tk,tp,tg,tn,tz,ta,oy,cy,rfl,_⟩:=hy.parts
      rw [Int.natCast_add] at hS
      have S4:=Lib.hid hS
      have K4:=Lib.hid (K3.out.trans hK)
      have V4:=Lib.hid (V3.out.kp hK hbl)
      have OL:=Lib.hid V3.out.own_lt
      have HY:=Lib.hid hy
      have hz3:=K3.out.size
      have hz4:=hK.size
      have HLB:Hid (List.length ([]:List EX) + 1≤1073741824):=by
       have h1:=HQ.out
       have h2:=HYJ.out
       have h3:=HN.out
       show List.length ([]:List EX) + 1≤1073741824
       omega
      clear hy hS hK
      go_wp2_with (refine wpList_append_one rfl _ _ rfl w.heap.size w4 (.slice o' (List.length ([]:List EX)) cap) ([]:List EX) rfl rfl V4.out _ hz3 OL.out y _ _ _ _ _ _ _ _ _ _ _ HY.out hz4 HLB.out ?_;intro v' w' hrow hbel;obtain ⟨o2,cap2,rfl⟩:=hrow.slice;have V5:=Lib.hid hrow;have S5:=Lib.hid ((S4.out.alloc _).under (hbel.mono (by omega)));have K5:=Lib.hid ((K4.out.alloc _).then_base hbel);clear hrow hbel)
      go_roundg gg
      case measure=>omega
      case rel =>
       exact ⟨([]:List EX)++[y],q,o2,cap2,rfl,HB.out,V5.out,S5.out,K5.out,by omega,by show ((List.length (([]:List EX)++[y]):Nat):Int)≤q;have h1:=HQ.out;have h2:=HYJ.out;rw [List.length_append,List.length_singleton];omega⟩
   ·have hlen:(0:Int) < (((y0::yr).length:Nat):Int):=by simp
    cases hcm:isS (tkAt l j) 44
    ·have hb:=HR.out
     rw [rest_bad (by simp) HZJ.out hcm] at hb
     have HB:=Lib.hid hb
     have hkc:isKT (tkAt l j) 4 ⟨#[44]⟩=false:=by rw [isKT_S];exact hcm
     have HE:=Lib.hid (expect_no S3.out HN.out hkc)
     clear hb hkc hcm
     go_wp2_with fail
     refine HE.out.mono ?_
     rintro e w4 ⟨rfl,hK⟩
     have K4:=Lib.hid (K3.out.trans hK)
     clear hK
     go_wp2
     refine ⟨rfl,?_⟩
     rw [← HB.out]
     exact ⟨rfl,K4.out⟩
    ·have hb:=HR.out
     rw [rest_more (by simp) hcm] at hb
     have hkc:isKT (tkAt l j) 4 ⟨#[44]⟩=true:=by rw [isKT_S];exact hcm
     have HE:=Lib.hid (expect_ok S3.out HN.out hkc)
     clear hkc hcm
     go_wp2_with fail
     refine HE.out.mono ?_
     rintro e w5 ⟨rfl,hS,hK⟩
     have S5':=Lib.hid hS
     have K5':=Lib.hid (K3.out.trans hK)
     have V5':=Lib.hid (V3.out.kp hK hbl)
     clear hS hK HE
     cases gk with
     |zero=>rw [items] at hb;exact (HRO.out hb.symm).elim
     |succ gg =>
      cases hq:ex l gg 1 (d + 1) (j + 1) with
      |out=>rw [items_out hq] at hb;exact (HRO.out hb.symm).elim
      |err p q =>
       have HC:=Lib.hid (fun (W:World) (h:PS b o c m l (j + 1) ((d + 1:Nat):Int) W)=>HIH.out gg (by omega) 1 1 (d + 1) (j + 1) W rfl (by decide) (by decide) HD1.out h (by rw [hq];simp))
       rw [hq] at HC
       rw [items_err hq] at hb
       have HB:=Lib.hid hb
       clear hb hq
       go_wp2_with fail
       refine (HC.out _ (by rw [Int.natCast_add];exact S5'.out)).mono ?_
       rintro e w4 ⟨rfl,hK⟩
       have K4:=Lib.hid (K5'.out.trans hK)
       clear hK
       go_wp2
       refine ⟨rfl,?_⟩
       rw [← HB.out]
       exact ⟨rfl,K4.out⟩
      |ok y q =>
       have HC:=Lib.hid (fun (W:World) (h:PS b o c m l (j + 1) ((d + 1:Nat):Int) W)=>HIH.out gg (by omega) 1 1 (d + 1) (j + 1) W rfl (by decide) (by decide) HD1.out h (by rw [hq];simp))
       have hrng:=(read_rng (l:=l) gg).1 _ _ _ _ _ (by decide) hq
       rw [hq] at HC
       rw [items_ok hq,pre_cons] at hb
       have HB:=Lib.hid hb
       have HQ:=Lib.hid hrng
       clear hb hq hrng
       go_wp2_with fail
       refine (HC.out _ (by rw [Int.natCast_add];exact S5'.out)).mono ?_
       rintro e w4 ⟨v,rfl,hy,hS,hK⟩
       obtain ⟨n,nm,tk,tp,tg,tn,tz,ta,oy,cy,rfl,_⟩:=hy.parts
       rw [Int.natCast_add] at hS
       have S4:=Lib.hid hS
       have K4:=Lib.hid (K5'.out.trans hK)
       have V4:=Lib.hid (V5'.out.kp hK hbl)
       have OL:=Lib.hid V5'.out.own_lt
       have HY:=Lib.hid hy
       have hz3:=K5'.out.size
       have hz4:=hK.size
       have HLB:Hid (List.length (y0::yr) + 1≤1073741824):=by
        have h1:=HQ.out
        have h2:=HYJ.out
        have h3:=HN.out
        show List.length (y0::yr) + 1≤1073741824
        omega
       clear hy hS hK
       go_wp2_with (refine wpList_append_one rfl _ _ rfl w.heap.size w4 (.slice o' (List.length (y0::yr)) cap) (y0::yr) rfl rfl V4.out _ hz3 OL.out y _ _ _ _ _ _ _ _ _ _ _ HY.out hz4 HLB.out ?_;intro v' w' hrow hbel;obtain ⟨o2,cap2,rfl⟩:=hrow.slice;have V5:=Lib.hid hrow;have S5:=Lib.hid ((S4.out.alloc _).under (hbel.mono (by omega)));have K5:=Lib.hid ((K4.out.alloc _).then_base hbel);clear hrow hbel)
       go_roundg gg
       case measure=>omega
       case rel =>
        exact ⟨(y0::yr)++[y],q,o2,cap2,by rw [List.length_append];rfl,by show _=_;rw [rest_snoc];exact HB.out,V5.out,S5.out,K5.out,by omega,by show ((List.length ((y0::yr)++[y]):Nat):Int)≤q;have h1:=HQ.out;have h2:=HYJ.out;rw [List.length_append,List.length_singleton];omega⟩
  ·rw [hzj] at HS2
   have hkz:isKT (tkAt l j) 4 ⟨#[z]⟩=true:=by rw [isKT_S];exact hzj
   have HLV:=Lib.hid (fun (W:World) (h:PS b o c m l j ((d:Nat) + 1) W)=>leave_ok (y:=⟨#[z]⟩) h HN.out hkz (by have:=HD1.out;omega))
   have hb:=HR.out
   rw [rest_shut HZ.out hzj] at hb
   have HB:=Lib.hid hb
   clear hb hkz hzj
   go_wp2_with fail
   refine HS2.out.mono ?_
   rintro e w3 ⟨rfl,hB⟩
   have S3:=Lib.hid (HS.out.step hB)
   have K3:=Lib.hid (HK.out.then_below hB)
   have V3:=Lib.hid (HV.out.kp (b:=b) (.of_below hB) hbl)
   clear hB
   go_wp2_with fail
   refine (HLV.out _ S3.out).mono ?_
   rintro e w4 ⟨rfl,hS,hK⟩
   rw [show ((d:Nat):Int) + 1 - 1=(d:Nat) by omega] at hS
   have S4:=Lib.hid hS
   have K4:=Lib.hid (K3.out.trans hK)
   have V4:=Lib.hid (V3.out.kp hK hbl)
   clear hS hK
   go_wp2
   go_ret
   rw [← HB.out]
   show TelL b o c m l d w (.ok (ys++[]) (j + 1)) _ _
   rw [List.append_nil]
   exact ⟨o',cap,rfl,V4.out,S4.out,K4.out⟩
theorem lst_deep {f:Nat} {z:UInt8} {d:Nat} {i:Int} (h:30≤d):lst l (f + 1) z d i=.err (tkAt l i).pos 6:=by rw [lst,if_pos h]
theorem lst_in {f:Nat} {z:UInt8} {d:Nat} {i:Int} (h:¬ 30≤d):lst l (f + 1) z d i=rest l f z d [] (i + 1):=by
 rw [lst,if_neg h]
 unfold rest
 rw [if_pos rfl,show i + 1 + 1=i + 2 by omega]
theorem list_any {f:Nat} (hn:l.length≤1073741824) (IH:∀ g,g < f→LevC b o c m l g) (a z:UInt8) (hz:z≠44) (d:Nat) (i:Int) (w:World) (hd:d≤30) (S:PS b o c m l i d w) (ha:isS (tkAt l i) a=true) (hr:lst l (f + 1) z d i≠.out) :
  Calls Tryz.prog 121 #[.pointer (some ⟨b,0,none⟩),.string ⟨#[a]⟩,.string ⟨#[z]⟩] w (TelL b o c m l d w (lst l (f + 1) z d i)):=by
 by_cases h30:30≤d
 ·rw [lst_deep h30]
  have hd30:d=30:=by omega
  subst hd30
  have hkt:isKT (tkAt l i) 4 ⟨#[a]⟩=true:=by rw [isKT_S];exact ha
  have HX:=Lib.hid (enter_deep (y:=⟨#[a]⟩) S hn hkt)
  clear S hn IH hz hd ha hr h30 hkt
  go_enter Tryz.func121,Tryz.ntmps121
  go_wp2_with fail
  refine HX.out.mono ?_
  rintro e w3 ⟨rfl,hK⟩
  have K3:=Lib.hid hK
  clear hK
  go_wp2
  exact ⟨rfl,rfl,K3.out⟩
 ·rw [lst_in h30] at hr ⊢
  exact list_in hn IH a z hz d i w (by omega) S ha hr
theorem list_no (hn:l.length≤1073741824) (a z:UInt8) (d:Nat) (i:Int) (w:World) (S:PS b o c m l i d w) (ha:isS (tkAt l i) a=false) :
  Calls Tryz.prog 121 #[.pointer (some ⟨b,0,none⟩),.string ⟨#[a]⟩,.string ⟨#[z]⟩] w fun e w'=>e=.panicked (thrown (tkAt l i).pos 5)∧Kp b w w':=by
 have hkt:isKT (tkAt l i) 4 ⟨#[a]⟩=false:=by rw [isKT_S];exact ha
 have HX:=Lib.hid (enter_no (y:=⟨#[a]⟩) S hn hkt)
 clear S hn ha hkt
 go_enter Tryz.func121,Tryz.ntmps121
 go_wp2_with fail
 refine HX.out.mono ?_
 rintro e w3 ⟨rfl,hK⟩
 have K3:=Lib.hid hK
 clear hK
 go_wp2
 exact ⟨rfl,rfl,K3.out⟩
end
end Go.Proofs.YtfcgoainglpdlaaGreatDoor
namespace Go.Proofs.YtfcgoainglpdlaaGreatDoor
open Go.RowKit
open Go.Lib hiding intOf
def crt (l:List TZ) (f d:Nat) (i:Int):EO EX :=
 match prs l 30 (i + 1) with
 |.ok t j=>if isS (tkAt l j) 123 then
   match lst l f 125 d j with
   |.ok ys q=>.ok (.mk 8 (tkAt l i).pos (tkAt l (q - 1)).stop 0 ⟨#[]⟩ t ys) q
   |.err p c=>.err p c
   |.out=>.out
  else .err (tkAt l j).pos 5
 |.err p c=>.err p c
theorem Kp.cell {b:Nat} {w w':World} (h:Kp b w w') {p:Addr} {u:Value} (hc:w.cell? p=some u) (hp:p.block≠b):w'.cell? p=some u :=
 (World.cell?_of_block (w:=w) (h.block p.block (World.block_lt_of_cell? _ _ hc) hp)).trans hc
theorem blk_sec {w1 w2:World} {o:Obj} {cs:Array Value} {t:TypeId} (hB:Below ((w1.alloc o).alloc (.cells cs t)).heap.size ((w1.alloc o).alloc (.cells cs t)) w2):Blk w2 (w1.heap.size + 1) t cs:=by
 have h:=(Blk.new (w1.alloc o) t cs).below hB
 simpa using h
def At5 (w:World) (B:Nat) (v0 v1 v2 v3 v4:Value):Prop:=w.cell? ⟨B,0,none⟩=some v0∧w.cell? ⟨B,1,none⟩=some v1∧w.cell? ⟨B,2,none⟩=some v2∧w.cell? ⟨B,3,none⟩=some v3∧w.cell? ⟨B,4,none⟩=some v4
def At2 (w:World) (B:Nat) (v0 v1:Value):Prop:=w.cell? ⟨B,0,none⟩=some v0∧w.cell? ⟨B,1,none⟩=some v1
theorem At5.kp {b:Nat} {w w':World} {B:Nat} {v0 v1 v2 v3 v4:Value} (h:At5 w B v0 v1 v2 v3 v4) (hk:Kp b w w') (hb:B≠b):At5 w' B v0 v1 v2 v3 v4 :=
 ⟨hk.cell h.1 hb,hk.cell h.2.1 hb,hk.cell h.2.2.1 hb,hk.cell h.2.2.2.1 hb,hk.cell h.2.2.2.2 hb⟩
def st5 (W:World) (r:Nat) (v0 v1 v2 v3 v4:Value):World:=((((W.setCell ⟨r,0,none⟩ v0).setCell ⟨r,1,none⟩ v1).setCell ⟨r,2,none⟩ v2).setCell ⟨r,3,none⟩ v3).setCell ⟨r,4,none⟩ v4
def set2 (W:World) (r:Nat) (v0 v1:Value):World:=(W.setCell ⟨r,0,none⟩ v0).setCell ⟨r,1,none⟩ v1
theorem st5_size (W:World) (r:Nat) (v0 v1 v2 v3 v4:Value):(st5 W r v0 v1 v2 v3 v4).heap.size=W.heap.size:=by simp [st5,World.setCell]
theorem set2_size (W:World) (r:Nat) (v0 v1:Value):(set2 W r v0 v1).heap.size=W.heap.size:=by simp [set2,World.setCell]
theorem st5_below {B:Nat} {a W:World} (h:Below B a W) {r:Nat} (hr:B≤r) (v0 v1 v2 v3 v4:Value):Below B a (st5 W r v0 v1 v2 v3 v4) :=
 ((((h.setCell hr _).setCell hr _).setCell hr _).setCell hr _).setCell hr _
theorem set2_below {B:Nat} {a W:World} (h:Below B a W) {r:Nat} (hr:B≤r) (v0 v1:Value):Below B a (set2 W r v0 v1):=(h.setCell hr _).setCell hr _
theorem blk_st5 {W:World} {r:Nat} {t:TypeId} {e0 e1 e2 e3 e4:Value} (h:Blk W r t #[e0,e1,e2,e3,e4]) (v0 v1 v2 v3 v4:Value):Blk (st5 W r v0 v1 v2 v3 v4) r t #[v0,v1,v2,v3,v4]:=by
 have h:=((((h.set_ 0 v0).set_ 1 v1).set_ 2 v2).set_ 3 v3).set_ 4 v4
 unfold st5
 simpa only [List.setIfInBounds_toArray,List.set_cons_zero,List.set_cons_succ] using h
theorem blk_set2 {W:World} {r:Nat} {t:TypeId} {e0 e1:Value} (h:Blk W r t #[e0,e1]) (v0 v1:Value):Blk (set2 W r v0 v1) r t #[v0,v1]:=by
 have h:=(h.set_ 0 v0).set_ 1 v1
 unfold set2
 simpa only [List.setIfInBounds_toArray,List.set_cons_zero,List.set_cons_succ] using h
theorem blk_far5 {W:World} {k r:Nat} {t:TypeId} {cs:Array Value} (h:Blk W k t cs) (hr:k≠r) (v0 v1 v2 v3 v4:Value):Blk (st5 W r v0 v1 v2 v3 v4) k t cs :=
 ((((h.far (p:=⟨r,0,none⟩) hr _).far (p:=⟨r,1,none⟩) hr _).far (p:=⟨r,2,none⟩) hr _).far (p:=⟨r,3,none⟩) hr _).far (p:=⟨r,4,none⟩) hr _
theorem blk_far2 {W:World} {k r:Nat} {t:TypeId} {cs:Array Value} (h:Blk W k t cs) (hr:k≠r) (v0 v1:Value):Blk (set2 W r v0 v1) k t cs:=(h.far (p:=⟨r,0,none⟩) hr _).far (p:=⟨r,1,none⟩) hr _
theorem itp_st5 {P:Nat→Prop} {W:World} {x:TX} {v:Value} (h:IsTP P W x v) {r:Nat} (hr:¬ P r) (v0 v1 v2 v3 v4:Value):IsTP P (st5 W r v0 v1 v2 v3 v4) x v :=
 ((((h.set_ (p:=⟨r,0,none⟩) hr _).set_ (p:=⟨r,1,none⟩) hr _).set_ (p:=⟨r,2,none⟩) hr _).set_ (p:=⟨r,3,none⟩) hr _).set_ (p:=⟨r,4,none⟩) hr _
theorem itp_set2 {P:Nat→Prop} {W:World} {x:TX} {v:Value} (h:IsTP P W x v) {r:Nat} (hr:¬ P r) (v0 v1:Value):IsTP P (set2 W r v0 v1) x v:=(h.set_ (p:=⟨r,0,none⟩) hr _).set_ (p:=⟨r,1,none⟩) hr _
theorem At5.of {W:World} {B:Nat} {t:TypeId} {v0 v1 v2 v3 v4:Value} (h:Blk W B t #[v0,v1,v2,v3,v4]):At5 W B v0 v1 v2 v3 v4:=⟨h.cell 0,h.cell 1,h.cell 2,h.cell 3,h.cell 4⟩
theorem At2.of {W:World} {B:Nat} {t:TypeId} {v0 v1:Value} (h:Blk W B t #[v0,v1]):At2 W B v0 v1:=⟨h.cell 0,h.cell 1⟩
def TyRes (r:Res) (B:Nat) (W:World) (y:Value) (n e1 e2:Int):Prop :=
 match r with
 |.ok t j=>n=j∧e1=0∧e2=0∧IsTX B W t y
 |.err p c=>e1=p∧e2=c
theorem TyRes.keep {r:Res} {B B':Nat} {W W':World} {y:Value} {n e1 e2:Int} (h:TyRes r B W y n e1 e2) (hk:∀ t,IsTX B W t y→IsTX B' W' t y):TyRes r B' W' y n e1 e2:=by
 cases r with
 |ok t j=>exact ⟨h.1,h.2.1,h.2.2.1,hk _ h.2.2.2⟩
 |err p c=>exact h
theorem IsRes.ty {r:Res} {B:Nat} {W:World} {v:Value} (h:IsRes B W r v):∃ (k p:Int) (g s:ByteArray) (oo:Option Addr) (aa:Nat) (n e1 e2:Int),v=.tuple #[.agg #[.int .i64 k,.int .i64 p,.string g,.string s,.slice oo aa aa],.int .i64 n,.agg #[.int .i64 e1,.int .i64 e2]] ∧
  TyRes r B W (.agg #[.int .i64 k,.int .i64 p,.string g,.string s,.slice oo aa aa]) n e1 e2:=by
 cases r with
 |ok t j =>
  obtain ⟨y,rfl,hx⟩:=h
  obtain ⟨k,p,g,s,o,a,rfl⟩:=hx.parts
  exact ⟨k,p,g,s,o,a,j,0,0,rfl,rfl,rfl,rfl,hx⟩
 |err p c =>
  obtain rfl:v=errV p c:=h
  exact ⟨0,0,⟨#[]⟩,⟨#[]⟩,none,0,0,p,c,rfl,rfl,rfl⟩
structure TyRel (r:Res) (w1:World) (B4 B6:Nat) (v0 v1 v2 v3 v4:Value) (n e1 e2:Int) (wx:World):Prop where
 b4:w1.heap.size≤B4
 b6:w1.heap.size≤B6
 at5:At5 wx B4 v0 v1 v2 v3 v4
 at2:At2 wx B6 (.int .i64 e1) (.int .i64 e2)
 below:Below w1.heap.size w1 wx
 res:TyRes r w1.heap.size wx (.agg #[v0,v1,v2,v3,v4]) n e1 e2
section
variable {r:Res} {w1 w2:World} {v0 v1 v2 v3 v4:Value} {n e1 e2:Int}
theorem tyF1 (hB:Below w1.heap.size w1 w2) (hr:TyRes r (w1.heap.size + 2) w2 (.agg #[v0,v1,v2,v3,v4]) n e1 e2) :
  TyRel r w1 w2.heap.size (w2.heap.size + 1) v0 v1 v2 v3 v4 n e1 e2 ((w2.alloc (.cells #[v0,v1,v2,v3,v4] 24)).alloc (.cells #[.int .i64 e1,.int .i64 e2] 44)):=by
 have hs:=hB.size
 refine ⟨hs,by omega,At5.of ((Blk.new _ _ _).alloc _),At2.of (t:=44) ?_,(hB.alloc hs _).alloc (by simp;omega) _,hr.keep fun t h=>IsTX.mono (by omega) (IsTP.below (IsTP.below h ((Below.refl _ _).alloc (Nat.le_refl _) _)) ((Below.refl _ _).alloc (Nat.le_refl _) _))⟩
 have:=Blk.new (w2.alloc (.cells #[v0,v1,v2,v3,v4] 24)) 44 #[.int .i64 e1,.int .i64 e2]
 simpa using this
theorem tyF2 (hB:Below w1.heap.size w1 w2) (hr:TyRes r (w1.heap.size + 2) w2 (.agg #[v0,v1,v2,v3,v4]) n e1 e2) :
  TyRel r w1 (w2.heap.size + 1) w2.heap.size v0 v1 v2 v3 v4 n e1 e2 ((w2.alloc (.cells #[.int .i64 e1,.int .i64 e2] 44)).alloc (.cells #[v0,v1,v2,v3,v4] 24)):=by
 have hs:=hB.size
 refine ⟨by omega,hs,At5.of (t:=24) ?_,At2.of ((Blk.new _ _ _).alloc _),(hB.alloc hs _).alloc (by simp;omega) _,hr.keep fun t h=>IsTX.mono (by omega) (IsTP.below (IsTP.below h ((Below.refl _ _).alloc (Nat.le_refl _) _)) ((Below.refl _ _).alloc (Nat.le_refl _) _))⟩
 have:=Blk.new (w2.alloc (.cells #[.int .i64 e1,.int .i64 e2] 44)) 24 #[v0,v1,v2,v3,v4]
 simpa using this
theorem tyF3 {f0 f1 f2 f3 f4:Value} (hB:Below w1.heap.size w1 w2) (hX:Blk w2 w1.heap.size 24 #[f0,f1,f2,f3,f4]) (hr:TyRes r (w1.heap.size + 1 + 2) w2 (.agg #[v0,v1,v2,v3,v4]) n e1 e2) :
  TyRel r w1 w1.heap.size w2.heap.size v0 v1 v2 v3 v4 n e1 e2 ((st5 w2 w1.heap.size v0 v1 v2 v3 v4).alloc (.cells #[.int .i64 e1,.int .i64 e2] 44)):=by
 have hs:=hB.size
 refine ⟨Nat.le_refl _,hs,At5.of ((blk_st5 hX _ _ _ _ _).alloc _),At2.of (t:=44) ?_,(st5_below hB (Nat.le_refl _) _ _ _ _ _).alloc (by rw [st5_size];exact hs) _,hr.keep fun t h=>IsTX.mono (by omega) (IsTP.below (itp_st5 h (by omega) _ _ _ _ _) ((Below.refl _ _).alloc (Nat.le_refl _) _))⟩
 have:=Blk.new (st5 w2 w1.heap.size v0 v1 v2 v3 v4) 44 #[.int .i64 e1,.int .i64 e2]
 rwa [st5_size] at this
theorem tyF4 {f0 f1:Value} (hB:Below w1.heap.size w1 w2) (hX:Blk w2 w1.heap.size 44 #[f0,f1]) (hr:TyRes r (w1.heap.size + 1 + 2) w2 (.agg #[v0,v1,v2,v3,v4]) n e1 e2) :
  TyRel r w1 w2.heap.size w1.heap.size v0 v1 v2 v3 v4 n e1 e2 ((set2 w2 w1.heap.size (.int .i64 e1) (.int .i64 e2)).alloc (.cells #[v0,v1,v2,v3,v4] 24)):=by
 have hs:=hB.size
 refine ⟨hs,Nat.le_refl _,At5.of (t:=24) ?_,At2.of ((blk_set2 hX _ _).alloc _),(set2_below hB (Nat.le_refl _) _ _).alloc (by rw [set2_size];exact hs) _,hr.keep fun t h=>IsTX.mono (by omega) (IsTP.below (itp_set2 h (by omega) _ _) ((Below.refl _ _).alloc (Nat.le_refl _) _))⟩
 have:=Blk.new (set2 w2 w1.heap.size (.int .i64 e1) (.int .i64 e2)) 24 #[v0,v1,v2,v3,v4]
 rwa [set2_size] at this
theorem tyF5 {f0 f1 f2 f3 f4 g0 g1:Value} (hB:Below w1.heap.size w1 w2) (hX:Blk w2 w1.heap.size 24 #[f0,f1,f2,f3,f4]) (hY:Blk w2 (w1.heap.size + 1) 44 #[g0,g1]) (hr:TyRes r (w1.heap.size + 1 + 1 + 2) w2 (.agg #[v0,v1,v2,v3,v4]) n e1 e2) :
  TyRel r w1 w1.heap.size (w1.heap.size + 1) v0 v1 v2 v3 v4 n e1 e2 (set2 (st5 w2 w1.heap.size v0 v1 v2 v3 v4) (w1.heap.size + 1) (.int .i64 e1) (.int .i64 e2)) :=
 ⟨Nat.le_refl _,by omega,At5.of (blk_far2 (blk_st5 hX _ _ _ _ _) (by omega) _ _),At2.of (blk_set2 (blk_far5 hY (by omega) _ _ _ _ _) _ _),set2_below (st5_below hB (Nat.le_refl _) _ _ _ _ _) (by omega) _ _,hr.keep fun t h=>IsTX.mono (by omega) (itp_set2 (itp_st5 h (by omega) _ _ _ _ _) (by omega) _ _)⟩
theorem tyF6 {f0 f1 f2 f3 f4 g0 g1:Value} (hB:Below w1.heap.size w1 w2) (hX:Blk w2 w1.heap.size 44 #[g0,g1]) (hY:Blk w2 (w1.heap.size + 1) 24 #[f0,f1,f2,f3,f4]) (hr:TyRes r (w1.heap.size + 1 + 1 + 2) w2 (.agg #[v0,v1,v2,v3,v4]) n e1 e2) :
  TyRel r w1 (w1.heap.size + 1) w1.heap.size v0 v1 v2 v3 v4 n e1 e2 (set2 (st5 w2 (w1.heap.size + 1) v0 v1 v2 v3 v4) w1.heap.size (.int .i64 e1) (.int .i64 e2)) :=
 ⟨by omega,Nat.le_refl _,At5.of (blk_far2 (blk_st5 hY _ _ _ _ _) (by omega) _ _),At2.of (blk_set2 (blk_far5 hX (by omega) _ _ _ _ _) _ _),set2_below (st5_below hB (by omega) _ _ _ _ _) (Nat.le_refl _) _ _,hr.keep fun t h=>IsTX.mono (by omega) (itp_set2 (itp_st5 h (by omega) _ _ _ _ _) (by omega) _ _)⟩
end
end Go.Proofs.YtfcgoainglpdlaaGreatDoor
