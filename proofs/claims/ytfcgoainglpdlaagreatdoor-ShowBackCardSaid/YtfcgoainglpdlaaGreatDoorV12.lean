/- The walk of 'named'; what a return leaves. Condition: the tokens lie in memory as 'ZAt' says; texts of at most 2^48 bytes. The walk of 'element'. Condition: the tokens lie in memory as 'ZAt' says; texts of at most 2^48 bytes. The walk of 'closed'. Condition: the type and the offsets lie in memory .. -/
import Derived.Test.YtfcgoainglpdlaaGreatDoorV11
import Derived.Deep.DeepCutAuto
import Derived.WalkMore
import Derived.Test.YtfcgoainglpdlaaGreatDoorV04
set_option maxRecDepth 100000
set_option maxHeartbeats 4000000
namespace Go.Proofs.YtfcgoainglpdlaaGreatDoor
open Go.RowKit
open Go.Lib hiding intOf
theorem tokenAt_v (o:Option Addr) (c:Nat) (l:List TZ) (i:Int) (w:World) (h:ZAt w o l) (hn:l.length≤9223372036854775807) :
  Calls Tryz.prog 165 #[.slice o l.length c,.int .i64 i] w fun e w'=>e=.returned (.agg #[.int .i64 (tkAt l i).kind,.int .i64 (tkAt l i).pos,.int .i64 (tkAt l i).stop,.string (tkAt l i).text])∧Below w.heap.size w w':=tokenAt_any o c l i w h hn
theorem isSymbol_v (k p s:Int) (x:ByteArray) (y:ByteArray) (w:World):Calls Tryz.prog 166 #[.agg #[.int .i64 k,.int .i64 p,.int .i64 s,.string x],.string y] w fun e w'=>e=.returned (.bool (isKT ⟨k,p,s,x⟩ 4 y))∧Below w.heap.size w w':=isSymbol_any ⟨k,p,s,x⟩ y w
theorem _root_.Go.RowKit.Below.undrew {n:Nat} {a b:World} (h:Below n a.drew b):Below n a b:=⟨h.os,h.tape,h.output,h.size,h.block⟩
theorem mid_size {w1 w2:World} {o:Obj} (hB:Below (w1.alloc o).heap.size (w1.alloc o) w2):w1.heap.size < w2.heap.size:=by
 have:=hB.size
 simp at this
 omega
theorem mid_size' {w1 w2:World} {o o':Obj} (hB:Below ((w1.alloc o).alloc o').heap.size ((w1.alloc o).alloc o') w2):w1.heap.size + 1 < w2.heap.size:=by
 have:=hB.size
 simp at this
 omega
theorem blk_mid1 {w1 w2:World} {o:Obj} (hB:Below ((w1.alloc o).alloc (.cells zeroT 24)).heap.size ((w1.alloc o).alloc (.cells zeroT 24)) w2):Blk w2 (w1.heap.size + 1) 24 zeroT:=by
 have h:=(Blk.new (w1.alloc o) 24 zeroT).below hB
 simpa using h
theorem blk_mid2 {w1 w2:World} {cs:Array Value} {t:TypeId} {o':Obj} (hB:Below ((w1.alloc (.cells cs t)).alloc o').heap.size ((w1.alloc (.cells cs t)).alloc o') w2):Blk w2 w1.heap.size t cs :=
 ((Blk.new w1 t cs).alloc o').below hB
theorem blk_mid3 {w1 w2:World} {cs:Array Value} {t:TypeId} (hB:Below (w1.alloc (.cells cs t)).heap.size (w1.alloc (.cells cs t)) w2):Blk w2 w1.heap.size t cs :=
 (Blk.new w1 t cs).below hB
theorem endB {w1 w2:World} {o:Obj} {cs:Array Value} (hB:Below (w1.alloc o).heap.size (w1.alloc o) w2) :
  ∃ b:Nat,Value.pointer (some ⟨w2.heap.size,0,none⟩)=.pointer (some ⟨b,0,none⟩)∧Hid (Blk (w2.alloc (.cells cs 24)) b 24 cs)∧Hid (Below w1.heap.size w1 (w2.alloc (.cells cs 24)))∧w1.heap.size≤b:=by
 have h1:=mid_size hB
 exact ⟨_,rfl,Lib.hid (Blk.new _ _ _),Lib.hid (((((Below.refl _ _).alloc (Nat.le_refl _) o).trans (hB.mono (by simp)))).alloc (by omega) _),by omega⟩
theorem endA {w1 w2:World} {o:Obj} {v0 v1 v2 v3 v4:Value} (hx:Blk w2 (w1.heap.size + 1) 24 zeroT) (hB:Below ((w1.alloc o).alloc (.cells zeroT 24)).heap.size ((w1.alloc o).alloc (.cells zeroT 24)) w2) :
  ∃ b:Nat,Value.pointer (some ⟨w1.heap.size + 1,0,none⟩)=.pointer (some ⟨b,0,none⟩)∧Hid (Blk (((((w2.setCell ⟨w1.heap.size + 1,0,none⟩ v0).setCell ⟨w1.heap.size + 1,1,none⟩ v1).setCell ⟨w1.heap.size + 1,2,none⟩ v2).setCell ⟨w1.heap.size + 1,3,none⟩ v3).setCell ⟨w1.heap.size + 1,4,none⟩ v4) b 24 #[v0,v1,v2,v3,v4]) ∧
   Hid (Below w1.heap.size w1 (((((w2.setCell ⟨w1.heap.size + 1,0,none⟩ v0).setCell ⟨w1.heap.size + 1,1,none⟩ v1).setCell ⟨w1.heap.size + 1,2,none⟩ v2).setCell ⟨w1.heap.size + 1,3,none⟩ v3).setCell ⟨w1.heap.size + 1,4,none⟩ v4))∧w1.heap.size≤b:=by
 have hb:Below w1.heap.size w1 w2:=(((Below.refl _ _).alloc (Nat.le_refl _) o).alloc (by simp) _).trans (hB.mono (by simp;omega))
 exact ⟨_,rfl,Lib.hid (((((hx.set_ 0 v0).set_ 1 v1).set_ 2 v2).set_ 3 v3).set_ 4 v4),Lib.hid (((((hb.setCell (Nat.le_succ _) _).setCell (Nat.le_succ _) _).setCell (Nat.le_succ _) _).setCell (Nat.le_succ _) _).setCell (Nat.le_succ _) _),Nat.le_succ _⟩
def ret7 (w W:World) (v0 v1 v2 v3 v4 v5 v6:Value):World :=
 ((((((W.setCell ⟨w.heap.size,0,none⟩ v0).setCell ⟨w.heap.size,1,none⟩ v1).setCell ⟨w.heap.size,2,none⟩ v2).setCell ⟨w.heap.size,3,none⟩ v3).setCell ⟨w.heap.size,4,none⟩ v4).setCell ⟨w.heap.size + 1,0,none⟩ v5).setCell ⟨w.heap.size + 1,1,none⟩ v6
theorem ret7_below {w W:World} (T:Two w W) (v0 v1 v2 v3 v4 v5 v6:Value):Below w.heap.size w (ret7 w W v0 v1 v2 v3 v4 v5 v6) :=
 ((((((T.below.setCell (Nat.le_refl _) _).setCell (Nat.le_refl _) _).setCell (Nat.le_refl _) _).setCell (Nat.le_refl _) _).setCell (Nat.le_refl _) _).setCell (Nat.le_succ _) _).setCell (Nat.le_succ _) _
theorem ret7_type {w W:World} {B:Nat} {x:TX} {v:Value} (h:IsTX B W x v) (hB:w.heap.size + 1 < B) (v0 v1 v2 v3 v4 v5 v6:Value):IsTX B (ret7 w W v0 v1 v2 v3 v4 v5 v6) x v :=
 ((((((h.set_ (p:=⟨w.heap.size,0,none⟩) (by simp only;omega) _).set_ (p:=⟨w.heap.size,1,none⟩) (by simp only;omega) _).set_ (p:=⟨w.heap.size,2,none⟩) (by simp only;omega) _).set_ (p:=⟨w.heap.size,3,none⟩) (by simp only;omega) _).set_ (p:=⟨w.heap.size,4,none⟩) (by simp only;omega) _).set_ (p:=⟨w.heap.size + 1,0,none⟩) hB _).set_ (p:=⟨w.heap.size + 1,1,none⟩) hB _
theorem ret7_two {w W:World} (T:Two w W) {b i j:Nat} (hb:w.heap.size≤b) (x y v0 v1 v2 v3 v4 v5 v6:Value):Below w.heap.size w (ret7 w ((W.setCell ⟨b,i,none⟩ x).setCell ⟨b,j,none⟩ y) v0 v1 v2 v3 v4 v5 v6) :=
 ((((((((T.below.setCell hb _).setCell hb _).setCell (Nat.le_refl _) _).setCell (Nat.le_refl _) _).setCell (Nat.le_refl _) _).setCell (Nat.le_refl _) _).setCell (Nat.le_refl _) _).setCell (Nat.le_succ _) _).setCell (Nat.le_succ _) _
theorem named_any (o:Option Addr) (c:Nat) (l:List TZ) (i:Int) (w:World) (h:ZAt w o l) (hn:l.length≤9223372036854775807) (hf:Fits l) (hk:(tkAt l i).kind=1) :
  Calls Tryz.prog 176 #[.slice o l.length c,.int .i64 i] w fun e w'=>∃ v,e=.returned v∧IsRes w.heap.size w' (elm l i) v∧Below w.heap.size w w':=by
 obtain ⟨hi0,hi1⟩:=tkAt_real (l:=l) (i:=i) (by rw [hk];decide)
 have HT:=Lib.hid (fun (W:World) (j:Int) (hb:Below w.heap.size w W)=>tokenAt_v o c l j W (h.below hb) hn)
 have HS:=Lib.hid (fun (W:World) (t:TZ) (y:ByteArray)=>isSymbol_v t.kind t.pos t.stop t.text y W)
 have HQ:=Lib.hid (fun W:World=>clone_any (tkAt l i).text W (hf.tkAt i))
 have HQ2:=Lib.hid (fun W:World=>clone_any (tkAt l (i + 2)).text W (hf.tkAt (i + 2)))
 have HK:=Lib.hid hk
 clear h hf hk
 go_enter Tryz.func176,Tryz.ntmps176
 go_wp2_with fail
 refine (HT.out _ _ (Two.start w).below).mono ?_
 rintro e w1 ⟨rfl,hB⟩
 have T1:=Lib.hid ((Two.start w).step hB)
 clear hB
 go_wp2_with fail
 go_cut [8] (fun v wx=>∃ b:Nat,v=.pointer (some ⟨b,0,none⟩)∧Hid (Blk wx b 24 #[.int .i64 4,.int .i64 (tkAt l i).pos,.string ⟨#[]⟩,.string (tkAt l i).text,.slice none 0 0])∧Hid (Below w1.heap.size w1 wx)∧w1.heap.size≤b)
 case first =>
  go_region_with ((go_at_call 41;refine (HQ.out _).mono ?_;rintro e w2 ⟨rfl,hB2⟩;first | (have X8:=blk_mid1 hB2.undrew;have X7:=blk_mid2 hB2.undrew;have xc7:=X7.cell;have xf7:=X7.frozen;have hz2:=mid_size' hB2.undrew;have hz3:=Nat.ne_of_lt hz2;have xc8:=X8.cell;have xf8:=X8.frozen;have HX8:=Lib.hid X8;have HB2:=Lib.hid hB2.undrew;clear X7 X8 hB2;simp only [zeroT] at xc8) | (have X7:=blk_mid3 hB2.undrew;have hz2:=mid_size hB2.undrew;have hz3:=Nat.ne_of_lt hz2;have xc7:=X7.cell;have xf7:=X7.frozen;have HB2:=Lib.hid hB2.undrew;clear X7 hB2)))
  all_goals go_wp2_with fail
  all_goals go_meet
  all_goals first | exact endB HB2.out | exact endA HX8.out HB2.out
 case rest =>
  obtain ⟨b,rfl,HX,HB,hb⟩:=hcut
  have hz1:=T1.out.size
  have T2:=Lib.hid (T1.out.step HB.out)
  clear HB T1
  go_wp2_with fail
  refine (HT.out _ _ T2.out.below).mono ?_
  rintro e w3 ⟨rfl,hB⟩
  have T3:=Lib.hid (T2.out.step hB)
  have HX3:=Lib.hid (HX.out.below hB)
  clear hB HX T2
  go_wp2_with fail
  refine (HS.out _ (tkAt l (i + 1)) _).mono ?_
  rintro e w4 ⟨rfl,hB⟩
  have T4:=Lib.hid (T3.out.step hB)
  have HX4:=Lib.hid (HX3.out.below hB)
  clear hB HX3 T3
  cases he:isKT (tkAt l (i + 1)) 4 ⟨#[46]⟩
  ·have E:=Lib.hid he
   obtain ⟨c1,c2,c3,c4⟩:=T4.out.cells
   have c5:=HX4.out.cell
   simp only [zeroT,zeroG] at c1 c3
   go_wp2
   have hr:elm l i=.ok (.leaf 4 (tkAt l i).pos ⟨#[]⟩ (tkAt l i).text) (i + 1):=by simp [elm,HK.out,E.out]
   rw [hr]
   refine bodyPost_ret (v:=okV (leafV 4 (tkAt l i).pos ⟨#[]⟩ (tkAt l i).text) (i + 1)) (by simp [okV,leafV,results,Tryz.results176,go_sem,c1,c3]) rfl ?_
   exact ⟨_,rfl,⟨_,rfl,rfl⟩,ret7_below T4.out _ _ _ _ _ _ _⟩
  ·have E:=Lib.hid he
   have hi2:=(isKT_real (by decide) he).2
   clear he
   go_wp2_with fail
   refine (HT.out _ _ T4.out.below).mono ?_
   rintro e w5 ⟨rfl,hB⟩
   have T5:=Lib.hid (T4.out.step hB)
   have HX5:=Lib.hid (HX4.out.below hB)
   clear hB HX4 T4
   by_cases hk2:(tkAt l (i + 2)).kind=1
   ·have E2:=Lib.hid hk2
    rw [hk2]
    clear hk2
    have hbl:b < w5.heap.size:=HX5.out.lt
    have hi3:=(tkAt_real (l:=l) (i:=i + 2) (by rw [E2.out];decide)).2
    have hb1:b≠w.heap.size:=by omega
    have hb2:b≠w.heap.size + 1:=by omega
    have hb3:w.heap.size≠b:=by omega
    have hb4:w.heap.size + 1≠b:=by omega
    have hbn:b≠w5.heap.size:=Nat.ne_of_lt hbl
    have c5:=HX5.out.cell
    have f5:=HX5.out.frozen
    go_wp2_with fail
    go_region_with (go_at_call 41;refine (HQ2.out _).mono ?_;rintro e w6 ⟨rfl,hB⟩;have X9:=blk_mid3 hB.undrew;have d9:=X9.cell;have T6:=Lib.hid ((T5.out.alloc _).step hB.undrew);have HX6:=Lib.hid ((HX5.out.alloc _).below hB.undrew);have dx:=HX6.out.cell;have fx:=HX6.out.frozen;clear X9 hB)
    all_goals
     obtain ⟨c1,c2,c3,c4⟩:=T6.out.cells
     simp only [zeroT,zeroG] at c1 c3
     go_wp2
     have hr:elm l i=.ok (.leaf 4 (tkAt l i).pos (tkAt l i).text (tkAt l (i + 2)).text) (i + 3):=by simp [elm,HK.out,E.out,E2.out]
     rw [hr]
     refine bodyPost_ret (v:=okV (leafV 4 (tkAt l i).pos (tkAt l i).text (tkAt l (i + 2)).text) (i + 3)) (by simp [okV,leafV,results,Tryz.results176,go_sem,c1,c3]) rfl ?_
     exact ⟨_,rfl,⟨_,rfl,rfl⟩,ret7_two T6.out (by omega) _ _ _ _ _ _ _ _ _⟩
   ·have hk3:((tkAt l (i + 2)).kind == 1)=false:=by simpa using hk2
    have hk4:((tkAt l (i + 2)).kind != 1)=true:=by simpa using hk2
    have E2:=Lib.hid hk2
    clear hk2
    obtain ⟨c1,c2,c3,c4⟩:=T5.out.cells
    have hz:w.heap.size + 1 < w5.heap.size:=T5.out.size
    have hz0:w.heap.size < w5.heap.size:=by omega
    simp only [zeroT,zeroG] at c1 c3
    go_wp2_with fail
    go_region
    go_wp2
    have hr:elm l i=.err (tkAt l (i + 2)).pos 5:=by simp [elm,HK.out,E.out,E2.out]
    rw [hr]
    refine bodyPost_ret (v:=errV (tkAt l (i + 2)).pos 5) (by simp [errV,noType,noText,results,Tryz.results176,go_sem,c1,c3,hz,hz0]) rfl ?_
    exact ⟨_,rfl,rfl,((ret7_below T5.out _ _ _ _ _ _ _).alloc (by have:=(ret7_below T5.out (.int .i64 0) (.int .i64 0) (.int .i64 0) (.int .i64 0) (.int .i64 0) (.int .i64 0) (.int .i64 0)).size;simpa [ret7] using this) _).drew⟩
end Go.Proofs.YtfcgoainglpdlaaGreatDoor
namespace Go.Proofs.YtfcgoainglpdlaaGreatDoor
open Go.RowKit
open Go.Lib hiding intOf
theorem IsRes.mono {B B':Nat} (hB:B'≤B) {w:World} {r:Res} {v:Value} (h:IsRes B w r v):IsRes B' w r v:=by
 cases r with
 |ok x n=>obtain ⟨y,hv,hx⟩:=h;exact ⟨y,hv,hx.mono hB⟩
 |err p c=>exact h
theorem element_any (o:Option Addr) (c:Nat) (l:List TZ) (i:Int) (w:World) (h:ZAt w o l) (hn:l.length≤9223372036854775807) (hf:Fits l) :
  Calls Tryz.prog 167 #[.slice o l.length c,.int .i64 i] w fun e w'=>∃ v,e=.returned v∧IsRes (w.heap.size + 2) w' (elm l i) v∧Below w.heap.size w w':=by
 have HT:=Lib.hid (fun (W:World) (j:Int) (hb:Below w.heap.size w W)=>tokenAt_v o c l j W (h.below hb) hn)
 by_cases hk:(tkAt l i).kind=1
 ·have HN:=Lib.hid (fun (W:World) (hb:Below w.heap.size w W)=>named_any o c l i W (h.below hb) hn hf hk)
  clear h hf
  go_enter Tryz.func167,Tryz.ntmps167
  go_wp2_with fail
  refine (HT.out _ _ (Two.start w).below).mono ?_
  rintro e w1 ⟨rfl,hB⟩
  have T1:=Lib.hid ((Two.start w).step hB)
  clear hB
  go_wp2_with fail
  refine (HN.out _ ((T1.out.alloc _).below)).mono ?_
  rintro e w2 ⟨v,rfl,hr,hB⟩
  have T2:=Lib.hid ((T1.out.alloc _).step hB)
  have hz:w.heap.size + 1 + 1≤w1.heap.size:=T1.out.size
  have hr2:IsRes (w.heap.size + 2) w2 (elm l i) v:=hr.mono (by simp;omega)
  clear hB T1 hr
  obtain ⟨R,hq⟩:∃ R,elm l i=R:=⟨_,rfl⟩
  have HQ:=Lib.hid hq
  rw [hq] at hr2
  clear hq
  cases R with
  |ok x n =>
   obtain ⟨y,rfl,hx⟩:=hr2
   obtain ⟨k,p,g,m,o',a',rfl⟩:=hx.parts
   have HX:=Lib.hid hx
   clear hx
   obtain ⟨c1,c2,c3,c4⟩:=T2.out.cells
   simp only [zeroT,zeroG] at c1 c3
   unfold okV
   go_wp2
   refine bodyPost_ret (v:=okV (.agg #[.int .i64 k,.int .i64 p,.string g,.string m,.slice o' a' a']) n) (by simp [okV,results,Tryz.results167,go_sem,c1,c3]) rfl ?_
   refine ⟨_,rfl,?_,ret7_below T2.out _ _ _ _ _ _ _⟩
   rw [HQ.out]
   exact ⟨_,rfl,ret7_type HX.out (by omega) _ _ _ _ _ _ _⟩
  |err p k =>
   obtain rfl:v=errV p k:=hr2
   obtain ⟨c1,c2,c3,c4⟩:=T2.out.cells
   simp only [zeroT,zeroG] at c1 c3
   unfold errV noType noText
   go_wp2
   refine bodyPost_ret (v:=errV p k) (by simp [errV,noType,noText,results,Tryz.results167,go_sem,c1,c3]) rfl ?_
   refine ⟨_,rfl,?_,ret7_below T2.out _ _ _ _ _ _ _⟩
   rw [HQ.out]
   rfl
 ·have K1:=Lib.hid hk
  have hk1:((tkAt l i).kind == 1)=false:=by simpa using hk
  have HL:=Lib.hid (fun (W:World) (b:Nat) (hw:KindsAt W b)=>lookup_kind hw (tkAt l i).text (by have:=hf.tkAt i;omega))
  have HW:=Lib.hid kinds_any
  clear h hf
  go_enter Tryz.func167,Tryz.ntmps167
  go_wp2_with fail
  refine (HT.out _ _ (Two.start w).below).mono ?_
  rintro e w1 ⟨rfl,hB⟩
  have T1:=Lib.hid ((Two.start w).step hB)
  clear hB
  clear hk
  go_wp2_with fail
  go_cut [8] (fun v wx=>v=.int .i64 (kindOf (tkAt l i).text.data.toList)∧Hid (Two w wx)∧w1.heap.size < wx.heap.size∧Hid (Blk wx w1.heap.size 81 #[.int .i64 (tkAt l i).kind,.int .i64 (tkAt l i).pos,.int .i64 (tkAt l i).stop,.string (tkAt l i).text]))
  case first =>
   go_region_with (go_at_call 177;refine (HW.out _).mono ?_;rintro e w2 ⟨rfl,hw2,hB⟩;have hl:=HL.out w2 (w1.heap.size + 1) (by simpa using hw2);have X9:=blk_mid3 hB.undrew;have d9:=X9.cell;have f9:=X9.frozen;have H9:=Lib.hid X9;have hz2:=mid_size hB.undrew;have T2:=Lib.hid ((T1.out.alloc _).step hB.undrew);clear X9 hB hw2)
   all_goals go_wp2_with fail
   all_goals go_meet
   all_goals exact ⟨rfl,T2,hz2,H9⟩
  case rest =>
   obtain ⟨rfl,T2,hz2,H9⟩:=hcut
   have hz1:=T1.out.size
   have hz3:w.heap.size + 1 < w1.heap.size:=by omega
   have hz4:w1.heap.size≠w.heap.size:=by omega
   have hz5:w1.heap.size≠w.heap.size + 1:=by omega
   obtain ⟨c1,c2,c3,c4⟩:=T2.out.cells
   have c5:=H9.out.cell
   simp only [zeroT,zeroG] at c1 c3
   clear T1
   by_cases h5:(tkAt l i).kind=5
   ·have D5:=Lib.hid h5
    rw [h5] at c5
    clear h5
    obtain ⟨q,hq⟩:∃ q,kindOf (tkAt l i).text.data.toList=q:=⟨_,rfl⟩
    have HQ:=Lib.hid hq
    rw [hq]
    clear hq
    by_cases h0:q=0
    ·have e0:(q == 0)=true:=by simpa using h0
     have D0:=Lib.hid h0
     clear h0
     go_wp2_with fail
     go_region
     go_wp2
     have hr:elm l i=.err (tkAt l i).pos 5:=by simp [elm,K1.out,HQ.out,D0.out]
     rw [hr]
     refine bodyPost_ret (v:=errV (tkAt l i).pos 5) (by simp [errV,noType,noText,results,Tryz.results167,go_sem,c1,c3]) rfl ?_
     exact ⟨_,rfl,rfl,(ret7_below T2.out _ _ _ _ _ _ _).drew⟩
    ·have e0:(q == 0)=false:=by simpa using h0
     have D0:=Lib.hid h0
     clear h0
     have hi:=(tkAt_real (l:=l) (i:=i) (by rw [D5.out];decide))
     have hi1:=hi.1
     have hi2:=hi.2
     clear hi
     go_wp2
     have hr:elm l i=.ok (.leaf q (tkAt l i).pos ⟨#[]⟩ ⟨#[]⟩) (i + 1):=by simp [elm,D5.out,HQ.out,D0.out]
     rw [hr]
     refine bodyPost_ret (v:=okV (leafV q (tkAt l i).pos ⟨#[]⟩ ⟨#[]⟩) (i + 1)) (by simp [okV,leafV,results,Tryz.results167,go_sem,c1,c3]) rfl ?_
     exact ⟨_,rfl,⟨_,rfl,rfl⟩,ret7_below T2.out _ _ _ _ _ _ _⟩
   ·have e5:((tkAt l i).kind == 5)=false:=by simpa using h5
    have e6:((tkAt l i).kind != 5)=true:=by simpa using h5
    have D5:=Lib.hid h5
    clear h5
    go_wp2_with fail
    go_region
    go_wp2
    have hr:elm l i=.err (tkAt l i).pos 5:=by simp [elm,K1.out,D5.out]
    rw [hr]
    refine bodyPost_ret (v:=errV (tkAt l i).pos 5) (by simp [errV,noType,noText,results,Tryz.results167,go_sem,c1,c3]) rfl ?_
    exact ⟨_,rfl,rfl,(ret7_below T2.out _ _ _ _ _ _ _).drew⟩
end Go.Proofs.YtfcgoainglpdlaaGreatDoor
namespace Go.Proofs.YtfcgoainglpdlaaGreatDoor
open Go.RowKit
open Go.Lib hiding intOf
def nest:List Int→TX→TX
 |[],x=>x
 |p::r,x=>.list p (nest r x)
def OpensAt (w:World) (g:Nat) (ps:List Int):Prop:=∀ k p,ps[k]?=some p→w.cell? ⟨g,k,none⟩=some (.int .i64 p)
theorem OpensAt.below {w w':World} {g:Nat} {ps:List Int} (h:OpensAt w g ps) (hb:Below w.heap.size w w'):OpensAt w' g ps:=fun k p hk=>(hb.cell (World.block_lt_of_cell? _ _ (h k p hk))).trans (h k p hk)
def InvC (P:Nat→Prop) (w:World) (x:TX) (ps:List Int) (k:Nat) (W:World):Prop :=
 ∃ (q r:Int) (s t:ByteArray) (o:Option Addr) (a:Nat),Blk W w.heap.size 24 #[.int .i64 q,.int .i64 r,.string s,.string t,.slice o a a]∧Blk W (w.heap.size + 1) 24 zeroT∧IsTP P W (nest (ps.drop k) x) (.agg #[.int .i64 q,.int .i64 r,.string s,.string t,.slice o a a])∧Below w.heap.size w W∧w.heap.size + 1 + 1≤W.heap.size
theorem IsTP.drew {P:Nat→Prop} {w:World} {x:TX} {v:Value} (h:IsTP P w x v):IsTP P w.drew x v:=IsTP.keep (w:=w) (w':=w.drew) (fun _ _ _ h _=>h) (fun _ _ _ _ h=>h) h
theorem Blk.drew {W:World} {k:Nat} {t:TypeId} {cs:Array Value} (h:Blk W k t cs):Blk W.drew k t cs:=h
def set5 (W:World) (b:Nat) (v0 v1 v2 v3 v4:Value):World:=((((W.setCell ⟨b,0,none⟩ v0).setCell ⟨b,1,none⟩ v1).setCell ⟨b,2,none⟩ v2).setCell ⟨b,3,none⟩ v3).setCell ⟨b,4,none⟩ v4
theorem set5_size (W:World) (b:Nat) (v0 v1 v2 v3 v4:Value):(set5 W b v0 v1 v2 v3 v4).heap.size=W.heap.size:=by simp [set5,World.setCell]
theorem set5_type {P:Nat→Prop} {W:World} {b:Nat} {x:TX} {v:Value} (h:IsTP P W x v) (hb:¬ P b) (v0 v1 v2 v3 v4:Value):IsTP P (set5 W b v0 v1 v2 v3 v4) x v :=
 ((((h.set_ (p:=⟨b,0,none⟩) hb _).set_ (p:=⟨b,1,none⟩) hb _).set_ (p:=⟨b,2,none⟩) hb _).set_ (p:=⟨b,3,none⟩) hb _).set_ (p:=⟨b,4,none⟩) hb _
theorem set5_far {W:World} {b k:Nat} {t:TypeId} {cs:Array Value} (h:Blk W k t cs) (hb:k≠b) (v0 v1 v2 v3 v4:Value):Blk (set5 W b v0 v1 v2 v3 v4) k t cs :=
 ((((h.far (p:=⟨b,0,none⟩) hb _).far (p:=⟨b,1,none⟩) hb _).far (p:=⟨b,2,none⟩) hb _).far (p:=⟨b,3,none⟩) hb _).far (p:=⟨b,4,none⟩) hb _
theorem set5_blk {W:World} {b:Nat} {t:TypeId} {u0 u1 u2 u3 u4:Value} (h:Blk W b t #[u0,u1,u2,u3,u4]) (v0 v1 v2 v3 v4:Value):Blk (set5 W b v0 v1 v2 v3 v4) b t #[v0,v1,v2,v3,v4] :=
 ((((h.set_ 0 v0).set_ 1 v1).set_ 2 v2).set_ 3 v3).set_ 4 v4
theorem set5_below {A:Nat} {w W:World} (h:Below A w W) {b:Nat} (hb:A≤b) (v0 v1 v2 v3 v4:Value):Below A w (set5 W b v0 v1 v2 v3 v4) :=
 ((((h.setCell (p:=⟨b,0,none⟩) hb _).setCell (p:=⟨b,1,none⟩) hb _).setCell (p:=⟨b,2,none⟩) hb _).setCell (p:=⟨b,3,none⟩) hb _).setCell (p:=⟨b,4,none⟩) hb _
theorem inv_step {P:Nat→Prop} {w wr:World} {x:TX} {ps:List Int} {m:Nat} (hm:m < ps.length) {q r:Int} {s t:ByteArray} {o:Option Addr} {a:Nat}
  (hP:∀ b,w.heap.size + 1 < b→P b) (h0:¬ P w.heap.size)
  (hb0:Blk wr w.heap.size 24 #[.int .i64 q,.int .i64 r,.string s,.string t,.slice o a a]) (hb1:Blk wr (w.heap.size + 1) 24 zeroT) (hx:IsTP P wr (nest (ps.drop (m + 1)) x) (.agg #[.int .i64 q,.int .i64 r,.string s,.string t,.slice o a a]))
  (hbel:Below w.heap.size w wr) (hz:w.heap.size + 1 + 1≤wr.heap.size) :
  InvC P w x ps m (((set5 wr w.heap.size (.int .i64 5) (.int .i64 ps[m]) (.string ⟨#[]⟩) (.string ⟨#[]⟩) (.slice (some ⟨wr.heap.size,0,none⟩) 1 1)).alloc (.cells #[.int .i64 q,.int .i64 r,.string s,.string t,.slice o a a] 24)).drew):=by
 obtain ⟨X,hX⟩:∃ X,X=set5 wr w.heap.size (.int .i64 5) (.int .i64 ps[m]) (.string ⟨#[]⟩) (.string ⟨#[]⟩) (.slice (some ⟨wr.heap.size,0,none⟩) 1 1):=⟨_,rfl⟩
 have k0:Blk X w.heap.size 24 #[.int .i64 5,.int .i64 ps[m],.string ⟨#[]⟩,.string ⟨#[]⟩,.slice (some ⟨wr.heap.size,0,none⟩) 1 1]:=hX ▸ set5_blk hb0 _ _ _ _ _
 have k1:Blk X (w.heap.size + 1) 24 zeroT:=hX ▸ set5_far hb1 (by omega) _ _ _ _ _
 have kx:IsTP P X (nest (ps.drop (m + 1)) x) (.agg #[.int .i64 q,.int .i64 r,.string s,.string t,.slice o a a]):=hX ▸ set5_type hx h0 _ _ _ _ _
 have kb:Below w.heap.size w X:=hX ▸ set5_below hbel (Nat.le_refl _) _ _ _ _ _
 have ks:X.heap.size=wr.heap.size:=hX ▸ set5_size _ _ _ _ _ _ _
 rw [← hX]
 clear hX hb0 hb1 hx hbel
 have hal:=(Below.refl X.heap.size X).alloc (Nat.le_refl _) (.cells #[.int .i64 q,.int .i64 r,.string s,.string t,.slice o a a] 24)
 have hn:=Blk.new X 24 #[.int .i64 q,.int .i64 r,.string s,.string t,.slice o a a]
 rw [ks] at hn
 refine ⟨5,ps[m],⟨#[]⟩,⟨#[]⟩,some ⟨wr.heap.size,0,none⟩,1,(k0.alloc _).drew,(k1.alloc _).drew,?_,(kb.alloc (by omega) _).drew,?_⟩
 ·rw [List.drop_eq_getElem_cons hm]
  exact ⟨wr.heap.size,_,_,_,_,_,rfl,hP _ (by omega),hn.cell 0,hn.cell 1,hn.cell 2,hn.cell 3,hn.cell 4,(kx.below hal).drew⟩
 ·show _≤(World.alloc _ _).heap.size
  rw [World.size_alloc];omega
theorem closed_any (B:Nat) (x:TX) (xv:Value) (g c:Nat) (ps:List Int) (w:World) (hx:IsTX B w x xv) (hB:B≤w.heap.size) (hps:OpensAt w g ps) (hn:ps.length≤30) :
  Calls Tryz.prog 168 #[xv,.slice (some ⟨g,0,none⟩) ps.length c] w fun e w'=>∃ v,e=.returned v∧IsTX B w' (nest ps x) v∧Below w.heap.size w w':=by
 obtain ⟨k,p,s,m,o,a,rfl⟩:=hx.parts
 obtain ⟨P,hP⟩:∃ P:Nat→Prop,P=fun b=>B≤b∧b≠w.heap.size∧b≠w.heap.size + 1:=⟨_,rfl⟩
 have S:=Lib.hid (show InvC P w x ps ps.length ((w.alloc (.cells #[.int .i64 k,.int .i64 p,.string s,.string m,.slice o a a] 24)).alloc (.cells zeroT 24)) from by
  refine ⟨_,_,_,_,_,_,(Blk.new w 24 _).alloc _,by have:=Blk.new (w.alloc (.cells #[.int .i64 k,.int .i64 p,.string s,.string m,.slice o a a] 24)) 24 zeroT;simpa using this,?_,((Below.refl _ _).alloc (Nat.le_refl _) _).alloc (by simp) _,by simp⟩
  rw [List.drop_length]
  refine (IsTP.mono (fun b hb h=>?_) hx).below (((Below.refl _ _).alloc (Nat.le_refl _) _).alloc (by simp) _)
  rw [hP];exact ⟨h,by omega,by omega⟩)
 have HP:=Lib.hid hP
 have HO:=Lib.hid hps
 have HBB:=Lib.hid hB
 clear hx hps hP hB
 go_enter Tryz.func168,Tryz.ntmps168
 go_wp2
 go_loopw [5] (fun i wr=>∃ (i':Int) (k:Nat),i=.int .i64 i'∧i' + 1=(k:Nat)∧k≤ps.length∧Hid (InvC P w x ps k wr)) (fun i _=>(RowKit.intOf i + 1).toNat)
 case atStart=>exact ⟨_,ps.length,rfl,by omega,Nat.le_refl _,S⟩
 case round =>
  obtain ⟨i,k,rfl,hik,hk,HI⟩:=hrel
  rcases Nat.eq_zero_or_pos k with rfl | hkp
  ·obtain rfl:i=-1:=by omega
   obtain ⟨q,r,s1,s2,o1,a1,hb0,hb1,hx,hbel,hz⟩:=HI.out
   have b0:=hb0.cell
   have b1:=hb1.cell
   have f1:=hb1.frozen
   have HX:=Lib.hid hx
   have HBel:=Lib.hid hbel
   simp only [zeroT] at b1
   clear hb0 hb1 hx hbel
   go_wp2
   have hP0:¬ P (w.heap.size + 1):=by rw [HP.out];omega
   refine bodyPost_ret (v:=.agg #[.int .i64 q,.int .i64 r,.string s1,.string s2,.slice o1 a1 a1]) (by simp [results,Tryz.results168,go_sem,b1]) rfl ?_
   refine ⟨_,rfl,?_,set5_below HBel.out (Nat.le_succ _) _ _ _ _ _⟩
   have hx2:=HX.out
   rw [List.drop_zero] at hx2
   exact IsTP.mono (fun b _ h=>by rw [HP.out] at h;exact h.1) (set5_type (b:=w.heap.size + 1) hx2 hP0 _ _ _ _ _)
  ·obtain ⟨m,rfl⟩:∃ m,k=m + 1:=⟨k - 1,by omega⟩
   obtain rfl:i=(m:Nat):=by omega
   have hm:m < ps.length:=by omega
   obtain ⟨q,r,s1,s2,o1,a1,hb0,hb1,hx,hbel,hz⟩:=HI.out
   have b0:=hb0.cell
   have f0:=hb0.frozen
   have ho:=((HO.out.below hbel) m _ (List.getElem?_eq_getElem hm))
   have HX:=Lib.hid hx
   have HBel:=Lib.hid hbel
   have HB0:=Lib.hid hb0
   have HB1:=Lib.hid hb1
   have hz0:w.heap.size < wr.heap.size:=by omega
   have hz1:w.heap.size + 1 < wr.heap.size:=by omega
   have hz2:g < wr.heap.size:=World.block_lt_of_cell? _ _ ho
   have hne:(0:Int)≤(m:Nat):=by omega
   have hml:(m:Int) < (ps.length:Nat):=by omega
   clear hb0 hb1 hx hbel hik
   go_wp2_with fail
   go_region
   go_wp2
   go_roundw
   case rel=>exact ⟨_,m,rfl,by omega,by omega,Lib.hid (inv_step hm (fun b hb=>by rw [HP.out];have:=HBB.out;exact ⟨by omega,by omega,by omega⟩) (by rw [HP.out];omega) HB0.out HB1.out HX.out HBel.out hz)⟩
   case measure=>simp [RowKit.intOf]
end Go.Proofs.YtfcgoainglpdlaaGreatDoor
namespace Go.Proofs.YtfcgoainglpdlaaGreatDoor
open Go.RowKit
open Go.Lib hiding intOf
def wraps (ps:List Int) (r:Res):Res:=ps.foldr (fun p r=>r.wrap p) r
theorem wraps_err (ps:List Int) (p c:Int):wraps ps (.err p c)=.err p c:=by
 induction ps with
 |nil=>rfl
 |cons a r ih=>show Res.wrap a (wraps r _)=_;rw [ih];rfl
theorem wraps_ok (ps:List Int) (x:TX) (n:Int):wraps ps (.ok x n)=.ok (nest ps x) n:=by
 induction ps with
 |nil=>rfl
 |cons a r ih=>show Res.wrap a (wraps r _)=_;rw [ih];rfl
theorem wraps_snoc (ps:List Int) (p:Int) (r:Res):wraps (ps++[p]) r=wraps ps (r.wrap p):=by
 unfold wraps;rw [List.foldr_append];rfl
theorem prs_elm (l:List TZ) (k:Nat) (i:Int) (h:isKT (tkAt l i) 4 ⟨#[91]⟩=false):prs l k i=elm l i:=by
 cases k <;> simp [prs,h]
theorem prs_deep (l:List TZ) (i:Int) (h:isKT (tkAt l i) 4 ⟨#[91]⟩=true):prs l 0 i=.err (tkAt l i).pos 6:=by simp [prs,h]
theorem prs_shut (l:List TZ) (k:Nat) (i:Int) (h:isKT (tkAt l i) 4 ⟨#[91]⟩=true) (h2:isKT (tkAt l (i + 1)) 4 ⟨#[93]⟩=false):prs l (k + 1) i=.err (tkAt l (i + 1)).pos 5:=by simp [prs,h,h2]
theorem prs_list (l:List TZ) (k:Nat) (i:Int) (h:isKT (tkAt l i) 4 ⟨#[91]⟩=true) (h2:isKT (tkAt l (i + 1)) 4 ⟨#[93]⟩=true):prs l (k + 1) i=(prs l k (i + 2)).wrap (tkAt l i).pos:=by simp [prs,h,h2]
theorem elm_five {l:List TZ} {i p c:Int} (h:elm l i=.err p c):c=5:=by
 unfold elm at h
 split at h <;> (repeat' split at h) <;> first | (injection h with _ h;exact h.symm) | cases h
theorem run_field (a b c:Int) (t:ByteArray) (w:World):(Instr.field 81 (.agg #[.int .i64 a,.int .i64 b,.int .i64 c,.string t]) 1).run Tryz.prog w=.ok (.int .i64 b) w:=by
 simp [Instr.field,go_sem,part,asAgg]
def Opens (w W:World) (ps:List Int):Prop:=ps.length≤30∧∃ cs:Array Value,Blk W (w.heap.size + 1 + 1) 193 cs∧cs.size=30∧∀ (k:Nat) (p:Int),ps[k]?=some p→cs[k]?=some (Value.int .i64 p)
theorem Opens.below {w W W':World} {ps:List Int} (h:Opens w W ps) (hb:Below W.heap.size W W'):Opens w W' ps:=by
 obtain ⟨hl,cs,h1,h2,h3⟩:=h
 exact ⟨hl,cs,h1.below hb,h2,h3⟩
theorem Opens.at_ {w W:World} {ps:List Int} (h:Opens w W ps):OpensAt W (w.heap.size + 1 + 1) ps:=by
 obtain ⟨_,cs,h1,_,h3⟩:=h
 exact fun k p hk=>(h1.cell k).trans (h3 k p hk)
theorem Opens.put {w W:World} {ps:List Int} (h:Opens w W ps) (hl:ps.length < 30) (p:Int):Opens w (W.setCell ⟨w.heap.size + 1 + 1,ps.length,none⟩ (.int .i64 p)) (ps++[p]):=by
 obtain ⟨_,cs,h1,h2,h3⟩:=h
 refine ⟨by simp;omega,_,h1.set_ ps.length (.int .i64 p),by simpa using h2,fun k q hk=>?_⟩
 rw [Array.getElem?_setIfInBounds]
 by_cases e:ps.length=k
 ·subst e
  simp at hk
  subst hk
  simp [h2,hl]
 ·rw [if_neg e]
  refine h3 k q ?_
  rw [List.getElem?_append] at hk
  split at hk
  ·exact hk
  ·have hl2:(ps++[p]).length≤k∨k < (ps++[p]).length:=by omega
   simp at hl2
   rw [List.getElem?_eq_none (by simp;omega)] at hk
   cases hk
theorem Opens.room {w W:World} {ps:List Int} (h:Opens w W ps) (hl:ps.length < 30):(∃ u,W.cell? ⟨w.heap.size + 1 + 1,ps.length,none⟩=some u)∧W.frozen? ⟨w.heap.size + 1 + 1,ps.length,none⟩=false:=by
 obtain ⟨_,cs,h1,h2,_⟩:=h
 exact ⟨⟨cs[ps.length]'(by omega),(h1.cell _).trans (Array.getElem?_eq_getElem (by omega))⟩,h1.frozen _⟩
theorem ret7_size (w W:World) (v0 v1 v2 v3 v4 v5 v6:Value):(ret7 w W v0 v1 v2 v3 v4 v5 v6).heap.size=W.heap.size:=by simp [ret7,World.setCell]
theorem Two.far {w W:World} (h:Two w W) {p:Addr} (hp:w.heap.size + 1 < p.block) (u:Value):Two w (W.setCell p u) :=
 ⟨h.type.far (by omega) u,h.diag.far (by omega) u,h.below.setCell (by omega) u,by have:=h.size;simpa [World.setCell] using this⟩
def InvP (l:List TZ) (i:Int) (w:World) (ps:List Int) (n:Int) (W:World):Prop :=
 Two w W∧Opens w W ps∧prs l 30 i=wraps ps (prs l (30 - ps.length) n)
def zero30:Array Value:=Array.replicate 30 (.int .i64 0)
theorem InvP.start (l:List TZ) (i:Int) (w:World):InvP l i w [] i (((w.alloc (.cells zeroT 24)).alloc (.cells zeroG 44)).alloc (.cells zero30 193)):=by
 refine ⟨(Two.start w).alloc _,⟨Nat.zero_le _,zero30,?_,by simp [zero30],fun k p hk=>by simp at hk⟩,rfl⟩
 have:=Blk.new ((w.alloc (.cells zeroT 24)).alloc (.cells zeroG 44)) 193 zero30
 simpa using this
theorem parse_any (o:Option Addr) (c:Nat) (l:List TZ) (i:Int) (w:World) (h:ZAt w o l) (hn:l.length≤9223372036854775807) (hf:Fits l) :
  Calls Tryz.prog 155 #[.slice o l.length c,.int .i64 i] w fun e w'=>∃ v,e=.returned v∧IsRes (w.heap.size + 2) w' (prs l 30 i) v∧Below w.heap.size w w':=by
 have HT:=Lib.hid (fun (W:World) (j:Int) (hb:Below w.heap.size w W)=>tokenAt_v o c l j W (h.below hb) hn)
 have HS:=Lib.hid (fun (W:World) (t:TZ) (y:ByteArray)=>isSymbol_v t.kind t.pos t.stop t.text y W)
 have HE:=Lib.hid (fun (W:World) (j:Int) (hb:Below w.heap.size w W)=>element_any o c l j W (h.below hb) hn hf)
 have S:=Lib.hid (InvP.start l i w)
 have hfield:=run_field
 clear h hf
 go_enter Tryz.func155,Tryz.ntmps155
 go_wp2
 go_step3
 go_wp2
 go_step3
 go_wp2
 go_loopw [8,9] (fun s8 s9 wr=>∃ (ps:List Int) (n:Int),s8=.int .i64 (ps.length:Nat)∧s9=.int .i64 n∧ps.length≤30∧Hid (InvP l i w ps n wr)) (fun s8 _ _=>30 - (RowKit.intOf s8).toNat)
 case atStart=>exact ⟨[],i,rfl,rfl,by simp,S⟩
 case round =>
  obtain ⟨ps,n,rfl,rfl,hd,HI⟩:=hrel
  clear S
  go_wp2_with fail
  refine (HT.out _ n HI.out.1.below).mono ?_
  rintro e w1 ⟨rfl,hB⟩
  have T1:=Lib.hid (HI.out.1.step hB)
  have O1:=Lib.hid (HI.out.2.1.below hB)
  have HP:=Lib.hid HI.out.2.2
  clear hB HI
  go_wp2_with fail
  refine (HS.out _ (tkAt l n) _).mono ?_
  rintro e w2 ⟨rfl,hB⟩
  have T2:=Lib.hid ((T1.out.alloc _).step hB)
  have O2:=Lib.hid ((O1.out.below ((Below.refl _ _).alloc (Nat.le_refl _) _)).below hB)
  have X2:=Lib.hid (blk_mid3 hB)
  have hz2:=mid_size hB
  have hz1:=T1.out.size
  clear hB T1 O1
  cases he:isKT (tkAt l n) 4 ⟨#[91]⟩
  ·have HP2:=Lib.hid (HP.out.trans (congrArg (wraps ps) (prs_elm l _ n he)))
   clear he HP
   go_wp2_with fail
   refine (HE.out _ n T2.out.below).mono ?_
   rintro e w3 ⟨v,rfl,hr,hB⟩
   have T3:=Lib.hid (T2.out.step hB)
   have O3:=Lib.hid (O2.out.below hB)
   have hz3:=T2.out.size
   have hr2:IsRes (w.heap.size + 2) w3 (elm l n) v:=hr.mono (by omega)
   clear hB T2 O2 X2 hr
   obtain ⟨R,hq⟩:∃ R,elm l n=R:=⟨_,rfl⟩
   have HQ:=Lib.hid hq
   rw [hq] at hr2
   clear hq
   cases R with
   |ok x m =>
    obtain ⟨y,rfl,hx⟩:=hr2
    obtain ⟨k,p,g,s,o',a',rfl⟩:=hx.parts
    have HX:=Lib.hid hx
    have HC:=Lib.hid (fun (W:World) (hb:Below w3.heap.size w3 W)=>closed_any (w.heap.size + 2) x _ (w.heap.size + 1 + 1) 30 ps W (IsTX.below hx hb) (by have:=T3.out.size;have:=hb.size;omega) ((O3.out.below hb).at_) hd)
    have hz4:w.heap.size < w3.heap.size:=by have:=T3.out.size;omega
    have hz5:w.heap.size + 1 < w3.heap.size:=by have:=T3.out.size;omega
    have hd0:(0:Int)≤(ps.length:Nat):=by omega
    have hd1:((ps.length:Nat):Int)≤30:=by omega
    clear hx
    obtain ⟨c1,c2,c3,c4⟩:=T3.out.cells
    simp only [zeroT,zeroG] at c1 c3
    unfold okV
    go_wp2_with fail
    go_region_with (go_at_call 168;refine (HC.out _ ((((Below.refl _ _).alloc (Nat.le_refl _) _).alloc (by simp) _).drew)).mono ?_;rintro e w4 ⟨v4,rfl,hx4,hB⟩;obtain ⟨k4,p4,g4,s4,o4,a4,rfl⟩:=hx4.parts;have T4:=Lib.hid (((T3.out.alloc _).alloc _).step hB.undrew);have HX4:=Lib.hid hx4;clear hB hx4;obtain ⟨c5,c6,c7,c8⟩:=T4.out.cells;simp only [zeroT,zeroG] at c5 c7)
    go_wp2
    rw [Exit.noGoto_ret]
    refine bodyPost_ret (v:=okV (.agg #[.int .i64 k4,.int .i64 p4,.string g4,.string s4,.slice o4 a4 a4]) m) (by simp [okV,results,Tryz.results155,go_sem,c5,c7]) rfl ?_
    refine ⟨_,rfl,?_,ret7_below T4.out _ _ _ _ _ _ _⟩
    have hr:prs l 30 i=.ok (nest ps x) m:=by rw [HP2.out,HQ.out,wraps_ok]
    rw [hr]
    exact ⟨_,rfl,ret7_type HX4.out (by omega) _ _ _ _ _ _ _⟩
   |err p k =>
    obtain rfl:k=5:=elm_five HQ.out
    obtain rfl:v=errV p 5:=hr2
    obtain ⟨c1,c2,c3,c4⟩:=T3.out.cells
    simp only [zeroT,zeroG] at c1 c3
    have hz4:w.heap.size < w3.heap.size:=by have:=T3.out.size;omega
    have hz5:w.heap.size + 1 < w3.heap.size:=by have:=T3.out.size;omega
    unfold errV noType noText
    go_wp2_with fail
    go_region
    go_wp2
    rw [Exit.noGoto_ret]
    refine bodyPost_ret (v:=errV p 5) (by simp [errV,noType,noText,results,Tryz.results155,go_sem,c1,c3,hz4,hz5]) rfl ?_
    have hr:prs l 30 i=.err p 5:=by rw [HP2.out,HQ.out,wraps_err]
    exact ⟨_,rfl,by rw [hr];rfl,(((ret7_below T3.out _ _ _ _ _ _ _).alloc (by rw [ret7_size];omega) _).alloc (by rw [World.size_alloc,ret7_size];omega) _).drew⟩
  ·have HE1:=Lib.hid he
   have hn1:=isKT_real (by decide) he
   obtain ⟨hn2,hn3⟩:=hn1
   clear he
   by_cases h30:ps.length=30
   ·have e30:(((ps.length:Nat):Int) == 30)=true:=by rw [h30];rfl
    have hz4:w.heap.size < w2.heap.size:=by omega
    have hz5:w.heap.size + 1 < w2.heap.size:=by omega
    have hz6:w1.heap.size≠w.heap.size:=by omega
    have hz7:w1.heap.size≠w.heap.size + 1:=by omega
    obtain ⟨c1,c2,c3,c4⟩:=T2.out.cells
    have c5:=X2.out.cell
    simp only [zeroT,zeroG] at c1 c3
    have H30:=Lib.hid h30
    clear h30
    go_wp2_with fail
    go_region
    go_wp2
    rw [Exit.noGoto_ret]
    refine bodyPost_ret (v:=errV (tkAt l n).pos 6) (by simp [errV,noType,noText,results,Tryz.results155,go_sem,c1,c3]) rfl ?_
    have hr:prs l 30 i=.err (tkAt l n).pos 6:=by rw [HP.out,H30.out,prs_deep l n HE1.out,wraps_err]
    exact ⟨_,rfl,by rw [hr];rfl,(ret7_below T2.out _ _ _ _ _ _ _).drew⟩
   ·have e30:(((ps.length:Nat):Int) == 30)=false:=by simp;omega
    have hlt:ps.length < 30:=by omega
    have c5:=X2.out.cell
    clear h30
    go_wp2_with fail
    refine (HT.out _ (n + 1) T2.out.below).mono ?_
    rintro e w3 ⟨rfl,hB⟩
    have T3:=Lib.hid (T2.out.step hB)
    have O3:=Lib.hid (O2.out.below hB)
    have X3:=Lib.hid (X2.out.below hB)
    clear hB T2 O2 X2 c5
    go_wp2_with fail
    refine (HS.out _ (tkAt l (n + 1)) _).mono ?_
    rintro e w4 ⟨rfl,hB⟩
    have T4:=Lib.hid (T3.out.step hB)
    have O4:=Lib.hid (O3.out.below hB)
    have X4:=Lib.hid (X3.out.below hB)
    clear hB T3 O3 X3
    cases he:isKT (tkAt l (n + 1)) 4 ⟨#[93]⟩
    ·have HE2:=Lib.hid he
     clear he
     go_wp2_with fail
     refine (HT.out _ (n + 1) T4.out.below).mono ?_
     rintro e w5 ⟨rfl,hB⟩
     have T5:=Lib.hid (T4.out.step hB)
     clear hB T4 O4 X4
     obtain ⟨c1,c2,c3,c4⟩:=T5.out.cells
     simp only [zeroT,zeroG] at c1 c3
     go_wp2
     rw [Exit.noGoto_ret]
     refine bodyPost_ret (v:=errV (tkAt l (n + 1)).pos 5) (by simp [errV,noType,noText,results,Tryz.results155,go_sem,c1,c3]) rfl ?_
     have hr:prs l 30 i=.err (tkAt l (n + 1)).pos 5:=by rw [HP.out,show 30 - ps.length=(29 - ps.length) + 1 by omega,prs_shut l _ n HE1.out HE2.out,wraps_err]
     exact ⟨_,rfl,by rw [hr];rfl,ret7_below T5.out _ _ _ _ _ _ _⟩
    ·have HE2:=Lib.hid he
     obtain ⟨hn4,hn5⟩:=isKT_real (by decide) he
     clear he
     have c5:=X4.out.cell
     obtain ⟨⟨u,hu⟩,hfu⟩:=O4.out.room hlt
     have hd0:(0:Int)≤(ps.length:Nat):=by omega
     have hd1:((ps.length:Nat):Int) < 30:=by omega
     go_wp2
     go_roundw
     case rel =>
      refine ⟨ps++[(tkAt l n).pos],n + 2,?_,rfl,by simp;omega,Lib.hid ⟨T4.out.far (by simp only;omega) _,O4.out.put hlt _,?_⟩⟩
      ·simp
      ·rw [HP.out,wraps_snoc,show 30 - ps.length=(29 - ps.length) + 1 by omega,prs_list l _ n HE1.out HE2.out]
       congr 3
       simp
     case measure=>simp [RowKit.intOf];omega
end Go.Proofs.YtfcgoainglpdlaaGreatDoor
namespace Go.Proofs.YtfcgoainglpdlaaGreatDoor
inductive EX where
 |mk (kind pos stop num:Int) (name:ByteArray) (typ:TX) (args:List EX)
def EX.kind:EX→Int
 |.mk k _ _ _ _ _ _=>k
def EX.pos:EX→Int
 |.mk _ p _ _ _ _ _=>p
def EX.stop:EX→Int
 |.mk _ _ s _ _ _ _=>s
def EX.args:EX→List EX
 |.mk _ _ _ _ _ _ a=>a
def noTX:TX:=.leaf 0 0 ⟨#[]⟩ ⟨#[]⟩
inductive EO (α:Type) where
 |ok (x:α) (next:Int)
 |err (pos code:Int)
 |out
def lvlOf (t:TZ):Nat :=
 if t.kind≠4 then 0 else
 if t.text.data.toList=[38,38] then 1 else
 if t.text.data.toList=[61,61]∨t.text.data.toList=[60] then 2 else
 if t.text.data.toList=[43]∨t.text.data.toList=[45] then 3 else
 if t.text.data.toList=[42] then 4 else 0
def isD (c:UInt8):Bool:=decide (48≤c.toNat) && decide (c.toNat≤57)
def numOf (l:List UInt8):Option Int:=if 1≤l.length∧l.length≤15∧l.all isD then some (l.foldl (fun n c=>10 * n + ((c.toNat:Int) - 48)) 0) else none
def quoted (l:List UInt8):Bool:=decide (2≤l.length) && decide (l.head?=some 34) && decide (l.getLast?=some 34)
def unquote (l:List UInt8):List UInt8:=(l.drop 1).take (l.length - 2)
def mkNot (p e:Int) (x:EX):EX:=.mk 10 p e 0 ⟨#[]⟩ noTX [x]
def mkBin (p e:Int) (op:ByteArray) (x y:EX):EX:=.mk 9 p e 0 op noTX [x,y]
def mkSel (p:Int) (x:EX) (n:ByteArray) (e:Int):EX:=.mk 5 p e 0 n noTX [x]
def mkCall (p:Int) (x:EX) (ys:List EX) (e:Int):EX:=.mk 6 p e 0 ⟨#[]⟩ noTX (x::ys)
def mkIdx (p:Int) (x y:EX) (e:Int):EX:=.mk 7 p e 0 ⟨#[]⟩ noTX [x,y]
def isS (t:TZ) (c:UInt8):Bool:=decide (t.kind=4) && decide (t.text.data.toList=[c])
def isW (t:TZ) (s:List UInt8):Bool:=decide (t.kind=5) && decide (t.text.data.toList=s)
mutual
def ex (l:List TZ):Nat→Nat→Nat→Int→EO EX
 |0,_,_,_=>.out
 |f + 1,k,d,i=>if k=5 then una l f d i else
  match ex l f (k + 1) d i with
  |.ok x j=>binT l f k d i x j
  |.err p c=>.err p c
  |.out=>.out
def binT (l:List TZ):Nat→Nat→Nat→Int→EX→Int→EO EX
 |0,_,_,_,_,_=>.out
 |f + 1,k,d,a,x,i=>if lvlOf (tkAt l i)=k then
   match ex l f (k + 1) d (i + 1) with
   |.ok y j=>binT l f k d a (mkBin (tkAt l a).pos (tkAt l (j - 1)).stop (tkAt l i).text x y) j
   |.err p c=>.err p c
   |.out=>.out
  else .ok x i
def una (l:List TZ):Nat→Nat→Int→EO EX
 |0,_,_=>.out
 |f + 1,d,i=>if isS (tkAt l i) 33 then
   if 30≤d then .err (tkAt l i).pos 6 else
   match una l f (d + 1) (i + 1) with
   |.ok x j=>.ok (mkNot (tkAt l i).pos (tkAt l (j - 1)).stop x) j
   |.err p c=>.err p c
   |.out=>.out
  else
   match prim l f d i with
   |.ok x j=>post l f d i x j
   |.err p c=>.err p c
   |.out=>.out
def prim (l:List TZ):Nat→Nat→Int→EO EX
 |0,_,_=>.out
 |f + 1,d,i =>
  if (tkAt l i).kind=2 then
   match numOf (tkAt l i).text.data.toList with
   |some n=>.ok (.mk 1 (tkAt l i).pos (tkAt l i).stop n ⟨#[]⟩ noTX []) (i + 1)
   |none=>.err (tkAt l i).pos 2
  else if (tkAt l i).kind=3 then
   if quoted (tkAt l i).text.data.toList then .ok (.mk 2 (tkAt l i).pos (tkAt l i).stop 0 ⟨(unquote (tkAt l i).text.data.toList).toArray⟩ noTX []) (i + 1) else .err (tkAt l i).pos 3
  else if isW (tkAt l i) [116,114,117,101] then .ok (.mk 3 (tkAt l i).pos (tkAt l i).stop 1 ⟨#[]⟩ noTX []) (i + 1)
  else if isW (tkAt l i) [102,97,108,115,101] then .ok (.mk 3 (tkAt l i).pos (tkAt l i).stop 0 ⟨#[]⟩ noTX []) (i + 1)
  else if (tkAt l i).kind=1 then .ok (.mk 4 (tkAt l i).pos (tkAt l i).stop 0 (tkAt l i).text noTX []) (i + 1)
  else if isS (tkAt l i) 40 then
   if 30≤d then .err (tkAt l i).pos 6 else
   match ex l f 1 (d + 1) (i + 1) with
   |.ok y j=>if isS (tkAt l j) 41 then .ok y (j + 1) else .err (tkAt l j).pos 5
   |.err p c=>.err p c
   |.out=>.out
  else if isW (tkAt l i) [110,101,119] then
   match prs l 30 (i + 1) with
   |.ok t j=>if isS (tkAt l j) 123 then
     match lst l f 125 d j with
     |.ok ys q=>.ok (.mk 8 (tkAt l i).pos (tkAt l (q - 1)).stop 0 ⟨#[]⟩ t ys) q
     |.err p c=>.err p c
     |.out=>.out
    else .err (tkAt l j).pos 5
   |.err p c=>.err p c
  else .err (tkAt l i).pos 5
def post (l:List TZ):Nat→Nat→Int→EX→Int→EO EX
 |0,_,_,_,_=>.out
 |f + 1,d,a,x,i =>
  if isS (tkAt l i) 46 then
   if (tkAt l (i + 1)).kind=1 then post l f d a (mkSel (tkAt l a).pos x (tkAt l (i + 1)).text (tkAt l (i + 1)).stop) (i + 2) else .err (tkAt l (i + 1)).pos 5
  else if isS (tkAt l i) 40 then
   match lst l f 41 d i with
   |.ok ys q=>post l f d a (mkCall (tkAt l a).pos x ys (tkAt l (q - 1)).stop) q
   |.err p c=>.err p c
   |.out=>.out
  else if isS (tkAt l i) 91 then
   if 30≤d then .err (tkAt l i).pos 6 else
   match ex l f 1 (d + 1) (i + 1) with
   |.ok y j=>if isS (tkAt l j) 93 then post l f d a (mkIdx (tkAt l a).pos x y (tkAt l j).stop) (j + 1) else .err (tkAt l j).pos 5
   |.err p c=>.err p c
   |.out=>.out
  else .ok x i
def lst (l:List TZ):Nat→UInt8→Nat→Int→EO (List EX)
 |0,_,_,_=>.out
 |f + 1,z,d,i=>if 30≤d then .err (tkAt l i).pos 6 else
  if isS (tkAt l (i + 1)) z then .ok [] (i + 2) else items l f z d (i + 1)
def items (l:List TZ):Nat→UInt8→Nat→Int→EO (List EX)
 |0,_,_,_=>.out
 |f + 1,z,d,i =>
  match ex l f 1 (d + 1) i with
  |.ok y j=>if isS (tkAt l j) 44 then
    match items l f z d (j + 1) with
    |.ok ys q=>.ok (y::ys) q
    |.err p c=>.err p c
    |.out=>.out
   else if isS (tkAt l j) z then .ok [y] (j + 1) else .err (tkAt l j).pos 5
  |.err p c=>.err p c
  |.out=>.out
end
theorem isS_kind {t:TZ} {c:UInt8} (h:isS t c=true):t.kind=4:=by
 unfold isS at h
 simp only [Bool.and_eq_true,decide_eq_true_eq] at h
 exact h.1
theorem isW_kind {t:TZ} {c:List UInt8} (h:isW t c=true):t.kind=5:=by
 unfold isW at h
 simp only [Bool.and_eq_true,decide_eq_true_eq] at h
 exact h.1
theorem lvl_kind {t:TZ} (h:lvlOf t≠0):t.kind=4:=by
 unfold lvlOf at h
 split at h
 ·exact (h rfl).elim
 ·next hk=>exact Classical.byContradiction fun hc=>hk hc
theorem elm_rng {l:List TZ} {i:Int} {x:TX} {m:Int} (h:elm l i=.ok x m):0≤i∧i < m∧m≤l.length:=by
 unfold elm at h
 split at h
 ·next h1 =>
  have:=tkAt_real (l:=l) (i:=i) (by rw [h1];decide)
  split at h
  ·split at h
   ·next h3 =>
    have:=tkAt_real (l:=l) (i:=i + 2) (by rw [h3];decide)
    injection h with _ h;omega
   ·cases h
  ·injection h with _ h;omega
 ·split at h
  ·next h5 =>
   have:=tkAt_real (l:=l) (i:=i) (by rw [h5.1];decide)
   injection h with _ h;omega
  ·cases h
theorem prs_rng {l:List TZ}:∀ {k:Nat} {i:Int} {x:TX} {m:Int},prs l k i=.ok x m→0≤i∧i < m∧m≤l.length
 |0,i,x,m,h=>by
  unfold prs at h
  split at h
  ·cases h
  ·exact elm_rng h
 |k + 1,i,x,m,h=>by
  unfold prs at h
  split at h
  ·next h1 =>
   have:=isKT_real (by decide) h1
   split at h
   ·cases hp:prs l k (i + 2) with
    |ok y n =>
     rw [hp] at h
     have:=prs_rng hp
     injection h with _ h
     omega
    |err q d=>rw [hp] at h;cases h
   ·cases h
  ·exact elm_rng h
section
variable {l:List TZ} {e:Nat}
end
end Go.Proofs.YtfcgoainglpdlaaGreatDoor
namespace Go.Proofs.YtfcgoainglpdlaaGreatDoor
open Go.RowKit
open Go.Lib hiding intOf
mutual
def IsEP (P:Nat→Prop) (w:World):EX→Value→Prop
 |.mk k p s n nm t args,v=>∃ (tk tp:Int) (tg tn:ByteArray) (tz:Option Addr) (ta:Nat) (o:Option Addr) (c:Nat),
   v=.agg #[.int .i64 k,.int .i64 p,.int .i64 s,.string nm,.int .i64 n,.int .i64 tk,.int .i64 tp,.string tg,.string tn,.slice tz ta ta,.slice o args.length c] ∧
   (args.length≤c∧c≤maxLen)∧IsTP P w t (.agg #[.int .i64 tk,.int .i64 tp,.string tg,.string tn,.slice tz ta ta])∧IsEPs P w o 0 args
def IsEPs (P:Nat→Prop) (w:World) (o:Option Addr):Nat→List EX→Prop
 |_,[]=>True
 |i,y::r=>(∃ (b:Nat) (c0 c1 c2 c3 c4 c5 c6 c7 c8 c9 c10:Value),o=some ⟨b,0,none⟩∧P b ∧
   w.cell? ⟨b,i * 11,none⟩=some c0∧w.cell? ⟨b,i * 11 + 1,none⟩=some c1∧w.cell? ⟨b,i * 11 + 2,none⟩=some c2∧w.cell? ⟨b,i * 11 + 3,none⟩=some c3∧w.cell? ⟨b,i * 11 + 4,none⟩=some c4∧w.cell? ⟨b,i * 11 + 5,none⟩=some c5 ∧
   w.cell? ⟨b,i * 11 + 6,none⟩=some c6∧w.cell? ⟨b,i * 11 + 7,none⟩=some c7∧w.cell? ⟨b,i * 11 + 8,none⟩=some c8∧w.cell? ⟨b,i * 11 + 9,none⟩=some c9∧w.cell? ⟨b,i * 11 + 10,none⟩=some c10 ∧
   IsEP P w y (.agg #[c0,c1,c2,c3,c4,c5,c6,c7,c8,c9,c10]))∧IsEPs P w o (i + 1) r
end
mutual
theorem IsEP.keep {P P':Nat→Prop} {w w':World} (hP:∀ (b i:Nat) (u:Value),P b→w.cell? ⟨b,i,none⟩=some u→P' b) (hk:∀ (b i:Nat) (u:Value),P b→w.cell? ⟨b,i,none⟩=some u→w'.cell? ⟨b,i,none⟩=some u):∀ {x:EX} {v:Value},IsEP P w x v→IsEP P' w' x v
 |.mk ..,_,h=>by
  unfold IsEP at h ⊢
  obtain ⟨tk,tp,tg,tn,tz,ta,o,c,hv,hcap,ht,ha⟩:=h
  exact ⟨tk,tp,tg,tn,tz,ta,o,c,hv,hcap,ht.keep hP hk,IsEPs.keep hP hk ha⟩
theorem IsEPs.keep {P P':Nat→Prop} {w w':World} (hP:∀ (b i:Nat) (u:Value),P b→w.cell? ⟨b,i,none⟩=some u→P' b) (hk:∀ (b i:Nat) (u:Value),P b→w.cell? ⟨b,i,none⟩=some u→w'.cell? ⟨b,i,none⟩=some u):∀ {i:Nat} {xs:List EX} {o:Option Addr},IsEPs P w o i xs→IsEPs P' w' o i xs
 |_,[],_,_=>by unfold IsEPs;trivial
 |i,y::r,_,h=>by
  unfold IsEPs at h ⊢
  obtain ⟨⟨b,c0,c1,c2,c3,c4,c5,c6,c7,c8,c9,c10,ho,hb,h0,h1,h2,h3,h4,h5,h6,h7,h8,h9,h10,hy⟩,hr⟩:=h
  exact ⟨⟨b,c0,c1,c2,c3,c4,c5,c6,c7,c8,c9,c10,ho,hP _ _ _ hb h0,hk _ _ _ hb h0,hk _ _ _ hb h1,hk _ _ _ hb h2,hk _ _ _ hb h3,hk _ _ _ hb h4,hk _ _ _ hb h5,hk _ _ _ hb h6,hk _ _ _ hb h7,hk _ _ _ hb h8,hk _ _ _ hb h9,hk _ _ _ hb h10,IsEP.keep hP hk hy⟩,IsEPs.keep hP hk hr⟩
end
theorem IsEP.below {P:Nat→Prop} {w w':World} {x:EX} {v:Value} (h:IsEP P w x v) (hb:Below w.heap.size w w'):IsEP P w' x v :=
 h.keep (fun _ _ _ h _=>h) fun _ _ _ _ hc=>(hb.cell (World.block_lt_of_cell? _ _ hc)).trans hc
theorem IsEPs.below {P:Nat→Prop} {w w':World} {o:Option Addr} {i:Nat} {xs:List EX} (h:IsEPs P w o i xs) (hb:Below w.heap.size w w'):IsEPs P w' o i xs :=
 h.keep (fun _ _ _ h _=>h) fun _ _ _ _ hc=>(hb.cell (World.block_lt_of_cell? _ _ hc)).trans hc
theorem IsEP.parts {P:Nat→Prop} {w:World} {x:EX} {v:Value} (h:IsEP P w x v):∃ (n:Int) (nm:ByteArray) (tk tp:Int) (tg tn:ByteArray) (tz:Option Addr) (ta:Nat) (o:Option Addr) (c:Nat),
  v=.agg #[.int .i64 x.kind,.int .i64 x.pos,.int .i64 x.stop,.string nm,.int .i64 n,.int .i64 tk,.int .i64 tp,.string tg,.string tn,.slice tz ta ta,.slice o x.args.length c]∧IsEPs P w o 0 x.args:=by
 cases x with
 |mk k p s n nm t args =>
  unfold IsEP at h
  obtain ⟨tk,tp,tg,tn,tz,ta,o,c,hv,_,ht,ha⟩:=h
  exact ⟨n,nm,tk,tp,tg,tn,tz,ta,o,c,hv,ha⟩
end Go.Proofs.YtfcgoainglpdlaaGreatDoor
namespace Go.Proofs.YtfcgoainglpdlaaGreatDoor
theorem isS_real {l:List TZ} {i:Int} {c:UInt8} (h:isS (tkAt l i) c=true):0≤i∧i < l.length:=tkAt_real (by rw [isS_kind h];decide)
theorem isW_real {l:List TZ} {i:Int} {c:List UInt8} (h:isW (tkAt l i) c=true):0≤i∧i < l.length:=tkAt_real (by rw [isW_kind h];decide)
theorem read_rng {l:List TZ}:∀ f:Nat,
  (∀ k d i x j,k≠0→ex l f k d i=.ok x j→0≤i∧i < j∧j≤l.length) ∧
  (∀ k d a x i z j,k≠0→binT l f k d a x i=.ok z j→i≤j∧(j=i∨j≤l.length)) ∧
  (∀ d i x j,una l f d i=.ok x j→0≤i∧i < j∧j≤l.length) ∧
  (∀ d i x j,prim l f d i=.ok x j→0≤i∧i < j∧j≤l.length) ∧
  (∀ d a x i z j,post l f d a x i=.ok z j→i≤j∧(j=i∨j≤l.length)) ∧
  (∀ z d i ys j,lst l f z d i=.ok ys j→i < j∧j≤l.length) ∧
  (∀ z d i ys j,items l f z d i=.ok ys j→0≤i∧i < j∧j≤l.length):=by
 intro f
 induction f with
 |zero =>
  refine ⟨?_,?_,?_,?_,?_,?_,?_⟩ <;> intros <;> simp [ex,binT,una,prim,post,lst,items] at *
 |succ f ih =>
  obtain ⟨iE,iB,iU,iP,iT,iL,iI⟩:=ih
  refine ⟨?_,?_,?_,?_,?_,?_,?_⟩
  ·intro k d i x j hk h
   unfold ex at h
   split at h
   ·exact iU _ _ _ _ h
   ·split at h
    ·next y q hq =>
     have h1:=iE _ _ _ _ _ (by omega) hq
     have h2:=iB _ _ _ _ _ _ _ hk h
     omega
    ·cases h
    ·cases h
  ·intro k d a x i z j hk h
   unfold binT at h
   split at h
   ·split at h
    ·next y q hq =>
     have h1:=iE _ _ _ _ _ (by omega) hq
     have h2:=iB _ _ _ _ _ _ _ hk h
     omega
    ·cases h
    ·cases h
   ·injection h with h h';omega
  ·intro d i x j h
   unfold una at h
   split at h
   ·next hn =>
    have hr:=isS_real hn
    split at h
    ·cases h
    ·split at h
     ·next y q hq =>
      injection h with h h'
      have:=iU _ _ _ _ hq
      omega
     ·cases h
     ·cases h
   ·split at h
    ·next y q hq =>
     have h1:=iP _ _ _ _ hq
     have h2:=iT _ _ _ _ _ _ h
     omega
    ·cases h
    ·cases h
  ·intro d i x j h
   unfold prim at h
   split at h
   ·next hk =>
    have hr:=tkAt_real (l:=l) (i:=i) (by rw [hk];decide)
    split at h
    ·injection h with h h';omega
    ·cases h
   split at h
   ·next hk =>
    have hr:=tkAt_real (l:=l) (i:=i) (by rw [hk];decide)
    split at h
    ·injection h with h h';omega
    ·cases h
   split at h
   ·next hk=>have hr:=isW_real hk;injection h with h h';omega
   split at h
   ·next hk=>have hr:=isW_real hk;injection h with h h';omega
   split at h
   ·next hk =>
    have hr:=tkAt_real (l:=l) (i:=i) (by rw [hk];decide)
    injection h with h h';omega
   split at h
   ·next hk =>
    have hr:=isS_real hk
    split at h
    ·cases h
    ·split at h
     ·next y q hq =>
      have h1:=iE _ _ _ _ _ (by omega) hq
      split at h
      ·next hc =>
       have hcr:=isS_real hc
       injection h with h h';omega
      ·cases h
     ·cases h
     ·cases h
   split at h
   ·next hk =>
    have hr:=isW_real hk
    split at h
    ·next t q hq =>
     have hp:=prs_rng hq
     split at h
     ·split at h
      ·next ys r hys =>
       have:=iL _ _ _ _ _ hys
       injection h with h h';omega
      ·cases h
      ·cases h
     ·cases h
    ·cases h
   ·cases h
  ·intro d a x i z j h
   unfold post at h
   split at h
   ·next hn =>
    have hr:=isS_real hn
    split at h
    ·next hk =>
     have hr2:=tkAt_real (l:=l) (i:=i + 1) (by rw [hk];decide)
     have:=iT _ _ _ _ _ _ h
     omega
    ·cases h
   split at h
   ·split at h
    ·next ys q hys =>
     have h1:=iL _ _ _ _ _ hys
     have:=iT _ _ _ _ _ _ h
     omega
    ·cases h
    ·cases h
   split at h
   ·split at h
    ·cases h
    ·split at h
     ·next y q hq =>
      have h1:=iE _ _ _ _ _ (by omega) hq
      split at h
      ·next hc =>
       have hcr:=isS_real hc
       have:=iT _ _ _ _ _ _ h
       omega
      ·cases h
     ·cases h
     ·cases h
   ·injection h with h h';omega
  ·intro z d i ys j h
   unfold lst at h
   split at h
   ·cases h
   split at h
   ·next hn =>
    have hr:=isS_real hn
    injection h with h h';omega
   ·have:=iI _ _ _ _ _ h
    omega
  ·intro z d i ys j h
   unfold items at h
   split at h
   ·next y q hq =>
    have h1:=iE _ _ _ _ _ (by omega) hq
    split at h
    ·split at h
     ·next zs r hr =>
      have:=iI _ _ _ _ _ hr
      injection h with h h';omega
     ·cases h
     ·cases h
    ·split at h
     ·next hc =>
      have hcr:=isS_real hc
      injection h with h h';omega
     ·cases h
   ·cases h
   ·cases h
def left (l:List TZ) (i:Int):Nat:=(l.length - i).toNat
theorem enough {l:List TZ}:∀ f:Nat,
  (∀ k d i,1≤k→k≤5→8 * left l i + 8≤f + k→ex l f k d i≠.out) ∧
  (∀ k d a x i,1≤k→k≤4→8 * left l i + 1≤f→binT l f k d a x i≠.out) ∧
  (∀ d i,8 * left l i + 2≤f→una l f d i≠.out) ∧
  (∀ d i,8 * left l i + 1≤f→prim l f d i≠.out) ∧
  (∀ d a x i,8 * left l i + 2≤f→post l f d a x i≠.out) ∧
  (∀ z d (i:Int),0≤i→i < l.length→8 * left l i + 1≤f→lst l f z d i≠.out) ∧
  (∀ z d i,8 * left l i + 8≤f→items l f z d i≠.out):=by
 intro f
 induction f with
 |zero =>
  refine ⟨?_,?_,?_,?_,?_,?_,?_⟩ <;> intros <;> omega
 |succ f ih =>
  obtain ⟨iE,iB,iU,iP,iT,iL,iI⟩:=ih
  obtain ⟨rE,rB,rU,rP,rT,rL,rI⟩:=read_rng (l:=l) f
  refine ⟨?_,?_,?_,?_,?_,?_,?_⟩
  ·intro k d i h1 h5 hf
   unfold ex
   split
   ·exact iU _ _ (by omega)
   ·split
    ·next y q hq =>
     have:=rE _ _ _ _ _ (by omega) hq
     exact iB _ _ _ _ _ h1 (by omega) (by unfold left at *;omega)
    ·intro h;cases h
    ·next hq=>exact (iE _ _ _ (by omega) (by omega) (by omega) hq).elim
  ·intro k d a x i h1 h4 hf
   unfold binT
   split
   ·next hl =>
    have hr:=tkAt_real (l:=l) (i:=i) (by rw [lvl_kind (by rw [hl];omega)];decide)
    split
    ·next y q hq =>
     have:=rE _ _ _ _ _ (by omega) hq
     exact iB _ _ _ _ _ h1 h4 (by unfold left at *;omega)
    ·intro h;cases h
    ·next hq=>exact (iE _ _ _ (by omega) (by omega) (by unfold left at *;omega) hq).elim
   ·intro h;cases h
  ·intro d i hf
   unfold una
   split
   ·next hn =>
    have hr:=isS_real hn
    split
    ·intro h;cases h
    ·split
     ·intro h;cases h
     ·intro h;cases h
     ·next hq=>exact (iU _ _ (by unfold left at *;omega) hq).elim
   ·split
    ·next y q hq =>
     have:=rP _ _ _ _ hq
     exact iT _ _ _ _ (by unfold left at *;omega)
    ·intro h;cases h
    ·next hq=>exact (iP _ _ (by omega) hq).elim
  ·intro d i hf
   unfold prim
   split
   ·split <;> (intro h;cases h)
   split
   ·split <;> (intro h;cases h)
   split
   ·intro h;cases h
   split
   ·intro h;cases h
   split
   ·intro h;cases h
   split
   ·next hk =>
    have hr:=isS_real hk
    split
    ·intro h;cases h
    ·split
     ·split <;> (intro h;cases h)
     ·intro h;cases h
     ·next hq=>exact (iE _ _ _ (by omega) (by omega) (by unfold left at *;omega) hq).elim
   split
   ·next hk =>
    have hr:=isW_real hk
    split
    ·next t q hq =>
     have hp:=prs_rng hq
     split
     ·next hc =>
      have hcr:=isS_real hc
      split
      ·intro h;cases h
      ·intro h;cases h
      ·next hy=>exact (iL 125 d q hcr.1 hcr.2 (by unfold left at *;omega) hy).elim
     ·intro h;cases h
    ·intro h;cases h
   ·intro h;cases h
  ·intro d a x i hf
   unfold post
   split
   ·next hn =>
    have hr:=isS_real hn
    split
    ·exact iT _ _ _ _ (by unfold left at *;omega)
    ·intro h;cases h
   split
   ·next hn =>
    have hr:=isS_real hn
    split
    ·next ys q hys =>
     have:=rL _ _ _ _ _ hys
     exact iT _ _ _ _ (by unfold left at *;omega)
    ·intro h;cases h
    ·next hq=>exact (iL 41 d i hr.1 hr.2 (by omega) hq).elim
   split
   ·next hn =>
    have hr:=isS_real hn
    split
    ·intro h;cases h
    ·split
     ·next y q hq =>
      have:=rE _ _ _ _ _ (by omega) hq
      split
      ·exact iT _ _ _ _ (by unfold left at *;omega)
      ·intro h;cases h
     ·intro h;cases h
     ·next hq=>exact (iE _ _ _ (by omega) (by omega) (by unfold left at *;omega) hq).elim
   ·intro h;cases h
  ·intro z d i h0 hl hf
   unfold lst
   split
   ·intro h;cases h
   split
   ·intro h;cases h
   ·exact iI _ _ _ (by unfold left at *;omega)
  ·intro z d i hf
   unfold items
   split
   ·next y q hq =>
    have:=rE _ _ _ _ _ (by omega) hq
    split
    ·split
     ·intro h;cases h
     ·intro h;cases h
     ·next hr=>exact (iI _ _ _ (by unfold left at *;omega) hr).elim
    ·split <;> (intro h;cases h)
   ·intro h;cases h
   ·next hq=>exact (iE _ _ _ (by omega) (by omega) (by omega) hq).elim
end Go.Proofs.YtfcgoainglpdlaaGreatDoor
namespace Go.Proofs.YtfcgoainglpdlaaGreatDoor
open Go.RowKit
open Go.Lib hiding intOf
structure Kp (b:Nat) (w w':World):Prop where
 os:w'.os=w.os
 tape:w'.tape=w.tape
 output:w'.output=w.output
 size:w.heap.size≤w'.heap.size
 block:∀ k,k < w.heap.size→k≠b→w'.heap[k]?=w.heap[k]?
theorem Kp.refl (b:Nat) (w:World):Kp b w w:=⟨rfl,rfl,rfl,Nat.le_refl _,fun _ _ _=>rfl⟩
theorem Kp.trans {b:Nat} {x y z:World} (h:Kp b x y) (k:Kp b y z):Kp b x z :=
 ⟨k.os.trans h.os,k.tape.trans h.tape,k.output.trans h.output,Nat.le_trans h.size k.size,fun i hi hb=>(k.block i (Nat.lt_of_lt_of_le hi h.size) hb).trans (h.block i hi hb)⟩
theorem Kp.of_below {b:Nat} {w w':World} (h:Below w.heap.size w w'):Kp b w w':=⟨h.os,h.tape,h.output,h.size,fun k hk _=>h.block k hk⟩
theorem Kp.below {b:Nat} {w w':World} (h:Kp b w w') (hb:b≤w.heap.size):Below b w w':=⟨h.os,h.tape,h.output,h.size,fun k hk=>h.block k (by omega) (by omega)⟩
theorem Kp.alloc {b:Nat} {w W:World} (h:Kp b w W) (o:Obj):Kp b w (W.alloc o):=h.trans (.of_below ((Below.refl _ _).alloc (Nat.le_refl _) o))
theorem Kp.drew {b:Nat} {w W:World} (h:Kp b w W):Kp b w W.drew:=⟨h.os,h.tape,h.output,h.size,h.block⟩
theorem Kp.undrew {b:Nat} {w W:World} (h:Kp b w.drew W):Kp b w W:=⟨h.os,h.tape,h.output,h.size,h.block⟩
theorem Kp.then_below {b:Nat} {w W W':World} (h:Kp b w W) (k:Below W.heap.size W W'):Kp b w W':=h.trans (.of_below k)
theorem Kp.then_base {b:Nat} {w W W':World} (h:Kp b w W) (k:Below w.heap.size W W'):Kp b w W' :=
 ⟨k.os.trans h.os,k.tape.trans h.tape,k.output.trans h.output,Nat.le_trans h.size k.size,fun i hi hb=>(k.block i hi).trans (h.block i hi hb)⟩
theorem Kp.setCell {b:Nat} {w W:World} (h:Kp b w W) {p:Addr} (hp:w.heap.size≤p.block∨p.block=b) (u:Value):Kp b w (W.setCell p u) :=
 ⟨h.os,h.tape,h.output,by have:=h.size;simpa [World.setCell] using this,fun k hk hb=>(Below.heap_setCell W p u k (by omega)).trans (h.block k hk hb)⟩
def set4 (W:World) (r:Nat) (v0 v1 v2 v3:Value):World:=(((W.setCell ⟨r,0,none⟩ v0).setCell ⟨r,1,none⟩ v1).setCell ⟨r,2,none⟩ v2).setCell ⟨r,3,none⟩ v3
theorem set4_below {B:Nat} {a W:World} (h:Below B a W) {r:Nat} (hr:B≤r) (v0 v1 v2 v3:Value):Below B a (set4 W r v0 v1 v2 v3) :=
 (((h.setCell hr _).setCell hr _).setCell hr _).setCell hr _
theorem set4_kp {b:Nat} {a W:World} (h:Kp b a W) {r:Nat} (hr:a.heap.size≤r∨r=b) (v0 v1 v2 v3:Value):Kp b a (set4 W r v0 v1 v2 v3) :=
 (((h.setCell hr _).setCell hr _).setCell hr _).setCell hr _
def set11 (W:World) (r:Nat) (v0 v1 v2 v3 v4 v5 v6 v7 v8 v9 v10:Value):World :=
 ((((((((((W.setCell ⟨r,0,none⟩ v0).setCell ⟨r,1,none⟩ v1).setCell ⟨r,2,none⟩ v2).setCell ⟨r,3,none⟩ v3).setCell ⟨r,4,none⟩ v4).setCell ⟨r,5,none⟩ v5).setCell ⟨r,6,none⟩ v6).setCell ⟨r,7,none⟩ v7).setCell ⟨r,8,none⟩ v8).setCell ⟨r,9,none⟩ v9).setCell ⟨r,10,none⟩ v10
theorem set11_kp {b:Nat} {a W:World} (h:Kp b a W) {r:Nat} (hr:a.heap.size≤r∨r=b) (v0 v1 v2 v3 v4 v5 v6 v7 v8 v9 v10:Value):Kp b a (set11 W r v0 v1 v2 v3 v4 v5 v6 v7 v8 v9 v10) :=
 ((((((((((h.setCell hr _).setCell hr _).setCell hr _).setCell hr _).setCell hr _).setCell hr _).setCell hr _).setCell hr _).setCell hr _).setCell hr _).setCell hr _
theorem Blk.kp {b:Nat} {W W':World} {k:Nat} {t:TypeId} {cs:Array Value} (h:Blk W k t cs) (hk:Kp b W W') (hb:k≠b):Blk W' k t cs:=(hk.block k h.lt hb).trans h
theorem add_block (a:Addr) (n:Nat):(a.add n).block=a.block:=by
 unfold Addr.add
 split <;> rfl
abbrev IsEX (B:Nat) (w:World) (x:EX) (v:Value):Prop:=IsEP (fun k=>B≤k) w x v
theorem IsEX.mono {B B':Nat} (hB:B'≤B) {w:World} {x:EX} {v:Value} (h:IsEX B w x v):IsEX B' w x v:=h.keep (fun _ _ _ h _=>Nat.le_trans hB h) fun _ _ _ _ hc=>hc
theorem IsEX.kp {b B:Nat} {w w':World} {x:EX} {v:Value} (h:IsEX B w x v) (hk:Kp b w w') (hb:b < B):IsEX B w' x v :=
 h.keep (fun _ _ _ h _=>h) fun k i u hP hc=>by
  have e:w'.heap[k]?=w.heap[k]?:=hk.block k (World.block_lt_of_cell? w ⟨k,i,none⟩ hc) (by omega)
  exact (World.cell?_of_block (w:=w) (a:=⟨k,i,none⟩) e).trans hc
theorem IsEP.set_ {P:Nat→Prop} {w:World} {x:EX} {v:Value} (h:IsEP P w x v) {p:Addr} (hp:¬ P p.block) (u:Value):IsEP P (w.setCell p u) x v :=
 h.keep (fun _ _ _ h _=>h) fun b i u' hb hc=>by
  have e:(w.setCell p u).heap[b]?=w.heap[b]?:=Below.heap_setCell w p u b (fun e=>hp (e ▸ hb))
  exact (World.cell?_of_block (w:=w) (a:=⟨b,i,none⟩) e).trans hc
theorem IsEX.set11 {B:Nat} {w:World} {x:EX} {v:Value} (h:IsEX B w x v) {r:Nat} (hr:r < B) (v0 v1 v2 v3 v4 v5 v6 v7 v8 v9 v10:Value):IsEX B (set11 w r v0 v1 v2 v3 v4 v5 v6 v7 v8 v9 v10) x v :=
 ((((((((((IsEP.set_ h (p:=⟨r,0,none⟩) (by simp only;omega) _).set_ (p:=⟨r,1,none⟩) (by simp only;omega) _).set_ (p:=⟨r,2,none⟩) (by simp only;omega) _).set_ (p:=⟨r,3,none⟩) (by simp only;omega) _).set_ (p:=⟨r,4,none⟩) (by simp only;omega) _).set_ (p:=⟨r,5,none⟩) (by simp only;omega) _).set_ (p:=⟨r,6,none⟩) (by simp only;omega) _).set_ (p:=⟨r,7,none⟩) (by simp only;omega) _).set_ (p:=⟨r,8,none⟩) (by simp only;omega) _).set_ (p:=⟨r,9,none⟩) (by simp only;omega) _).set_ (p:=⟨r,10,none⟩) (by simp only;omega) _
theorem IsEX.set_ {B:Nat} {w:World} {x:EX} {v:Value} (h:IsEX B w x v) {p:Addr} (hp:p.block < B) (u:Value):IsEX B (w.setCell p u) x v:=IsEP.set_ h (by omega) u
theorem set11_size (W:World) (r:Nat) (v0 v1 v2 v3 v4 v5 v6 v7 v8 v9 v10:Value):(set11 W r v0 v1 v2 v3 v4 v5 v6 v7 v8 v9 v10).heap.size=W.heap.size:=by simp [set11,World.setCell]
theorem IsEP.mono {P P':Nat→Prop} {w:World} {x:EX} {v:Value} (hP:∀ k,k < w.heap.size→P k→P' k) (h:IsEP P w x v):IsEP P' w x v :=
 h.keep (fun b i _ hb hc=>hP b (World.block_lt_of_cell? w ⟨b,i,none⟩ hc) hb) fun _ _ _ _ hc=>hc
theorem IsEP.kp {P:Nat→Prop} {b:Nat} {w w':World} {x:EX} {v:Value} (h:IsEP P w x v) (hk:Kp b w w') (hb:¬ P b):IsEP P w' x v :=
 h.keep (fun _ _ _ h _=>h) fun k i u hP hc=>by
  have e:w'.heap[k]?=w.heap[k]?:=hk.block k (World.block_lt_of_cell? w ⟨k,i,none⟩ hc) (fun e=>hb (e ▸ hP))
  exact (World.cell?_of_block (w:=w) (a:=⟨k,i,none⟩) e).trans hc
theorem IsEP.set11 {P:Nat→Prop} {w:World} {x:EX} {v:Value} (h:IsEP P w x v) {r:Nat} (hr:¬ P r) (v0 v1 v2 v3 v4 v5 v6 v7 v8 v9 v10:Value):IsEP P (set11 w r v0 v1 v2 v3 v4 v5 v6 v7 v8 v9 v10) x v :=
 ((((((((((h.set_ (p:=⟨r,0,none⟩) hr _).set_ (p:=⟨r,1,none⟩) hr _).set_ (p:=⟨r,2,none⟩) hr _).set_ (p:=⟨r,3,none⟩) hr _).set_ (p:=⟨r,4,none⟩) hr _).set_ (p:=⟨r,5,none⟩) hr _).set_ (p:=⟨r,6,none⟩) hr _).set_ (p:=⟨r,7,none⟩) hr _).set_ (p:=⟨r,8,none⟩) hr _).set_ (p:=⟨r,9,none⟩) hr _).set_ (p:=⟨r,10,none⟩) hr _
theorem IsEP.alloc {P:Nat→Prop} {w:World} {x:EX} {v:Value} (h:IsEP P w x v) (o:Obj):IsEP P (w.alloc o) x v:=h.below ((Below.refl _ _).alloc (Nat.le_refl _) o)
theorem IsEPs.kp {P:Nat→Prop} {b:Nat} {w w':World} {o:Option Addr} {i:Nat} {xs:List EX} (h:IsEPs P w o i xs) (hk:Kp b w w') (hb:¬ P b):IsEPs P w' o i xs :=
 h.keep (fun _ _ _ h _=>h) fun k i u hP hc=>by
  have e:w'.heap[k]?=w.heap[k]?:=hk.block k (World.block_lt_of_cell? w ⟨k,i,none⟩ hc) (fun e=>hb (e ▸ hP))
  exact (World.cell?_of_block (w:=w) (a:=⟨k,i,none⟩) e).trans hc
theorem IsEPs.set_ {P:Nat→Prop} {w:World} {o:Option Addr} {i:Nat} {xs:List EX} (h:IsEPs P w o i xs) {p:Addr} (hp:¬ P p.block) (u:Value):IsEPs P (w.setCell p u) o i xs :=
 h.keep (fun _ _ _ h _=>h) fun b i u' hb hc=>by
  have e:(w.setCell p u).heap[b]?=w.heap[b]?:=Below.heap_setCell w p u b (fun e=>hp (e ▸ hb))
  exact (World.cell?_of_block (w:=w) (a:=⟨b,i,none⟩) e).trans hc
theorem blk_set11 {W:World} {r:Nat} {t:TypeId} {e0 e1 e2 e3 e4 e5 e6 e7 e8 e9 e10:Value} (h:Blk W r t #[e0,e1,e2,e3,e4,e5,e6,e7,e8,e9,e10]) (v0 v1 v2 v3 v4 v5 v6 v7 v8 v9 v10:Value):Blk (set11 W r v0 v1 v2 v3 v4 v5 v6 v7 v8 v9 v10) r t #[v0,v1,v2,v3,v4,v5,v6,v7,v8,v9,v10]:=by
 have h:=((((((((((h.set_ 0 v0).set_ 1 v1).set_ 2 v2).set_ 3 v3).set_ 4 v4).set_ 5 v5).set_ 6 v6).set_ 7 v7).set_ 8 v8).set_ 9 v9).set_ 10 v10
 unfold set11
 simpa only [List.setIfInBounds_toArray,List.set_cons_zero,List.set_cons_succ] using h
theorem blk_far11 {W:World} {k r:Nat} {t:TypeId} {cs:Array Value} (h:Blk W k t cs) (hr:k≠r) (v0 v1 v2 v3 v4 v5 v6 v7 v8 v9 v10:Value):Blk (set11 W r v0 v1 v2 v3 v4 v5 v6 v7 v8 v9 v10) k t cs :=
 ((((((((((h.far (p:=⟨r,0,none⟩) hr _).far (p:=⟨r,1,none⟩) hr _).far (p:=⟨r,2,none⟩) hr _).far (p:=⟨r,3,none⟩) hr _).far (p:=⟨r,4,none⟩) hr _).far (p:=⟨r,5,none⟩) hr _).far (p:=⟨r,6,none⟩) hr _).far (p:=⟨r,7,none⟩) hr _).far (p:=⟨r,8,none⟩) hr _).far (p:=⟨r,9,none⟩) hr _).far (p:=⟨r,10,none⟩) hr _
theorem epsSet11 {P:Nat→Prop} {w:World} {o:Option Addr} {i:Nat} {xs:List EX} (h:IsEPs P w o i xs) {r:Nat} (hr:¬ P r) (v0 v1 v2 v3 v4 v5 v6 v7 v8 v9 v10:Value):IsEPs P (set11 w r v0 v1 v2 v3 v4 v5 v6 v7 v8 v9 v10) o i xs :=
 ((((((((((h.set_ (p:=⟨r,0,none⟩) hr _).set_ (p:=⟨r,1,none⟩) hr _).set_ (p:=⟨r,2,none⟩) hr _).set_ (p:=⟨r,3,none⟩) hr _).set_ (p:=⟨r,4,none⟩) hr _).set_ (p:=⟨r,5,none⟩) hr _).set_ (p:=⟨r,6,none⟩) hr _).set_ (p:=⟨r,7,none⟩) hr _).set_ (p:=⟨r,8,none⟩) hr _).set_ (p:=⟨r,9,none⟩) hr _).set_ (p:=⟨r,10,none⟩) hr _
theorem one_arg {P:Nat→Prop} {W:World} {x:EX} {x0 x1 x2 x3 x4 x5 x6 x7 x8 x9 x10:Value} (hx:IsEP P W x (.agg #[x0,x1,x2,x3,x4,x5,x6,x7,x8,x9,x10])) {g:Nat} (hg:g=W.heap.size) (hP:P g) :
  IsEPs P (W.alloc (.cells #[x0,x1,x2,x3,x4,x5,x6,x7,x8,x9,x10] 31)) (some ⟨g,0,none⟩) 0 [x]:=by
 subst hg
 have c:=(Blk.new W 31 #[x0,x1,x2,x3,x4,x5,x6,x7,x8,x9,x10]).cell
 unfold IsEPs
 refine ⟨⟨W.heap.size,x0,x1,x2,x3,x4,x5,x6,x7,x8,x9,x10,rfl,hP,c 0,c 1,c 2,c 3,c 4,c 5,c 6,c 7,c 8,c 9,c 10,hx.alloc _⟩,?_⟩
 unfold IsEPs
 trivial
theorem two_args {P:Nat→Prop} {W:World} {x y:EX} {x0 x1 x2 x3 x4 x5 x6 x7 x8 x9 x10 y0 y1 y2 y3 y4 y5 y6 y7 y8 y9 y10:Value} (hx:IsEP P W x (.agg #[x0,x1,x2,x3,x4,x5,x6,x7,x8,x9,x10])) (hy:IsEP P W y (.agg #[y0,y1,y2,y3,y4,y5,y6,y7,y8,y9,y10])) {g:Nat} (hg:g=W.heap.size) (hP:P g) :
  IsEPs P (W.alloc (.cells #[x0,x1,x2,x3,x4,x5,x6,x7,x8,x9,x10,y0,y1,y2,y3,y4,y5,y6,y7,y8,y9,y10] 31)) (some ⟨g,0,none⟩) 0 [x,y]:=by
 subst hg
 have c:=(Blk.new W 31 #[x0,x1,x2,x3,x4,x5,x6,x7,x8,x9,x10,y0,y1,y2,y3,y4,y5,y6,y7,y8,y9,y10]).cell
 unfold IsEPs
 refine ⟨⟨W.heap.size,x0,x1,x2,x3,x4,x5,x6,x7,x8,x9,x10,rfl,hP,c 0,c 1,c 2,c 3,c 4,c 5,c 6,c 7,c 8,c 9,c 10,hx.alloc _⟩,?_⟩
 unfold IsEPs
 refine ⟨⟨W.heap.size,y0,y1,y2,y3,y4,y5,y6,y7,y8,y9,y10,rfl,hP,c 11,c 12,c 13,c 14,c 15,c 16,c 17,c 18,c 19,c 20,c 21,hy.alloc _⟩,?_⟩
 unfold IsEPs
 trivial
def BoxE (P:Nat→Prop) (W:World) (B:Nat) (x:EX):Prop:=∃ cs:Array Value,Blk W B 31 cs∧IsEP P W x (.agg cs)
theorem BoxE.kp {P:Nat→Prop} {b B:Nat} {W W':World} {x:EX} (h:BoxE P W B x) (hk:Kp b W W') (hb:¬ P b) (hB:B≠b):BoxE P W' B x:=by
 obtain ⟨cs,h1,h2⟩:=h
 exact ⟨cs,h1.kp hk hB,h2.kp hk hb⟩
theorem BoxE.below {P:Nat→Prop} {B:Nat} {W W':World} {x:EX} (h:BoxE P W B x) (hk:Below W.heap.size W W'):BoxE P W' B x:=by
 obtain ⟨cs,h1,h2⟩:=h
 exact ⟨cs,h1.below hk,h2.below hk⟩
def lvlsD:DataW Unit:=((((((DataW.map []).put (.string [38,38]) (.lit (.int .i64 1))).put (.string [61,61]) (.lit (.int .i64 2))).put (.string [60]) (.lit (.int .i64 2))).put (.string [43]) (.lit (.int .i64 3))).put (.string [45]) (.lit (.int .i64 3))).put (.string [42]) (.lit (.int .i64 4))
def LvlsAt (w:World) (m:Nat):Prop:=w.ownsMap Tryz.prog 9 (plainElem (H:=Unit) Tryz.prog 3) m 6 lvlsD
def lvlT (t:List UInt8):Nat:=if t=[38,38] then 1 else if t=[61,61]∨t=[60] then 2 else if t=[43]∨t=[45] then 3 else if t=[42] then 4 else 0
theorem lvlOf_sym {t:TZ} (h:t.kind=4):lvlOf t=lvlT t.text.data.toList:=by unfold lvlOf lvlT;rw [if_neg (by rw [h];decide)]
theorem lvlsD_at (l:List UInt8):lvlsD.atKey (.string l) (.lit (.int .i64 0))=.lit (.int .i64 (lvlT l:Nat)):=by
 have m0:Maps.IsMap (DataW.map (H:=Unit) []):=Maps.isMap_empty
 have m1:=m0.put (.string [38,38]) (.lit (.int .i64 1))
 have m2:=m1.put (.string [61,61]) (.lit (.int .i64 2))
 have m3:=m2.put (.string [60]) (.lit (.int .i64 2))
 have m4:=m3.put (.string [43]) (.lit (.int .i64 3))
 have m5:=m4.put (.string [45]) (.lit (.int .i64 3))
 unfold lvlsD
 by_cases h6:l=[42]
 ·subst h6;rw [Maps.atKey_put_same m5 (by trivial)];rfl
 rw [Maps.atKey_put_other (by intro e;injection e with e;exact h6 e)]
 by_cases h5:l=[45]
 ·subst h5;rw [Maps.atKey_put_same m4 (by trivial)];rfl
 rw [Maps.atKey_put_other (by intro e;injection e with e;exact h5 e)]
 by_cases h4:l=[43]
 ·subst h4;rw [Maps.atKey_put_same m3 (by trivial)];rfl
 rw [Maps.atKey_put_other (by intro e;injection e with e;exact h4 e)]
 by_cases h3:l=[60]
 ·subst h3;rw [Maps.atKey_put_same m2 (by trivial)];rfl
 rw [Maps.atKey_put_other (by intro e;injection e with e;exact h3 e)]
 by_cases h2:l=[61,61]
 ·subst h2;rw [Maps.atKey_put_same m1 (by trivial)];rfl
 rw [Maps.atKey_put_other (by intro e;injection e with e;exact h2 e)]
 by_cases h1:l=[38,38]
 ·subst h1;rw [Maps.atKey_put_same m0 (by trivial)];rfl
 rw [Maps.atKey_put_other (by intro e;injection e with e;exact h1 e)]
 have e:lvlT l=0:=by simp [lvlT,h1,h2,h3,h4,h5,h6]
 rw [e]
 rfl
theorem lookup_lvl {w:World} {m:Nat} (h:LvlsAt w m) (t:ByteArray) (ht:t.size≤9223372036854775807) :
  (Instr.lookup 86 (.map (some m)) (.string t) false).run Tryz.prog w=.ok (.int .i64 (lvlT t.data.toList:Nat)) w:=by
 obtain ⟨c,hrun,hat,_⟩:=World.ownsMap.lookup_int h (Maps.string_keyed Tryz.underlying9) Tryz.underlying86 Tryz.underlying3 (Tryz.zeroValue3 _) (WideMaps.keyOf_string_mk Tryz.underlying9 (s:=t) (by unfold maxLen;omega))
 rw [lvlsD_at] at hat
 injection hat with hat
 injection hat with _ hat
 rw [hrun,← hat]
theorem operators_any (w:World):Calls Tryz.prog 43 #[] w fun e w'=>e=.returned (.map (some w.heap.size))∧LvlsAt w' w.heap.size∧Below w.heap.size w w':=by
 have hmm:=@run_makeMap Tryz.prog
 have S:=KS.start w
 go_enter Tryz.func43,Tryz.ntmps43
 go_wp2_with (refine wpList_insert_own _ rfl _ _ _ 86 rfl 9 3 (Maps.string_keyed Tryz.underlying9) Tryz.underlying86 _ _ _ _ rfl S.1 (by decide) _ _ _ rfl rfl (WideMaps.keyOf_string_mk Tryz.underlying9 (by decide)) _ [] (plainElem_int Tryz.underlying3 (by decide)) ?_;intro w1 ho hg;replace S:=S.next ho hg;clear ho hg)
 go_ret
 exact ⟨rfl,S.1,S.2⟩
structure PS (b:Nat) (o:Option Addr) (c m:Nat) (l:List TZ) (i d:Int) (w:World):Prop where
 blk:Blk w b 89 #[.slice o l.length c,.int .i64 i,.int .i64 d,.map (some m)]
 toks:ZAt w o l
 lvls:LvlsAt w m
 far:l≠[]→∀ a,o=some a→a.block < b
 mlt:m < b
theorem at_ne {α:Type} {l:List α} {k:Nat} {t:α} (h:l[k]?=some t):l≠[]:=fun e=>by subst e;simp at h
theorem ZAt.kp {b:Nat} {w w':World} {o:Option Addr} {l:List TZ} (h:ZAt w o l) (hk:Kp b w w') (hf:l≠[]→∀ a,o=some a→a.block < b):ZAt w' o l:=fun k t ht=>by
 obtain ⟨a,ho,hc⟩:=h k t ht
 refine ⟨a,ho,fun j u hu=>?_⟩
 have hlt:=World.block_lt_of_cell? _ _ (hc j u hu)
 have e:w'.heap[(a.add (k * 4 + j)).block]?=w.heap[(a.add (k * 4 + j)).block]?:=hk.block _ hlt (by rw [add_block];exact Nat.ne_of_lt (hf (at_ne ht) a ho))
 exact (World.cell?_of_block (w:=w) e).trans (hc j u hu)
theorem LvlsAt.kp {b m:Nat} {w w':World} (h:LvlsAt w m) (hk:Kp b w w') (hm:m < b):LvlsAt w' m:=by
 refine World.ownsMap.kept h (row:=some b) ⟨hk.os,hk.tape,hk.output,hk.size,fun k hk' hne=>hk.block k hk' (fun e=>hne (by rw [e]))⟩ ?_
 intro e;injection e with e;omega
section
variable {b c m:Nat} {o:Option Addr} {l:List TZ} {i d:Int} {w w':World}
theorem PS.lt (h:PS b o c m l i d w):b < w.heap.size:=h.blk.lt
theorem PS.step (h:PS b o c m l i d w) (hb:Below w.heap.size w w'):PS b o c m l i d w' :=
 ⟨h.blk.below hb,h.toks.kp (b:=b) (.of_below hb) h.far,h.lvls.kp (b:=b) (.of_below hb) h.mlt,h.far,h.mlt⟩
theorem PS.alloc (h:PS b o c m l i d w) (x:Obj):PS b o c m l i d (w.alloc x):=h.step ((Below.refl _ _).alloc (Nat.le_refl _) x)
theorem PS.drew (h:PS b o c m l i d w):PS b o c m l i d w.drew:=⟨h.blk,h.toks,h.lvls,h.far,h.mlt⟩
theorem PS.set_ (h:PS b o c m l i d w) {p:Addr} (hp:b < p.block) (u:Value):PS b o c m l i d (w.setCell p u):=by
 have hk:∀ k,k≤b→(w.setCell p u).heap[k]?=w.heap[k]?:=fun k hk=>Below.heap_setCell w p u k (by omega)
 refine ⟨(hk b (Nat.le_refl _)).trans h.blk,fun k t ht=>?_,?_,h.far,h.mlt⟩
 ·obtain ⟨a,ho,hc⟩:=h.toks k t ht
  refine ⟨a,ho,fun j u' hu=>?_⟩
  have e:=hk (a.add (k * 4 + j)).block (by rw [add_block];exact Nat.le_of_lt (h.far (at_ne ht) a ho))
  exact (World.cell?_of_block (w:=w) e).trans (hc j u' hu)
 ·exact World.ownsMap.setCell h.lvls (by have:=h.mlt;omega) u
theorem PS.set4 (h:PS b o c m l i d w) {r:Nat} (hr:b < r) (v0 v1 v2 v3:Value):PS b o c m l i d (set4 w r v0 v1 v2 v3) :=
 (((h.set_ (p:=⟨r,0,none⟩) hr _).set_ (p:=⟨r,1,none⟩) hr _).set_ (p:=⟨r,2,none⟩) hr _).set_ (p:=⟨r,3,none⟩) hr _
theorem PS.set11 (h:PS b o c m l i d w) {r:Nat} (hr:b < r) (v0 v1 v2 v3 v4 v5 v6 v7 v8 v9 v10:Value):PS b o c m l i d (set11 w r v0 v1 v2 v3 v4 v5 v6 v7 v8 v9 v10) :=
 ((((((((((h.set_ (p:=⟨r,0,none⟩) hr _).set_ (p:=⟨r,1,none⟩) hr _).set_ (p:=⟨r,2,none⟩) hr _).set_ (p:=⟨r,3,none⟩) hr _).set_ (p:=⟨r,4,none⟩) hr _).set_ (p:=⟨r,5,none⟩) hr _).set_ (p:=⟨r,6,none⟩) hr _).set_ (p:=⟨r,7,none⟩) hr _).set_ (p:=⟨r,8,none⟩) hr _).set_ (p:=⟨r,9,none⟩) hr _).set_ (p:=⟨r,10,none⟩) hr _
theorem PS.under (h:PS b o c m l i d w) (hb:Below (b + 1) w w'):PS b o c m l i d w':=by
 refine ⟨(hb.block b (by omega)).trans h.blk,fun k t ht=>?_,?_,h.far,h.mlt⟩
 ·obtain ⟨a,ho,hc⟩:=h.toks k t ht
  refine ⟨a,ho,fun j u' hu=>?_⟩
  have e:=hb.block (a.add (k * 4 + j)).block (by rw [add_block];have:=h.far (at_ne ht) a ho;omega)
  exact (World.cell?_of_block (w:=w) e).trans (hc j u' hu)
 ·obtain ⟨es,clock,h1,h2⟩:=h.lvls
  exact ⟨es,clock,(hb.block m (by have:=h.mlt;omega)).trans h1,h2⟩
theorem PS.next (h:PS b o c m l i d w) (i':Int):PS b o c m l i' d (w.setCell ⟨b,1,none⟩ (.int .i64 i')):=by
 have hk:∀ k,k < b→(w.setCell ⟨b,1,none⟩ (.int .i64 i')).heap[k]?=w.heap[k]?:=fun k hk=>Below.heap_setCell w _ _ k (by simp only;omega)
 refine ⟨h.blk.set_ 1 (.int .i64 i'),fun k t ht=>?_,World.ownsMap.setCell h.lvls (by have:=h.mlt;simp only;omega) _,h.far,h.mlt⟩
 obtain ⟨a,ho,hc⟩:=h.toks k t ht
 refine ⟨a,ho,fun j u' hu=>?_⟩
 have e:=hk (a.add (k * 4 + j)).block (by rw [add_block];exact h.far (at_ne ht) a ho)
 exact (World.cell?_of_block (w:=w) e).trans (hc j u' hu)
theorem PS.deep (h:PS b o c m l i d w) (d':Int):PS b o c m l i d' (w.setCell ⟨b,2,none⟩ (.int .i64 d')):=by
 have hk:∀ k,k < b→(w.setCell ⟨b,2,none⟩ (.int .i64 d')).heap[k]?=w.heap[k]?:=fun k hk=>Below.heap_setCell w _ _ k (by simp only;omega)
 refine ⟨h.blk.set_ 2 (.int .i64 d'),fun k t ht=>?_,World.ownsMap.setCell h.lvls (by have:=h.mlt;simp only;omega) _,h.far,h.mlt⟩
 obtain ⟨a,ho,hc⟩:=h.toks k t ht
 refine ⟨a,ho,fun j u' hu=>?_⟩
 have e:=hk (a.add (k * 4 + j)).block (by rw [add_block];exact h.far (at_ne ht) a ho)
 exact (World.cell?_of_block (w:=w) e).trans (hc j u' hu)
theorem PS.cells (h:PS b o c m l i d w):w.cell? ⟨b,0,none⟩=some (.slice o l.length c)∧w.cell? ⟨b,1,none⟩=some (.int .i64 i)∧w.cell? ⟨b,2,none⟩=some (.int .i64 d)∧w.cell? ⟨b,3,none⟩=some (.map (some m))∧(∀ k,w.frozen? ⟨b,k,none⟩=false) :=
 ⟨h.blk.cell 0,h.blk.cell 1,h.blk.cell 2,h.blk.cell 3,h.blk.frozen⟩
end
end Go.Proofs.YtfcgoainglpdlaaGreatDoor
namespace Go.Proofs.YtfcgoainglpdlaaGreatDoor
section
variable {l m:List TZ} {b:Int} {e:Nat}
end
end Go.Proofs.YtfcgoainglpdlaaGreatDoor
namespace Go.Proofs.YtfcgoainglpdlaaGreatDoor
def zTok (t:Tok):TZ:=⟨t.kind,(t.pos:Nat),(t.stop:Nat),⟨t.text.toArray⟩⟩
end Go.Proofs.YtfcgoainglpdlaaGreatDoor
namespace Go.Proofs.YtfcgoainglpdlaaGreatDoor
def fuel (l:List TZ):Nat:=8 * l.length + 16
end Go.Proofs.YtfcgoainglpdlaaGreatDoor
