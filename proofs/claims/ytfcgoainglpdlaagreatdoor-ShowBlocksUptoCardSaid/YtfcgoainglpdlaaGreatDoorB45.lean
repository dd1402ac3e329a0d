/- The document's own tabs and statements, of any form. Conditions: the texts' lengths are ints; the library's table is laid. The document's own block, of any form. Conditions: the texts' lengths are ints; the library's table is laid. -/
import Derived.Test.YtfcgoainglpdlaaGreatDoorB44
import Derived.Test.YtfcgoainglpdlaaGreatDoorB27
import Derived.Test.YtfcgoainglpdlaaGreatDoorB42
import Derived.Deep.RegionHeld
set_option maxRecDepth 100000
set_option maxHeartbeats 4000000
namespace Go.Proofs.YtfcgoainglpdlaaGreatDoor
open Go.RowKit
open Go.Lib hiding intOf
mutual
def FitS:GS→Prop
 |.mk _ _ _ _ x u v=>(exL x).length≤4611686018427387904∧FitSs u∧FitSs v
def FitSs:List GS→Prop
 |[]=>True
 |y::r=>FitS y∧FitSs r
end
theorem FitSs.mem:∀ {l:List GS} {y:GS},FitSs l→y ∈ l→FitS y
 |x::r,y,h,hy=>by
  unfold FitSs at h
  rcases List.mem_cons.1 hy with rfl | hy
  ·exact h.1
  ·exact FitSs.mem h.2 hy
def tbn (n:Int):Nat:=min n.toNat 100
def innL (t:Nat) (u:List GS):List UInt8:=[123,10]++blkL (min (t + 1) 100) u++tabsL t++[125]
def StmtR (x:GS):Prop:=∀ (n:Int) (V:Value) (w:World),-9223372036854775808≤n→n≤9223372036854775807→TabW w→IsS w x V→FitS x→(stmL (tbn n) x).length≤9223372036854775807 →
 Calls Tryz.prog 34 #[V,.int .i64 n] w fun e w'=>e=.returned (.string ⟨(stmL (tbn n) x).toArray⟩)∧Below w.heap.size w w'
def InnR (u:List GS):Prop:=∀ (n:Int) (o:Option Addr) (c:Nat) (w:World),-9223372036854775808≤n→n≤9223372036854775807→TabW w→u.length≤9223372036854775807→IsSs w o 0 u→FitSs u→(innL (tbn n) u).length≤9223372036854775807 →
 Calls Tryz.prog 54 #[.slice o u.length c,.int .i64 n] w fun e w'=>e=.returned (.string ⟨(innL (tbn n) u).toArray⟩)∧Below w.heap.size w w'
def BlkR (u:List GS):Prop:=∀ (n:Int) (o:Option Addr) (c:Nat) (w:World),-9223372036854775808≤n→n≤9223372036854775807→TabW w→u.length≤9223372036854775807→IsSs w o 0 u→FitSs u→(blkL (tbn n) u).length≤9223372036854775807 →
 Calls Tryz.prog 18 #[.slice o u.length c,.int .i64 n] w fun e w'=>e=.returned (.string ⟨(blkL (tbn n) u).toArray⟩)∧Below w.heap.size w w'
theorem tbn_le (n:Int):tbn n≤100:=by unfold tbn;omega
theorem tabsR_any (n:Int) (h1:-9223372036854775808≤n) (h2:n≤9223372036854775807) (w:World) :
  Calls Tryz.prog 33 #[.int .i64 n] w fun e w'=>e=.returned (.string ⟨(tabsL (tbn n)).toArray⟩)∧Below w.heap.size w w':=by
 have hq:=Lib.hid (show tbn n=min n.toNat 100 from rfl)
 generalize tbn n=q at *
 go_enter Tryz.func33,Tryz.ntmps33
 go_wp2
 go_loopw [3,4] (fun u i wr=>∃ (j:Nat) (tb:ByteArray),u=.string tb∧i=.int .i64 (j:Nat)∧Hid (tb=⟨(tabsL j).toArray⟩)∧Hid (tb.size=j)∧Hid (j≤q)∧Hid (Below w.heap.size w wr)) (fun _ i _=>q - (RowKit.intOf i).toNat)
 case atStart=>exact ⟨0,⟨#[]⟩,rfl,rfl,by show _=_;rfl,by show _=_;rfl,Nat.zero_le _,Below.refl _ _⟩
 case round =>
  obtain ⟨j,tb,rfl,rfl,HT,HZ,HJ,HB⟩:=hrel
  by_cases hlt:j < q
  ·have hq':=hq.out
   have ha:((j:Int) < n):=by omega
   have hb:((j:Int) < 100):=by omega
   have hj2:(j:Int) + 1≤9223372036854775807:=by omega
   have hj3:-9223372036854775808≤(j:Int) + 1:=by omega
   have hsz:tb.size + 1≤9223372036854775807:=by have:=HZ.out;omega
   clear hq'
   go_wp2
   case roundEnd =>
    refine ⟨⟨j + 1,_,rfl,by push_cast;rfl,?_,?_,hlt,HB⟩,by simp [RowKit.intOf];omega⟩
    ·show _=_
     rw [HT.out]
     apply ByteArray.ext
     simp [ByteArray.data_append,tabsL]
     exact Array.replicate_succ.symm
    ·show _=_
     have:=HZ.out
     simp [ByteArray.size_append,this]
     rfl
  ·have hq':=hq.out
   have hle:=HJ.out
   obtain rfl:j=q:=by omega
   by_cases ha:((j:Int) < n)
   ·have hb:¬ ((j:Int) < 100):=by omega
    clear hq'
    go_wp2
    go_ret
    exact ⟨by rw [HT.out];rfl,HB.out⟩
   ·clear hq'
    go_wp2
    go_ret
    exact ⟨by rw [HT.out];rfl,HB.out⟩
theorem catI (a b:ByteArray) (x y:List UInt8) (hb:a=⟨x.toArray⟩) (hc:b=⟨y.toArray⟩):(⟨#[123,10]⟩:ByteArray)++a++b++⟨#[125]⟩=⟨([123,10]++x++y++[125]).toArray⟩:=by
 subst hb;subst hc
 apply ByteArray.ext
 simp [ByteArray.data_append]
theorem innerR_of (u:List GS) (HBK:BlkR u):InnR u:=by
 intro n o c w h1 h2 hT hl hx hf hs
 unfold innL at hs
 have hs':(blkL (min (tbn n + 1) 100) u).length + (tabsL (tbn n)).length + 3≤9223372036854775807:=by
  simp only [List.length_append,List.length_cons,List.length_nil] at hs
  omega
 have HT:=Lib.hid (fun (W:World)=>tabsR_any n h1 h2 W)
 have hm:∀ m:Int,min m.toNat 100=min (tbn n + 1) 100→-9223372036854775808≤m→m≤9223372036854775807→∀ W,Below w.heap.size w W→Calls Tryz.prog 18 #[.slice o u.length c,.int .i64 m] W fun e w'=>e=.returned (.string ⟨(blkL (min (tbn n + 1) 100) u).toArray⟩)∧Below W.heap.size W w':=fun m e a b W hW=>by
  have:=HBK m o c W a b (hT.below hW) hl (hx.below hW) hf (by unfold tbn;rw [e];unfold tbn;unfold tbn at hs';omega)
  unfold tbn at this
  rw [e] at this
  exact this
 have hq:tbn n=min n.toNat 100:=rfl
 have hC:=catI ⟨(blkL (min (tbn n + 1) 100) u).toArray⟩ ⟨(tabsL (tbn n)).toArray⟩ _ _ rfl rfl
 have z1:(⟨(blkL (min (tbn n + 1) 100) u).toArray⟩:ByteArray).size=(blkL (min (tbn n + 1) 100) u).length:=by show (List.toArray _).size=_;simp
 have z2:(⟨(tabsL (tbn n)).toArray⟩:ByteArray).size=(tabsL (tbn n)).length:=by show (List.toArray _).size=_;simp
 show Calls Tryz.prog _ _ w fun e w'=>e=.returned (.string ⟨([123,10]++blkL (min (tbn n + 1) 100) u++tabsL (tbn n)++[125]).toArray⟩)∧Below w.heap.size w w'
 rw [← hC]
 generalize (⟨(blkL (min (tbn n + 1) 100) u).toArray⟩:ByteArray)=bb at *
 generalize (⟨(tabsL (tbn n)).toArray⟩:ByteArray)=tt at *
 have y1:2 + bb.size≤9223372036854775807:=by omega
 have y2:2 + bb.size + tt.size≤9223372036854775807:=by omega
 have y3:2 + bb.size + tt.size + 1≤9223372036854775807:=by omega
 clear hs hs' z1 z2 hC hx hf hl hT
 rcases (show n < 0∨(0≤n∧n < 100)∨100≤n by omega) with hc | ⟨hc,hd⟩ | hc
 ·have HM:=Lib.hid (hm 1 (by rw [hq];omega) (by decide) (by decide))
  have g1:n < 100:=by omega
  have g2:n + 1≤9223372036854775807:=by omega
  have g3:-9223372036854775808≤n + 1:=by omega
  clear hm hq
  go_enter Tryz.func54,Tryz.ntmps54
  go_wp2_with (first
   |(go_at_call 33;refine (HT.out _).mono ?_;rintro e w2 ⟨rfl,hB⟩;have H2:=Lib.hid (H1.out.trans (hB.mono H1.out.size));clear hB)
   |(go_at_call 18;refine (HM.out _ (Below.refl _ _)).mono ?_;rintro e w1 ⟨rfl,hB⟩;have H1:=Lib.hid hB;clear hB))
  go_ret
  exact ⟨rfl,H2.out⟩
 ·have HM:=Lib.hid (hm (n + 1) (by rw [hq];omega) (by omega) (by omega))
  have g2:n + 1≤9223372036854775807:=by omega
  have g3:-9223372036854775808≤n + 1:=by omega
  have g4:¬ n < 0:=by omega
  clear hm hq
  go_enter Tryz.func54,Tryz.ntmps54
  go_wp2_with (first
   |(go_at_call 33;refine (HT.out _).mono ?_;rintro e w2 ⟨rfl,hB⟩;have H2:=Lib.hid (H1.out.trans (hB.mono H1.out.size));clear hB)
   |(go_at_call 18;refine (HM.out _ (Below.refl _ _)).mono ?_;rintro e w1 ⟨rfl,hB⟩;have H1:=Lib.hid hB;clear hB))
  go_ret
  exact ⟨rfl,H2.out⟩
 ·have HM:=Lib.hid (hm 100 (by rw [hq];omega) (by decide) (by decide))
  have g1:¬ n < 100:=by omega
  have g4:¬ n < 0:=by omega
  clear hm hq
  go_enter Tryz.func54,Tryz.ntmps54
  go_wp2_with (first
   |(go_at_call 33;refine (HT.out _).mono ?_;rintro e w2 ⟨rfl,hB⟩;have H2:=Lib.hid (H1.out.trans (hB.mono H1.out.size));clear hB)
   |(go_at_call 18;refine (HM.out _ (Below.refl _ _)).mono ?_;rintro e w1 ⟨rfl,hB⟩;have H1:=Lib.hid hB;clear hB))
  go_ret
  exact ⟨rfl,H2.out⟩
theorem stmtR_1 (p:Int) (nm:ByteArray) (h:Bool) (x:GX) (u v:List GS):StmtR (.mk 1 p nm h x u v):=by
 intro n V w hn1 hn2 hT hv hf hs
 unfold FitS at hf
 obtain ⟨hfx,hfu,hfv⟩:=hf
 unfold IsS at hv
 obtain ⟨e0,e1,e2,e3,e4,e5,e6,e7,e8,e9,e10,o,c,o',c',rfl,hln,hx,hu,hv2⟩:=hv
 have H0:Hid (Below w.heap.size w (w.alloc (.cells #[.int .i64 1,.int .i64 p,.string nm,.bool h,e0,e1,e2,e3,e4,e5,e6,e7,e8,e9,e10,.slice o u.length c,.slice o' v.length c'] 62))):=(Below.refl _ _).alloc (Nat.le_refl _) _
 have HX0:=Lib.hid (Blk.new w 62 #[.int .i64 1,.int .i64 p,.string nm,.bool h,e0,e1,e2,e3,e4,e5,e6,e7,e8,e9,e10,.slice o u.length c,.slice o' v.length c'])
 have hxl:exL x=(bx 1 (levG x,plnG x)).data.toList:=rfl
 rw [stmL_1] at hs ⊢
 rw [hxl] at hfx
 rw [bsize] at hfx
 have HE:=Lib.hid (fun (W:World) (hW:Below w.heap.size w W)=>exprR_any x _ W (hT.below hW) (hx.below hW) (by omega))
 have hC:(⟨#[108,101,116,32]⟩:ByteArray)++(nm:ByteArray)++(⟨#[32,61,32]⟩:ByteArray)++((bx 1 (levG x,plnG x)):ByteArray)++(⟨#[59]⟩:ByteArray)=⟨([108,101,116,32]++(nm.data.toList++[32,61,32])++(exL x++[59])).toArray⟩:=by
  refine ByteArray.ext (Array.ext' ?_)
  simp [ByteArray.data_append,hxl]
 have hz:4 + nm.size + 3 + (bx 1 (levG x,plnG x)).size + 1≤9223372036854775807:=by
  have e1:(exL x).length=(bx 1 (levG x,plnG x)).size:=by rw [hxl,bsize]
  have e2:nm.data.toList.length=nm.size:=bsize nm
  simp only [List.length_append,List.length_cons,List.length_nil] at hs ⊢
  omega
 rw [← hC]
 clear hC hs hxl hfx hfu hfv hx hu hv2 hT
 generalize bx 1 (levG x,plnG x)=b at *
 have y2:4 + nm.size≤9223372036854775807:=by omega
 have y3:4 + nm.size + 3≤9223372036854775807:=by omega
 have y4:4 + nm.size + 3 + b.size≤9223372036854775807:=by omega
 have y5:4 + nm.size + 3 + b.size + 1≤9223372036854775807:=by omega
 clear hz
 have cx:=HX0.out.cell
 go_enter Tryz.func34,Tryz.ntmps34
 go_wp2_with (first
  |(go_at_call 15;refine (HE.out _ H0.out).mono ?_;rintro e w1 ⟨rfl,hB⟩;have H1:=Lib.hid (H0.out.trans (hB.mono H0.out.size));have HX1:=Lib.hid (HX0.out.below hB);clear hB cx;have cx:=HX1.out.cell)
  |(refine boxLoadG 31 11 size11 Tryz.underlying31 rfl _ rfl ⟨w.heap.size,4,none⟩ rfl (cs:=[e0,e1,e2,e3,e4,e5,e6,e7,e8,e9,e10]) (partE HX0.out) rfl ?_))
 go_ret
 exact ⟨by first | rfl | simp,H1.out⟩
theorem stmtR_2 (p:Int) (nm:ByteArray) (h:Bool) (x:GX) (u v:List GS):StmtR (.mk 2 p nm h x u v):=by
 intro n V w hn1 hn2 hT hv hf hs
 unfold FitS at hf
 obtain ⟨hfx,hfu,hfv⟩:=hf
 unfold IsS at hv
 obtain ⟨e0,e1,e2,e3,e4,e5,e6,e7,e8,e9,e10,o,c,o',c',rfl,hln,hx,hu,hv2⟩:=hv
 have H0:Hid (Below w.heap.size w (w.alloc (.cells #[.int .i64 2,.int .i64 p,.string nm,.bool h,e0,e1,e2,e3,e4,e5,e6,e7,e8,e9,e10,.slice o u.length c,.slice o' v.length c'] 62))):=(Below.refl _ _).alloc (Nat.le_refl _) _
 have HX0:=Lib.hid (Blk.new w 62 #[.int .i64 2,.int .i64 p,.string nm,.bool h,e0,e1,e2,e3,e4,e5,e6,e7,e8,e9,e10,.slice o u.length c,.slice o' v.length c'])
 have hxl:exL x=(bx 1 (levG x,plnG x)).data.toList:=rfl
 rw [stmL_2] at hs ⊢
 rw [hxl] at hfx
 rw [bsize] at hfx
 have HE:=Lib.hid (fun (W:World) (hW:Below w.heap.size w W)=>exprR_any x _ W (hT.below hW) (hx.below hW) (by omega))
 have hC:(nm:ByteArray)++(⟨#[32,61,32]⟩:ByteArray)++((bx 1 (levG x,plnG x)):ByteArray)++(⟨#[59]⟩:ByteArray)=⟨((nm.data.toList++[32,61,32])++(exL x++[59])).toArray⟩:=by
  refine ByteArray.ext (Array.ext' ?_)
  simp [ByteArray.data_append,hxl]
 have hz:nm.size + 3 + (bx 1 (levG x,plnG x)).size + 1≤9223372036854775807:=by
  have e1:(exL x).length=(bx 1 (levG x,plnG x)).size:=by rw [hxl,bsize]
  have e2:nm.data.toList.length=nm.size:=bsize nm
  simp only [List.length_append,List.length_cons,List.length_nil] at hs ⊢
  omega
 rw [← hC]
 clear hC hs hxl hfx hfu hfv hx hu hv2 hT
 generalize bx 1 (levG x,plnG x)=b at *
 have y2:nm.size + 3≤9223372036854775807:=by omega
 have y3:nm.size + 3 + b.size≤9223372036854775807:=by omega
 have y4:nm.size + 3 + b.size + 1≤9223372036854775807:=by omega
 clear hz
 have cx:=HX0.out.cell
 go_enter Tryz.func34,Tryz.ntmps34
 go_wp2_with (first
  |(go_at_call 15;refine (HE.out _ H0.out).mono ?_;rintro e w1 ⟨rfl,hB⟩;have H1:=Lib.hid (H0.out.trans (hB.mono H0.out.size));have HX1:=Lib.hid (HX0.out.below hB);clear hB cx;have cx:=HX1.out.cell)
  |(refine boxLoadG 31 11 size11 Tryz.underlying31 rfl _ rfl ⟨w.heap.size,4,none⟩ rfl (cs:=[e0,e1,e2,e3,e4,e5,e6,e7,e8,e9,e10]) (partE HX0.out) rfl ?_))
 go_ret
 exact ⟨by first | rfl | simp,H1.out⟩
theorem stmtR_3a (p:Int) (nm:ByteArray) (x:GX) (u v:List GS):StmtR (.mk 3 p nm false x u v):=by
 intro n V w hn1 hn2 hT hv hf hs
 unfold FitS at hf
 obtain ⟨hfx,hfu,hfv⟩:=hf
 unfold IsS at hv
 obtain ⟨e0,e1,e2,e3,e4,e5,e6,e7,e8,e9,e10,o,c,o',c',rfl,hln,hx,hu,hv2⟩:=hv
 have H0:Hid (Below w.heap.size w (w.alloc (.cells #[.int .i64 3,.int .i64 p,.string nm,.bool false,e0,e1,e2,e3,e4,e5,e6,e7,e8,e9,e10,.slice o u.length c,.slice o' v.length c'] 62))):=(Below.refl _ _).alloc (Nat.le_refl _) _
 have HX0:=Lib.hid (Blk.new w 62 #[.int .i64 3,.int .i64 p,.string nm,.bool false,e0,e1,e2,e3,e4,e5,e6,e7,e8,e9,e10,.slice o u.length c,.slice o' v.length c'])
 have hxl:exL x=(bx 1 (levG x,plnG x)).data.toList:=rfl
 rw [stmL_3a] at hs ⊢
 rw [hxl] at hfx
 rw [bsize] at hfx
 have HE:=Lib.hid (fun (W:World) (hW:Below w.heap.size w W)=>exprR_any x _ W (hT.below hW) (hx.below hW) (by omega))
 have hC:(⟨#[114,101,116,117,114,110,59]⟩:ByteArray)=⟨([114,101,116,117,114,110,59]).toArray⟩:=by
  rfl
 rw [← hC]
 clear hC hs hxl hfx hfu hfv hx hu hv2 hT
 generalize bx 1 (levG x,plnG x)=b at *
 have cx:=HX0.out.cell
 go_enter Tryz.func34,Tryz.ntmps34
 go_wp2_with (first
  |(go_at_call 15;refine (HE.out _ H0.out).mono ?_;rintro e w1 ⟨rfl,hB⟩;have H1:=Lib.hid (H0.out.trans (hB.mono H0.out.size));have HX1:=Lib.hid (HX0.out.below hB);clear hB cx;have cx:=HX1.out.cell)
  |(refine boxLoadG 31 11 size11 Tryz.underlying31 rfl _ rfl ⟨w.heap.size,4,none⟩ rfl (cs:=[e0,e1,e2,e3,e4,e5,e6,e7,e8,e9,e10]) (partE HX0.out) rfl ?_))
 go_ret
 exact ⟨by first | rfl | simp,H1.out⟩
theorem stmtR_3b (p:Int) (nm:ByteArray) (x:GX) (u v:List GS):StmtR (.mk 3 p nm true x u v):=by
 intro n V w hn1 hn2 hT hv hf hs
 unfold FitS at hf
 obtain ⟨hfx,hfu,hfv⟩:=hf
 unfold IsS at hv
 obtain ⟨e0,e1,e2,e3,e4,e5,e6,e7,e8,e9,e10,o,c,o',c',rfl,hln,hx,hu,hv2⟩:=hv
 have H0:Hid (Below w.heap.size w (w.alloc (.cells #[.int .i64 3,.int .i64 p,.string nm,.bool true,e0,e1,e2,e3,e4,e5,e6,e7,e8,e9,e10,.slice o u.length c,.slice o' v.length c'] 62))):=(Below.refl _ _).alloc (Nat.le_refl _) _
 have HX0:=Lib.hid (Blk.new w 62 #[.int .i64 3,.int .i64 p,.string nm,.bool true,e0,e1,e2,e3,e4,e5,e6,e7,e8,e9,e10,.slice o u.length c,.slice o' v.length c'])
 have hxl:exL x=(bx 1 (levG x,plnG x)).data.toList:=rfl
 rw [stmL_3b] at hs ⊢
 rw [hxl] at hfx
 rw [bsize] at hfx
 have HE:=Lib.hid (fun (W:World) (hW:Below w.heap.size w W)=>exprR_any x _ W (hT.below hW) (hx.below hW) (by omega))
 have hC:(⟨#[114,101,116,117,114,110,32]⟩:ByteArray)++((bx 1 (levG x,plnG x)):ByteArray)++(⟨#[59]⟩:ByteArray)=⟨([114,101,116,117,114,110,32]++(exL x++[59])).toArray⟩:=by
  refine ByteArray.ext (Array.ext' ?_)
  simp [ByteArray.data_append,hxl]
 have hz:7 + (bx 1 (levG x,plnG x)).size + 1≤9223372036854775807:=by
  have e1:(exL x).length=(bx 1 (levG x,plnG x)).size:=by rw [hxl,bsize]
  have e2:nm.data.toList.length=nm.size:=bsize nm
  simp only [List.length_append,List.length_cons,List.length_nil] at hs ⊢
  omega
 rw [← hC]
 clear hC hs hxl hfx hfu hfv hx hu hv2 hT
 generalize bx 1 (levG x,plnG x)=b at *
 have y2:7 + b.size≤9223372036854775807:=by omega
 have y3:7 + b.size + 1≤9223372036854775807:=by omega
 clear hz
 have cx:=HX0.out.cell
 go_enter Tryz.func34,Tryz.ntmps34
 go_wp2_with (first
  |(go_at_call 15;refine (HE.out _ H0.out).mono ?_;rintro e w1 ⟨rfl,hB⟩;have H1:=Lib.hid (H0.out.trans (hB.mono H0.out.size));have HX1:=Lib.hid (HX0.out.below hB);clear hB cx;have cx:=HX1.out.cell)
  |(refine boxLoadG 31 11 size11 Tryz.underlying31 rfl _ rfl ⟨w.heap.size,4,none⟩ rfl (cs:=[e0,e1,e2,e3,e4,e5,e6,e7,e8,e9,e10]) (partE HX0.out) rfl ?_))
 go_ret
 exact ⟨by first | rfl | simp,H1.out⟩
theorem stmtR_4a (p:Int) (nm:ByteArray) (x:GX) (u v:List GS) (HU:InnR u):StmtR (.mk 4 p nm false x u v):=by
 intro n V w hn1 hn2 hT hv hf hs
 unfold FitS at hf
 obtain ⟨hfx,hfu,hfv⟩:=hf
 unfold IsS at hv
 obtain ⟨e0,e1,e2,e3,e4,e5,e6,e7,e8,e9,e10,o,c,o',c',rfl,hln,hx,hu,hv2⟩:=hv
 have H0:Hid (Below w.heap.size w (w.alloc (.cells #[.int .i64 4,.int .i64 p,.string nm,.bool false,e0,e1,e2,e3,e4,e5,e6,e7,e8,e9,e10,.slice o u.length c,.slice o' v.length c'] 62))):=(Below.refl _ _).alloc (Nat.le_refl _) _
 have HX0:=Lib.hid (Blk.new w 62 #[.int .i64 4,.int .i64 p,.string nm,.bool false,e0,e1,e2,e3,e4,e5,e6,e7,e8,e9,e10,.slice o u.length c,.slice o' v.length c'])
 have hxl:exL x=(bx 1 (levG x,plnG x)).data.toList:=rfl
 rw [stmL_4a] at hs ⊢
 rw [hxl] at hfx
 rw [bsize] at hfx
 have HE:=Lib.hid (fun (W:World) (hW:Below w.heap.size w W)=>exprR_any x _ W (hT.below hW) (hx.below hW) (by omega))
 have z0:(innL (tbn n) u).length≤9223372036854775807:=by
  unfold innL
  simp only [List.length_append,List.length_cons,List.length_nil] at hs ⊢
  omega
 have HI0:=Lib.hid (fun (W:World) (hW:Below w.heap.size w W)=>HU n o c W hn1 hn2 (hT.below hW) hln.1 (hu.below hW) hfu z0)
 have si0:(⟨(innL (tbn n) u).toArray⟩:ByteArray).size=(innL (tbn n) u).length:=by show (List.toArray _).size=_;simp
 have hC:(⟨#[105,102,32]⟩:ByteArray)++((bx 1 (levG x,plnG x)):ByteArray)++(⟨#[32]⟩:ByteArray)++(⟨(innL (tbn n) u).toArray⟩:ByteArray)=⟨([105,102,32]++exL x++([32,123,10]++blkL (min (tbn n + 1) 100) u++tabsL (tbn n)++[125])).toArray⟩:=by
  refine ByteArray.ext (Array.ext' ?_)
  unfold innL
  simp [ByteArray.data_append,hxl]
 have hz:3 + (bx 1 (levG x,plnG x)).size + 1 + (innL (tbn n) u).length≤9223372036854775807:=by
  have e1:(exL x).length=(bx 1 (levG x,plnG x)).size:=by rw [hxl,bsize]
  have e2:nm.data.toList.length=nm.size:=bsize nm
  unfold innL
  simp only [List.length_append,List.length_cons,List.length_nil] at hs ⊢
  omega
 rw [← si0] at hz
 rw [← hC]
 clear hC hs hxl hfx hfu hfv hx hu hv2 hT si0 z0
 generalize bx 1 (levG x,plnG x)=b at *
 generalize (⟨(innL (tbn n) u).toArray⟩:ByteArray)=i0 at *
 have y2:3 + b.size≤9223372036854775807:=by omega
 have y3:3 + b.size + 1≤9223372036854775807:=by omega
 have y4:3 + b.size + 1 + i0.size≤9223372036854775807:=by omega
 clear hz
 have cx:=HX0.out.cell
 go_enter Tryz.func34,Tryz.ntmps34
 go_wp2_with (first
  |(go_at_call 54;refine (HI0.out _ H1.out).mono ?_;rintro e w2 ⟨rfl,hB⟩;have H2:=Lib.hid (H1.out.trans (hB.mono H1.out.size));have HX2:=Lib.hid (HX1.out.below hB);clear hB cx;have cx:=HX2.out.cell)
  |(go_at_call 15;refine (HE.out _ H0.out).mono ?_;rintro e w1 ⟨rfl,hB⟩;have H1:=Lib.hid (H0.out.trans (hB.mono H0.out.size));have HX1:=Lib.hid (HX0.out.below hB);clear hB cx;have cx:=HX1.out.cell)
  |(refine boxLoadG 31 11 size11 Tryz.underlying31 rfl _ rfl ⟨w.heap.size,4,none⟩ rfl (cs:=[e0,e1,e2,e3,e4,e5,e6,e7,e8,e9,e10]) (partE HX0.out) rfl ?_))
 go_ret
 exact ⟨by first | rfl | simp,H2.out⟩
theorem stmtR_4b (p:Int) (nm:ByteArray) (x:GX) (u v:List GS) (HU:InnR u) (HV:InnR v):StmtR (.mk 4 p nm true x u v):=by
 intro n V w hn1 hn2 hT hv hf hs
 unfold FitS at hf
 obtain ⟨hfx,hfu,hfv⟩:=hf
 unfold IsS at hv
 obtain ⟨e0,e1,e2,e3,e4,e5,e6,e7,e8,e9,e10,o,c,o',c',rfl,hln,hx,hu,hv2⟩:=hv
 have H0:Hid (Below w.heap.size w (w.alloc (.cells #[.int .i64 4,.int .i64 p,.string nm,.bool true,e0,e1,e2,e3,e4,e5,e6,e7,e8,e9,e10,.slice o u.length c,.slice o' v.length c'] 62))):=(Below.refl _ _).alloc (Nat.le_refl _) _
 have HX0:=Lib.hid (Blk.new w 62 #[.int .i64 4,.int .i64 p,.string nm,.bool true,e0,e1,e2,e3,e4,e5,e6,e7,e8,e9,e10,.slice o u.length c,.slice o' v.length c'])
 have hxl:exL x=(bx 1 (levG x,plnG x)).data.toList:=rfl
 rw [stmL_4b] at hs ⊢
 rw [hxl] at hfx
 rw [bsize] at hfx
 have HE:=Lib.hid (fun (W:World) (hW:Below w.heap.size w W)=>exprR_any x _ W (hT.below hW) (hx.below hW) (by omega))
 have z0:(innL (tbn n) u).length≤9223372036854775807:=by
  unfold innL
  simp only [List.length_append,List.length_cons,List.length_nil] at hs ⊢
  omega
 have HI0:=Lib.hid (fun (W:World) (hW:Below w.heap.size w W)=>HU n o c W hn1 hn2 (hT.below hW) hln.1 (hu.below hW) hfu z0)
 have si0:(⟨(innL (tbn n) u).toArray⟩:ByteArray).size=(innL (tbn n) u).length:=by show (List.toArray _).size=_;simp
 have z1:(innL (tbn n) v).length≤9223372036854775807:=by
  unfold innL
  simp only [List.length_append,List.length_cons,List.length_nil] at hs ⊢
  omega
 have HI1:=Lib.hid (fun (W:World) (hW:Below w.heap.size w W)=>HV n o' c' W hn1 hn2 (hT.below hW) hln.2 (hv2.below hW) hfv z1)
 have si1:(⟨(innL (tbn n) v).toArray⟩:ByteArray).size=(innL (tbn n) v).length:=by show (List.toArray _).size=_;simp
 have hC:(⟨#[105,102,32]⟩:ByteArray)++((bx 1 (levG x,plnG x)):ByteArray)++(⟨#[32]⟩:ByteArray)++(⟨(innL (tbn n) u).toArray⟩:ByteArray)++(⟨#[32,101,108,115,101,32]⟩:ByteArray)++(⟨(innL (tbn n) v).toArray⟩:ByteArray)=⟨([105,102,32]++exL x++([32,123,10]++blkL (min (tbn n + 1) 100) u++tabsL (tbn n)++[125])++([32,101,108,115,101]++([32,123,10]++blkL (min (tbn n + 1) 100) v++tabsL (tbn n)++[125]))).toArray⟩:=by
  refine ByteArray.ext (Array.ext' ?_)
  unfold innL
  simp [ByteArray.data_append,hxl]
 have hz:3 + (bx 1 (levG x,plnG x)).size + 1 + (innL (tbn n) u).length + 6 + (innL (tbn n) v).length≤9223372036854775807:=by
  have e1:(exL x).length=(bx 1 (levG x,plnG x)).size:=by rw [hxl,bsize]
  have e2:nm.data.toList.length=nm.size:=bsize nm
  unfold innL
  simp only [List.length_append,List.length_cons,List.length_nil] at hs ⊢
  omega
 rw [← si0] at hz
 rw [← si1] at hz
 rw [← hC]
 clear hC hs hxl hfx hfu hfv hx hu hv2 hT si0 si1 z0 z1
 generalize bx 1 (levG x,plnG x)=b at *
 generalize (⟨(innL (tbn n) u).toArray⟩:ByteArray)=i0 at *
 generalize (⟨(innL (tbn n) v).toArray⟩:ByteArray)=i1 at *
 have y2:3 + b.size≤9223372036854775807:=by omega
 have y3:3 + b.size + 1≤9223372036854775807:=by omega
 have y4:3 + b.size + 1 + i0.size≤9223372036854775807:=by omega
 have y5:3 + b.size + 1 + i0.size + 6≤9223372036854775807:=by omega
 have y6:3 + b.size + 1 + i0.size + 6 + i1.size≤9223372036854775807:=by omega
 clear hz
 have cx:=HX0.out.cell
 go_enter Tryz.func34,Tryz.ntmps34
 go_wp2_with (first
  |(go_at_call 54;refine (HI1.out _ H2.out).mono ?_;rintro e w3 ⟨rfl,hB⟩;have H3:=Lib.hid (H2.out.trans (hB.mono H2.out.size));have HX3:=Lib.hid (HX2.out.below hB);clear hB cx;have cx:=HX3.out.cell)
  |(go_at_call 54;refine (HI0.out _ H1.out).mono ?_;rintro e w2 ⟨rfl,hB⟩;have H2:=Lib.hid (H1.out.trans (hB.mono H1.out.size));have HX2:=Lib.hid (HX1.out.below hB);clear hB cx;have cx:=HX2.out.cell)
  |(go_at_call 15;refine (HE.out _ H0.out).mono ?_;rintro e w1 ⟨rfl,hB⟩;have H1:=Lib.hid (H0.out.trans (hB.mono H0.out.size));have HX1:=Lib.hid (HX0.out.below hB);clear hB cx;have cx:=HX1.out.cell)
  |(refine boxLoadG 31 11 size11 Tryz.underlying31 rfl _ rfl ⟨w.heap.size,4,none⟩ rfl (cs:=[e0,e1,e2,e3,e4,e5,e6,e7,e8,e9,e10]) (partE HX0.out) rfl ?_))
 go_ret
 exact ⟨by first | rfl | simp,H3.out⟩
theorem stmtR_5 (p:Int) (nm:ByteArray) (h:Bool) (x:GX) (u v:List GS) (HU:InnR u):StmtR (.mk 5 p nm h x u v):=by
 intro n V w hn1 hn2 hT hv hf hs
 unfold FitS at hf
 obtain ⟨hfx,hfu,hfv⟩:=hf
 unfold IsS at hv
 obtain ⟨e0,e1,e2,e3,e4,e5,e6,e7,e8,e9,e10,o,c,o',c',rfl,hln,hx,hu,hv2⟩:=hv
 have H0:Hid (Below w.heap.size w (w.alloc (.cells #[.int .i64 5,.int .i64 p,.string nm,.bool h,e0,e1,e2,e3,e4,e5,e6,e7,e8,e9,e10,.slice o u.length c,.slice o' v.length c'] 62))):=(Below.refl _ _).alloc (Nat.le_refl _) _
 have HX0:=Lib.hid (Blk.new w 62 #[.int .i64 5,.int .i64 p,.string nm,.bool h,e0,e1,e2,e3,e4,e5,e6,e7,e8,e9,e10,.slice o u.length c,.slice o' v.length c'])
 have hxl:exL x=(bx 1 (levG x,plnG x)).data.toList:=rfl
 rw [stmL_5] at hs ⊢
 rw [hxl] at hfx
 rw [bsize] at hfx
 have HE:=Lib.hid (fun (W:World) (hW:Below w.heap.size w W)=>exprR_any x _ W (hT.below hW) (hx.below hW) (by omega))
 have z0:(innL (tbn n) u).length≤9223372036854775807:=by
  unfold innL
  simp only [List.length_append,List.length_cons,List.length_nil] at hs ⊢
  omega
 have HI0:=Lib.hid (fun (W:World) (hW:Below w.heap.size w W)=>HU n o c W hn1 hn2 (hT.below hW) hln.1 (hu.below hW) hfu z0)
 have si0:(⟨(innL (tbn n) u).toArray⟩:ByteArray).size=(innL (tbn n) u).length:=by show (List.toArray _).size=_;simp
 have hC:(⟨#[102,111,114,32]⟩:ByteArray)++((bx 1 (levG x,plnG x)):ByteArray)++(⟨#[32]⟩:ByteArray)++(⟨(innL (tbn n) u).toArray⟩:ByteArray)=⟨([102,111,114,32]++exL x++([32,123,10]++blkL (min (tbn n + 1) 100) u++tabsL (tbn n)++[125])).toArray⟩:=by
  refine ByteArray.ext (Array.ext' ?_)
  unfold innL
  simp [ByteArray.data_append,hxl]
 have hz:4 + (bx 1 (levG x,plnG x)).size + 1 + (innL (tbn n) u).length≤9223372036854775807:=by
  have e1:(exL x).length=(bx 1 (levG x,plnG x)).size:=by rw [hxl,bsize]
  have e2:nm.data.toList.length=nm.size:=bsize nm
  unfold innL
  simp only [List.length_append,List.length_cons,List.length_nil] at hs ⊢
  omega
 rw [← si0] at hz
 rw [← hC]
 clear hC hs hxl hfx hfu hfv hx hu hv2 hT si0 z0
 generalize bx 1 (levG x,plnG x)=b at *
 generalize (⟨(innL (tbn n) u).toArray⟩:ByteArray)=i0 at *
 have y2:4 + b.size≤9223372036854775807:=by omega
 have y3:4 + b.size + 1≤9223372036854775807:=by omega
 have y4:4 + b.size + 1 + i0.size≤9223372036854775807:=by omega
 clear hz
 have cx:=HX0.out.cell
 go_enter Tryz.func34,Tryz.ntmps34
 go_wp2_with (first
  |(go_at_call 54;refine (HI0.out _ H1.out).mono ?_;rintro e w2 ⟨rfl,hB⟩;have H2:=Lib.hid (H1.out.trans (hB.mono H1.out.size));have HX2:=Lib.hid (HX1.out.below hB);clear hB cx;have cx:=HX2.out.cell)
  |(go_at_call 15;refine (HE.out _ H0.out).mono ?_;rintro e w1 ⟨rfl,hB⟩;have H1:=Lib.hid (H0.out.trans (hB.mono H0.out.size));have HX1:=Lib.hid (HX0.out.below hB);clear hB cx;have cx:=HX1.out.cell)
  |(refine boxLoadG 31 11 size11 Tryz.underlying31 rfl _ rfl ⟨w.heap.size,4,none⟩ rfl (cs:=[e0,e1,e2,e3,e4,e5,e6,e7,e8,e9,e10]) (partE HX0.out) rfl ?_))
 go_ret
 exact ⟨by first | rfl | simp,H2.out⟩
theorem stmtR_6 (p:Int) (nm:ByteArray) (h:Bool) (x:GX) (u v:List GS):StmtR (.mk 6 p nm h x u v):=by
 intro n V w hn1 hn2 hT hv hf hs
 unfold FitS at hf
 obtain ⟨hfx,hfu,hfv⟩:=hf
 unfold IsS at hv
 obtain ⟨e0,e1,e2,e3,e4,e5,e6,e7,e8,e9,e10,o,c,o',c',rfl,hln,hx,hu,hv2⟩:=hv
 have H0:Hid (Below w.heap.size w (w.alloc (.cells #[.int .i64 6,.int .i64 p,.string nm,.bool h,e0,e1,e2,e3,e4,e5,e6,e7,e8,e9,e10,.slice o u.length c,.slice o' v.length c'] 62))):=(Below.refl _ _).alloc (Nat.le_refl _) _
 have HX0:=Lib.hid (Blk.new w 62 #[.int .i64 6,.int .i64 p,.string nm,.bool h,e0,e1,e2,e3,e4,e5,e6,e7,e8,e9,e10,.slice o u.length c,.slice o' v.length c'])
 have hxl:exL x=(bx 1 (levG x,plnG x)).data.toList:=rfl
 rw [stmL_6] at hs ⊢
 rw [hxl] at hfx
 rw [bsize] at hfx
 have HE:=Lib.hid (fun (W:World) (hW:Below w.heap.size w W)=>exprR_any x _ W (hT.below hW) (hx.below hW) (by omega))
 have hC:((bx 1 (levG x,plnG x)):ByteArray)++(⟨#[59]⟩:ByteArray)=⟨(exL x++[59]).toArray⟩:=by
  refine ByteArray.ext (Array.ext' ?_)
  simp [ByteArray.data_append,hxl]
 have hz:(bx 1 (levG x,plnG x)).size + 1≤9223372036854775807:=by
  have e1:(exL x).length=(bx 1 (levG x,plnG x)).size:=by rw [hxl,bsize]
  have e2:nm.data.toList.length=nm.size:=bsize nm
  simp only [List.length_append,List.length_cons,List.length_nil] at hs ⊢
  omega
 rw [← hC]
 clear hC hs hxl hfx hfu hfv hx hu hv2 hT
 generalize bx 1 (levG x,plnG x)=b at *
 have y2:b.size + 1≤9223372036854775807:=by omega
 clear hz
 have cx:=HX0.out.cell
 go_enter Tryz.func34,Tryz.ntmps34
 go_wp2_with (first
  |(go_at_call 15;refine (HE.out _ H0.out).mono ?_;rintro e w1 ⟨rfl,hB⟩;have H1:=Lib.hid (H0.out.trans (hB.mono H0.out.size));have HX1:=Lib.hid (HX0.out.below hB);clear hB cx;have cx:=HX1.out.cell)
  |(refine boxLoadG 31 11 size11 Tryz.underlying31 rfl _ rfl ⟨w.heap.size,4,none⟩ rfl (cs:=[e0,e1,e2,e3,e4,e5,e6,e7,e8,e9,e10]) (partE HX0.out) rfl ?_))
 go_ret
 exact ⟨by first | rfl | simp,H1.out⟩
theorem stmtR_no (k:Int) (hk:k < 1∨6 < k) (p:Int) (nm:ByteArray) (h:Bool) (x:GX) (u v:List GS):StmtR (.mk k p nm h x u v):=by
 intro n V w hn1 hn2 hT hv hf hs
 unfold FitS at hf
 obtain ⟨hfx,hfu,hfv⟩:=hf
 unfold IsS at hv
 obtain ⟨e0,e1,e2,e3,e4,e5,e6,e7,e8,e9,e10,o,c,o',c',rfl,hln,hx,hu,hv2⟩:=hv
 have H0:Hid (Below w.heap.size w (w.alloc (.cells #[.int .i64 k,.int .i64 p,.string nm,.bool h,e0,e1,e2,e3,e4,e5,e6,e7,e8,e9,e10,.slice o u.length c,.slice o' v.length c'] 62))):=(Below.refl _ _).alloc (Nat.le_refl _) _
 have HX0:=Lib.hid (Blk.new w 62 #[.int .i64 k,.int .i64 p,.string nm,.bool h,e0,e1,e2,e3,e4,e5,e6,e7,e8,e9,e10,.slice o u.length c,.slice o' v.length c'])
 have hxl:exL x=(bx 1 (levG x,plnG x)).data.toList:=rfl
 rw [stmL_no k hk] at hs ⊢
 rw [hxl] at hfx
 rw [bsize] at hfx
 have HE:=Lib.hid (fun (W:World) (hW:Below w.heap.size w W)=>exprR_any x _ W (hT.below hW) (hx.below hW) (by omega))
 have hC:(⟨#[63]⟩:ByteArray)=⟨([63]).toArray⟩:=by
  rfl
 rw [← hC]
 clear hC hs hxl hfx hfu hfv hx hu hv2 hT
 generalize bx 1 (levG x,plnG x)=b at *
 have k1:¬ k=1:=by omega
 have k2:¬ k=2:=by omega
 have k3:¬ k=3:=by omega
 have k4:¬ k=4:=by omega
 have k5:¬ k=5:=by omega
 have k6:¬ k=6:=by omega
 clear hk
 have cx:=HX0.out.cell
 go_enter Tryz.func34,Tryz.ntmps34
 go_wp2_with (first
  |(go_at_call 15;refine (HE.out _ H0.out).mono ?_;rintro e w1 ⟨rfl,hB⟩;have H1:=Lib.hid (H0.out.trans (hB.mono H0.out.size));have HX1:=Lib.hid (HX0.out.below hB);clear hB cx;have cx:=HX1.out.cell)
  |(refine boxLoadG 31 11 size11 Tryz.underlying31 rfl _ rfl ⟨w.heap.size,4,none⟩ rfl (cs:=[e0,e1,e2,e3,e4,e5,e6,e7,e8,e9,e10]) (partE HX0.out) rfl ?_))
 go_ret
 exact ⟨by first | rfl | simp,H1.out⟩
end Go.Proofs.YtfcgoainglpdlaaGreatDoor
namespace Go.Proofs.YtfcgoainglpdlaaGreatDoor
open Go.RowKit
open Go.Lib hiding intOf
theorem catB (q:Nat) (ss:List GS) (j:Nat) (y:GS) (h:ss[j]?=some y):(⟨(blkL q (ss.take j)).toArray⟩:ByteArray)++⟨(tabsL q).toArray⟩++⟨(stmL q y).toArray⟩++⟨#[10]⟩=⟨(blkL q (ss.take (j + 1))).toArray⟩:=by
 rw [blkL_next h]
 apply ByteArray.ext
 simp [ByteArray.data_append]
theorem lsize (l:List UInt8):(⟨l.toArray⟩:ByteArray).size=l.length:=by show (List.toArray _).size=_;simp
theorem blockR_of (ss:List GS) (hA:∀ y ∈ ss,StmtR y):BlkR ss:=by
 intro n o c w h1 h2 hT hl hx hf hs
 have HA:=Lib.hid (fun (y:GS) (hy:y ∈ ss) (V:Value) (W:World) (hW:Below w.heap.size w W) (hv:IsS W y V) (hs:(stmL (tbn n) y).length≤9223372036854775807)=>hA y hy n V W h1 h2 (hT.below hW) hv (hf.mem hy) hs)
 have HT:=Lib.hid (fun (W:World)=>tabsR_any n h1 h2 W)
 have HX:=Lib.hid hx
 have HS:=Lib.hid hs
 clear hA hT hx hs hf
 generalize tbn n=q at *
 go_enter Tryz.func18,Tryz.ntmps18
 go_wp2
 go_loopw [5,6] (fun u i wr=>∃ (j:Nat) (tb:ByteArray),u=.string tb∧i=.int .i64 (j:Nat)∧Hid (tb=⟨(blkL q (ss.take j)).toArray⟩)∧Hid (j≤ss.length)∧Hid (Below w.heap.size w wr)) (fun _ i _=>ss.length - (RowKit.intOf i).toNat)
 case atStart=>exact ⟨0,⟨#[]⟩,rfl,rfl,by show _=_;rw [List.take_zero,blkL],Nat.zero_le _,Below.refl _ _⟩
 case round =>
  obtain ⟨j,tb,rfl,rfl,HTB,HJ,HB⟩:=hrel
  by_cases hj:j < ss.length
  ·have hj':((j:Int) < (ss.length:Int)):=by omega
   have hj0:(0:Int)≤(j:Int):=by omega
   have hj2:(j:Int) + 1≤9223372036854775807:=by omega
   have hj3:-9223372036854775808≤(j:Int) + 1:=by omega
   have hy:ss[j]?=some ss[j]:=List.getElem?_eq_getElem hj
   have hm:ss[j] ∈ ss:=List.getElem_mem hj
   generalize ss[j]=y at hy hm
   have hcat:=catB q ss j y hy
   have hle:=blkL_take_le q ss (j + 1)
   rw [blkL_next hy] at hle
   simp only [List.length_append,List.length_cons,List.length_nil] at hle
   have hS:=HS.out
   have e1:=lsize (blkL q (ss.take j))
   have e2:=lsize (tabsL q)
   have e3:=lsize (stmL q y)
   rw [← HTB.out] at hcat e1
   have HCAT:=Lib.hid hcat
   obtain ⟨a,cs,ho,hcl,hc,hyS⟩:=HX.out.at_ j hy
   rw [Nat.zero_add] at hc
   subst ho
   have HW:=Lib.hid (fun (i:Nat) (v:Value) (h:cs[i]?=some v)=>(HB.out.cell (World.block_lt_of_cell? _ _ (hc i v h))).trans (hc i v h))
   have hstm:(stmL q y).length≤9223372036854775807:=by omega
   have HCL:=Lib.hid (fun (W:World) (hW:Below w.heap.size w W)=>HA.out y hm (.agg cs.toArray) W hW (hyS.below hW) hstm)
   have y1:tb.size + (⟨(tabsL q).toArray⟩:ByteArray).size≤9223372036854775807:=by omega
   have y2:tb.size + (⟨(tabsL q).toArray⟩:ByteArray).size + (⟨(stmL q y).toArray⟩:ByteArray).size≤9223372036854775807:=by omega
   have y3:tb.size + (⟨(tabsL q).toArray⟩:ByteArray).size + (⟨(stmL q y).toArray⟩:ByteArray).size + 1≤9223372036854775807:=by omega
   clear hcat hle hS e1 e2 e3 hc hyS hstm hy hm
   have HTT:=HT
   generalize (⟨(tabsL q).toArray⟩:ByteArray)=tt at HTT HCAT y1 y2 y3
   generalize (⟨(stmL q y).toArray⟩:ByteArray)=sb at HCL HCAT y2 y3
   go_wp2_with fail
   have hS0:(fun w':World=>Below wr.heap.size wr w') wr.drew:=(Below.refl _ _).drew
   refine wp_region_held_drew (S:=(fun w':World=>Below wr.heap.size wr w')) (by kernel_rfl) hS0 fun hS0=>?_
   refine wpAnyH_take (i:=0) (v:=.string tb) rfl (by kernel_rfl) (by kernel_rfl) (by kernel_rfl) (fun _ _ _ h=>h) (Or.inl ⟨by rfl,fun w' hw'=>?_⟩) hS0 ?_
   ·rfl
   refine wpAnyH_take (i:=1) (v:=.int .i64 n) rfl (by kernel_rfl) (by kernel_rfl) (by kernel_rfl) (fun _ _ _ h=>h) (Or.inl ⟨by rfl,fun w' hw'=>?_⟩) hS0 ?_
   ·rfl
   refine wpAnyH_take (i:=4) (v:=.slice (some a) ss.length c) rfl (by kernel_rfl) (by kernel_rfl) (by kernel_rfl) (fun _ _ _ h=>h) (Or.inl ⟨by rfl,fun w' hw'=>?_⟩) hS0 ?_
   ·rfl
   refine wpAnyH_take (i:=5) (v:=.int .i64 (j:Nat)) rfl (by kernel_rfl) (by kernel_rfl) (by kernel_rfl) (fun _ _ _ h=>h) (Or.inl ⟨by rfl,fun w' hw'=>?_⟩) hS0 ?_
   ·rfl
   refine wpAnyH_take (i:=6) (v:=.pointer (some (a.add (j * 17)))) rfl (by kernel_rfl) (by kernel_rfl) (by kernel_rfl) (fun _ _ _ h=>h) (Or.inl ⟨by rfl,fun w' hw'=>?_⟩) hS0 ?_
   ·go_simp
   refine wpAnyH_take (i:=7) (v:=.agg cs.toArray) rfl (by kernel_rfl) (by kernel_rfl) (by kernel_rfl) (fun _ _ _ h=>h) (Or.inl ⟨by rfl,fun w' hw'=>?_⟩) hS0 ?_
   ·exact run_boxG 62 17 size17 Tryz.underlying62 _ rfl _ rfl (cs:=cs) (fun i v h=>(Below.cell hw' (World.block_lt_of_cell? _ _ (HW.out i v h))).trans (HW.out i v h)) hcl
   refine wpAnyH_take (i:=8) (v:=.int .i64 n) rfl (by kernel_rfl) (by kernel_rfl) (by kernel_rfl) (fun _ _ _ h=>h) (Or.inl ⟨by rfl,fun w' hw'=>?_⟩) hS0 ?_
   ·rfl
   refine wpAnyH_ready (rs:=[2]) (by kernel_rfl) (by simp) (AllReadyH.cons rfl (fun K hK=>?_) AllReadyH.nil)
   go_simp
   refine (HTT.out _).mono ?_
   rintro e w2 ⟨rfl,hB⟩
   have k2:Below wr.heap.size wr w2:=hS0.trans (hB.mono hS0.size)
   refine hK.out _ _ k2 (fun hS1=>?_)
   refine wpAnyH_take (i:=3) (v:=.string (tb++tt)) rfl (by kernel_rfl) (by kernel_rfl) (by kernel_rfl) (fun _ _ _ h=>h) (Or.inl ⟨by rfl,fun w' hw'=>?_⟩) hS1 ?_
   ·go_simp
   refine wpAnyH_ready (rs:=[9]) (by kernel_rfl) (by simp) (AllReadyH.cons rfl (fun K hK=>?_) AllReadyH.nil)
   go_simp
   refine (HCL.out _ (HB.out.trans (k2.mono HB.out.size))).mono ?_
   rintro e w3 ⟨rfl,hB'⟩
   have k3:Below wr.heap.size wr w3:=k2.trans (hB'.mono k2.size)
   refine hK.out _ _ k3 (fun hS2=>?_)
   refine wpAnyH_take (i:=10) (v:=.string (tb++tt++sb)) rfl (by kernel_rfl) (by kernel_rfl) (by kernel_rfl) (fun _ _ _ h=>h) (Or.inl ⟨by rfl,fun w' hw'=>?_⟩) hS2 ?_
   ·go_simp
   refine wpAnyH_take (i:=11) (v:=.string (tb++tt++sb++⟨#[10]⟩)) rfl (by kernel_rfl) (by kernel_rfl) (by kernel_rfl) (fun _ _ _ h=>h) (Or.inl ⟨by rfl,fun w' hw'=>?_⟩) hS2 ?_
   ·go_simp
   refine wpAnyH_ready (rs:=[12]) (by kernel_rfl) (by simp) (AllReadyH.cons rfl (fun K hK=>?_) AllReadyH.nil)
   go_simp
   refine hK.out _ _ k3 (fun hS3=>?_)
   refine wpAnyH_done (by kernel_rfl) ?_ _
   have HB4:=Lib.hid (HB.out.trans (k3.mono HB.out.size))
   clear k2 k3 hS0 hS1 hS2 hS3 hB hB' y1 y2 y3
   go_wp2
   case roundEnd=>exact ⟨⟨j + 1,_,rfl,by push_cast;rfl,HCAT,by show _≤_;omega,HB4⟩,by simp [RowKit.intOf];omega⟩
  ·have hj':¬ ((j:Int) < (ss.length:Int)):=by omega
   have hle:=HJ.out
   obtain rfl:j=ss.length:=by omega
   have hE:=HTB.out
   rw [List.take_length] at hE
   have HE:=Lib.hid hE
   clear hE
   go_wp2
   go_ret
   exact ⟨by rw [HE.out];rfl,HB.out⟩
theorem stmtR_any:∀ (s:Nat) (x:GS),SizeOf.sizeOf x < s→StmtR x:=by
 intro s
 induction s with
 |zero=>intro x h;omega
 |succ s ih =>
 rintro ⟨k,p,nm,h,x,u,v⟩ hs
 have hA:InnR u:=innerR_of u (blockR_of u fun y hy=>ih y (by have:=memS_size hy;simp at hs;omega))
 have hB:InnR v:=innerR_of v (blockR_of v fun y hy=>ih y (by have:=memS_size hy;simp at hs;omega))
 by_cases hk:k < 1∨6 < k
 ·exact stmtR_no k hk p nm h x u v
 have hc:k=1∨k=2∨k=3∨k=4∨k=5∨k=6:=by omega
 rcases hc with rfl | rfl | rfl | rfl | rfl | rfl
 ·exact stmtR_1 p nm h x u v
 ·exact stmtR_2 p nm h x u v
 ·cases h
  ·exact stmtR_3a p nm x u v
  ·exact stmtR_3b p nm x u v
 ·cases h
  ·exact stmtR_4a p nm x u v hA
  ·exact stmtR_4b p nm x u v hA hB
 ·exact stmtR_5 p nm h x u v hA
 ·exact stmtR_6 p nm h x u v
theorem blockR_any (ss:List GS):BlkR ss:=blockR_of ss fun y _=>stmtR_any _ y (Nat.lt_succ_self _)
end Go.Proofs.YtfcgoainglpdlaaGreatDoor
