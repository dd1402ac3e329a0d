/- The document's plain text of an expression. Conditions: the text's length is an int; the library's table is laid. The document's plain text of an expression with parts (made by tools/genogk.py). Conditions: the text's length is an int; the library's table is laid. What is true in every later world; cells that stand. No condition. -/
import Derived.Test.YtfcgoainglpdlaaGreatDoorB21
import Derived.WalkSmall
import Derived.Lib.AppendIntMem
set_option maxRecDepth 20000
set_option maxHeartbeats 2000000
namespace Go.Proofs.YtfcgoainglpdlaaGreatDoor
open Go.RowKit
abbrev TabW (w:World):Prop:=Lib.TabIs Tryz.prog w "internal/strconv.uint64pow10" .u64 Lib.pow10Tab
theorem TabW.below {w w':World} (h:TabW w) (hb:Below w.heap.size w w'):TabW w':=by
 unfold TabW Lib.TabIs World.var? at *
 cases hg:Tryz.prog.globalNamed "internal/strconv.uint64pow10" with
 |none=>simp [hg] at h
 |some g =>
  simp only [hg,Option.bind_some] at h ⊢
  have hlt:g < w.heap.size:=by
   rcases Nat.lt_or_ge g w.heap.size with h' | h'
   ·exact h'
   ·rw [Array.getElem?_eq_none h'] at h;simp at h
  rw [hb.block g hlt]
  exact h
def ArgsOk (args:List GX):Prop :=
 ∀ y ∈ args,∀ (u:Value) (W:World),TabW W→IsX W y u→(plnG y).size≤9223372036854775807→Calls Tryz.prog 50 #[u] W fun e w'=>e=.returned (.string (plnG y))∧Below W.heap.size W w'
theorem bx_size (m:Int) (q:Int × ByteArray):q.2.size≤(bx m q).size:=by
 unfold bx
 split
 ·simp only [ByteArray.size_append];omega
 ·exact Nat.le_refl _
theorem plnR_leaf (k p s:Int) (nm:ByteArray) (n:Int) (t:GT) (args:List GX) (hk:k < 5∨10 < k) (v:Value) (w:World) (hT:TabW w) (hv:IsX w (.mk k p s nm n t args) v) (hs:(plnG (.mk k p s nm n t args)).size≤9223372036854775807) :
  Calls Tryz.prog 50 #[v] w fun e w'=>e=.returned (.string (plnG (.mk k p s nm n t args)))∧Below w.heap.size w w':=by
 unfold IsX at hv
 obtain ⟨y0,y1,y2,y3,y4,o,c,rfl,n1,n2,ht,hl,hc,ha⟩:=hv
 have hb:Hid (Below w.heap.size w (w.alloc (.cells #[.int .i64 k,.int .i64 p,.int .i64 s,.string nm,.int .i64 n,y0,y1,y2,y3,y4,.slice o args.length c] 31))):=(Below.refl _ _).alloc (Nat.le_refl _) _
 clear ht ha hl hc
 rw [plnG] at hs ⊢
 by_cases k1:k=1
 ·subst k1
  have HI:=Lib.hid (Tryz.strconv_Itoa n n1 n2 _ (hT.below hb.out))
  clear hs hT
  go_enter Tryz.func50,Tryz.ntmps50
  go_wp2_with fail
  refine HI.out.mono ?_
  rintro e w1 ⟨rfl,d,os,rfl⟩
  have H1:=Lib.hid (hb.out.trans (Lib.below_grow _ _ hb.out.size d os))
  generalize Sort.grow _ _=w1 at *
  go_wp2
  go_ret
  exact ⟨rfl,H1.out⟩
 by_cases k2:k=2
 ·subst k2
  have hs2:1 + nm.size + 1≤9223372036854775807:=by
   rw [if_neg k1,if_pos rfl,ByteArray.size_append,ByteArray.size_append] at hs
   exact hs
  have hs1:1 + nm.size≤9223372036854775807:=by omega
  clear hs
  go_enter Tryz.func50,Tryz.ntmps50
  go_wp2
  go_ret
  exact ⟨rfl,hb.out⟩
 by_cases k3:k=3
 ·subst k3
  clear hs
  by_cases hn:n=1
  ·subst hn
   go_enter Tryz.func50,Tryz.ntmps50
   go_wp2
   go_ret
   exact ⟨rfl,hb.out⟩
  ·have hn':(n == 1)=false:=by simpa using hn
   simp only [if_neg k1,if_neg k2,if_pos,if_neg hn]
   go_enter Tryz.func50,Tryz.ntmps50
   go_wp2
   go_ret
   exact ⟨rfl,hb.out⟩
 by_cases k4:k=4
 ·subst k4
  clear hs
  go_enter Tryz.func50,Tryz.ntmps50
  go_wp2
  go_ret
  exact ⟨rfl,hb.out⟩
 ·have k5:¬ k=5:=by omega
  have k6:¬ k=6:=by omega
  have k7:¬ k=7:=by omega
  have k8:¬ k=8:=by omega
  have k9:¬ k=9:=by omega
  have kt:¬ k=10:=by omega
  clear hs
  simp only [if_neg k1,if_neg k2,if_neg k3,if_neg k4,if_neg k5,if_neg k6,if_neg k7,if_neg k8,if_neg k9,if_neg kt]
  go_enter Tryz.func50,Tryz.ntmps50
  go_wp2
  go_ret
  exact ⟨rfl,hb.out⟩
theorem argP {args:List GX} (HA:ArgsOk args) (i:Nat) (u:Value) (W:World) (hT:TabW W) (hX:IsX W (argX args i) u) (hs:(plnG (argX args i)).size≤9223372036854775807):PlnIs u (plnG (argX args i)) W:=by
 intro W' hW
 cases h:args[i]? with
 |some y =>
  have e:argX args i=y:=by simp [argX,List.getD,h]
  rw [e] at hX hs ⊢
  exact HA y (List.mem_of_getElem? h) u W' (hT.below hW) (hX.below hW) hs
 |none =>
  have e:argX args i=zeroX:=by simp [argX,List.getD,h]
  rw [e] at hX hs ⊢
  exact plnR_leaf 0 0 0 _ 0 _ [] (.inl (by decide)) u W' (hT.below hW) (hX.below hW) hs
end Go.Proofs.YtfcgoainglpdlaaGreatDoor
namespace Go.Proofs.YtfcgoainglpdlaaGreatDoor
open Go.RowKit
theorem exprR_at {args:List GX} (HA:ArgsOk args) (y:GX) (hy:y ∈ args) (u:Value) (W:World) (hT:TabW W) (hX:IsX W y u) (hz:(bx 1 (levG y,plnG y)).size≤9223372036854775807) :
  Calls Tryz.prog 15 #[u] W fun e w'=>e=.returned (.string (bx 1 (levG y,plnG y)))∧Below W.heap.size W w' :=
 exprR_of y u W hX (fun W' hW=>HA y hy u W' (hT.below hW) (hX.below hW) (Nat.le_trans (bx_size 1 (levG y,plnG y)) hz)) hz
theorem plnR_not (p s:Int) (nm:ByteArray) (n:Int) (t:GT) (args:List GX) (HA:ArgsOk args) (v:Value) (w:World) (hT:TabW w) (hv:IsX w (.mk 10 p s nm n t args) v) (hs:(plnG (.mk 10 p s nm n t args)).size≤9223372036854775807) :
  Calls Tryz.prog 50 #[v] w fun e w'=>e=.returned (.string (plnG (.mk 10 p s nm n t args)))∧Below w.heap.size w w':=by
 have HV:=Lib.hid hv
 unfold IsX at hv
 obtain ⟨y0,y1,y2,y3,y4,o,c,rfl,n1,n2,ht,hl,hc,ha⟩:=hv
 have H0:Hid (Below w.heap.size w (w.alloc (.cells #[.int .i64 10,.int .i64 p,.int .i64 s,.string nm,.int .i64 n,y0,y1,y2,y3,y4,.slice o args.length c] 31))):=(Below.refl _ _).alloc (Nat.le_refl _) _
 have HX0:=Lib.hid (Blk.new w 31 #[.int .i64 10,.int .i64 p,.int .i64 s,.string nm,.int .i64 n,y0,y1,y2,y3,y4,.slice o args.length c])
 have he:plnG (.mk 10 p s nm n t args)=⟨#[33]⟩++argB (plsG args) 0 (5):=by rw [plnG];simp
 rw [he] at hs ⊢
 clear he hl hc ha
 rw [argB_X args 0 (5) (by decide)] at hs ⊢
 have hsz:1 + (bx (5) (levG (argX args 0),plnG (argX args 0))).size≤9223372036854775807:=by
  simp only [ByteArray.size_append] at hs
  exact hs
 clear hs
 have hbx1:=Lib.hid (bx_size (5) (levG (argX args 0),plnG (argX args 0)))
 have HF1:=Lib.hid (fun (u:Value) (W:World) (hW:Below w.heap.size w W) (hX:IsX W (argX args 0) u)=>forR_of (argX args 0) u W (5) hX (argP HA 0 u W (hT.below hW) hX (by have:=hbx1.out;simp only at this;omega)) (by omega))
 have HG1:=Lib.hid (fun (W:World) (hW:Below w.heap.size w W)=>argR_any 10 p s nm n t args 0 _ W (HV.out.below hW))
 clear HA hT ht hbx1
 generalize bx (5) (levG (argX args 0),plnG (argX args 0))=b1 at *
 go_enter Tryz.func50,Tryz.ntmps50
 go_wp2_with (refine boxLoad 31 11 size11 Tryz.underlying31 rfl _ rfl w.heap.size rfl (cs:=[_,_,_,_,_,_,_,_,_,_,_]) HX0.out rfl ?_)
 refine (HG1.out _ H0.out).mono ?_
 rintro e w1 ⟨⟨u1,rfl,hX⟩,hB⟩
 have H1:=Lib.hid (H0.out.trans (hB.mono H0.out.size))
 have HX1:=Lib.hid (HX0.out.below hB)
 have HU1:=Lib.hid (HF1.out u1 w1 H1.out hX)
 clear hB hX
 go_wp2_with (refine boxLoad 31 11 size11 Tryz.underlying31 rfl _ rfl w.heap.size rfl (cs:=[_,_,_,_,_,_,_,_,_,_,_]) HX1.out rfl ?_)
 refine (HU1.out).mono ?_
 rintro e w2 ⟨rfl,hB⟩
 have H2:=Lib.hid (H1.out.trans (hB.mono H1.out.size))
 have HX2:=Lib.hid (HX1.out.below hB)
 clear hB
 go_wp2
 go_ret
 exact ⟨rfl,H2.out⟩
end Go.Proofs.YtfcgoainglpdlaaGreatDoor
namespace Go.Proofs.YtfcgoainglpdlaaGreatDoor
open Go.RowKit
def Pend (w:World) (Q:World→Prop):Prop:=∀ W,Below w.heap.size w W→Q W
theorem cellsBelow {w w':World} {b:Nat} {cs:Array Value} (h:∀ i:Nat,w.cell? ⟨b,i,none⟩=cs[i]?) (v:Value) (hv:cs[0]?=some v) (hB:Below w.heap.size w w'):∀ i:Nat,w'.cell? ⟨b,i,none⟩=cs[i]?:=fun i =>
 (World.cell?_of_block (w:=w) (a:=⟨b,i,none⟩) (hB.block b (World.block_lt_of_cell? w ⟨b,0,none⟩ ((h 0).trans hv)))).trans (h i)
end Go.Proofs.YtfcgoainglpdlaaGreatDoor
