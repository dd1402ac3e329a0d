/- The document's plain text of an expression with parts (made by tools/genogk.py). Conditions: the text's length is an int; the library's table is laid. What is true in every later world; cells that stand. No condition. -/
import Derived.Test.YtfcgoainglpdlaaGreatDoorM22
set_option maxRecDepth 20000
set_option maxHeartbeats 2000000
namespace Go.Proofs.YtfcgoainglpdlaaGreatDoor
open Go.RowKit
theorem exprR_at {args:List GX} (HA:ArgsOk args) (y:GX) (hy:y ∈ args) (u:Value) (W:World) (hT:TabW W) (hX:IsX W y u) (hz:(bx 1 (levG y,plnG y)).size≤9223372036854775807) :
  Calls Tryz.prog 15 #[u] W fun e w'=>e=.returned (.string (bx 1 (levG y,plnG y)))∧Below W.heap.size W w' :=
 exprR_of y u W hX (fun W' hW=>HA y hy u W' (hT.below hW) (hX.below hW) (Nat.le_trans (bx_size 1 (levG y,plnG y)) hz)) hz
theorem plnR_not (p s:Int) (nm:ByteArray) (n:Int) (t:GT) (args:List GX) (HA:ArgsOk args) (v:Value) (w:World) (hT:TabW w) (hv:IsX w (.mk 10 p s nm n t args) v) (hs:(plnG (.mk 10 p s nm n t args)).size≤9223372036854775807) :
  Calls Tryz.prog 50 #[v] w fun e w'=>e=.returned (.string (plnG (.mk 10 p s nm n t args)))∧Below w.heap.size w w':=by
 have HV:=Lib.hid hv
 unfold IsX at hv
 obtain ⟨y0,y1,y2,y3,y4,o,c,rfl,n1,n2,ht,hl,hc,ha⟩:=hv
 have H0:Hid (Below w.heap.size w (w.alloc (.cells #[.int .i64 10,.int .i64 p,.int .i64 s,.string nm,.int .i64 n,y0,y1,y2,y3,y4,.slice o args.length c] 31))):=(Below.refl _ _).alloc (Nat.le_refl _) _
 have HX0:=Lib.hid (Blk.new w 31 #[.int .i64 10,.int .i64 p,.int .i64 s,.string nm,.int .i64 n,y0,y1,y2,y3,y4,.slice o args.length c])
 have he:plnG (.mk 10 p s nm n t args)=⟨#[33]⟩++argB (plsG args) 0 (5):=by rw [plnG];simp
 rw [he] at hs ⊢
 clear he hl hc ha
 rw [argB_X args 0 (5) (by decide)] at hs ⊢
 have hsz:1 + (bx (5) (levG (argX args 0),plnG (argX args 0))).size≤9223372036854775807:=by
  simp only [ByteArray.size_append] at hs
  exact hs
 clear hs
 have hbx1:=Lib.hid (bx_size (5) (levG (argX args 0),plnG (argX args 0)))
 have HF1:=Lib.hid (fun (u:Value) (W:World) (hW:Below w.heap.size w W) (hX:IsX W (argX args 0) u)=>forR_of (argX args 0) u W (5) hX (argP HA 0 u W (hT.below hW) hX (by have:=hbx1.out;simp only at this;omega)) (by omega))
 have HG1:=Lib.hid (fun (W:World) (hW:Below w.heap.size w W)=>argR_any 10 p s nm n t args 0 _ W (HV.out.below hW))
 clear HA hT ht hbx1
 generalize bx (5) (levG (argX args 0),plnG (argX args 0))=b1 at *
 go_enter Tryz.func50,Tryz.ntmps50
 go_wp2_with (refine boxLoad 31 11 size11 Tryz.underlying31 rfl _ rfl w.heap.size rfl (cs:=[_,_,_,_,_,_,_,_,_,_,_]) HX0.out rfl ?_)
 refine (HG1.out _ H0.out).mono ?_
 rintro e w1 ⟨⟨u1,rfl,hX⟩,hB⟩
 have H1:=Lib.hid (H0.out.trans (hB.mono H0.out.size))
 have HX1:=Lib.hid (HX0.out.below hB)
 have HU1:=Lib.hid (HF1.out u1 w1 H1.out hX)
 clear hB hX
 go_wp2_with (refine boxLoad 31 11 size11 Tryz.underlying31 rfl _ rfl w.heap.size rfl (cs:=[_,_,_,_,_,_,_,_,_,_,_]) HX1.out rfl ?_)
 refine (HU1.out).mono ?_
 rintro e w2 ⟨rfl,hB⟩
 have H2:=Lib.hid (H1.out.trans (hB.mono H1.out.size))
 have HX2:=Lib.hid (HX1.out.below hB)
 clear hB
 go_wp2
 go_ret
 exact ⟨rfl,H2.out⟩
end Go.Proofs.YtfcgoainglpdlaaGreatDoor
namespace Go.Proofs.YtfcgoainglpdlaaGreatDoor
open Go.RowKit
def Pend (w:World) (Q:World→Prop):Prop:=∀ W,Below w.heap.size w W→Q W
theorem cellsBelow {w w':World} {b:Nat} {cs:Array Value} (h:∀ i:Nat,w.cell? ⟨b,i,none⟩=cs[i]?) (v:Value) (hv:cs[0]?=some v) (hB:Below w.heap.size w w'):∀ i:Nat,w'.cell? ⟨b,i,none⟩=cs[i]?:=fun i =>
 (World.cell?_of_block (w:=w) (a:=⟨b,i,none⟩) (hB.block b (World.block_lt_of_cell? w ⟨b,0,none⟩ ((h 0).trans hv)))).trans (h i)
end Go.Proofs.YtfcgoainglpdlaaGreatDoor
