/- The document's plain text of a selection. Conditions: the text's length is an int; the library's table is laid. The document's plain text of an index (made by tools/genogl.py). Conditions: the text's length is an int; the library's table is laid. The document's plain text of an expression with pa .. -/
import Derived.Test.YtfcgoainglpdlaaGreatDoorB22
import Derived.Deep.DeepCutAuto
import Derived.RegionDies
import Derived.Deep.RegionLaw
import Derived.Deep.RegionHeld
import Derived.Test.YtfcgoainglpdlaaGreatDoorB42
set_option maxRecDepth 20000
set_option maxHeartbeats 20000000
namespace Go.Proofs.YtfcgoainglpdlaaGreatDoor
open Go.RowKit
theorem plnR_sel (p s:Int) (nm:ByteArray) (n:Int) (t:GT) (args:List GX) (HA:ArgsOk args) (v:Value) (w:World) (hT:TabW w) (hv:IsX w (.mk 5 p s nm n t args) v) (hs:(plnG (.mk 5 p s nm n t args)).size≤9223372036854775807) :
  Calls Tryz.prog 50 #[v] w fun e w'=>e=.returned (.string (plnG (.mk 5 p s nm n t args)))∧Below w.heap.size w w':=by
 have HV:=Lib.hid hv
 unfold IsX at hv
 obtain ⟨y0,y1,y2,y3,y4,o,c,rfl,n1,n2,ht,hl,hc,ha⟩:=hv
 have H0:Hid (Below w.heap.size w (w.alloc (.cells #[.int .i64 5,.int .i64 p,.int .i64 s,.string nm,.int .i64 n,y0,y1,y2,y3,y4,.slice o args.length c] 31))):=(Below.refl _ _).alloc (Nat.le_refl _) _
 have HX0:=Lib.hid (Blk.new w 31 #[.int .i64 5,.int .i64 p,.int .i64 s,.string nm,.int .i64 n,y0,y1,y2,y3,y4,.slice o args.length c])
 have he:plnG (.mk 5 p s nm n t args)=argB (plsG args) 0 6++⟨#[46]⟩++nm:=by rw [plnG];simp
 rw [he] at hs ⊢
 clear he hl hc ha
 rw [argB_X args 0 6 (by decide)] at hs ⊢
 have hsz:(bx 6 (levG (argX args 0),plnG (argX args 0))).size + 1 + nm.size≤9223372036854775807:=by
  simp only [ByteArray.size_append] at hs
  exact hs
 clear hs
 have hz2:(bx 6 (levG (argX args 0),plnG (argX args 0))).size + 1≤9223372036854775807:=by omega
 have hbx0:=Lib.hid (bx_size 6 (levG (argX args 0),plnG (argX args 0)))
 have HF0:=Lib.hid (fun (u:Value) (W:World) (hW:Below w.heap.size w W) (hX:IsX W (argX args 0) u)=>forR_of (argX args 0) u W 6 hX (argP HA 0 u W (hT.below hW) hX (by have:=hbx0.out;simp only at this;omega)) (by omega))
 have HG0:=Lib.hid (fun (W:World) (hW:Below w.heap.size w W)=>argR_any 5 p s nm n t args 0 _ W (HV.out.below hW))
 clear HA hT ht hbx0
 generalize bx 6 (levG (argX args 0),plnG (argX args 0))=b0 at *
 go_enter Tryz.func50,Tryz.ntmps50
 go_wp2_with (refine boxLoad 31 11 size11 Tryz.underlying31 rfl _ rfl w.heap.size rfl (cs:=[_,_,_,_,_,_,_,_,_,_,_]) HX0.out rfl ?_)
 go_region_with (first
  |(go_at_call 77;refine (HG0.out _ H0.out.drew).mono ?_;rintro e w1 ⟨⟨u0,rfl,hX⟩,hB⟩;have H1:=Lib.hid (H0.out.trans (hB.undrew.mono H0.out.size));have HU0:=Lib.hid (HF0.out u0 w1 H1.out hX);have HX1:=Lib.hid (HX0.out.below hB.undrew);have c1:=HX1.out.cell 3;simp only [List.getElem?_toArray,List.getElem?_cons_succ,List.getElem?_cons_zero] at c1;clear hB hX)
  |(go_at_call 30;refine HU0.out.mono ?_;rintro e w2 ⟨rfl,hB2⟩;have H2:=Lib.hid (H1.out.trans (hB2.mono H1.out.size));have HX2:=Lib.hid (HX1.out.below hB2);have c2:=HX2.out.cell 3;simp only [List.getElem?_toArray,List.getElem?_cons_succ,List.getElem?_cons_zero] at c2;clear hB2))
 all_goals
  go_wp2
  go_ret
  exact ⟨rfl,H2.out⟩
end Go.Proofs.YtfcgoainglpdlaaGreatDoor
namespace Go.Proofs.YtfcgoainglpdlaaGreatDoor
open Go.RowKit
theorem plnR_idx (p s:Int) (nm:ByteArray) (n:Int) (t:GT) (args:List GX) (HA:ArgsOk args) (v:Value) (w:World) (hT:TabW w) (hv:IsX w (.mk 7 p s nm n t args) v) (hs:(plnG (.mk 7 p s nm n t args)).size≤9223372036854775807) :
  Calls Tryz.prog 50 #[v] w fun e w'=>e=.returned (.string (plnG (.mk 7 p s nm n t args)))∧Below w.heap.size w w':=by
 have HV:=Lib.hid hv
 unfold IsX at hv
 obtain ⟨y0,y1,y2,y3,y4,o,c,rfl,n1,n2,ht,hl,hc,ha⟩:=hv
 have H0:Hid (Below w.heap.size w (w.alloc (.cells #[.int .i64 7,.int .i64 p,.int .i64 s,.string nm,.int .i64 n,y0,y1,y2,y3,y4,.slice o args.length c] 31))):=(Below.refl _ _).alloc (Nat.le_refl _) _
 have HX0:=Lib.hid (Blk.new w 31 #[.int .i64 7,.int .i64 p,.int .i64 s,.string nm,.int .i64 n,y0,y1,y2,y3,y4,.slice o args.length c])
 have he:plnG (.mk 7 p s nm n t args)=argB (plsG args) 0 (6)++⟨#[91]⟩++argB (plsG args) 1 (1)++⟨#[93]⟩:=by rw [plnG];simp
 rw [he] at hs ⊢
 clear he hl hc ha
 rw [argB_X args 0 (6) (by decide)] at hs ⊢
 rw [argB_X args 1 (1) (by decide)] at hs ⊢
 have hsz:(bx (6) (levG (argX args 0),plnG (argX args 0))).size + 1 + (bx (1) (levG (argX args 1),plnG (argX args 1))).size + 1≤9223372036854775807:=by
  simp only [ByteArray.size_append] at hs
  exact hs
 clear hs
 have hz3:(bx (6) (levG (argX args 0),plnG (argX args 0))).size + 1 + (bx (1) (levG (argX args 1),plnG (argX args 1))).size≤9223372036854775807:=by omega
 have hz2:(bx (6) (levG (argX args 0),plnG (argX args 0))).size + 1≤9223372036854775807:=by omega
 have hbx0:=Lib.hid (bx_size (6) (levG (argX args 0),plnG (argX args 0)))
 have HF0:=Lib.hid (fun (u:Value) (W:World) (hW:Below w.heap.size w W) (hX:IsX W (argX args 0) u)=>forR_of (argX args 0) u W (6) hX (argP HA 0 u W (hT.below hW) hX (by have:=hbx0.out;simp only at this;omega)) (by omega))
 have HG0:=Lib.hid (fun (W:World) (hW:Below w.heap.size w W)=>argR_any 7 p s nm n t args 0 _ W (HV.out.below hW))
 have hbx2:=Lib.hid (bx_size (1) (levG (argX args 1),plnG (argX args 1)))
 have HF2:=Lib.hid (fun (u:Value) (W:World) (hW:Below w.heap.size w W) (hX:IsX W (argX args 1) u)=>forR_of (argX args 1) u W (1) hX (argP HA 1 u W (hT.below hW) hX (by have:=hbx2.out;simp only at this;omega)) (by omega))
 have HG2:=Lib.hid (fun (W:World) (hW:Below w.heap.size w W)=>argR_any 7 p s nm n t args 1 _ W (HV.out.below hW))
 clear HA hT ht hbx0 hbx2
 generalize bx (6) (levG (argX args 0),plnG (argX args 0))=b0 at *
 generalize bx (1) (levG (argX args 1),plnG (argX args 1))=b2 at *
 go_enter Tryz.func50,Tryz.ntmps50
 have H:=Lib.hid (Below.drew H0.out)
 have HC:Hid (∀ i:Nat,(w.alloc (.cells #[.int .i64 7,.int .i64 p,.int .i64 s,.string nm,.int .i64 n,y0,y1,y2,y3,y4,.slice o args.length c] 31)).drew.cell? ⟨w.heap.size,i,none⟩=(#[.int .i64 7,.int .i64 p,.int .i64 s,.string nm,.int .i64 n,y0,y1,y2,y3,y4,.slice o args.length c]:Array Value)[i]?):=HX0.out.cell
 have cc:=HC.out
 go_wp2_with (refine boxLoad 31 11 size11 Tryz.underlying31 rfl _ rfl w.heap.size rfl (cs:=[_,_,_,_,_,_,_,_,_,_,_]) HX0.out rfl ?_)
 go_region_with (first | (go_at_call 30;refine (HU0.out _ (Below.refl _ _)).mono ?_;rintro e wf0 ⟨rfl,hB⟩;clear HU0;have hN:=Lib.hid (H.out.trans (hB.mono H.out.size));have hC:=Lib.hid (cellsBelow HC.out _ rfl hB);(try have HU0:=Lib.hid (HU0.out.step hB));(try have HU2:=Lib.hid (HU2.out.step hB));clear H HC;have H:=hN;have HC:=hC;clear hN hC;(try clear cc);have cc:=HC.out;clear hB) | (go_at_call 30;refine (HU2.out _ (Below.refl _ _)).mono ?_;rintro e wf2 ⟨rfl,hB⟩;clear HU2;have hN:=Lib.hid (H.out.trans (hB.mono H.out.size));have hC:=Lib.hid (cellsBelow HC.out _ rfl hB);(try have HU0:=Lib.hid (HU0.out.step hB));(try have HU2:=Lib.hid (HU2.out.step hB));clear H HC;have H:=hN;have HC:=hC;clear hN hC;(try clear cc);have cc:=HC.out;clear hB) | (go_at_call 77;refine (HG0.out _ H.out).mono ?_;rintro e wa0 ⟨⟨u0,rfl,hX⟩,hB⟩;clear HG0;have hN:=Lib.hid (H.out.trans (hB.mono H.out.size));have hC:=Lib.hid (cellsBelow HC.out _ rfl hB);(try have HU0:=Lib.hid (HU0.out.step hB));(try have HU2:=Lib.hid (HU2.out.step hB));clear H HC;have H:=hN;have HC:=hC;clear hN hC;(try clear cc);have cc:=HC.out;have HU0:Hid (Pend wa0 (fun W=>Calls Tryz.prog 30 #[u0,.int .i64 (6)] W fun e w'=>e=.returned (.string b0)∧Below W.heap.size W w')):=fun W hW=>HF0.out u0 W (H.out.trans (hW.mono H.out.size)) (hX.below hW);clear HF0 hB hX) | (go_at_call 77;refine (HG2.out _ H.out).mono ?_;rintro e wa2 ⟨⟨u2,rfl,hX⟩,hB⟩;clear HG2;have hN:=Lib.hid (H.out.trans (hB.mono H.out.size));have hC:=Lib.hid (cellsBelow HC.out _ rfl hB);(try have HU0:=Lib.hid (HU0.out.step hB));(try have HU2:=Lib.hid (HU2.out.step hB));clear H HC;have H:=hN;have HC:=hC;clear hN hC;(try clear cc);have cc:=HC.out;have HU2:Hid (Pend wa2 (fun W=>Calls Tryz.prog 30 #[u2,.int .i64 (1)] W fun e w'=>e=.returned (.string b2)∧Below W.heap.size W w')):=fun W hW=>HF2.out u2 W (H.out.trans (hW.mono H.out.size)) (hX.below hW);clear HF2 hB hX))
 all_goals
  go_wp2
  go_ret
  exact ⟨rfl,H.out⟩
end Go.Proofs.YtfcgoainglpdlaaGreatDoor
namespace Go.Proofs.YtfcgoainglpdlaaGreatDoor
open Go.RowKit
theorem plnR_call (p s:Int) (nm:ByteArray) (n:Int) (t:GT) (args:List GX) (HA:ArgsOk args) (v:Value) (w:World) (hT:TabW w) (hv:IsX w (.mk 6 p s nm n t args) v) (hs:(plnG (.mk 6 p s nm n t args)).size≤9223372036854775807) :
  Calls Tryz.prog 50 #[v] w fun e w'=>e=.returned (.string (plnG (.mk 6 p s nm n t args)))∧Below w.heap.size w w':=by
 have HV:=Lib.hid hv
 unfold IsX at hv
 obtain ⟨y0,y1,y2,y3,y4,o,c,rfl,n1,n2,ht,hl,hc,ha⟩:=hv
 have H0:Hid (Below w.heap.size w (w.alloc (.cells #[.int .i64 6,.int .i64 p,.int .i64 s,.string nm,.int .i64 n,y0,y1,y2,y3,y4,.slice o args.length c] 31))):=(Below.refl _ _).alloc (Nat.le_refl _) _
 have HX0:=Lib.hid (Blk.new w 31 #[.int .i64 6,.int .i64 p,.int .i64 s,.string nm,.int .i64 n,y0,y1,y2,y3,y4,.slice o args.length c])
 have he:plnG (.mk 6 p s nm n t args)=argB (plsG args) 0 (6)++⟨#[40]⟩++joinB ((plsG args).drop 1)++⟨#[41]⟩:=by rw [plnG];simp
 rw [he] at hs ⊢
 clear he hl hc ha
 rw [argB_X args 0 (6) (by decide)] at hs ⊢
 have hsz:(bx (6) (levG (argX args 0),plnG (argX args 0))).size + 1 + (joinB ((plsG args).drop 1)).size + 1≤9223372036854775807:=by
  simp only [ByteArray.size_append] at hs
  exact hs
 clear hs
 have hz3:(bx (6) (levG (argX args 0),plnG (argX args 0))).size + 1 + (joinB ((plsG args).drop 1)).size≤9223372036854775807:=by omega
 have hz2:(bx (6) (levG (argX args 0),plnG (argX args 0))).size + 1≤9223372036854775807:=by omega
 have hbx0:=Lib.hid (bx_size (6) (levG (argX args 0),plnG (argX args 0)))
 have HF0:=Lib.hid (fun (u:Value) (W:World) (hW:Below w.heap.size w W) (hX:IsX W (argX args 0) u)=>forR_of (argX args 0) u W (6) hX (argP HA 0 u W (hT.below hW) hX (by have:=hbx0.out;simp only at this;omega)) (by omega))
 have HG0:=Lib.hid (fun (W:World) (hW:Below w.heap.size w W)=>argR_any 6 p s nm n t args 0 _ W (HV.out.below hW))
 have hj2:joinB ((plsG args).drop 1)=joinB ((plsG args).drop 1):=rfl
 have HF2:=Lib.hid (fun (W:World) (hW:Below w.heap.size w W)=>joinR_of 6 p s nm n t args 1 (by decide) _ W (HV.out.below hW) (fun y hy u W' hW' hX hz=>exprR_at HA y hy u W' (hT.below (hW.trans (hW'.mono hW.size))) hX hz) (by omega))
 clear HA hT ht hbx0 hj2
 generalize bx (6) (levG (argX args 0),plnG (argX args 0))=b0 at *
 generalize joinB ((plsG args).drop 1)=b2 at *
 go_enter Tryz.func50,Tryz.ntmps50
 go_wp2_with (refine boxLoad 31 11 size11 Tryz.underlying31 rfl _ rfl w.heap.size rfl (cs:=[_,_,_,_,_,_,_,_,_,_,_]) HX0.out rfl ?_)
 have c0:=HX0.out.cell
 go_region_with (first
  |(go_at_call 77;refine (HG0.out _ H0.out.drew).mono ?_;rintro e w1 ⟨⟨u0,rfl,hX⟩,hB⟩;have H1:=Lib.hid (H0.out.trans (hB.undrew.mono H0.out.size));have HX1:=Lib.hid (HX0.out.below hB.undrew);have c1:=HX1.out.cell;have HU0:=Lib.hid (HF0.out u0 w1 H1.out hX);clear hB hX)
  |(go_at_call 30;refine (HU0.out).mono ?_;rintro e w2 ⟨rfl,hB⟩;have H2:=Lib.hid (H1.out.trans (hB.mono H1.out.size));have HX2:=Lib.hid (HX1.out.below hB);have c2:=HX2.out.cell;clear hB)
  |(go_at_call 78;refine (HF2.out _ H2.out).mono ?_;rintro e w3 ⟨rfl,hB⟩;have H3:=Lib.hid (H2.out.trans (hB.mono H2.out.size));have HX3:=Lib.hid (HX2.out.below hB);have c3:=HX3.out.cell;clear hB))
 all_goals
  go_wp2
  go_ret
  exact ⟨rfl,H3.out⟩
end Go.Proofs.YtfcgoainglpdlaaGreatDoor
namespace Go.Proofs.YtfcgoainglpdlaaGreatDoor
open Go.RowKit
theorem plnR_new (p s:Int) (nm:ByteArray) (n:Int) (t:GT) (args:List GX) (HA:ArgsOk args) (v:Value) (w:World) (hT:TabW w) (hv:IsX w (.mk 8 p s nm n t args) v) (hs:(plnG (.mk 8 p s nm n t args)).size≤9223372036854775807) :
  Calls Tryz.prog 50 #[v] w fun e w'=>e=.returned (.string (plnG (.mk 8 p s nm n t args)))∧Below w.heap.size w w':=by
 have HV:=Lib.hid hv
 unfold IsX at hv
 obtain ⟨y0,y1,y2,y3,y4,o,c,rfl,n1,n2,ht,hl,hc,ha⟩:=hv
 have H0:Hid (Below w.heap.size w (w.alloc (.cells #[.int .i64 8,.int .i64 p,.int .i64 s,.string nm,.int .i64 n,y0,y1,y2,y3,y4,.slice o args.length c] 31))):=(Below.refl _ _).alloc (Nat.le_refl _) _
 have HX0:=Lib.hid (Blk.new w 31 #[.int .i64 8,.int .i64 p,.int .i64 s,.string nm,.int .i64 n,y0,y1,y2,y3,y4,.slice o args.length c])
 have he:plnG (.mk 8 p s nm n t args)=⟨#[110,101,119,32]⟩++typG t++⟨#[123]⟩++joinB (plsG args)++⟨#[125]⟩:=by rw [plnG];simp
 rw [he] at hs ⊢
 clear he hl hc ha
 have hsz:4 + (typG t).size + 1 + (joinB (plsG args)).size + 1≤9223372036854775807:=by
  simp only [ByteArray.size_append] at hs
  exact hs
 clear hs
 have hz4:4 + (typG t).size + 1 + (joinB (plsG args)).size≤9223372036854775807:=by omega
 have hz3:4 + (typG t).size + 1≤9223372036854775807:=by omega
 have hz2:4 + (typG t).size≤9223372036854775807:=by omega
 have HF1:=Lib.hid (fun (W:World) (hW:Below w.heap.size w W)=>typR_any (SizeOf.sizeOf t + 1) t _ W (Nat.lt_succ_self _) (by omega) (ht.below hW))
 have hj3:joinB (plsG args)=joinB ((plsG args).drop 0):=rfl
 have HF3:=Lib.hid (fun (W:World) (hW:Below w.heap.size w W)=>joinR_of 8 p s nm n t args 0 (by decide) _ W (HV.out.below hW) (fun y hy u W' hW' hX hz=>exprR_at HA y hy u W' (hT.below (hW.trans (hW'.mono hW.size))) hX hz) (by show (joinB (plsG args)).size≤_;omega))
 rw [show (plsG args).drop 0=plsG args from rfl] at HF3
 clear HA hT ht  hj3
 generalize typG t=b1 at *
 generalize joinB (plsG args)=b3 at *
 go_enter Tryz.func50,Tryz.ntmps50
 have H:=Lib.hid (Below.drew H0.out)
 have HC:Hid (∀ i:Nat,(w.alloc (.cells #[.int .i64 8,.int .i64 p,.int .i64 s,.string nm,.int .i64 n,y0,y1,y2,y3,y4,.slice o args.length c] 31)).drew.cell? ⟨w.heap.size,i,none⟩=(#[.int .i64 8,.int .i64 p,.int .i64 s,.string nm,.int .i64 n,y0,y1,y2,y3,y4,.slice o args.length c]:Array Value)[i]?):=HX0.out.cell
 have cc:=HC.out
 go_wp2_with (refine boxLoad 31 11 size11 Tryz.underlying31 rfl _ rfl w.heap.size rfl (cs:=[_,_,_,_,_,_,_,_,_,_,_]) HX0.out rfl ?_)
 go_region_with (first | (go_at_call 12;(refine (HF1.out _ H.out).mono ?_;rintro e wo1 ⟨rfl,hB⟩;clear HF1;have hN:=Lib.hid (H.out.trans (hB.mono H.out.size));have hC:=Lib.hid (cellsBelow HC.out _ rfl hB);clear H HC;have H:=hN;have HC:=hC;clear hN hC;(try clear cc);have cc:=HC.out;clear hB)) | (go_at_call 78;(refine (HF3.out _ H.out).mono ?_;rintro e wo3 ⟨rfl,hB⟩;clear HF3;have hN:=Lib.hid (H.out.trans (hB.mono H.out.size));have hC:=Lib.hid (cellsBelow HC.out _ rfl hB);clear H HC;have H:=hN;have HC:=hC;clear hN hC;(try clear cc);have cc:=HC.out;clear hB)))
 all_goals
  go_wp2
  go_ret
  exact ⟨rfl,H.out⟩
end Go.Proofs.YtfcgoainglpdlaaGreatDoor
namespace Go.Proofs.YtfcgoainglpdlaaGreatDoor
open Go.RowKit
theorem plnR_bin (p s:Int) (nm:ByteArray) (n:Int) (t:GT) (args:List GX) (HA:ArgsOk args) (v:Value) (w:World) (hT:TabW w) (hv:IsX w (.mk 9 p s nm n t args) v) (hs:(plnG (.mk 9 p s nm n t args)).size≤9223372036854775807) :
  Calls Tryz.prog 50 #[v] w fun e w'=>e=.returned (.string (plnG (.mk 9 p s nm n t args)))∧Below w.heap.size w w':=by
 have HV:=Lib.hid hv
 unfold IsX at hv
 obtain ⟨y0,y1,y2,y3,y4,o,c,rfl,n1,n2,ht,hl,hc,ha⟩:=hv
 have H0:Hid (Below w.heap.size w (w.alloc (.cells #[.int .i64 9,.int .i64 p,.int .i64 s,.string nm,.int .i64 n,y0,y1,y2,y3,y4,.slice o args.length c] 31))):=(Below.refl _ _).alloc (Nat.le_refl _) _
 have HX0:=Lib.hid (Blk.new w 31 #[.int .i64 9,.int .i64 p,.int .i64 s,.string nm,.int .i64 n,y0,y1,y2,y3,y4,.slice o args.length c])
 have he:plnG (.mk 9 p s nm n t args)=argB (plsG args) 0 (levK 9 nm)++⟨#[32]⟩++nm++⟨#[32]⟩++argB (plsG args) 1 (levK 9 nm + 1):=by rw [plnG];simp
 rw [he] at hs ⊢
 clear he hl hc ha
 have HL:=Lib.hid (levR_any (.mk 9 p s nm n t args) _ _ (HV.out.below H0.out))
 have hlev:levG (.mk 9 p s nm n t args)=levK 9 nm:=rfl
 rw [hlev] at HL
 clear hlev
 have hl4:levK 9 nm≤4∧1≤levK 9 nm:=by
  unfold levK
  rw [if_neg (by decide),if_pos rfl]
  split
  ·decide
  ·split
   ·decide
   ·split <;> decide
 rw [argB_X args 0 (levK 9 nm) (by omega)] at hs ⊢
 rw [argB_X args 1 (levK 9 nm + 1) (by omega)] at hs ⊢
 have hsz:(bx (levK 9 nm) (levG (argX args 0),plnG (argX args 0))).size + 1 + nm.size + 1 + (bx (levK 9 nm + 1) (levG (argX args 1),plnG (argX args 1))).size≤9223372036854775807:=by
  simp only [ByteArray.size_append] at hs
  exact hs
 clear hs
 have hz4:(bx (levK 9 nm) (levG (argX args 0),plnG (argX args 0))).size + 1 + nm.size + 1≤9223372036854775807:=by omega
 have hz3:(bx (levK 9 nm) (levG (argX args 0),plnG (argX args 0))).size + 1 + nm.size≤9223372036854775807:=by omega
 have hz2:(bx (levK 9 nm) (levG (argX args 0),plnG (argX args 0))).size + 1≤9223372036854775807:=by omega
 have hbx0:=Lib.hid (bx_size (levK 9 nm) (levG (argX args 0),plnG (argX args 0)))
 have HF0:=Lib.hid (fun (u:Value) (W:World) (hW:Below w.heap.size w W) (hX:IsX W (argX args 0) u)=>forR_of (argX args 0) u W (levK 9 nm) hX (argP HA 0 u W (hT.below hW) hX (by have:=hbx0.out;simp only at this;omega)) (by omega))
 have HG0:=Lib.hid (fun (W:World) (hW:Below w.heap.size w W)=>argR_any 9 p s nm n t args 0 _ W (HV.out.below hW))
 have hbx4:=Lib.hid (bx_size (levK 9 nm + 1) (levG (argX args 1),plnG (argX args 1)))
 have HF4:=Lib.hid (fun (u:Value) (W:World) (hW:Below w.heap.size w W) (hX:IsX W (argX args 1) u)=>forR_of (argX args 1) u W (levK 9 nm + 1) hX (argP HA 1 u W (hT.below hW) hX (by have:=hbx4.out;simp only at this;omega)) (by omega))
 have HG4:=Lib.hid (fun (W:World) (hW:Below w.heap.size w W)=>argR_any 9 p s nm n t args 1 _ W (HV.out.below hW))
 clear HA hT ht hbx0 hbx4
 generalize bx (levK 9 nm) (levG (argX args 0),plnG (argX args 0))=b0 at *
 generalize bx (levK 9 nm + 1) (levG (argX args 1),plnG (argX args 1))=b4 at *
 have hlv:=Lib.hid hl4
 have hlv1:levK 9 nm + 1≤9223372036854775807:=by omega
 have hlv2:-9223372036854775808≤levK 9 nm + 1:=by omega
 clear hl4
 generalize levK 9 nm=m at *
 go_enter Tryz.func50,Tryz.ntmps50
 go_wp2_with (refine boxLoad 31 11 size11 Tryz.underlying31 rfl _ rfl w.heap.size rfl (cs:=[_,_,_,_,_,_,_,_,_,_,_]) HX0.out rfl ?_)
 refine (HL.out).mono ?_
 rintro e w1 ⟨rfl,hB⟩
 have H1:=Lib.hid (H0.out.trans (hB.mono H0.out.size))
 have HX1:=Lib.hid (HX0.out.below hB)
 clear hB HL
 go_wp2_with (refine boxLoad 31 11 size11 Tryz.underlying31 rfl _ rfl w.heap.size rfl (cs:=[_,_,_,_,_,_,_,_,_,_,_]) HX1.out rfl ?_)
 have H:=Lib.hid (Below.drew H1.out)
 have HC:Hid (∀ i:Nat,w1.drew.cell? ⟨w.heap.size,i,none⟩=(#[.int .i64 9,.int .i64 p,.int .i64 s,.string nm,.int .i64 n,y0,y1,y2,y3,y4,.slice o args.length c]:Array Value)[i]?):=HX1.out.cell
 clear H0 HX0
 have hS0:(fun w'=>∀ i:Nat,w'.cell? ⟨w.heap.size,i,none⟩=(#[.int .i64 9,.int .i64 p,.int .i64 s,.string nm,.int .i64 n,y0,y1,y2,y3,y4,.slice o args.length c]:Array Value)[i]?) w1.drew:=HC.out
 refine wp_region_held_drew (S:=(fun w'=>∀ i:Nat,w'.cell? ⟨w.heap.size,i,none⟩=(#[.int .i64 9,.int .i64 p,.int .i64 s,.string nm,.int .i64 n,y0,y1,y2,y3,y4,.slice o args.length c]:Array Value)[i]?)) (by kernel_rfl) hS0 fun hS0=>?_
 refine wpAnyH_take (i:=0) (v:=.agg #[.int .i64 9,.int .i64 p,.int .i64 s,.string nm,.int .i64 n,y0,y1,y2,y3,y4,.slice o args.length c]) rfl (by kernel_rfl) (by kernel_rfl) (by kernel_rfl) (fun _ _ _ h=>h) (Or.inl ⟨by rfl,fun w' hw'=>?_⟩) hS0 ?_
 ·exact run_box 31 11 size11 Tryz.underlying31 _ rfl w.heap.size 0 rfl (cs:=[.int .i64 9,.int .i64 p,.int .i64 s,.string nm,.int .i64 n,y0,y1,y2,y3,y4,.slice o args.length c]) (fun j v hj=>by rw [Nat.zero_add];exact (hw' j).trans (by simpa using hj)) rfl
 refine wpAnyH_take (i:=2) (v:=.int .i64 m) rfl (by kernel_rfl) (by kernel_rfl) (by kernel_rfl) (fun _ _ _ h=>h) (Or.inl ⟨by rfl,fun w' hw'=>?_⟩) hS0 ?_
 ·rfl
 refine wpAnyH_take (i:=5) (v:=.pointer (some ⟨w.heap.size,3,none⟩)) rfl (by kernel_rfl) (by kernel_rfl) (by kernel_rfl) (fun _ _ _ h=>h) (Or.inl ⟨by rfl,fun w' hw'=>?_⟩) hS0 ?_
 ·go_simp
 refine wpAnyH_take (i:=6) (v:=.string nm) rfl (by kernel_rfl) (by kernel_rfl) (by kernel_rfl) (fun _ _ _ h=>h) (Or.inl ⟨by rfl,fun w' hw'=>?_⟩) hS0 ?_
 ·have h3:=hw' 3;simp at h3;go_simp
 refine wpAnyH_take (i:=9) (v:=.agg #[.int .i64 9,.int .i64 p,.int .i64 s,.string nm,.int .i64 n,y0,y1,y2,y3,y4,.slice o args.length c]) rfl (by kernel_rfl) (by kernel_rfl) (by kernel_rfl) (fun _ _ _ h=>h) (Or.inl ⟨by rfl,fun w' hw'=>?_⟩) hS0 ?_
 ·exact run_box 31 11 size11 Tryz.underlying31 _ rfl w.heap.size 0 rfl (cs:=[.int .i64 9,.int .i64 p,.int .i64 s,.string nm,.int .i64 n,y0,y1,y2,y3,y4,.slice o args.length c]) (fun j v hj=>by rw [Nat.zero_add];exact (hw' j).trans (by simpa using hj)) rfl
 refine wpAnyH_take (i:=11) (v:=.int .i64 m) rfl (by kernel_rfl) (by kernel_rfl) (by kernel_rfl) (fun _ _ _ h=>h) (Or.inl ⟨by rfl,fun w' hw'=>?_⟩) hS0 ?_
 ·rfl
 refine wpAnyH_take (i:=12) (v:=.int .i64 (m + 1)) rfl (by kernel_rfl) (by kernel_rfl) (by kernel_rfl) (fun _ _ _ h=>h) (Or.inl ⟨by rfl,fun w' hw'=>?_⟩) hS0 ?_
 ·go_simp;exact IntWalk.i64_in _ ⟨hlv2,hlv1⟩
 refine wpAnyH_ready (rs:=[1]) (by kernel_rfl) (by simp) (AllReadyH.cons rfl (fun K hK=>?_) AllReadyH.nil)
 go_simp
 refine (HG0.out _ H.out).mono ?_
 rintro e wa0 ⟨⟨u0,rfl,hX⟩,hB⟩
 clear HG0
 have hN:=Lib.hid (H.out.trans (hB.mono H.out.size))
 have hC:=Lib.hid (cellsBelow HC.out _ rfl hB)
 clear H HC
 have H:=hN
 have HC:=hC
 clear hN hC
 have HU0:Hid (Pend wa0 (fun W=>Calls Tryz.prog 30 #[u0,.int .i64 (m)] W fun e w'=>e=.returned (.string b0)∧Below W.heap.size W w')):=fun W hW=>HF0.out u0 W (H.out.trans (hW.mono H.out.size)) (hX.below hW)
 clear HF0 hB hX
 refine hK.out _ _ HC.out (fun hS1=>?_)
 refine wpAnyH_ready (rs:=[3]) (by kernel_rfl) (by simp) (AllReadyH.cons rfl (fun K hK=>?_) AllReadyH.nil)
 go_simp
 refine (HU0.out _ (Below.refl _ _)).mono ?_
 rintro e wf0 ⟨rfl,hB⟩
 clear HU0
 have hN:=Lib.hid (H.out.trans (hB.mono H.out.size))
 have hC:=Lib.hid (cellsBelow HC.out _ rfl hB)
 clear H HC hB
 have H:=hN
 have HC:=hC
 clear hN hC
 refine hK.out _ _ HC.out (fun hS2=>?_)
 refine wpAnyH_take (i:=4) (v:=.string (b0++⟨#[32]⟩)) rfl (by kernel_rfl) (by kernel_rfl) (by kernel_rfl) (fun _ _ _ h=>h) (Or.inl ⟨by rfl,fun w' hw'=>?_⟩) hS2 ?_
 ·go_simp
 refine wpAnyH_take (i:=7) (v:=.string (b0++⟨#[32]⟩++nm)) rfl (by kernel_rfl) (by kernel_rfl) (by kernel_rfl) (fun _ _ _ h=>h) (Or.inl ⟨by rfl,fun w' hw'=>?_⟩) hS2 ?_
 ·go_simp
 refine wpAnyH_take (i:=8) (v:=.string (b0++⟨#[32]⟩++nm++⟨#[32]⟩)) rfl (by kernel_rfl) (by kernel_rfl) (by kernel_rfl) (fun _ _ _ h=>h) (Or.inl ⟨by rfl,fun w' hw'=>?_⟩) hS2 ?_
 ·go_simp
 refine wpAnyH_ready (rs:=[10]) (by kernel_rfl) (by simp) (AllReadyH.cons rfl (fun K hK=>?_) AllReadyH.nil)
 go_simp
 refine (HG4.out _ H.out).mono ?_
 rintro e wa4 ⟨⟨u4,rfl,hX⟩,hB⟩
 clear HG4
 have hN:=Lib.hid (H.out.trans (hB.mono H.out.size))
 have hC:=Lib.hid (cellsBelow HC.out _ rfl hB)
 clear H HC
 have H:=hN
 have HC:=hC
 clear hN hC
 have HU4:Hid (Pend wa4 (fun W=>Calls Tryz.prog 30 #[u4,.int .i64 (m + 1)] W fun e w'=>e=.returned (.string b4)∧Below W.heap.size W w')):=fun W hW=>HF4.out u4 W (H.out.trans (hW.mono H.out.size)) (hX.below hW)
 clear HF4 hB hX
 refine hK.out _ _ HC.out (fun hS3=>?_)
 refine wpAnyH_ready (rs:=[13]) (by kernel_rfl) (by simp) (AllReadyH.cons rfl (fun K hK=>?_) AllReadyH.nil)
 go_simp
 refine (HU4.out _ (Below.refl _ _)).mono ?_
 rintro e wf4 ⟨rfl,hB⟩
 clear HU4
 have hN:=Lib.hid (H.out.trans (hB.mono H.out.size))
 have hC:=Lib.hid (cellsBelow HC.out _ rfl hB)
 clear H HC hB
 have H:=hN
 have HC:=hC
 clear hN hC
 refine hK.out _ _ HC.out (fun hS4=>?_)
 refine wpAnyH_take (i:=14) (v:=.string (b0++⟨#[32]⟩++nm++⟨#[32]⟩++b4)) rfl (by kernel_rfl) (by kernel_rfl) (by kernel_rfl) (fun _ _ _ h=>h) (Or.inl ⟨by rfl,fun w' hw'=>?_⟩) hS4 ?_
 ·go_simp
 refine wpAnyH_ready (rs:=[15]) (by kernel_rfl) (by simp) (AllReadyH.cons rfl (fun K hK=>?_) AllReadyH.nil)
 go_simp
 refine hK.out _ _ HC.out (fun hS5=>?_)
 refine wpAnyH_done (by kernel_rfl) ?_ _
 go_wp2
 go_ret
 exact ⟨rfl,H.out⟩
end Go.Proofs.YtfcgoainglpdlaaGreatDoor
namespace Go.Proofs.YtfcgoainglpdlaaGreatDoor
open Go.RowKit
theorem plnR_any:∀ (n:Nat) (x:GX),SizeOf.sizeOf x < n→∀ (v:Value) (w:World),TabW w→IsX w x v→(plnG x).size≤9223372036854775807 →
  Calls Tryz.prog 50 #[v] w fun e w'=>e=.returned (.string (plnG x))∧Below w.heap.size w w':=by
 intro n
 induction n with
 |zero=>intro x h;omega
 |succ n ih =>
 rintro ⟨k,p,s,nm,m,t,args⟩ hz v w hT hv hs
 have HA:ArgsOk args:=fun y hy u W hT hX hs=>ih y (by have:=List.sizeOf_lt_of_mem hy;simp only [GX.mk.sizeOf_spec] at hz;omega) u W hT hX hs
 by_cases h5:k=5
 ·subst h5;exact plnR_sel p s nm m t args HA v w hT hv hs
 by_cases h6:k=6
 ·subst h6;exact plnR_call p s nm m t args HA v w hT hv hs
 by_cases h7:k=7
 ·subst h7;exact plnR_idx p s nm m t args HA v w hT hv hs
 by_cases h8:k=8
 ·subst h8;exact plnR_new p s nm m t args HA v w hT hv hs
 by_cases h9:k=9
 ·subst h9;exact plnR_bin p s nm m t args HA v w hT hv hs
 by_cases h10:k=10
 ·subst h10;exact plnR_not p s nm m t args HA v w hT hv hs
 exact plnR_leaf k p s nm m t args (by omega) v w hT hv hs
theorem exprR_any (x:GX) (v:Value) (w:World) (hT:TabW w) (hv:IsX w x v) (hs:(bx 1 (levG x,plnG x)).size≤9223372036854775807) :
  Calls Tryz.prog 15 #[v] w fun e w'=>e=.returned (.string (bx 1 (levG x,plnG x)))∧Below w.heap.size w w' :=
 exprR_of x v w hv (fun W hW=>plnR_any _ x (Nat.lt_succ_self _) v W (hT.below hW) (hv.below hW) (Nat.le_trans (bx_size 1 (levG x,plnG x)) hs)) hs
end Go.Proofs.YtfcgoainglpdlaaGreatDoor
