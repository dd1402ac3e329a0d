/- ShowExprs answers true: any expression's text is the document's. Condition: what it reads is of bulk at most 1,048,576. -/
import Derived.Test.YtfcgoainglpdlaaGreatDoorM23
import Derived.Test.YtfcgoainglpdlaaGreatDoorM39
import Derived.Test.YtfcgoainglpdlaaGreatDoorM40
import Derived.Test.YtfcgoainglpdlaaGreatDoorM44
import Derived.Test.YtfcgoainglpdlaaGreatDoorM45
import Derived.Test.YtfcgoainglpdlaaGreatDoorM46
set_option maxRecDepth 100000
set_option maxHeartbeats 8000000
namespace Go.Proofs.YtfcgoainglpdlaaGreatDoor.showExprs
open Go.ChangeShapes Go.WideShapes Go.ChangeAt Go.RowKit
open Go.Lib hiding intOf
theorem walk (x:GX) (v:Value) (w:World) (hT:TabW w) (hv:IsX w x v) (hb:bulkX x≤1048576) :
  Calls Tryz.prog 4 #[v] w fun e w'=>e=.returned (.bool true)∧Below w.heap.size w w':=by
 have hs:=ex_bulk hv 1
 have hs1:(bx 1 (levG x,plnG x)).size≤140737488355328:=by omega
 have hs2:(bx 1 (levG x,plnG x)).size≤9223372036854775807:=by omega
 have HV:=Lib.hid hv
 obtain ⟨k,p,s,nm,n,y0,y1,y2,y3,y4,o,l,c,rfl⟩:=hv.form
 have H0:Hid (Below w.heap.size w (w.alloc (.cells #[.int .i64 k,.int .i64 p,.int .i64 s,.string nm,.int .i64 n,y0,y1,y2,y3,y4,.slice o l c] 31))):=(Below.refl _ _).alloc (Nat.le_refl _) _
 have HX:=Lib.hid (Blk.new w 31 #[.int .i64 k,.int .i64 p,.int .i64 s,.string nm,.int .i64 n,y0,y1,y2,y3,y4,.slice o l c])
 have HT:Hid (∃ gt:GT,IsG w gt (.agg #[y0,y1,y2,y3,y4])):=by
  obtain ⟨k',p',s',nm',n',t',args'⟩:=x
  unfold IsX at hv
  obtain ⟨z0,z1,z2,z3,z4,o',c',he,_,_,ht,_⟩:=hv
  simp only [Value.agg.injEq,Array.mk.injEq,List.cons.injEq,and_true] at he
  obtain ⟨_,_,_,_,_,rfl,rfl,rfl,rfl,rfl,_⟩:=he
  exact ⟨t',ht⟩
 obtain ⟨gt,hgt⟩:=HT.out
 have HA:=Lib.hid (awake7_any (w.alloc (.cells #[.int .i64 k,.int .i64 p,.int .i64 s,.string nm,.int .i64 n,y0,y1,y2,y3,y4,.slice o l c] 31)) (hT.below H0.out))
 have HN:=Lib.hid (fun (W:World) (hb:Below w.heap.size w W)=>nodes_any _ x _ W 0 (Nat.lt_succ_self _) (by decide) (HV.out.below hb))
 have HL:=Lib.hid (fun (W:World) (hb:Below w.heap.size w W)=>lists_any gt _ W (hgt.below hb))
 have HS:=Lib.hid (fun (W:World) (hb:Below w.heap.size w W)=>exprS_any x _ W (hT.below hb) (HV.out.below hb) hs1)
 have HR:=Lib.hid (fun (W:World) (hb:Below w.heap.size w W)=>exprR_any x _ W (hT.below hb) (HV.out.below hb) hs2)
 clear hs hs1 hs2 hb hT hv hgt HT
 generalize bx 1 (levG x,plnG x)=t at *
 generalize min (deepG gt) 300=d at *
 clear gt
 have cx:=HX.out.cell
 go_enter Tryz.func4,Tryz.ntmps4
 go_wp2_with (first
  |(go_at_call 10;refine (HL.out _ H2.out).mono ?_;rintro e w3 ⟨rfl,hB⟩;have H3:=Lib.hid (H2.out.trans (hB.mono H2.out.size));have HX3:=Lib.hid (HX2.out.below hB);(try clear cx);have cx:=HX3.out.cell;clear hB)
  |(go_at_call 13;refine (HN.out _ H1.out).mono ?_;rintro e w2 ⟨r,hr,rfl,hB⟩;have H2:=Lib.hid (H1.out.trans (hB.mono H1.out.size));have HX2:=Lib.hid (HX1.out.below hB);(try clear cx);have cx:=HX2.out.cell;clear hB)
  |(go_at_call 9;refine HA.out.mono ?_;rintro e w1 ⟨rfl,hB⟩;have H1:=Lib.hid (H0.out.trans (hB.mono H0.out.size));have HX1:=Lib.hid (HX.out.below hB);(try clear cx);have cx:=HX1.out.cell;clear hB))
 all_goals first
  |(go_ret;exact ⟨by first | rfl | simp,H2.out⟩)
  |(go_ret;exact ⟨by first | rfl | simp,H3.out⟩)
  |skip
 have H:=Lib.hid (Below.drew H3.out)
 have HC:Hid (∀ i:Nat,w3.drew.cell? ⟨w.heap.size,i,none⟩=(#[.int .i64 k,.int .i64 p,.int .i64 s,.string nm,.int .i64 n,y0,y1,y2,y3,y4,.slice o l c]:Array Value)[i]?):=HX3.out.cell
 clear cx H3 HX3 H2 HX2 H1 HX1 HA HL HN
 have cx:=HC.out
 go_region_with (first
  |(go_at_call 15;refine (HR.out _ H.out).mono ?_;rintro e w4 ⟨rfl,hB⟩;have hN:=Lib.hid (H.out.trans (hB.mono H.out.size));have hC:=Lib.hid (cellsBelow HC.out _ rfl hB);clear H HC cx;have H:=hN;have HC:=hC;clear hN hC hB;have cx:=HC.out)
  |(go_at_call 14;refine (HS.out _ H.out).mono ?_;rintro e w4 ⟨rfl,hB⟩;have hN:=Lib.hid (H.out.trans (hB.mono H.out.size));have hC:=Lib.hid (cellsBelow HC.out _ rfl hB);clear H HC cx;have H:=hN;have HC:=hC;clear hN hC hB;have cx:=HC.out))
 all_goals
  go_wp2
  go_ret
  exact ⟨by first | rfl | simp,H.out⟩
theorem contract (H:Type) (enc:TypeId × Value→H) (W:World) (base:Nat) (args:Array Value) (ds gs:List (DataW H)) (before:List MemPlace)
  (hval:∀ (j:Nat) t v,Tryz.f4.params[j]?=some t→args[j]?=some v→Value.okWide Tryz.prog W .any base t v)
  (hW:DataW.Whole enc Tryz.prog Tryz.f4.params.toList Rows.showExprsSpec.vars false W args.toList ds gs before) (hk:Rows.uptoSmall H (ds++gs)=true) (hL:laidMetH Tryz.prog Rows.showExprsUptoRow.laid W) :
  Calls Tryz.prog 4 args W fun e W'=>∃ v,e=.returned v∧Rows.showExprsSpec.post enc Tryz.prog Tryz.f4 false true false false W args v W':=by
 have hpart:∀ d ∈ ds,Rows.uptoBulk d≤1048576:=fun d hd=>by
  have h1:Rows.uptoBulkAll (ds++gs)≤1048576:=of_decide_eq_true hk
  have h2:=part_le7 (List.mem_append_left gs hd)
  omega
 have hT:TabW W:=table7 hL
 have hW':=hW
 obtain ⟨p,q,hA0,hV,rfl,hfz,hnd⟩:=hW
 have hA:DataW.TrodAll enc Tryz.prog W 0 (fun _=>true) true Tryz.f4.params.toList args.toList ds p:=hA0
 rw [Tryz.params4] at hA hval
 obtain ⟨v0,vs0,d0,ds0,p0,q0',hargs,rfl,rfl,h0,r0⟩:=trodAll_cons hA
 obtain ⟨rfl,rfl,rfl⟩:=trodAll_nil r0
 obtain rfl:args=#[v0]:=by cases args;simp_all
 obtain ⟨rfl,rfl⟩:=trodVars_none hV
 have t0:=h0
 obtain ⟨c0,rfl,_⟩:=okWide_struct Tryz.underlying31 (hval 0 31 v0 rfl rfl)
 obtain ⟨u0,k0⟩:=h0
 obtain ⟨g0,m0,b0⟩:=open_exB u0 _ _ k0
 have y0:(Value.agg c0).cells.toList.toArray=c0:=by simp [Value.cells]
 rw [y0] at m0
 have z0:=hpart d0 (by simp)
 have lt0:∀ x ∈ p0,x.block < W.heap.size:=fun x hx=>by simpa using hW'.lt x (by simp [hx])
 clear hA0
 simp only [List.append_nil] at hW'
 refine (walk g0 _ W hT m0 (Nat.le_trans b0 z0)).mono fun e W' ⟨he,hg⟩=>?_
 subst he
 exact ⟨_,rfl,_,_,_,[],_,[],hW',(trodAll_cons_mk (shut_bool Tryz.underlying4 _) trodAll_mk0),(trodAll_cons_mk (Below.trod laidOut7 (by kernel_rfl) (of_decide_eq_true (by kernel_rfl)) t0 hg lt0) trodAll_mk0),rfl,hg.frame _,fun h=>by cases h⟩
theorem laid_met (os:Os):laidMet Tryz.prog laid7 ((laidWorld7 os).forCall (fun _ _=>0) ⟨#[],#[.agg #[.int .i64 0,.int .i64 0,.int .i64 0,.string .empty,.int .i64 0,.int .i64 0,.int .i64 0,.string .empty,.string .empty,.slice none 0 0,.slice none 0 0]],[]⟩).memory :=
 laidMet_of_run' 8 (by kernel_rfl) (by kernel_rfl)
theorem reads (os:Os) {H:Type} (enc:TypeId × Value→H):∃ places,DataW.whole enc Tryz.prog ((laidWorld7 os).forCall (fun _ _=>0) ⟨#[],#[.agg #[.int .i64 0,.int .i64 0,.int .i64 0,.string .empty,.int .i64 0,.int .i64 0,.int .i64 0,.string .empty,.string .empty,.slice none 0 0,.slice none 0 0]],[]⟩).memory Tryz.f4.params.toList Rows.showExprsSpec.vars false (#[.agg #[.int .i64 0,.int .i64 0,.int .i64 0,.string .empty,.int .i64 0,.int .i64 0,.int .i64 0,.string .empty,.string .empty,.slice none 0 0,.slice none 0 0]]:Array Value).toList 8=some ([.agg [.lit (.int .i64 0),.lit (.int .i64 0),.lit (.int .i64 0),.lit (.string []),.lit (.int .i64 0),.agg [.lit (.int .i64 0),.lit (.int .i64 0),.lit (.string []),.lit (.string []),.nil],.nil]],[],places) :=
 ⟨[],by kernel_rfl⟩
theorem lifted (os:Os) (started:os.Started) (H:Type) (enc:TypeId × Value→H) (F:Stop.Interp) :
  ReturnsInHanded {} Tryz.checked os 4 .any ((Rows.OpenSpec.upto Rows.showExprsSpec).preRow enc Tryz.prog Tryz.f4 Rows.showExprsUptoRow.domain false Rows.showExprsUptoRow.laid) (((Rows.OpenSpec.upto Rows.showExprsSpec).at F).post enc Tryz.prog Tryz.f4 false true false false):=by
 obtain ⟨places,hx⟩:=reads os enc
 refine returnsInHanded_of_row (C:=Tryz.checked) (s:=(Rows.OpenSpec.upto Rows.showExprsSpec)) own7 started (by kernel_rfl) Tryz.func4
  (witness_row_at (enc:=enc) (C:=Tryz.checked) false (laidWorld7 os) #[.agg #[.int .i64 0,.int .i64 0,.int .i64 0,.string .empty,.int .i64 0,.int .i64 0,.int .i64 0,.string .empty,.string .empty,.slice none 0 0,.slice none 0 0]] rfl (by kernel_rfl) (by kernel_rfl) (by kernel_rfl)
   (OpenSpec.preRow_of_cond 8 hx (by kernel_rfl) (fun k hk=>by cases hk;kernel_rfl) (by kernel_rfl) (laid_met os))) ?_
 intro W base args ds gs before hval hW _ hcond hsz hL _ _
 exact contract H enc W base args ds gs before hval hW (hcond _ rfl) hL
theorem said:Rows.ShowExprsUptoSaid :=
 OpenClaim.holds_of_cond 4 Tryz.f4 rfl rfl rfl rfl rfl rfl rfl ⟨rfl,rfl,rfl,rfl,rfl⟩ rfl rfl rfl rfl rfl (by kernel_rfl) Tryz.func4 (by kernel_rfl)
  (of_decide_eq_true (by kernel_rfl)) (by unfold Func.isWrapper;first | (rw [if_pos (by decide +kernel)];kernel_rfl) | (rw [if_neg (by decide +kernel)];exact ⟨rfl,rfl⟩))
  (fun os started H enc _ F=>by rw [OpenClaim.pre_eq_preRow];exact lifted os started H enc F)
theorem plain (f:FuncId) (fn:Func) (hf:Tryz.pinned.checked.prog.funcNamed "quoin/quoinlaw07.ShowExprs"=some f) (hfn:Tryz.pinned.checked.prog.funcs[f]?=some fn) :
  true=Tryz.pinned.checked.prog.looks []∧∀ (j:Nat) t,fn.params[j]?=some t→Tryz.pinned.checked.prog.wantsStandIn t=false:=by
 obtain rfl:f=4:=Option.some.inj ((show Tryz.prog.funcNamed "quoin/quoinlaw07.ShowExprs"=some 4 by kernel_rfl).symm.trans hf) |>.symm
 obtain rfl:fn=Tryz.f4:=(Option.some.inj (Tryz.func4.symm.trans hfn)).symm
 refine ⟨by kernel_rfl,fun j t ht=>?_⟩
 rw [Tryz.params4] at ht
 have hm:=Array.mem_of_getElem? ht
 simp only [List.mem_toArray,List.mem_cons,List.not_mem_nil,or_false] at hm
 rcases hm with rfl
 exact (show Tryz.prog.wantsStandIn 31=false by kernel_rfl)
theorem proved:Rows.ShowExprsUptoCardSaid :=
 Claim7.holds_tied_plain_at .later [] _ _ _ _ said (fun _ h=>by cases h) (by kernel_rfl) (fun _ h=>by cases h) showExprsUpto_row_tie rfl ⟨rfl,rfl⟩ (by kernel_rfl) rfl plain (by kernel_rfl)
end Go.Proofs.YtfcgoainglpdlaaGreatDoor.showExprs
