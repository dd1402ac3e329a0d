/- ShowBlocks answers true: any statements' text is the document's. Condition: what it reads is of bulk at most 1,048,576. -/
import Derived.Test.YtfcgoainglpdlaaGreatDoorB23
import Derived.Test.YtfcgoainglpdlaaGreatDoorB41
import Derived.Test.YtfcgoainglpdlaaGreatDoorB46
import Derived.Test.YtfcgoainglpdlaaGreatDoorB48
import Derived.Test.YtfcgoainglpdlaaGreatDoorB45
set_option maxRecDepth 100000
set_option maxHeartbeats 8000000
namespace Go.Proofs.YtfcgoainglpdlaaGreatDoor.showBlocks
open Go.ChangeShapes Go.WideShapes Go.ChangeAt Go.RowKit
open Go.Lib hiding intOf
theorem int_range7 {n:Int} (h:(Lit.int .i64 n).wf=true):-9223372036854775808≤n∧n≤9223372036854775807:=by
 have h2:IntKind.i64.min≤n∧n≤IntKind.i64.max:=by
  unfold Lit.wf at h
  simpa only [Bool.and_eq_true,decide_eq_true_eq] using h
 rw [show IntKind.i64.min=-9223372036854775808 by decide,show IntKind.i64.max=9223372036854775807 by decide] at h2
 exact h2
theorem walk (ss:List GS) (o:Option Addr) (c:Nat) (n:Int) (w:World) (hT:TabW w) (hx:IsSs w o 0 ss) (hl:ss.length≤9223372036854775807) (hb:bulkSs ss≤1048576) (h1:-9223372036854775808≤n) (h2:n≤9223372036854775807) :
  Calls Tryz.prog 5 #[.slice o ss.length c,.int .i64 n] w fun e w'=>e=.returned (.bool true)∧Below w.heap.size w w':=by
 have hs:=ss_bulkL (tbn_le n) hx
 have HA:=Lib.hid (awake7_any w hT)
 have HC:=Lib.hid (fun (W:World) (hW:Below w.heap.size w W)=>stmts_any _ ss o c W 0 (Nat.lt_succ_self _) (by decide) hl (hx.below hW))
 have HS:Hid (∀ (W:World) (hW:Below w.heap.size w W),Calls Tryz.prog 17 #[.slice o ss.length c,.int .i64 n] W fun e w'=>e=.returned (.string ⟨(blkL (tbn n) ss).toArray⟩)∧Below W.heap.size W w'):=fun W hW=>blockS_any ss o c hl n n.toNat (by omega) (by omega) W (hT.below hW) (hx.below hW) (by unfold tbn at hs;omega)
 have HR:=Lib.hid (fun (W:World) (hW:Below w.heap.size w W)=>blockR_any ss n o c W h1 h2 (hT.below hW) hl (hx.below hW) (ss_fit hx hb) (by omega))
 clear hs hb hT hx h1 h2 hl
 generalize (⟨(blkL (tbn n) ss).toArray⟩:ByteArray)=t at *
 go_enter Tryz.func5,Tryz.ntmps5
 go_wp2_with fail
 refine HA.out.mono ?_
 rintro e w1 ⟨rfl,hB⟩
 have H1:=Lib.hid hB
 clear hB HA
 go_wp2_with fail
 refine (HC.out _ H1.out).mono ?_
 rintro e w2 ⟨r,hr,rfl,hB⟩
 have H2:=Lib.hid (H1.out.trans (hB.mono H1.out.size))
 clear hB hr
 by_cases hr:(200:Int) < (r:Int)
 ·go_wp2
  go_ret
  exact ⟨rfl,H2.out⟩
 ·go_wp2_with (first
   |(go_at_call 18;refine (HR.out _ H3.out).mono ?_;rintro e w4 ⟨rfl,hB⟩;have H4:=Lib.hid (H3.out.trans (hB.mono H3.out.size));clear hB)
   |(go_at_call 17;refine (HS.out _ H2.out).mono ?_;rintro e w3 ⟨rfl,hB⟩;have H3:=Lib.hid (H2.out.trans (hB.mono H2.out.size));clear hB))
  go_ret
  exact ⟨by first | rfl | simp,H4.out⟩
theorem contract (H:Type) (enc:TypeId × Value→H) (W:World) (base:Nat) (args:Array Value) (ds gs:List (DataW H)) (before:List MemPlace)
  (hval:∀ (j:Nat) t v,Tryz.f5.params[j]?=some t→args[j]?=some v→Value.okWide Tryz.prog W .any base t v)
  (hW:DataW.Whole enc Tryz.prog Tryz.f5.params.toList Rows.showBlocksSpec.vars false W args.toList ds gs before) (hk:Rows.uptoSmall H (ds++gs)=true) (hL:laidMetH Tryz.prog Rows.showBlocksUptoRow.laid W) :
  Calls Tryz.prog 5 args W fun e W'=>∃ v,e=.returned v∧Rows.showBlocksSpec.post enc Tryz.prog Tryz.f5 false true false false W args v W':=by
 have hpart:∀ d ∈ ds,Rows.uptoBulk d≤1048576:=fun d hd=>by
  have h1:Rows.uptoBulkAll (ds++gs)≤1048576:=of_decide_eq_true hk
  have h2:=part_le7 (List.mem_append_left gs hd)
  omega
 have hT:TabW W:=table7 hL
 have hW':=hW
 obtain ⟨p,q,hA0,hV,rfl,hfz,hnd⟩:=hW
 have hA:DataW.TrodAll enc Tryz.prog W 0 (fun _=>true) true Tryz.f5.params.toList args.toList ds p:=hA0
 rw [Tryz.params5] at hA hval
 obtain ⟨v0,vs0,d0,ds0,p0,q0',hargs,rfl,rfl,h0,r0⟩:=trodAll_cons hA
 obtain ⟨v1,vs1,d1,ds1,p1,q1',rfl,rfl,rfl,h1,r1⟩:=trodAll_cons r0
 obtain ⟨rfl,rfl,rfl⟩:=trodAll_nil r1
 obtain rfl:args=#[v0,v1]:=by cases args;simp_all
 obtain ⟨rfl,rfl⟩:=trodVars_none hV
 have t0:=h0
 obtain ⟨o0,l0,c0,rfl,j0,n0,b0⟩:=open_ssB (hval 0 35 v0 rfl rfl) h0
 have z0:=hpart d0 (by simp)
 have lt0:∀ x ∈ p0,x.block < W.heap.size:=fun x hx=>by simpa using hW'.lt x (by simp [hx])
 obtain ⟨a1,rfl,rfl,rfl,w1⟩:=open_int Tryz.underlying3 (hval 1 3 v1 rfl rfl) h1
 have f1:=int_range7 w1
 clear hA0
 simp only [List.append_nil] at hW'
 refine (walk l0 o0 c0 a1 W hT j0 n0 (Nat.le_trans b0 z0) f1.1 f1.2).mono fun e W' ⟨he,hg⟩=>?_
 subst he
 exact ⟨_,rfl,_,_,_,[],_,[],hW',(trodAll_cons_mk (shut_bool Tryz.underlying4 _) trodAll_mk0),(trodAll_cons_mk (Below.trod laidOut7 (by kernel_rfl) (of_decide_eq_true (by kernel_rfl)) t0 hg lt0) (trodAll_cons_mk (shut_int Tryz.underlying3 w1) trodAll_mk0)),rfl,hg.frame _,fun h=>by cases h⟩
theorem laid_met (os:Os):laidMet Tryz.prog laid7 ((laidWorld7 os).forCall (fun _ _=>0) ⟨#[],#[.slice none 0 0,.int .i64 0],[]⟩).memory :=
 laidMet_of_run' 8 (by kernel_rfl) (by kernel_rfl)
theorem reads (os:Os) {H:Type} (enc:TypeId × Value→H):∃ places,DataW.whole enc Tryz.prog ((laidWorld7 os).forCall (fun _ _=>0) ⟨#[],#[.slice none 0 0,.int .i64 0],[]⟩).memory Tryz.f5.params.toList Rows.showBlocksSpec.vars false (#[.slice none 0 0,.int .i64 0]:Array Value).toList 8=some ([.nil,.lit (.int .i64 0)],[],places) :=
 ⟨[],by kernel_rfl⟩
theorem lifted (os:Os) (started:os.Started) (H:Type) (enc:TypeId × Value→H) (F:Stop.Interp) :
  ReturnsInHanded {} Tryz.checked os 5 .any ((Rows.OpenSpec.upto Rows.showBlocksSpec).preRow enc Tryz.prog Tryz.f5 Rows.showBlocksUptoRow.domain false Rows.showBlocksUptoRow.laid) (((Rows.OpenSpec.upto Rows.showBlocksSpec).at F).post enc Tryz.prog Tryz.f5 false true false false):=by
 obtain ⟨places,hx⟩:=reads os enc
 refine returnsInHanded_of_row (C:=Tryz.checked) (s:=(Rows.OpenSpec.upto Rows.showBlocksSpec)) own7 started (by kernel_rfl) Tryz.func5
  (witness_row_at (enc:=enc) (C:=Tryz.checked) false (laidWorld7 os) #[.slice none 0 0,.int .i64 0] rfl (by kernel_rfl) (by kernel_rfl) (by kernel_rfl)
   (OpenSpec.preRow_of_cond 8 hx (by kernel_rfl) (fun k hk=>by cases hk;kernel_rfl) (by kernel_rfl) (laid_met os))) ?_
 intro W base args ds gs before hval hW _ hcond hsz hL _ _
 exact contract H enc W base args ds gs before hval hW (hcond _ rfl) hL
theorem said:Rows.ShowBlocksUptoSaid :=
 OpenClaim.holds_of_cond 5 Tryz.f5 rfl rfl rfl rfl rfl rfl rfl ⟨rfl,rfl,rfl,rfl,rfl⟩ rfl rfl rfl rfl rfl (by kernel_rfl) Tryz.func5 (by kernel_rfl)
  (of_decide_eq_true (by kernel_rfl)) (by unfold Func.isWrapper;first | (rw [if_pos (by decide +kernel)];kernel_rfl) | (rw [if_neg (by decide +kernel)];exact ⟨rfl,rfl⟩))
  (fun os started H enc _ F=>by rw [OpenClaim.pre_eq_preRow];exact lifted os started H enc F)
theorem plain (f:FuncId) (fn:Func) (hf:Tryz.pinned.checked.prog.funcNamed "quoin/quoinlaw07.ShowBlocks"=some f) (hfn:Tryz.pinned.checked.prog.funcs[f]?=some fn) :
  true=Tryz.pinned.checked.prog.looks []∧∀ (j:Nat) t,fn.params[j]?=some t→Tryz.pinned.checked.prog.wantsStandIn t=false:=by
 obtain rfl:f=5:=Option.some.inj ((show Tryz.prog.funcNamed "quoin/quoinlaw07.ShowBlocks"=some 5 by kernel_rfl).symm.trans hf) |>.symm
 obtain rfl:fn=Tryz.f5:=(Option.some.inj (Tryz.func5.symm.trans hfn)).symm
 refine ⟨by kernel_rfl,fun j t ht=>?_⟩
 rw [Tryz.params5] at ht
 have hm:=Array.mem_of_getElem? ht
 simp only [List.mem_toArray,List.mem_cons,List.not_mem_nil,or_false] at hm
 rcases hm with rfl | rfl
 ·exact (show Tryz.prog.wantsStandIn 35=false by kernel_rfl)
 ·exact (show Tryz.prog.wantsStandIn 3=false by kernel_rfl)
theorem proved:Rows.ShowBlocksUptoCardSaid :=
 Claim7.holds_tied_plain_at .later [] _ _ _ _ said (fun _ h=>by cases h) (by kernel_rfl) (fun _ h=>by cases h) showBlocksUpto_row_tie rfl ⟨rfl,rfl⟩ (by kernel_rfl) rfl plain (by kernel_rfl)
end Go.Proofs.YtfcgoainglpdlaaGreatDoor.showBlocks
