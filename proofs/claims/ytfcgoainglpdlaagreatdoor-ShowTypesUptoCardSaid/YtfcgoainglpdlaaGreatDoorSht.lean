/- ShowTypes answers true: any type's text is the document's. Condition: what it reads is of bulk at most 1,048,576. -/
import Derived.Test.YtfcgoainglpdlaaGreatDoorM23
import Derived.Test.YtfcgoainglpdlaaGreatDoorM39
import Derived.Test.YtfcgoainglpdlaaGreatDoorM40
import Derived.Test.YtfcgoainglpdlaaGreatDoorM41
set_option maxRecDepth 100000
set_option maxHeartbeats 8000000
namespace Go.Proofs.YtfcgoainglpdlaaGreatDoor.showTypes
open Go.ChangeShapes Go.WideShapes Go.ChangeAt Go.RowKit
open Go.Lib hiding intOf
theorem walk (x:GT) (v:Value) (w:World) (hT:TabW w) (hv:IsG w x v) (hb:bulkG x≤1048576) :
  Calls Tryz.prog 3 #[v] w fun e w'=>e=.returned (.bool true)∧Below w.heap.size w w':=by
 obtain ⟨k,p,g,n,args⟩:=x
 have hs:=typ_bulk (.mk k p g n args)
 have hs1:(typG (.mk k p g n args)).size≤140737488355328:=by omega
 have hs2:(typG (.mk k p g n args)).size≤9223372036854775807:=by omega
 have HV:=Lib.hid hv
 unfold IsG at hv
 obtain ⟨o,c,rfl,_⟩:=hv
 have H0:Hid (Below w.heap.size w (w.alloc (.cells #[.int .i64 k,.int .i64 p,.string g,.string n,.slice o args.length c] 24))):=(Below.refl _ _).alloc (Nat.le_refl _) _
 have HX:=Lib.hid (Blk.new w 24 #[.int .i64 k,.int .i64 p,.string g,.string n,.slice o args.length c])
 have HA:=Lib.hid (awake7_any (w.alloc (.cells #[.int .i64 k,.int .i64 p,.string g,.string n,.slice o args.length c] 24)) (hT.below H0.out))
 have HL:=Lib.hid (fun (W:World) (hb:Below w.heap.size w W)=>lists_any (.mk k p g n args) _ W (HV.out.below hb))
 have HS:=Lib.hid (fun (W:World) (hb:Below w.heap.size w W)=>type_any (.mk k p g n args) _ W (HV.out.below hb) hs1)
 have HR:=Lib.hid (fun (W:World) (hb:Below w.heap.size w W)=>typR_any _ (.mk k p g n args) _ W (Nat.lt_succ_self _) hs2 (HV.out.below hb))
 clear hs hs1 hs2 hb hT
 generalize typG (.mk k p g n args)=t at *
 generalize deepG (.mk k p g n args)=d at *
 by_cases hd:d < 300
 ·have hq:Hid ((((min d 300:Nat):Int))=(d:Int)):=by show _=_;omega
  go_enter Tryz.func3,Tryz.ntmps3
  go_wp2_with (first
   |(go_at_call 10;refine (HL.out _ H1.out).mono ?_;rintro e w2 ⟨rfl,hB⟩;have H2:=Lib.hid (H1.out.trans (hB.mono H1.out.size));have HX2:=Lib.hid (HX1.out.below hB);(try clear cx);have cx:=HX2.out.cell;rw [hq.out];clear hB)
   |(go_at_call 9;refine HA.out.mono ?_;rintro e w1 ⟨rfl,hB⟩;have H1:=Lib.hid (H0.out.trans (hB.mono H0.out.size));have HX1:=Lib.hid (HX.out.below hB);(try clear cx);have cx:=HX1.out.cell;clear hB))
  have H:=Lib.hid (Below.drew H2.out)
  have HC:Hid (∀ i:Nat,w2.drew.cell? ⟨w.heap.size,i,none⟩=(#[.int .i64 k,.int .i64 p,.string g,.string n,.slice o args.length c]:Array Value)[i]?):=HX2.out.cell
  clear cx H2 HX2 H1 HX1 HA HL
  have cx:=HC.out
  go_region_with (first
   |(go_at_call 12;refine (HR.out _ H.out).mono ?_;rintro e w4 ⟨rfl,hB⟩;have hN:=Lib.hid (H.out.trans (hB.mono H.out.size));have hC:=Lib.hid (cellsBelow HC.out _ rfl hB);clear H HC cx;have H:=hN;have HC:=hC;clear hN hC hB;have cx:=HC.out)
   |(go_at_call 11;refine (HS.out _ H.out).mono ?_;rintro e w3 ⟨rfl,hB⟩;have hN:=Lib.hid (H.out.trans (hB.mono H.out.size));have hC:=Lib.hid (cellsBelow HC.out _ rfl hB);clear H HC cx;have H:=hN;have HC:=hC;clear hN hC hB;have cx:=HC.out))
  all_goals
   go_wp2
   go_ret
   exact ⟨by first | rfl | simp,H.out⟩
 ·have hq:Hid ((((min d 300:Nat):Int))=300):=by show _=_;omega
  go_enter Tryz.func3,Tryz.ntmps3
  go_wp2_with (first
   |(go_at_call 10;refine (HL.out _ H1.out).mono ?_;rintro e w2 ⟨rfl,hB⟩;have H2:=Lib.hid (H1.out.trans (hB.mono H1.out.size));have HX2:=Lib.hid (HX1.out.below hB);(try clear cx);have cx:=HX2.out.cell;rw [hq.out];clear hB)
   |(go_at_call 9;refine HA.out.mono ?_;rintro e w1 ⟨rfl,hB⟩;have H1:=Lib.hid (H0.out.trans (hB.mono H0.out.size));have HX1:=Lib.hid (HX.out.below hB);(try clear cx);have cx:=HX1.out.cell;clear hB))
  go_ret
  exact ⟨by simp,H2.out⟩
theorem contract (H:Type) (enc:TypeId × Value→H) (W:World) (base:Nat) (args:Array Value) (ds gs:List (DataW H)) (before:List MemPlace)
  (hval:∀ (j:Nat) t v,Tryz.f3.params[j]?=some t→args[j]?=some v→Value.okWide Tryz.prog W .any base t v)
  (hW:DataW.Whole enc Tryz.prog Tryz.f3.params.toList Rows.showTypesSpec.vars false W args.toList ds gs before) (hk:Rows.uptoSmall H (ds++gs)=true) (hL:laidMetH Tryz.prog Rows.showTypesUptoRow.laid W) :
  Calls Tryz.prog 3 args W fun e W'=>∃ v,e=.returned v∧Rows.showTypesSpec.post enc Tryz.prog Tryz.f3 false true false false W args v W':=by
 have hpart:∀ d ∈ ds,Rows.uptoBulk d≤1048576:=fun d hd=>by
  have h1:Rows.uptoBulkAll (ds++gs)≤1048576:=of_decide_eq_true hk
  have h2:=part_le7 (List.mem_append_left gs hd)
  omega
 have hT:TabW W:=table7 hL
 have hW':=hW
 obtain ⟨p,q,hA0,hV,rfl,hfz,hnd⟩:=hW
 have hA:DataW.TrodAll enc Tryz.prog W 0 (fun _=>true) true Tryz.f3.params.toList args.toList ds p:=hA0
 rw [Tryz.params3] at hA hval
 obtain ⟨v0,vs0,d0,ds0,p0,q0',hargs,rfl,rfl,h0,r0⟩:=trodAll_cons hA
 obtain ⟨rfl,rfl,rfl⟩:=trodAll_nil r0
 obtain rfl:args=#[v0]:=by cases args;simp_all
 obtain ⟨rfl,rfl⟩:=trodVars_none hV
 have t0:=h0
 obtain ⟨c0,rfl,_⟩:=okWide_struct Tryz.underlying24 (hval 0 24 v0 rfl rfl)
 obtain ⟨u0,k0⟩:=h0
 obtain ⟨g0,m0,b0⟩:=open_tyB u0 _ _ k0
 have y0:(Value.agg c0).cells.toList.toArray=c0:=by simp [Value.cells]
 rw [y0] at m0
 have z0:=hpart d0 (by simp)
 have lt0:∀ x ∈ p0,x.block < W.heap.size:=fun x hx=>by simpa using hW'.lt x (by simp [hx])
 clear hA0
 simp only [List.append_nil] at hW'
 refine (walk g0 _ W hT m0 (Nat.le_trans b0 z0)).mono fun e W' ⟨he,hg⟩=>?_
 subst he
 exact ⟨_,rfl,_,_,_,[],_,[],hW',(trodAll_cons_mk (shut_bool Tryz.underlying4 _) trodAll_mk0),(trodAll_cons_mk (Below.trod laidOut7 (by kernel_rfl) (of_decide_eq_true (by kernel_rfl)) t0 hg lt0) trodAll_mk0),rfl,hg.frame _,fun h=>by cases h⟩
theorem laid_met (os:Os):laidMet Tryz.prog laid7 ((laidWorld7 os).forCall (fun _ _=>0) ⟨#[],#[.agg #[.int .i64 0,.int .i64 0,.string .empty,.string .empty,.slice none 0 0]],[]⟩).memory :=
 laidMet_of_run' 8 (by kernel_rfl) (by kernel_rfl)
theorem reads (os:Os) {H:Type} (enc:TypeId × Value→H):∃ places,DataW.whole enc Tryz.prog ((laidWorld7 os).forCall (fun _ _=>0) ⟨#[],#[.agg #[.int .i64 0,.int .i64 0,.string .empty,.string .empty,.slice none 0 0]],[]⟩).memory Tryz.f3.params.toList Rows.showTypesSpec.vars false (#[.agg #[.int .i64 0,.int .i64 0,.string .empty,.string .empty,.slice none 0 0]]:Array Value).toList 8=some ([.agg [.lit (.int .i64 0),.lit (.int .i64 0),.lit (.string []),.lit (.string []),.nil]],[],places) :=
 ⟨[],by kernel_rfl⟩
theorem lifted (os:Os) (started:os.Started) (H:Type) (enc:TypeId × Value→H) (F:Stop.Interp) :
  ReturnsInHanded {} Tryz.checked os 3 .any ((Rows.OpenSpec.upto Rows.showTypesSpec).preRow enc Tryz.prog Tryz.f3 Rows.showTypesUptoRow.domain false Rows.showTypesUptoRow.laid) (((Rows.OpenSpec.upto Rows.showTypesSpec).at F).post enc Tryz.prog Tryz.f3 false true false false):=by
 obtain ⟨places,hx⟩:=reads os enc
 refine returnsInHanded_of_row (C:=Tryz.checked) (s:=(Rows.OpenSpec.upto Rows.showTypesSpec)) own7 started (by kernel_rfl) Tryz.func3
  (witness_row_at (enc:=enc) (C:=Tryz.checked) false (laidWorld7 os) #[.agg #[.int .i64 0,.int .i64 0,.string .empty,.string .empty,.slice none 0 0]] rfl (by kernel_rfl) (by kernel_rfl) (by kernel_rfl)
   (OpenSpec.preRow_of_cond 8 hx (by kernel_rfl) (fun k hk=>by cases hk;kernel_rfl) (by kernel_rfl) (laid_met os))) ?_
 intro W base args ds gs before hval hW _ hcond hsz hL _ _
 exact contract H enc W base args ds gs before hval hW (hcond _ rfl) hL
theorem said:Rows.ShowTypesUptoSaid :=
 OpenClaim.holds_of_cond 3 Tryz.f3 rfl rfl rfl rfl rfl rfl rfl ⟨rfl,rfl,rfl,rfl,rfl⟩ rfl rfl rfl rfl rfl (by kernel_rfl) Tryz.func3 (by kernel_rfl)
  (of_decide_eq_true (by kernel_rfl)) (by unfold Func.isWrapper;first | (rw [if_pos (by decide +kernel)];kernel_rfl) | (rw [if_neg (by decide +kernel)];exact ⟨rfl,rfl⟩))
  (fun os started H enc _ F=>by rw [OpenClaim.pre_eq_preRow];exact lifted os started H enc F)
theorem plain (f:FuncId) (fn:Func) (hf:Tryz.pinned.checked.prog.funcNamed "quoin/quoinlaw07.ShowTypes"=some f) (hfn:Tryz.pinned.checked.prog.funcs[f]?=some fn) :
  true=Tryz.pinned.checked.prog.looks []∧∀ (j:Nat) t,fn.params[j]?=some t→Tryz.pinned.checked.prog.wantsStandIn t=false:=by
 obtain rfl:f=3:=Option.some.inj ((show Tryz.prog.funcNamed "quoin/quoinlaw07.ShowTypes"=some 3 by kernel_rfl).symm.trans hf) |>.symm
 obtain rfl:fn=Tryz.f3:=(Option.some.inj (Tryz.func3.symm.trans hfn)).symm
 refine ⟨by kernel_rfl,fun j t ht=>?_⟩
 rw [Tryz.params3] at ht
 have hm:=Array.mem_of_getElem? ht
 simp only [List.mem_toArray,List.mem_cons,List.not_mem_nil,or_false] at hm
 rcases hm with rfl
 exact (show Tryz.prog.wantsStandIn 24=false by kernel_rfl)
theorem proved:Rows.ShowTypesUptoCardSaid :=
 Claim7.holds_tied_plain_at .later [] _ _ _ _ said (fun _ h=>by cases h) (by kernel_rfl) (fun _ h=>by cases h) showTypesUpto_row_tie rfl ⟨rfl,rfl⟩ (by kernel_rfl) rfl plain (by kernel_rfl)
end Go.Proofs.YtfcgoainglpdlaaGreatDoor.showTypes
