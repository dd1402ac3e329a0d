/- ShowLess answers true: a file's text is never of more tokens than the text that it was read from. No condition. -/
import Derived.Test.YtfcgoainglpdlaaGreatDoorM23
import Derived.Test.YtfcgoainglpdlaaGreatDoorM39
import Derived.Test.YtfcgoainglpdlaaGreatDoorM49
import Derived.Test.YtfcgoainglpdlaaGreatDoorM50
import Derived.ChangeMaps5
set_option maxRecDepth 100000
set_option maxHeartbeats 8000000
namespace Go.Proofs.YtfcgoainglpdlaaGreatDoor.showLess
open Go.ChangeShapes Go.WideShapes Go.ChangeAt Go.RowKit
open Go.ChangeMaps (open_string shut_string)
open Go.Lib hiding intOf
theorem txt_err7 {s:List UInt8} {p q:Int} (h:txtAll s=.err p q):q≠0:=by
 unfold txtAll txt at h
 split at h
 ·exact (fil_bad h).2
 ·next a c hb =>
  injection h with h1 h2
  subst h2
  exact (bad_some hb).1
theorem textErr {s:ByteArray} {p c:Int} (h:txtAll s.data.toList=.err p c) (hs:s.size≤140737488351232) (w:World):Calls Tryz.prog 19 #[.string s] w fun e w'=>e=.returned (.tuple #[.agg #[.string ⟨#[]⟩,.int .i64 0,.slice none 0 0,.slice none 0 0],.agg #[.int .i64 p,.int .i64 c]])∧Below w.heap.size w w':=by
 refine (textF_all s (by omega) w).mono fun e w' ⟨v,he,hr,hb⟩=>?_
 rw [h] at hr
 exact ⟨he.trans (by rw [show v=_ from hr]),hb⟩
theorem textOk {s:ByteArray} {X:FX} {j:Int} (h:txtAll s.data.toList=.ok X j) (hn:numF X=true) (hs:s.size≤140737488351232) (w:World):Calls Tryz.prog 19 #[.string s] w fun e w'=>∃ (nm:ByteArray) (ps:Int) (oi:Option Addr) (ni ci:Nat) (od:Option Addr) (nd cd:Nat),
  e=.returned (.tuple #[.agg #[.string nm,.int .i64 ps,.slice oi ni ci,.slice od nd cd],.agg #[.int .i64 0,.int .i64 0]])∧IsF w' (toGF X) (.agg #[.string nm,.int .i64 ps,.slice oi ni ci,.slice od nd cd])∧Below w.heap.size w w':=by
 refine (textF_all s (by omega) w).mono fun e w' ⟨v,he,hr,hb⟩=>?_
 rw [h] at hr
 obtain ⟨vx,rfl,hx,_⟩:=hr
 have hG:IsF w' (toGF X) vx:=IsFX.toG hn hx
 obtain ⟨oi,ci,od,cd,rfl,_⟩:=hx
 exact ⟨_,_,oi,_,ci,od,_,cd,he,hG,hb⟩
theorem allOk {s:ByteArray} (h:bad (toks s.data.toList) 0=none) (hs:s.size≤140737488351232) (w:World):Calls Tryz.prog 22 #[.string s] w fun e w'=>∃ o cap,e=.returned (.tuple #[.slice o (toks s.data.toList).length cap,.agg #[.int .i64 0,.int .i64 0]])∧AtToks w' o (toks s.data.toList)∧Below w.heap.size w w' :=
 (all_at s _ 0 0 (lexed_good' h) w (by omega)).mono fun e w' ⟨o,cap,he,ht,hb,_⟩=>⟨o,cap,he,ht,hb⟩
theorem walk (s:ByteArray) (w:World) (hT:TabW w) (hs:s.size≤140737488351232) :
  Calls Tryz.prog 8 #[.string s] w fun e w'=>e=.returned (.bool true)∧Below w.heap.size w w':=by
 have HA:=Lib.hid (awake7_any w hT)
 cases h:txtAll s.data.toList with
 |out=>exact (txtAll_some _ h).elim
 |err p c =>
  have hc:c≠0:=txt_err7 h
  have hc1:(c != 0)=true:=by simpa using hc
  have HX:=Lib.hid (textErr h hs)
  clear hs h hT
  go_enter Tryz.func8,Tryz.ntmps8
  go_wp2_with (first
   |(go_at_call 19;refine (HX.out _).mono ?_;rintro e w2 ⟨rfl,hB⟩;have H2:=Lib.hid (H1.out.trans (hB.mono H1.out.size));clear hB)
   |(go_at_call 9;refine HA.out.mono ?_;rintro e w1 ⟨rfl,hB⟩;have H1:=Lib.hid hB;clear hB))
  go_ret
  exact ⟨by rfl,H2.out.trans ((below_two w2 _ _).mono H2.out.size)⟩
 |ok X j =>
  obtain ⟨hb1,_,hn,hlen,_,_,hb2,hle⟩:=file_less h
  have HX:=Lib.hid (textOk h hn hs)
  have HL:=Lib.hid (allOk hb1 hs)
  have HO:Hid (∀ W:World,Calls Tryz.prog 22 #[.string ⟨(filL (toGF X)).toArray⟩] W fun e w'=>∃ o cap,e=.returned (.tuple #[.slice o (toks (filL (toGF X))).length cap,.agg #[.int .i64 0,.int .i64 0]])∧Below W.heap.size W w'):=fun W=>by
   have:=allOk (s:=⟨(filL (toGF X)).toArray⟩) (by rw [List.toList_toArray];exact hb2) (by show (filL (toGF X)).toArray.size≤_;rw [List.size_toArray];omega) W
   rw [List.toList_toArray] at this
   exact this.mono fun e w' ⟨o,cap,he,_,hb⟩=>⟨o,cap,he,hb⟩
  have HS:=Lib.hid (fun (v:Value) (W:World) (hT:TabW W) (hv:IsF W (toGF X) v)=>fileS_any (toGF X) v W hT hv (by omega))
  have hle':(((toks (filL (toGF X))).length:Nat):Int)≤(((toks s.data.toList).length:Nat):Int):=by omega
  have T0:=Lib.hid hT
  clear hs h hT hb1 hb2 hle hlen hn
  generalize (toks (filL (toGF X))).length=k1 at *
  generalize (toks s.data.toList).length=k2 at *
  generalize filL (toGF X)=out at *
  generalize toGF X=G at *
  go_enter Tryz.func8,Tryz.ntmps8
  go_wp2_with fail
  refine HA.out.mono ?_
  rintro e w1 ⟨rfl,hB⟩
  have H1:=Lib.hid hB
  clear hB HA
  go_wp2_with fail
  refine (HX.out _).mono ?_
  rintro e w2 ⟨nm,ps,oi,ni,ci,od,nd,cd,rfl,hF,hB⟩
  have H2:Hid (Below w.heap.size w ((w2.alloc (.cells #[.string nm,.int .i64 ps,.slice oi ni ci,.slice od nd cd] 42)).alloc (.cells #[.int .i64 0,.int .i64 0] 44))):=by
   have h1:=H1.out.trans (hB.mono H1.out.size)
   exact h1.trans ((below_two w2 _ _).mono h1.size)
  have FB2:Hid (Blk ((w2.alloc (.cells #[.string nm,.int .i64 ps,.slice oi ni ci,.slice od nd cd] 42)).alloc (.cells #[.int .i64 0,.int .i64 0] 44)) w2.heap.size 42 #[.string nm,.int .i64 ps,.slice oi ni ci,.slice od nd cd]):=(Blk.new w2 _ _).alloc _
  have HF2:Hid (IsF ((w2.alloc (.cells #[.string nm,.int .i64 ps,.slice oi ni ci,.slice od nd cd] 42)).alloc (.cells #[.int .i64 0,.int .i64 0] 44)) G (.agg #[.string nm,.int .i64 ps,.slice oi ni ci,.slice od nd cd])):=hF.below (below_two w2 _ _)
  clear hB hF HX H1
  go_wp2_with fail
  refine (HL.out _).mono ?_
  rintro e w3 ⟨o,cap,rfl,hZ,hB⟩
  have H3:=Lib.hid (H2.out.trans (hB.mono H2.out.size))
  have FB3:=Lib.hid (FB2.out.below hB)
  have HF3:=Lib.hid (HF2.out.below hB)
  have K3:Hid (Below w3.heap.size w3 (w3.alloc (.cells #[.int .i64 0,.int .i64 0] 44))):=(Below.refl _ _).alloc (Nat.le_refl _) _
  have H3':=Lib.hid (H3.out.trans (K3.out.mono H3.out.size))
  have HF3':=Lib.hid (HF3.out.below K3.out)
  have T3:=Lib.hid (T0.out.below H3'.out)
  have cf:=FB3.out.cell
  have q0:=FB3.out.lt
  clear hB hZ HL H2 FB2 HF2
  go_wp2_with (first
   |(go_at_call 22;refine (HO.out _).mono ?_;rintro e w5 ⟨o5,cap5,rfl,hB⟩;have H5:=Lib.hid (H4.out.trans (hB.mono H4.out.size));clear hB)
   |(go_at_call 20;refine (HS.out _ _ T3.out HF3'.out).mono ?_;rintro e w4 ⟨rfl,hB⟩;have H4:=Lib.hid (H3'.out.trans (hB.mono H3'.out.size));clear hB cf))
  go_ret
  exact ⟨by first | rfl | simp,H5.out.alloc H5.out.size _⟩
theorem contract (H:Type) (enc:TypeId × Value→H) (W:World) (base:Nat) (args:Array Value) (ds gs:List (DataW H)) (before:List MemPlace)
  (hval:∀ (j:Nat) t v,Tryz.f8.params[j]?=some t→args[j]?=some v→Value.okWide Tryz.prog W .any base t v)
  (hW:DataW.Whole enc Tryz.prog Tryz.f8.params.toList Rows.showLessSpec.vars false W args.toList ds gs before) (hreach:∀ n ∈ DataW.weightsEach Tryz.prog Tryz.f8.params.toList (ds++gs),n≤reachBytes) (hL:laidMetH Tryz.prog Rows.showLessRow.laid W) :
  Calls Tryz.prog 8 args W fun e W'=>∃ v,e=.returned v∧Rows.showLessSpec.post enc Tryz.prog Tryz.f8 false true false false W args v W':=by
 have hT:TabW W:=table7 hL
 have hW':=hW
 obtain ⟨p,q,hA0,hV,rfl,hfz,hnd⟩:=hW
 have hA:DataW.TrodAll enc Tryz.prog W 0 (fun _=>true) true Tryz.f8.params.toList args.toList ds p:=hA0
 rw [Tryz.params8] at hA hval
 obtain ⟨v0,vs0,d0,ds0,p0,q0',hargs,rfl,rfl,h0,r0⟩:=trodAll_cons hA
 obtain ⟨rfl,rfl,rfl⟩:=trodAll_nil r0
 obtain rfl:args=#[v0]:=by cases args;simp_all
 obtain ⟨rfl,rfl⟩:=trodVars_none hV
 obtain ⟨a0,rfl,rfl,rfl,w0⟩:=open_string Tryz.underlying9 (hval 0 9 v0 rfl rfl) h0
 have f0:a0.size≤140737488351232:=by
  have h:=hreach a0.data.toList.length (by simp [DataW.weightsEach,DataW.weights])
  have e:a0.data.toList.length=a0.size:=by rw [Array.length_toList];rfl
  have hr:reachBytes=140737488351232:=by decide
  omega
 clear hA0
 simp only [List.append_nil] at hW'
 refine (walk a0 W hT f0).mono fun e W' ⟨he,hg⟩=>?_
 subst he
 exact ⟨_,rfl,_,_,_,[],_,[],hW',(trodAll_cons_mk (shut_bool Tryz.underlying4 _) trodAll_mk0),(trodAll_cons_mk (shut_string Tryz.underlying9 w0) trodAll_mk0),rfl,hg.frame _,fun h=>by cases h⟩
theorem laid_met (os:Os):laidMet Tryz.prog laid7 ((laidWorld7 os).forCall (fun _ _=>0) ⟨#[],#[.string .empty],[]⟩).memory :=
 laidMet_of_run' 8 (by kernel_rfl) (by kernel_rfl)
theorem reads (os:Os) {H:Type} (enc:TypeId × Value→H):∃ places,DataW.whole enc Tryz.prog ((laidWorld7 os).forCall (fun _ _=>0) ⟨#[],#[.string .empty],[]⟩).memory Tryz.f8.params.toList Rows.showLessSpec.vars false (#[.string .empty]:Array Value).toList 8=some ([.lit (.string [])],[],places) :=
 ⟨[],by kernel_rfl⟩
theorem lifted (os:Os) (started:os.Started) (H:Type) (enc:TypeId × Value→H) (F:Stop.Interp) :
  ReturnsInHanded {} Tryz.checked os 8 .any ((OpenSpec.ofChange Rows.showLessSpec).preRow enc Tryz.prog Tryz.f8 Rows.showLessRow.domain false Rows.showLessRow.laid) (((OpenSpec.ofChange Rows.showLessSpec).at F).post enc Tryz.prog Tryz.f8 false true false false):=by
 obtain ⟨places,hx⟩:=reads os enc
 refine returnsInHanded_of_row (C:=Tryz.checked) (s:=(OpenSpec.ofChange Rows.showLessSpec)) own7 started (by kernel_rfl) Tryz.func8
  (witness_row_at (enc:=enc) (C:=Tryz.checked) false (laidWorld7 os) #[.string .empty] rfl (by kernel_rfl) (by kernel_rfl) (by kernel_rfl)
   (OpenSpec.preRow_of_cond 8 hx (by kernel_rfl) (fun k hk=>by cases hk) (by kernel_rfl) (laid_met os))) ?_
 intro W base args ds gs before hval hW _ hcond hsz hL _ _
 exact contract H enc W base args ds gs before hval hW (fun n hn=>of_decide_eq_true (List.all_eq_true.1 hsz n hn)) hL
theorem said:Rows.ShowLessSaid :=
 OpenClaim.holds_of_cond 8 Tryz.f8 rfl rfl rfl rfl rfl rfl rfl ⟨rfl,rfl,rfl,rfl,rfl⟩ rfl rfl rfl rfl rfl (by kernel_rfl) Tryz.func8 (by kernel_rfl)
  (of_decide_eq_true (by kernel_rfl)) (by unfold Func.isWrapper;first | (rw [if_pos (by decide +kernel)];kernel_rfl) | (rw [if_neg (by decide +kernel)];exact ⟨rfl,rfl⟩))
  (fun os started H enc _ F=>by rw [OpenClaim.pre_eq_preRow];exact lifted os started H enc F)
theorem plain (f:FuncId) (fn:Func) (hf:Tryz.pinned.checked.prog.funcNamed "quoin/quoinlaw07.ShowLess"=some f) (hfn:Tryz.pinned.checked.prog.funcs[f]?=some fn) :
  true=Tryz.pinned.checked.prog.looks []∧∀ (j:Nat) t,fn.params[j]?=some t→Tryz.pinned.checked.prog.wantsStandIn t=false:=by
 obtain rfl:f=8:=Option.some.inj ((show Tryz.prog.funcNamed "quoin/quoinlaw07.ShowLess"=some 8 by kernel_rfl).symm.trans hf) |>.symm
 obtain rfl:fn=Tryz.f8:=(Option.some.inj (Tryz.func8.symm.trans hfn)).symm
 refine ⟨by kernel_rfl,fun j t ht=>?_⟩
 rw [Tryz.params8] at ht
 have hm:=Array.mem_of_getElem? ht
 simp only [List.mem_toArray,List.mem_cons,List.not_mem_nil,or_false] at hm
 rcases hm with rfl
 exact (show Tryz.prog.wantsStandIn 9=false by kernel_rfl)
theorem proved:Rows.ShowLessCardSaid :=
 Claim7.holds_tied_plain_at .later [] _ _ _ _ said (fun _ h=>by cases h) (by kernel_rfl) (fun _ h=>by cases h) showLess_row_tie rfl ⟨rfl,rfl⟩ (by kernel_rfl) rfl plain (by kernel_rfl)
end Go.Proofs.YtfcgoainglpdlaaGreatDoor.showLess
