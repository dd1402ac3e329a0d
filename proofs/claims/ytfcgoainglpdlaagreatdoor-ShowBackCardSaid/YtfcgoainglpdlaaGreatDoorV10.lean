/- The walk of 'All': what it answers for every text. Condition: none beside the text's length. -/
import Derived.Test.YtfcgoainglpdlaaGreatDoorV09
import Derived.Test.YtfcgoainglpdlaaGreatDoorV04
import Derived.WalkMore
set_option maxRecDepth 100000
set_option maxHeartbeats 4000000
namespace Go.Proofs.YtfcgoainglpdlaaGreatDoor
open Go.RowKit Go.Shelf
open Go.Lib hiding intOf
attribute [local go_sem] Oper.semAt_some
theorem Tryz.info81:(Tryz.prog.info? 81).map (fun i=>(i.zero,i.size,i.bytes))=some (some (.agg #[.int .i64 0,.int .i64 0,.int .i64 0,.string ⟨#[]⟩]),4,40):=by kernel_rfl
theorem clone_any (s:ByteArray) (w:World) (hs:s.size≤281474976710656) :
  Calls Tryz.prog 41 #[.string s] w fun e w'=>e=.returned (.string s)∧Below w.heap.size w w':=by
 have hC:=Tryz.stringslite_Clone s w hs
 go_enter Tryz.func41,Tryz.ntmps41
 go_wp2_with (go_at_call 66;refine hC.mono ?_;rintro e w' ⟨rfl,hB⟩)
 go_ret
 exact ⟨rfl,hB⟩
def IsToks (w:World) (v:Value) (ts:List Tok):Prop :=
 ∃ o cap,v=.slice o ts.length cap∧ts.length≤cap∧∀ j u,(toksC ts)[j]?=some u→∃ g,o=some ⟨g,0,none⟩∧w.cell? ⟨g,j,none⟩=some u
def AllPost (w w':World) (l:List UInt8) (e:Ending):Prop :=
 ∃ v,e=.returned (.tuple #[v,.agg #[.int .i64 ((lexed l).2.1:Nat),.int .i64 (lexed l).2.2]])∧IsToks w' v (lexed l).1∧Below w.heap.size w w'
def zeroD:Array Value:=#[.int .i64 0,.int .i64 0]
def InvA (w:World) (l:List UInt8) (pre:List (PTok l)) (W:World):Prop :=
 (∃ v,Boxed W (w.heap.size + 1) 49 v∧W.ownsRow w.heap.size 81 4 v pre.length (toksC (pre.map (·.1)))∧(v=.slice none 0 0 ↔ pre=[])) ∧
  (Blk W w.heap.size 44 zeroD∧Blk W (w.heap.size + 1 + 1) 44 zeroD)∧Below w.heap.size w W∧bad (pre.map (·.1)) 0=none
def InvX (w:World) (l:List UInt8) (id:Nat) (c:Code) (pre:List (PTok l)) (W:World):Prop :=
 c=.exit id∧∃ (pre':List (PTok l)) (x:PTok l),pre=pre'++[x]∧bad (pre'.map (·.1)) 0=none∧flt x.1.kind x.1.text pre'.length≠0 ∧
  Boxed W (w.heap.size + 1) 49 (.slice none 0 0)∧(Blk W w.heap.size 44 zeroD∧Blk W (w.heap.size + 1 + 1) 44 #[.int .i64 (x.1.pos:Nat),.int .i64 (flt x.1.kind x.1.text pre'.length)])∧Below w.heap.size w W
theorem blk_own {β:Type} (B:Nat) (t:TypeId) (f:β→Array Value):Own (fun s W=>Blk W B t (f s)):=fun s X Y row hs hg hrow =>
 hs.kept hg (fun e'=>by obtain ⟨o,ho,hc⟩:=hrow B e'.symm;unfold Blk at hs;rw [hs] at ho;cases ho;cases hc)
theorem invA_own (w:World) (l:List UInt8) (B:Nat) (hB:w.heap.size≤B):OwnFrom B (InvA w l):=by
 have h1:=Own.from (holdsRow_own w.heap.size (w.heap.size + 1) 49 81 4 (fun pre:List (PTok l)=>pre.length) (fun pre=>toksC (pre.map (·.1))) (fun pre v=>v=.slice none 0 0 ↔ pre=[])) B
 have h2:=OwnFrom.and (Own.from (blk_own (β:=List (PTok l)) w.heap.size 44 (fun _=>zeroD)) B) (Own.from (blk_own (β:=List (PTok l)) (w.heap.size + 1 + 1) 44 (fun _=>zeroD)) B)
 exact OwnFrom.and h1 (OwnFrom.and h2 (OwnFrom.and (ownFrom_below (Nat.le_refl _) hB) (ownFrom_pure B _)))
theorem invX_own (w:World) (l:List UInt8) (id:Nat) (c:Code) (B:Nat) (hB:w.heap.size≤B):OwnFrom B (InvX w l id c):=by
 rintro s X Y row ⟨hc,pre',x,h1,h2,h3,h4,⟨h5,h6⟩,h7⟩ hg hr
 have hr':∀ r,row=some r→∃ o:Obj,X.heap[r]?=some o∧o.isCells=false:=fun r e=>(hr r e).2
 exact ⟨hc,pre',x,h1,h2,h3,boxed_own (w.heap.size + 1) 49 (fun (_:Unit)=>Value.slice none 0 0) () X Y row h4 hg hr',⟨blk_own w.heap.size 44 (fun (_:Unit)=>zeroD) () X Y row h5 hg hr',blk_own (w.heap.size + 1 + 1) 44 (fun (_:Unit)=>#[.int .i64 (x.1.pos:Nat),.int .i64 (flt x.1.kind x.1.text pre'.length)]) () X Y row h6 hg hr'⟩,
  ownFrom_below (β:=Unit) (Nat.le_refl _) hB () X Y row h7 hg hr⟩
theorem InvA.step {w W W1:World} {l:List UInt8} {pre:List (PTok l)} (h:InvA w l pre W) (hb:Below W.heap.size W W1):InvA w l pre W1:=by
 obtain ⟨⟨v,hv,hrow,hnil⟩,⟨hb1,hb2⟩,hB,hbad⟩:=h
 have g:=grown_of_below hb
 exact ⟨⟨v,hv.kept g (by simp),hrow.kept g (by cases v.ownBlock <;> simp),hnil⟩,⟨hb1.kept g (by simp),hb2.kept g (by simp)⟩,hB.trans (hb.mono hB.size),hbad⟩
theorem news_tok {w:World} (x:Tok):∀ j u,(tokC x)[j]?=some u→(w.alloc (.cells #[.int .i64 x.kind,.int .i64 (x.pos:Nat),.int .i64 (x.stop:Nat),.string ⟨x.text.toArray⟩] 81)).cell? ((⟨w.heap.size,0,none⟩:Addr).add j)=some u:=by
 intro j u hu
 have ha:(⟨w.heap.size,0,none⟩:Addr).add j=⟨w.heap.size,j,none⟩:=by unfold Addr.add;split <;> simp_all
 rw [ha,(Blk.new w 81 _).cell j,← hu]
 unfold tokC
 simp
theorem appended {w W w3:World} {l:List UInt8} {pre:List (PTok l)} {x:PTok l} {v v':Value} {tmp:Obj} (hv:Boxed W (w.heap.size + 1) 49 v) (hrow:W.ownsRow w.heap.size 81 4 v pre.length (toksC (pre.map (·.1)))) (hnil:v=.slice none 0 0 ↔ pre=[])
  (hb1:Blk W w.heap.size 44 zeroD) (hb2:Blk W (w.heap.size + 1 + 1) 44 zeroD) (hB:Below w.heap.size w W) (hbad:bad (pre.map (·.1)) 0=none) (hz:flt x.1.kind x.1.text pre.length=0)
  (hown':w3.ownsRow w.heap.size 81 4 v' (pre.length + 1) (toksC (pre.map (·.1))++tokC x.1))
  (hmv:(W.alloc tmp).grownBy w3 none∨∃ g cap cur,v=.slice (some ⟨g,0,none⟩) pre.length cap∧(W.alloc tmp).grownBy w3 (some g)∧Blk (W.alloc tmp) g 81 cur∧cur.size=cap * 4∧pre.length + 1≤cap) :
  Boxed w3 (w.heap.size + 1) 49 v∧KeepsOthers W (w3.setCell ⟨w.heap.size + 1,0,none⟩ v')∧KeepR W (w3.setCell ⟨w.heap.size + 1,0,none⟩ v')∧InvA w l (pre++[x]) (w3.setCell ⟨w.heap.size + 1,0,none⟩ v'):=by
 have hgrow:(W.alloc tmp).grownBy w3 v.ownBlock:=by
  rcases hmv with hg | ⟨g,cap,cur,rfl,hg,_⟩
  ·exact ⟨hg.os,hg.tape,hg.output,hg.size,fun k hk _=>hg.block k hk (by simp)⟩
  ·exact hg
 obtain ⟨r1,r2,r3,r4,r5⟩:=hv.appended (by decide) hrow hB.size (Nat.le_succ _) hown' hgrow
 have far:∀ k cs,k≠w.heap.size + 1→Blk W k 44 cs→Blk (w3.setCell ⟨w.heap.size + 1,0,none⟩ v') k 44 cs:=fun k cs hk hb=>by
  refine Blk.far ?_ hk v'
  have hb':=hb.kept (World.grownBy_alloc W tmp none) (by simp)
  rcases hmv with hg | ⟨g,cap,cur,_,hg,hc,_⟩
  ·exact hb'.kept hg (by simp)
  ·exact hb'.kept hg (fun e=>by cases e;exact Blk.ne_ hb' hc (by decide) rfl)
 refine ⟨r1,r4,?_,⟨v',r2,?_,?_⟩,⟨far _ _ (by omega) hb1,far _ _ (by omega) hb2⟩,hB.trans r5,?_⟩
 ·refine (KeepR.alloc W tmp).trans (KeepR.trans (B:=w3) ?_ (KeepR.of_grown (grownBy_setCell' w3 _ v') (fun k e=>⟨_,49,by cases e;exact r1,.inl (by decide),by decide⟩)))
  rcases hmv with hg | ⟨g,cap,cur,hve,hg,hc,hcs,hcap⟩
  ·exact KeepR.of_grown hg (fun k e=>by cases e)
  ·refine KeepR.of_grown hg (fun k e=>?_)
   cases e
   refine ⟨cur,81,hc,.inr ?_,by decide⟩
   have hp:pre≠[]:=fun hp=>by have:=hnil.2 hp;rw [hve] at this;cases this
   have:=List.length_pos_iff.2 hp
   omega
 ·rw [List.map_append,List.length_append]
  simpa [toksC_snoc] using r3
 ·constructor
  ·intro e
   obtain ⟨g,cap,hv'⟩:=ownsRow_succ hown'
   rw [hv'] at e;cases e
  ·intro e;simp at e
 ·rw [List.map_append,bad_append _ _ _ hbad]
  simp [bad,hz]
theorem stopped {w w1:World} {l:List UInt8} {pre:List (PTok l)} {x:PTok l} {v:Value} {c:Int} (V:Boxed w1 (w.heap.size + 1) 49 v) (B1:Blk w1 w.heap.size 44 zeroD) (B2:Blk w1 (w.heap.size + 1 + 1) 44 zeroD)
  (HB:Below w.heap.size w w1) (D:bad (pre.map (·.1)) 0=none) (hc:flt x.1.kind x.1.text pre.length=c) (hne:c≠0) :
  KeepsOthers w1 ((((w1.setCell ⟨w.heap.size + 1,0,none⟩ (.slice none 0 0)).setCell ⟨w.heap.size + 1 + 1,0,none⟩ (.int .i64 (x.1.pos:Nat))).setCell ⟨w.heap.size + 1 + 1,1,none⟩ (.int .i64 c)).drew) ∧
  InvX w l 0 (.exit 0) (pre++[x]) ((((w1.setCell ⟨w.heap.size + 1,0,none⟩ (.slice none 0 0)).setCell ⟨w.heap.size + 1 + 1,0,none⟩ (.int .i64 (x.1.pos:Nat))).setCell ⟨w.heap.size + 1 + 1,1,none⟩ (.int .i64 c)).drew):=by
 refine ⟨(((KeepsOthers.setCell _ _ _).trans (KeepsOthers.setCell _ _ _)).trans (KeepsOthers.setCell _ _ _)).trans (KeepsOthers.drew _),rfl,pre,x,rfl,D,by rw [hc];exact hne,?_,⟨?_,?_⟩,?_⟩
 ·exact ((V.set (.slice none 0 0)).other (by omega) _).kept (row:=some (w.heap.size + 1 + 1)) (⟨rfl,rfl,rfl,(KeepsWalks.setCell _ _ _).size,fun k _ hk=>Below.heap_setCell _ _ _ k (fun e=>hk (by rw [e]))⟩) (by simp)
 ·exact ((B1.far (p:=⟨w.heap.size + 1,0,none⟩) (by simp) _).far (p:=⟨w.heap.size + 1 + 1,0,none⟩) (by simp only;omega) _).far (p:=⟨w.heap.size + 1 + 1,1,none⟩) (by simp only;omega) _
 ·rw [hc]
  exact ((B2.far (p:=⟨w.heap.size + 1,0,none⟩) (by simp) (.slice none 0 0)).set_ 0 (.int .i64 (x.1.pos:Nat))).set_ 1 (.int .i64 c)
 ·exact (((HB.setCell (p:=⟨w.heap.size + 1,0,none⟩) (by simp) _).setCell (p:=⟨w.heap.size + 1 + 1,0,none⟩) (by simp only;omega) _).setCell (p:=⟨w.heap.size + 1 + 1,1,none⟩) (by simp only;omega) _).drew
theorem lexed_good {l:List UInt8} (h:bad (toks l) 0=none):lexed l=(toks l,0,0):=by unfold lexed;rw [h]
theorem lexed_bad {l:List UInt8} {a:Nat} {c:Int} (h:bad (toks l) 0=some (a,c)):lexed l=([],a,c):=by unfold lexed;rw [h]
theorem isToks_of_own {W:World} {base:Nat} {v:Value} {ts:List Tok} (R:W.ownsRow base 81 4 v ts.length (toksC ts)):IsToks W v ts:=by
 have hc:=fun g=>R.cells (g:=g)
 rcases R.2 with ⟨rfl,h0⟩ | ⟨g,cap,cur,rfl,_,_,hle,_⟩
 ·have:ts=[]:=List.eq_nil_of_length_eq_zero h0
  subst this
  exact ⟨none,0,rfl,Nat.le_refl _,fun j u hu=>by simp [toksC] at hu⟩
 ·refine ⟨some ⟨g,0,none⟩,cap,rfl,hle,fun j u hu=>⟨g,rfl,?_⟩⟩
  have ha:(⟨g,0,none⟩:Addr).add j=⟨g,j,none⟩:=by unfold Addr.add;split <;> simp_all
  have:=hc g rfl j u hu
  rwa [ha] at this
theorem grownBy_set (W:World) (b i:Nat) (v:Value):W.grownBy (W.setCell ⟨b,i,none⟩ v) (some b) :=
 ⟨rfl,rfl,rfl,(KeepsWalks.setCell W _ v).size,fun k _ hk=>Below.heap_setCell _ _ _ k (fun e=>hk (by rw [e]))⟩
theorem finish {w W:World} {D:Nat} {p c:Int} {v:Value} {ts:List Tok} (hD:w.heap.size≤D) (hK:W.heap[D]?=some (.deferred (some []))) (hb:Blk W w.heap.size 44 zeroD) (hB:Below w.heap.size w W) (hT:W.ownsRow w.heap.size 81 4 v ts.length (toksC ts)) :
  ∃ X Y:World,(((W.setCell ⟨w.heap.size,0,none⟩ (.int .i64 p)).setCell ⟨w.heap.size,1,none⟩ (.int .i64 c)).drew)=X∧X.heap[D]?=some (.deferred (some []))∧X.putObj D (.deferred none)=Y ∧
   Y.cell? ⟨w.heap.size,0,none⟩=some (.int .i64 p)∧Y.cell? ⟨w.heap.size,1,none⟩=some (.int .i64 c)∧IsToks Y v ts∧Below w.heap.size w Y:=by
 have hXD:(((W.setCell ⟨w.heap.size,0,none⟩ (.int .i64 p)).setCell ⟨w.heap.size,1,none⟩ (.int .i64 c)).drew).heap[D]?=some (.deferred (some [])) :=
  (((KeepsOthers.setCell _ _ _).trans (KeepsOthers.setCell _ _ _)).trans (KeepsOthers.drew _)).same D _ hK rfl
 have hbX:Blk (((W.setCell ⟨w.heap.size,0,none⟩ (.int .i64 p)).setCell ⟨w.heap.size,1,none⟩ (.int .i64 c)).drew) w.heap.size 44 #[.int .i64 p,.int .i64 c]:=(hb.set_ 0 (.int .i64 p)).set_ 1 (.int .i64 c)
 have hne:w.heap.size≠D:=fun e=>by unfold Blk at hb;rw [e,hK] at hb;cases hb
 have hbY:=hbX.kept (grownBy_putObj' _ D (.deferred none)) (by simpa using hne)
 refine ⟨_,_,rfl,hXD,rfl,hbY.cell 0,hbY.cell 1,?_,?_⟩
 ·have h1:W.grownBy (((W.setCell ⟨w.heap.size,0,none⟩ (.int .i64 p)).setCell ⟨w.heap.size,1,none⟩ (.int .i64 c)).drew) (some w.heap.size) :=
   ((grownBy_set W _ 0 _).trans (grownBy_set _ _ 1 _)).trans ⟨rfl,rfl,rfl,Nat.le_refl _,fun _ _ _=>rfl⟩
  have h2:v.ownBlock=none∨v.ownBlock≠some w.heap.size:=by
   rcases hT.2 with ⟨rfl,_⟩ | ⟨g,cap,cur,rfl,_,hg,_⟩
   ·exact .inl rfl
   ·refine .inr fun e=>?_
    have e:g=w.heap.size:=by simpa [Value.ownBlock] using e
    subst e
    unfold Blk at hb;rw [hg] at hb;cases hb
  exact isToks_of_own (ownsRow_putObj (hT.kept h1 h2) _ hXD rfl)
 ·exact (((hB.setCell (p:=⟨w.heap.size,0,none⟩) (Nat.le_refl _) _).setCell (p:=⟨w.heap.size,1,none⟩) (Nat.le_refl _) _).drew).trans (belowK_b (w:=w) (Nat.le_refl _) _ D _ _ hD hXD rfl rfl)
theorem wpIn_scope_wide {n:Nat} {P:Program} {c:Code} {Q:Exit→Act→World→Prop} {a:Act} {w:World} (h:c.wpIn Fence.wide n P (Exit.noGoto Q) a w):(Code.scope c).wpIn Fence.wide n P Q a w :=
 wpIn_wide.2 (wp_scope_straight (wpIn_wide.1 h))
theorem all_any (s:ByteArray) (w:World) (hs:s.size≤9223372036854775807):Calls Tryz.prog 22 #[.string s] w fun e w'=>AllPost w w' s.data.toList e:=by
 refine (callsIn_wide (n:=6)).1 ?_
 refine callsIn_of_wp_marks Tryz.func22 rfl trivial ?_ rfl
 simp only [Tryz.ntmps22,List.size_toArray,List.length_cons,List.length_nil,Nat.reduceAdd,Nat.reduceSub,Array.replicate_succ,Array.replicate_zero,List.push_toArray,List.append_toArray,List.nil_append,List.cons_append]
 gi_wp2_with fail
 refine wpIn_scope_wide ?_
 gi_wp2_with fail
 refine wpIn_label ?_
 gi_wp2_with fail
 refine ⟨trivial,?_⟩
 refine (callsIn_wide.2 (pieces_any s _)).mono ?_
 rintro e w1 ⟨rfl,rfl⟩
 gi_wp2
 obtain ⟨i0,hi,hz0,hz1,hz2⟩:=info_parts Tryz.info81
 have hB0:Below w.heap.size w ((((w.alloc (.cells zeroD 44)).alloc (.cells #[.slice none 0 0] 49)).alloc (.cells zeroD 44)).alloc (.cells #[.string s] 9)) :=
  ((((Below.refl _ w).alloc (Nat.le_refl _) _).alloc (by simp) _).alloc (by simp;omega) _).alloc (by simp;omega) _
 have hsz:((((w.alloc (.cells zeroD 44)).alloc (.cells #[.slice none 0 0] 49)).alloc (.cells zeroD 44)).alloc (.cells #[.string s] 9)).heap.size=w.heap.size + 4:=by simp
 have b0:Blk ((((w.alloc (.cells zeroD 44)).alloc (.cells #[.slice none 0 0] 49)).alloc (.cells zeroD 44)).alloc (.cells #[.string s] 9)) w.heap.size 44 zeroD :=
  (((Blk.new w 44 zeroD).kept (World.grownBy_alloc _ _ none) (by simp)).kept (World.grownBy_alloc _ _ none) (by simp)).kept (World.grownBy_alloc _ _ none) (by simp)
 have b1:Boxed ((((w.alloc (.cells zeroD 44)).alloc (.cells #[.slice none 0 0] 49)).alloc (.cells zeroD 44)).alloc (.cells #[.string s] 9)) (w.heap.size + 1) 49 (.slice none 0 0):=by
  have h:=((Boxed.new (w.alloc (.cells zeroD 44)) 49 (.slice none 0 0)).alloc (.cells zeroD 44)).alloc (.cells #[.string s] 9)
  rwa [World.size_alloc] at h
 have b2:Blk ((((w.alloc (.cells zeroD 44)).alloc (.cells #[.slice none 0 0] 49)).alloc (.cells zeroD 44)).alloc (.cells #[.string s] 9)) (w.heap.size + 1 + 1) 44 zeroD:=by
  have h:=(Blk.new ((w.alloc (.cells zeroD 44)).alloc (.cells #[.slice none 0 0] 49)) 44 zeroD).kept (World.grownBy_alloc _ (.cells #[.string s] 9) none) (by simp)
  rwa [World.size_alloc,World.size_alloc] at h
 have b3:Blk ((((w.alloc (.cells zeroD 44)).alloc (.cells #[.slice none 0 0] 49)).alloc (.cells zeroD 44)).alloc (.cells #[.string s] 9)) (w.heap.size + 1 + 1 + 1) 9 #[.string s]:=by
  have h:=Blk.new (((w.alloc (.cells zeroD 44)).alloc (.cells #[.slice none 0 0] 49)).alloc (.cells zeroD 44)) 9 #[.string s]
  rwa [World.size_alloc,World.size_alloc,World.size_alloc] at h
 obtain ⟨W0,hW0⟩:∃ W0,((((w.alloc (.cells zeroD 44)).alloc (.cells #[.slice none 0 0] 49)).alloc (.cells zeroD 44)).alloc (.cells #[.string s] 9))=W0:=⟨_,rfl⟩
 change Code.wpIn Fence.wide 6 Tryz.prog _ _ _ ((((w.alloc (.cells zeroD 44)).alloc (.cells #[.slice none 0 0] 49)).alloc (.cells zeroD 44)).alloc (.cells #[.string s] 9))
 rw [hW0] at hB0 hsz b0 b1 b2 b3 ⊢
 clear hW0
 refine range_told hs b3 rfl rfl
  (InvA w s.data.toList) (InvX w s.data.toList 0) (invA_own w _ _ (by omega)) (fun c=>invX_own w _ _ c _ (by omega))
  ⟨⟨_,b1,World.ownsRow_nil _ _ _ _,by simp⟩,⟨b0,b2⟩,hB0,rfl⟩
  (fun x a' W=>∃ Bx,w.heap.size + 3≤Bx∧Blk W Bx 81 #[.int .i64 x.1.kind,.int .i64 (x.1.pos:Nat),.int .i64 (x.1.stop:Nat),.string ⟨x.1.text.toArray⟩]∧a'={ tmps:=#[.string s,undef,.slice none 0 0,.pointer (some ⟨w.heap.size,0,none⟩),.pointer (some ⟨w.heap.size + 1,0,none⟩),.pointer (some ⟨w.heap.size + 1 + 1,0,none⟩),.pointer (some ⟨Bx,0,none⟩),undef,.string s,.func (.func 60) #[] #[.pointer (some ⟨w.heap.size + 1 + 1 + 1,0,none⟩)],tokV x.1,undef,undef,undef,undef,undef,undef,undef,undef,undef,undef,undef,undef,undef,undef,undef,undef,undef,undef,undef,undef,undef],defers:=[] })
  (fun x a' _ X Y row hs hg hr=>by obtain ⟨Bx,h1,h2,h3⟩:=hs;exact ⟨Bx,h1,blk_own Bx 81 (fun (_:Unit)=>#[.int .i64 x.1.kind,.int .i64 (x.1.pos:Nat),.int .i64 (x.1.stop:Nat),.string ⟨x.1.text.toArray⟩]) () X Y row h2 hg (fun r e=>(hr r e).2),h3⟩)
  ?assign ?body ?done ?stop
 case assign =>
  rintro l pre x W K hinv hK
  obtain ⟨⟨v,hv,hrow,hnil⟩,⟨hb1,hb2⟩,hB,hbad⟩:=hinv
  have hBs:=hB.size
  have HK:=Lib.hid (hK _ _ ((KeepsOthers.alloc _ _).from _) (KeepR.alloc _ _)
   ⟨⟨v,hv.alloc _,hrow.alloc _,hnil⟩,⟨hb1.kept (World.grownBy_alloc _ _ none) (by simp),hb2.kept (World.grownBy_alloc _ _ none) (by simp)⟩,hB.alloc hBs _,hbad⟩
   ⟨W.heap.size,by have:=hb2.lt;omega,Blk.new W 81 _,rfl⟩)
  clear hK hv hrow hnil hb1 hb2 hB hbad
  unfold encT tokV
  gi_wp2
  exact HK.out
 case body =>
  rintro l pre x a' W ⟨⟨v,hv,hrow,hnil⟩,⟨hb1,hb2⟩,hB,hbad⟩ ⟨Bx,hBx,bX,rfl⟩ hpre
  have hpl:pre.length≤4000:=by
   rw [List.map_append] at hpre
   simpa using pre_count hpre hbad
  clear hpre
  clear b0 b1 b2 b3 hB0
  obtain ⟨o,cap,rfl⟩:∃ o cap,v=.slice o pre.length cap:=by
   rcases hrow.2 with ⟨h,h0⟩ | ⟨g,cap,cur,h,_⟩
   ·exact ⟨none,0,by rw [h,h0]⟩
   ·exact ⟨_,cap,h⟩
  have hok:=toks_ok s.data.toList x.1 x.2
  rw [size_toList] at hok
  obtain ⟨_,_,hok3,hok4,hok5,hok6⟩:=hok
  have HF:=Lib.hid (fun w=>fault_any x.1.kind (x.1.pos:Nat) (x.1.stop:Nat) ⟨x.1.text.toArray⟩ pre.length w hok4 hok5 (fun h=>by have:=List.length_pos_iff.2 (hok6 h);simpa [ByteArray.size] using this) (by simp only [ByteArray.size,List.size_toArray];omega))
  have c0:W.cell? ⟨Bx,0,none⟩=some (.int .i64 x.1.kind):=bX.cell 0
  have c1:W.cell? ⟨Bx,1,none⟩=some (.int .i64 (x.1.pos:Nat)):=bX.cell 1
  have c2:W.cell? ⟨Bx,2,none⟩=some (.int .i64 (x.1.stop:Nat)):=bX.cell 2
  have c3:W.cell? ⟨Bx,3,none⟩=some (.string ⟨x.1.text.toArray⟩):=bX.cell 3
  have ct:=hv.cell
  have hBs:=hB.size
  dsimp only at HF
  have HI:=Lib.hid (show InvA w s.data.toList pre W from ⟨⟨_,hv,hrow,hnil⟩,⟨hb1,hb2⟩,hB,hbad⟩)
  have HX:=Lib.hid bX
  clear hv hrow hnil hb1 hb2 hB hbad bX hok3 hok4 hok5 hok6
  by_cases hz:flt x.1.kind x.1.text pre.length=0
  ·have hsh:=toks_short _ x.1 x.2 _ hz
   have HCl:=Lib.hid (fun w=>clone_any ⟨x.1.text.toArray⟩ w (by simp only [ByteArray.size,List.size_toArray];omega))
   rw [hz] at HF
   clear hsh
   have HZ:=Lib.hid hz
   clear hz
   gi_wp2_with fail
   refine ⟨trivial,?_⟩
   refine (CallsIn.inRound l (callsIn_wide.2 (HF.out _))).mono ?_
   rintro e w1 ⟨rfl,hB1⟩
   have bX1:=HX.out.kept (grown_of_below hB1) (by simp)
   have c31:w1.cell? ⟨Bx,3,none⟩=some (.string ⟨x.1.text.toArray⟩):=bX1.cell 3
   have I1:=Lib.hid (HI.out.step hB1)
   have HX1:=Lib.hid bX1
   have K1:=Lib.hid (KeepR.of_below hB1)
   have O1:=Lib.hid (KeepsOthers.of_grownBy (grown_of_below hB1) (fun j o e=>by cases e))
   clear hB1 bX1 c0 c1 c2 c3 ct
   gi_wp2_with fail
   refine ⟨trivial,?_⟩
   refine (CallsIn.inRound l (callsIn_wide.2 (HCl.out _))).mono ?_
   rintro e w2 ⟨rfl,hB2⟩
   have bX2:=HX1.out.kept (grown_of_below hB2) (by simp)
   have hset:w2.setCell ⟨Bx,3,none⟩ (.string ⟨x.1.text.toArray⟩)=w2:=setCell_same bX2 rfl
   have hfr:w2.frozen? ⟨Bx,3,none⟩=false:=bX2.frozen 3
   have c0:w2.cell? ⟨Bx,0,none⟩=some (.int .i64 x.1.kind):=bX2.cell 0
   have c1:w2.cell? ⟨Bx,1,none⟩=some (.int .i64 (x.1.pos:Nat)):=bX2.cell 1
   have c2:w2.cell? ⟨Bx,2,none⟩=some (.int .i64 (x.1.stop:Nat)):=bX2.cell 2
   have c3:w2.cell? ⟨Bx,3,none⟩=some (.string ⟨x.1.text.toArray⟩):=bX2.cell 3
   have I2:=I1.out.step hB2
   have K2:=Lib.hid (K1.out.trans (KeepR.of_below hB2))
   have O2:=Lib.hid (O1.out.trans (KeepsOthers.of_grownBy (grown_of_below hB2) (fun j o e=>by cases e)))
   clear K1 O1 I1 HX1 bX2 hB2 HI HX c31
   obtain ⟨⟨v,hv,hrow,hnil⟩,⟨hb1,hb2⟩,hB,hbad⟩:=I2
   have ct:=hv.cell
   have hBs2:=hB.size
   have V:=Lib.hid hv
   have N:=Lib.hid hnil
   have B1:=Lib.hid hb1
   have B2:=Lib.hid hb2
   have HB:=Lib.hid hB
   have D:=Lib.hid hbad
   clear hv hnil hb1 hb2 hB hbad
   gi_wp2_with (gi_at_builtin;refine wpListIn_append_moves _ rfl _ _ 49 rfl w.heap.size 81 i0 (.agg #[.int .i64 0,.int .i64 0,.int .i64 0,.string ⟨#[]⟩]) 4 40 Tryz.underlying49 hi hz0 hz1 hz2 rfl (by decide) _ _ _ rfl (hrow.alloc _) ⟨w2.heap.size,0,none⟩ 1 1 (tokC x.1) rfl rfl (news_tok x.1) (by simp [tokC,Value.oneCell']) (by unfold maxLen;omega) (by omega) (by simp;omega) (by decide) ?_;intro v' w3 hown' hmv;obtain ⟨g',cap',rfl⟩:=ownsRow_succ hown';have A:=appended V.out hrow N.out B1.out B2.out HB.out D.out HZ.out hown' hmv;have AA:=Lib.hid A;have hc1:=A.1.cell;have hf1:=A.1.frozen;clear A hown' hmv hrow)
   exact ⟨(O2.out.trans AA.out.2.1).from _,K2.out.trans AA.out.2.2.1,AA.out.2.2.2⟩
  ·have HZ:=Lib.hid hz
   have hz2:(flt x.1.kind x.1.text pre.length == 0)=false:=beq_eq_false_iff_ne.2 hz
   obtain ⟨c,hc⟩:∃ c,flt x.1.kind x.1.text pre.length=c:=⟨_,rfl⟩
   rw [hc] at HF hz2
   have HC:=Lib.hid hc
   clear hz hc
   gi_wp2_with fail
   refine ⟨trivial,?_⟩
   refine (CallsIn.inRound l (callsIn_wide.2 (HF.out _))).mono ?_
   rintro e w1 ⟨rfl,hB1⟩
   have bX1:=HX.out.kept (grown_of_below hB1) (by simp)
   have c11:w1.cell? ⟨Bx,1,none⟩=some (.int .i64 (x.1.pos:Nat)):=bX1.cell 1
   have I1:=HI.out.step hB1
   have K1:=Lib.hid (KeepR.of_below hB1)
   have O1:=Lib.hid (KeepsOthers.of_grownBy (grown_of_below hB1) (fun j o e=>by cases e))
   clear hB1 bX1 c0 c1 c2 c3 ct HI HX
   obtain ⟨⟨v,hv,hrow,hnil⟩,⟨hb1,hb2⟩,hB,hbad⟩:=I1
   have ct:=hv.cell
   have cf:=hv.frozen
   have cw0:w1.cell? ⟨w.heap.size + 1 + 1,0,none⟩=some (.int .i64 0):=hb2.cell 0
   have cw1:w1.cell? ⟨w.heap.size + 1 + 1,1,none⟩=some (.int .i64 0):=hb2.cell 1
   have fw0:w1.frozen? ⟨w.heap.size + 1 + 1,0,none⟩=false:=hb2.frozen 0
   have fw1:w1.frozen? ⟨w.heap.size + 1 + 1,1,none⟩=false:=hb2.frozen 1
   have V:=Lib.hid hv
   have B1:=Lib.hid hb1
   have B2:=Lib.hid hb2
   have HB:=Lib.hid hB
   have D:=Lib.hid hbad
   clear hv hnil hb1 hb2 hB hbad hrow
   gi_wp2_with fail
   have hne:c≠0:=by rw [← HC.out];exact HZ.out
   have S:=Lib.hid (stopped V.out B1.out B2.out HB.out D.out HC.out hne)
   clear hne
   have hmx:Tryz.prog.follows .mixedOrders=true:=by kernel_rfl
   gi_region_with_o (fail)
   all_goals gi_wp2
   all_goals exact ⟨(O1.out.trans S.out.1).from _,S.out.2⟩
 case done =>
  rintro D ys W hD hS ⟨⟨v,hv,hrow,hnil⟩,⟨hb1,hb2⟩,hB,hbad⟩ hK
  clear b0 b1 b2 b3 hB0
  have hD2:w.heap.size≤D:=by omega
  clear hsz
  have ct:=hv.cell
  have cw0:W.cell? ⟨w.heap.size + 1 + 1,0,none⟩=some (.int .i64 0):=hb2.cell 0
  have cw1:W.cell? ⟨w.heap.size + 1 + 1,1,none⟩=some (.int .i64 0):=hb2.cell 1
  have cr0:W.cell? ⟨w.heap.size,0,none⟩=some (.int .i64 0):=hb1.cell 0
  have cr1:W.cell? ⟨w.heap.size,1,none⟩=some (.int .i64 0):=hb1.cell 1
  have fr0:W.frozen? ⟨w.heap.size,0,none⟩=false:=hb1.frozen 0
  have fr1:W.frozen? ⟨w.heap.size,1,none⟩=false:=hb1.frozen 1
  have HK:=Lib.hid hK
  have HS:=Lib.hid hS
  have R:=Lib.hid hrow
  have B1:=Lib.hid hb1
  have HB:=Lib.hid hB
  have HD:=Lib.hid hbad
  clear hK hS hrow hnil hb1 hb2 hB hbad hv
  gi_wp2
  gi_region
  gi_wp2
  rw [Exit.noGoto_ret]
  obtain ⟨X,Y,hX,hXD,hY,hy0,hy1,hyT,hyB⟩:=finish (p:=0) (c:=0) (ts:=ys.map (·.1)) hD2 HK.out B1.out HB.out (by rw [List.length_map];exact R.out)
  have hl:=lexed_good (l:=s.data.toList) (by rw [← HS.out];exact HD.out)
  rw [HS.out] at hyT
  have HT:=Lib.hid hyT
  have HL:=Lib.hid hl
  have HBB:=Lib.hid hyB
  rw [hX]
  refine ⟨by simp,.inl ⟨_,_,rfl,run_takeDeferred hXD,?_⟩⟩
  rw [hY]
  clear hX hXD hY hyT hl hyB
  refine ⟨.tuple #[v,.agg #[.int .i64 0,.int .i64 0]],by simp [results,Tryz.results22,go_sem,hy0,hy1],v,?_,?_,HBB.out⟩
  ·rw [HL.out];rfl
  ·rw [HL.out];exact HT.out
 case stop =>
  rintro D c pre W hD hS ⟨rfl,pre',x,rfl,hbad,hf,hbox,⟨hb1,hb2⟩,hB⟩ hK
  clear b0 b1 b2 b3 hB0
  have hD2:w.heap.size≤D:=by omega
  clear hsz
  obtain ⟨c,hc⟩:∃ c,flt x.1.kind x.1.text pre'.length=c:=⟨_,rfl⟩
  rw [hc] at hf hb2
  have hl:lexed s.data.toList=([],x.1.pos,c):=by
   apply lexed_bad
   obtain ⟨r,hr⟩:=hS
   have h3:bad ((pre'++[x]).map (·.1)++r) 0=some (x.1.pos,c):=by
    rw [List.map_append,List.append_assoc,bad_append _ _ _ hbad]
    simp [bad,hc,hf]
   rw [hr] at h3
   exact h3
  have HL:=Lib.hid hl
  have ct:=hbox.cell
  have cw0:W.cell? ⟨w.heap.size + 1 + 1,0,none⟩=some (.int .i64 (x.1.pos:Nat)):=hb2.cell 0
  have cw1:W.cell? ⟨w.heap.size + 1 + 1,1,none⟩=some (.int .i64 c):=hb2.cell 1
  have cr0:W.cell? ⟨w.heap.size,0,none⟩=some (.int .i64 0):=hb1.cell 0
  have cr1:W.cell? ⟨w.heap.size,1,none⟩=some (.int .i64 0):=hb1.cell 1
  have fr0:W.frozen? ⟨w.heap.size,0,none⟩=false:=hb1.frozen 0
  have fr1:W.frozen? ⟨w.heap.size,1,none⟩=false:=hb1.frozen 1
  have HK:=Lib.hid hK
  have B1:=Lib.hid hb1
  have HB:=Lib.hid hB
  clear hK hS hb1 hb2 hB hbad hbox hf hl hc
  gi_wp2
  gi_region
  gi_wp2
  rw [Exit.noGoto_ret]
  obtain ⟨X,Y,hX,hXD,hY,hy0,hy1,hyT,hyB⟩:=finish (p:=(x.1.pos:Nat)) (c:=c) (ts:=[]) hD2 HK.out B1.out HB.out (World.ownsRow_nil W w.heap.size 81 4)
  have HT:=Lib.hid hyT
  have HBB:=Lib.hid hyB
  rw [hX]
  refine ⟨by simp,.inl ⟨_,_,rfl,run_takeDeferred hXD,?_⟩⟩
  rw [hY]
  clear hX hXD hY hyT hyB
  refine ⟨.tuple #[.slice none 0 0,.agg #[.int .i64 (x.1.pos:Nat),.int .i64 c]],by simp [results,Tryz.results22,go_sem,hy0,hy1],.slice none 0 0,?_,?_,HBB.out⟩
  ·rw [HL.out]
  ·rw [HL.out];exact HT.out
end Go.Proofs.YtfcgoainglpdlaaGreatDoor
