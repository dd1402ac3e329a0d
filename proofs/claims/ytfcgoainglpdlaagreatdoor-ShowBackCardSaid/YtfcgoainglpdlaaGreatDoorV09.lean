/- The iterator's contract: 'pieces' gives a text's pieces, and the end behind them, whatever a round does that keeps what 'KeepR' says. Condition: the text has at most 2^48 bytes. The loop over the pieces, where its body knows that what has come, with the piece at hand, is a beginning of the text's tokens. Condition: none beside the text's length. -/
import Derived.Test.YtfcgoainglpdlaaGreatDoorV07
import Derived.Test.YtfcgoainglpdlaaGreatDoorV08
import Derived.Shelf.Abstract
import Derived.Shelf.RegionOpen
import Derived.LoopNIn
import Derived.LoopIn
set_option maxRecDepth 100000
set_option maxHeartbeats 2000000
namespace Go.Proofs.YtfcgoainglpdlaaGreatDoor
open Go.RowKit Go.Shelf
open Go.Lib hiding intOf
attribute [local go_sem] Oper.semAt_some
def tokAt (l:List UInt8) (p:Nat):Tok:=⟨(kln (l.drop p)).1,p,p + (kln (l.drop p)).2,(l.drop p).take (kln (l.drop p)).2⟩
theorem ext_arr (s:ByteArray) (k m:Nat):s.extract k (k + m)=⟨((s.data.toList.drop k).take m).toArray⟩:=by
 rw [← ext_take]
theorem pieceAt_tok (s:ByteArray) (k b:Nat) (w:World) (hs:s.size≤9223372036854775807) (hk:k < s.size) (hW:WordsAt w b) :
  Calls Tryz.prog 63 #[.string s,.int .i64 (k:Nat),.map (some b)] w fun e w'=>e=.returned (tokV (tokAt s.data.toList k))∧Below w.heap.size w w' :=
 (pieceAt_any s k b w hs hk hW).mono fun e w' ⟨he,hw⟩=>⟨by rw [he];unfold pieceV tokV tokAt;rw [ext_arr],hw⟩
abbrev PTok (l:List UInt8):={ t:Tok // t ∈ toks l }
def encT {l:List UInt8} (x:PTok l):Array Value:=#[tokV x.1]
structure PRel (s:ByteArray) (Bt Bm:Nat) (J:List (PTok s.data.toList)→World→Prop) (pre:List (PTok s.data.toList)) (p:Nat) (wr:World):Prop where
 le:p≤s.size
 eq:pre.map (·.1)++pcsAt p (s.data.toList.drop p)=pcsAt 0 s.data.toList
 zero:skp false (s.data.toList.drop p)=0
 j:J pre wr
 words:WordsAt wr Bm
 text:Blk wr Bt 9 #[.string s]
theorem pcsAt_tok (s:ByteArray) (p:Nat) (hp:p < s.size) (hz:skp false (s.data.toList.drop p)=0) :
  pcsAt p (s.data.toList.drop p)=tokAt s.data.toList p::pcsAt (p + (kln (s.data.toList.drop p)).2) (s.data.toList.drop (p + (kln (s.data.toList.drop p)).2)):=by
 have hne:s.data.toList.drop p≠[]:=by rw [drop_cons s p hp];simp
 have h:=pcsAt_cons p (s.data.toList.drop p) (by rw [hz];exact hne)
 rw [hz] at h
 simp only [Nat.add_zero,List.drop_drop] at h
 exact h
theorem WordsAt.walks {w w':World} {b:Nat} (h:WordsAt w b) (hk:KeepsWalks w w'):WordsAt w' b:=by
 obtain ⟨es,clock,hb,F,hs,hD⟩:=h
 exact ⟨es,clock,hk.same _ _ hb rfl,F,hs,hD⟩
theorem pieces1_in (n:Nat) (hn:1≤n) (l Bt B0:Nat) (s:ByteArray) (hs:s.size≤9223372036854775807) (J Jx:List (PTok s.data.toList)→World→Prop) (hJ:AbidesFrom B0 J)
  (hY:∀ pre x W,J pre W→(pre++[x]).map (·.1) <+: toks s.data.toList→YieldAt Fence.wide (n - 1) Tryz.prog l (encT x) W fun e W' =>
   (e=.returned (.bool true)∧J (pre++[x]) W'∧KeepR W W')∨(e=.returned (.bool false)∧Jx (pre++[x]) W'))
  (W:World) (hB0:B0≤W.heap.size) (hT:Blk W Bt 9 #[.string s]) (h0:J [] W) :
  CallsIn Fence.wide n Tryz.prog 60 #[.func (.yield l) #[] #[],.pointer (some ⟨Bt,0,none⟩)] W fun e W'=>(∃ v,e=.returned v) ∧
   ((∃ ys:List (PTok s.data.toList),ys.map (·.1)=toks s.data.toList∧J ys W')∨(∃ pre:List (PTok s.data.toList),pre.map (·.1) <+: toks s.data.toList∧Jx pre W')):=by
 refine callsIn_of_wp Tryz.func60 rfl trivial ?_ rfl
 simp only [Tryz.ntmps60,List.size_toArray,List.length_cons,List.length_nil,Nat.reduceAdd,Nat.reduceSub,Array.replicate_succ,Array.replicate_zero,List.push_toArray,List.append_toArray,List.nil_append,List.cons_append]
 have HS:=Lib.hid (fun k w hk=>skip_any s k w hs hk)
 have HY:=Lib.hid hY
 have HJ:=Lib.hid hJ
 clear hY hJ
 gi_wp2_with fail
 refine ⟨trivial,?_⟩
 refine (callsIn_wide.2 (keywords_any _)).mono ?_
 rintro e w1 ⟨rfl,HW,HB⟩
 have hJ1:J [] w1:=HJ.out _ _ _ none h0 (grown_of_below HB) (fun r e=>by cases e)
 have hT1:Blk w1 Bt 9 #[.string s]:=hT.kept (grown_of_below HB) (by simp)
 have hB1:B0≤w1.heap.size:=Nat.le_trans hB0 HB.size
 have hc1:w1.cell? ⟨Bt,0,none⟩=some (.string s):=hT1.cell 0
 have H1:=Lib.hid hT1
 have H2:=Lib.hid HW
 clear HB hT1 HW hT
 gi_wp2_with fail
 refine ⟨trivial,?_⟩
 refine (callsIn_wide.2 (HS.out 0 _ (Nat.zero_le _))).mono ?_
 rintro e w2 ⟨rfl,rfl⟩
 rw [List.drop_zero,Nat.zero_add]
 have hp0:skp false s.data.toList≤s.size:=by have:=skp_le false s.data.toList;rwa [size_toList] at this
 have R0:PRel s Bt W.heap.size J [] (skp false s.data.toList) w1:=⟨hp0,by have:=pcsAt_skip 0 s.data.toList;rw [Nat.zero_add] at this;simpa using this.symm,skp_again false _,hJ1,H2.out,H1.out⟩
 have R:=Lib.hid R0
 clear R0 hJ1 h0
 generalize skp false s.data.toList=p0 at *
 generalize W.heap.size=Bm at *
 gi_wp2
 gi_loopw [4] (fun a wr=>∃ (pre:List (PTok s.data.toList)) (p:Nat),a=.int .i64 (p:Nat)∧Hid (PRel s Bt Bm J pre p wr)∧B0≤wr.heap.size) (fun a _=>s.size - (RowKit.intOf a).toNat)
 case atStart=>exact ⟨[],p0,rfl,R,hB1⟩
 case round =>
  obtain ⟨pre,p,rfl,HR,hBr⟩:=hrel
  have hple:=HR.out.le
  have hcr:wr.cell? ⟨Bt,0,none⟩=some (.string s):=HR.out.text.cell 0
  clear R hc1 H1 H2 hB1 hp0
  by_cases hp:p < s.size
  ·have htok:=pcsAt_tok s p hp HR.out.zero
   have hkp:=kln_pos' (l:=s.data.toList.drop p) (by rw [drop_cons s p hp];simp)
   rw [List.length_drop,size_toList] at hkp
   have hps:(tokAt s.data.toList p).stop≤s.size∧p < (tokAt s.data.toList p).stop:=by unfold tokAt;simp only;omega
   have hstop:(tokAt s.data.toList p).stop=p + (kln (s.data.toList.drop p)).2:=rfl
   have heq:=HR.out.eq
   rw [htok,← hstop] at heq
   have HP:=Lib.hid (pieceAt_tok s p Bm wr hs hp HR.out.words)
   have hmem:tokAt s.data.toList p ∈ toks s.data.toList:=by
    unfold toks;rw [← heq];simp
   clear htok hkp hstop
   generalize tokAt s.data.toList p=x at *
   obtain ⟨hs1,hs2⟩:=hps
   have HE:=Lib.hid heq
   clear heq
   gi_wp2_with fail
   refine ⟨trivial,?_⟩
   refine (callsIn_wide.2 HP.out).mono ?_
   rintro e w2 ⟨rfl,HB⟩
   have g2:=grown_of_below HB
   have J2:=HJ.out _ _ _ none HR.out.j g2 (fun r e=>by cases e)
   have T2:=HR.out.text.kept g2 (by simp)
   have W2:WordsAt w2 Bm:=World.ownsMap.kept HR.out.words g2 (by simp)
   have hB2:B0≤w2.heap.size:=Nat.le_trans hBr HB.size
   have J3:=HJ.out _ _ _ none J2 (World.grownBy_alloc w2 (.cells #[.int .i64 x.kind,.int .i64 (x.pos:Nat),.int .i64 (x.stop:Nat),.string ⟨x.text.toArray⟩] 81) none) (fun r e=>by cases e)
   have hpre:(pre++[(⟨x,hmem⟩:PTok s.data.toList)]).map (·.1) <+: toks s.data.toList:=by
    refine ⟨pcsAt x.stop (s.data.toList.drop x.stop)++[endTok s.data.toList],?_⟩
    show _=pcsAt 0 s.data.toList++[endTok s.data.toList]
    rw [← HE.out]
    simp
   obtain ⟨fn,tmps,assign,body,hy,hR⟩:=HY.out pre ⟨x,hmem⟩ _ J3 hpre
   have HPre:=Lib.hid hpre
   clear hpre
   have K1:=Lib.hid T2
   have K2:=Lib.hid W2
   have HRR:=Lib.hid hR
   clear HB g2 J2 J3 T2 W2 hR
   unfold encT tokV at hy
   dsimp only at hy
   unfold tokV
   gi_wp2_with fail
   refine HRR.out.mono ?_
   rintro e W3 (⟨rfl,hJ3,hk3⟩ | ⟨rfl,hJx3⟩)
   ·have B3:=hk3.four _ _ _ _ _ (Blk.new w2 81 _)
    have T3:=hk3.one _ _ (K1.out.kept (World.grownBy_alloc w2 _ none) (by simp))
    have V3:=(K2.out.alloc _).walks hk3.walks
    have hcb:W3.cell? ⟨w2.heap.size,2,none⟩=some (.int .i64 (x.stop:Nat)):=B3.cell 2
    have hct:W3.cell? ⟨Bt,0,none⟩=some (.string s):=T3.cell 0
    have hsz:B0≤W3.heap.size:=by have:=hk3.walks.size;simp at this;omega
    have hsk:=skp_le false (s.data.toList.drop x.stop)
    rw [List.length_drop,size_toList] at hsk
    have R3:PRel s Bt Bm J (pre++[⟨x,hmem⟩]) (x.stop + skp false (s.data.toList.drop x.stop)) W3:=by
     refine ⟨by omega,?_,?_,hJ3,V3,T3⟩
     ·have h1:=HE.out
      have h2:=pcsAt_skip x.stop (s.data.toList.drop x.stop)
      rw [List.drop_drop] at h2
      rw [← h2,List.map_append]
      simpa using h1
     ·have:=skp_again false (s.data.toList.drop x.stop)
      rwa [List.drop_drop] at this
    have R4:=Lib.hid R3
    have HSk:=HS.out x.stop W3 hs1
    generalize skp false (s.data.toList.drop x.stop)=m at *
    have HSm:=Lib.hid HSk
    clear R3 HSk hJ3 hk3 B3 T3 V3 hy HRR HE HP HR hcr
    gi_wp2_with fail
    refine ⟨trivial,?_⟩
    refine (callsIn_wide.2 HSm.out).mono ?_
    rintro e w4 ⟨rfl,rfl⟩
    gi_wp2
    go_roundw
    case rel=>exact ⟨_,x.stop + m,by go_num,R4,hsz⟩
    case measure=>simp [RowKit.intOf];omega
   ·have HJx:=Lib.hid hJx3
    clear hJx3 HE HP HR hy HRR hcr
    gi_wp2
    refine bodyPost_ret (results_none rfl _ _ _) rfl ?_
    exact ⟨⟨_,rfl⟩,.inr ⟨_,HPre.out,HJx.out⟩⟩
  ·obtain rfl:s.size=p:=by omega
   have heq:=HR.out.eq
   rw [drop_nil s s.size (Nat.le_refl _),pcsAt_end _ _ (by simp),List.append_nil] at heq
   have hmem:endTok s.data.toList ∈ toks s.data.toList:=by unfold toks;simp
   have hall:(pre++[(⟨endTok s.data.toList,hmem⟩:PTok s.data.toList)]).map (·.1)=toks s.data.toList:=by
    rw [List.map_append,heq];rfl
   obtain ⟨fn,tmps,assign,body,hy,hR⟩:=HY.out pre ⟨endTok s.data.toList,hmem⟩ _ HR.out.j (by rw [hall];exact List.prefix_refl _)
   have HRR:=Lib.hid hR
   have HA:=Lib.hid hall
   clear hR hall heq
   have he:encT (l:=s.data.toList) ⟨endTok s.data.toList,hmem⟩=#[.agg #[.int .i64 0,.int .i64 (s.size:Nat),.int .i64 (s.size:Nat),.string ⟨#[]⟩]]:=by
    unfold encT tokV endTok;simp only [size_toList]
   rw [he] at hy
   clear he
   gi_wp2_with fail
   refine HRR.out.mono ?_
   rintro e W3 (⟨rfl,hJ3,_⟩ | ⟨rfl,hJx3⟩)
   ·have HJ3:=Lib.hid hJ3
    clear hJ3
    gi_wp2
    go_end0
    exact ⟨⟨_,rfl⟩,.inl ⟨_,HA.out,HJ3.out⟩⟩
   ·have HJ3:=Lib.hid hJx3
    clear hJx3
    gi_wp2
    go_end0
    exact ⟨⟨_,rfl⟩,.inr ⟨_,by rw [HA.out];exact List.prefix_refl _,HJ3.out⟩⟩
theorem pieces_any (s:ByteArray) (w:World):Calls Tryz.prog 39 #[.string s] w fun e w'=>e=.returned (.func (.func 60) #[] #[.pointer (some ⟨w.heap.size,0,none⟩)])∧w'=w.alloc (.cells #[.string s] 9):=by
 go_enter Tryz.func39,Tryz.ntmps39
 go_wp2
 go_ret
 exact ⟨rfl,rfl⟩
end Go.Proofs.YtfcgoainglpdlaaGreatDoor
namespace Go.Proofs.YtfcgoainglpdlaaGreatDoor
open Go.RowKit Go.Shelf
open Go.Lib hiding intOf
def recT (fn:FuncId) (a:Act) (ps:Array Tmp) (assign body:Code) (D:Nat) (st:LoopState) (pe:Option Code):Loop :=
 { state:=st,pending:=pe,fn:=fn,tmps:=a.tmps,params:=ps,assign:=assign,body:=body,defers:=D }
structure Books (D:Nat) (r:Loop) (W:World):Prop where
 calls:W.heap[D]?=some (.deferred (some []))
 own:W.heap[D + 1]?=some (.loop r)
theorem Books.lt {D:Nat} {r:Loop} {W:World} (h:Books D r W):D + 1 < W.heap.size:=(Array.getElem?_eq_some_iff.1 h.own).1
theorem Books.walk {D:Nat} {r:Loop} {A B:World} {row:Option Nat} (h:Books D r A) (hg:A.grownBy B row) (hr:∀ k,row=some k→∃ o:Obj,A.heap[k]?=some o∧o.isWalk=true):Books D r B :=
 ⟨(grownBy_keeps hg hr h.calls rfl).trans h.calls,(grownBy_keeps hg hr h.own rfl).trans h.own⟩
theorem Books.keep {D:Nat} {r:Loop} {A B:World} (h:Books D r A) (hk:KeepsFrom D A B):Books D r B :=
 ⟨hk.same _ _ (Nat.le_refl _) h.calls rfl,hk.same _ _ (Nat.le_succ _) h.own rfl⟩
theorem Books.write {D:Nat} {r:Loop} {A:World} (h:Books D r A) (r':Loop):Books D r' (A.putObj (D + 1) (.loop r')) :=
 ⟨(World.putObj_heap_other (by omega)).trans h.calls,World.putObj_heap_same h.lt⟩
theorem Books.made (w:World) (r:Loop):Books w.heap.size r ((w.alloc (.deferred (some []))).alloc (.loop r)):=by
 refine ⟨(Below.heap_alloc _ _ _ (by simp)).trans (World.alloc_heap_new w _),?_⟩
 have h:=World.alloc_heap_new (w.alloc (.deferred (some []))) (.loop r)
 rwa [World.size_alloc] at h
theorem own_books {β:Type} {D:Nat} {r r':Loop} {I:β→World→Prop} {b:β} {A:World} (hI:OwnFrom D I) (h:I b A) (hb:Books D r A):I b (A.putObj (D + 1) (.loop r')) :=
 hI.putObj _ h (Nat.le_succ _) hb.own rfl
theorem abides_books {β:Type} {D B:Nat} {I:β→World→Prop} {r:Loop} (hI:OwnFrom D I) (hB:D≤B):AbidesFrom B (fun b W=>I b W∧Books D r W):=fun b A C row hs hg hr =>
 ⟨hI b A C row hs.1 hg (fun k e=>by obtain ⟨h1,o,ho,hw⟩:=hr k e;exact ⟨Nat.le_trans hB h1,o,ho,Obj.not_cells_of_walk hw⟩),hs.2.walk hg (fun k e=>(hr k e).2)⟩
theorem keepR_books {D:Nat} {r:Loop} {A:World} (hb:Books D r A) (r':Loop):KeepR A (A.putObj (D + 1) (.loop r')) :=
 KeepR.bookkeep (w:={ A with heap:=#[] }) A (D + 1) _ _ (Nat.zero_le _) hb.own rfl rfl
theorem round_shut {fn:FuncId} {a:Act} {ps:Array Tmp} {assign body:Code} {D:Nat} {W:World} (hb:Books D (recT fn a ps assign body D .busy none) W) (jump:Option Code) :
  (Instr.endRound (D + 1) jump).run Tryz.prog W=.ok (.bool jump.isNone) (W.putObj (D + 1) (.loop (recT fn a ps assign body D (if jump.isNone then .ready else .done) jump))) :=
 run_endRound jump hb.own
theorem round_told {l:List UInt8} {fn:FuncId} {a:Act} {ps:Array Tmp} {assign body:Code} {D:Nat} (hps:ps.size=1)
  (I:List (PTok l)→World→Prop) (Ix:Code→List (PTok l)→World→Prop) (hI:OwnFrom D I) (hIx:∀ c,OwnFrom D (Ix c)) (Ax:PTok l→Act→World→Prop) (hAx:∀ x a',OwnFrom D (fun (_:Unit) W=>Ax x a' W)) (pre:List (PTok l)) (x:PTok l)
  (hassign:∀ (W:World) (K:Act→World→Prop),I pre W→(∀ a' W',KeepsFrom D W W'→KeepR W W'→I pre W'→Ax x a' W'→K a' W') →
   assign.wpIn (Fence.wide.inRound (D + 1)) 4 Tryz.prog (Exit.then K (fun _ _ _=>False)) { tmps:=(ps.zip (encT x)).foldl (fun t (p,v)=>t.setIfInBounds p v) a.tmps,defers:=[] } W)
  (hbody:∀ (a':Act) (W:World),I pre W→Ax x a' W→body.wpIn (Fence.wide.inRound (D + 1)) 4 Tryz.prog (ownPostG D KeepR I Ix (pre++[x]) W) a' W)
  (W:World) (h:I pre W∧Books D (recT fn a ps assign body D .ready none) W) :
  YieldAt Fence.wide 4 Tryz.prog (D + 1) (encT x) W fun e W' =>
   (e=.returned (.bool true)∧(I (pre++[x]) W'∧Books D (recT fn a ps assign body D .ready none) W')∧KeepR W W') ∨
   (e=.returned (.bool false)∧∃ c,Ix c (pre++[x]) W'∧Books D (recT fn a ps assign body D .done (some c)) W'):=by
 refine ⟨fn,_,assign,body,run_yield h.2.own (by rw [show (encT x).size=1 from rfl];exact hps.symm),roundIn_of_wpIn trivial (hassign W _ h.1 ?_)⟩
 intro a' A hka hra hia hax
 have hA:=h.2.keep hka
 have hW:=hA.write (recT fn a ps assign body D .busy none)
 have hr:=keepR_books hA (recT fn a ps assign body D .busy none)
 refine ⟨_,run_beginRound hA.own rfl,wpIn_mono (hbody a' _ (own_books hI hia hA) ((hAx x a').putObj (s:=()) _ hax (Nat.le_succ _) hA.own rfl)) ?_⟩
 intro e a3 Z hz
 have gone:∀ c,KeepsFrom D (A.putObj (D + 1) (.loop (recT fn a ps assign body D .busy none))) Z∧Ix c (pre++[x]) Z →
   ∃ v w',(Instr.endRound (D + 1) (some c)).run Tryz.prog Z=.ok v w'∧((Ending.returned v=.returned (.bool true)∧(I (pre++[x]) w'∧Books D (recT fn a ps assign body D .ready none) w')∧KeepR W w') ∨
    (Ending.returned v=.returned (.bool false)∧∃ c,Ix c (pre++[x]) w'∧Books D (recT fn a ps assign body D .done (some c)) w')):=fun c hc =>
  have hZ:=hW.keep hc.1
  ⟨_,_,round_shut hZ (some c),.inr ⟨rfl,c,own_books (hIx c) hc.2 hZ,hZ.write _⟩⟩
 cases e with
 |normal =>
  have hZ:=hW.keep hz.1
  exact ⟨_,_,round_shut hZ none,.inl ⟨rfl,⟨own_books hI hz.2.2 hZ,hZ.write _⟩,hra.trans (hr.trans (hz.2.1.trans (keepR_books hZ _)))⟩⟩
 |ret=>exact gone .ret hz
 |exit id=>exact gone (.exit id) hz
 |goto t=>exact gone (.goto t) hz
 |panic ch=>exact hz.elim
 |outgrown=>exact hz.elim
theorem range_told {s:ByteArray} {Bt:Nat} {g:Operand} {ps:Array Tmp} {assign body:Code} {Q:Exit→Act→World→Prop} {a:Act} {w:World}
  (hs:s.size≤9223372036854775807) (hT:Blk w Bt 9 #[.string s]) (hg:a.eval g=.func (.func 60) #[] #[.pointer (some ⟨Bt,0,none⟩)]) (hps:ps.size=1)
  (I:List (PTok s.data.toList)→World→Prop) (Ix:Code→List (PTok s.data.toList)→World→Prop) (hI:OwnFrom w.heap.size I) (hIx:∀ c,OwnFrom w.heap.size (Ix c)) (h0:I [] w)
  (Ax:PTok s.data.toList→Act→World→Prop) (hAx:∀ x a',OwnFrom w.heap.size (fun (_:Unit) W=>Ax x a' W))
  (hassign:∀ (l:Nat) (pre:List (PTok s.data.toList)) (x:PTok s.data.toList) (W:World) (K:Act→World→Prop),I pre W→(∀ a' W',KeepsFrom w.heap.size W W'→KeepR W W'→I pre W'→Ax x a' W'→K a' W') →
   assign.wpIn (Fence.wide.inRound l) 4 Tryz.prog (Exit.then K (fun _ _ _=>False)) { tmps:=(ps.zip (encT x)).foldl (fun t (p,v)=>t.setIfInBounds p v) a.tmps,defers:=[] } W)
  (hbody:∀ (l:Nat) (pre:List (PTok s.data.toList)) (x:PTok s.data.toList) (a':Act) (W:World),I pre W→Ax x a' W→(pre++[x]).map (·.1) <+: toks s.data.toList→body.wpIn (Fence.wide.inRound l) 4 Tryz.prog (ownPostG w.heap.size KeepR I Ix (pre++[x]) W) a' W)
  (hdone:∀ (D:Nat) (xs:List (PTok s.data.toList)) (W:World),w.heap.size≤D→xs.map (·.1)=toks s.data.toList→I xs W→W.heap[D]?=some (.deferred (some []))→Q .normal { a with defers:={ target:=.collected D,args:=#[] }::a.defers } W)
  (hstop:∀ (D:Nat) (c:Code) (pre:List (PTok s.data.toList)) (W:World),w.heap.size≤D→pre.map (·.1) <+: toks s.data.toList→Ix c pre W→W.heap[D]?=some (.deferred (some []))→c.wpIn Fence.wide 6 Tryz.prog Q { a with defers:={ target:=.collected D,args:=#[] }::a.defers } W) :
  (Code.rangeFunc g ps assign body).wpIn Fence.wide 6 Tryz.prog Q a w:=by
 have eg:∀ args w,(callFunc 60 args).run Tryz.prog w=.ok (.enter 60 args) w:=enters_of Tryz.func60 (by kernel_rfl) rfl
 refine wpIn_rangeFunc fun fn _=>?_
 have hM:=Books.made w (recT fn a ps assign body w.heap.size .ready none)
 have h1:I [] ((w.alloc (.deferred (some []))).alloc (.loop (recT fn a ps assign body w.heap.size .ready none))):=hI.alloc _ (hI.alloc _ h0)
 have hT1:Blk ((w.alloc (.deferred (some []))).alloc (.loop (recT fn a ps assign body w.heap.size .ready none))) Bt 9 #[.string s] :=
  (hT.kept (World.grownBy_alloc _ _ none) (by simp)).kept (World.grownBy_alloc _ _ none) (by simp)
 have hB:w.heap.size≤((w.alloc (.deferred (some []))).alloc (.loop (recT fn a ps assign body w.heap.size .ready none))).heap.size:=by simp;omega
 obtain ⟨W1,hW1⟩:∃ W1,(w.alloc (.deferred (some []))).alloc (.loop (recT fn a ps assign body w.heap.size .ready none))=W1:=⟨_,rfl⟩
 rw [hW1] at hM h1 hT1 hB
 have hE:(Instr.enterLoop fn a.tmps ps assign body Fence.wide.round).run Tryz.prog w=.ok (w.heap.size + 1,[{ target:=.collected w.heap.size,args:=#[] }]) W1:=by
  rw [← hW1];exact run_enterLoop_outer _ _ _ _ _
 refine ⟨w.heap.size + 1,[{ target:=.collected w.heap.size,args:=#[] }],W1,{ target:=.fn (.func 60) #[.pointer (some ⟨Bt,0,none⟩)],args:=#[.func (.yield (w.heap.size + 1)) #[] #[]] },W1,60,
  #[.func (.yield (w.heap.size + 1)) #[] #[]]++#[.pointer (some ⟨Bt,0,none⟩)],W1,hE,?_,fun _ _=>trivial,?_,(fun h=>absurd h (by decide)),?_⟩
 ·simp only [resolve,hg]
  simp [go_sem]
 ·simp [invoke,go_sem,eg]
 ·refine (pieces1_in 5 (by omega) (w.heap.size + 1) Bt _ s hs _ (fun pre W=>∃ c,Ix c pre W∧Books w.heap.size (recT fn a ps assign body w.heap.size .done (some c)) W) (abides_books hI hB)
   (fun pre x W hJ hpre=>round_told hps I Ix hI hIx Ax hAx pre x (fun W K=>hassign _ pre x W K) (fun a' W hi hx=>hbody _ pre x a' W hi hx hpre) W hJ) _ (Nat.le_refl _) hT1 ⟨h1,hM⟩).mono ?_
  rintro e Z ⟨⟨v,rfl⟩,(⟨xs,hS,hi,hb⟩ | ⟨pre,hS,c,hi,hb⟩)⟩
  ·exact ⟨none,_,run_endLoop hb.own (by simp [recT]),hdone _ xs _ (Nat.le_refl _) hS (own_books hI hi hb) (hb.write _).calls⟩
  ·exact ⟨some c,_,run_endLoop hb.own (by simp [recT]),hstop _ c pre _ (Nat.le_refl _) hS (own_books (hIx c) hi hb) (hb.write _).calls⟩
end Go.Proofs.YtfcgoainglpdlaaGreatDoor
