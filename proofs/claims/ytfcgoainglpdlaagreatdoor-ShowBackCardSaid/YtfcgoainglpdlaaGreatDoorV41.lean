/- The walk of the packages' Text, out of 'Parse'; its answer in parts. Condition: texts of at most 2^48 bytes. -/
import Derived.Test.YtfcgoainglpdlaaGreatDoorV40
import Derived.StillTailTactics
set_option maxRecDepth 100000
set_option maxHeartbeats 4000000
namespace Go.Proofs.YtfcgoainglpdlaaGreatDoor
open Go.RowKit
open Go.Lib hiding intOf
def txt (F fb f:Nat) (s:List UInt8):EO FX :=
 match bad (toks s) 0 with
 |none=>fil ((toks s).map zTok) F fb f
 |some (a,c)=>.err (a:Nat) c
theorem txt_good {F fb f:Nat} {s:List UInt8} (h:bad (toks s) 0=none):txt F fb f s=fil ((toks s).map zTok) F fb f:=by unfold txt;rw [h]
theorem txt_bad {F fb f:Nat} {s:List UInt8} {a:Nat} {c:Int} (h:bad (toks s) 0=some (a,c)):txt F fb f s=.err (a:Nat) c:=by unfold txt;rw [h]
theorem FParRes.parts {B:Nat} {W:World} {r:EO FX} {v:Value} (h:FParRes B W r v) (hr:r≠.out):∃ (nm:ByteArray) (ps:Int) (oi:Option Addr) (ni ci:Nat) (od:Option Addr) (nd cd:Nat) (p q:Int),
  v=.tuple #[.agg #[.string nm,.int .i64 ps,.slice oi ni ci,.slice od nd cd],.agg #[.int .i64 p,.int .i64 q]] ∧
  ((∃ X j,r=.ok X j∧nm=X.name∧ps=X.pos∧ni=X.imports.length∧nd=X.decls.length∧p=0∧q=0∧InRow 2 IsNX (fun q=>B≤q) W oi 0 X.imports∧InRow 22 (IsDX (fun q=>B≤q) W) (fun q=>B≤q) W od 0 X.decls∧nd≤cd) ∨
   (r=.err p q∧nm=⟨#[]⟩∧ps=0∧oi=none∧ni=0∧ci=0∧od=none∧nd=0∧cd=0)):=by
 cases r with
 |out=>exact (hr rfl).elim
 |err p q=>exact ⟨_,_,none,0,0,none,0,0,p,q,h,.inr ⟨rfl,rfl,rfl,rfl,rfl,rfl,rfl,rfl,rfl⟩⟩
 |ok X j =>
  obtain ⟨vx,rfl,⟨oi,ci,od,cd,rfl,h1,h2⟩,h3⟩:=h
  exact ⟨_,_,oi,_,ci,od,_,cd,0,0,rfl,.inl ⟨X,j,rfl,rfl,rfl,rfl,rfl,rfl,rfl,h1,h2,h3 _ _ _ _ _ _ _ _ rfl⟩⟩
theorem FParRes.shift {B B':Nat} {W W':World} {r:EO FX} {nm:ByteArray} {ps:Int} {oi:Option Addr} {ni ci:Nat} {od:Option Addr} {nd cd:Nat} {p q:Int} (hB:B'≤B) (hk:∀ k,B≤k→k < W.heap.size→W'.heap[k]?=W.heap[k]?)
  (h:(∃ X j,r=.ok X j∧nm=X.name∧ps=X.pos∧ni=X.imports.length∧nd=X.decls.length∧p=0∧q=0∧InRow 2 IsNX (fun q=>B≤q) W oi 0 X.imports∧InRow 22 (IsDX (fun q=>B≤q) W) (fun q=>B≤q) W od 0 X.decls∧nd≤cd) ∨
   (r=.err p q∧nm=⟨#[]⟩∧ps=0∧oi=none∧ni=0∧ci=0∧od=none∧nd=0∧cd=0)) :
  FParRes B' W' r (.tuple #[.agg #[.string nm,.int .i64 ps,.slice oi ni ci,.slice od nd cd],.agg #[.int .i64 p,.int .i64 q]]):=by
 rcases h with ⟨X,j,rfl,rfl,rfl,rfl,rfl,rfl,rfl,h1,h2,h3⟩ | ⟨rfl,rfl,rfl,rfl,rfl,rfl,rfl,rfl,rfl⟩
 ·exact ⟨_,rfl,isFile.ab (B:=B) (w:=W) ⟨⟨oi,ci,od,cd,rfl,h1,h2⟩,fun nm ps oi ni ci od nd cd he=>by
   simp only [Value.agg.injEq,Array.mk.injEq,List.cons.injEq,Value.slice.injEq,and_true] at he
   omega⟩ hB hk⟩
 ·rfl
theorem textF_any (F fb f:Nat) (s:ByteArray) (hF:fuel ((toks s.data.toList).map zTok)≤F) (hr:fil ((toks s.data.toList).map zTok) F fb f≠.out) (hs:s.size≤281474976710656) (w:World) :
    Calls Tryz.prog 19 #[.string s] w fun e w'=>∃ v,e=.returned v∧FParRes w.heap.size w' (txt F fb f s.data.toList) v∧Below w.heap.size w w':=by
  have e0:s.data.toList.length=s.size:=by rw [Array.length_toList];rfl
  have X0:Hid (Blk ((w.alloc (.cells #[.string ⟨#[]⟩,.int .i64 0,.slice none 0 0,.slice none 0 0] 42)).alloc (.cells #[.int .i64 0,.int .i64 0] 44)) w.heap.size 42 #[.string ⟨#[]⟩,.int .i64 0,.slice none 0 0,.slice none 0 0]):=(Blk.new w _ _).alloc _
  have G0:Hid (Blk ((w.alloc (.cells #[.string ⟨#[]⟩,.int .i64 0,.slice none 0 0,.slice none 0 0] 42)).alloc (.cells #[.int .i64 0,.int .i64 0] 44)) (w.heap.size + 1) 44 #[.int .i64 0,.int .i64 0]):=by
    have:=Blk.new (w.alloc (.cells #[.string ⟨#[]⟩,.int .i64 0,.slice none 0 0,.slice none 0 0] 42)) 44 #[.int .i64 0,.int .i64 0]
    show Blk _ _ _ _
    rwa [World.size_alloc] at this
  have B0:Hid (Below w.heap.size w ((w.alloc (.cells #[.string ⟨#[]⟩,.int .i64 0,.slice none 0 0,.slice none 0 0] 42)).alloc (.cells #[.int .i64 0,.int .i64 0] 44))):=((Below.refl w.heap.size w).alloc (Nat.le_refl _) _).alloc (by simp) _
  rcases lexed_cases s.data.toList with ⟨b1,e1⟩ | ⟨a1,c1,b1,e1⟩
  · have HA:Hid (∀ W:World,Calls Tryz.prog 22 #[.string s] W fun e w'=>∃ o cap,e=.returned (.tuple #[.slice o (toks s.data.toList).length cap,.agg #[.int .i64 0,.int .i64 0]])∧AtToks w' o (toks s.data.toList)∧Below W.heap.size W w') :=
      fun W=>(all_at s _ 0 0 e1 W (by omega)).mono fun e w' ⟨o,cap,he,ht,hb,_⟩=>⟨o,cap,he,ht,hb⟩
    have hl:((toks s.data.toList).map zTok).length≤1073741824:=by have:=few5 b1;rw [List.length_map];omega
    have HP:=Lib.hid (fun (o:Option Addr) (cap:Nat) (W:World) (h:AtToks W o (toks s.data.toList))=>by
      have:=parseF_any (c:=cap) W (zt5 h) hl (fits5 (by omega)) F fb f hF hr
      rw [List.length_map] at this
      exact this)
    have HRO:=Lib.hid hr
    rw [txt_good b1]
    clear hF hr hl b1 e1
    generalize fil ((toks s.data.toList).map zTok) F fb f=R at *
    generalize toks s.data.toList=ts at *
    go_enter Tryz.func19,Tryz.ntmps19
    go_wp2_with fail
    refine (HA.out _).mono ?_
    rintro e w1 ⟨o,cap,rfl,hZ,hB⟩
    have B1:=Lib.hid (B0.out.trans (hB.mono B0.out.size))
    have k1:Below w1.heap.size w1 (w1.alloc (.cells #[.int .i64 0,.int .i64 0] 44)):=(Below.refl _ _).alloc (Nat.le_refl _) _
    have hlt1:w.heap.size + 1 < w1.heap.size:=(G0.out.below hB).lt
    have X1:=Lib.hid ((X0.out.below hB).alloc (.cells #[.int .i64 0,.int .i64 0] 44))
    have G1:=Lib.hid ((G0.out.below hB).alloc (.cells #[.int .i64 0,.int .i64 0] 44))
    have Z1:=Lib.hid (hZ.below k1)
    have W1:=Lib.hid (B1.out.trans (k1.mono B1.out.size))
    clear hZ hB k1 HA X0 G0 B0 B1
    go_wp2_with fail
    refine (HP.out o cap _ Z1.out).mono ?_
    rintro e w2 ⟨v,rfl,hv,hB⟩
    obtain ⟨nm,ps,oi,ni,ci,od,nd,cd,p,q,rfl,hcase⟩:=hv.parts HRO.out
    have hx2:=X1.out.below hB
    have hg2:=G1.out.below hB
    have hB2:=W1.out.trans (hB.mono W1.out.size)
    have hlg:=G1.out.lt
    have X3:=Lib.hid (blk_far2 (blk_set4 hx2 (.string nm) (.int .i64 ps) (.slice oi ni ci) (.slice od nd cd)) (r:=w.heap.size + 1) (by omega) (.int .i64 p) (.int .i64 q))
    have G3:=Lib.hid (blk_set2 (blk_far4 hg2 (r:=w.heap.size) (by omega) (.string nm) (.int .i64 ps) (.slice oi ni ci) (.slice od nd cd)) (.int .i64 p) (.int .i64 q))
    have B3:=Lib.hid (set2_below (set4_below hB2 (Nat.le_refl _) (.string nm) (.int .i64 ps) (.slice oi ni ci) (.slice od nd cd)) (r:=w.heap.size + 1) (by omega) (.int .i64 p) (.int .i64 q))
    have A3:=Lib.hid (((((((Ab.refl (w.heap.size + 1 + 1) w2).setCell (p:=⟨w.heap.size,0,none⟩) (by simp only;omega) (.string nm)).setCell (p:=⟨w.heap.size,1,none⟩) (by simp only;omega) (.int .i64 ps)).setCell (p:=⟨w.heap.size,2,none⟩) (by simp only;omega) (.slice oi ni ci)).setCell (p:=⟨w.heap.size,3,none⟩) (by simp only;omega) (.slice od nd cd)).setCell (p:=⟨w.heap.size + 1,0,none⟩) (by simp only;omega) (.int .i64 p)).setCell (p:=⟨w.heap.size + 1,1,none⟩) (by simp only;omega) (.int .i64 q))
    have HC:=Lib.hid hcase
    have c0:=hx2.cell
    have f0:=hx2.frozen
    have c1:=hg2.cell
    have f1:=hg2.frozen
    have l0:=hx2.lt
    have l1:=hg2.lt
    clear hx2 hg2 hB2 hcase hv hB HP Z1 W1 X1 G1
    go_wp2_with fail
    clear c0 f0 c1 f1
    have c0:=X3.out.cell
    have c1:=G3.out.cell
    unfold set2 set4 at c0 c1
    refine bodyPost_ret (v:=.tuple #[.agg #[.string nm,.int .i64 ps,.slice oi ni ci,.slice od nd cd],.agg #[.int .i64 p,.int .i64 q]]) (by simp [results,Tryz.results19,go_sem,c0,c1]) rfl ?_
    exact ⟨_,rfl,FParRes.shift (B':=w.heap.size) (by simp;omega) (fun k h1 h2=>A3.out.keep k (by simp at h1;omega) h2) HC.out,B3.out⟩
  · have hc:=(bad_some b1).1
    have HA:Hid (∀ W:World,Calls Tryz.prog 22 #[.string s] W fun e w'=>∃ o cap,e=.returned (.tuple #[.slice o 0 cap,.agg #[.int .i64 (a1:Nat),.int .i64 c1]])∧Below W.heap.size W w') :=
      fun W=>(all_at s _ a1 c1 e1 W (by omega)).mono fun e w' ⟨o,cap,he,ht,hb,_⟩=>⟨o,cap,he,hb⟩
    rw [txt_bad b1]
    have hc1:(c1 != 0)=true:=by simpa using hc
    have hc2:(c1 == 0)=false:=by simpa using hc
    clear hF hr b1 e1 hc
    go_enter Tryz.func19,Tryz.ntmps19
    go_wp2_with fail
    refine (HA.out _).mono ?_
    rintro e w1 ⟨o,cap,rfl,hB⟩
    have hx1:=(X0.out.below hB).alloc (.cells #[.int .i64 (a1:Nat),.int .i64 c1] 44)
    have hg1:=(G0.out.below hB).alloc (.cells #[.int .i64 (a1:Nat),.int .i64 c1] 44)
    have hB1:=B0.out.trans (hB.mono B0.out.size)
    have hB2:=hB1.alloc hB1.size (.cells #[.int .i64 (a1:Nat),.int .i64 c1] 44)
    have c0:=hx1.cell
    have f0:=hx1.frozen
    have d1:=hg1.cell
    have f1:=hg1.frozen
    have l0:=(X0.out.below hB).lt
    have l1:=(G0.out.below hB).lt
    have B2:=Lib.hid hB2
    have X1:=Lib.hid hx1
    have G1:=Lib.hid hg1
    clear hB HA hx1 hg1 hB1 hB2 X0 G0 B0
    have Y1:=Lib.hid (Blk.new w1 44 #[.int .i64 (a1:Nat),.int .i64 c1])
    go_wp2_with fail
    generalize w1.alloc (.cells #[.int .i64 (a1:Nat),.int .i64 c1] 44)=W4 at *
    have X3:=Lib.hid (blk_far2 (blk_set4 X1.out (.string ⟨#[]⟩) (.int .i64 0) (.slice none 0 0) (.slice none 0 0)) (r:=w.heap.size + 1) (by omega) (.int .i64 (a1:Nat)) (.int .i64 c1))
    have G3:=Lib.hid (blk_set2 (blk_far4 G1.out (r:=w.heap.size) (by omega) (.string ⟨#[]⟩) (.int .i64 0) (.slice none 0 0) (.slice none 0 0)) (.int .i64 (a1:Nat)) (.int .i64 c1))
    have B3:=Lib.hid (set2_below (set4_below B2.out (Nat.le_refl _) (.string ⟨#[]⟩) (.int .i64 0) (.slice none 0 0) (.slice none 0 0)) (r:=w.heap.size + 1) (by omega) (.int .i64 (a1:Nat)) (.int .i64 c1))
    have y1:=Y1.out.cell
    have q0:=X1.out.lt
    have q1:=G1.out.lt
    have n0:w1.heap.size≠w.heap.size:=by omega
    have n1:w.heap.size≠w1.heap.size:=by omega
    go_region
    all_goals go_wp2_with fail
    all_goals clear c0 f0 d1 f1 y1
    all_goals
     have c0:=X3.out.cell
     have d1:=G3.out.cell
     unfold set2 set4 at c0 d1
     refine bodyPost_ret (v:=.tuple #[.agg #[.string ⟨#[]⟩,.int .i64 0,.slice none 0 0,.slice none 0 0],.agg #[.int .i64 (a1:Nat),.int .i64 c1]]) (by simp [results,Tryz.results19,go_sem,c0,d1]) rfl ?_
     exact ⟨_,rfl,rfl,B3.out.drew⟩
def stF (s:List UInt8):Nat:=fuel ((toks s).map zTok)
def stB (s:List UInt8):Nat:=fuelB ((toks s).map zTok)
def stL (s:List UInt8):Nat:=(toks s).length + 3
def txtAll (s:List UInt8):EO FX:=txt (stF s) (stB s) (stL s) s
theorem textF_all (s:ByteArray) (hs:s.size≤281474976710656) (w:World) :
  Calls Tryz.prog 19 #[.string s] w fun e w'=>∃ v,e=.returned v∧FParRes w.heap.size w' (txtAll s.data.toList) v∧Below w.heap.size w w' :=
 textF_any _ _ _ s (Nat.le_refl _) (fil_some (Nat.le_refl _) (by rw [List.length_map];unfold stL;omega)) hs w
end Go.Proofs.YtfcgoainglpdlaaGreatDoor
