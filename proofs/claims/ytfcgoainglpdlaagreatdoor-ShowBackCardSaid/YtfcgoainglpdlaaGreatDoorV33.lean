/- The walk of 'Parse', out of 'level'. Condition: the tokens lie in memory as 'ZAt' says, one at least; texts of at most 2^48 bytes. -/
import Derived.Test.YtfcgoainglpdlaaGreatDoorV16
import Derived.Defers
import Derived.Recover
import Derived.Laws.Pointers
set_option maxRecDepth 20000
set_option maxHeartbeats 8000000
namespace Go.Proofs.YtfcgoainglpdlaaGreatDoor
open Go.RowKit
open Go.Lib hiding intOf
theorem set11_below {B:Nat} {a W:World} (h:Below B a W) {r:Nat} (hr:B≤r) (v0 v1 v2 v3 v4 v5 v6 v7 v8 v9 v10:Value):Below B a (set11 W r v0 v1 v2 v3 v4 v5 v6 v7 v8 v9 v10) :=
 ((((((((((h.setCell hr _).setCell hr _).setCell hr _).setCell hr _).setCell hr _).setCell hr _).setCell hr _).setCell hr _).setCell hr _).setCell hr _).setCell hr _
theorem blk_drew {W:World} {k:Nat} {t:TypeId} {cs:Array Value} (h:Blk W k t cs):Blk W.drew k t cs:=h
def retW (w:World) (p q r:Nat) (x y:Int):World :=
 (((set2 ((set11 w p (.int .i64 0) (.int .i64 0) (.int .i64 0) (.string ⟨#[]⟩) (.int .i64 0) (.int .i64 0) (.int .i64 0) (.string ⟨#[]⟩) (.string ⟨#[]⟩) (.slice none 0 0) (.slice none 0 0)).setCell ⟨q,0,none⟩ (.int .i64 0)) r (.int .i64 x) (.int .i64 y)).alloc (.cells #[.int .i64 x,.int .i64 y] 84)).drew)
theorem retE {B p q r:Nat} {x y:Int} {w:World} {v0 v1 v2 v3 v4 v5 v6 v7 v8 v9 v10 u0 s0 s1:Value} (h0:Blk w p 31 #[v0,v1,v2,v3,v4,v5,v6,v7,v8,v9,v10]) (h1:Blk w q 3 #[u0]) (h2:Blk w r 44 #[s0,s1]) (hpq:p≠q) (hpr:p≠r) (hqr:q≠r) (hBp:B≤p) (hBq:B≤q) (hBr:B≤r) (hB:B≤w.heap.size) :
  Blk (retW w p q r x y) p 31 #[.int .i64 0,.int .i64 0,.int .i64 0,.string ⟨#[]⟩,.int .i64 0,.int .i64 0,.int .i64 0,.string ⟨#[]⟩,.string ⟨#[]⟩,.slice none 0 0,.slice none 0 0]∧Blk (retW w p q r x y) q 3 #[.int .i64 0]∧Blk (retW w p q r x y) r 44 #[.int .i64 x,.int .i64 y]∧Below B w (retW w p q r x y):=by
 unfold retW
 refine ⟨?_,?_,?_,?_⟩
 ·exact blk_drew (Blk.alloc (blk_far2 ((blk_set11 h0 _ _ _ _ _ _ _ _ _ _ _).far (p:=⟨q,0,none⟩) hpq _) hpr _ _) _)
 ·have h:=(blk_far11 h1 (fun e=>hpq e.symm) (.int .i64 0) (.int .i64 0) (.int .i64 0) (.string ⟨#[]⟩) (.int .i64 0) (.int .i64 0) (.int .i64 0) (.string ⟨#[]⟩) (.string ⟨#[]⟩) (.slice none 0 0) (.slice none 0 0)).set_ 0 (.int .i64 0)
  simp only [List.setIfInBounds_toArray,List.set_cons_zero] at h
  exact blk_drew (Blk.alloc (blk_far2 h hqr _ _) _)
 ·exact blk_drew (Blk.alloc (blk_set2 ((blk_far11 h2 (fun e=>hpr e.symm) _ _ _ _ _ _ _ _ _ _ _).far (p:=⟨q,0,none⟩) (fun e=>hqr e.symm) _) _ _) _)
 ·refine Below.drew (Below.alloc (set2_below ((set11_below (Below.refl B w) hBp _ _ _ _ _ _ _ _ _ _ _).setCell (p:=⟨q,0,none⟩) hBq _) hBr _ _) ?_ _)
  rw [set2_size]
  show B≤((set11 w p _ _ _ _ _ _ _ _ _ _ _).setCell ⟨q,0,none⟩ _).heap.size
  rw [show ((set11 w p (.int .i64 0) (.int .i64 0) (.int .i64 0) (.string ⟨#[]⟩) (.int .i64 0) (.int .i64 0) (.int .i64 0) (.string ⟨#[]⟩) (.string ⟨#[]⟩) (.slice none 0 0) (.slice none 0 0)).setCell ⟨q,0,none⟩ (.int .i64 0)).heap.size=(set11 w p (.int .i64 0) (.int .i64 0) (.int .i64 0) (.string ⟨#[]⟩) (.int .i64 0) (.int .i64 0) (.int .i64 0) (.string ⟨#[]⟩) (.string ⟨#[]⟩) (.slice none 0 0) (.slice none 0 0)).heap.size by simp [World.setCell],set11_size]
  exact hB
theorem catch_idle (p q r:Addr) (w:World) :
  CallsD Tryz.prog 42 #[.pointer (some p),.pointer (some q),.pointer (some r)] .returning w fun e u' w'=>e=.returned (.tuple #[])∧u'=.returning∧w'=w:=by
 refine callsD_of_wpS Tryz.func42 rfl fun c₀ cs hu=>?_
 apply wpS_seq
 apply wpS_region
 simp [wpOpsS,go_sem,recoverD,hu,Tryz.ntmps42,Exit.thenS]
 apply wpS_seq
 apply wpS_seq
 apply wpS_region
 simp [wpOpsS,go_sem,Exit.thenS]
 refine wpS_cond (t:=true) (by simp [Act.eval,Array.replicate]) ?_
 simp only [if_true]
 refine wpS_of_wp (wp_ret ?_)
 cases c₀
 simp_all [bodyPostS,results,Tryz.results42,Exit.thenS]
theorem catch_fault (B p q r:Nat) (x y:Int) (w:World) {v0 v1 v2 v3 v4 v5 v6 v7 v8 v9 v10 u0 s0 s1:Value} (h0:Blk w p 31 #[v0,v1,v2,v3,v4,v5,v6,v7,v8,v9,v10]) (h1:Blk w q 3 #[u0]) (h2:Blk w r 44 #[s0,s1]) (hpq:p≠q) (hpr:p≠r) (hqr:q≠r) (hBp:B≤p) (hBq:B≤q) (hBr:B≤r) :
  CallsD Tryz.prog 42 #[.pointer (some ⟨p,0,none⟩),.pointer (some ⟨q,0,none⟩),.pointer (some ⟨r,0,none⟩)] (.panicking [{ v:=.iface 84 (.agg #[.int .i64 x,.int .i64 y]),recovered:=false }]) w fun e u' w'=>e=.returned (.tuple #[])∧u'=.panicking [{ v:=.iface 84 (.agg #[.int .i64 x,.int .i64 y]),recovered:=true }] ∧
   Blk w' p 31 #[.int .i64 0,.int .i64 0,.int .i64 0,.string ⟨#[]⟩,.int .i64 0,.int .i64 0,.int .i64 0,.string ⟨#[]⟩,.string ⟨#[]⟩,.slice none 0 0,.slice none 0 0]∧Blk w' q 3 #[.int .i64 0]∧Blk w' r 44 #[.int .i64 x,.int .i64 y]∧Below B w w':=by
 have hta:∀ W:World,(Instr.typeAssert (.iface 84 (.agg #[.int .i64 x,.int .i64 y])) 20 84 true).run Tryz.prog W=.ok (.tuple #[.agg #[.int .i64 x,.int .i64 y],.bool true]) W:=fun W=>by kernel_rfl
 have hne:∀ W:World,(binOp BinOp.eql 20 (.iface 84 (.agg #[.int .i64 x,.int .i64 y])) .nilIface).run Tryz.prog W=.ok (.bool false) W:=fun W=>by kernel_rfl
 refine callsD_of_wpS Tryz.func42 rfl fun c₀ cs hu=>?_
 apply wpS_seq
 apply wpS_region
 simp [wpOpsS,go_sem,recoverD,hu,Tryz.ntmps42,Exit.thenS]
 refine wpS_of_wp (Code.wp_mono (Q:=fun e a' w'=>e=.normal∧a'.defers=[]∧Blk w' p 31 #[.int .i64 0,.int .i64 0,.int .i64 0,.string ⟨#[]⟩,.int .i64 0,.int .i64 0,.int .i64 0,.string ⟨#[]⟩,.string ⟨#[]⟩,.slice none 0 0,.slice none 0 0]∧Blk w' q 3 #[.int .i64 0]∧Blk w' r 44 #[.int .i64 x,.int .i64 y]∧Below B w w') (fun e a' w' hq=>?_) ?_)
 ·obtain ⟨rfl,hd,hq⟩:=hq
  cases c₀
  simp_all [bodyPostS,results,Tryz.results42]
 ·have c0:=h0.cell
  have f0:=h0.frozen
  have c1:=h1.cell
  have f1:=h1.frozen
  have c2:=h2.cell
  have f2:=h2.frozen
  have l0:=h0.lt
  have l1:=h1.lt
  have l2:=h2.lt
  have H0:=Lib.hid h0
  have H1:=Lib.hid h1
  have H2:=Lib.hid h2
  clear h0 h1 h2
  simp only [Array.replicate_succ,Array.replicate_zero,List.push_toArray,List.nil_append,List.cons_append,List.append_toArray,List.setIfInBounds_toArray,List.set_cons_zero,List.set_cons_succ]
  go_wp2
  go_region
  all_goals
   obtain ⟨e1,e2,e3,e4⟩:=retE (x:=x) (y:=y) H0.out H1.out H2.out hpq hpr hqr hBp hBq hBr (by omega)
   exact ⟨rfl,rfl,e1,e2,e3,e4⟩
def ParRes (B:Nat) (W:World) (r:EO EX) (v:Value):Prop :=
 match r with
 |.ok x j=>∃ vx,v=.tuple #[vx,.int .i64 j,.agg #[.int .i64 0,.int .i64 0]]∧IsEX B W x vx
 |.err p q=>v=.tuple #[.agg zeroE,.int .i64 0,.agg #[.int .i64 p,.int .i64 q]]
 |.out=>True
section
variable {o:Option Addr} {c:Nat} {l:List TZ}
theorem ZAt.old {w:World} {o:Option Addr} {l:List TZ} (h:ZAt w o l) (hl:l≠[]):∀ a,o=some a→a.block < w.heap.size:=by
 intro a ha
 obtain ⟨t,r,rfl⟩:=List.exists_cons_of_ne_nil hl
 obtain ⟨a',ho,hc⟩:=h 0 t rfl
 rw [ha] at ho
 injection ho with ho
 subst ho
 have:=World.block_lt_of_cell? _ _ (hc 0 _ rfl)
 rwa [add_block] at this
theorem PS.start {w w1:World} {at_:Int} (h:ZAt w o l) {m:Nat} (hL:LvlsAt w1 m) (hB:Below w.heap.size w w1) :
  PS w1.heap.size o c m l at_ (0:Nat) (w1.alloc (.cells #[.slice o l.length c,.int .i64 at_,.int .i64 0,.map (some m)] 89)):=by
 refine ⟨Blk.new _ _ _,fun k t ht=>?_,World.ownsMap.alloc hL _,fun hl a ha=>Nat.lt_of_lt_of_le (h.old hl a ha) hB.size,World.ownsMap.lt hL⟩
 obtain ⟨a,ha,hc⟩:=h k t ht
 refine ⟨a,ha,fun j u hu=>?_⟩
 have h1:=(hB.cell (World.block_lt_of_cell? _ _ (hc j u hu))).trans (hc j u hu)
 exact (((Below.refl _ _).alloc (Nat.le_refl _) _).cell (World.block_lt_of_cell? _ _ h1)).trans h1
theorem parseE_any (at_:Int) (w:World) (h:ZAt w o l) (f:Nat) (HL:∀ b m,LevC b o c m l f) (hr:ex l f 1 0 at_≠.out) :
  Calls Tryz.prog 23 #[.slice o l.length c,.int .i64 at_] w fun e w'=>∃ v,e=.returned v∧ParRes w.heap.size w' (ex l f 1 0 at_) v∧Below w.heap.size w w':=by
 have hmf:∀ (fn:Fn) (first cap:Array Value) (w:World),(Instr.makeFunc fn first cap).run Tryz.prog w=.ok (.func fn first cap) w:=fun _ _ _ _=>rfl
 have HOP:=Lib.hid operators_any
 have HZ:=Lib.hid h
 have HLL:=Lib.hid HL
 have HB0:=Lib.hid ((((Below.refl w.heap.size w).alloc (Nat.le_refl _) (.cells zeroE 31)).alloc (by simp) (.cells #[.int .i64 0] 3)).alloc (by simp;omega) (.cells #[.int .i64 0,.int .i64 0] 44))
 have HX0:=Lib.hid (((Blk.new w 31 zeroE).alloc (.cells #[.int .i64 0] 3)).alloc (.cells #[.int .i64 0,.int .i64 0] 44))
 have HY0:Hid (Blk (((w.alloc (.cells zeroE 31)).alloc (.cells #[.int .i64 0] 3)).alloc (.cells #[.int .i64 0,.int .i64 0] 44)) (w.heap.size + 1) 3 #[.int .i64 0]):=by
  have:=(Blk.new (w.alloc (.cells zeroE 31)) 3 #[.int .i64 0]).alloc (.cells #[.int .i64 0,.int .i64 0] 44)
  show Blk _ _ _ _
  rwa [World.size_alloc] at this
 have HG0:Hid (Blk (((w.alloc (.cells zeroE 31)).alloc (.cells #[.int .i64 0] 3)).alloc (.cells #[.int .i64 0,.int .i64 0] 44)) (w.heap.size + 1 + 1) 44 #[.int .i64 0,.int .i64 0]):=by
  have:=Blk.new ((w.alloc (.cells zeroE 31)).alloc (.cells #[.int .i64 0] 3)) 44 #[.int .i64 0,.int .i64 0]
  show Blk _ _ _ _
  rwa [World.size_alloc,World.size_alloc] at this
 clear h HL
 cases hq:ex l f 1 0 at_ with
 |out=>exact (hr hq).elim
 |err p q =>
  go_enter_defers Tryz.func23,Tryz.ntmps23
  go_wp2_with fail
  refine (HOP.out _).mono ?_
  rintro e w1 ⟨rfl,hL,hB⟩
  rw [World.size_alloc,World.size_alloc,World.size_alloc] at hL
  have hB1:Below w.heap.size w w1:=HB0.out.trans (hB.mono HB0.out.size)
  have hX1:=HX0.out.below hB
  have hY1:=HY0.out.below hB
  have hG1:=HG0.out.below hB
  have hz:=hG1.lt
  have S1:=Lib.hid (PS.start (at_:=at_) (c:=c) HZ.out hL hB1)
  have HC:=Lib.hid (HLL.out w1.heap.size _ 1 1 0 at_ _ rfl (by decide) (by decide) (by decide) S1.out (by rw [hq];simp))
  rw [hq] at HC
  have X1:=Lib.hid hX1
  have Y1:=Lib.hid hY1
  have G1:=Lib.hid hG1
  have B1:=Lib.hid hB1
  clear hL hB hB1 hX1 hY1 hG1 hq hr HLL HOP HX0 HY0 HG0 HB0
  go_wp2_with fail
  refine HC.out.mono ?_
  rintro e w2 ⟨rfl,hK⟩
  have hx2:=(X1.out.alloc (.cells #[.slice o l.length c,.int .i64 at_,.int .i64 0,.map (some _)] 89)).kp hK (by omega)
  have hy2:=(Y1.out.alloc (.cells #[.slice o l.length c,.int .i64 at_,.int .i64 0,.map (some _)] 89)).kp hK (by omega)
  have hg2:=(G1.out.alloc (.cells #[.slice o l.length c,.int .i64 at_,.int .i64 0,.map (some _)] 89)).kp hK (by omega)
  have B2:=Lib.hid ((B1.out.alloc B1.out.size _).trans ((hK.below (by simp)).mono (by omega)))
  have X2:=Lib.hid hx2
  have Y2:=Lib.hid hy2
  have G2:=Lib.hid hg2
  clear hK hx2 hy2 hg2
  go_wp2
  unfold thrown
  refine leaves_cons (f:=42) (args:=#[.pointer (some ⟨w.heap.size,0,none⟩),.pointer (some ⟨w.heap.size + 1,0,none⟩),.pointer (some ⟨w.heap.size + 1 + 1,0,none⟩)]) (by simp) (by simp [go_sem]) ?_
  refine (catch_fault w.heap.size w.heap.size (w.heap.size + 1) (w.heap.size + 1 + 1) p q w2 X2.out Y2.out G2.out (by omega) (by omega) (by omega) (Nat.le_refl _) (by omega) (by omega)).mono ?_
  rintro e u' w3 ⟨rfl,rfl,hX,hY,hG,hB⟩
  have c0:=hX.cell
  have c1:=hY.cell
  have c2:=hG.cell
  have B3:=Lib.hid (B2.out.trans hB)
  clear hX hY hG hB
  simp [Leaves,settle,results,Tryz.results23,go_sem,c0,c1,c2]
  exact ⟨rfl,B3.out⟩
 |ok x j =>
  go_enter_defers Tryz.func23,Tryz.ntmps23
  go_wp2_with fail
  refine (HOP.out _).mono ?_
  rintro e w1 ⟨rfl,hL,hB⟩
  rw [World.size_alloc,World.size_alloc,World.size_alloc] at hL
  have hB1:Below w.heap.size w w1:=HB0.out.trans (hB.mono HB0.out.size)
  have hX1:=HX0.out.below hB
  have hY1:=HY0.out.below hB
  have hG1:=HG0.out.below hB
  have hz:=hG1.lt
  have S1:=Lib.hid (PS.start (at_:=at_) (c:=c) HZ.out hL hB1)
  have HC:=Lib.hid (HLL.out w1.heap.size _ 1 1 0 at_ _ rfl (by decide) (by decide) (by decide) S1.out (by rw [hq];simp))
  rw [hq] at HC
  have X1:=Lib.hid hX1
  have Y1:=Lib.hid hY1
  have G1:=Lib.hid hG1
  have B1:=Lib.hid hB1
  clear hL hB hB1 hX1 hY1 hG1 hq hr HLL HOP HX0 HY0 HG0 HB0
  go_wp2_with fail
  refine HC.out.mono ?_
  rintro e w2 ⟨v,rfl,hx,hS,hK⟩
  obtain ⟨n,nm,tk,tp,tg,tn,tz,ta,o',c',rfl,_⟩:=hx.parts
  have hx2:=(X1.out.alloc (.cells #[.slice o l.length c,.int .i64 at_,.int .i64 0,.map (some (w.heap.size + 1 + 1 + 1))] 89)).kp hK (by omega)
  have hy2:=(Y1.out.alloc (.cells #[.slice o l.length c,.int .i64 at_,.int .i64 0,.map (some (w.heap.size + 1 + 1 + 1))] 89)).kp hK (by omega)
  have hg2:=(G1.out.alloc (.cells #[.slice o l.length c,.int .i64 at_,.int .i64 0,.map (some (w.heap.size + 1 + 1 + 1))] 89)).kp hK (by omega)
  have c20:=hx2.cell
  have f20:=hx2.frozen
  simp only [zeroE] at c20
  have B3:Hid (Below w.heap.size w (set11 w2 w.heap.size (.int .i64 x.kind) (.int .i64 x.pos) (.int .i64 x.stop) (.string nm) (.int .i64 n) (.int .i64 tk) (.int .i64 tp) (.string tg) (.string tn) (.slice tz ta ta) (.slice o' x.args.length c'))):=set11_below ((B1.out.alloc B1.out.size (.cells #[.slice o l.length c,.int .i64 at_,.int .i64 0,.map (some (w.heap.size + 1 + 1 + 1))] 89)).trans ((hK.below (by simp)).mono (by omega))) (Nat.le_refl _) _ _ _ _ _ _ _ _ _ _ _
  have X3:=Lib.hid (blk_set11 hx2 (.int .i64 x.kind) (.int .i64 x.pos) (.int .i64 x.stop) (.string nm) (.int .i64 n) (.int .i64 tk) (.int .i64 tp) (.string tg) (.string tn) (.slice tz ta ta) (.slice o' x.args.length c'))
  have Y3:=Lib.hid (blk_far11 hy2 (r:=w.heap.size) (by omega) (.int .i64 x.kind) (.int .i64 x.pos) (.int .i64 x.stop) (.string nm) (.int .i64 n) (.int .i64 tk) (.int .i64 tp) (.string tg) (.string tn) (.slice tz ta ta) (.slice o' x.args.length c'))
  have G3:=Lib.hid (blk_far11 hg2 (r:=w.heap.size) (by omega) (.int .i64 x.kind) (.int .i64 x.pos) (.int .i64 x.stop) (.string nm) (.int .i64 n) (.int .i64 tk) (.int .i64 tp) (.string tg) (.string tn) (.slice tz ta ta) (.slice o' x.args.length c'))
  have P3:=Lib.hid (blk_far11 hS.blk (r:=w.heap.size) (by omega) (.int .i64 x.kind) (.int .i64 x.pos) (.int .i64 x.stop) (.string nm) (.int .i64 n) (.int .i64 tk) (.int .i64 tp) (.string tg) (.string tn) (.slice tz ta ta) (.slice o' x.args.length c'))
  have HX3:=Lib.hid (IsEP.set11 (P:=fun q=>w.heap.size + 1 + 1 + 1≤q) (IsEP.mono (fun q _ (hp:_≤q)=>by rw [World.size_alloc] at hp;omega) hx) (r:=w.heap.size) (by omega) (.int .i64 x.kind) (.int .i64 x.pos) (.int .i64 x.stop) (.string nm) (.int .i64 n) (.int .i64 tk) (.int .i64 tp) (.string tg) (.string tn) (.slice tz ta ta) (.slice o' x.args.length c'))
  have hbw:w1.heap.size < w2.heap.size:=hS.blk.lt
  clear hx hS hK hx2 hy2 hg2
  go_wp2_with fail
  change Code.wp _ _ _ _ (set11 w2 w.heap.size (.int .i64 x.kind) (.int .i64 x.pos) (.int .i64 x.stop) (.string nm) (.int .i64 n) (.int .i64 tk) (.int .i64 tp) (.string tg) (.string tn) (.slice tz ta ta) (.slice o' x.args.length c'))
  generalize set11 w2 w.heap.size (.int .i64 x.kind) (.int .i64 x.pos) (.int .i64 x.stop) (.string nm) (.int .i64 n) (.int .i64 tk) (.int .i64 tp) (.string tg) (.string tn) (.slice tz ta ta) (.slice o' x.args.length c')=w3 at *
  have c0:=X3.out.cell
  have f0:=X3.out.frozen
  have c1:=Y3.out.cell
  have f1:=Y3.out.frozen
  have c2:=G3.out.cell
  have f2:=G3.out.frozen
  have cp:=P3.out.cell
  clear c20 f20
  go_region
  all_goals
   go_wp2
   refine leaves_cons (f:=42) (args:=#[.pointer (some ⟨w.heap.size,0,none⟩),.pointer (some ⟨w.heap.size + 1,0,none⟩),.pointer (some ⟨w.heap.size + 1 + 1,0,none⟩)]) (by simp) (by simp [go_sem]) ?_
   refine (catch_idle _ _ _ _).mono ?_
   rintro e u' w'' ⟨rfl,rfl,rfl⟩
   simp [Leaves,settle,results,Tryz.results23,go_sem,c0,c1,c2]
   refine ⟨⟨_,rfl,IsEX.mono (B:=w.heap.size + 1 + 1 + 1) (by omega) (IsEP.below ((((HX3.out.set11 (r:=w.heap.size) (by omega) _ _ _ _ _ _ _ _ _ _ _).set_ (p:=⟨w.heap.size + 1,0,none⟩) (by simp only;omega) _).set_ (p:=⟨w.heap.size + 1 + 1,0,none⟩) (by simp only;omega) _).set_ (p:=⟨w.heap.size + 1 + 1,1,none⟩) (by simp only;omega) _) (Below.refl _ _).drew)⟩,?_⟩
   exact (set2_below ((set11_below B3.out (Nat.le_refl _) _ _ _ _ _ _ _ _ _ _ _).setCell (p:=⟨w.heap.size + 1,0,none⟩) (by simp only;omega) _) (r:=w.heap.size + 1 + 1) (by omega) _ _).drew
end
end Go.Proofs.YtfcgoainglpdlaaGreatDoor
