/- The levels of operators: the map looked into, an expression's level. No condition. The program's walk of an expression where one of a level must stand, and of an argument (made by tools/genpre.py). Condition: the text is of at most 2^47 bytes. The closure that puts commas; types in a row (made by .. -/
import Derived.Test.YtfcgoainglpdlaaGreatDoorV25
import Derived.Test.YtfcgoainglpdlaaGreatDoorV21
import Derived.Test.YtfcgoainglpdlaaGreatDoorV03
import Derived.Test.YtfcgoainglpdlaaGreatDoorV13
set_option maxRecDepth 100000
set_option maxHeartbeats 2000000
namespace Go.Proofs.YtfcgoainglpdlaaGreatDoor
open Go.RowKit
open Go.Lib hiding intOf
theorem lvlsD_any (l:List UInt8) (z:DataW Unit):lvlsD.atKey (.string l) z=if lvlT l=0 then z else .lit (.int .i64 (lvlT l:Nat)):=by
 have m0:Maps.IsMap (DataW.map (H:=Unit) []):=Maps.isMap_empty
 have m1:=m0.put (.string [38,38]) (.lit (.int .i64 1))
 have m2:=m1.put (.string [61,61]) (.lit (.int .i64 2))
 have m3:=m2.put (.string [60]) (.lit (.int .i64 2))
 have m4:=m3.put (.string [43]) (.lit (.int .i64 3))
 have m5:=m4.put (.string [45]) (.lit (.int .i64 3))
 unfold lvlsD
 by_cases h6:l=[42]
 ·subst h6;rw [Maps.atKey_put_same m5 (by trivial)];rfl
 rw [Maps.atKey_put_other (by intro e;injection e with e;exact h6 e)]
 by_cases h5:l=[45]
 ·subst h5;rw [Maps.atKey_put_same m4 (by trivial)];rfl
 rw [Maps.atKey_put_other (by intro e;injection e with e;exact h5 e)]
 by_cases h4:l=[43]
 ·subst h4;rw [Maps.atKey_put_same m3 (by trivial)];rfl
 rw [Maps.atKey_put_other (by intro e;injection e with e;exact h4 e)]
 by_cases h3:l=[60]
 ·subst h3;rw [Maps.atKey_put_same m2 (by trivial)];rfl
 rw [Maps.atKey_put_other (by intro e;injection e with e;exact h3 e)]
 by_cases h2:l=[61,61]
 ·subst h2;rw [Maps.atKey_put_same m1 (by trivial)];rfl
 rw [Maps.atKey_put_other (by intro e;injection e with e;exact h2 e)]
 by_cases h1:l=[38,38]
 ·subst h1;rw [Maps.atKey_put_same m0 (by trivial)];rfl
 rw [Maps.atKey_put_other (by intro e;injection e with e;exact h1 e)]
 have e:lvlT l=0:=by simp [lvlT,h1,h2,h3,h4,h5,h6]
 rw [if_pos e]
 rfl
theorem lookup_two {w:World} {m:Nat} (h:LvlsAt w m) (t:ByteArray) (ht:t.size≤9223372036854775807) :
  (Instr.lookup 86 (.map (some m)) (.string t) true).run Tryz.prog w=.ok (.tuple #[.int .i64 (lvlT t.data.toList:Nat),.bool (decide (lvlT t.data.toList≠0))]) w:=by
 obtain ⟨es,clock,hb,F,_,hD⟩:=h
 rcases Maps.fit_look true (Maps.string_keyed Tryz.underlying9) Tryz.underlying86 (Tryz.zeroValue3 _) hb F (WideMaps.keyOf_string_mk Tryz.underlying9 (s:=t) (by unfold maxLen;omega)) with ⟨hrun,_,hat⟩ | ⟨e0,y,_,_,hrun,hRv,hat,_⟩
 ·rw [← hD] at hat
  have h1:=hat (.lit (.int .i64 7))
  have h0:lvlT t.data.toList=0:=by
   refine Classical.byContradiction fun hc=>?_
   have h2:=hat (.lit (.int .i64 8))
   rw [lvlsD_any,if_neg hc] at h1 h2
   rw [h1] at h2
   injection h2 with h2
   injection h2 with _ h2
   omega
  rw [hrun,h0]
  rfl
 ·rw [← hD] at hat
  have h0:lvlT t.data.toList≠0:=by
   intro hc
   have h1:=hat (.lit (.int .i64 7))
   have h2:=hat (.lit (.int .i64 8))
   rw [lvlsD_any,if_pos hc] at h1 h2
   rw [← h1] at h2
   injection h2 with h2
   injection h2 with _ h2
   omega
  have h1:=hat (.lit (.int .i64 7))
  rw [lvlsD_any,if_neg h0] at h1
  obtain ⟨c,hv,hc,_⟩:=plainElem_int_inv Tryz.underlying3 hRv
  have hy:y.1=.lit (.int .i64 c):=by rw [hc]
  rw [hy] at h1
  injection h1 with h1
  injection h1 with _ h1
  rw [hrun,hv,← h1]
  simp [h0]
theorem levG_bin (nm:ByteArray):levK 9 nm=if lvlT nm.data.toList=0 then (1:Int) else ((lvlT nm.data.toList:Nat):Int):=by
 unfold levK lvlT
 have hb:∀ l:List UInt8,(nm=⟨l.toArray⟩) ↔ nm.data.toList=l:=fun l=>by
  constructor
  ·intro e;rw [e]
  ·intro e;rw [← e]
 have e1:=hb [61,61]
 have e2:=hb [60]
 have e3:=hb [43]
 have e4:=hb [45]
 have e5:=hb [42]
 rw [if_neg (by decide),if_pos rfl]
 by_cases h1:nm.data.toList=[38,38]
 ·simp [h1,hb]
 by_cases h2:nm.data.toList=[61,61]
 ·simp [h2,hb]
 by_cases h3:nm.data.toList=[60]
 ·simp [h3,hb]
 by_cases h4:nm.data.toList=[43]
 ·simp [h4,hb]
 by_cases h5:nm.data.toList=[45]
 ·simp [h5,hb]
 by_cases h6:nm.data.toList=[42]
 ·simp [h6,hb]
 simp [h1,h2,h3,h4,h5,h6,hb]
theorem level_any' (w0:World) (b m:Nat) (l:List UInt8) (x:GX) (v:Value) (w:World) (hv:IsX w0 x v) (hp:SP w0 b m l w) (hn:∀ k p s nm n t args,x=.mk k p s nm n t args→k=9→nm.size≤9223372036854775807) :
  Calls Tryz.prog 48 #[.pointer (some ⟨b,0,none⟩),v] w fun e w'=>e=.returned (.int .i64 (levG x))∧SP w0 b m l w'∧Kq w0.heap.size b w w':=by
 obtain ⟨k,p,s,nm,n,t,args⟩:=x
 have hnm:=hn k p s nm n t args rfl
 clear hn
 unfold IsX at hv
 obtain ⟨y0,y1,y2,y3,y4,o,c,rfl,n1,n2,ht,hl,hc,ha⟩:=hv
 have HX:=Lib.hid (Blk.new w 31 #[.int .i64 k,.int .i64 p,.int .i64 s,.string nm,.int .i64 n,y0,y1,y2,y3,y4,.slice o args.length c])
 have HP1:=Lib.hid (hp.alloc (.cells #[.int .i64 k,.int .i64 p,.int .i64 s,.string nm,.int .i64 n,y0,y1,y2,y3,y4,.slice o args.length c] 31))
 have HK1:=Lib.hid ((Kq.refl w0.heap.size b w).alloc hp.base (.cells #[.int .i64 k,.int .i64 p,.int .i64 s,.string nm,.int .i64 n,y0,y1,y2,y3,y4,.slice o args.length c] 31))
 have hbb:Hid (w.heap.size≠b):=by have:=hp.lt;show _≠_;omega
 clear hp ht hl hc ha
 simp only [levG]
 by_cases h9:k=9
 ·subst h9
  have hlk:=Lib.hid (lookup_two HP1.out.drew.lev nm (hnm rfl))
  have cm:=HP1.out.drew.pw.map_
  have hlev:=levG_bin nm
  by_cases hz:lvlT nm.data.toList=0
  ·rw [if_pos hz] at hlev
   rw [hlev]
   have hlk2:=hlk.out
   rw [hz] at hlk2
   clear hlev hz hlk
   go_enter Tryz.func48,Tryz.ntmps48
   go_wp2
   go_region
   all_goals
    go_wp2
    go_ret
    exact ⟨rfl,HP1.out.drew,HK1.out.drew⟩
  ·rw [if_neg hz] at hlev
   rw [hlev]
   have hlk2:=hlk.out
   have hd:decide (lvlT nm.data.toList≠0)=true:=by simpa using hz
   rw [hd] at hlk2
   clear hlev hz hlk hd
   generalize lvlT nm.data.toList=q at *
   go_enter Tryz.func48,Tryz.ntmps48
   go_wp2
   go_region
   all_goals
    go_wp2
    go_ret
    exact ⟨rfl,HP1.out.drew,HK1.out.drew⟩
 by_cases h10:k=10
 ·subst h10
  have e:levK 10 nm=5:=by unfold levK;simp
  rw [e]
  go_enter Tryz.func48,Tryz.ntmps48
  go_wp2
  go_ret
  exact ⟨rfl,HP1.out,HK1.out⟩
 ·have e:levK k nm=6:=by unfold levK;simp [h9,h10]
  rw [e]
  go_enter Tryz.func48,Tryz.ntmps48
  go_wp2
  go_ret
  exact ⟨rfl,HP1.out,HK1.out⟩
end Go.Proofs.YtfcgoainglpdlaaGreatDoor
namespace Go.Proofs.YtfcgoainglpdlaaGreatDoor
open Go.RowKit
open Go.Lib hiding intOf
def BareIs (w0:World) (b m:Nat) (x:GX):Prop:=∀ (v:Value) (l:List UInt8) (w:World),IsX w0 x v→SP w0 b m l w→Does w0 b m 49 #[.pointer (some ⟨b,0,none⟩),v] (plnG x).data.toList w l
theorem bx_no {m k:Int} {t:ByteArray} (h:¬ k < m):bx m (k,t)=t:=if_neg h
theorem bx_yes {m k:Int} {t:ByteArray} (h:k < m):(bx m (k,t)).data.toList=[40]++t.data.toList++[41]:=by
 have e:bx m (k,t)=⟨#[40]⟩++t++⟨#[41]⟩:=if_pos h
 rw [e]
 simp [ByteArray.data_append]
theorem bin_name (p s:Int) (nm:ByteArray) (n:Int) (t:GT) (args:List GX):nm.size≤(plnG (.mk 9 p s nm n t args)).size:=by
 rw [plnG]
 simp only [show ¬ (9:Int)=1 by decide,show ¬ (9:Int)=2 by decide,show ¬ (9:Int)=3 by decide,show ¬ (9:Int)=4 by decide,show ¬ (9:Int)=5 by decide,show ¬ (9:Int)=6 by decide,show ¬ (9:Int)=7 by decide,show ¬ (9:Int)=8 by decide,show ¬ (9:Int)=10 by decide,if_false,if_true,ByteArray.size_append]
 omega
theorem bsize (t:ByteArray):t.data.toList.length=t.size:=by rw [Array.length_toList];rfl
theorem IsX.form {w:World} {x:GX} {v:Value} (h:IsX w x v):∃ (k p s:Int) (nm:ByteArray) (n:Int) (y0 y1 y2 y3 y4:Value) (o:Option Addr) (q c:Nat),v=.agg #[.int .i64 k,.int .i64 p,.int .i64 s,.string nm,.int .i64 n,y0,y1,y2,y3,y4,.slice o q c]:=by
 obtain ⟨k,p,s,nm,n,t,args⟩:=x
 unfold IsX at h
 obtain ⟨y0,y1,y2,y3,y4,o,c,rfl,_⟩:=h
 exact ⟨k,p,s,nm,n,y0,y1,y2,y3,y4,o,_,c,rfl⟩
theorem expr_of (w0:World) (b m:Nat) (x:GX) (hx:BareIs w0 b m x) (v:Value) (mm:Int) (l:List UInt8) (w:World) (hv:IsX w0 x v) (hp:SP w0 b m l w) :
  Does w0 b m 29 #[.pointer (some ⟨b,0,none⟩),v,.int .i64 mm] (bx mm (levG x,plnG x)).data.toList w l:=by
 intro hl
 have HB:=Lib.hid (fun (l':List UInt8) (W:World) (hp:SP w0 b m l' W)=>hx v l' W hv hp)
 have hsz:(plnG x).size≤9223372036854775807:=by
  by_cases hm:levG x < mm
  ·rw [bx_yes hm] at hl
   simp only [List.length_append] at hl
   rw [← bsize];omega
  ·rw [bx_no hm] at hl
   rw [← bsize];omega
 have HV:=Lib.hid (fun (l':List UInt8) (W:World) (hp:SP w0 b m l' W)=>level_any' w0 b m l' x v W hv hp (fun k p s nm n t args e hk=>by subst e;subst hk;exact Nat.le_trans (bin_name p s nm n t args) hsz))
 obtain ⟨k,p,s,nm,n,y0,y1,y2,y3,y4,o,q,c,rfl⟩:=hv.form
 have HX1:=Lib.hid (Blk.new w 31 #[.int .i64 k,.int .i64 p,.int .i64 s,.string nm,.int .i64 n,y0,y1,y2,y3,y4,.slice o q c])
 have HP1:=Lib.hid (hp.alloc (.cells #[.int .i64 k,.int .i64 p,.int .i64 s,.string nm,.int .i64 n,y0,y1,y2,y3,y4,.slice o q c] 31))
 have HK1:=Lib.hid ((Kq.refl w0.heap.size b w).alloc hp.base (.cells #[.int .i64 k,.int .i64 p,.int .i64 s,.string nm,.int .i64 n,y0,y1,y2,y3,y4,.slice o q c] 31))
 have hbb:Hid (w.heap.size≠b):=by have:=hp.lt;show _≠_;omega
 clear hp hv hx hsz
 generalize plnG x=t at *
 generalize levG x=lev at *
 by_cases hm:lev < mm
 ·rw [bx_yes hm] at hl ⊢
  simp only [List.length_append] at hl
  have HL2:Hid (l.length + (⟨#[40]⟩:ByteArray).data.toList.length≤140737488355328):=by show _≤_;have:(⟨#[40]⟩:ByteArray).data.toList.length=[(40:UInt8)].length:=rfl;omega
  have HL3:Hid ((l++(⟨#[40]⟩:ByteArray).data.toList).length + t.data.toList.length≤140737488355328):=by simp only [List.length_append];show _≤_;have:(⟨#[40]⟩:ByteArray).data.toList.length=[(40:UInt8)].length:=rfl;omega
  have HL4:Hid ((l++(⟨#[40]⟩:ByteArray).data.toList++t.data.toList).length + (⟨#[41]⟩:ByteArray).data.toList.length≤140737488355328):=by simp only [List.length_append];show _≤_;have:(⟨#[40]⟩:ByteArray).data.toList.length=[(40:UInt8)].length:=rfl;have:(⟨#[41]⟩:ByteArray).data.toList.length=[(41:UInt8)].length:=rfl;omega
  have hge:¬ mm≤lev:=by omega
  clear hl hm
  go_enter Tryz.func29,Tryz.ntmps29
  go_wp2_with (first
   |(refine boxLoad 31 11 size11 Tryz.underlying31 rfl _ rfl w.heap.size rfl (cs:=[_,_,_,_,_,_,_,_,_,_,_]) HX3.out rfl ?_)
   |(refine boxLoad 31 11 size11 Tryz.underlying31 rfl _ rfl w.heap.size rfl (cs:=[_,_,_,_,_,_,_,_,_,_,_]) HX2.out rfl ?_)
   |(refine boxLoad 31 11 size11 Tryz.underlying31 rfl _ rfl w.heap.size rfl (cs:=[_,_,_,_,_,_,_,_,_,_,_]) HX1.out rfl ?_)
   |(go_at_call 47;refine (put1 w0 b m _ _ HP4.out _ _ (by simp) HL4.out).mono ?_;rintro e w5 ⟨rfl,hp,hk⟩;have HP5:=Lib.hid hp;have HK5:=Lib.hid (HK4.out.trans hk);clear hp hk)
   |(go_at_call 49;refine (HB.out _ _ HP3.out HL3.out).mono ?_;rintro e w4 ⟨rfl,hp,hk⟩;have HP4:=Lib.hid hp;have HK4:=Lib.hid (HK3.out.trans hk);have HX4:=Lib.hid (hk.blk HX3.out hbb.out (by decide));clear hp hk)
   |(go_at_call 47;refine (put1 w0 b m _ _ HP2.out _ _ (by simp) HL2.out).mono ?_;rintro e w3 ⟨rfl,hp,hk⟩;have HP3:=Lib.hid hp;have HK3:=Lib.hid (HK2.out.trans hk);have HX3:=Lib.hid (hk.blk HX2.out hbb.out (by decide));clear hp hk)
   |(go_at_call 48;refine (HV.out _ _ HP1.out).mono ?_;rintro e w2 ⟨rfl,hp,hk⟩;have HP2:=Lib.hid hp;have HK2:=Lib.hid (HK1.out.trans hk);have HX2:=Lib.hid (hk.blk HX1.out hbb.out (by decide));clear hp hk))
  go_wp2
  first | go_end0 | refine bodyPost_ret (results_none rfl _ _ _) rfl ?_
  refine ⟨rfl,HP5.out.cast ?_,HK5.out⟩
  simp
 ·rw [bx_no hm] at hl ⊢
  have HL:=Lib.hid hl
  have hge:mm≤lev:=by omega
  clear hl hm
  go_enter Tryz.func29,Tryz.ntmps29
  go_wp2_with (first
   |(refine boxLoad 31 11 size11 Tryz.underlying31 rfl _ rfl w.heap.size rfl (cs:=[_,_,_,_,_,_,_,_,_,_,_]) HX2.out rfl ?_)
   |(refine boxLoad 31 11 size11 Tryz.underlying31 rfl _ rfl w.heap.size rfl (cs:=[_,_,_,_,_,_,_,_,_,_,_]) HX1.out rfl ?_)
   |(go_at_call 49;refine (HB.out _ _ HP2.out HL.out).mono ?_;rintro e w3 ⟨rfl,hp,hk⟩;have HP3:=Lib.hid hp;have HK3:=Lib.hid (HK2.out.trans hk);clear hp hk)
   |(go_at_call 48;refine (HV.out _ _ HP1.out).mono ?_;rintro e w2 ⟨rfl,hp,hk⟩;have HP2:=Lib.hid hp;have HK2:=Lib.hid (HK1.out.trans hk);have HX2:=Lib.hid (hk.blk HX1.out hbb.out (by decide));clear hp hk))
  go_wp2
  first | go_end0 | refine bodyPost_ret (results_none rfl _ _ _) rfl ?_
  exact ⟨rfl,HP3.out,HK3.out⟩
theorem argB_some {l:List (Int × ByteArray)} {i:Nat} {m:Int} {q:Int × ByteArray} (h:l[i]?=some q):argB l i m=bx m q:=by unfold argB;rw [h]
theorem argB_none {l:List (Int × ByteArray)} {i:Nat} {m:Int} (h:l[i]?=none):argB l i m=⟨#[63]⟩:=by unfold argB;rw [h]
theorem arg_of (w0:World) (b m:Nat) (k p s:Int) (nm:ByteArray) (n:Int) (t:GT) (args:List GX) (hA:∀ y ∈ args,BareIs w0 b m y) (i:Nat) (v:Value) (mm:Int) (l:List UInt8) (w:World) (hv:IsX w0 (.mk k p s nm n t args) v) (hp:SP w0 b m l w) :
  Does w0 b m 75 #[.pointer (some ⟨b,0,none⟩),v,.int .i64 (i:Nat),.int .i64 mm] (argB (plsG args) i mm).data.toList w l:=by
 intro hl
 unfold IsX at hv
 obtain ⟨y0,y1,y2,y3,y4,o,c,rfl,n1,n2,ht,hol,hoc,ha⟩:=hv
 clear ht hoc n1 n2
 have HX1:=Lib.hid (Blk.new w 31 #[.int .i64 k,.int .i64 p,.int .i64 s,.string nm,.int .i64 n,y0,y1,y2,y3,y4,.slice o args.length c])
 have HP1:=Lib.hid (hp.alloc (.cells #[.int .i64 k,.int .i64 p,.int .i64 s,.string nm,.int .i64 n,y0,y1,y2,y3,y4,.slice o args.length c] 31))
 have HK1:=Lib.hid ((Kq.refl w0.heap.size b w).alloc hp.base (.cells #[.int .i64 k,.int .i64 p,.int .i64 s,.string nm,.int .i64 n,y0,y1,y2,y3,y4,.slice o args.length c] 31))
 clear hp
 by_cases hlt:i < args.length
 ·have hg:args[i]?=some args[i]:=List.getElem?_eq_getElem hlt
  rw [argB_some (q:=(levG args[i],plnG args[i])) (by rw [pls_at,hg];rfl)] at hl ⊢
  have hy:=ha.at_ i hg
  rw [Nat.zero_add] at hy
  have hB:=hA _ (List.getElem_mem hlt)
  generalize args[i]=y at *
  clear hg ha hA
  unfold IsXs at hy
  obtain ⟨⟨a,c0,c1,c2,c3,c4,c5,c6,c7,c8,c9,c10,rfl,e0,e1,e2,e3,e4,e5,e6,e7,e8,e9,e10,hy⟩,_⟩:=hy
  have hR:=Lib.hid (row11 e0 e1 e2 e3 e4 e5 e6 e7 e8 e9 e10)
  have HL:=Lib.hid hl
  have HE:=Lib.hid (fun (l':List UInt8) (W:World) (hp:SP w0 b m l' W)=>expr_of w0 b m y hB _ mm l' W hy hp)
  clear e0 e1 e2 e3 e4 e5 e6 e7 e8 e9 e10 hy hB hl
  have hlt':((i:Int) < (args.length:Int)):=by omega
  have hge:¬ ((args.length:Int)≤(i:Int)):=by omega
  go_enter Tryz.func75,Tryz.ntmps75
  go_wp2_with (first
   |(refine boxLoadG 31 11 size11 Tryz.underlying31 rfl _ rfl _ rfl (cs:=[c0,c1,c2,c3,c4,c5,c6,c7,c8,c9,c10]) (fun j v h=>((HP1.out.below).cell (World.block_lt_of_cell? _ _ (hR.out j v h))).trans (hR.out j v h)) rfl ?_)
   |(go_at_call 29;refine (HE.out _ _ HP1.out HL.out).mono ?_;rintro e w2 ⟨rfl,hp,hk⟩;have HP2:=Lib.hid hp;have HK2:=Lib.hid (HK1.out.trans hk);clear hp hk))
  go_wp2
  first | go_end0 | refine bodyPost_ret (results_none rfl _ _ _) rfl ?_
  exact ⟨rfl,HP2.out,HK2.out⟩
 ·rw [argB_none (by rw [pls_at,List.getElem?_eq_none (by omega)];rfl)] at hl ⊢
  have HL:=Lib.hid hl
  clear hl ha hA
  have hge:((args.length:Int)≤(i:Int)):=by omega
  go_enter Tryz.func75,Tryz.ntmps75
  go_wp2_with (first
   |(go_at_call 47;refine (put1 w0 b m _ _ HP1.out _ _ (by simp) HL.out).mono ?_;rintro e w2 ⟨rfl,hp,hk⟩;have HP2:=Lib.hid hp;have HK2:=Lib.hid (HK1.out.trans hk);clear hp hk))
  go_wp2
  first | go_end0 | refine bodyPost_ret (results_none rfl _ _ _) rfl ?_
  exact ⟨rfl,HP2.out,HK2.out⟩
end Go.Proofs.YtfcgoainglpdlaaGreatDoor
namespace Go.Proofs.YtfcgoainglpdlaaGreatDoor
open Go.RowKit
open Go.Lib hiding intOf
structure CS (w0:World) (b g:Nat) (s:ByteArray) (w:World):Prop where
 one:Blk w g 56 #[.pointer (some ⟨b,0,none⟩)]
 two:Blk w (g + 1) 9 #[.string s]
 far:w0.heap.size≤g∧g≠b∧g + 1≠b
theorem CS.kq {w0 w w':World} {b g:Nat} {s:ByteArray} (h:CS w0 b g s w) (hk:Kq w0.heap.size b w w'):CS w0 b g s w' :=
 ⟨hk.blk h.one h.far.2.1 (by decide),hk.blk h.two h.far.2.2 (by decide),h.far⟩
abbrev commaF (g:Nat):Value:=.func (.func 127) #[] #[.pointer (some ⟨g,0,none⟩),.pointer (some ⟨g + 1,0,none⟩)]
theorem commas_any (w0:World) (b m:Nat) (l:List UInt8) (w:World) (hp:SP w0 b m l w) :
  Calls Tryz.prog 107 #[.pointer (some ⟨b,0,none⟩)] w fun e w'=>e=.returned (commaF w.heap.size)∧(SP w0 b m l w'∧CS w0 b w.heap.size ⟨#[]⟩ w')∧Kq w0.heap.size b w w':=by
 go_enter Tryz.func107,Tryz.ntmps107
 go_wp2
 go_ret
 have h1:=Blk.new w 56 #[.pointer (some ⟨b,0,none⟩)]
 have h2:=Blk.new (w.alloc (.cells #[.pointer (some ⟨b,0,none⟩)] 56)) 9 #[.string ⟨#[]⟩]
 have hk:=(Kq.refl w0.heap.size b w).alloc hp.base (.cells #[.pointer (some ⟨b,0,none⟩)] 56)
 refine ⟨rfl,⟨(hp.alloc _).alloc _,⟨?_,?_,?_⟩⟩,hk.alloc (hp.alloc _).base _⟩
 ·exact h1.below ((Below.refl _ _).alloc (Nat.le_refl _) _)
 ·simpa using h2
 ·have:=hp.lt
  have:=hp.base
  exact ⟨by omega,by omega,by omega⟩
theorem size5:(Tryz.prog.info? 24).map (·.size)=some 5:=by kernel_rfl
theorem row5 {w:World} {a:Addr} {b:Nat} {c0 c1 c2 c3 c4:Value} (h0:w.cell? (a.add b)=some c0) (h1:w.cell? (a.add (b + 1))=some c1) (h2:w.cell? (a.add (b + 2))=some c2) (h3:w.cell? (a.add (b + 3))=some c3) (h4:w.cell? (a.add (b + 4))=some c4) :
  ∀ (j:Nat) (v:Value),[c0,c1,c2,c3,c4][j]?=some v→w.cell? ((a.add b).add j)=some v:=by
 intro j v h
 rw [add_more']
 match j,h with
 |0,h=>cases h;exact h0
 |1,h=>cases h;exact h1
 |2,h=>cases h;exact h2
 |3,h=>cases h;exact h3
 |4,h=>cases h;exact h4
 |j + 5,h=>simp at h
theorem IsGs.at_ {w:World} {o:Option Addr}:∀ {xs:List GT} {i:Nat} (k:Nat) {y:GT},IsGs w o i xs→xs[k]?=some y→IsGs w o (i + k) [y]
 |[],_,_,_,_,h=>by simp at h
 |x::r,i,0,y,h,hy=>by
  simp at hy;subst hy
  unfold IsGs at h ⊢
  exact ⟨h.1,by unfold IsGs;trivial⟩
 |x::r,i,k + 1,y,h,hy=>by
  unfold IsGs at h
  have:=IsGs.at_ (i:=i + 1) k h.2 (by simpa using hy)
  rwa [show i + 1 + k=i + (k + 1) by omega] at this
def restL:List (List UInt8)→List UInt8
 |[]=>[]
 |x::r=>[44,32]++x++restL r
def joinL':List (List UInt8)→List UInt8
 |[]=>[]
 |x::r=>x++restL r
theorem restL_snoc (y:List UInt8):∀ l:List (List UInt8),restL (l++[y])=restL l++([44,32]++y)
 |[]=>by simp [restL]
 |x::r=>by simp [restL,restL_snoc y r]
theorem joinL_snoc (y:List UInt8) (l:List (List UInt8)):joinL' (l++[y])=joinL' l++((if l.length=0 then [] else [44,32])++y):=by
 cases l with
 |nil=>simp [joinL',restL]
 |cons x r=>simp [joinL',restL_snoc]
theorem restL_app:∀ (a c:List (List UInt8)),restL (a++c)=restL a++restL c
 |[],c=>rfl
 |x::r,c=>by simp [restL,restL_app r c]
theorem joinL_take_le (l:List (List UInt8)) (k:Nat):(joinL' (l.take k)).length≤(joinL' l).length:=by
 cases l with
 |nil=>simp
 |cons x r =>
  cases k with
  |zero=>simp [joinL']
  |succ k =>
   have h:restL r=restL (r.take k)++restL (r.drop k):=by rw [← restL_app,List.take_append_drop]
   simp only [List.take_succ_cons,joinL',h,List.length_append]
   omega
def sepB (j:Nat):ByteArray:=if j=0 then ⟨#[]⟩ else ⟨#[44,32]⟩
structure Kc (B b g:Nat) (w w':World):Prop where
 below:Below B w w'
 others:∀ (k:Nat) (o:Obj),w.heap[k]?=some o→k≠b→k≠g + 1→(∀ c fz,o≠.cells c 5 fz)→w'.heap[k]?=some o
theorem Kc.blk {B b g:Nat} {w w':World} (h:Kc B b g w w') {k:Nat} {t:TypeId} {cs:Array Value} (hk:Blk w k t cs) (hb:k≠b) (hg:k≠g + 1) (ht:t≠5):Blk w' k t cs :=
 h.others k _ hk hb hg fun c fz e=>by simp only [Obj.cells.injEq] at e;exact ht e.2.1
theorem Kq.kc {B b g:Nat} {w w1 w2:World} (h:Kq B b w w1) (k:Kc B b g w1 w2) (hg:w.heap.size≤g + 1):Kq B b w w2 :=
 ⟨h.below.trans k.below,fun i o hi hb ho=>k.others i o (h.others i o hi hb ho) (fun e=>hb (by rw [e])) (fun e=>by
  have:=(Array.getElem?_eq_some_iff.1 hi).1
  omega) ho⟩
theorem comma_any (w0:World) (b m g:Nat) (s:ByteArray) (l:List UInt8) (w:World) (hp:SP w0 b m l w) (hc:CS w0 b g s w) (hl:l.length + s.data.toList.length≤140737488355328) :
  Calls Tryz.prog 127 #[.pointer (some ⟨g,0,none⟩),.pointer (some ⟨g + 1,0,none⟩)] w fun e w'=>e=.returned (.tuple #[])∧(SP w0 b m (l++s.data.toList) w'∧CS w0 b g ⟨#[44,32]⟩ w')∧Kc w0.heap.size b g w w':=by
 have c0:=hc.one.cell 0
 have c1:=hc.two.cell 0
 simp only [List.getElem?_toArray,List.getElem?_cons_zero] at c0 c1
 have HP1:=Lib.hid hp
 have HK1:=Lib.hid (Kq.refl w0.heap.size b w)
 have HC:=Lib.hid hc
 have HL:=Lib.hid hl
 clear hp hc hl
 go_enter Tryz.func127,Tryz.ntmps127
 go_wp2_with (go_at_call 47;refine (put1 w0 b m _ _ HP1.out _ _ rfl HL.out).mono ?_;rintro e w2 ⟨rfl,hp,hk⟩;have HP2:=Lib.hid hp;have HK2:=Lib.hid (HK1.out.trans hk);have HC2:=Lib.hid (HC.out.kq hk);have f2:=HC2.out.two.frozen 0;have d2:=HC2.out.two.cell;clear hp hk)
 first | go_end0 | refine bodyPost_ret (results_none rfl _ _ _) rfl ?_
 have hC:=HC2.out
 refine ⟨rfl,⟨HP2.out.set_ hC.two (by decide) hC.far.2.2 (by have:=hC.far.1;omega) _,⟨hC.one.far (p:=⟨g + 1,0,none⟩) (by simp) _,?_,hC.far⟩⟩,?_⟩
 ·have:=hC.two.set_ 0 (.string ⟨#[44,32]⟩)
  simpa using this
 ·refine ⟨HK2.out.below.setCell (p:=⟨g + 1,0,none⟩) (by have:=hC.far.1;show _≤g + 1;omega) _,fun k o hk hb hg ho=>?_⟩
  rw [Below.heap_setCell _ _ _ _ (fun e=>hg e)]
  exact HK2.out.others k o hk (fun e=>hb (by simpa using e)) ho
theorem take_snoc {α:Type} {l:List α} {j:Nat} {y:α} (h:l[j]?=some y):l.take (j + 1)=l.take j++[y]:=by
 rw [List.take_add_one,h,Option.toList_some]
def JS (w0:World) (b m g:Nat) (l:List UInt8) (ts:List (List UInt8)) (w:World) (j:Nat) (wr:World):Prop :=
 Hid (SP w0 b m (l++joinL' (ts.take j)) wr)∧Hid (CS w0 b g (sepB j) wr)∧Hid (Kq w0.heap.size b w wr)
theorem sepB_len (j:Nat):(sepB j).data.toList=if j=0 then [] else [44,32]:=by unfold sepB;split <;> rfl
theorem joinL_next {ts:List (List UInt8)} {j:Nat} {y:List UInt8} (h:ts[j]?=some y):joinL' (ts.take (j + 1))=joinL' (ts.take j)++(sepB j).data.toList++y:=by
 have hl:(ts.take j).length=j:=by rw [List.length_take];have:=(List.getElem?_eq_some_iff.1 h).1;omega
 rw [take_snoc h,joinL_snoc,hl,sepB_len,List.append_assoc]
theorem sepB_next (j:Nat):sepB (j + 1)=⟨#[44,32]⟩:=by unfold sepB;rw [if_neg (by omega)]
theorem types_any (w0:World) (b m:Nat) (xs:List GT) (o:Option Addr) (c:Nat) (hn:xs.length≤9223372036854775807) (hx:IsGs w0 o 0 xs) (l:List UInt8) (w:World) (hp:SP w0 b m l w) :
  Does w0 b m 112 #[.pointer (some ⟨b,0,none⟩),.slice o xs.length c] (joinL' (xs.map fun x=>(typG x).data.toList)) w l:=by
 intro hl
 have HP1:=Lib.hid hp
 have HW:=Lib.hid (Kq.refl w0.heap.size b w)
 generalize hts:(xs.map fun x=>(typG x).data.toList)=ts at hl ⊢
 have HTS:=Lib.hid hts
 have HL:=Lib.hid hl
 have HG:=Lib.hid hx
 obtain ⟨G,hG0,hG⟩:∃ G,G=w.heap.size∧w.heap.size≤G + 1:=⟨_,rfl,Nat.le_succ _⟩
 have HG0:=Lib.hid hG
 have HG1:=Lib.hid hG0
 clear hp hts hl hx hG hG0
 go_enter Tryz.func112,Tryz.ntmps112
 go_wp2_with (go_at_call 107;refine (commas_any w0 b m l _ HP1.out).mono ?_;rewrite [← HG1.out];rintro e w2 ⟨rfl,⟨hp2,hc2⟩,hk⟩;have HP2:=Lib.hid hp2;have HC2:=Lib.hid hc2;have HK2:=Lib.hid (HW.out.trans hk);clear hp2 hc2 hk)
 go_loopw [11] (fun i wr=>∃ j:Nat,i=.int .i64 (j:Nat)∧j≤xs.length∧JS w0 b m G l ts w j wr) (fun i _=>xs.length - (RowKit.intOf i).toNat)
 case atStart=>exact ⟨0,rfl,Nat.zero_le _,by simpa [joinL',Hid] using HP2.out,HC2,HK2⟩
 case round =>
  obtain ⟨j,rfl,hj,HPr,HCr,HKr⟩:=hrel
  by_cases hlt:j < xs.length
  ·have hlt':decide ((j:Int) < (xs.length:Int))=true:=by simp;omega
   have hj2:(j:Int) + 1≤9223372036854775807:=by omega
   have hj3:-9223372036854775808≤(j:Int) + 1:=by omega
   have hg:xs[j]?=some xs[j]:=List.getElem?_eq_getElem hlt
   have hy:=HG.out.at_ j hg
   rw [Nat.zero_add] at hy
   have ht:ts[j]?=some (typG xs[j]).data.toList:=by rw [← HTS.out,List.getElem?_map,hg];rfl
   have HN:=Lib.hid (joinL_next ht)
   have HM:=Lib.hid (List.getElem_mem hlt)
   generalize xs[j]=y at *
   have hln:=joinL_take_le ts (j + 1)
   rw [HN.out] at hln
   have HL1:Hid ((l++joinL' (ts.take j)).length + (sepB j).data.toList.length≤140737488355328):=by have h0:=HL.out;(try simp only [List.length_append] at h0);simp only [List.length_append] at hln ⊢;show _≤_;omega
   have HL2:Hid ((l++joinL' (ts.take j)++(sepB j).data.toList).length + (typG y).data.toList.length≤140737488355328):=by have h0:=HL.out;(try simp only [List.length_append] at h0);simp only [List.length_append] at hln ⊢;show _≤_;omega
   clear hln ht hg
   unfold IsGs at hy
   obtain ⟨⟨a,c0,c1,c2,c3,c4,rfl,e0,e1,e2,e3,e4,hy⟩,_⟩:=hy
   have hR:=Lib.hid (row5 e0 e1 e2 e3 e4)
   have hO:=Lib.hid hy.ones
   have HT:=Lib.hid (fun (l':List UInt8) (W:World) (hp:SP w0 b m l' W)=>typed_any w0 b m _ y _ l' W (Nat.lt_succ_self _) hy hp)
   clear e0 e1 e2 e3 e4 hy HM
   have HX1:=Lib.hid (Blk.new wr 24 #[c0,c1,c2,c3,c4])
   have HP3:=Lib.hid (HPr.out.alloc (.cells #[c0,c1,c2,c3,c4] 24))
   have HK3:=Lib.hid (HKr.out.alloc HPr.out.base (.cells #[c0,c1,c2,c3,c4] 24))
   have HC3:=Lib.hid (HCr.out.kq ((Kq.refl _ _ wr).alloc HPr.out.base (.cells #[c0,c1,c2,c3,c4] 24)))
   have hbb:Hid (wr.heap.size≠b∧wr.heap.size≠G + 1):=by have:=HPr.out.lt;have:=HCr.out.two.lt;exact ⟨by omega,by omega⟩
   go_wp2_with (first
    |(refine boxLoad 24 5 size5 Tryz.underlying24 rfl _ rfl wr.heap.size rfl (cs:=[_,_,_,_,_]) HX4.out rfl ?_)
    |(refine boxLoadG 24 5 size5 Tryz.underlying24 rfl _ rfl _ rfl (cs:=[c0,c1,c2,c3,c4]) (fun j v h=>((HPr.out.below).cell (World.block_lt_of_cell? _ _ (hR.out j v h))).trans (hR.out j v h)) rfl ?_)
    |(refine boxNew 24 5 size5 rfl _ _ rfl rfl [c0,c1,c2,c3,c4] rfl rfl rfl (by simp only [List.all_cons,List.all_nil,hO.out.1,hO.out.2.1,hO.out.2.2.1,hO.out.2.2.2.1,hO.out.2.2.2.2];rfl) ?_)
    |(go_at_call 27;refine (HT.out _ _ HP4.out HL2.out).mono ?_;rintro e w5 ⟨rfl,hp,hk⟩;have HP5:=Lib.hid hp;have HK5:=Lib.hid (HK4.out.trans hk);have HC5:=Lib.hid (HC4.out.kq hk);clear hp hk)
    |(go_at_call 127;refine (comma_any w0 b m G _ _ _ HP3.out HC3.out HL1.out).mono ?_;rintro e w4 ⟨rfl,⟨hp,hc⟩,hk⟩;have HP4:=Lib.hid hp;have HC4:=Lib.hid hc;have HX4:=Lib.hid (hk.blk HX1.out hbb.out.1 hbb.out.2 (by decide));have HK4:=Lib.hid (HK3.out.kc hk HG0.out);clear hp hc hk))
   case roundEnd =>
    refine ⟨⟨j + 1,by push_cast;rfl,by omega,HP5.out.cast ?_,?_,HK5⟩,by simp [RowKit.intOf];omega⟩
    ·rw [HN.out];simp only [List.append_assoc]
    ·have:=HC5.out
     rwa [← sepB_next j] at this
  ·have hlt':decide ((j:Int) < (xs.length:Int))=false:=by simp;omega
   have hj':Hid (ts.take j=ts):=List.take_of_length_le (by rw [← HTS.out,List.length_map];omega)
   have HPe:=HPr.out
   rw [hj'.out] at HPe
   have HPE:=Lib.hid HPe
   clear HPe
   go_wp2
   first | go_end0 | refine bodyPost_ret (results_none rfl _ _ _) rfl ?_
   exact ⟨rfl,HPE.out,HKr.out⟩
end Go.Proofs.YtfcgoainglpdlaaGreatDoor
namespace Go.Proofs.YtfcgoainglpdlaaGreatDoor
open Go.RowKit
def RowX {α:Type} (k:Nat) (one:α→Value→Prop) (w:World) (o:Option Addr):Nat→List α→Prop
 |_,[]=>True
 |i,y::r=>(∃ (a:Addr) (cs:List Value),o=some a∧cs.length=k∧(∀ (j:Nat) (v:Value),cs[j]?=some v→w.cell? ((a.add (i * k)).add j)=some v)∧one y (.agg cs.toArray))∧RowX k one w o (i + 1) r
theorem RowX.at_ {α:Type} {k:Nat} {one:α→Value→Prop} {w:World} {o:Option Addr}:∀ {xs:List α} {i:Nat} (n:Nat) {y:α},RowX k one w o i xs→xs[n]?=some y→∃ (a:Addr) (cs:List Value),o=some a∧cs.length=k∧(∀ (j:Nat) (v:Value),cs[j]?=some v→w.cell? ((a.add ((i + n) * k)).add j)=some v)∧one y (.agg cs.toArray)
 |[],_,_,_,_,h=>by simp at h
 |x::r,i,0,y,h,hy=>by
  simp at hy;subst hy
  exact h.1
 |x::r,i,n + 1,y,h,hy=>by
  have:=RowX.at_ (i:=i + 1) n h.2 (by simpa using hy)
  rwa [show i + 1 + n=i + (n + 1) by omega] at this
theorem RowX.keep {α:Type} {k:Nat} {one one':α→Value→Prop} {w w':World} {o:Option Addr} (hk:∀ (a:Addr) (u:Value),w.cell? a=some u→w'.cell? a=some u) (h1:∀ y v,one y v→one' y v):∀ {xs:List α} {i:Nat},RowX k one w o i xs→RowX k one' w' o i xs
 |[],_,_=>trivial
 |y::r,i,h=>by
  obtain ⟨⟨a,cs,ho,hl,hc,hy⟩,hr⟩:=h
  exact ⟨⟨a,cs,ho,hl,fun j v h=>hk _ _ (hc j v h),h1 _ _ hy⟩,RowX.keep hk h1 hr⟩
structure GP where
 name:ByteArray
 pos:Int
 typ:GT
structure GM where
 name:ByteArray
 pos:Int
 params:List GT
 has:Bool
 result:GT
structure GD where
 kind:Int
 pos:Int
 stop:Int
 name:ByteArray
 method:Bool
 recv:GP
 bounds:List GP
 fields:List GP
 methods:List GM
 has:Bool
 result:GT
 body:List GS
structure GF where
 name:ByteArray
 pos:Int
 imports:List (ByteArray × Int)
 decls:List GD
def IsP (w:World) (x:GP) (v:Value):Prop:=∃ (t0 t1 t2 t3 t4:Value),v=.agg #[.string x.name,.int .i64 x.pos,t0,t1,t2,t3,t4]∧IsG w x.typ (.agg #[t0,t1,t2,t3,t4])
def IsM (w:World) (x:GM) (v:Value):Prop:=∃ (o:Option Addr) (c:Nat) (t0 t1 t2 t3 t4:Value),v=.agg #[.string x.name,.int .i64 x.pos,.slice o x.params.length c,.bool x.has,t0,t1,t2,t3,t4]∧x.params.length≤9223372036854775807∧IsGs w o 0 x.params∧IsG w x.result (.agg #[t0,t1,t2,t3,t4])
def IsD (w:World) (x:GD) (v:Value):Prop:=∃ (r0 r1 r2 r3 r4 r5 r6:Value) (ob:Option Addr) (cb:Nat) (of:Option Addr) (cf:Nat) (om:Option Addr) (cm:Nat) (t0 t1 t2 t3 t4:Value) (os:Option Addr) (cs:Nat),
 v=.agg #[.int .i64 x.kind,.int .i64 x.pos,.int .i64 x.stop,.string x.name,.bool x.method,r0,r1,r2,r3,r4,r5,r6,.slice ob x.bounds.length cb,.slice of x.fields.length cf,.slice om x.methods.length cm,.bool x.has,t0,t1,t2,t3,t4,.slice os x.body.length cs] ∧
 (x.bounds.length≤9223372036854775807∧x.fields.length≤9223372036854775807∧x.methods.length≤9223372036854775807∧x.body.length≤9223372036854775807) ∧
 IsP w x.recv (.agg #[r0,r1,r2,r3,r4,r5,r6])∧RowX 7 (IsP w) w ob 0 x.bounds∧RowX 7 (IsP w) w of 0 x.fields∧RowX 9 (IsM w) w om 0 x.methods∧IsG w x.result (.agg #[t0,t1,t2,t3,t4])∧IsSs w os 0 x.body
def IsN (x:ByteArray × Int) (v:Value):Prop:=v=.agg #[.string x.1,.int .i64 x.2]
def IsF (w:World) (x:GF) (v:Value):Prop:=∃ (oi:Option Addr) (ci:Nat) (od:Option Addr) (cd:Nat),
 v=.agg #[.string x.name,.int .i64 x.pos,.slice oi x.imports.length ci,.slice od x.decls.length cd]∧(x.imports.length≤9223372036854775807∧x.decls.length≤9223372036854775807)∧RowX 2 IsN w oi 0 x.imports∧RowX 22 (IsD w) w od 0 x.decls
section
variable {w w':World} (hb:Below w.heap.size w w')
include hb
theorem IsP.below {x:GP} {v:Value} (h:IsP w x v):IsP w' x v:=by
 obtain ⟨t0,t1,t2,t3,t4,hv,ht⟩:=h
 exact ⟨t0,t1,t2,t3,t4,hv,ht.below hb⟩
theorem IsM.below {x:GM} {v:Value} (h:IsM w x v):IsM w' x v:=by
 obtain ⟨o,c,t0,t1,t2,t3,t4,hv,hl,hp,ht⟩:=h
 exact ⟨o,c,t0,t1,t2,t3,t4,hv,hl,hp.below hb,ht.below hb⟩
theorem RowX.below {α:Type} {k:Nat} {one one':α→Value→Prop} {o:Option Addr} {xs:List α} {i:Nat} (h1:∀ y v,one y v→one' y v) (h:RowX k one w o i xs):RowX k one' w' o i xs :=
 h.keep (fun _ _ hc=>(hb.cell (World.block_lt_of_cell? _ _ hc)).trans hc) h1
theorem IsD.below {x:GD} {v:Value} (h:IsD w x v):IsD w' x v:=by
 obtain ⟨r0,r1,r2,r3,r4,r5,r6,ob,cb,of,cf,om,cm,t0,t1,t2,t3,t4,os,cs,hv,hl,h1,h2,h3,h4,h5,h6⟩:=h
 exact ⟨r0,r1,r2,r3,r4,r5,r6,ob,cb,of,cf,om,cm,t0,t1,t2,t3,t4,os,cs,hv,hl,h1.below hb,h2.below hb (fun _ _ h=>h.below hb),h3.below hb (fun _ _ h=>h.below hb),h4.below hb (fun _ _ h=>h.below hb),h5.below hb,h6.below hb⟩
theorem IsF.below {x:GF} {v:Value} (h:IsF w x v):IsF w' x v:=by
 obtain ⟨oi,ci,od,cd,hv,hl,h1,h2⟩:=h
 exact ⟨oi,ci,od,cd,hv,hl,h1.below hb (fun _ _ h=>h),h2.below hb (fun _ _ h=>h.below hb)⟩
end
def typL (t:GT):List UInt8:=(typG t).data.toList
def parL (x:GP):List UInt8:=x.name.data.toList++[32]++typL x.typ
def resL (h:Bool) (t:GT):List UInt8:=if h then [32]++typL t else []
def methL (x:GM):List UInt8:=([32]++(x.name.data.toList++[40]))++joinL' (x.params.map typL)++[41]++resL x.has x.result++[59]
def fldL (x:GP):List UInt8:=[32]++parL x++[59]
def recvL (h:Bool) (x:GP):List UInt8:=if h then [40]++parL x++[41,32] else []
def bndL (l:List GP):List UInt8:=if l.length=0 then [] else [91]++joinL' (l.map parL)++[93]
def funL (x:GD):List UInt8:=[102,117,110,99,32]++recvL x.method x.recv++x.name.data.toList++bndL x.bounds++([40]++joinL' (x.fields.map parL)++[41])++resL x.has x.result++([32,123,10]++blkL 1 x.body++[]++[125])
def decL (x:GD):List UInt8 :=
 if x.kind=1 then ([116,121,112,101,32]++(x.name.data.toList++[32,115,116,114,117,99,116,32,123]))++x.fields.flatMap fldL++[32,125]
 else if x.kind=2 then ([116,121,112,101,32]++(x.name.data.toList++[32,105,110,116,101,114,102,97,99,101,32,123]))++x.methods.flatMap methL++[32,125]
 else if x.kind=3 then funL x
 else [63]
def impL (n:ByteArray × Int):List UInt8:=[105,109,112,111,114,116,32]++(n.1.data.toList++[59,10])
def dclL (x:GD):List UInt8:=decL x++[10]
def filL (x:GF):List UInt8:=([112,97,99,107,97,103,101,32]++(x.name.data.toList++[59,10]))++x.imports.flatMap impL++x.decls.flatMap dclL
theorem flatMap_take_le {α:Type} (f:α→List UInt8) (l:List α) (k:Nat):((l.take k).flatMap f).length≤(l.flatMap f).length:=by
 have h:l.flatMap f=(l.take k).flatMap f++(l.drop k).flatMap f:=by rw [← List.flatMap_append,List.take_append_drop]
 rw [h,List.length_append]
 omega
theorem flatMap_next {α:Type} {f:α→List UInt8} {l:List α} {j:Nat} {y:α} (h:l[j]?=some y):(l.take (j + 1)).flatMap f=(l.take j).flatMap f++f y:=by
 rw [List.take_add_one,h,Option.toList_some,List.flatMap_append]
 simp
end Go.Proofs.YtfcgoainglpdlaaGreatDoor
namespace Go.Proofs.YtfcgoainglpdlaaGreatDoor
open Go.RowKit
open Go.Lib hiding intOf
def toGT:TX→GT
 |.leaf k p g n=>.mk k p g n []
 |.list p x=>.mk 5 p ⟨#[]⟩ ⟨#[]⟩ [toGT x]
theorem IsTP.toG {P:Nat→Prop} {w:World}:∀ {x:TX} {v:Value},IsTP P w x v→IsG w (toGT x) v
 |.leaf k p g n,v,h=>by
  unfold toGT IsG
  exact ⟨none,0,h,by simp,by simp,by unfold IsGs;trivial⟩
 |.list p x,v,h=>by
  obtain ⟨b,y0,y1,y2,y3,y4,hv,hb,h0,h1,h2,h3,h4,hx⟩:=h
  unfold toGT IsG
  refine ⟨some ⟨b,0,none⟩,1,hv,by simp,by simp [maxLen],?_⟩
  unfold IsGs
  exact ⟨⟨⟨b,0,none⟩,y0,y1,y2,y3,y4,rfl,by simpa [Addr.add] using h0,by simpa [Addr.add] using h1,by simpa [Addr.add] using h2,by simpa [Addr.add] using h3,by simpa [Addr.add] using h4,IsTP.toG hx⟩,by unfold IsGs;trivial⟩
mutual
def toGX:EX→GX
 |.mk k p s n nm t args=>.mk k p s nm n (toGT t) (toGXs args)
def toGXs:List EX→List GX
 |[]=>[]
 |y::r=>toGX y::toGXs r
end
theorem toGXs_map:∀ l:List EX,toGXs l=l.map toGX
 |[]=>by rw [toGXs];rfl
 |y::r=>by rw [toGXs,toGXs_map r];rfl
mutual
def numX:EX→Bool
 |.mk _ _ _ n _ _ args=>decide (-9223372036854775808≤n∧n≤9223372036854775807) && numXs args
def numXs:List EX→Bool
 |[]=>true
 |y::r=>numX y && numXs r
end
mutual
theorem IsEP.toG {P:Nat→Prop} {w:World}:∀ {x:EX} {v:Value},numX x=true→IsEP P w x v→IsX w (toGX x) v
 |.mk k p s n nm t args,v,hn,h=>by
  unfold numX at hn
  simp only [Bool.and_eq_true,decide_eq_true_eq] at hn
  unfold IsEP at h
  obtain ⟨tk,tp,tg,tn,tz,ta,o,c,hv,hc,ht,ha⟩:=h
  unfold toGX IsX
  exact ⟨_,_,_,_,_,o,c,by rw [toGXs_map,List.length_map];exact hv,hn.1.1,hn.1.2,ht.toG,by rw [toGXs_map,List.length_map];exact hc.1,hc.2,IsEPs.toG hn.2 ha⟩
theorem IsEPs.toG {P:Nat→Prop} {w:World}:∀ {i:Nat} {xs:List EX} {o:Option Addr},numXs xs=true→IsEPs P w o i xs→IsXs w o i (toGXs xs)
 |_,[],_,_,_=>by unfold toGXs IsXs;trivial
 |i,y::r,_,hn,h=>by
  unfold numXs at hn
  simp only [Bool.and_eq_true] at hn
  unfold IsEPs at h
  obtain ⟨⟨b,c0,c1,c2,c3,c4,c5,c6,c7,c8,c9,c10,ho,hb,h0,h1,h2,h3,h4,h5,h6,h7,h8,h9,h10,hy⟩,hr⟩:=h
  unfold toGXs IsXs
  have e:∀ j,(⟨b,0,none⟩:Addr).add (i * 11 + j)=⟨b,i * 11 + j,none⟩:=fun j=>by rw [add_none',Nat.zero_add]
  have e0:(⟨b,0,none⟩:Addr).add (i * 11)=⟨b,i * 11,none⟩:=by rw [add_none',Nat.zero_add]
  exact ⟨⟨⟨b,0,none⟩,c0,c1,c2,c3,c4,c5,c6,c7,c8,c9,c10,ho,by rw [e0];exact h0,by rw [e];exact h1,by rw [e];exact h2,by rw [e];exact h3,by rw [e];exact h4,by rw [e];exact h5,by rw [e];exact h6,by rw [e];exact h7,by rw [e];exact h8,by rw [e];exact h9,by rw [e];exact h10,IsEP.toG hn.1 hy⟩,IsEPs.toG hn.2 hr⟩
end
mutual
def toGS:SX→GS
 |.mk k p nm h x u v=>.mk k p nm h (toGX x) (toGSs u) (toGSs v)
def toGSs:List SX→List GS
 |[]=>[]
 |y::r=>toGS y::toGSs r
end
theorem toGSs_map:∀ l:List SX,toGSs l=l.map toGS
 |[]=>by rw [toGSs];rfl
 |y::r=>by rw [toGSs,toGSs_map r];rfl
mutual
def numS:SX→Bool
 |.mk _ _ _ _ x u v=>numX x && (decide (u.length≤9223372036854775807∧v.length≤9223372036854775807) && (numSs u && numSs v))
def numSs:List SX→Bool
 |[]=>true
 |y::r=>numS y && numSs r
end
mutual
theorem IsSP.toG {P:Nat→Prop} {w:World}:∀ {x:SX} {v:Value},numS x=true→IsSP P w x v→IsS w (toGS x) v
 |.mk k p nm h x u v,V,hn,hv=>by
  unfold numS at hn
  simp only [Bool.and_eq_true,decide_eq_true_eq] at hn
  unfold IsSP at hv
  obtain ⟨e0,e1,e2,e3,e4,e5,e6,e7,e8,e9,e10,o,c,o',c',hV,hx,hu,hw⟩:=hv
  unfold toGS IsS
  exact ⟨e0,e1,e2,e3,e4,e5,e6,e7,e8,e9,e10,o,c,o',c',by rw [toGSs_map,toGSs_map,List.length_map,List.length_map];exact hV,by rw [toGSs_map,toGSs_map,List.length_map,List.length_map];exact hn.2.1,IsEP.toG hn.1 hx,IsSPs.toG hn.2.2.1 hu,IsSPs.toG hn.2.2.2 hw⟩
theorem IsSPs.toG {P:Nat→Prop} {w:World}:∀ {i:Nat} {xs:List SX} {o:Option Addr},numSs xs=true→IsSPs P w o i xs→IsSs w o i (toGSs xs)
 |_,[],_,_,_=>by unfold toGSs IsSs;trivial
 |i,y::r,_,hn,h=>by
  unfold numSs at hn
  simp only [Bool.and_eq_true] at hn
  unfold IsSPs at h
  obtain ⟨⟨b,c0,c1,c2,c3,c4,c5,c6,c7,c8,c9,c10,c11,c12,c13,c14,c15,c16,ho,hb,h0,h1,h2,h3,h4,h5,h6,h7,h8,h9,h10,h11,h12,h13,h14,h15,h16,hy⟩,hr⟩:=h
  unfold toGSs IsSs
  refine ⟨⟨⟨b,0,none⟩,[c0,c1,c2,c3,c4,c5,c6,c7,c8,c9,c10,c11,c12,c13,c14,c15,c16],ho,rfl,?_,IsSP.toG hn.1 hy⟩,IsSPs.toG hn.2 hr⟩
  intro j v hj
  rw [add_none',add_none',Nat.zero_add]
  have hl:j < 17:=(List.getElem?_eq_some_iff.1 hj).1
  match j,hl,hj with
  |0,_,hj=>cases hj;exact h0
  |1,_,hj=>cases hj;exact h1
  |2,_,hj=>cases hj;exact h2
  |3,_,hj=>cases hj;exact h3
  |4,_,hj=>cases hj;exact h4
  |5,_,hj=>cases hj;exact h5
  |6,_,hj=>cases hj;exact h6
  |7,_,hj=>cases hj;exact h7
  |8,_,hj=>cases hj;exact h8
  |9,_,hj=>cases hj;exact h9
  |10,_,hj=>cases hj;exact h10
  |11,_,hj=>cases hj;exact h11
  |12,_,hj=>cases hj;exact h12
  |13,_,hj=>cases hj;exact h13
  |14,_,hj=>cases hj;exact h14
  |15,_,hj=>cases hj;exact h15
  |16,_,hj=>cases hj;exact h16
end
def toGP (x:PX):GP:=⟨x.name,x.pos,toGT x.typ⟩
def toGM (x:MX):GM:=⟨x.name,x.pos,x.params.map toGT,x.has,toGT x.result⟩
def toGD (x:DX):GD:=⟨x.kind,x.pos,x.stop,x.name,x.method,toGP x.recv,x.bounds.map toGP,x.fields.map toGP,x.methods.map toGM,x.has,toGT x.result,toGSs x.body⟩
def toGF (x:FX):GF:=⟨x.name,x.pos,x.imports,x.decls.map toGD⟩
def numM (x:MX):Bool:=decide (x.params.length≤9223372036854775807)
def numD (x:DX):Bool:=decide (x.bounds.length≤9223372036854775807∧x.fields.length≤9223372036854775807∧x.methods.length≤9223372036854775807∧x.body.length≤9223372036854775807) && (x.methods.all numM && numSs x.body)
def numF (x:FX):Bool:=decide (x.imports.length≤9223372036854775807∧x.decls.length≤9223372036854775807) && x.decls.all numD
theorem InRow.toG {α β:Type} {k:Nat} {one:α→Value→Prop} {one':β→Value→Prop} {P:Nat→Prop} {w:World} {o:Option Addr} {f:α→β}:∀ {xs:List α} {i:Nat},(∀ y v,y ∈ xs→one y v→one' (f y) v)→InRow k one P w o i xs→RowX k one' w o i (xs.map f)
 |[],_,_,_=>trivial
 |y::r,i,h1,h=>by
  obtain ⟨⟨b,cs,ho,hb,hl,hc,hy⟩,hr⟩:=h
  exact ⟨⟨⟨b,0,none⟩,cs,ho,hl,fun j v hj=>by rw [add_none',add_none',Nat.zero_add];exact hc j v hj,h1 y _ (by simp) hy⟩,InRow.toG (fun z v hz=>h1 z v (by simp [hz])) hr⟩
theorem InRow.toGs {P:Nat→Prop} {w:World} {o:Option Addr}:∀ {xs:List TX} {i:Nat},InRow 5 (IsTP P w) P w o i xs→IsGs w o i (xs.map toGT)
 |[],_,_=>by unfold List.map IsGs;trivial
 |y::r,i,h=>by
  obtain ⟨⟨b,cs,ho,hb,hl,hc,hy⟩,hr⟩:=h
  have e:∀ j,(⟨b,0,none⟩:Addr).add (i * 5 + j)=⟨b,i * 5 + j,none⟩:=fun j=>by rw [add_none',Nat.zero_add]
  have e0:(⟨b,0,none⟩:Addr).add (i * 5)=⟨b,i * 5 + 0,none⟩:=by rw [add_none',Nat.zero_add,Nat.add_zero]
  match cs,hl with
  |[c0,c1,c2,c3,c4],_ =>
   rw [List.map_cons]
   unfold IsGs
   exact ⟨⟨⟨b,0,none⟩,c0,c1,c2,c3,c4,ho,by rw [e0];exact hc 0 _ rfl,by rw [e];exact hc 1 _ rfl,by rw [e];exact hc 2 _ rfl,by rw [e];exact hc 3 _ rfl,by rw [e];exact hc 4 _ rfl,hy.toG⟩,InRow.toGs hr⟩
theorem IsPX.toG {P:Nat→Prop} {w:World} {x:PX} {v:Value} (h:IsPX P w x v):IsP w (toGP x) v:=by
 obtain ⟨tk,tp,tg,tn,tz,ta,hv,ht⟩:=h
 exact ⟨_,_,_,_,_,hv,ht.toG⟩
theorem IsMX.toG {P:Nat→Prop} {w:World} {x:MX} {v:Value} (hn:numM x=true) (h:IsMX P w x v):IsM w (toGM x) v:=by
 obtain ⟨o,c,tk,tp,tg,tn,tz,ta,hv,hp,ht⟩:=h
 unfold numM at hn
 simp only [decide_eq_true_eq] at hn
 exact ⟨o,c,_,_,_,_,_,by simp only [toGM,List.length_map];exact hv,by simp only [toGM,List.length_map];exact hn,hp.toGs,ht.toG⟩
theorem IsDX.toG {P:Nat→Prop} {w:World} {x:DX} {v:Value} (hn:numD x=true) (h:IsDX P w x v):IsD w (toGD x) v:=by
 obtain ⟨rn,rp,rk,rq,rg,rm,rz,ra,ob,cb,of,cf,om,cm,tk,tp,tg,tn,tz,ta,os,cs,hv,h1,h2,h3,h4,h5,h6⟩:=h
 unfold numD at hn
 simp only [Bool.and_eq_true,decide_eq_true_eq,List.all_eq_true] at hn
 exact ⟨_,_,_,_,_,_,_,ob,cb,of,cf,om,cm,_,_,_,_,_,os,cs,by simp only [toGD,List.length_map,toGSs_map];exact hv,by simp only [toGD,List.length_map,toGSs_map];exact hn.1,h1.toG,h2.toG fun _ _ _ h=>h.toG,h3.toG fun _ _ _ h=>h.toG,h4.toG fun y _ hy h=>h.toG (hn.2.1 y hy),h5.toG,IsSPs.toG hn.2.2 h6⟩
theorem IsFX.toG {P:Nat→Prop} {w:World} {x:FX} {v:Value} (hn:numF x=true) (h:IsFX P w x v):IsF w (toGF x) v:=by
 obtain ⟨oi,ci,od,cd,hv,h1,h2⟩:=h
 unfold numF at hn
 simp only [Bool.and_eq_true,decide_eq_true_eq,List.all_eq_true] at hn
 have e1:RowX 2 IsN w oi 0 (x.imports.map id):=h1.toG fun _ _ _ h=>h
 rw [List.map_id] at e1
 exact ⟨oi,ci,od,cd,by simp only [toGF,List.length_map];exact hv,by simp only [toGF,List.length_map];exact hn.1,e1,h2.toG fun y _ hy h=>h.toG (hn.2 y hy)⟩
end Go.Proofs.YtfcgoainglpdlaaGreatDoor
namespace Go.Proofs.YtfcgoainglpdlaaGreatDoor
open Go.RowKit
open Go.Lib hiding intOf
theorem exprs_any (w0:World) (b m:Nat) (xs:List GX) (hA:∀ y ∈ xs,BareIs w0 b m y) (o:Option Addr) (c:Nat) (hn:xs.length≤9223372036854775807) (hx:IsXs w0 o 0 xs) (op cl:ByteArray) (l:List UInt8) (w:World) (hp:SP w0 b m l w) :
  Does w0 b m 76 #[.pointer (some ⟨b,0,none⟩),.string op,.slice o xs.length c,.string cl] (op.data.toList++joinL' (xs.map fun x=>(bx 1 (levG x,plnG x)).data.toList)++cl.data.toList) w l:=by
 intro hl
 have HP1:=Lib.hid hp
 have HW:=Lib.hid (Kq.refl w0.heap.size b w)
 generalize hts:(xs.map fun x=>(bx 1 (levG x,plnG x)).data.toList)=ts at hl ⊢
 have HTS:=Lib.hid hts
 simp only [List.length_append] at hl
 have HL0:Hid (l.length + op.data.toList.length≤140737488355328):=by show _≤_;omega
 have HLc:Hid ((l++op.data.toList++joinL' ts).length + cl.data.toList.length≤140737488355328):=by simp only [List.length_append];show _≤_;omega
 have HL:Hid ((l++op.data.toList).length + (joinL' ts).length≤140737488355328):=by simp only [List.length_append];show _≤_;omega
 have HG:=Lib.hid hx
 have HA:=Lib.hid hA
 clear hp hts hl hx hA
 go_enter Tryz.func76,Tryz.ntmps76
 go_wp2_with (first
  |(go_at_call 107;refine (commas_any w0 b m _ _ HP0.out).mono ?_;obtain ⟨G,hG0,hG⟩:∃ G,G=wp.heap.size∧w.heap.size≤G + 1:=⟨_,rfl,by have:=HK0.out.below.size;omega⟩;rewrite [← hG0];rintro e w2 ⟨rfl,⟨hp2,hc2⟩,hk⟩;have HP2:=Lib.hid hp2;have HC2:=Lib.hid hc2;have HK2:=Lib.hid (HK0.out.trans hk);have HG0:=Lib.hid hG;clear hp2 hc2 hk hG hG0)
  |(go_at_call 47;refine (put1 w0 b m _ _ HP1.out _ _ rfl HL0.out).mono ?_;rintro e wp ⟨rfl,hp,hk⟩;have HP0:=Lib.hid hp;have HK0:=Lib.hid (HW.out.trans hk);clear hp hk))
 go_loopw [19] (fun i wr=>∃ j:Nat,i=.int .i64 (j:Nat)∧j≤xs.length∧JS w0 b m G (l++op.data.toList) ts w j wr) (fun i _=>xs.length - (RowKit.intOf i).toNat)
 case atStart=>exact ⟨0,rfl,Nat.zero_le _,by simpa [joinL',Hid] using HP2.out,HC2,HK2⟩
 case round =>
  obtain ⟨j,rfl,hj,HPr,HCr,HKr⟩:=hrel
  by_cases hlt:j < xs.length
  ·have hlt':decide ((j:Int) < (xs.length:Int))=true:=by simp;omega
   have hj2:(j:Int) + 1≤9223372036854775807:=by omega
   have hj3:-9223372036854775808≤(j:Int) + 1:=by omega
   have hg:xs[j]?=some xs[j]:=List.getElem?_eq_getElem hlt
   have hy:=HG.out.at_ j hg
   rw [Nat.zero_add] at hy
   have ht:ts[j]?=some (bx 1 (levG xs[j],plnG xs[j])).data.toList:=by rw [← HTS.out,List.getElem?_map,hg];rfl
   have HN:=Lib.hid (joinL_next ht)
   have HM:=Lib.hid (List.getElem_mem hlt)
   generalize xs[j]=y at *
   have hln:=joinL_take_le ts (j + 1)
   rw [HN.out] at hln
   have HL1:Hid ((l++op.data.toList++joinL' (ts.take j)).length + (sepB j).data.toList.length≤140737488355328):=by have h0:=HL.out;(try simp only [List.length_append] at h0);simp only [List.length_append] at hln ⊢;show _≤_;omega
   have HL2:Hid ((l++op.data.toList++joinL' (ts.take j)++(sepB j).data.toList).length + (bx 1 (levG y,plnG y)).data.toList.length≤140737488355328):=by have h0:=HL.out;(try simp only [List.length_append] at h0);simp only [List.length_append] at hln ⊢;show _≤_;omega
   clear hln ht hg
   unfold IsXs at hy
   obtain ⟨⟨a,c0,c1,c2,c3,c4,c5,c6,c7,c8,c9,c10,rfl,e0,e1,e2,e3,e4,e5,e6,e7,e8,e9,e10,hy⟩,_⟩:=hy
   have hR:=Lib.hid (row11 e0 e1 e2 e3 e4 e5 e6 e7 e8 e9 e10)
   have hO:=Lib.hid hy.ones
   have HT:=Lib.hid (fun (l':List UInt8) (W:World) (hp:SP w0 b m l' W)=>expr_of w0 b m y (HA.out _ HM.out) _ 1 l' W hy hp)
   clear e0 e1 e2 e3 e4 e5 e6 e7 e8 e9 e10 hy HM
   have HX1:=Lib.hid (Blk.new wr 31 #[c0,c1,c2,c3,c4,c5,c6,c7,c8,c9,c10])
   have HP3:=Lib.hid (HPr.out.alloc (.cells #[c0,c1,c2,c3,c4,c5,c6,c7,c8,c9,c10] 31))
   have HK3:=Lib.hid (HKr.out.alloc HPr.out.base (.cells #[c0,c1,c2,c3,c4,c5,c6,c7,c8,c9,c10] 31))
   have HC3:=Lib.hid (HCr.out.kq ((Kq.refl _ _ wr).alloc HPr.out.base (.cells #[c0,c1,c2,c3,c4,c5,c6,c7,c8,c9,c10] 31)))
   have hbb:Hid (wr.heap.size≠b∧wr.heap.size≠G + 1):=by have:=HPr.out.lt;have:=HCr.out.two.lt;exact ⟨by omega,by omega⟩
   go_wp2_with (first
    |(refine boxLoad 31 11 size11 Tryz.underlying31 rfl _ rfl wr.heap.size rfl (cs:=[_,_,_,_,_,_,_,_,_,_,_]) HX4.out rfl ?_)
    |(refine boxLoadG 31 11 size11 Tryz.underlying31 rfl _ rfl _ rfl (cs:=[c0,c1,c2,c3,c4,c5,c6,c7,c8,c9,c10]) (fun j v h=>((HPr.out.below).cell (World.block_lt_of_cell? _ _ (hR.out j v h))).trans (hR.out j v h)) rfl ?_)
    |(refine boxNew 31 11 size11 rfl _ _ rfl rfl [c0,c1,c2,c3,c4,c5,c6,c7,c8,c9,c10] rfl rfl rfl hO.out ?_)
    |(go_at_call 29;refine (HT.out _ _ HP4.out HL2.out).mono ?_;rintro e w5 ⟨rfl,hp,hk⟩;have HP5:=Lib.hid hp;have HK5:=Lib.hid (HK4.out.trans hk);have HC5:=Lib.hid (HC4.out.kq hk);clear hp hk)
    |(go_at_call 127;refine (comma_any w0 b m G _ _ _ HP3.out HC3.out HL1.out).mono ?_;rintro e w4 ⟨rfl,⟨hp,hc⟩,hk⟩;have HP4:=Lib.hid hp;have HC4:=Lib.hid hc;have HX4:=Lib.hid (hk.blk HX1.out hbb.out.1 hbb.out.2 (by decide));have HK4:=Lib.hid (HK3.out.kc hk HG0.out);clear hp hc hk))
   case roundEnd =>
    refine ⟨⟨j + 1,by push_cast;rfl,by omega,HP5.out.cast ?_,?_,HK5⟩,by simp [RowKit.intOf];omega⟩
    ·rw [HN.out];simp only [List.append_assoc]
    ·have:=HC5.out
     rwa [← sepB_next j] at this
  ·have hlt':decide ((j:Int) < (xs.length:Int))=false:=by simp;omega
   have hj':Hid (ts.take j=ts):=List.take_of_length_le (by rw [← HTS.out,List.length_map];omega)
   have HPe:=HPr.out
   rw [hj'.out] at HPe
   have HPE:=Lib.hid HPe
   clear HPe
   go_wp2_with (go_at_call 47;refine (put1 w0 b m _ _ HPE.out _ _ rfl HLc.out).mono ?_;rintro e wq ⟨rfl,hp,hk⟩;have HPq:=Lib.hid hp;have HKq:=Lib.hid (HKr.out.trans hk);clear hp hk)
   first | go_end0 | refine bodyPost_ret (results_none rfl _ _ _) rfl ?_
   refine ⟨rfl,HPq.out.cast ?_,HKq.out⟩
   simp only [List.append_assoc]
end Go.Proofs.YtfcgoainglpdlaaGreatDoor
