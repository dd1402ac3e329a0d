/- The statement's own look whether two expressions are the same but for places: it answers true where they are. No condition. -/
import Derived.Test.YtfcgoainglpdlaaGreatDoorV42
import Derived.Test.YtfcgoainglpdlaaGreatDoorV28
import Derived.Test.YtfcgoainglpdlaaGreatDoorV22
import Derived.Test.YtfcgoainglpdlaaGreatDoorV43
import Derived.Deep.RegionHeld3
set_option maxRecDepth 100000
set_option maxHeartbeats 20000000
namespace Go.Proofs.YtfcgoainglpdlaaGreatDoor
open Go.RowKit
open Go.Lib hiding intOf
theorem partC {w:World} {g:Nat} {cs:Array Value} (hb:∀ i:Nat,w.cell? ⟨g,i,none⟩=cs[i]?) (off n:Nat) (part:List Value) (hp:part=(cs.toList.drop off).take n):∀ (j:Nat) (v:Value),part[j]?=some v→w.cell? ⟨g,off + j,none⟩=some v:=by
 intro j v h
 subst hp
 have h1:(cs.toList.drop off)[j]?=some v:=by
  rw [List.getElem?_take] at h
  split at h
  ·exact h
  ·cases h
 rw [List.getElem?_drop,Array.getElem?_toList] at h1
 rw [hb,h1]
theorem same_any:∀ (s:Nat) (x x':GX) (v v':Value) (w:World),SizeOf.sizeOf x < s→SmG x x'→IsX w x v→IsX w x' v' →
  Calls Tryz.prog 24 #[v,v'] w fun e w'=>e=.returned (.bool true)∧Below w.heap.size w w':=by
 intro s
 induction s with
 |zero=>intro x x' v v' w h;omega
 |succ s ih =>
 rintro ⟨k,p,q,nm,n,t,args⟩ ⟨k',p',q',nm',n',t',args'⟩ v v' w hs hm hv hv'
 have hsz:∀ y ∈ args,SizeOf.sizeOf y < s:=fun y hy=>by have:=List.sizeOf_lt_of_mem hy;simp only [GX.mk.sizeOf_spec] at hs;omega
 unfold SmG at hm
 obtain ⟨rfl,rfl,rfl,htt,hts,hmm⟩:=hm
 have hlen:=hmm.len
 unfold IsX at hv hv'
 obtain ⟨y0,y1,y2,y3,y4,o,c,rfl,n1,n2,ht,hl,hc,ha⟩:=hv
 obtain ⟨z0,z1,z2,z3,z4,o',c',rfl,_,_,ht',hl',hc',ha'⟩:=hv'
 obtain ⟨L,hL⟩:∃ L,L=args.length:=⟨_,rfl⟩
 have hL':L=args'.length:=hL.trans hlen
 rw [← hL] at hl ⊢
 rw [← hL'] at hl' ⊢
 have HL:=Lib.hid hL
 have HL':=Lib.hid hL'
 clear hlen hL hL'
 have K0:=Lib.hid (below_two w (.cells #[.int .i64 k,.int .i64 p,.int .i64 q,.string nm,.int .i64 n,y0,y1,y2,y3,y4,.slice o L c] 31) (.cells #[.int .i64 k,.int .i64 p',.int .i64 q',.string nm,.int .i64 n,z0,z1,z2,z3,z4,.slice o' L c'] 31))
 have HA:=Lib.hid ha
 have HA':=Lib.hid ha'
 have HM:=Lib.hid hmm
 have HZ:=Lib.hid hsz
 have HI:=Lib.hid ih
 have HT1:=Lib.hid (fun (W:World) (hW:Below w.heap.size w W)=>type_any t _ W (ht.below hW) (by omega))
 have HT2:=Lib.hid (fun (W:World) (hW:Below w.heap.size w W)=>type_any t' _ W (ht'.below hW) (by rw [← htt];omega))
 rw [← htt] at HT2
 generalize typG t=tt at *
 have X0:Hid (Blk ((w.alloc (.cells #[.int .i64 k,.int .i64 p,.int .i64 q,.string nm,.int .i64 n,y0,y1,y2,y3,y4,.slice o L c] 31)).alloc (.cells #[.int .i64 k,.int .i64 p',.int .i64 q',.string nm,.int .i64 n,z0,z1,z2,z3,z4,.slice o' L c'] 31)) w.heap.size 31 #[.int .i64 k,.int .i64 p,.int .i64 q,.string nm,.int .i64 n,y0,y1,y2,y3,y4,.slice o L c]):=(Blk.new w _ _).alloc _
 have Y0:Hid (Blk ((w.alloc (.cells #[.int .i64 k,.int .i64 p,.int .i64 q,.string nm,.int .i64 n,y0,y1,y2,y3,y4,.slice o L c] 31)).alloc (.cells #[.int .i64 k,.int .i64 p',.int .i64 q',.string nm,.int .i64 n,z0,z1,z2,z3,z4,.slice o' L c'] 31)) (w.heap.size + 1) 31 #[.int .i64 k,.int .i64 p',.int .i64 q',.string nm,.int .i64 n,z0,z1,z2,z3,z4,.slice o' L c']):=Blk.sec w _ _ _ _
 clear ha ha' hmm hsz ih ht ht' htt hts hs
 go_enter Tryz.func24,Tryz.ntmps24
 go_wp2_with fail
 generalize ((w.alloc (.cells #[.int .i64 k,.int .i64 p,.int .i64 q,.string nm,.int .i64 n,y0,y1,y2,y3,y4,.slice o L c] 31)).alloc (.cells #[.int .i64 k,.int .i64 p',.int .i64 q',.string nm,.int .i64 n,z0,z1,z2,z3,z4,.slice o' L c'] 31))=W0 at *
 have H:=Lib.hid (Below.drew K0.out)
 have HC:Hid (∀ i:Nat,W0.drew.cell? ⟨w.heap.size,i,none⟩=(#[.int .i64 k,.int .i64 p,.int .i64 q,.string nm,.int .i64 n,y0,y1,y2,y3,y4,.slice o L c]:Array Value)[i]?):=X0.out.cell
 have HD:Hid (∀ i:Nat,W0.drew.cell? ⟨w.heap.size + 1,i,none⟩=(#[.int .i64 k,.int .i64 p',.int .i64 q',.string nm,.int .i64 n,z0,z1,z2,z3,z4,.slice o' L c']:Array Value)[i]?):=Y0.out.cell
 clear K0 X0 Y0
 have hS0:(fun w':World=>(∀ i:Nat,w'.cell? ⟨w.heap.size,i,none⟩=(#[.int .i64 k,.int .i64 p,.int .i64 q,.string nm,.int .i64 n,y0,y1,y2,y3,y4,.slice o L c]:Array Value)[i]?)∧(∀ i:Nat,w'.cell? ⟨w.heap.size + 1,i,none⟩=(#[.int .i64 k,.int .i64 p',.int .i64 q',.string nm,.int .i64 n,z0,z1,z2,z3,z4,.slice o' L c']:Array Value)[i]?)) W0.drew:=⟨HC.out,HD.out⟩
 refine wp_region_held_drew (S:=(fun w':World=>(∀ i:Nat,w'.cell? ⟨w.heap.size,i,none⟩=(#[.int .i64 k,.int .i64 p,.int .i64 q,.string nm,.int .i64 n,y0,y1,y2,y3,y4,.slice o L c]:Array Value)[i]?)∧(∀ i:Nat,w'.cell? ⟨w.heap.size + 1,i,none⟩=(#[.int .i64 k,.int .i64 p',.int .i64 q',.string nm,.int .i64 n,z0,z1,z2,z3,z4,.slice o' L c']:Array Value)[i]?))) (by kernel_rfl) hS0 fun hS0=>?_
 refine wpAnyH_take (i:=0) (v:=.pointer (some ⟨w.heap.size,0,none⟩)) rfl (by kernel_rfl) (by kernel_rfl) (by kernel_rfl) (fun _ _ _ h=>h) (Or.inl ⟨by rfl,fun w' hw'=>?_⟩) hS0 ?_
 ·go_simp
 refine wpAnyH_take (i:=1) (v:=.int .i64 k) rfl (by kernel_rfl) (by kernel_rfl) (by kernel_rfl) (fun _ _ _ h=>h) (Or.inl ⟨by rfl,fun w' hw'=>?_⟩) hS0 ?_
 ·have h3:=hw'.1 0;simp at h3;go_simp
 refine wpAnyH_take (i:=2) (v:=.pointer (some ⟨w.heap.size + 1,0,none⟩)) rfl (by kernel_rfl) (by kernel_rfl) (by kernel_rfl) (fun _ _ _ h=>h) (Or.inl ⟨by rfl,fun w' hw'=>?_⟩) hS0 ?_
 ·go_simp
 refine wpAnyH_take (i:=3) (v:=.int .i64 k) rfl (by kernel_rfl) (by kernel_rfl) (by kernel_rfl) (fun _ _ _ h=>h) (Or.inl ⟨by rfl,fun w' hw'=>?_⟩) hS0 ?_
 ·have h3:=hw'.2 0;simp at h3;go_simp
 refine wpAnyH_take (i:=4) (v:=.bool false) rfl (by kernel_rfl) (by kernel_rfl) (by kernel_rfl) (fun _ _ _ h=>h) (Or.inl ⟨by rfl,fun w' hw'=>?_⟩) hS0 ?_
 ·go_simp
 refine wpAnyH_take (i:=5) (v:=.bool false) rfl (by kernel_rfl) (by kernel_rfl) (by kernel_rfl) (fun _ _ _ h=>h) (Or.inl ⟨by rfl,fun w' hw'=>?_⟩) hS0 ?_
 ·rfl
 refine wpAnyH_take (i:=6) (v:=.pointer (some ⟨w.heap.size,3,none⟩)) rfl (by kernel_rfl) (by kernel_rfl) (by kernel_rfl) (fun _ _ _ h=>h) (Or.inl ⟨by kernel_rfl,fun w' hw'=>?_⟩) hS0 ?_
 ·go_simp
 refine wpAnyH_take (i:=7) (v:=.string nm) rfl (by kernel_rfl) (by kernel_rfl) (by kernel_rfl) (fun _ _ _ h=>h) (Or.inl ⟨by kernel_rfl,fun w' hw'=>?_⟩) hS0 ?_
 ·have h3:=hw'.1 3;simp at h3;go_simp
 refine wpAnyH_take (i:=8) (v:=.pointer (some ⟨w.heap.size + 1,3,none⟩)) rfl (by kernel_rfl) (by kernel_rfl) (by kernel_rfl) (fun _ _ _ h=>h) (Or.inl ⟨by kernel_rfl,fun w' hw'=>?_⟩) hS0 ?_
 ·go_simp
 refine wpAnyH_take (i:=9) (v:=.string nm) rfl (by kernel_rfl) (by kernel_rfl) (by kernel_rfl) (fun _ _ _ h=>h) (Or.inl ⟨by kernel_rfl,fun w' hw'=>?_⟩) hS0 ?_
 ·have h3:=hw'.2 3;simp at h3;go_simp
 refine wpAnyH_take (i:=10) (v:=.bool false) rfl (by kernel_rfl) (by kernel_rfl) (by kernel_rfl) (fun _ _ _ h=>h) (Or.inl ⟨by kernel_rfl,fun w' hw'=>?_⟩) hS0 ?_
 ·go_simp
 refine wpAnyH_take (i:=11) (v:=.bool false) rfl (by kernel_rfl) (by kernel_rfl) (by kernel_rfl) (fun _ _ _ h=>h) (Or.inl ⟨by kernel_rfl,fun w' hw'=>?_⟩) hS0 ?_
 ·kernel_rfl
 refine wpAnyH_take (i:=12) (v:=.bool false) rfl (by kernel_rfl) (by kernel_rfl) (by kernel_rfl) (fun _ _ _ h=>h) (Or.inl ⟨by kernel_rfl,fun w' hw'=>?_⟩) hS0 ?_
 ·kernel_rfl
 refine wpAnyH_take (i:=13) (v:=.pointer (some ⟨w.heap.size,4,none⟩)) rfl (by kernel_rfl) (by kernel_rfl) (by kernel_rfl) (fun _ _ _ h=>h) (Or.inl ⟨by kernel_rfl,fun w' hw'=>?_⟩) hS0 ?_
 ·go_simp
 refine wpAnyH_take (i:=14) (v:=.int .i64 n) rfl (by kernel_rfl) (by kernel_rfl) (by kernel_rfl) (fun _ _ _ h=>h) (Or.inl ⟨by kernel_rfl,fun w' hw'=>?_⟩) hS0 ?_
 ·have h3:=hw'.1 4;simp at h3;go_simp
 refine wpAnyH_take (i:=15) (v:=.pointer (some ⟨w.heap.size + 1,4,none⟩)) rfl (by kernel_rfl) (by kernel_rfl) (by kernel_rfl) (fun _ _ _ h=>h) (Or.inl ⟨by kernel_rfl,fun w' hw'=>?_⟩) hS0 ?_
 ·go_simp
 refine wpAnyH_take (i:=16) (v:=.int .i64 n) rfl (by kernel_rfl) (by kernel_rfl) (by kernel_rfl) (fun _ _ _ h=>h) (Or.inl ⟨by kernel_rfl,fun w' hw'=>?_⟩) hS0 ?_
 ·have h3:=hw'.2 4;simp at h3;go_simp
 refine wpAnyH_take (i:=17) (v:=.bool false) rfl (by kernel_rfl) (by kernel_rfl) (by kernel_rfl) (fun _ _ _ h=>h) (Or.inl ⟨by kernel_rfl,fun w' hw'=>?_⟩) hS0 ?_
 ·go_simp
 refine wpAnyH_take (i:=18) (v:=.bool false) rfl (by kernel_rfl) (by kernel_rfl) (by kernel_rfl) (fun _ _ _ h=>h) (Or.inl ⟨by kernel_rfl,fun w' hw'=>?_⟩) hS0 ?_
 ·kernel_rfl
 refine wpAnyH_take (i:=19) (v:=.bool false) rfl (by kernel_rfl) (by kernel_rfl) (by kernel_rfl) (fun _ _ _ h=>h) (Or.inl ⟨by kernel_rfl,fun w' hw'=>?_⟩) hS0 ?_
 ·kernel_rfl
 refine wpAnyH_take (i:=20) (v:=.pointer (some ⟨w.heap.size,10,none⟩)) rfl (by kernel_rfl) (by kernel_rfl) (by kernel_rfl) (fun _ _ _ h=>h) (Or.inl ⟨by kernel_rfl,fun w' hw'=>?_⟩) hS0 ?_
 ·go_simp
 refine wpAnyH_take (i:=21) (v:=.slice o L c) rfl (by kernel_rfl) (by kernel_rfl) (by kernel_rfl) (fun _ _ _ h=>h) (Or.inl ⟨by kernel_rfl,fun w' hw'=>?_⟩) hS0 ?_
 ·have h3:=hw'.1 10;simp at h3;go_simp
 refine wpAnyH_take (i:=22) (v:=.int .i64 (L:Nat)) rfl (by kernel_rfl) (by kernel_rfl) (by kernel_rfl) (fun _ _ _ h=>h) (Or.inl ⟨by kernel_rfl,fun w' hw'=>?_⟩) hS0 ?_
 ·kernel_rfl
 refine wpAnyH_take (i:=23) (v:=.pointer (some ⟨w.heap.size + 1,10,none⟩)) rfl (by kernel_rfl) (by kernel_rfl) (by kernel_rfl) (fun _ _ _ h=>h) (Or.inl ⟨by kernel_rfl,fun w' hw'=>?_⟩) hS0 ?_
 ·go_simp
 refine wpAnyH_take (i:=24) (v:=.slice o' L c') rfl (by kernel_rfl) (by kernel_rfl) (by kernel_rfl) (fun _ _ _ h=>h) (Or.inl ⟨by kernel_rfl,fun w' hw'=>?_⟩) hS0 ?_
 ·have h3:=hw'.2 10;simp at h3;go_simp
 refine wpAnyH_take (i:=25) (v:=.int .i64 (L:Nat)) rfl (by kernel_rfl) (by kernel_rfl) (by kernel_rfl) (fun _ _ _ h=>h) (Or.inl ⟨by kernel_rfl,fun w' hw'=>?_⟩) hS0 ?_
 ·kernel_rfl
 refine wpAnyH_take (i:=26) (v:=.bool false) rfl (by kernel_rfl) (by kernel_rfl) (by kernel_rfl) (fun _ _ _ h=>h) (Or.inl ⟨by kernel_rfl,fun w' hw'=>?_⟩) hS0 ?_
 ·go_simp
 refine wpAnyH_take (i:=27) (v:=.bool false) rfl (by kernel_rfl) (by kernel_rfl) (by kernel_rfl) (fun _ _ _ h=>h) (Or.inl ⟨by kernel_rfl,fun w' hw'=>?_⟩) hS0 ?_
 ·kernel_rfl
 refine wpAnyH_take (i:=28) (v:=.bool false) rfl (by kernel_rfl) (by kernel_rfl) (by kernel_rfl) (fun _ _ _ h=>h) (Or.inl ⟨by kernel_rfl,fun w' hw'=>?_⟩) hS0 ?_
 ·kernel_rfl
 refine wpAnyH_take (i:=29) (v:=.pointer (some ⟨w.heap.size,5,none⟩)) rfl (by kernel_rfl) (by kernel_rfl) (by kernel_rfl) (fun _ _ _ h=>h) (Or.inl ⟨by kernel_rfl,fun w' hw'=>?_⟩) hS0 ?_
 ·go_simp
 refine wpAnyH_take (i:=30) (v:=.agg #[y0,y1,y2,y3,y4]) rfl (by kernel_rfl) (by kernel_rfl) (by kernel_rfl) (fun _ _ _ h=>h) (Or.inl ⟨by kernel_rfl,fun w' hw'=>?_⟩) hS0 ?_
 ·exact run_box 24 5 size5 Tryz.underlying24 _ rfl w.heap.size 5 (by kernel_rfl) (cs:=[y0,y1,y2,y3,y4]) (partC hw'.1 5 5 _ rfl) rfl
 refine wpAnyH_take (i:=32) (v:=.pointer (some ⟨w.heap.size + 1,5,none⟩)) rfl (by kernel_rfl) (by kernel_rfl) (by kernel_rfl) (fun _ _ _ h=>h) (Or.inl ⟨by kernel_rfl,fun w' hw'=>?_⟩) hS0 ?_
 ·go_simp
 refine wpAnyH_take (i:=33) (v:=.agg #[z0,z1,z2,z3,z4]) rfl (by kernel_rfl) (by kernel_rfl) (by kernel_rfl) (fun _ _ _ h=>h) (Or.inl ⟨by kernel_rfl,fun w' hw'=>?_⟩) hS0 ?_
 ·exact run_box 24 5 size5 Tryz.underlying24 _ rfl (w.heap.size + 1) 5 (by kernel_rfl) (cs:=[z0,z1,z2,z3,z4]) (partC hw'.2 5 5 _ rfl) rfl
 refine wpAnyH_ready (rs:=[31]) (by kernel_rfl) (by simp) (AllReadyH.cons rfl (fun K hK=>?_) AllReadyH.nil)
 go_simp
 refine (HT1.out _ H.out).mono ?_
 rintro e w1 ⟨rfl,hB⟩
 have hN:=Lib.hid (H.out.trans (hB.mono H.out.size))
 have hC:=Lib.hid (cellsBelow HC.out _ rfl hB)
 have hD:=Lib.hid (cellsBelow HD.out _ rfl hB)
 clear H HC HD HT1 hB
 have H:=hN
 have HC:=hC
 have HD:=hD
 clear hN hC hD
 refine hK.out _ _ ⟨HC.out,HD.out⟩ (fun hS1=>?_)
 refine wpAnyH_ready (rs:=[34]) (by kernel_rfl) (by simp) (AllReadyH.cons rfl (fun K hK=>?_) AllReadyH.nil)
 go_simp
 refine (HT2.out _ H.out).mono ?_
 rintro e w2 ⟨rfl,hB⟩
 have hN:=Lib.hid (H.out.trans (hB.mono H.out.size))
 have hC:=Lib.hid (cellsBelow HC.out _ rfl hB)
 have hD:=Lib.hid (cellsBelow HD.out _ rfl hB)
 clear H HC HD HT2 hB
 have H:=hN
 have HC:=hC
 have HD:=hD
 clear hN hC hD
 refine hK.out _ _ ⟨HC.out,HD.out⟩ (fun hS2=>?_)
 refine wpAnyH_take (i:=35) (v:=.bool false) rfl (by kernel_rfl) (by kernel_rfl) (by kernel_rfl) (fun _ _ _ h=>h) (Or.inl ⟨by kernel_rfl,fun w' hw'=>?_⟩) hS2 ?_
 ·go_simp
 refine wpAnyH_take (i:=36) (v:=.bool false) rfl (by kernel_rfl) (by kernel_rfl) (by kernel_rfl) (fun _ _ _ h=>h) (Or.inl ⟨by kernel_rfl,fun w' hw'=>?_⟩) hS2 ?_
 ·kernel_rfl
 refine wpAnyH_done (by kernel_rfl) ?_ _
 clear hS0 hS1 hS2
 go_wp2_with fail
 go_loopw [5] (fun i wr=>∃ j:Nat,i=.int .i64 (j:Nat)∧Hid (j≤L)∧Hid (Below w.heap.size w wr)∧Hid (∀ i:Nat,wr.cell? ⟨w.heap.size,i,none⟩=(#[.int .i64 k,.int .i64 p,.int .i64 q,.string nm,.int .i64 n,y0,y1,y2,y3,y4,.slice o L c]:Array Value)[i]?)∧Hid (∀ i:Nat,wr.cell? ⟨w.heap.size + 1,i,none⟩=(#[.int .i64 k,.int .i64 p',.int .i64 q',.string nm,.int .i64 n,z0,z1,z2,z3,z4,.slice o' L c']:Array Value)[i]?)) (fun i _=>L - (RowKit.intOf i).toNat)
 case atStart =>
  exact ⟨0,rfl,Nat.zero_le _,H,HC,HD⟩
 case round =>
  obtain ⟨j,rfl,HJ,HB,HX,HY⟩:=hrel
  clear H HC HD
  have k10:=HX.out 10
  simp at k10
  by_cases hj:j < L
  ·have hj':((j:Int) < (L:Int)):=by omega
   have hjl:j < args.length:=by have:L=args.length:=HL.out;omega
   have hjl':j < args'.length:=by have:L=args'.length:=HL'.out;omega
   have hy:args[j]?=some args[j]:=List.getElem?_eq_getElem hjl
   have hz:args'[j]?=some args'[j]:=List.getElem?_eq_getElem hjl'
   have hm:args[j] ∈ args:=List.getElem_mem hjl
   have HE:=HA.out.at_ j hy
   have HE':=HA'.out.at_ j hz
   rw [Nat.zero_add] at HE HE'
   have HQ:=HM.out.at_ hy hz
   generalize args[j]=y at hy hm HE HQ
   generalize args'[j]=y' at hz HE' HQ
   unfold IsXs at HE HE'
   obtain ⟨⟨a,c0,c1,c2,c3,c4,c5,c6,c7,c8,c9,c10,rfl,e0,e1,e2,e3,e4,e5,e6,e7,e8,e9,e10,hyX⟩,_⟩:=HE
   obtain ⟨⟨a',d0,d1,d2,d3,d4,d5,d6,d7,d8,d9,d10,rfl,f0,f1,f2,f3,f4,f5,f6,f7,f8,f9,f10,hyX'⟩,_⟩:=HE'
   have HR:=Lib.hid (row11 e0 e1 e2 e3 e4 e5 e6 e7 e8 e9 e10)
   have HR':=Lib.hid (row11 f0 f1 f2 f3 f4 f5 f6 f7 f8 f9 f10)
   have HW:=Lib.hid (fun (i:Nat) (v:Value) (h:_)=>(HB.out.cell (World.block_lt_of_cell? _ _ (HR.out i v h))).trans (HR.out i v h))
   have HW':=Lib.hid (fun (i:Nat) (v:Value) (h:_)=>(HB.out.cell (World.block_lt_of_cell? _ _ (HR'.out i v h))).trans (HR'.out i v h))
   have hj1:(j:Int) + 1≤9223372036854775807:=by have:maxLen=9223372036854775807:=rfl;omega
   have hj2:-9223372036854775808≤(j:Int) + 1:=by omega
   have hj0:(0:Int)≤(j:Int):=by omega
   have HCL:=Lib.hid (HI.out y y' _ _ wr.drew (HZ.out y hm) HQ ((hyX.below HB.out).below ((Below.refl _ _).drew)) ((hyX'.below HB.out).below ((Below.refl _ _).drew)))
   clear e0 e1 e2 e3 e4 e5 e6 e7 e8 e9 e10 f0 f1 f2 f3 f4 f5 f6 f7 f8 f9 f10 hyX hyX' hy hz hm HQ hjl hjl'
   have k10':=HY.out 10
   simp at k10'
   go_wp2_with fail
   have hS0:(fun w':World=>Below wr.heap.size wr w') wr.drew:=(Below.refl _ _).drew
   refine wp_region_held_drew (S:=(fun w':World=>Below wr.heap.size wr w')) (by kernel_rfl) hS0 fun hS0=>?_
   refine wpAnyH_take (i:=0) (v:=.pointer (some ⟨w.heap.size,10,none⟩)) rfl (by kernel_rfl) (by kernel_rfl) (by kernel_rfl) (fun _ _ _ h=>h) (Or.inl ⟨by kernel_rfl,fun w' hw'=>?_⟩) hS0 ?_
   ·go_simp
   refine wpAnyH_take (i:=1) (v:=.slice (some a) L c) rfl (by kernel_rfl) (by kernel_rfl) (by kernel_rfl) (fun _ _ _ h=>h) (Or.inl ⟨by kernel_rfl,fun w' hw'=>?_⟩) hS0 ?_
   ·have h3:=(Below.cell hw' (World.block_lt_of_cell? _ _ k10)).trans k10;go_simp
   refine wpAnyH_take (i:=2) (v:=.int .i64 (j:Nat)) rfl (by kernel_rfl) (by kernel_rfl) (by kernel_rfl) (fun _ _ _ h=>h) (Or.inl ⟨by kernel_rfl,fun w' hw'=>?_⟩) hS0 ?_
   ·kernel_rfl
   refine wpAnyH_take (i:=3) (v:=.pointer (some (a.add (j * 11)))) rfl (by kernel_rfl) (by kernel_rfl) (by kernel_rfl) (fun _ _ _ h=>h) (Or.inl ⟨by kernel_rfl,fun w' hw'=>?_⟩) hS0 ?_
   ·go_simp
   refine wpAnyH_take (i:=4) (v:=.agg #[c0,c1,c2,c3,c4,c5,c6,c7,c8,c9,c10]) rfl (by kernel_rfl) (by kernel_rfl) (by kernel_rfl) (fun _ _ _ h=>h) (Or.inl ⟨by kernel_rfl,fun w' hw'=>?_⟩) hS0 ?_
   ·exact run_boxG 31 11 size11 Tryz.underlying31 _ rfl (a.add (j * 11)) (by kernel_rfl) (cs:=[c0,c1,c2,c3,c4,c5,c6,c7,c8,c9,c10]) (fun i v h=>(Below.cell hw' (World.block_lt_of_cell? _ _ (HW.out i v h))).trans (HW.out i v h)) rfl
   refine wpAnyH_take (i:=5) (v:=.pointer (some ⟨w.heap.size + 1,10,none⟩)) rfl (by kernel_rfl) (by kernel_rfl) (by kernel_rfl) (fun _ _ _ h=>h) (Or.inl ⟨by kernel_rfl,fun w' hw'=>?_⟩) hS0 ?_
   ·go_simp
   refine wpAnyH_take (i:=6) (v:=.slice (some a') L c') rfl (by kernel_rfl) (by kernel_rfl) (by kernel_rfl) (fun _ _ _ h=>h) (Or.inl ⟨by kernel_rfl,fun w' hw'=>?_⟩) hS0 ?_
   ·have h3:=(Below.cell hw' (World.block_lt_of_cell? _ _ k10')).trans k10';go_simp
   refine wpAnyH_take (i:=7) (v:=.int .i64 (j:Nat)) rfl (by kernel_rfl) (by kernel_rfl) (by kernel_rfl) (fun _ _ _ h=>h) (Or.inl ⟨by kernel_rfl,fun w' hw'=>?_⟩) hS0 ?_
   ·kernel_rfl
   refine wpAnyH_take (i:=8) (v:=.pointer (some (a'.add (j * 11)))) rfl (by kernel_rfl) (by kernel_rfl) (by kernel_rfl) (fun _ _ _ h=>h) (Or.inl ⟨by kernel_rfl,fun w' hw'=>?_⟩) hS0 ?_
   ·go_simp
   refine wpAnyH_take (i:=9) (v:=.agg #[d0,d1,d2,d3,d4,d5,d6,d7,d8,d9,d10]) rfl (by kernel_rfl) (by kernel_rfl) (by kernel_rfl) (fun _ _ _ h=>h) (Or.inl ⟨by kernel_rfl,fun w' hw'=>?_⟩) hS0 ?_
   ·exact run_boxG 31 11 size11 Tryz.underlying31 _ rfl (a'.add (j * 11)) (by kernel_rfl) (cs:=[d0,d1,d2,d3,d4,d5,d6,d7,d8,d9,d10]) (fun i v h=>(Below.cell hw' (World.block_lt_of_cell? _ _ (HW'.out i v h))).trans (HW'.out i v h)) rfl
   refine wpAnyH_ready (rs:=[10]) (by kernel_rfl) (by simp) (AllReadyH.cons rfl (fun K hK=>?_) AllReadyH.nil)
   go_simp
   refine HCL.out.mono ?_
   rintro e w4 ⟨rfl,hB⟩
   have h4:Below wr.heap.size wr w4:=hS0.trans (hB.mono hS0.size)
   refine hK.out _ _ h4 (fun hS1=>?_)
   refine wpAnyH_ready (rs:=[11]) (by kernel_rfl) (by simp) (AllReadyH.cons rfl (fun K hK=>?_) AllReadyH.nil)
   go_simp
   refine hK.out _ _ h4 (fun hS2=>?_)
   refine wpAnyH_done (by kernel_rfl) ?_ _
   have HB4:=Lib.hid (HB.out.trans (h4.mono HB.out.size))
   have HX4:=Lib.hid (cellsBelow HX.out _ rfl h4)
   have HY4:=Lib.hid (cellsBelow HY.out _ rfl h4)
   clear h4 hS0 hS1 hS2 hB k10 k10'
   go_wp2
   case roundEnd=>exact ⟨⟨j + 1,by push_cast;rfl,by show _≤_;omega,HB4,HX4,HY4⟩,by simp [RowKit.intOf];omega⟩
  ·have hj':¬ ((j:Int) < (L:Int)):=by omega
   go_wp2
   go_ret
   exact ⟨rfl,HB.out⟩
end Go.Proofs.YtfcgoainglpdlaaGreatDoor
