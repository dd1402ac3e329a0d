/- The statement's own count of an expression's nodes: it comes to at most three hundred. No condition. -/
import Derived.Test.YtfcgoainglpdlaaGreatDoorB21
set_option maxRecDepth 20000
set_option maxHeartbeats 1000000
namespace Go.Proofs.YtfcgoainglpdlaaGreatDoor
open Go.RowKit
theorem nodes_any:∀ (s:Nat) (x:GX) (v:Value) (w:World) (n:Nat),SizeOf.sizeOf x < s→n < 300→IsX w x v →
  Calls Tryz.prog 13 #[v,.int .i64 (n:Nat)] w fun e w'=>∃ r:Nat,r≤300∧e=.returned (.int .i64 (r:Nat))∧Below w.heap.size w w':=by
 intro s
 induction s with
 |zero=>intro x v w n h;omega
 |succ s ih =>
 rintro ⟨k,p,s',nm,vn,t,args⟩ v w n hs hn hv
 have HI:Hid (∀ y ∈ args,∀ (u:Value) (W:World) (m:Nat),m < 300→IsX W y u→Calls Tryz.prog 13 #[u,.int .i64 (m:Nat)] W fun e w'=>∃ r:Nat,r≤300∧e=.returned (.int .i64 (r:Nat))∧Below W.heap.size W w') :=
  fun y hy u W m hm hu=>ih y u W m (by have:=List.sizeOf_lt_of_mem hy;simp only [GX.mk.sizeOf_spec] at hs;omega) hm hu
 unfold IsX at hv
 obtain ⟨y0,y1,y2,y3,y4,o,c,rfl,n1,n2,ht,hl,hc,ha⟩:=hv
 have hbb:Hid (Below w.heap.size w (w.alloc (.cells #[.int .i64 k,.int .i64 p,.int .i64 s',.string nm,.int .i64 vn,y0,y1,y2,y3,y4,.slice o args.length c] 31))):=(Below.refl _ _).alloc (Nat.le_refl _) _
 have HA:=Lib.hid ha
 clear ht ha ih hs n1 n2
 have hn1:(n:Int) + 1≤9223372036854775807:=by omega
 have hn2:-9223372036854775808≤(n:Int) + 1:=by omega
 go_enter Tryz.func13,Tryz.ntmps13
 go_wp2_with fail
 go_loopw [1,5] (fun u i wr=>∃ m j:Nat,u=.int .i64 (m:Nat)∧i=.int .i64 (j:Nat)∧Hid (m≤300)∧Hid (j≤args.length)∧Hid (Below w.heap.size w wr)∧Hid (Blk wr w.heap.size 31 #[.int .i64 k,.int .i64 p,.int .i64 s',.string nm,.int .i64 vn,y0,y1,y2,y3,y4,.slice o args.length c])) (fun _ i _=>args.length - (RowKit.intOf i).toNat)
 case atStart =>
  exact ⟨n + 1,0,by push_cast;rfl,rfl,by show _≤_;omega,Nat.zero_le _,hbb,Blk.new _ _ _⟩
 case round =>
  obtain ⟨m,j,rfl,rfl,H1,H2,HB,HX⟩:=hrel
  have k10:=HX.out.cell 10
  simp at k10
  clear hn1 hn2
  by_cases hj:j < args.length
  ·have hj':((j:Int) < (args.length:Int)):=by omega
   by_cases hm:m < 300
   ·have hm':((m:Int) < 300):=by omega
    have hy:args[j]?=some args[j]:=List.getElem?_eq_getElem hj
    have hmm:args[j] ∈ args:=List.getElem_mem hj
    have HE:=HA.out.at_ j hy
    rw [Nat.zero_add] at HE
    generalize args[j]=y at hy hmm HE
    unfold IsXs at HE
    obtain ⟨⟨a,c0,c1,c2,c3,c4,c5,c6,c7,c8,c9,c10,rfl,e0,e1,e2,e3,e4,e5,e6,e7,e8,e9,e10,hyX⟩,_⟩:=HE
    have HR:=Lib.hid (row11 e0 e1 e2 e3 e4 e5 e6 e7 e8 e9 e10)
    have HY:=Lib.hid (hyX.below HB.out)
    clear e0 e1 e2 e3 e4 e5 e6 e7 e8 e9 e10 hyX
    have hj1:(j:Int) + 1≤9223372036854775807:=by have:maxLen=9223372036854775807:=rfl;omega
    have hj2:-9223372036854775808≤(j:Int) + 1:=by omega
    have HC:=Lib.hid (HI.out y hmm _ wr m hm HY.out)
    clear hy hmm
    go_wp2_with (refine boxLoadG 31 11 size11 Tryz.underlying31 rfl _ rfl _ rfl (cs:=[c0,c1,c2,c3,c4,c5,c6,c7,c8,c9,c10]) (fun j v h=>(HB.out.cell (World.block_lt_of_cell? _ _ (HR.out j v h))).trans (HR.out j v h)) rfl ?_)
    refine HC.out.mono ?_
    rintro e w2 ⟨r,hr,rfl,hB⟩
    have HB2:=Lib.hid (HB.out.trans (hB.mono HB.out.size))
    have HX2:=Lib.hid (HX.out.below hB)
    have HQ:=Lib.hid hr
    clear hB hr k10
    go_wp2
    case roundEnd=>exact ⟨⟨r,j + 1,rfl,by push_cast;rfl,HQ,by show _≤_;omega,HB2,HX2⟩,by simp [RowKit.intOf];omega⟩
   ·have hm':¬ ((m:Int) < 300):=by omega
    go_wp2
    go_ret
    exact ⟨m,H1.out,rfl,HB.out⟩
  ·have hj':¬ ((j:Int) < (args.length:Int)):=by omega
   go_wp2
   go_ret
   exact ⟨m,H1.out,rfl,HB.out⟩
end Go.Proofs.YtfcgoainglpdlaaGreatDoor
