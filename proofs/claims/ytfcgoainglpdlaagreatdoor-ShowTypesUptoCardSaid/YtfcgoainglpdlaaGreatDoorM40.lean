/- How deep a type's lists are: the statement's own count. No condition. -/
import Derived.Test.YtfcgoainglpdlaaGreatDoorM01
import Derived.Test.YtfcgoainglpdlaaGreatDoorM20
import Derived.Laws.CopyOwn
set_option maxRecDepth 20000
set_option maxHeartbeats 1000000
namespace Go.Proofs.YtfcgoainglpdlaaGreatDoor
open Go.RowKit
mutual
def deepG:GT→Nat
 |.mk _ _ _ _ args=>deepGs args
def deepGs:List GT→Nat
 |[]=>0
 |y::_=>deepG y + 1
end
theorem Blk.at_ {W:World} {k:Nat} {t:TypeId} {cs:Array Value} (h:Blk W k t cs) (i:Nat):W.cell? ⟨k,i,none⟩=cs[i]?:=by
 unfold Blk at h
 simp [World.cell?,h]
theorem IsG.cells {w:World} {x:GT} {c0 c1 c2 c3 c4:Value} (h:IsG w x (.agg #[c0,c1,c2,c3,c4])):∃ (k p:Int) (g n:ByteArray) (args:List GT) (o:Option Addr) (c:Nat),x=.mk k p g n args∧c0=.int .i64 k∧c1=.int .i64 p∧c2=.string g∧c3=.string n∧c4=.slice o args.length c∧IsGs w o 0 args:=by
 obtain ⟨k,p,g,n,args⟩:=x
 unfold IsG at h
 obtain ⟨o,c,hv,_,_,ha⟩:=h
 simp only [Value.agg.injEq,Array.mk.injEq,List.cons.injEq,and_true] at hv
 obtain ⟨rfl,rfl,rfl,rfl,rfl⟩:=hv
 exact ⟨k,p,g,n,args,o,c,rfl,rfl,rfl,rfl,rfl,rfl,ha⟩
def CountG (x:GT) (w wr:World) (j:Nat):Prop :=
 ∃ (k p:Int) (g n:ByteArray) (args:List GT) (o:Option Addr) (c:Nat),Hid (Blk wr w.heap.size 24 #[.int .i64 k,.int .i64 p,.string g,.string n,.slice o args.length c])∧Hid (IsGs w o 0 args)∧Hid (Below w.heap.size w wr)∧Hid (w.heap.size < wr.heap.size)∧Hid (deepG x=j + deepGs args)∧Hid (j≤300)
theorem lists_any (x:GT) (v:Value) (w:World) (hv:IsG w x v) :
  Calls Tryz.prog 10 #[v] w fun e w'=>e=.returned (.int .i64 (min (deepG x) 300:Nat))∧Below w.heap.size w w':=by
 obtain ⟨k,p,g,n,args⟩:=x
 unfold IsG at hv
 obtain ⟨o,c,rfl,hl,hc,ha⟩:=hv
 have hb:Below w.heap.size w (w.alloc (.cells #[.int .i64 k,.int .i64 p,.string g,.string n,.slice o args.length c] 24)):=(Below.refl _ _).alloc (Nat.le_refl _) _
 go_enter Tryz.func10,Tryz.ntmps10
 go_wp2
 go_loopw [3] (fun i wr=>∃ j:Nat,i=.int .i64 (j:Nat)∧CountG (.mk k p g n args) w wr j) (fun i _=>300 - (RowKit.intOf i).toNat)
 case atStart =>
  exact ⟨0,rfl,k,p,g,n,args,o,c,Blk.new _ _ _,ha,hb,by simp [Hid],by simp [Hid,deepG],by simp [Hid]⟩
 case round =>
  obtain ⟨j,rfl,k',p',g',n',args',o',c',HX,HA,HB,HZ,HD,HJ⟩:=hrel
  clear hb ha hl hc
  cases args' with
  |nil =>
   have hd:Hid (min (deepG (.mk k p g n args)) 300=j):=by
    have hz:j≤300:=HJ.out
    have:=HD.out
    rw [deepGs] at this
    show _=_
    omega
   have k4:=HX.out.at_ 4
   simp at k4
   go_wp2
   go_ret
   exact ⟨by rw [hd.out];rfl,HB.out⟩
  |cons y r =>
   by_cases hj:j=300
   ·subst hj
    have hd:Hid (min (deepG (.mk k p g n args)) 300=300):=by
     have:=HD.out
     show _=_
     omega
    have k4:=HX.out.at_ 4
    simp at k4
    go_wp2
    go_ret
    exact ⟨by rw [hd.out];rfl,HB.out⟩
   ·have hj3:j < 300:=by have:j≤300:=HJ.out;omega
    have hn:(decide ((j:Int) < 300))=true:=by simp;omega
    have ha:=HA.out
    unfold IsGs at ha
    obtain ⟨⟨a,c0,c1,c2,c3,c4,rfl,e0,e1,e2,e3,e4,hy⟩,_⟩:=ha
    obtain ⟨k2,p2,g2,n2,args2,o2,cc2,rfl,rfl,rfl,rfl,rfl,rfl,HA2⟩:=hy.cells
    have HA2':=Lib.hid HA2
    clear HA2
    clear hy
    have k0:=(HB.out.cell (World.block_lt_of_cell? _ _ e0)).trans e0
    have k1:=(HB.out.cell (World.block_lt_of_cell? _ _ e1)).trans e1
    have k2':=(HB.out.cell (World.block_lt_of_cell? _ _ e2)).trans e2
    have k3:=(HB.out.cell (World.block_lt_of_cell? _ _ e3)).trans e3
    have k4':=(HB.out.cell (World.block_lt_of_cell? _ _ e4)).trans e4
    simp [Addr.add] at k0 k1 k2' k3 k4'
    clear e0 e1 e2 e3 e4
    have k4:=HX.out.at_ 4
    simp at k4
    have hj2:(j:Int) + 1≤9223372036854775807:=by omega
    have hj3:-9223372036854775808≤(j:Int) + 1:=by omega
    go_wp2_with (refine boxStore 24 5 (sizeOfI infoT) rfl _ _ rfl w.heap.size rfl [_,_,_,_,_] rfl HX.out rfl rfl rfl ?_)
    case roundEnd =>
     have hd:deepG (.mk k p g n args)=j + 1 + deepGs args2:=by
      have:=HD.out
      rw [deepGs,show deepG (.mk k2 p2 g2 n2 args2)=deepGs args2 by rw [deepG]] at this
      omega
     exact ⟨⟨j + 1,by push_cast;rfl,k2,p2,g2,n2,args2,o2,cc2,setRow_heap wr w.heap.size _ _ _ _ HX.out,HA2',below_setRow HB.out (Nat.le_refl _) _,by have:=HZ.out;show _ < _;simpa using this,hd,by show _≤_;omega⟩,by simp [RowKit.intOf];omega⟩
end Go.Proofs.YtfcgoainglpdlaaGreatDoor
