/- The statement's own count of statements: it comes to an end. No condition. -/
import Derived.Test.YtfcgoainglpdlaaGreatDoorB47
import Derived.Test.YtfcgoainglpdlaaGreatDoorB03
import Derived.Test.YtfcgoainglpdlaaGreatDoorB27
set_option maxRecDepth 100000
set_option maxHeartbeats 4000000
namespace Go.Proofs.YtfcgoainglpdlaaGreatDoor
open Go.RowKit
open Go.Lib hiding intOf
theorem part_pre {a r:List Value} {j:Nat} {v:Value} (h:a[j]?=some v):(a++r)[j]?=some v:=by
 rw [List.getElem?_append_left (List.getElem?_eq_some_iff.1 h).1];exact h
theorem partX {w:World} {a:Addr} {i:Nat} {cs:List Value} {k p:Int} {nm:ByteArray} {h:Bool} {e0 e1 e2 e3 e4 e5 e6 e7 e8 e9 e10 s1 s2:Value} (hc:∀ (j:Nat) (v:Value),cs[j]?=some v→w.cell? ((a.add (i * 17)).add j)=some v) (he:Value.agg cs.toArray=.agg #[.int .i64 k,.int .i64 p,.string nm,.bool h,e0,e1,e2,e3,e4,e5,e6,e7,e8,e9,e10,s1,s2]) :
  (∀ (j:Nat) (v:Value),[e0,e1,e2,e3,e4,e5,e6,e7,e8,e9,e10][j]?=some v→w.cell? ((⟨(a.add (i * 17)).block,(a.add (i * 17)).off + 4,none⟩:Addr).add j)=some v)∧w.cell? ⟨(a.add (i * 17)).block,(a.add (i * 17)).off + 15,none⟩=some s1∧w.cell? ⟨(a.add (i * 17)).block,(a.add (i * 17)).off + 16,none⟩=some s2:=by
 have h2:cs=[.int .i64 k,.int .i64 p,.string nm,.bool h,e0,e1,e2,e3,e4,e5,e6,e7,e8,e9,e10,s1,s2]:=by
  simp only [Value.agg.injEq] at he
  have:=congrArg Array.toList he
  simpa using this
 subst h2
 have hadd:∀ n:Nat,n≠0→(a.add (i * 17)).add n=⟨(a.add (i * 17)).block,(a.add (i * 17)).off + n,none⟩:=fun n hn=>by
  generalize a.add (i * 17)=z
  unfold Addr.add
  rw [if_neg hn]
 refine ⟨fun j v hj=>?_,?_,?_⟩
 ·have:=hc (4 + j) v (by rw [show 4 + j=j + 1 + 1 + 1 + 1 by omega];simp only [List.getElem?_cons_succ];exact part_pre (r:=[s1,s2]) hj)
  rw [hadd _ (by omega)] at this
  rw [← this]
  congr 1
  unfold Addr.add
  split <;> simp_all [Nat.add_assoc]
 ·have:=hc 15 s1 rfl
  rwa [hadd _ (by decide)] at this
 ·have:=hc 16 s2 rfl
  rwa [hadd _ (by decide)] at this
theorem stmts_any:∀ (s:Nat) (ss:List GS) (o:Option Addr) (c:Nat) (w:World) (n:Nat),SizeOf.sizeOf ss < s→n≤999→ss.length≤9223372036854775807→IsSs w o 0 ss →
  Calls Tryz.prog 16 #[.slice o ss.length c,.int .i64 (n:Nat)] w fun e w'=>∃ r:Nat,r≤999∧e=.returned (.int .i64 (r:Nat))∧Below w.heap.size w w':=by
 intro s
 induction s with
 |zero=>intro ss o c w n h;omega
 |succ s ih =>
 intro ss o c w n hs hn hl hx
 have HI:Hid (∀ y ∈ ss,∀ (k p:Int) (nm:ByteArray) (h:Bool) (x:GX) (u v:List GS),y=.mk k p nm h x u v→(∀ (o:Option Addr) (c:Nat) (W:World) (m:Nat),m≤999→u.length≤9223372036854775807→IsSs W o 0 u→Calls Tryz.prog 16 #[.slice o u.length c,.int .i64 (m:Nat)] W fun e w'=>∃ r:Nat,r≤999∧e=.returned (.int .i64 (r:Nat))∧Below W.heap.size W w') ∧
   (∀ (o:Option Addr) (c:Nat) (W:World) (m:Nat),m≤999→v.length≤9223372036854775807→IsSs W o 0 v→Calls Tryz.prog 16 #[.slice o v.length c,.int .i64 (m:Nat)] W fun e w'=>∃ r:Nat,r≤999∧e=.returned (.int .i64 (r:Nat))∧Below W.heap.size W w')):=fun y hy k p nm h x u v he=>by
  have h1:=memS_size hy
  subst he
  simp only [GS.mk.sizeOf_spec] at h1
  exact ⟨fun o c W m hm hl hu=>ih u o c W m (by omega) hm hl hu,fun o c W m hm hl hu=>ih v o c W m (by omega) hm hl hu⟩
 have HX:=Lib.hid hx
 clear hx ih hs
 go_enter Tryz.func16,Tryz.ntmps16
 go_wp2
 go_loopw [1,5] (fun u i wr=>∃ m j:Nat,u=.int .i64 (m:Nat)∧i=.int .i64 (j:Nat)∧Hid (m≤999)∧Hid (j≤ss.length)∧Hid (Below w.heap.size w wr)) (fun _ i _=>ss.length - (RowKit.intOf i).toNat)
 case atStart=>exact ⟨n,0,rfl,rfl,hn,Nat.zero_le _,Below.refl _ _⟩
 case round =>
  obtain ⟨m,j,rfl,rfl,H1,H2,HB⟩:=hrel
  by_cases hj:j < ss.length
  ·have hj':((j:Int) < (ss.length:Int)):=by omega
   by_cases hm:m≤200
   ·have hm':((m:Int)≤200):=by omega
    have hj0:(0:Int)≤(j:Int):=by omega
    have hj1:(j:Int) + 1≤9223372036854775807:=by omega
    have hj2:-9223372036854775808≤(j:Int) + 1:=by omega
    have hy:ss[j]?=some ss[j]:=List.getElem?_eq_getElem hj
    have hmm:ss[j] ∈ ss:=List.getElem_mem hj
    generalize ss[j]=y at hy hmm
    obtain ⟨a,cs,ho,hcl,hc,hyS⟩:=HX.out.at_ j hy
    rw [Nat.zero_add] at hc
    subst ho
    obtain ⟨k,p,nm,h,x,u,v⟩:=y
    obtain ⟨hIu,hIv⟩:=HI.out _ hmm k p nm h x u v rfl
    unfold IsS at hyS
    obtain ⟨e0,e1,e2,e3,e4,e5,e6,e7,e8,e9,e10,ou,cu,ov,cv,he,hln,hxx,hu,hv⟩:=hyS
    obtain ⟨p1,p2,p3⟩:=partX hc he
    have HE:=Lib.hid (fun (W:World) (hW:Below w.heap.size w W)=>nodes_any _ x _ W 0 (Nat.lt_succ_self _) (by decide) (hxx.below hW))
    have HU:=Lib.hid (fun (W:World) (m:Nat) (hm:m≤999) (hW:Below w.heap.size w W)=>hIu ou cu W m hm hln.1 (hu.below hW))
    have HV:=Lib.hid (fun (W:World) (m:Nat) (hm:m≤999) (hW:Below w.heap.size w W)=>hIv ov cv W m hm hln.2 (hv.below hW))
    have HP:=Lib.hid p1
    have q2:=(HB.out.cell (World.block_lt_of_cell? _ _ p2)).trans p2
    have hm1:(m:Int) + 1≤9223372036854775807:=by omega
    have hm2:-9223372036854775808≤(m:Int) + 1:=by omega
    have hm3:(m:Int) + 1=((m + 1:Nat):Int):=by push_cast;rfl
    clear hc he hxx hu hv hIu hIv hy hmm hcl p1 hm3 hn
    go_wp2_with (refine boxLoadG 31 11 size11 Tryz.underlying31 rfl _ rfl ⟨(a.add (j * 17)).block,(a.add (j * 17)).off + 4,none⟩ rfl (cs:=[e0,e1,e2,e3,e4,e5,e6,e7,e8,e9,e10]) (fun i v h=>(HB.out.cell (World.block_lt_of_cell? _ _ (HP.out i v h))).trans (HP.out i v h)) rfl ?_)
    refine (HE.out _ HB.out).mono ?_
    rintro e w2 ⟨r,hr,rfl,hB⟩
    have HB2:=Lib.hid (HB.out.trans (hB.mono HB.out.size))
    have q2':=(HB2.out.cell (World.block_lt_of_cell? _ _ p2)).trans p2
    clear q2 hB
    by_cases hr3:r < 300
    ·have hr':¬ ((300:Int)≤(r:Int)):=by omega
     have hr'':(r:Int) < 300:=by omega
     have HM1:Hid (m + 1≤999):=by show _≤_;omega
     clear hr hr3 hm hm1 hm2 hm' hj1 hj2
     go_wp2_with fail
     have hcast:((m:Int) + 1)=((m + 1:Nat):Int):=by push_cast;rfl
     rw [hcast]
     refine (HU.out _ (m + 1) HM1.out HB2.out).mono ?_
     rintro e w3 ⟨r2,hr2,rfl,hB⟩
     have HB3:=Lib.hid (HB2.out.trans (hB.mono HB2.out.size))
     have q3':=(HB3.out.cell (World.block_lt_of_cell? _ _ p3)).trans p3
     have HR2:=Lib.hid hr2
     clear hcast hB q2' hr2
     by_cases hr4:r2≤200
     ·have hr5:((r2:Int)≤200):=by omega
      go_wp2_with fail
      refine (HV.out _ r2 HR2.out HB3.out).mono ?_
      rintro e w4 ⟨r3,hr3',rfl,hB⟩
      have HB4:=Lib.hid (HB3.out.trans (hB.mono HB3.out.size))
      have HR3:=Lib.hid hr3'
      clear hB q3' hr3'
      have hj1:(j:Int) + 1≤9223372036854775807:=by omega
      have hj2:-9223372036854775808≤(j:Int) + 1:=by omega
      go_wp2
      case roundEnd=>exact ⟨⟨r3,j + 1,rfl,by push_cast;rfl,HR3,by show _≤_;omega,HB4⟩,by simp [RowKit.intOf];omega⟩
     ·have hr5:¬ ((r2:Int)≤200):=by omega
      clear q3' hr4 hr' hr''
      go_wp2
      case roundEnd =>
       refine ⟨⟨r2,j + 1,rfl,?_,HR2,by show _≤_;omega,HB3⟩,?_⟩
       ·first | (push_cast;rfl) | (rw [IntWalk.i64_in _ ⟨by omega,by omega⟩];push_cast;rfl)
       ·first | (simp [RowKit.intOf];omega) | (rw [IntWalk.i64_in _ ⟨by omega,by omega⟩];simp [RowKit.intOf];omega)
    ·have hr':(300:Int)≤(r:Int):=by omega
     have hr'':¬ (r:Int) < 300:=by omega
     clear hr q2'
     go_wp2
     go_ret
     exact ⟨999,by decide,rfl,HB2.out⟩
   ·have hm':¬ ((m:Int)≤200):=by omega
    go_wp2
    go_ret
    exact ⟨m,H1.out,rfl,HB.out⟩
  ·have hj':¬ ((j:Int) < (ss.length:Int)):=by omega
   go_wp2
   go_ret
   exact ⟨m,H1.out,rfl,HB.out⟩
end Go.Proofs.YtfcgoainglpdlaaGreatDoor
