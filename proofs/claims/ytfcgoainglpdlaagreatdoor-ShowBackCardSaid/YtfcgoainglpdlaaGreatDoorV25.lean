/- The printer's state over a tree that stands; put of one, two, three texts; types. Condition: the text is of at most 2^47 bytes. -/
import Derived.Test.YtfcgoainglpdlaaGreatDoorV24
import Derived.Test.YtfcgoainglpdlaaGreatDoorV01
import Derived.Test.YtfcgoainglpdlaaGreatDoorV08
import Derived.Test.YtfcgoainglpdlaaGreatDoorV12
set_option maxRecDepth 20000
set_option maxHeartbeats 1000000
namespace Go.Proofs.YtfcgoainglpdlaaGreatDoor
open Go.RowKit
open Go.Lib hiding intOf
theorem Kq.blk {B b:Nat} {w w':World} (h:Kq B b w w') {k:Nat} {t:TypeId} {cs:Array Value} (hk:Blk w k t cs) (hb:k≠b) (ht:t≠5):Blk w' k t cs :=
 h.others k _ hk (fun e=>hb (by simpa using e)) fun c fz e=>by simp only [Obj.cells.injEq] at e;exact ht e.2.1
theorem LvlsAt.same {w w':World} {m:Nat} (h:LvlsAt w m) (hk:∀ o,w.heap[m]?=some o→(∀ c t fz,o≠.cells c t fz)→w'.heap[m]?=some o):LvlsAt w' m:=by
 obtain ⟨es,clock,h1,h2⟩:=h
 exact ⟨es,clock,hk _ h1 (fun _ _ _ e=>by cases e),h2⟩
structure SP (w0:World) (b m:Nat) (l:List UInt8) (w:World):Prop where
 pw:PW w0.heap.size b m l w
 lev:LvlsAt w m
 below:Below w0.heap.size w0 w
 ne:m≠b
section
variable {w0 w w':World} {b m:Nat} {l:List UInt8}
theorem SP.lt (h:SP w0 b m l w):b < w.heap.size:=h.pw.lt
theorem SP.base (h:SP w0 b m l w):w0.heap.size≤w.heap.size:=h.below.size
theorem SP.alloc (h:SP w0 b m l w) (o:Obj):SP w0 b m l (w.alloc o) :=
 ⟨h.pw.alloc o,h.lev.same fun _ hx _=>(Lib.alloc_old w o m (Array.getElem?_eq_some_iff.1 hx).1).trans hx,h.below.alloc h.base o,h.ne⟩
theorem SP.drew (h:SP w0 b m l w):SP w0 b m l w.drew:=⟨h.pw.drew,h.lev.same fun _ hx _=>hx,Below.drew h.below,h.ne⟩
theorem SP.set_ (h:SP w0 b m l w) {k i:Nat} {t:TypeId} {cs:Array Value} (hk:Blk w k t cs) (ht:t≠5) (hb:k≠b) (h0:w0.heap.size≤k) (u:Value):SP w0 b m l (w.setCell ⟨k,i,none⟩ u):=by
 refine ⟨h.pw.set_ (a:=⟨k,i,none⟩) hk ht hb u,h.lev.same fun o hx ho=>?_,h.below.setCell (p:=⟨k,i,none⟩) h0 u,h.ne⟩
 rw [Below.heap_setCell _ _ _ _ (fun e=>?_)]
 ·exact hx
 ·simp only at e
  rw [e,hk] at hx
  exact ho _ _ _ (Option.some.inj hx).symm
end
theorem SP.cast {w0 w:World} {b m:Nat} {l l':List UInt8} (h:SP w0 b m l w) (e:l=l'):SP w0 b m l' w:=e ▸ h
def Does (w0:World) (b m:Nat) (f:FuncId) (args:Array Value) (out:List UInt8) (w:World) (l:List UInt8):Prop :=
 l.length + out.length≤140737488355328→Calls Tryz.prog f args w fun e w'=>e=.returned (.tuple #[])∧SP w0 b m (l++out) w'∧Kq w0.heap.size b w w'
theorem SP.after {w0 w w':World} {b m:Nat} {l l':List UInt8} (h:SP w0 b m l w) (hp:PW w0.heap.size b m l' w') (hk:Kq w0.heap.size b w w'):SP w0 b m l' w' :=
 ⟨hp,h.lev.same fun o hx ho=>hk.others m o hx (fun e=>h.ne (by simpa using e)) fun c fz=>ho c 5 fz,h.below.trans hk.below,h.ne⟩
theorem put_row (w0:World) (b m:Nat) (l:List UInt8) (w:World) (h:SP w0 b m l w) (g:Nat) (hg:g=w.heap.size) (ss:List ByteArray) (cs:Array Value) (hc:∀ (j:Nat) (s:ByteArray),ss[j]?=some s→cs[j]?=some (.string s)) (hn:ss.length≤1000) (hl:l.length + (cat ss).length≤140737488355328) :
  Calls Tryz.prog 47 #[.pointer (some ⟨b,0,none⟩),.slice (some ⟨g,0,none⟩) ss.length ss.length] (w.alloc (.cells cs 9)) fun e w'=>e=.returned (.tuple #[])∧SP w0 b m (l++cat ss) w'∧Kq w0.heap.size b w w':=by
 subst hg
 have h1:=h.alloc (.cells cs 9)
 have hb:=Blk.new w 9 cs
 refine (put_any w0.heap.size b m w.heap.size l ss _ h1.pw h1.base (fun j s hj=>(hb.cell j).trans (hc j s hj)) ⟨cs,9,(0,0),hb,by decide⟩ (by have:=h.lt;omega) hl hn).mono ?_
 rintro e w' ⟨rfl,hp,hk⟩
 exact ⟨rfl,h1.after hp hk,((Kq.refl _ _ _).alloc h.base _).trans hk⟩
theorem put1 (w0:World) (b m:Nat) (l:List UInt8) (w:World) (h:SP w0 b m l w) (s:ByteArray) (g:Nat) (hg:g=w.heap.size) (hl:l.length + s.data.toList.length≤140737488355328) :
  Calls Tryz.prog 47 #[.pointer (some ⟨b,0,none⟩),.slice (some ⟨g,0,none⟩) 1 1] (w.alloc (.cells #[.string s] 9)) fun e w'=>e=.returned (.tuple #[])∧SP w0 b m (l++s.data.toList) w'∧Kq w0.heap.size b w w':=by
 have hc:cat [s]=s.data.toList:=by simp [cat]
 have:=put_row w0 b m l w h g hg [s] #[.string s] (fun j t hj=>by match j,hj with | 0,hj=>simp at hj;subst hj;rfl) (by simp) (by rw [hc];exact hl)
 rwa [hc] at this
theorem put2 (w0:World) (b m:Nat) (l:List UInt8) (w:World) (h:SP w0 b m l w) (s t:ByteArray) (g:Nat) (hg:g=w.heap.size) (hl:l.length + (s.data.toList++t.data.toList).length≤140737488355328) :
  Calls Tryz.prog 47 #[.pointer (some ⟨b,0,none⟩),.slice (some ⟨g,0,none⟩) 2 2] (w.alloc (.cells #[.string s,.string t] 9)) fun e w'=>e=.returned (.tuple #[])∧SP w0 b m (l++(s.data.toList++t.data.toList)) w'∧Kq w0.heap.size b w w':=by
 have hc:cat [s,t]=s.data.toList++t.data.toList:=by simp [cat]
 have:=put_row w0 b m l w h g hg [s,t] #[.string s,.string t] (fun j x hj=>by match j,hj with | 0,hj=>simp at hj;subst hj;rfl | 1,hj=>simp at hj;subst hj;rfl) (by simp) (by rw [hc];exact hl)
 rwa [hc] at this
theorem put3 (w0:World) (b m:Nat) (l:List UInt8) (w:World) (h:SP w0 b m l w) (s t u:ByteArray) (g:Nat) (hg:g=w.heap.size) (hl:l.length + (s.data.toList++(t.data.toList++u.data.toList)).length≤140737488355328) :
  Calls Tryz.prog 47 #[.pointer (some ⟨b,0,none⟩),.slice (some ⟨g,0,none⟩) 3 3] (w.alloc (.cells #[.string s,.string t,.string u] 9)) fun e w'=>e=.returned (.tuple #[])∧SP w0 b m (l++(s.data.toList++(t.data.toList++u.data.toList))) w'∧Kq w0.heap.size b w w':=by
 have hc:cat [s,t,u]=s.data.toList++(t.data.toList++u.data.toList):=by simp [cat]
 have:=put_row w0 b m l w h g hg [s,t,u] #[.string s,.string t,.string u] (fun j x hj=>by match j,hj with | 0,hj=>simp at hj;subst hj;rfl | 1,hj=>simp at hj;subst hj;rfl | 2,hj=>simp at hj;subst hj;rfl) (by simp) (by rw [hc];exact hl)
 rwa [hc] at this
theorem typG_1 (p:Int) (g n:ByteArray) (args:List GT):typG (.mk 1 p g n args)=⟨#[105,110,116]⟩:=by rw [typG];simp
theorem typG_2 (p:Int) (g n:ByteArray) (args:List GT):typG (.mk 2 p g n args)=⟨#[98,111,111,108]⟩:=by rw [typG];simp
theorem typG_3 (p:Int) (g n:ByteArray) (args:List GT):typG (.mk 3 p g n args)=⟨#[116,101,120,116]⟩:=by rw [typG];simp
theorem typG_4a (p:Int) (n:ByteArray) (args:List GT):typG (.mk 4 p ⟨#[]⟩ n args)=n:=by rw [typG];simp
theorem typG_4b (p:Int) (g n:ByteArray) (args:List GT) (hg:g≠⟨#[]⟩):(typG (.mk 4 p g n args)).data.toList=g.data.toList++[46]++n.data.toList:=by rw [typG];simp [hg,ByteArray.data_append]
theorem typG_5a (p:Int) (g n:ByteArray):(typG (.mk 5 p g n [])).data.toList=[91,93]++[63]:=by rw [typG,typGs];simp [ByteArray.data_append]
theorem typG_5b (p:Int) (g n:ByteArray) (y:GT) (r:List GT):(typG (.mk 5 p g n (y::r))).data.toList=[91,93]++(typG y).data.toList:=by rw [typG,typGs];simp [ByteArray.data_append]
theorem typG_no (k p:Int) (g n:ByteArray) (args:List GT) (h1:¬ k=1) (h2:¬ k=2) (h3:¬ k=3) (h4:¬ k=4) (h5:¬ k=5):typG (.mk k p g n args)=⟨#[63]⟩:=by rw [typG];simp [h1,h2,h3,h4,h5]
theorem typed_any (w0:World) (b m:Nat):∀ (s:Nat) (x:GT) (v:Value) (l:List UInt8) (w:World),SizeOf.sizeOf x < s→IsG w0 x v→SP w0 b m l w →
  Does w0 b m 27 #[.pointer (some ⟨b,0,none⟩),v] (typG x).data.toList w l:=by
 intro s
 induction s with
 |zero=>intro x v l w h;omega
 |succ s ih =>
 rintro ⟨k,p,g,n,args⟩ v l w hs hv hp hl
 unfold IsG at hv
 obtain ⟨o,c,rfl,hol,hoc,ha⟩:=hv
 have HX:=Lib.hid (Blk.new w 24 #[.int .i64 k,.int .i64 p,.string g,.string n,.slice o args.length c])
 have HP1:=Lib.hid (hp.alloc (.cells #[.int .i64 k,.int .i64 p,.string g,.string n,.slice o args.length c] 24))
 have HK1:=Lib.hid ((Kq.refl w0.heap.size b w).alloc hp.base (.cells #[.int .i64 k,.int .i64 p,.string g,.string n,.slice o args.length c] 24))
 have hbb:Hid (w.heap.size≠b):=by have:=hp.lt;show _≠_;omega
 clear hp hol hoc
 by_cases h1:k=1
 ·subst h1
  rw [typG_1] at hl ⊢
  have HL:=Lib.hid hl
  clear hl ha ih
  go_enter Tryz.func27,Tryz.ntmps27
  go_wp2_with (first
   |(go_at_call 47;refine (put1 w0 b m _ _ HP1.out _ _ (by simp) HL.out).mono ?_;rintro e w2 ⟨rfl,hp,hk⟩;have HP2:=Lib.hid hp;have HK2:=Lib.hid (HK1.out.trans hk);clear hp hk))
  go_wp2
  first | go_end0 | refine bodyPost_ret (results_none rfl _ _ _) rfl ?_
  exact ⟨rfl,HP2.out,HK2.out⟩
 by_cases h2:k=2
 ·subst h2
  rw [typG_2] at hl ⊢
  have HL:=Lib.hid hl
  clear hl ha ih
  go_enter Tryz.func27,Tryz.ntmps27
  go_wp2_with (first
   |(go_at_call 47;refine (put1 w0 b m _ _ HP1.out _ _ (by simp) HL.out).mono ?_;rintro e w2 ⟨rfl,hp,hk⟩;have HP2:=Lib.hid hp;have HK2:=Lib.hid (HK1.out.trans hk);clear hp hk))
  go_wp2
  first | go_end0 | refine bodyPost_ret (results_none rfl _ _ _) rfl ?_
  exact ⟨rfl,HP2.out,HK2.out⟩
 by_cases h3:k=3
 ·subst h3
  rw [typG_3] at hl ⊢
  have HL:=Lib.hid hl
  clear hl ha ih
  go_enter Tryz.func27,Tryz.ntmps27
  go_wp2_with (first
   |(go_at_call 47;refine (put1 w0 b m _ _ HP1.out _ _ (by simp) HL.out).mono ?_;rintro e w2 ⟨rfl,hp,hk⟩;have HP2:=Lib.hid hp;have HK2:=Lib.hid (HK1.out.trans hk);clear hp hk))
  go_wp2
  first | go_end0 | refine bodyPost_ret (results_none rfl _ _ _) rfl ?_
  exact ⟨rfl,HP2.out,HK2.out⟩
 by_cases h4:k=4
 ·subst h4
  clear ha ih
  by_cases hg:g=⟨#[]⟩
  ·subst hg
   rw [typG_4a] at hl ⊢
   have HL:=Lib.hid hl
   clear hl
   go_enter Tryz.func27,Tryz.ntmps27
   go_wp2_with (first
    |(go_at_call 47;refine (put1 w0 b m _ _ HP1.out _ _ (by simp) HL.out).mono ?_;rintro e w2 ⟨rfl,hp,hk⟩;have HP2:=Lib.hid hp;have HK2:=Lib.hid (HK1.out.trans hk);clear hp hk))
   go_wp2
   first | go_end0 | refine bodyPost_ret (results_none rfl _ _ _) rfl ?_
   exact ⟨rfl,HP2.out,HK2.out⟩
  ·have hg':g.toList.isEmpty=false:=by
    cases h:g.toList.isEmpty with
    |false=>rfl
    |true=>exact absurd (bytes_nil g h) hg
   rw [typG_4b _ _ _ _ hg] at hl ⊢
   have HL:Hid (l.length + (g.data.toList++(⟨#[46]⟩:ByteArray).data.toList).length≤140737488355328):=by simp only [List.length_append] at hl ⊢;show _≤_;have:(⟨#[46]⟩:ByteArray).data.toList.length=[(46:UInt8)].length:=rfl;omega
   have HL2:Hid ((l++(g.data.toList++(⟨#[46]⟩:ByteArray).data.toList)).length + n.data.toList.length≤140737488355328):=by simp only [List.length_append] at hl ⊢;show _≤_;have:(⟨#[46]⟩:ByteArray).data.toList.length=[(46:UInt8)].length:=rfl;omega
   clear hl hg
   go_enter Tryz.func27,Tryz.ntmps27
   go_wp2_with (first
    |(go_at_call 47;refine (put1 w0 b m _ _ HP2.out _ _ (by simp) HL2.out).mono ?_;rintro e w3 ⟨rfl,hp,hk⟩;have HP3:=Lib.hid hp;have HK3:=Lib.hid (HK2.out.trans hk);clear hp hk)
    |(go_at_call 47;refine (put2 w0 b m _ _ HP1.out _ _ _ (by simp) HL.out).mono ?_;rintro e w2 ⟨rfl,hp,hk⟩;have HP2:=Lib.hid hp;have HK2:=Lib.hid (HK1.out.trans hk);have HX2:=Lib.hid (hk.blk HX.out hbb.out (by decide));have d2:=HX2.out.cell;clear hp hk))
   go_wp2
   first | go_end0 | refine bodyPost_ret (results_none rfl _ _ _) rfl ?_
   refine ⟨rfl,HP3.out.cast ?_,HK3.out⟩
   simp
 by_cases h5:k=5
 ·subst h5
  cases args with
  |nil =>
   rw [typG_5a] at hl ⊢
   have HL:Hid (l.length + (⟨#[91,93]⟩:ByteArray).data.toList.length≤140737488355328):=by simp only [List.length_append] at hl;show _≤_;have:(⟨#[91,93]⟩:ByteArray).data.toList.length=[(91:UInt8),93].length:=rfl;omega
   have HL2:Hid ((l++(⟨#[91,93]⟩:ByteArray).data.toList).length + (⟨#[63]⟩:ByteArray).data.toList.length≤140737488355328):=by simp only [List.length_append] at hl ⊢;show _≤_;have:(⟨#[91,93]⟩:ByteArray).data.toList.length=[(91:UInt8),93].length:=rfl;have:(⟨#[63]⟩:ByteArray).data.toList.length=[(63:UInt8)].length:=rfl;omega
   clear hl ha ih
   go_enter Tryz.func27,Tryz.ntmps27
   go_wp2_with (first
    |(go_at_call 47;refine (put1 w0 b m _ _ HP2.out _ _ (by simp) HL2.out).mono ?_;rintro e w3 ⟨rfl,hp,hk⟩;have HP3:=Lib.hid hp;have HK3:=Lib.hid (HK2.out.trans hk);clear hp hk)
    |(go_at_call 47;refine (put1 w0 b m _ _ HP1.out _ _ (by simp) HL.out).mono ?_;rintro e w2 ⟨rfl,hp,hk⟩;have HP2:=Lib.hid hp;have HK2:=Lib.hid (HK1.out.trans hk);have HX2:=Lib.hid (hk.blk HX.out hbb.out (by decide));have d2:=HX2.out.cell;clear hp hk))
   go_wp2
   first | go_end0 | refine bodyPost_ret (results_none rfl _ _ _) rfl ?_
   refine ⟨rfl,HP3.out.cast ?_,HK3.out⟩
   simp
  |cons y r =>
   unfold IsGs at ha
   obtain ⟨⟨a,c0,c1,c2,c3,c4,rfl,e0,e1,e2,e3,e4,hy⟩,_⟩:=ha
   have hz:SizeOf.sizeOf y < s:=by simp at hs;omega
   rw [typG_5b] at hl ⊢
   have HL:Hid (l.length + (⟨#[91,93]⟩:ByteArray).data.toList.length≤140737488355328):=by simp only [List.length_append] at hl;show _≤_;have:(⟨#[91,93]⟩:ByteArray).data.toList.length=[(91:UInt8),93].length:=rfl;omega
   have HL2:Hid ((l++(⟨#[91,93]⟩:ByteArray).data.toList).length + (typG y).data.toList.length≤140737488355328):=by simp only [List.length_append] at hl ⊢;show _≤_;have:(⟨#[91,93]⟩:ByteArray).data.toList.length=[(91:UInt8),93].length:=rfl;omega
   have HI:=Lib.hid (fun (l':List UInt8) (W:World) (hp:SP w0 b m l' W)=>ih y (.agg #[c0,c1,c2,c3,c4]) l' W hz hy hp)
   have HC:=Lib.hid (fun (W:World) (hb:Below w0.heap.size w0 W)=>And.intro ((hb.cell (World.block_lt_of_cell? _ _ e0)).trans e0) (And.intro ((hb.cell (World.block_lt_of_cell? _ _ e1)).trans e1) (And.intro ((hb.cell (World.block_lt_of_cell? _ _ e2)).trans e2) (And.intro ((hb.cell (World.block_lt_of_cell? _ _ e3)).trans e3) ((hb.cell (World.block_lt_of_cell? _ _ e4)).trans e4)))))
   clear hl ih hy e0 e1 e2 e3 e4
   go_enter Tryz.func27,Tryz.ntmps27
   go_wp2_with (first
    |(go_at_call 27;refine (HI.out _ _ HP2.out HL2.out).mono ?_;rintro e w3 ⟨rfl,hp,hk⟩;have HP3:=Lib.hid hp;have HK3:=Lib.hid (HK2.out.trans hk);clear hp hk)
    |(go_at_call 47;refine (put1 w0 b m _ _ HP1.out _ _ (by simp) HL.out).mono ?_;rintro e w2 ⟨rfl,hp,hk⟩;have HP2:=Lib.hid hp;have HK2:=Lib.hid (HK1.out.trans hk);have HX2:=Lib.hid (hk.blk HX.out hbb.out (by decide));have d2:=HX2.out.cell;obtain ⟨k0,k1,k2,k3,k4⟩:=HC.out _ HP2.out.below;simp [Addr.add] at k0 k1 k2 k3 k4;clear hp hk))
   go_wp2
   first | go_end0 | refine bodyPost_ret (results_none rfl _ _ _) rfl ?_
   refine ⟨rfl,HP3.out.cast ?_,HK3.out⟩
   simp
 ·rw [typG_no k p g n args h1 h2 h3 h4 h5] at hl ⊢
  have HL:=Lib.hid hl
  clear hl ha ih
  go_enter Tryz.func27,Tryz.ntmps27
  go_wp2_with (first
   |(go_at_call 47;refine (put1 w0 b m _ _ HP1.out _ _ (by simp) HL.out).mono ?_;rintro e w2 ⟨rfl,hp,hk⟩;have HP2:=Lib.hid hp;have HK2:=Lib.hid (HK1.out.trans hk);clear hp hk))
  go_wp2
  first | go_end0 | refine bodyPost_ret (results_none rfl _ _ _) rfl ?_
  exact ⟨rfl,HP2.out,HK2.out⟩
end Go.Proofs.YtfcgoainglpdlaaGreatDoor
