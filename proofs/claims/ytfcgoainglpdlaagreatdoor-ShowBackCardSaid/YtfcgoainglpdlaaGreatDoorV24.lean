/- The printer in memory: a strings.Builder within a struct of the program's own, and the levels' map; what keeps; the Builder's copyCheck, WriteString, String there. Condition: the text is of at most 2^47 bytes. The Builder's String, and the printer's put. Condition: the text is of at most 2^47 bytes. -/
import Derived.Test.YtfcgoainglpdlaaGreatDoorV02
import Derived.Lib.Strings
import Derived.Lib.Slices
import Derived.Lib.Walk
import Derived.Lib.Builder
import Derived.Lib.AppendStr
import Derived.Lib.UnsafeStr
import Derived.Lib.OwnKind
import Derived.Lib.OthersKept
import Derived.Lib.Hide
import Derived.WalkKit
import Derived.Laws.Externs
set_option maxRecDepth 100000
set_option maxHeartbeats 2000000
namespace Go.Proofs.YtfcgoainglpdlaaGreatDoor
open Go.RowKit
open Go.Lib hiding intOf
def PWat (B b m:Nat) (p:Value) (l:List UInt8) (w:World):Prop :=
 B≤b∧∃ v,w.heap[b]?=some (.cells #[p,v,.map (some m)] 96 (0,0))∧w.ownsRow B 5 1 v l.length (Lib.byteCells l)∧v.ownBlock≠some b
def PW (B b m:Nat) (l:List UInt8) (w:World):Prop:=PWat B b m (.pointer none) l w∨PWat B b m (.pointer (some ⟨b,0,none⟩)) l w
structure Kq (B b:Nat) (w w':World):Prop where
 below:Below B w w'
 others:Lib.OthersKept 5 (some b) w w'
theorem Kq.refl (B b:Nat) (w:World):Kq B b w w:=⟨Below.refl _ _,Lib.OthersKept.refl _ _ _⟩
theorem Kq.trans {B b:Nat} {w w1 w2:World} (h:Kq B b w w1) (k:Kq B b w1 w2):Kq B b w w2:=⟨h.below.trans k.below,h.others.trans k.others⟩
theorem Kq.drew {B b:Nat} {w w1:World} (h:Kq B b w w1):Kq B b w w1.drew:=⟨Below.drew h.below,h.others.drew⟩
theorem Kq.alloc {B b:Nat} {w w1:World} (h:Kq B b w w1) (hB:B≤w1.heap.size) (o:Obj):Kq B b w (w1.alloc o):=⟨h.below.alloc hB o,h.others.alloc o⟩
theorem PWat.cell {B b m:Nat} {p:Value} {l:List UInt8} {w:World} (h:PWat B b m p l w):w.cell? ⟨b,0,none⟩=some p∧w.cell? ⟨b,2,none⟩=some (.map (some m)):=by
 obtain ⟨_,v,hb,_⟩:=h
 simp [World.cell?,hb]
theorem PWat.lt {B b m:Nat} {p:Value} {l:List UInt8} {w:World} (h:PWat B b m p l w):b < w.heap.size:=by
 obtain ⟨_,v,hb,_⟩:=h
 rcases Nat.lt_or_ge b w.heap.size with h' | h'
 ·exact h'
 ·simp [Array.getElem?_eq_none h'] at hb
theorem PWat.used {B b m:Nat} {p:Value} {l:List UInt8} {w:World} (h:PWat B b m p l w) (q:Value):PWat B b m q l (w.setCell ⟨b,0,none⟩ q):=by
 obtain ⟨hB,v,hb,hown,hne⟩:=h
 refine ⟨hB,v,?_,?_,hne⟩
 ·simp [World.setCell,Array.getElem?_modify,hb]
 ·refine hown.kept (row:=some b) ⟨rfl,rfl,rfl,by simp [World.setCell],fun k _ hk=>Below.heap_setCell _ _ _ _ (fun e=>hk (by simp [e]))⟩ ?_
  exact Or.inr hne
theorem PW.any {B b m:Nat} {l:List UInt8} {w:World} (h:PW B b m l w):∃ p,PWat B b m p l w:=by
 rcases h with h | h
 ·exact ⟨_,h⟩
 ·exact ⟨_,h⟩
theorem PW.lt {B b m:Nat} {l:List UInt8} {w:World} (h:PW B b m l w):b < w.heap.size:=by
 obtain ⟨p,h⟩:=h.any
 exact h.lt
theorem PW.map_ {B b m:Nat} {l:List UInt8} {w:World} (h:PW B b m l w):w.cell? ⟨b,2,none⟩=some (.map (some m)):=by
 obtain ⟨p,h⟩:=h.any
 exact h.cell.2
theorem PW.drew {B b m:Nat} {l:List UInt8} {w:World} (h:PW B b m l w):PW B b m l w.drew:=h
theorem PW.kept {B b m:Nat} {l:List UInt8} {w w':World} (h:PW B b m l w) (hk:∀ (k:Nat) (o:Obj),w.heap[k]?=some o→w'.heap[k]?=some o):PW B b m l w':=by
 rcases h with ⟨hB,v,hb,hown,hne⟩ | ⟨hB,v,hb,hown,hne⟩
 all_goals
  have hown':w'.ownsRow B 5 1 v l.length (Lib.byteCells l):=by
   refine ⟨hown.1,?_⟩
   rcases hown.2 with h0 | ⟨g,cap,cur,hv,hg,hc,hr⟩
   ·exact .inl h0
   ·exact .inr ⟨g,cap,cur,hv,hg,hk _ _ hc,hr⟩
 ·exact .inl ⟨hB,v,hk _ _ hb,hown',hne⟩
 ·exact .inr ⟨hB,v,hk _ _ hb,hown',hne⟩
theorem PW.alloc {B b m:Nat} {l:List UInt8} {w:World} (h:PW B b m l w) (o:Obj):PW B b m l (w.alloc o) :=
 h.kept fun k _ hk=>(Lib.alloc_old w o k (Array.getElem?_eq_some_iff.1 hk).1).trans hk
theorem PW.set_ {B b m:Nat} {l:List UInt8} {w:World} (h:PW B b m l w) {a:Addr} {c:Array Value} {t:TypeId} {fz:Nat × Nat} (ha:w.heap[a.block]?=some (.cells c t fz)) (ht:t≠5) (hb:a.block≠b) (u:Value):PW B b m l (w.setCell a u):=by
 rcases h with ⟨hB,v,hv,hown,hne⟩ | ⟨hB,v,hv,hown,hne⟩
 all_goals
  have e:(w.setCell a u).heap[b]?=w.heap[b]?:=Below.heap_setCell _ _ _ _ (fun e=>hb e.symm)
  have hown':(w.setCell a u).ownsRow B 5 1 v l.length (Lib.byteCells l):=by
   refine ⟨hown.1,?_⟩
   rcases hown.2 with h0 | ⟨g,cap,cur,hv,hg,hc,hr⟩
   ·exact .inl h0
   ·refine .inr ⟨g,cap,cur,hv,hg,?_,hr⟩
    rw [Below.heap_setCell _ _ _ _ (fun e=>?_)]
    ·exact hc
    ·rw [← e,hc] at ha
     simp only [Option.some.injEq,Obj.cells.injEq] at ha
     exact ht ha.2.1.symm
 ·exact .inl ⟨hB,v,e.trans hv,hown',hne⟩
 ·exact .inr ⟨hB,v,e.trans hv,hown',hne⟩
theorem sizeB:(Tryz.prog.info? 94).map (·.size)=some 2:=by kernel_rfl
theorem liesB:liesAt Tryz.prog Tryz.prog.depth 96 (3 / Tryz.prog.cellsOf 96) 0 94 1=true:=by kernel_rfl
theorem infoU:(Tryz.prog.info? 5).map (fun i=>(i.zero,i.size,i.bytes))=some (some (.int .u8 0),1,1):=by kernel_rfl
theorem cellsU:Tryz.prog.cellsOf 5=1:=by kernel_rfl
theorem copy_used (b:Nat) (w:World) (h0:w.cell? ⟨b,0,none⟩=some (.pointer (some ⟨b,0,none⟩))) :
  Calls Tryz.prog 104 #[.pointer (some ⟨b,0,none⟩)] w fun e w'=>e=.returned (.tuple #[])∧w'=w:=by
 obtain ⟨j,hj,_⟩:=Option.map_eq_some_iff.1 sizeB
 go_enter Tryz.func104,Tryz.ntmps104
 go_wp2
 rw [Lib.run_neq_ptr_same w _ Tryz.underlying91 hj]
 go_wp2
 go_end0
 exact ⟨rfl,rfl⟩
theorem copy_fresh (b:Nat) (w:World) (h0:w.cell? ⟨b,0,none⟩=some (.pointer none)) (hsh:w.shape? b=some (96,3)) (hfz:w.frozen? ⟨b,0,none⟩=false) :
  Calls Tryz.prog 104 #[.pointer (some ⟨b,0,none⟩)] w fun e w'=>e=.returned (.tuple #[])∧w'=w.setCell ⟨b,0,none⟩ (.pointer (some ⟨b,0,none⟩)):=by
 obtain ⟨j,hj,hjs⟩:=Option.map_eq_some_iff.1 sizeB
 go_enter Tryz.func104,Tryz.ntmps104
 go_wp2
 rw [Lib.run_to_unsafe w ⟨b,0,none⟩ Tryz.underlying91 Tryz.underlying156 hj (by rw [hjs];decide) hsh (Nat.zero_lt_succ 2)]
 simp only [Result.andThen]
 rw [Oper.upon_value]
 go_wp2
 rw [run_callFunc_extern Tryz.func125 (by kernel_rfl) (by kernel_rfl) (by kernel_rfl) (e:=Extern.AbiNoEscape.same) (by kernel_rfl)]
 rw [Lib.run_noEscape]
 simp only [Result.andThen]
 rw [Oper.upon_value]
 go_wp2
 rw [Lib.run_from_unsafe w ⟨b,0,none⟩ Tryz.underlying156 Tryz.underlying91 hj hsh liesB]
 simp only [Result.andThen]
 rw [Oper.upon_value]
 go_wp2
 go_end0
 exact ⟨rfl,rfl⟩
theorem copy_any (B b m:Nat) (l:List UInt8) (w:World) (h:PW B b m l w) :
  Calls Tryz.prog 104 #[.pointer (some ⟨b,0,none⟩)] w fun e w'=>e=.returned (.tuple #[])∧PWat B b m (.pointer (some ⟨b,0,none⟩)) l w'∧Kq B b w w':=by
 rcases h with h | h
 ·have hsh:w.shape? b=some (96,3):=by obtain ⟨_,v,hb,_⟩:=h;simp [World.shape?,hb]
  have hfz:w.frozen? ⟨b,0,none⟩=false:=by obtain ⟨_,v,hb,_⟩:=h;simp [World.frozen?,hb]
  refine (copy_fresh b w h.cell.1 hsh hfz).mono ?_
  rintro e w' ⟨rfl,rfl⟩
  exact ⟨rfl,h.used _,(Below.refl B w).setCell (p:=⟨b,0,none⟩) h.1 _,(Lib.OthersKept.refl _ _ w).setCell ⟨b,0,none⟩ rfl _⟩
 ·refine (copy_used b w h.cell.1).mono ?_
  rintro e w' ⟨rfl,rfl⟩
  exact ⟨rfl,h,Kq.refl _ _ _⟩
theorem write_any (B b m:Nat) (l:List UInt8) (s:ByteArray) (w:World) (h:PW B b m l w) (hlen:l.length + s.size≤140737488355328) (hBw:B≤w.heap.size) :
  Calls Tryz.prog 72 #[.pointer (some ⟨b,0,none⟩),.string s] w fun e w'=>e=.returned (.tuple #[.int .i64 s.size,.nilIface])∧PW B b m (l++s.data.toList) w'∧Kq B b w w':=by
 obtain ⟨i0,hi,hz0,hz1,hz2⟩:=info_parts infoU
 go_enter Tryz.func72,Tryz.ntmps72
 go_wp2_with (go_at_call 104;refine (copy_any B b m l _ h).mono ?_)
 rintro e w1 ⟨rfl,h1,hk1⟩
 obtain ⟨hB,v,hbk,hown,hne⟩:=h1
 have c0:w1.cell? ⟨b,0,none⟩=some (.pointer (some ⟨b,0,none⟩)):=by rw [Lib.cell_of_heap hbk];rfl
 have c1:w1.cell? ⟨b,1,none⟩=some v:=by rw [Lib.cell_of_heap hbk];rfl
 go_wp2_with (at_builtin;refine Lib.wpList_append_own_string _ rfl _ _ 92 9 rfl B 5 i0 Tryz.underlying92 Tryz.underlying9 hi hz0 hz1 hz2 _ _ _ rfl hown s rfl ?c3 ?c4 ?c5 ?_)
 case c3=>unfold maxLen;omega
 case c4=>omega
 case c5=>have:=hk1.below.size;omega
 intro v' w2 hown' hgrow _
 have hlt:b < w1.heap.size:=by
  rcases Nat.lt_or_ge b w1.heap.size with h' | h'
  ·exact h'
  ·simp [Array.getElem?_eq_none h'] at hbk
 have hb2:w2.heap[b]?=some (.cells #[.pointer (some ⟨b,0,none⟩),v,.map (some m)] 96 (0,0)):=by
  rw [hgrow.block b hlt (fun e=>hne e.symm)]
  exact hbk
 have d0:w2.cell? ⟨b,0,none⟩=some (.pointer (some ⟨b,0,none⟩)):=by rw [Lib.cell_of_heap hb2];rfl
 have d1:w2.cell? ⟨b,1,none⟩=some v:=by rw [Lib.cell_of_heap hb2];rfl
 have f1:w2.frozen? ⟨b,1,none⟩=false:=Lib.frozen_of_heap hb2 1
 obtain ⟨ao,n',cap,rfl⟩:∃ ao n' cap,v'=.slice ao n' cap:=by
  rcases hown'.2 with ⟨hv,_⟩ | ⟨g,cap,cur,hv,_⟩
  ·exact ⟨_,_,_,hv⟩
  ·exact ⟨_,_,_,hv⟩
 go_wp2
 go_ret2
 have hL:Lib.byteCells (l++s.data.toList)=Lib.byteCells l++Lib.strCells s:=by simp [Lib.byteCells,Lib.strCells]
 have hN:(l++s.data.toList).length=l.length + s.size:=by rw [List.length_append,Array.length_toList];rfl
 refine ⟨rfl,.inr ⟨hB,_,?_,?_,Lib.ownBlock_ne hown' hb2 (by decide)⟩,?_,?_⟩
 ·simp [World.setCell,Array.getElem?_modify,hb2]
 ·rw [hL,hN]
  exact hown'.kept (row:=some b) ⟨rfl,rfl,rfl,by simp [World.setCell],fun k _ hk=>Below.heap_setCell _ _ _ _ (fun e=>hk (by simp [e]))⟩ (Or.inr (Lib.ownBlock_ne hown' hb2 (by decide)))
 ·exact (hk1.below.grown hgrow (by have:=hk1.below.size;omega) (fun k hk=>(hown.lt k hk).1)).setCell (p:=⟨b,1,none⟩) hB _
 ·exact (hk1.others.grown hgrow (Lib.ownsRow_kind hown)).setCell ⟨b,1,none⟩ rfl _
end Go.Proofs.YtfcgoainglpdlaaGreatDoor
namespace Go.Proofs.YtfcgoainglpdlaaGreatDoor
open Go.RowKit
open Go.Lib hiding intOf
theorem string_some (B b m:Nat) (p:Value) (l:List UInt8) (w:World) (h:PWat B b m p l w) (h0:l≠[]) :
  Calls Tryz.prog 46 #[.pointer (some ⟨b,0,none⟩)] w fun e w'=>e=.returned (.string ⟨l.toArray⟩)∧Below B w w':=by
 obtain ⟨hB,v,hbk,hown,hne⟩:=h
 have hl0:l.length≠0:=by simpa using h0
 obtain ⟨g,cap,cur,rfl,hbg,hg,hnc,hcm,hcs,htake⟩:∃ g cap cur,v=.slice (some ⟨g,0,none⟩) l.length cap∧B≤g∧w.heap[g]?=some (.cells cur 5 (0,0))∧l.length≤cap∧cap≤maxLen∧cur.size=cap * 1∧cur.toList.take (l.length * 1)=Lib.byteCells l:=by
  rcases hown.2 with ⟨_,hz⟩ | ⟨g,cap,cur,hv,r⟩
  ·exact absurd hz hl0
  ·exact ⟨g,cap,cur,hv,r⟩
 have c1:w.drew.cell? ⟨b,1,none⟩=some (.slice (some ⟨g,0,none⟩) l.length cap):=by
  have:w.drew.heap[b]?=some (.cells #[p,.slice (some ⟨g,0,none⟩) l.length cap,.map (some m)] 96 (0,0)):=hbk
  rw [Lib.cell_of_heap this];rfl
 have hSD:(Builtin.unsafeSliceData_ #[92] 120 #[.slice (some ⟨g,0,none⟩) l.length cap]).run Tryz.prog w.drew=.ok (.pointer (some ⟨g,0,none⟩)) w.drew :=
  Lib.run_unsafeSliceData_row _ _ _ _ _ _ (by omega)
 have hUS:(Builtin.unsafeString_ #[120,3] 9 #[.pointer (some ⟨g,0,none⟩),.int .i64 l.length]).run Tryz.prog w.drew=.ok (.string ⟨l.toArray⟩) (w.drew.freeze ⟨g,0,none⟩ l.length):=by
  refine Lib.run_unsafeString_row w.drew 120 3 9 5 Tryz.underlying120 cellsU g cur.size (by have hg':w.drew.heap[g]?=some (.cells cur 5 (0,0)):=hg;simp [World.shape?,hg']) l h0 (by omega) (by unfold maxLen at hcm;omega) ?_
  intro j x hx
  have:=hown.cells (g:=g) rfl j (.int .u8 x.toNat) (by simp [Lib.byteCells,hx])
  exact this
 go_enter Tryz.func46,Tryz.ntmps46
 go_wp2
 go_region
 all_goals (go_wp2;go_ret;exact ⟨rfl,Lib.below_freeze (Below.drew (Below.refl B w)) (p:=⟨g,0,none⟩) hbg _⟩)
theorem us_none (W:World) (q:Option Addr):(Builtin.unsafeString_ #[120,3] 9 #[.pointer q,.int .i64 0]).run Tryz.prog W=.ok (.string .empty) W :=
 Lib.run_unsafeString_none W _ _ _ q
theorem string_none (B b m:Nat) (p:Value) (w:World) (h:PWat B b m p [] w) (hBw:B≤w.heap.size) :
  Calls Tryz.prog 46 #[.pointer (some ⟨b,0,none⟩)] w fun e w'=>e=.returned (.string ⟨#[]⟩)∧Below B w w':=by
 have hlt:=h.lt
 obtain ⟨hB,v,hbk,hown,hne⟩:=h
 have hUS:=us_none
 rcases hown.2 with ⟨rfl,_⟩ | ⟨g,cap,cur,rfl,hbg,hg,_,_,_,_⟩
 ·have c1:w.drew.cell? ⟨b,1,none⟩=some (.slice none 0 0):=by
   have:w.drew.heap[b]?=some (.cells #[p,.slice none 0 0,.map (some m)] 96 (0,0)):=hbk
   rw [Lib.cell_of_heap this];rfl
  have hSD:(Builtin.unsafeSliceData_ #[92] 120 #[.slice none 0 0]).run Tryz.prog w.drew=.ok (.pointer none) w.drew:=rfl
  go_enter Tryz.func46,Tryz.ntmps46
  go_wp2
  go_region
  all_goals (go_wp2;go_ret;exact ⟨rfl,Below.drew (Below.refl B w)⟩)
 ·by_cases hc0:cap=0
  ·subst hc0
   have c1:w.drew.cell? ⟨b,1,none⟩=some (.slice (some ⟨g,0,none⟩) 0 0):=by
    have:w.drew.heap[b]?=some (.cells #[p,.slice (some ⟨g,0,none⟩) 0 0,.map (some m)] 96 (0,0)):=hbk
    rw [Lib.cell_of_heap this];rfl
   have hSD:(Builtin.unsafeSliceData_ #[92] 120 #[.slice (some ⟨g,0,none⟩) 0 0]).run Tryz.prog w.drew=.ok (.pointer (some ⟨w.drew.heap.size,0,none⟩)) (w.drew.alloc (.view ⟨g,0,none⟩ 5)) :=
    Lib.run_unsafeSliceData_zero w.drew _ _ 5 Tryz.underlying120 ⟨g,0,none⟩ 0 (5,cur.size) (by have hg':w.drew.heap[g]?=some (.cells cur 5 (0,0)):=hg;simp [World.shape?,hg'])
   have c2:(w.drew.alloc (.view ⟨g,0,none⟩ 5)).cell? ⟨b,1,none⟩=some (.slice (some ⟨g,0,none⟩) 0 0):=by
    have:(w.drew.alloc (.view ⟨g,0,none⟩ 5)).heap[b]?=_:=(Lib.alloc_old w.drew _ b hlt).trans hbk
    rw [Lib.cell_of_heap this];rfl
   have c3:(w.alloc (.view ⟨g,0,none⟩ 5)).drew.cell? ⟨b,1,none⟩=some (.slice (some ⟨g,0,none⟩) 0 0):=c2
   have c0:w.cell? ⟨b,1,none⟩=some (.slice (some ⟨g,0,none⟩) 0 0):=c1
   go_enter Tryz.func46,Tryz.ntmps46
   go_wp2
   go_region
   all_goals (go_wp2;go_ret;exact ⟨rfl,(Below.drew (Below.refl B w)).alloc hBw _⟩)
  ·have c1:w.drew.cell? ⟨b,1,none⟩=some (.slice (some ⟨g,0,none⟩) 0 cap):=by
    have:w.drew.heap[b]?=some (.cells #[p,.slice (some ⟨g,0,none⟩) 0 cap,.map (some m)] 96 (0,0)):=hbk
    rw [Lib.cell_of_heap this];rfl
   have hSD:(Builtin.unsafeSliceData_ #[92] 120 #[.slice (some ⟨g,0,none⟩) 0 cap]).run Tryz.prog w.drew=.ok (.pointer (some ⟨g,0,none⟩)) w.drew :=
    Lib.run_unsafeSliceData_row _ _ _ _ _ _ hc0
   clear hc0
   go_enter Tryz.func46,Tryz.ntmps46
   go_wp2
   go_region
   all_goals (go_wp2;go_ret;exact ⟨rfl,Below.drew (Below.refl B w)⟩)
theorem string_any (B b m:Nat) (l:List UInt8) (w:World) (h:PW B b m l w) (hBw:B≤w.heap.size) :
  Calls Tryz.prog 46 #[.pointer (some ⟨b,0,none⟩)] w fun e w'=>e=.returned (.string ⟨l.toArray⟩)∧Below B w w':=by
 obtain ⟨p,h⟩:=h.any
 by_cases h0:l=[]
 ·subst h0
  exact string_none B b m p w h hBw
 ·exact string_some B b m p l w h h0
def StrsAt (w:World) (g:Nat) (ss:List ByteArray):Prop:=∀ j s,ss[j]?=some s→w.cell? ⟨g,j,none⟩=some (.string s)
def cat (ss:List ByteArray):List UInt8:=ss.flatMap fun s=>s.data.toList
theorem cat_snoc (ss:List ByteArray) (s:ByteArray):cat (ss++[s])=cat ss++s.data.toList:=by simp [cat]
theorem cat_take_le (ss:List ByteArray) (k:Nat):(cat (ss.take k)).length≤(cat ss).length:=by
 have h:cat ss=cat (ss.take k)++cat (ss.drop k):=by
  unfold cat
  rw [← List.flatMap_append,List.take_append_drop]
 rw [h,List.length_append]
 omega
theorem put_any (B b m g:Nat) (l:List UInt8) (ss:List ByteArray) (w:World) (h:PW B b m l w) (hBw:B≤w.heap.size) (hss:StrsAt w g ss) (ht:∃ c t fz,w.heap[g]?=some (.cells c t fz)∧t≠5) (hgb:g≠b) (hlen:l.length + (cat ss).length≤140737488355328) (hn:ss.length≤1000) :
  Calls Tryz.prog 47 #[.pointer (some ⟨b,0,none⟩),.slice (some ⟨g,0,none⟩) ss.length ss.length] w fun e w'=>e=.returned (.tuple #[])∧PW B b m (l++cat ss) w'∧Kq B b w w':=by
 have HS:Hid (∀ w',Kq B b w w'→StrsAt w' g ss):=by
  obtain ⟨c,t,fz,hg,ht⟩:=ht
  intro w' hk j s hj
  have e:=hk.others g _ hg (fun e=>hgb (by simpa using e)) (fun c' fz' e=>by simp only [Obj.cells.injEq] at e;exact ht e.2.1)
  have e2:=hss j s hj
  simp only [World.cell?,hg] at e2
  simpa only [World.cell?,e] using e2
 clear hss ht
 have HP:=Lib.hid h
 clear h
 have HK:=Lib.hid (Kq.refl B b w)
 go_enter Tryz.func47,Tryz.ntmps47
 go_wp2
 go_loopw [8] (fun i wr=>∃ j:Nat,i=.int .i64 (j:Nat)∧j≤ss.length∧Hid (PW B b m (l++cat (ss.take j)) wr)∧Hid (Kq B b w wr)) (fun i _=>ss.length - (RowKit.intOf i).toNat)
 case atStart =>
  exact ⟨0,rfl,Nat.zero_le _,by simpa [cat,Hid] using HP.out,HK⟩
 case round =>
  obtain ⟨j,rfl,hj,HP1,HK1⟩:=hrel
  by_cases hlt:j < ss.length
  ·have hlt':decide ((j:Int) < (ss.length:Int))=true:=by simp;omega
   have hs:ss[j]?=some ss[j]:=List.getElem?_eq_getElem hlt
   have c1:=HS.out _ HK1.out j _ hs
   have hlen':(l++cat (ss.take j)).length + ss[j].size≤140737488355328:=by
    have h1:=cat_take_le ss (j + 1)
    rw [List.take_add_one,hs,Option.toList_some,cat_snoc,List.length_append] at h1
    have h2:ss[j].data.toList.length=ss[j].size:=by rw [Array.length_toList];rfl
    rw [List.length_append]
    omega
   have hnext:cat (ss.take (j + 1))=cat (ss.take j)++ss[j].data.toList:=by rw [List.take_add_one,hs,Option.toList_some,cat_snoc]
   have HN:=Lib.hid hnext
   have HL:=Lib.hid hlen'
   clear hnext hlen' hs
   generalize ss[j]=s at *
   go_wp2_with (go_at_call 72;refine (write_any B b m _ s _ HP1.out HL.out (by have:=HK1.out.below.size;omega)).mono ?_)
   rintro e w2 ⟨rfl,hp,hk⟩
   have HP2:=Lib.hid hp
   have HK2:=Lib.hid (HK1.out.trans hk)
   clear hp hk
   go_wp2
   case roundEnd =>
    refine ⟨⟨j + 1,by push_cast;rfl,by omega,?_,HK2⟩,by simp [RowKit.intOf];omega⟩
    show PW _ _ _ _ _
    rw [HN.out,← List.append_assoc]
    exact HP2.out
  ·have hlt':decide ((j:Int) < (ss.length:Int))=false:=by simp;omega
   have hj':Hid (ss.take j=ss):=List.take_of_length_le (by omega)
   go_wp2
   go_end0
   refine ⟨rfl,?_,HK1.out⟩
   have:=HP1.out
   rwa [hj'.out] at this
end Go.Proofs.YtfcgoainglpdlaaGreatDoor
