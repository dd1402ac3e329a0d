/- An expression ahead of a list of them; steps of a region that draws. Condition: at most 2^47 bytes. The walk of 'followed', out of what it calls. Condition: the parser lies in memory as said. -/
import Derived.Test.YtfcgoainglpdlaaGreatDoorV16
import Derived.Deep.RegionLaw
set_option maxRecDepth 20000
set_option maxHeartbeats 16000000
namespace Go.Proofs.YtfcgoainglpdlaaGreatDoor
open Go.RowKit
open Go.Lib hiding intOf
theorem step_append {P:Program} {ops:Array Oper} {o:Oper} {a:Act} {w:World} {K:Act→World→Prop} {Q:Exit→Act→World→Prop} {E:Prop}
  (hg:o.guard=none) (s x:Operand) (t:TypeId) (hop:o.op=Op.call { callee:=Callee.builtin Builtin.append,args:=#[s,x],argTypes:=#[t,t] }) (v1 v2:Value) (hs:a.eval s=v1) (hx:a.eval x=v2)
  (v':Value) (w':World) (hrun:(Builtin.append_ #[t,t] o.type #[v1,v2]).run P w=.ok v' w') (hK:K (a.put o.dst v') w') :
  if Region.wanted o (yielded ops a.tmps)=true then Oper.wp P o a w K Q else E:=by
 have hw:Region.wanted o (yielded ops a.tmps)=true:=by simp [Region.wanted,hg]
 rw [if_pos hw]
 unfold Oper.wp
 simp [execOp,hop,resolve,invoke,builtin,hs,hx,hrun,Result.andThen]
 exact hK
theorem lit_row {W:World} {g:Nat} {cs:Array Value} (h:Blk W g 31 cs) (hs:cs.size=11):W.ownsRow 0 31 11 (.slice (some ⟨g,0,none⟩) 1 1) 1 cs.toList :=
 ⟨by simpa using hs,.inr ⟨g,1,cs,rfl,Nat.zero_le _,h,Nat.le_refl _,by unfold maxLen;omega,by omega,List.take_of_length_le (by rw [Array.length_toList,hs];exact Nat.le_refl _)⟩⟩
theorem append_list (P:Nat→Prop) (N:Nat) (ty:TypeId) (W:World) (g:Nat) (x:EX) (x0 x1 x2 x3 x4 x5 x6 x7 x8 x9 x10:Value) (hg:Blk W g 31 #[x0,x1,x2,x3,x4,x5,x6,x7,x8,x9,x10]) (hx:IsEP (fun q=>P q∧q≠g) W x (.agg #[x0,x1,x2,x3,x4,x5,x6,x7,x8,x9,x10])) (hPg:P g) (hPn:P W.heap.size) (hN:N≤g)
  (B:Nat) (ys:List EX) (o':Option Addr) (cap:Nat) (hy:RowE B W (.slice o' ys.length cap) ys) (hB:∀ q,B≤q→P q) (hn:ys.length + 1≤1073741824) :
  ∃ v' w' o2 c2,(Builtin.append_ #[29,29] ty #[.slice (some ⟨g,0,none⟩) 1 1,.slice o' ys.length cap]).run Tryz.prog W=.ok v' w'∧v'=.slice o2 (x::ys).length c2∧IsEPs P w' o2 0 (x::ys)∧Below N W w'∧((x::ys).length≤c2∧c2≤maxLen):=by
 obtain ⟨i0,hi,hi'⟩:=Option.map_eq_some_iff.1 Tryz.infoE
 simp only [Prod.mk.injEq] at hi'
 obtain ⟨hz0,hz1,hz2⟩:=hi'
 have hlit:=lit_row hg rfl
 have hgl:g < W.heap.size:=hg.lt
 obtain ⟨cs,hown,hch⟩:=hy
 have one:∀ W':World,(∀ k,k≠g→k < W.heap.size→W'.heap[k]?=W.heap[k]?)→(∀ j u,[x0,x1,x2,x3,x4,x5,x6,x7,x8,x9,x10][j]?=some u→W'.cell? ⟨g,j,none⟩=some u)→IsEPs P W' (some ⟨g,0,none⟩) 0 [x]:=fun W' hk hc=>by
  refine Ch.eps hPg (cs:=[[x0,x1,x2,x3,x4,x5,x6,x7,x8,x9,x10]]) ?_ (fun j u hj=>by rw [Nat.zero_mul,Nat.zero_add];exact hc j u (by simpa using hj))
  unfold Ch
  refine ⟨rfl,hx.keep (fun _ _ _ h _=>h.1) fun b i u hp hcc=>?_,by unfold Ch;trivial⟩
  exact (World.cell?_of_block (w:=W) (a:=⟨b,i,none⟩) (hk b hp.2 (World.block_lt_of_cell? W ⟨b,i,none⟩ hcc))).trans hcc
 rcases hown.2 with ⟨hv,h0⟩ | ⟨g',cap',cur,hv,hbg,hgg,r⟩
 ·have hys:ys=[]:=List.length_eq_zero_iff.1 h0
  subst hys
  injection hv with hv1 _ hv2
  subst hv1 hv2
  have hrun:=run_append_owned_none (P:=Tryz.prog) W 0 29 ty 31 i0 11 Tryz.underlying29 hi _ _ _ hlit
  exact ⟨_,W,some ⟨g,0,none⟩,1,hrun,rfl,one W (fun _ _ _=>rfl) (fun j u hj=>by rw [hg.cell j];simpa using hj),Below.refl _ _,⟨Nat.le_refl 1,by decide⟩⟩
 ·injection hv with hv1 _ hv2
  subst hv1 hv2
  have hlen:=hch.len
  have hcells:∀ j u,cs.flatten[j]?=some u→W.cell? ((⟨g',0,none⟩:Addr).add j)=some u:=fun j u hj=>by
   rw [add_none',Nat.zero_add,hown.cellAt j (by have:=(List.getElem?_eq_some_iff.1 hj).1;omega)];exact hj
  by_cases hm:ys.length=0
  ·have hys:ys=[]:=List.length_eq_zero_iff.1 hm
   subst hys
   have hfl:cs.flatten=[]:=List.length_eq_zero_iff.1 (by rw [hlen];rfl)
   obtain ⟨w',hrun,hown',hgr⟩:=run_append_fits (P:=Tryz.prog) W 0 29 ty 31 i0 11 Tryz.underlying29 hi hz1 g 1 1 _ hlit ⟨g',0,none⟩ 0 cap cs.flatten (by rw [hlen];rfl) hcells hch.one (by decide)
   refine ⟨_,w',some ⟨g,0,none⟩,1,hrun,rfl,one w' (fun k hk hkl=>hgr.block k hkl (by simp;exact hk)) (fun j u hj=>?_),(Below.refl _ _).grown hgr (by omega) (fun k e=>by cases e;exact hN),⟨Nat.le_refl 1,by decide⟩⟩
   rw [hfl,List.append_nil] at hown'
   rw [hown'.cellAt j (by have:=(List.getElem?_eq_some_iff.1 hj).1;simpa using this)]
   simpa using hj
  ·obtain ⟨v',w',hrun,hown',hcase⟩:=run_append_tells (P:=Tryz.prog) W 0 29 ty 31 i0 (.agg zeroE) 11 144 Tryz.underlying29 hi hz0 hz1 hz2 rfl (by decide) _ 1 _ hlit ⟨g',0,none⟩ ys.length cap cs.flatten hlen hcells hch.one (by unfold maxLen;omega) (by omega) (Nat.zero_le _) (by omega)
   rcases hcase with ⟨cap2,rfl,hgr⟩ | ⟨g2,cap2,e1,rfl,hgr⟩
   ·refine ⟨_,w',some ⟨W.heap.size,0,none⟩,cap2,hrun,by rw [List.length_cons,Nat.add_comm],?_,(Below.refl _ _).grown hgr (by omega) (fun k e=>by cases e),?_⟩
    rotate_left
    ·rcases hown'.2 with ⟨h,_⟩ | ⟨_,_,_,h,_,_,h1,h2,_⟩
     ·cases h
     ·injection h with _ _ h
      subst h
      exact ⟨by simp only [List.length_cons];omega,h2⟩
    refine Ch.eps hPn (cs:=[x0,x1,x2,x3,x4,x5,x6,x7,x8,x9,x10]::cs) ?_ (fun j u hj=>?_)
    ·unfold Ch
     refine ⟨rfl,?_,(hch.keep (fun q _ _ h _=>hB q h.1) fun _ _ _ _ h=>h).grown hgr (fun k e=>by cases e)⟩
     exact hx.keep (fun _ _ _ h _=>h.1) fun b i u hp hcc=>(World.cell?_of_block (w:=W) (a:=⟨b,i,none⟩) (hgr.block b (World.block_lt_of_cell? W ⟨b,i,none⟩ hcc) (by simp))).trans hcc
    ·rw [Nat.zero_mul,Nat.zero_add,hown'.cellAt j (by have h2:=(List.getElem?_eq_some_iff.1 hj).1;rw [List.flatten_cons,List.length_append] at h2;simp only [List.length_cons,List.length_nil] at h2;omega)]
     exact hj
   ·injection e1 with _ _ e2
    subst e2
    rcases hown'.2 with ⟨h,_⟩ | ⟨_,_,_,h,_,_,h2,_⟩
    ·cases h
    ·injection h with _ _ h
     omega
section
variable {l:List TZ} {f d:Nat} {a j:Int} {x:EX}
theorem post_sel (h:isS (tkAt l j) 46=true) (hk:(tkAt l (j + 1)).kind=1):post l (f + 1) d a x j=post l f d a (mkSel (tkAt l a).pos x (tkAt l (j + 1)).text (tkAt l (j + 1)).stop) (j + 2):=by rw [post,if_pos h,if_pos hk]
theorem post_sel_no (h:isS (tkAt l j) 46=true) (hk:(tkAt l (j + 1)).kind≠1):post l (f + 1) d a x j=.err (tkAt l (j + 1)).pos 5:=by rw [post,if_pos h,if_neg hk]
theorem post_call (h:isS (tkAt l j) 46=false) (h2:isS (tkAt l j) 40=true) {ys:List EX} {q:Int} (hl:lst l f 41 d j=.ok ys q):post l (f + 1) d a x j=post l f d a (mkCall (tkAt l a).pos x ys (tkAt l (q - 1)).stop) q:=by
 rw [post,if_neg (by rw [h];decide),if_pos h2,hl]
theorem post_call_no (h:isS (tkAt l j) 46=false) (h2:isS (tkAt l j) 40=true) {p q:Int} (hl:lst l f 41 d j=.err p q):post l (f + 1) d a x j=.err p q:=by
 rw [post,if_neg (by rw [h];decide),if_pos h2,hl]
theorem post_call_out (h:isS (tkAt l j) 46=false) (h2:isS (tkAt l j) 40=true) (hl:lst l f 41 d j=.out):post l (f + 1) d a x j=.out:=by
 rw [post,if_neg (by rw [h];decide),if_pos h2,hl]
theorem post_idx (h:isS (tkAt l j) 46=false) (h2:isS (tkAt l j) 40=false) (h3:isS (tkAt l j) 91=true) {y:EX} {q:Int} (hl:ins l f 93 d j=.ok y q):post l (f + 1) d a x j=post l f d a (mkIdx (tkAt l a).pos x y (tkAt l (q - 1)).stop) q:=by
 unfold ins at hl
 rw [post,if_neg (by rw [h];decide),if_neg (by rw [h2];decide),if_pos h3]
 split at hl
 ·cases hl
 ·next hd =>
  rw [if_neg hd]
  split at hl
  ·next z r hr =>
   rw [hr]
   split at hl
   ·next hs =>
    injection hl with e1 e2
    subst e1 e2
    show (if isS (tkAt l r) 93=true then _ else _)=_
    rw [if_pos hs,show r + 1 - 1=r by omega]
   ·cases hl
  ·cases hl
  ·cases hl
theorem post_idx_no (h:isS (tkAt l j) 46=false) (h2:isS (tkAt l j) 40=false) (h3:isS (tkAt l j) 91=true) {p q:Int} (hl:ins l f 93 d j=.err p q):post l (f + 1) d a x j=.err p q:=by
 unfold ins at hl
 rw [post,if_neg (by rw [h];decide),if_neg (by rw [h2];decide),if_pos h3]
 split at hl
 ·next hd=>rw [if_pos hd];injection hl with e1 e2;subst e1 e2;rfl
 ·next hd =>
  rw [if_neg hd]
  split at hl
  ·next z r hr =>
   rw [hr]
   split at hl
   ·cases hl
   ·next hs =>
    injection hl with e1 e2
    subst e1 e2
    show (if isS (tkAt l r) 93=true then _ else _)=_
    rw [if_neg hs]
  ·next hr=>rw [hr];injection hl with e1 e2;subst e1 e2;rfl
  ·cases hl
theorem post_idx_out (h:isS (tkAt l j) 46=false) (h2:isS (tkAt l j) 40=false) (h3:isS (tkAt l j) 91=true) (hl:ins l f 93 d j=.out):post l (f + 1) d a x j=.out:=by
 unfold ins at hl
 rw [post,if_neg (by rw [h];decide),if_neg (by rw [h2];decide),if_pos h3]
 split at hl
 ·cases hl
 ·next hd =>
  rw [if_neg hd]
  split at hl
  ·split at hl <;> cases hl
  ·cases hl
  ·next hr=>rw [hr]
theorem post_end (h:isS (tkAt l j) 46=false) (h2:isS (tkAt l j) 40=false) (h3:isS (tkAt l j) 91=false):post l (f + 1) d a x j=.ok x j:=by
 rw [post,if_neg (by rw [h];decide),if_neg (by rw [h2];decide),if_neg (by rw [h3];decide)]
end
end Go.Proofs.YtfcgoainglpdlaaGreatDoor
namespace Go.Proofs.YtfcgoainglpdlaaGreatDoor
open Go.RowKit
open Go.Lib hiding intOf
def FirC (b:Nat) (o:Option Addr) (c m:Nat) (l:List TZ) (f:Nat):Prop :=
 ∀ (d:Nat) (i:Int) (w:World),d≤30→PS b o c m l i d w→prim l f d i≠.out →
  Calls Tryz.prog 119 #[.pointer (some ⟨b,0,none⟩)] w (Tel b o c m l d w (prim l f d i))
section
variable {b c m:Nat} {o:Option Addr} {l:List TZ}
def MidF (b:Nat) (o:Option Addr) (c m:Nat) (l:List TZ) (d:Nat) (w:World) (B:Nat) (kd:Int) (nm:ByteArray) (args:List EX) (q:Int) (W:World):Prop :=
 ∃ (oa:Option Addr) (ca:Nat),Blk W B 31 #[.int .i64 kd,.int .i64 0,.int .i64 0,.string nm,.int .i64 0,.int .i64 0,.int .i64 0,.string ⟨#[]⟩,.string ⟨#[]⟩,.slice none 0 0,.slice oa args.length ca] ∧
  IsEPs (fun n=>w.heap.size + 1≤n∧n≠B) W oa 0 args∧PS b o c m l q d W∧Kp b w W∧Blk W w.heap.size 31 zeroE∧(args.length≤ca∧ca≤maxLen)
theorem MidF.ps {d:Nat} {w:World} {B:Nat} {kd:Int} {nm:ByteArray} {args:List EX} {q:Int} {W:World} (h:MidF b o c m l d w B kd nm args q W):PS b o c m l q d W:=by
 obtain ⟨_,_,_,_,h,_⟩:=h
 exact h
theorem midF_in {d:Nat} {w:World} {B:Nat} {kd:Int} {nm:ByteArray} {args:List EX} {q:Int} {W:World} {e0 e1 e2 e3 e4 e5 e6 e7 e8 e9 e10:Value} {oa:Option Addr} {ca:Nat}
  (hX:Blk W B 31 #[e0,e1,e2,e3,e4,e5,e6,e7,e8,e9,e10]) (hA:IsEPs (fun n=>w.heap.size + 1≤n∧n≠B) W oa 0 args)
  (hS:PS b o c m l q d W) (hK:Kp b w W) (hR:Blk W w.heap.size 31 zeroE) (hb:b < w.heap.size) (hB:w.heap.size < B) (hca:args.length≤ca∧ca≤maxLen) :
  MidF b o c m l d w B kd nm args q (set11 W B (.int .i64 kd) (.int .i64 0) (.int .i64 0) (.string nm) (.int .i64 0) (.int .i64 0) (.int .i64 0) (.string ⟨#[]⟩) (.string ⟨#[]⟩) (.slice none 0 0) (.slice oa args.length ca)) :=
 ⟨oa,ca,blk_set11 hX _ _ _ _ _ _ _ _ _ _ _,epsSet11 hA (fun h=>h.2 rfl) _ _ _ _ _ _ _ _ _ _ _,hS.set11 (by omega) _ _ _ _ _ _ _ _ _ _ _,set11_kp hK (.inl (by omega)) _ _ _ _ _ _ _ _ _ _ _,blk_far11 hR (by omega) _ _ _ _ _ _ _ _ _ _ _,hca⟩
theorem midF_one {d:Nat} {w:World} {B:Nat} {kd:Int} {nm:ByteArray} {x:EX} {q:Int} {W:World} {e0 e1 e2 e3 e4 e5 e6 e7 e8 e9 e10 x0 x1 x2 x3 x4 x5 x6 x7 x8 x9 x10:Value}
  (hX:Blk W B 31 #[e0,e1,e2,e3,e4,e5,e6,e7,e8,e9,e10]) (hx:IsEP (fun n=>w.heap.size + 1≤n∧n≠B) W x (.agg #[x0,x1,x2,x3,x4,x5,x6,x7,x8,x9,x10]))
  (hS:PS b o c m l q d W) (hK:Kp b w W) (hR:Blk W w.heap.size 31 zeroE) (hb:b < w.heap.size) (hB:w.heap.size < B) :
  MidF b o c m l d w B kd nm [x] q ((set11 W B (.int .i64 kd) (.int .i64 0) (.int .i64 0) (.string nm) (.int .i64 0) (.int .i64 0) (.int .i64 0) (.string ⟨#[]⟩) (.string ⟨#[]⟩) (.slice none 0 0) (.slice (some ⟨W.heap.size,0,none⟩) 1 1)).alloc (.cells #[x0,x1,x2,x3,x4,x5,x6,x7,x8,x9,x10] 31)):=by
 have hlt:=hX.lt
 exact ⟨_,_,Blk.alloc (blk_set11 hX _ _ _ _ _ _ _ _ _ _ _) _,one_arg (hx.set11 (fun h=>h.2 rfl) _ _ _ _ _ _ _ _ _ _ _) (by rw [set11_size]) ⟨by have:=hK.size;omega,by omega⟩,(hS.set11 (by omega) _ _ _ _ _ _ _ _ _ _ _).alloc _,(set11_kp hK (.inl (by omega)) _ _ _ _ _ _ _ _ _ _ _).alloc _,Blk.alloc (blk_far11 hR (by omega) _ _ _ _ _ _ _ _ _ _ _) _,⟨Nat.le_refl 1,by decide⟩⟩
theorem midF_two {d:Nat} {w:World} {B:Nat} {kd:Int} {nm:ByteArray} {x y:EX} {q:Int} {W:World} {e0 e1 e2 e3 e4 e5 e6 e7 e8 e9 e10 x0 x1 x2 x3 x4 x5 x6 x7 x8 x9 x10 y0 y1 y2 y3 y4 y5 y6 y7 y8 y9 y10:Value}
  (hX:Blk W B 31 #[e0,e1,e2,e3,e4,e5,e6,e7,e8,e9,e10]) (hx:IsEP (fun n=>w.heap.size + 1≤n∧n≠B) W x (.agg #[x0,x1,x2,x3,x4,x5,x6,x7,x8,x9,x10])) (hy:IsEP (fun n=>w.heap.size + 1≤n∧n≠B) W y (.agg #[y0,y1,y2,y3,y4,y5,y6,y7,y8,y9,y10]))
  (hS:PS b o c m l q d W) (hK:Kp b w W) (hR:Blk W w.heap.size 31 zeroE) (hb:b < w.heap.size) (hB:w.heap.size < B) :
  MidF b o c m l d w B kd nm [x,y] q ((set11 W B (.int .i64 kd) (.int .i64 0) (.int .i64 0) (.string nm) (.int .i64 0) (.int .i64 0) (.int .i64 0) (.string ⟨#[]⟩) (.string ⟨#[]⟩) (.slice none 0 0) (.slice (some ⟨W.heap.size,0,none⟩) 2 2)).alloc (.cells #[x0,x1,x2,x3,x4,x5,x6,x7,x8,x9,x10,y0,y1,y2,y3,y4,y5,y6,y7,y8,y9,y10] 31)):=by
 have hlt:=hX.lt
 exact ⟨_,_,Blk.alloc (blk_set11 hX _ _ _ _ _ _ _ _ _ _ _) _,two_args (hx.set11 (fun h=>h.2 rfl) _ _ _ _ _ _ _ _ _ _ _) (hy.set11 (fun h=>h.2 rfl) _ _ _ _ _ _ _ _ _ _ _) (by rw [set11_size]) ⟨by have:=hK.size;omega,by omega⟩,(hS.set11 (by omega) _ _ _ _ _ _ _ _ _ _ _).alloc _,(set11_kp hK (.inl (by omega)) _ _ _ _ _ _ _ _ _ _ _).alloc _,Blk.alloc (blk_far11 hR (by omega) _ _ _ _ _ _ _ _ _ _ _) _,⟨Nat.le_refl 2,by decide⟩⟩
theorem boxF_end {w:World} {B:Nat} {kd:Int} {nm:ByteArray} {args:List EX} {W:World} {oa:Option Addr} {ca:Nat} (hX:Blk W B 31 #[.int .i64 kd,.int .i64 0,.int .i64 0,.string nm,.int .i64 0,.int .i64 0,.int .i64 0,.string ⟨#[]⟩,.string ⟨#[]⟩,.slice none 0 0,.slice oa args.length ca])
  (hA:IsEPs (fun n=>w.heap.size + 1≤n∧n≠B) W oa 0 args) (hca:args.length≤ca∧ca≤maxLen) (p e:Int):BoxE (fun n=>w.heap.size + 1≤n∧n≠B) ((W.setCell ⟨B,1,none⟩ (.int .i64 p)).setCell ⟨B,2,none⟩ (.int .i64 e)) B (.mk kd p e 0 nm noTX args):=by
 have h:=(hX.set_ 1 (.int .i64 p)).set_ 2 (.int .i64 e)
 simp only [List.setIfInBounds_toArray,List.set_cons_zero,List.set_cons_succ] at h
 refine ⟨_,h,?_⟩
 unfold IsEP
 exact ⟨0,0,⟨#[]⟩,⟨#[]⟩,none,0,_,_,rfl,hca,rfl,(hA.set_ (p:=⟨B,1,none⟩) (fun h=>h.2 rfl) _).set_ (p:=⟨B,2,none⟩) (fun h=>h.2 rfl) _⟩
theorem ins_rng {f:Nat} {z:UInt8} {d:Nat} {i:Int} {y:EX} {q:Int} (h:ins l f z d i=.ok y q):1≤q∧q≤(l.length:Nat):=by
 unfold ins at h
 split at h
 ·cases h
 ·split at h
  ·next z r hr =>
   have hrng:=(read_rng (l:=l) f).1 _ _ _ _ _ (by decide) hr
   split at h
   ·next hs =>
    have:=isS_real hs
    injection h with _ h
    omega
   ·cases h
  ·cases h
  ·cases h
theorem items_len:∀ (f:Nat) {z:UInt8} {d:Nat} {j:Int} {ys:List EX} {q:Int},items l f z d j=.ok ys q→((ys.length:Nat):Int)≤q - j
 |0,z,d,j,ys,q,h=>by rw [items] at h;cases h
 |f + 1,z,d,j,ys,q,h=>by
  cases hq:ex l f 1 (d + 1) j with
  |out=>rw [items_out hq] at h;cases h
  |err p k=>rw [items_err hq] at h;cases h
  |ok y r =>
   have hrng:=(read_rng (l:=l) f).1 _ _ _ _ _ (by decide) hq
   rw [items_ok hq] at h
   unfold aft at h
   split at h
   ·cases hi:items l f z d (r + 1) with
    |out=>rw [hi] at h;cases h
    |err p k=>rw [hi] at h;cases h
    |ok zs t =>
     rw [hi] at h
     have:=items_len f hi
     injection h with h1 h2
     subst h1 h2
     rw [List.length_cons]
     omega
   ·split at h
    ·injection h with h1 h2
     subst h1 h2
     simp only [List.length_cons,List.length_nil]
     omega
    ·cases h
theorem list_len {f:Nat} {z:UInt8} {d:Nat} {i:Int} {ys:List EX} {q:Int} (h:lst l (f + 1) z d i=.ok ys q) (hi:0≤i∧i < (l.length:Nat)):ys.length + 1≤l.length:=by
 have hq:=((read_rng (l:=l) (f + 1)).2.2.2.2.2.1 _ _ _ _ _ h).2
 rw [lst] at h
 split at h
 ·cases h
 ·split at h
  ·injection h with h1 h2
   subst h1
   simp only [List.length_nil]
   omega
  ·have:=items_len f h
   omega
theorem followed_any {f:Nat} (hn:l.length≤1073741824) (hf:Fits l) (IH:∀ g,g < f→LevC b o c m l g) (HFi:FirC b o c m l f) (d:Nat) (i:Int) (w:World) (hd:d≤30) (S:PS b o c m l i d w) (hr:foll l f d i≠.out) :
    Calls Tryz.prog 102 #[.pointer (some ⟨b,0,none⟩)] w (Tel b o c m l d w (foll l f d i)):=by
  have HP:=Lib.hid (peek_any (S.alloc (.cells zeroE 31)) (by omega))
  have H:=Lib.hid S
  have hbl:=S.lt
  have hfield:=run_field1
  have HIH:=Lib.hid IH
  have HD:=Lib.hid hd
  have HN:=Lib.hid hn
  have HF:=Lib.hid hf
  have HSE:=Lib.hid (fun (W:World) (j:Int) (ch:UInt8) (h:PS b o c m l j d W)=>(isKT_S (tkAt l j) ch) ▸ sees_any h (by have:=HN.out;omega) ⟨#[ch]⟩)
  clear S IH hd hn hf
  unfold foll at hr ⊢
  cases hq:prim l f d i with
  | out=>rw [hq] at hr;exact (hr rfl).elim
  | err p q =>
    have HC:=Lib.hid (fun (W:World) (h:PS b o c m l i d W)=>HFi d i W HD.out h (by rw [hq];simp))
    rw [hq] at HC
    clear hq hr HFi
    go_enter Tryz.func102,Tryz.ntmps102
    go_wp2_with fail
    refine HP.out.mono ?_
    rintro e w1 ⟨rfl,hB⟩
    have S1:=Lib.hid ((H.out.alloc _).step hB)
    have K1:=Lib.hid (((Kp.refl b w).alloc _).then_below hB)
    clear hB
    go_wp2_with fail
    refine (HC.out _ S1.out).mono ?_
    rintro e w2 ⟨rfl,hK⟩
    have K2:=Lib.hid (K1.out.trans hK)
    clear hK
    go_wp2
    exact ⟨rfl,rfl,K2.out⟩
  | ok x j =>
    have HC:=Lib.hid (fun (W:World) (h:PS b o c m l i d W)=>HFi d i W HD.out h (by rw [hq];simp))
    rw [hq] at HC hr
    obtain ⟨R,hR⟩:∃ R,post l f d i x j=R:=⟨_,rfl⟩
    have hr2:R≠.out:=by rw [← hR];exact hr
    have HRO:=Lib.hid hr2
    show Calls _ _ _ _ (Tel b o c m l d w (post l f d i x j))
    rw [hR]
    have HR:=Lib.hid hR
    clear hq hr hR hr2 HFi
    go_enter Tryz.func102,Tryz.ntmps102
    go_wp2_with fail
    refine HP.out.mono ?_
    rintro e w1 ⟨rfl,hB⟩
    have S1:=Lib.hid ((H.out.alloc _).step hB)
    have K1:=Lib.hid (((Kp.refl b w).alloc _).then_below hB)
    have R1:=Lib.hid (blk_mid3 hB)
    have hz1:=mid_size hB
    clear hB
    go_wp2_with fail
    refine (HC.out _ S1.out).mono ?_
    rintro e w2 ⟨v,rfl,hx,hS,hK⟩
    obtain ⟨n,nm,tk,tp,tg,tn,tz,ta,o',c',rfl,_⟩:=hx.parts
    have hz2:w.heap.size < w2.heap.size:=Nat.lt_of_lt_of_le hz1 hK.size
    have R2:=Lib.hid ((R1.out.kp hK (by omega)).alloc (.cells #[.int .i64 x.kind,.int .i64 x.pos,.int .i64 x.stop,.string nm,.int .i64 n,.int .i64 tk,.int .i64 tp,.string tg,.string tn,.slice tz ta ta,.slice o' x.args.length c'] 31))
    have X2:Hid (BoxE (fun n=>w.heap.size + 1≤n∧n≠w2.heap.size) (w2.alloc (.cells #[.int .i64 x.kind,.int .i64 x.pos,.int .i64 x.stop,.string nm,.int .i64 n,.int .i64 tk,.int .i64 tp,.string tg,.string tn,.slice tz ta ta,.slice o' x.args.length c'] 31)) w2.heap.size x) :=
      ⟨_,Blk.new _ _ _,(IsEP.mono (fun q hq hp=>⟨by have:w1.heap.size≤q:=hp;omega,by omega⟩) hx).alloc _⟩
    have S2:=Lib.hid (hS.alloc (.cells #[.int .i64 x.kind,.int .i64 x.pos,.int .i64 x.stop,.string nm,.int .i64 n,.int .i64 tk,.int .i64 tp,.string tg,.string tn,.slice tz ta ta,.slice o' x.args.length c'] 31))
    have K2:=Lib.hid ((K1.out.trans hK).alloc (.cells #[.int .i64 x.kind,.int .i64 x.pos,.int .i64 x.stop,.string nm,.int .i64 n,.int .i64 tk,.int .i64 tp,.string tg,.string tn,.slice tz ta ta,.slice o' x.args.length c'] 31))
    clear hx hS hK R1 S1 K1 HC HP
    go_wp2_with fail
    generalize w2.heap.size=B at X2 hz2 ⊢
    go_loopg [11,21,30] f (fun g _ _ _ wr=>∃ (x:EX) (j:Int),Hid (post l g d i x j=R)∧Hid (BoxE (fun n=>w.heap.size + 1≤n∧n≠B) wr B x)∧Hid (PS b o c m l j d wr)∧Hid (Kp b w wr)∧Hid (Blk wr w.heap.size 31 zeroE)∧g≤f)
    case atStart=>exact ⟨x,j,HR,X2,S2,K2,R2,Nat.le_refl _⟩
    case round =>
      clear X2 S2 K2 R2 HR
      obtain ⟨x,j,HR,X2,S2,K2,R2,hgf⟩:=hrel
      obtain ⟨gg,rfl⟩:∃ gg,gk=gg + 1:=by
        cases gk with
        | zero=>exact (HRO.out (by rw [← HR.out,post])).elim
        | succ q=>exact ⟨q,rfl⟩
      have hbB:b≠B:=by omega
      have hwB:w.heap.size < B:=by omega
      have S3:=S2
      have K3:=K2
      have R3:=R2
      have X3:=X2
      clear S2 K2 R2 X2
      cases h46:isS (tkAt l j) 46
      · go_wp2_with fail
        refine (HSE.out _ j 46 S3.out).mono ?_
        rintro e w4 ⟨rfl,hB⟩
        rw [h46]
        have S4:=Lib.hid (S3.out.step hB)
        have K4:=Lib.hid (K3.out.then_below hB)
        have R4:=Lib.hid (R3.out.below hB)
        have X4:=Lib.hid (X3.out.below hB)
        clear hB
        cases h40:isS (tkAt l j) 40
        · go_wp2_with fail
          refine (HSE.out _ j 40 S4.out).mono ?_
          rintro e w5 ⟨rfl,hB⟩
          rw [h40]
          have S5:=Lib.hid (S4.out.step hB)
          have K5:=Lib.hid (K4.out.then_below hB)
          have R5:=Lib.hid (R4.out.below hB)
          have X5:=Lib.hid (X4.out.below hB)
          clear hB
          cases h91:isS (tkAt l j) 91
          ·
            go_wp2_with fail
            refine (HSE.out _ j 91 S5.out).mono ?_
            rintro e w6 ⟨rfl,hB⟩
            rw [h91]
            have S6:=Lib.hid (S5.out.step hB)
            have K6:=Lib.hid (K5.out.then_below hB)
            have R6:=Lib.hid (R5.out.below hB)
            have X6:=Lib.hid (X5.out.below hB)
            clear hB
            obtain ⟨cs,hX,hx⟩:=X6.out
            obtain ⟨n',nm',tk',tp',tg',tn',tz',ta',o'',c'',e,_⟩:=hx.parts
            injection e with e
            subst e
            have c5:=hX.cell
            have HX5:=Lib.hid hX
            have HE5:=Lib.hid hx
            have hB5:=hX.lt
            have hW5:w.heap.size < w6.heap.size:=R6.out.lt
            clear hX hx X6
            have HBB:=HR.out
            rw [post_end h46 h40 h91] at HBB
            have r3:=R6.out.cell
            have f3:=R6.out.frozen
            simp only [zeroE] at r3
            clear h40 h46 h91
            go_wp2
            refine bodyPost_ret (v:=.agg #[.int .i64 x.kind,.int .i64 x.pos,.int .i64 x.stop,.string nm',.int .i64 n',.int .i64 tk',.int .i64 tp',.string tg',.string tn',.slice tz' ta' ta',.slice o'' x.args.length c'']) (by simp [results,Tryz.results102,go_sem,r3]) rfl ?_
            rw [← HBB]
            refine ⟨_,rfl,?_,?_,?_⟩
            · exact IsEP.mono (fun q _ hp=>by have:=hp.1;omega) (HE5.out.set11 (fun h=>by have:=h.1;omega) _ _ _ _ _ _ _ _ _ _ _)
            · exact S6.out.set11 hbl _ _ _ _ _ _ _ _ _ _ _
            · exact set11_kp K6.out (.inl (Nat.le_refl _)) _ _ _ _ _ _ _ _ _ _ _
          ·
            go_wp2_with fail
            refine (HSE.out _ j 91 S5.out).mono ?_
            rintro e w6 ⟨rfl,hB⟩
            rw [h91]
            have S6:=Lib.hid (S5.out.step hB)
            have K6:=Lib.hid (K5.out.then_below hB)
            have R6:=Lib.hid (R5.out.below hB)
            have X6:=Lib.hid (X5.out.below hB)
            clear hB
            obtain ⟨cs,hX,hx⟩:=X6.out
            obtain ⟨n',nm',tk',tp',tg',tn',tz',ta',o'',c'',e,_⟩:=hx.parts
            injection e with e
            subst e
            have c5:=hX.cell
            have HX5:=Lib.hid hX
            have HE5:=Lib.hid hx
            have hB5:=hX.lt
            have hW5:w.heap.size < w6.heap.size:=R6.out.lt
            clear hX hx X6
            cases hl:ins l gg 93 d j with
            | out=>exact (HRO.out (by rw [← HR.out,post_idx_out h46 h40 h91 hl])).elim
            | err p q =>
              have HBB:=HR.out
              rw [post_idx_no h46 h40 h91 hl] at HBB
              have HC:=Lib.hid (fun (W:World) (h:PS b o c m l j d W)=>inside_any (f:=gg) HN.out (HIH.out gg (by omega)) 91 93 d j W HD.out h h91 (by rw [hl];simp))
              rw [hl] at HC
              clear hl h40 h46 h91
              go_wp2_with fail
              go_region_dies
              all_goals
                refine (HC.out _ ?_).mono ?_
                · first | exact S6.out.drew | exact (S6.out.alloc _).drew
                rintro e w9 hh
                obtain ⟨rfl,hK⟩:=hh
                have K9:Hid (Kp b w w9):=by first | exact K6.out.trans hK.undrew | exact (K6.out.alloc _).trans hK.undrew
                clear hK
                go_wp2
                refine ⟨rfl,?_⟩
                rw [← HBB]
                exact ⟨rfl,K9.out⟩
            | ok y q =>
              have HBB:=HR.out
              rw [post_idx h46 h40 h91 hl] at HBB
              have HC:=Lib.hid (fun (W:World) (h:PS b o c m l j d W)=>inside_any (f:=gg) HN.out (HIH.out gg (by omega)) 91 93 d j W HD.out h h91 (by rw [hl];simp))
              rw [hl] at HC
              have HQQ:Hid (1≤q∧q≤(l.length:Nat)):=ins_rng hl
              clear hl h40 h46 h91
              go_wp2_with fail
              have HEN:=Lib.hid (fun (W:World) (h:PS b o c m l q d W)=>end_any h (by have:=HN.out;omega) HQQ.out)
              go_region_with (go_at_call 122;refine (HC.out _ S6.out.drew).mono ?_;rintro e w7 ⟨v,rfl,hy,hS,hK⟩;obtain ⟨n6,nm6,tk6,tp6,tg6,tn6,tz6,ta6,o6,c6',rfl,_⟩:=hy.parts;have hX7:=HX5.out.kp hK.undrew (by omega);have c7:=hX7.cell;have f7:=hX7.frozen;have hz7:=hX7.lt;have HX7:=Lib.hid hX7;have HY7:=Lib.hid hy;have S7:=Lib.hid hS;have KK:=Lib.hid hK.undrew;clear hX7 hy hS hK)
              all_goals
                go_wp2_with fail
                first
                | (have HM:=midF_two (kd:=7) (nm:=⟨#[]⟩) HX7.out (HE5.out.kp KK.out (fun h=>by have:=h.1;omega)) (IsEP.mono (fun t _ (ht:w6.heap.size≤t)=>⟨by omega,by omega⟩) HY7.out) S7.out (K6.out.trans KK.out) (R6.out.kp KK.out (by omega)) hbl hwB;refine (HEN.out _ HM.ps).mono ?_;have HMM:=Lib.hid HM;clear HM)
                rintro e w8 ⟨rfl,hB⟩
                obtain ⟨oa,ca,hX,hA,hS,hK,hR,hca⟩:=HMM.out
                have HCA:=Lib.hid hca
                clear hca
                have hX8:=hX.below hB
                have c8:=hX8.cell
                have f8:=hX8.frozen
                have X8:=Lib.hid hX8
                have A8:=Lib.hid (hA.below hB)
                have S8:=Lib.hid (hS.step hB)
                have K8:=Lib.hid (hK.then_below hB)
                have R8:=Lib.hid (hR.below hB)
                clear hX8 hB hX hA hS hK hR HMM
                go_wp2
                go_roundg gg
                case measure=>omega
                case rel =>
                  exact ⟨_,q,HBB,boxF_end X8.out A8.out HCA.out _ _,(S8.out.set_ (p:=⟨B,1,none⟩) (by simp only;omega) _).set_ (p:=⟨B,2,none⟩) (by simp only;omega) _,(K8.out.setCell (p:=⟨B,1,none⟩) (.inl (by simp only;omega)) _).setCell (p:=⟨B,2,none⟩) (.inl (by simp only;omega)) _,(R8.out.far (p:=⟨B,1,none⟩) (by simp only;omega) _).far (p:=⟨B,2,none⟩) (by simp only;omega) _,by omega⟩
        ·
          go_wp2_with fail
          refine (HSE.out _ j 40 S4.out).mono ?_
          rintro e w5 ⟨rfl,hB⟩
          rw [h40]
          have S5:=Lib.hid (S4.out.step hB)
          have K5:=Lib.hid (K4.out.then_below hB)
          have R5:=Lib.hid (R4.out.below hB)
          have X5:=Lib.hid (X4.out.below hB)
          clear hB
          obtain ⟨cs,hX,hx⟩:=X5.out
          obtain ⟨n',nm',tk',tp',tg',tn',tz',ta',o'',c'',e,_⟩:=hx.parts
          injection e with e
          subst e
          have c5:=hX.cell
          have HX5:=Lib.hid hX
          have HE5:=Lib.hid hx
          have hB5:=hX.lt
          have hW5:w.heap.size < w5.heap.size:=R5.out.lt
          clear hX hx X5
          cases hl:lst l gg 41 d j with
          | out=>exact (HRO.out (by rw [← HR.out,post_call_out h46 h40 hl])).elim
          | err p q =>
            obtain ⟨f',rfl⟩:∃ f',gg=f' + 1:=by
              cases gg with
              | zero=>rw [lst] at hl;cases hl
              | succ q=>exact ⟨q,rfl⟩
            have HBB:=HR.out
            rw [post_call_no h46 h40 hl] at HBB
            have HC:=Lib.hid (fun (W:World) (h:PS b o c m l j d W)=>list_any (f:=f') HN.out (fun g hg=>HIH.out g (by omega)) 40 41 (by decide) d j W HD.out h h40 (by rw [hl];simp))
            rw [hl] at HC
            clear hl h40 h46
            go_wp2_with fail
            go_region_dies
            all_goals
              refine (HC.out _ ?_).mono ?_
              · first | exact S5.out.drew | exact (S5.out.alloc _).drew
              rintro e w9 hh
              obtain ⟨rfl,hK⟩:=hh
              have K9:Hid (Kp b w w9):=by first | exact K5.out.trans hK.undrew | exact (K5.out.alloc _).trans hK.undrew
              clear hK
              go_wp2
              refine ⟨rfl,?_⟩
              rw [← HBB]
              exact ⟨rfl,K9.out⟩
          | ok ys q =>
            obtain ⟨f',rfl⟩:∃ f',gg=f' + 1:=by
              cases gg with
              | zero=>rw [lst] at hl;cases hl
              | succ q=>exact ⟨q,rfl⟩
            have HBB:=HR.out
            rw [post_call h46 h40 hl] at HBB
            have HC:=Lib.hid (fun (W:World) (h:PS b o c m l j d W)=>list_any (f:=f') HN.out (fun g hg=>HIH.out g (by omega)) 40 41 (by decide) d j W HD.out h h40 (by rw [hl];simp))
            rw [hl] at HC
            have hrng:=(read_rng (l:=l) (f' + 1)).2.2.2.2.2.1 _ _ _ _ _ hl
            have hj0:=isS_real h40
            have HQQ:Hid (1≤q∧q≤(l.length:Nat)):=by show 1≤q∧q≤(l.length:Nat);omega
            have HYL:Hid (ys.length + 1≤1073741824):=Nat.le_trans (list_len hl hj0) HN.out
            clear hl h40 h46 hrng hj0
            go_wp2_with fail
            have HEN:=Lib.hid (fun (W:World) (h:PS b o c m l q d W)=>end_any h (by have:=HN.out;omega) HQQ.out)
            go_region_law (first | (refine step_append rfl _ _ 29 rfl _ _ rfl rfl _ _ HRUN.out ?_) | (go_simp;go_wp2_with (go_at_call 121;refine (HC.out _ ?_).mono ?_;(first | exact S5.out.drew | exact (S5.out.alloc _).drew);rintro e w6 ⟨o6,cap6,rfl,hV,hS,hK⟩;(first
                | (have HK6:Hid (Kp b w5 w6):=hK.undrew
                   have hs6:=HK6.out.size
                   obtain ⟨v7,w7,o7,c7,hrun,rfl,heps,hbel,hcap⟩:=append_list (fun n=>w.heap.size + 1≤n∧n≠B) w5.heap.size 29 (w6.alloc (.cells #[.int .i64 x.kind,.int .i64 x.pos,.int .i64 x.stop,.string nm',.int .i64 n',.int .i64 tk',.int .i64 tp',.string tg',.string tn',.slice tz' ta' ta',.slice o'' x.args.length c''] 31)) w6.heap.size x (.int .i64 x.kind) (.int .i64 x.pos) (.int .i64 x.stop) (.string nm') (.int .i64 n') (.int .i64 tk') (.int .i64 tp') (.string tg') (.string tn') (.slice tz' ta' ta') (.slice o'' x.args.length c'') (Blk.new w6 _ _) ((IsEP.kp (IsEP.mono (P':=fun q=>(w.heap.size + 1≤q∧q≠B)∧q≠w6.heap.size) (fun k hk hp=>⟨hp,by omega⟩) HE5.out) HK6.out (fun h=>by have:=h.1.1;omega)).alloc _) ⟨by omega,by omega⟩ ⟨by simp;omega,by simp;omega⟩ hs6 _ ys o6 cap6 (hV.alloc _) (fun q hq=>⟨by have hq2:w5.heap.size≤q:=hq;omega,by have hq2:w5.heap.size≤q:=hq;omega⟩) HYL.out
                   have HRUN:=Lib.hid hrun
                   have HA7:=Lib.hid heps
                   have HCAP:=Lib.hid hcap
                   clear hcap
                   have hX7:Blk w7 B 31 _:=(hbel.block B hB5).trans ((HX5.out.kp HK6.out (by omega)).alloc _)
                   have R7:Hid (Blk w7 w.heap.size 31 zeroE):=(hbel.block _ hW5).trans ((R5.out.kp HK6.out (by omega)).alloc _)
                   have S7:=Lib.hid ((hS.alloc _).under (hbel.mono (by omega)))
                   have K7:=Lib.hid (((K5.out.trans HK6.out).alloc _).then_base (hbel.mono (by omega)))
                   clear hK hV hS hrun heps hbel
                   have hX6:=HX5.out.kp HK6.out (by omega)
                   have c6:=hX6.cell
                   have hz6:=hX6.lt
                   have c7':=hX7.cell
                   have f7':=hX7.frozen
                   have HX7:=Lib.hid hX7
                   clear hX6 hX7)
                | (have HK6:=Lib.hid ((Kp.alloc (Kp.refl b w5) _).trans hK.undrew)
                   have hs6:=HK6.out.size
                   have hg6:=(Blk.new w5 31 _).kp hK.undrew (by omega)
                   have hsp:w5.heap.size < w6.heap.size:=hg6.lt
                   obtain ⟨v7,w7,o7,c7,hrun,rfl,heps,hbel,hcap⟩:=append_list (fun n=>w.heap.size + 1≤n∧n≠B) w5.heap.size 29 w6 w5.heap.size x (.int .i64 x.kind) (.int .i64 x.pos) (.int .i64 x.stop) (.string nm') (.int .i64 n') (.int .i64 tk') (.int .i64 tp') (.string tg') (.string tn') (.slice tz' ta' ta') (.slice o'' x.args.length c'') hg6 (IsEP.kp (IsEP.mono (P':=fun q=>(w.heap.size + 1≤q∧q≠B)∧q≠w5.heap.size) (fun k hk hp=>⟨hp,by omega⟩) HE5.out) HK6.out (fun h=>by have:=h.1.1;omega)) ⟨by omega,by omega⟩ ⟨by omega,by omega⟩ (Nat.le_refl _) _ ys o6 cap6 hV (fun q hq=>by have hq2:(w5.alloc _).heap.size≤q:=hq;rw [World.size_alloc] at hq2;exact ⟨by omega,by omega⟩) HYL.out
                   have HRUN:=Lib.hid hrun
                   have HA7:=Lib.hid heps
                   have HCAP:=Lib.hid hcap
                   clear hcap
                   have hX7:Blk w7 B 31 _:=(hbel.block B hB5).trans (HX5.out.kp HK6.out (by omega))
                   have R7:Hid (Blk w7 w.heap.size 31 zeroE):=(hbel.block _ hW5).trans (R5.out.kp HK6.out (by omega))
                   have S7:=Lib.hid (hS.under (hbel.mono (by omega)))
                   have K7:=Lib.hid ((K5.out.trans HK6.out).then_base (hbel.mono (by omega)))
                   clear hK hV hS hrun heps hbel hg6
                   have hX6:=HX5.out.kp HK6.out (by omega)
                   have c6:=hX6.cell
                   have hz6:=hX6.lt
                   have c7':=hX7.cell
                   have f7':=hX7.frozen
                   have HX7:=Lib.hid hX7
                   clear hX6 hX7)))))
            all_goals
              go_wp2_with fail
              first
              | (have HM:=midF_in (ca:=c7) (kd:=6) (nm:=⟨#[]⟩) HX7.out HA7.out S7.out K7.out R7.out hbl hwB HCAP.out;refine (HEN.out _ HM.ps).mono ?_;have HMM:=Lib.hid HM;clear HM)
              rintro e w8 ⟨rfl,hB⟩
              obtain ⟨oa,ca,hX,hA,hS,hK,hR,hca⟩:=HMM.out
              have HCA:=Lib.hid hca
              clear hca
              have hX8:=hX.below hB
              have c8:=hX8.cell
              have f8:=hX8.frozen
              have X8:=Lib.hid hX8
              have A8:=Lib.hid (hA.below hB)
              have S8:=Lib.hid (hS.step hB)
              have K8:=Lib.hid (hK.then_below hB)
              have R8:=Lib.hid (hR.below hB)
              clear hX8 hB hX hA hS hK hR HMM
              go_wp2
              go_roundg (f' + 1)
              case measure=>omega
              case rel =>
                exact ⟨_,q,HBB,boxF_end X8.out A8.out HCA.out _ _,(S8.out.set_ (p:=⟨B,1,none⟩) (by simp only;omega) _).set_ (p:=⟨B,2,none⟩) (by simp only;omega) _,(K8.out.setCell (p:=⟨B,1,none⟩) (.inl (by simp only;omega)) _).setCell (p:=⟨B,2,none⟩) (.inl (by simp only;omega)) _,(R8.out.far (p:=⟨B,1,none⟩) (by simp only;omega) _).far (p:=⟨B,2,none⟩) (by simp only;omega) _,by omega⟩
      · go_wp2_with fail
        refine (HSE.out _ j 46 S3.out).mono ?_
        rintro e w4 ⟨rfl,hB⟩
        rw [h46]
        have S4:=Lib.hid (S3.out.step hB)
        have K4:=Lib.hid (K3.out.then_below hB)
        have R4:=Lib.hid (R3.out.below hB)
        have X4:=Lib.hid (X3.out.below hB)
        clear hB
        have hreal:=isS_real h46
        have HT:=Lib.hid (take_any S4.out (by have:=HN.out;omega) hreal)
        clear hreal
        go_wp2_with fail
        refine HT.out.mono ?_
        rintro e w5 ⟨rfl,hS,hK⟩
        have S5:=Lib.hid hS
        have K5:=Lib.hid (K4.out.trans hK)
        have R5:=Lib.hid (R4.out.kp hK (by omega))
        have X5:=Lib.hid (X4.out.kp hK (by omega) (by omega))
        clear hS hK S4 K4 R4 X4 HT
        obtain ⟨cs,hX,hx⟩:=X5.out
        obtain ⟨n',nm',tk',tp',tg',tn',tz',ta',o'',c'',e,_⟩:=hx.parts
        injection e with e
        subst e
        have c5:=hX.cell
        have HX5:=Lib.hid hX
        have HE5:=Lib.hid hx
        have hB5:=hX.lt
        have hW5:w.heap.size < w5.heap.size:=R5.out.lt
        clear hX hx X5
        by_cases hk:(tkAt l (j + 1)).kind=1
        · have HBB:=HR.out
          rw [post_sel h46 hk] at HBB
          have hreal:=tkAt_real (l:=l) (i:=j + 1) (by rw [hk];decide)
          have HQQ:Hid (1≤j + 2∧j + 2≤(l.length:Nat)):=by show 1≤j + 2∧j + 2≤(l.length:Nat);omega
          have HC:=Lib.hid (fun (W:World) (h:PS b o c m l (j + 1) d W)=>name_ok h HN.out HF.out hk)
          rw [show j + 1 + 1=j + 2 by omega] at HC
          rw [show (tkAt l (j + 1)).stop=(tkAt l (j + 2 - 1)).stop by rw [show j + 2 - 1=j + 1 by omega]] at HBB
          clear hk hreal h46
          go_wp2_with fail
          have HEN:=Lib.hid (fun (W:World) (h:PS b o c m l (j + 2) d W)=>end_any h (by have:=HN.out;omega) HQQ.out)
          go_region_with (go_at_call 120;refine (HC.out _ ?_).mono ?_;(first | exact S5.out.drew | exact (S5.out.alloc _).drew);rintro e w6 ⟨rfl,hS,hK⟩;(first | (have HK6:Hid (Kp b w5 w6):=hK.undrew;clear hK) | (have HA6:=Lib.hid ((one_arg (P:=fun n=>w.heap.size + 1≤n∧n≠B) HE5.out rfl ⟨by omega,by omega⟩).kp hK.undrew (fun h=>by have:=h.1;omega));have HK6:=Lib.hid ((Kp.alloc (Kp.refl b w5) _).trans hK.undrew);clear hK));have hX6:=HX5.out.kp HK6.out (by omega);have c6:=hX6.cell;have f6:=hX6.frozen;have hz6:=hX6.lt;have HX6:=Lib.hid hX6;have S6:=Lib.hid hS;clear hX6 hS)
          all_goals
            go_wp2_with fail
            first
            | (have HM:=midF_in (ca:=1) (kd:=5) (nm:=(tkAt l (j + 1)).text) HX6.out HA6.out S6.out (K5.out.trans HK6.out) (R5.out.kp HK6.out (by omega)) hbl hwB ⟨Nat.le_refl 1,by decide⟩;refine (HEN.out _ HM.ps).mono ?_;have HMM:=Lib.hid HM;clear HM)
            | (have HM:=midF_one (kd:=5) (nm:=(tkAt l (j + 1)).text) HX6.out (HE5.out.kp HK6.out (fun h=>by have:=h.1;omega)) S6.out (K5.out.trans HK6.out) (R5.out.kp HK6.out (by omega)) hbl hwB;refine (HEN.out _ HM.ps).mono ?_;have HMM:=Lib.hid HM;clear HM)
            rintro e w8 ⟨rfl,hB⟩
            obtain ⟨oa,ca,hX,hA,hS,hK,hR,hca⟩:=HMM.out
            have HCA:=Lib.hid hca
            clear hca
            have hX8:=hX.below hB
            have c8:=hX8.cell
            have f8:=hX8.frozen
            have X8:=Lib.hid hX8
            have A8:=Lib.hid (hA.below hB)
            have S8:=Lib.hid (hS.step hB)
            have K8:=Lib.hid (hK.then_below hB)
            have R8:=Lib.hid (hR.below hB)
            clear hX8 hB hX hA hS hK hR HMM
            go_wp2
            go_roundg gg
            case measure=>omega
            case rel =>
              exact ⟨_,j + 2,HBB,boxF_end X8.out A8.out HCA.out _ _,(S8.out.set_ (p:=⟨B,1,none⟩) (by simp only;omega) _).set_ (p:=⟨B,2,none⟩) (by simp only;omega) _,(K8.out.setCell (p:=⟨B,1,none⟩) (.inl (by simp only;omega)) _).setCell (p:=⟨B,2,none⟩) (.inl (by simp only;omega)) _,(R8.out.far (p:=⟨B,1,none⟩) (by simp only;omega) _).far (p:=⟨B,2,none⟩) (by simp only;omega) _,by omega⟩
        · have HBB:=HR.out
          rw [post_sel_no h46 hk] at HBB
          have HC:=Lib.hid (fun (W:World) (h:PS b o c m l (j + 1) d W)=>name_no h HN.out hk)
          clear hk h46
          go_wp2_with fail
          go_region_dies
          all_goals
            refine (HC.out _ ?_).mono ?_
            · first | exact S5.out.drew | exact (S5.out.alloc _).drew
            rintro e w9 hh
            obtain ⟨rfl,hK⟩:=hh
            have K9:Hid (Kp b w w9):=by first | exact K5.out.trans hK.undrew | exact (K5.out.alloc _).trans hK.undrew
            clear hK
            go_wp2
            refine ⟨rfl,?_⟩
            rw [← HBB]
            exact ⟨rfl,K9.out⟩
end
end Go.Proofs.YtfcgoainglpdlaaGreatDoor
