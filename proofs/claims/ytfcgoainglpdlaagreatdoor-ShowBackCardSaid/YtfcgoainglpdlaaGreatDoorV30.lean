/- Plain: the tokens of an expression's text are read as the expression, but for places. Condition: the expression is one that was read. Plain: the tokens of an expression's text are read as the expression: by induction. Condition: the expression is one that was read. Plain: the tokens of an express .. -/
import Derived.Test.YtfcgoainglpdlaaGreatDoorV29
namespace Go.Proofs.YtfcgoainglpdlaaGreatDoor
open Go.RowKit
open Go.Lib hiding intOf
def Has (l:List TZ) (i:Int) (ts:List Key):Prop:=∀ (n:Nat) (q:Key),ts[n]?=some q→(tkAt l (i + n)).kind=q.1∧(tkAt l (i + n)).text.data.toList=q.2
theorem Has.left {l:List TZ} {i:Int} {a b:List Key} (h:Has l i (a++b)):Has l i a:=fun n q hq=>h n q (by
 have:=(List.getElem?_eq_some_iff.1 hq).1
 rw [List.getElem?_append_left this];exact hq)
theorem Has.right {l:List TZ} {i:Int} {a b:List Key} (h:Has l i (a++b)):Has l (i + a.length) b:=fun n q hq=>by
 have:=h (a.length + n) q (by rw [List.getElem?_append_right (by omega),show a.length + n - a.length=n by omega];exact hq)
 rw [show i + a.length + (n:Int)=i + ((a.length + n:Nat):Int) by push_cast;omega]
 exact this
theorem Has.head {l:List TZ} {i:Int} {q:Key} {r:List Key} (h:Has l i (q::r)):(tkAt l i).kind=q.1∧(tkAt l i).text.data.toList=q.2:=by
 have:=h 0 q rfl
 rwa [show i + ((0:Nat):Int)=i by omega] at this
theorem Has.tail {l:List TZ} {i:Int} {q:Key} {r:List Key} (h:Has l i (q::r)):Has l (i + 1) r:=by
 have h2:Has l i ([q]++r):=h
 exact h2.right
theorem has_sym {l:List TZ} {i:Int} {c:UInt8} {r:List Key} (h:Has l i (sym c::r)):isS (tkAt l i) c=true:=by
 obtain ⟨h1,h2⟩:=h.head
 unfold isS
 simp only [Bool.and_eq_true,decide_eq_true_eq]
 exact ⟨h1,h2⟩
theorem notS_kind {t:TZ} {c:UInt8} (h:t.kind≠4):isS t c=false:=by unfold isS;rw [decide_eq_false h];rfl
theorem notS_text {t:TZ} {c:UInt8} {s:List UInt8} (h:t.text.data.toList=s) (hs:s≠[c]):isS t c=false:=by unfold isS;rw [h,decide_eq_false hs,Bool.and_false]
theorem isKT_of {t:TZ} {c:UInt8} (h:isS t c=true):isKT t 4 ⟨#[c]⟩=true:=by rw [isKT_S];exact h
theorem notKT_of {t:TZ} {c:UInt8} (h:isS t c=false):isKT t 4 ⟨#[c]⟩=false:=by rw [isKT_S];exact h
theorem text_of {t:TZ} {s:ByteArray} (h:t.text.data.toList=s.data.toList):t.text=s:=by
 have:t.text.data=s.data:=Array.toList_inj.1 h
 cases ht:t.text
 cases s
 rw [ht] at this
 simp only at this
 rw [this]
theorem prs_rd {l:List TZ}:∀ (t:TX) (n:Nat) (i:Int),wfT t→nT t→depT t≤n→Has l i (cT t)→isS (tkAt l (i + (cT t).length)) 46=false→∃ u,prs l n i=.ok u (i + (cT t).length)∧erT (fun _=>0) u=erT (fun _=>0) t
 |.leaf k p g nm,n,i,hw,hn,hd,H,hs=>by
  have key:∃ u,elm l i=.ok u (i + (cT (.leaf k p g nm)).length)∧erT (fun _=>0) u=erT (fun _=>0) (.leaf k p g nm):=by
   unfold wfT at hw
   unfold nT at hn
   unfold cT at H hs ⊢
   rcases hw with hw | ⟨rfl,h1,h2⟩
   ·have h4:k≠4:=by omega
    obtain ⟨rfl,rfl⟩:=hn h4
    rw [if_neg h4] at H hs ⊢
    obtain ⟨a1,a2⟩:=H.head
    have hk:kindOf (wordT k)=k:=by rcases hw with rfl | rfl | rfl <;> decide
    refine ⟨.leaf k (tkAt l i).pos ⟨#[]⟩ ⟨#[]⟩,?_,rfl⟩
    unfold elm
    simp only at a1 a2
    rw [if_neg (by rw [a1];decide),if_pos ⟨a1,by rw [a2,hk];omega⟩,a2,hk]
    rfl
   ·rw [if_pos rfl] at H hs ⊢
    by_cases hg:g=⟨#[]⟩
    ·subst hg
     rw [if_pos rfl] at H hs ⊢
     obtain ⟨a1,a2⟩:=H.head
     refine ⟨.leaf 4 (tkAt l i).pos ⟨#[]⟩ (tkAt l i).text,?_,?_⟩
     ·unfold elm
      rw [if_pos a1,if_neg (by rw [notKT_of (show isS (tkAt l (i + 1)) 46=false from hs)];decide)]
      rfl
     ·rw [text_of a2];rfl
    ·rw [if_neg hg] at H hs ⊢
     obtain ⟨a1,a2⟩:=H.head
     have b:=has_sym H.tail
     obtain ⟨c1,c2⟩:=H.tail.tail.head
     refine ⟨.leaf 4 (tkAt l i).pos (tkAt l i).text (tkAt l (i + 1 + 1)).text,?_,?_⟩
     ·unfold elm
      rw [if_pos a1,if_pos (isKT_of b),show i + 2=i + 1 + 1 by omega,if_pos c1]
      congr 1
     ·rw [text_of a2,text_of c2];rfl
  obtain ⟨u,h1,h2⟩:=key
  refine ⟨u,?_,h2⟩
  have hb:isKT (tkAt l i) 4 ⟨#[91]⟩=false:=by
   cases hb:isKT (tkAt l i) 4 ⟨#[91]⟩ with
   |false=>rfl
   |true =>
    exfalso
    rw [isKT_S] at hb
    have hk:=isS_kind hb
    unfold elm at h1
    rw [if_neg (by rw [hk];decide),if_neg (by rw [hk];simp)] at h1
    cases h1
  cases n with
  |zero=>rw [prs,if_neg (by rw [hb];decide)];exact h1
  |succ n=>rw [prs,if_neg (by rw [hb];decide)];exact h1
 |.list p x,n,i,hw,hn,hd,H,hs=>by
  unfold depT at hd
  unfold wfT at hw
  unfold nT at hn
  unfold cT at H hs ⊢
  obtain ⟨m,rfl⟩:∃ m,n=m + 1:=⟨n - 1,by omega⟩
  have b1:=has_sym H
  have b2:=has_sym H.tail
  have e:i + ((sym 91::sym 93::cT x).length:Nat)=i + 2 + (cT x).length:=by simp only [List.length_cons];push_cast;omega
  rw [e] at hs ⊢
  obtain ⟨u,h1,h2⟩:=prs_rd x m (i + 2) hw hn (by omega) (by have:=H.tail.tail;rwa [show i + 1 + 1=i + 2 by omega] at this) hs
  refine ⟨.list (tkAt l i).pos u,?_,?_⟩
  ·rw [prs,if_pos (isKT_of b1),if_pos (isKT_of b2),h1]
   rfl
  ·unfold erT;rw [h2]
mutual
def er:EX→EX
 |.mk k _ _ n nm t args=>.mk k 0 0 n nm (erT (fun _=>0) t) (ers args)
def ers:List EX→List EX
 |[]=>[]
 |y::r=>er y::ers r
end
def Stp (t:TZ):Prop:=isS t 46=false∧isS t 40=false∧isS t 91=false
def Sto (k:Nat) (t:TZ):Prop:=Stp t∧∀ m:Nat,k≤m→1≤m→lvlOf t≠m
theorem Sto.mono {k m:Nat} {t:TZ} (h:Sto k t) (hm:k≤m):Sto m t:=⟨h.1,fun n h1 h2=>h.2 n (by omega) h2⟩
theorem lvl_none {t:TZ} (h:t.kind≠4∨t.text.data.toList ∉ opsK):lvlOf t=0:=by
 unfold lvlOf
 rcases h with h | h
 ·rw [if_pos h]
 ·simp only [opsK,List.mem_cons,List.not_mem_nil,or_false,not_or] at h
  obtain ⟨h1,h2,h3,h4,h5,h6⟩:=h
  split
  ·rfl
  ·simp only [h2,h3,h4,h5,or_self,if_false]
theorem sto_sym {c:UInt8} {t:TZ} (h:isS t c=true) (hc:c≠46∧c≠40∧c≠91∧[c] ∉ opsK):Sto 1 t:=by
 unfold isS at h
 simp only [Bool.and_eq_true,decide_eq_true_eq] at h
 obtain ⟨h4,ht⟩:=h
 obtain ⟨c1,c2,c3,c4⟩:=hc
 refine ⟨⟨notS_text ht (by simpa using c1),notS_text ht (by simpa using c2),notS_text ht (by simpa using c3)⟩,fun m _ h1=>?_⟩
 rw [lvl_none (.inr (by rw [ht];exact c4))]
 omega
theorem sto_op {t:TZ} {o:List UInt8} (ht:t.text.data.toList=o) (ho:o ∈ opsK) {k:Nat} (hk:lvlOf t=k):Sto (k + 1) t:=by
 refine ⟨?_,fun m h1 _=>by omega⟩
 simp only [opsK,List.mem_cons,List.not_mem_nil,or_false] at ho
 rcases ho with rfl | rfl | rfl | rfl | rfl | rfl <;> exact ⟨notS_text ht (by decide),notS_text ht (by decide),notS_text ht (by decide)⟩
theorem lvl_of {t:TZ} {o:ByteArray} (h4:t.kind=4) (ht:t.text.data.toList=o.data.toList) (ho:o.data.toList ∈ opsK):∃ k:Nat,1≤k∧k≤4∧lvlOf t=k∧levK 9 o=(k:Int):=by
 have e:=text_of ht
 have hb:∀ s:List UInt8,o.data.toList=s→o=⟨s.toArray⟩:=by
  rintro s rfl
  cases o
  simp
 simp only [opsK,List.mem_cons,List.not_mem_nil,or_false] at ho
 unfold lvlOf
 rw [if_neg (by omega),ht]
 rcases ho with h | h | h | h | h | h
 ·exact ⟨1,by decide,by decide,by rw [h];rfl,by rw [hb _ h];decide +kernel⟩
 ·exact ⟨2,by decide,by decide,by rw [h];rfl,by rw [hb _ h];decide +kernel⟩
 ·exact ⟨2,by decide,by decide,by rw [h];rfl,by rw [hb _ h];decide +kernel⟩
 ·exact ⟨3,by decide,by decide,by rw [h];rfl,by rw [hb _ h];decide +kernel⟩
 ·exact ⟨3,by decide,by decide,by rw [h];rfl,by rw [hb _ h];decide +kernel⟩
 ·exact ⟨4,by decide,by decide,by rw [h];rfl,by rw [hb _ h];decide +kernel⟩
section
variable (l:List TZ)
def RdE (k d:Nat) (i:Int) (x:EX) (j:Int):Prop:=∃ y,er y=er x∧∃ f0,∀ f,f0≤f→ex l f k d i=.ok y j
def RdU (d:Nat) (i:Int) (x:EX) (j:Int):Prop:=∃ y,er y=er x∧∃ f0,∀ f,f0≤f→una l f d i=.ok y j
def RdB (k d:Nat) (i:Int) (x:EX) (j:Int):Prop:=∃ y,er y=er x∧∃ c f0,∀ f,f0≤f→∃ f',f≤f' + c∧ex l f k d i=binT l f' k d i y j
def RdP (d:Nat) (i:Int) (x:EX) (j:Int):Prop:=∃ y,er y=er x∧∃ c f0,∀ f,f0≤f→∃ f',f≤f' + c∧una l f d i=post l f' d i y j
end
variable {l:List TZ}
theorem RdP.u {d:Nat} {i j:Int} {x:EX} (h:RdP l d i x j) (hs:Stp (tkAt l j)):RdU l d i x j:=by
 obtain ⟨y,hy,c,f0,h⟩:=h
 refine ⟨y,hy,f0 + c + 1,fun f hf=>?_⟩
 obtain ⟨f',h1,h2⟩:=h f (by omega)
 obtain ⟨g,rfl⟩:∃ g,f'=g + 1:=⟨f' - 1,by omega⟩
 rw [h2,post,if_neg (by rw [hs.1];decide),if_neg (by rw [hs.2.1];decide),if_neg (by rw [hs.2.2];decide)]
theorem RdU.e {d:Nat} {i j:Int} {x:EX} (h:RdU l d i x j):RdE l 5 d i x j:=by
 obtain ⟨y,hy,f0,h⟩:=h
 refine ⟨y,hy,f0 + 1,fun f hf=>?_⟩
 obtain ⟨g,rfl⟩:∃ g,f=g + 1:=⟨f - 1,by omega⟩
 rw [ex,if_pos rfl]
 exact h g (by omega)
theorem RdE.b {k d:Nat} {i j:Int} {x:EX} (hk:k≤4) (h:RdE l (k + 1) d i x j):RdB l k d i x j:=by
 obtain ⟨y,hy,f0,h⟩:=h
 refine ⟨y,hy,1,f0 + 1,fun f hf=>?_⟩
 obtain ⟨g,rfl⟩:∃ g,f=g + 1:=⟨f - 1,by omega⟩
 refine ⟨g,by omega,?_⟩
 rw [ex,if_neg (by omega),h g (by omega)]
theorem RdB.e {k d:Nat} {i j:Int} {x:EX} (h:RdB l k d i x j) (hs:lvlOf (tkAt l j)≠k):RdE l k d i x j:=by
 obtain ⟨y,hy,c,f0,h⟩:=h
 refine ⟨y,hy,f0 + c + 1,fun f hf=>?_⟩
 obtain ⟨f',h1,h2⟩:=h f (by omega)
 obtain ⟨g,rfl⟩:∃ g,f'=g + 1:=⟨f' - 1,by omega⟩
 rw [h2,binT,if_neg hs]
theorem RdB.op {k d:Nat} {i j q:Int} {x y:EX} {o:ByteArray} (hk:lvlOf (tkAt l j)=k) (h:RdB l k d i x j) (ho:(tkAt l j).text=o) (hy:RdE l (k + 1) d (j + 1) y q) {p s:Int}:RdB l k d i (mkBin p s o x y) q:=by
 obtain ⟨x',hx,c,f0,h⟩:=h
 obtain ⟨y',hy',f1,h1⟩:=hy
 refine ⟨mkBin (tkAt l i).pos (tkAt l (q - 1)).stop (tkAt l j).text x' y',?_,c + 1,f0 + f1 + c + 1,fun f hf=>?_⟩
 ·unfold mkBin
  simp only [er,ers,ho,hx,hy']
 ·obtain ⟨f',h2,h3⟩:=h f (by omega)
  obtain ⟨g,rfl⟩:∃ g,f'=g + 1:=⟨f' - 1,by omega⟩
  refine ⟨g,by omega,?_⟩
  rw [h3,binT,if_pos hk,h1 g (by omega)]
end Go.Proofs.YtfcgoainglpdlaaGreatDoor
namespace Go.Proofs.YtfcgoainglpdlaaGreatDoor
open Go.RowKit
open Go.Lib hiding intOf
theorem dec_back:∀ (n u:Nat),u < n→valD (Lib.decDigits u)=u∧(Lib.decDigits u).all isD=true∧1≤(Lib.decDigits u).length
 |0,u,h=>by omega
 |n + 1,u,h=>by
  have hd:∀ v:Nat,v < 10→isD (UInt8.ofNat (48 + v))=true∧(UInt8.ofNat (48 + v)).toNat - 48=v:=by
   intro v hv
   have e:(UInt8.ofNat (48 + v)).toNat=48 + v:=by
    rw [UInt8.toNat_ofNat']
    exact Nat.mod_eq_of_lt (by omega)
   refine ⟨?_,by omega⟩
   unfold isD
   rw [e]
   simp only [Bool.and_eq_true,decide_eq_true_eq]
   omega
  rw [Lib.decDigits]
  by_cases h10:u < 10
  ·rw [dif_pos h10]
   obtain ⟨h1,h2⟩:=hd u h10
   refine ⟨?_,by rw [List.all_cons,List.all_nil,h1];rfl,by simp⟩
   unfold valD
   simp only [List.foldl_cons,List.foldl_nil]
   omega
  ·rw [dif_neg h10]
   obtain ⟨i1,i2,i3⟩:=dec_back n (u / 10) (by omega)
   obtain ⟨h1,h2⟩:=hd (u % 10) (by omega)
   refine ⟨by rw [valD_snoc,i1,h2];omega,by rw [List.all_append,i2,List.all_cons,List.all_nil,h1];rfl,by simp⟩
theorem num_back {n:Int} (h:okK (2,Lib.itoa n)) (h0:0≤n):numOf (Lib.itoa n)=some n:=by
 have hl:(Lib.itoa n).length≤15:=by
  have h2:=h.2
  unfold flt at h2
  have hnum:num (Lib.itoa n)=true:=by
   cases hq:num (Lib.itoa n) with
   |true=>rfl
   |false=>simp [hq] at h2
  unfold num at hnum
  simp only [Bool.and_eq_true,decide_eq_true_eq] at hnum
  exact hnum.1
 obtain ⟨u,rfl⟩:∃ u:Nat,n=u:=⟨n.toNat,by omega⟩
 have e:Lib.itoa ((u:Nat):Int)=Lib.decDigits u:=by unfold Lib.itoa;rw [if_neg (by omega),Int.toNat_natCast]
 rw [e] at hl ⊢
 obtain ⟨i1,i2,i3⟩:=dec_back (u + 1) u (Nat.lt_succ_self _)
 unfold numOf
 rw [if_pos ⟨i3,hl,i2⟩]
 have:=fold_val (Lib.decDigits u) 0 i2
 rw [show ((0:Nat):Int)=0 from rfl] at this
 rw [this]
 unfold valD at i1
 rw [i1]
theorem quo_back (s:List UInt8):quoted ([34]++s++[34])=true∧unquote ([34]++s++[34])=s:=by
 constructor
 ·unfold quoted
  simp only [Bool.and_eq_true,decide_eq_true_eq]
  exact ⟨⟨by simp,rfl⟩,List.getLast?_concat ..⟩
 ·unfold unquote
  simp
section
variable {l:List TZ} {d:Nat} {i:Int}
theorem una_prim {f:Nat} {y:EX} {j:Int} (h:isS (tkAt l i) 33=false) (hp:prim l f d i=.ok y j):una l (f + 1) d i=post l f d i y j:=by
 rw [una,if_neg (by rw [h];decide),hp]
theorem RdP.of_prim {x y:EX} {j:Int} (hs:isS (tkAt l i) 33=false) (hy:er y=er x) (f0:Nat) (h:∀ f,f0≤f→prim l f d i=.ok y j):RdP l d i x j:=by
 refine ⟨y,hy,1,f0 + 1,fun f hf=>?_⟩
 obtain ⟨g,rfl⟩:∃ g,f=g + 1:=⟨f - 1,by omega⟩
 exact ⟨g,by omega,una_prim hs (h g (by omega))⟩
theorem prim_num7 {f:Nat} {n:Int} (h:(tkAt l i).kind=2) (hn:numOf (tkAt l i).text.data.toList=some n):prim l (f + 1) d i=.ok (.mk 1 (tkAt l i).pos (tkAt l i).stop n ⟨#[]⟩ noTX []) (i + 1):=by
 rw [prim,if_pos h,hn]
theorem notW {t:TZ} {s:List UInt8} (h:t.kind≠5):isW t s=false:=by unfold isW;rw [decide_eq_false h];rfl
theorem notW' {t:TZ} {s r:List UInt8} (h:t.text.data.toList=r) (hr:r≠s):isW t s=false:=by unfold isW;rw [h,decide_eq_false hr,Bool.and_false]
theorem isW_of {t:TZ} {s:List UInt8} (h:t.kind=5) (ht:t.text.data.toList=s):isW t s=true:=by unfold isW;rw [h,ht];simp
theorem leaf_rd {k p s n:Int} {nm:ByteArray} (hw:wfX (.mk k p s n nm noTX [])) (hn:nX (.mk k p s n nm noTX [])) (hk:k≤4) (H:Has l i (cX (.mk k p s n nm noTX []))):RdP l d i (.mk k p s n nm noTX []) (i + 1):=by
 unfold wfX at hw
 unfold nX at hn
 obtain ⟨_,hv,hw⟩:=hw
 obtain ⟨_,n1,n2,_,_,_⟩:=hn
 unfold cX at H
 rcases hw with ⟨rfl,h⟩ | ⟨rfl,h⟩ | ⟨rfl,h⟩ | ⟨rfl,h⟩ | ⟨rfl,_⟩ | ⟨rfl,_⟩ | ⟨rfl,_⟩ | ⟨rfl,_⟩ | ⟨rfl,_⟩ | ⟨rfl,_⟩
 ·obtain rfl:=n2 (by decide) (by decide) (by decide) (by decide)
  rw [if_pos rfl] at H
  obtain ⟨a1,a2⟩:=H.head
  simp only at a1 a2
  refine RdP.of_prim (notS_kind (by rw [a1];decide)) (y:=.mk 1 (tkAt l i).pos (tkAt l i).stop n ⟨#[]⟩ noTX []) (by simp only [er]) 1 fun f hf=>?_
  obtain ⟨g,rfl⟩:∃ g,f=g + 1:=⟨f - 1,by omega⟩
  exact prim_num7 a1 (by rw [a2];exact num_back h hv.1)
 ·obtain rfl:=n1 (by decide) (by decide)
  rw [if_neg (by decide),if_pos rfl] at H
  obtain ⟨a1,a2⟩:=H.head
  simp only at a1 a2
  obtain ⟨q1,q2⟩:=quo_back nm.data.toList
  refine RdP.of_prim (notS_kind (by rw [a1];decide)) (y:=.mk 2 (tkAt l i).pos (tkAt l i).stop 0 nm noTX []) (by simp only [er]) 1 fun f hf=>?_
  obtain ⟨g,rfl⟩:∃ g,f=g + 1:=⟨f - 1,by omega⟩
  rw [prim,if_neg (by rw [a1];decide),if_pos a1,a2,if_pos q1,q2]
 ·obtain rfl:=n2 (by decide) (by decide) (by decide) (by decide)
  rw [if_neg (by decide),if_neg (by decide),if_pos rfl] at H
  rcases h with rfl | rfl
  ·rw [if_neg (by decide)] at H
   obtain ⟨a1,a2⟩:=H.head
   simp only at a1 a2
   refine RdP.of_prim (notS_kind (by rw [a1];decide)) (y:=.mk 3 (tkAt l i).pos (tkAt l i).stop 0 ⟨#[]⟩ noTX []) (by simp only [er]) 1 fun f hf=>?_
   obtain ⟨g,rfl⟩:∃ g,f=g + 1:=⟨f - 1,by omega⟩
   rw [prim,if_neg (by rw [a1];decide),if_neg (by rw [a1];decide),if_neg (by rw [notW' a2 (by decide)];decide),if_pos (isW_of a1 a2)]
  ·rw [if_pos rfl] at H
   obtain ⟨a1,a2⟩:=H.head
   simp only at a1 a2
   refine RdP.of_prim (notS_kind (by rw [a1];decide)) (y:=.mk 3 (tkAt l i).pos (tkAt l i).stop 1 ⟨#[]⟩ noTX []) (by simp only [er]) 1 fun f hf=>?_
   obtain ⟨g,rfl⟩:∃ g,f=g + 1:=⟨f - 1,by omega⟩
   rw [prim,if_neg (by rw [a1];decide),if_neg (by rw [a1];decide),if_pos (isW_of a1 a2)]
 ·obtain rfl:=n1 (by decide) (by decide)
  rw [if_neg (by decide),if_neg (by decide),if_neg (by decide),if_pos rfl] at H
  obtain ⟨a1,a2⟩:=H.head
  simp only at a1 a2
  refine RdP.of_prim (notS_kind (by rw [a1];decide)) (y:=.mk 4 (tkAt l i).pos (tkAt l i).stop 0 (tkAt l i).text noTX []) (by rw [text_of a2];simp only [er]) 1 fun f hf=>?_
  obtain ⟨g,rfl⟩:∃ g,f=g + 1:=⟨f - 1,by omega⟩
  rw [prim,if_neg (by rw [a1];decide),if_neg (by rw [a1];decide),if_neg (by rw [notW (by rw [a1];decide)];decide),if_neg (by rw [notW (by rw [a1];decide)];decide),if_pos a1]
 all_goals omega
theorem sym_ne {t:TZ} {a b:UInt8} (h:isS t a=true) (hab:a≠b):isS t b=false:=by
 unfold isS at h
 simp only [Bool.and_eq_true,decide_eq_true_eq] at h
 exact notS_text h.2 (by simpa using hab)
theorem RdP.sel {x:EX} {j:Int} (h:RdP l d i x j) (hs:isS (tkAt l j) 46=true) (hk:(tkAt l (j + 1)).kind=1) {nm:ByteArray} (hn:(tkAt l (j + 1)).text=nm) {p e:Int}:RdP l d i (mkSel p x nm e) (j + 2):=by
 obtain ⟨y,hy,c,f0,h⟩:=h
 refine ⟨mkSel (tkAt l i).pos y (tkAt l (j + 1)).text (tkAt l (j + 1)).stop,by unfold mkSel;simp only [er,ers,hy,hn],c + 1,f0 + c + 1,fun f hf=>?_⟩
 obtain ⟨f',h1,h2⟩:=h f (by omega)
 obtain ⟨g,rfl⟩:∃ g,f'=g + 1:=⟨f' - 1,by omega⟩
 exact ⟨g,by omega,by rw [h2,post,if_pos hs,if_pos hk]⟩
def RdL (l:List TZ) (z:UInt8) (d:Nat) (i:Int) (ys:List EX) (q:Int):Prop:=∃ zs,ers zs=ers ys∧∃ f0,∀ f,f0≤f→lst l f z d i=.ok zs q
def RdI (l:List TZ) (z:UInt8) (d:Nat) (i:Int) (ys:List EX) (q:Int):Prop:=∃ zs,ers zs=ers ys∧∃ f0,∀ f,f0≤f→items l f z d i=.ok zs q
theorem RdP.call {x:EX} {ys:List EX} {j q:Int} (h:RdP l d i x j) (hs:isS (tkAt l j) 40=true) (hl:RdL l 41 d j ys q) {p e:Int}:RdP l d i (mkCall p x ys e) q:=by
 obtain ⟨y,hy,c,f0,h⟩:=h
 obtain ⟨zs,hz,f1,hl⟩:=hl
 refine ⟨mkCall (tkAt l i).pos y zs (tkAt l (q - 1)).stop,by unfold mkCall;simp only [er,ers,hy,hz],c + 1,f0 + f1 + c + 1,fun f hf=>?_⟩
 obtain ⟨f',h1,h2⟩:=h f (by omega)
 obtain ⟨g,rfl⟩:∃ g,f'=g + 1:=⟨f' - 1,by omega⟩
 exact ⟨g,by omega,by rw [h2,post,if_neg (by rw [sym_ne hs (by decide)];decide),if_pos hs,hl g (by omega)]⟩
theorem RdP.idx {x y:EX} {j q:Int} (h:RdP l d i x j) (hs:isS (tkAt l j) 91=true) (hd:d < 30) (hy:RdE l 1 (d + 1) (j + 1) y q) (hz:isS (tkAt l q) 93=true) {p e:Int}:RdP l d i (mkIdx p x y e) (q + 1):=by
 obtain ⟨x',hx,c,f0,h⟩:=h
 obtain ⟨y',hy',f1,h1'⟩:=hy
 refine ⟨mkIdx (tkAt l i).pos x' y' (tkAt l q).stop,by unfold mkIdx;simp only [er,ers,hx,hy'],c + 1,f0 + f1 + c + 1,fun f hf=>?_⟩
 obtain ⟨f',h1,h2⟩:=h f (by omega)
 obtain ⟨g,rfl⟩:∃ g,f'=g + 1:=⟨f' - 1,by omega⟩
 exact ⟨g,by omega,by rw [h2,post,if_neg (by rw [sym_ne hs (by decide)];decide),if_neg (by rw [sym_ne hs (by decide)];decide),if_pos hs,if_neg (by omega),h1' g (by omega)];simp only [hz,if_true]⟩
theorem RdP.par {x:EX} {j:Int} (hs:isS (tkAt l i) 40=true) (hd:d < 30) (hx:RdE l 1 (d + 1) (i + 1) x j) (hz:isS (tkAt l j) 41=true):RdP l d i x (j + 1):=by
 obtain ⟨y,hy,f0,h⟩:=hx
 have h4:=isS_kind hs
 refine RdP.of_prim (sym_ne hs (by decide)) hy (f0 + 1) fun f hf=>?_
 obtain ⟨g,rfl⟩:∃ g,f=g + 1:=⟨f - 1,by omega⟩
 rw [prim,if_neg (by rw [h4];decide),if_neg (by rw [h4];decide),if_neg (by rw [notW (by rw [h4];decide)];decide),if_neg (by rw [notW (by rw [h4];decide)];decide),if_neg (by rw [h4];decide),if_pos hs,if_neg (by omega),h g (by omega)]
 simp only [hz,if_true]
theorem RdU.not {x:EX} {j:Int} (hs:isS (tkAt l i) 33=true) (hd:d < 30) (hx:RdE l 5 (d + 1) (i + 1) x j) {p e:Int}:RdU l d i (mkNot p e x) j:=by
 obtain ⟨y,hy,f0,h⟩:=hx
 refine ⟨mkNot (tkAt l i).pos (tkAt l (j - 1)).stop y,by unfold mkNot;simp only [er,ers,hy],f0 + 1,fun f hf=>?_⟩
 obtain ⟨g,rfl⟩:∃ g,f=g + 1:=⟨f - 1,by omega⟩
 have h2:=h (g + 1) (by omega)
 rw [ex,if_pos rfl] at h2
 rw [una,if_pos hs,if_neg (by omega),h2]
theorem RdP.new {t:TX} {ys:List EX} {j q:Int} (hw:wfT t) (hn:nT t) (hd:depT t≤30) (h5:(tkAt l i).kind=5) (hT:(tkAt l i).text.data.toList=[110,101,119]) (H:Has l (i + 1) (cT t)) (hj:j=i + 1 + (cT t).length) (hs:isS (tkAt l j) 123=true) (hl:RdL l 125 d j ys q) {p e:Int}:RdP l d i (.mk 8 p e 0 ⟨#[]⟩ t ys) q:=by
 subst hj
 obtain ⟨u,h1,h2⟩:=prs_rd t 30 (i + 1) hw hn hd H (sym_ne hs (by decide))
 obtain ⟨zs,hz,f1,hl⟩:=hl
 refine RdP.of_prim (notS_kind (by rw [h5];decide)) (y:=.mk 8 (tkAt l i).pos (tkAt l (q - 1)).stop 0 ⟨#[]⟩ u zs) (by simp only [er,hz,h2]) (f1 + 1) fun f hf=>?_
 obtain ⟨g,rfl⟩:∃ g,f=g + 1:=⟨f - 1,by omega⟩
 rw [prim,if_neg (by rw [h5];decide),if_neg (by rw [h5];decide),if_neg (by rw [notW' hT (by decide)];decide),if_neg (by rw [notW' hT (by decide)];decide),if_neg (by rw [h5];decide),if_neg (by rw [notS_kind (by rw [h5];decide)];decide),if_pos (isW_of h5 hT),h1]
 simp only [hs,if_true,hl g (by omega)]
theorem items_rd {z:UInt8} (hz:z=41∨z=125):∀ (ys:List EX) (i:Int),ys≠[] →
  (∀ y ∈ ys,∀ i,Has l i (brk 1 (levE y,cX y))→Sto 1 (tkAt l (i + (brk 1 (levE y,cX y)).length))→RdE l 1 (d + 1) i y (i + (brk 1 (levE y,cX y)).length)) →
  Has l i (cJ (cXs ys)++[sym z])→RdI l z d i ys (i + (cJ (cXs ys)).length + 1)
 |[],_,h,_,_=>absurd rfl h
 |[y],i,_,hE,H=>by
  unfold cXs cXs at H ⊢
  rw [cJ,cR,List.append_nil] at H ⊢
  have hs:=has_sym H.right
  have hst:Sto 1 (tkAt l (i + (brk 1 (levE y,cX y)).length)):=sto_sym hs (by rcases hz with rfl | rfl <;> decide)
  obtain ⟨y',hy,f0,h⟩:=hE y (by simp) i H.left hst
  refine ⟨[y'],by simp only [ers,hy],f0 + 1,fun f hf=>?_⟩
  obtain ⟨g,rfl⟩:∃ g,f=g + 1:=⟨f - 1,by omega⟩
  rw [items,h g (by omega)]
  have h44:isS (tkAt l (i + (brk 1 (levE y,cX y)).length)) 44=false:=sym_ne hs (by rcases hz with rfl | rfl <;> decide)
  simp only [h44,hs,if_true,Bool.false_eq_true,if_false]
 |y::x::r,i,_,hE,H=>by
  have e:cJ (cXs (y::x::r))=brk 1 (levE y,cX y)++([sym 44]++cJ (cXs (x::r))):=by
   rw [show cXs (y::x::r)=(levE y,cX y)::(levE x,cX x)::cXs r by rw [cXs,cXs],show cXs (x::r)=(levE x,cX x)::cXs r by rw [cXs],cJ,cR,cJ]
   simp only [List.append_assoc]
  rw [e] at H ⊢
  rw [List.append_assoc] at H
  have hs:isS (tkAt l (i + (brk 1 (levE y,cX y)).length)) 44=true:=has_sym H.right
  have hst:Sto 1 (tkAt l (i + (brk 1 (levE y,cX y)).length)):=sto_sym hs (by decide)
  obtain ⟨y',hy,f0,h⟩:=hE y (by simp) i H.left hst
  have H2:=H.right
  rw [List.append_assoc] at H2
  have H3:=H2.tail
  obtain ⟨zs,hzs,f1,h1⟩:=items_rd hz (x::r) (i + (brk 1 (levE y,cX y)).length + 1) (by simp) (fun v hv=>hE v (by simp only [List.mem_cons] at hv ⊢;exact .inr hv)) H3
  refine ⟨y'::zs,by rw [ers,hy,hzs];simp only [ers],f0 + f1 + 1,fun f hf=>?_⟩
  obtain ⟨g,rfl⟩:∃ g,f=g + 1:=⟨f - 1,by omega⟩
  rw [items,h g (by omega)]
  simp only [hs,if_true,h1 g (by omega)]
  congr 1
  simp only [List.length_append,List.length_cons,List.length_nil]
  push_cast
  omega
theorem lst_rd {z:UInt8} (hz:z=41∨z=125) {ys:List EX} {c:UInt8} (hd:d < 30)
  (hE:∀ y ∈ ys,∀ i,Has l i (brk 1 (levE y,cX y))→Sto 1 (tkAt l (i + (brk 1 (levE y,cX y)).length))→RdE l 1 (d + 1) i y (i + (brk 1 (levE y,cX y)).length))
  (hfst:∀ y ∈ ys,∀ i,Has l i (brk 1 (levE y,cX y))→isS (tkAt l i) z=false)
  (H:Has l i ([sym c]++cJ (cXs ys)++[sym z])):RdL l z d i ys (i + (cJ (cXs ys)).length + 2):=by
 rw [List.append_assoc] at H
 have H1:Has l (i + 1) (cJ (cXs ys)++[sym z]):=H.tail
 cases ys with
 |nil =>
  unfold cXs at H1 ⊢
  rw [cJ] at H1 ⊢
  have hs:=has_sym H1
  refine ⟨[],rfl,1,fun f hf=>?_⟩
  obtain ⟨g,rfl⟩:∃ g,f=g + 1:=⟨f - 1,by omega⟩
  rw [lst,if_neg (by omega),if_pos hs]
  congr 1
  simp only [List.length_nil]
  omega
 |cons y r =>
  obtain ⟨zs,hzs,f0,h⟩:=items_rd hz (y::r) (i + 1) (by simp) hE H1
  have hn:isS (tkAt l (i + 1)) z=false:=by
   refine hfst y (by simp) (i + 1) ?_
   have:cXs (y::r)=(levE y,cX y)::cXs r:=by rw [cXs]
   rw [this,cJ,List.append_assoc] at H1
   exact H1.left
  refine ⟨zs,hzs,f0 + 1,fun f hf=>?_⟩
  obtain ⟨g,rfl⟩:∃ g,f=g + 1:=⟨f - 1,by omega⟩
  rw [lst,if_neg (by omega),if_neg (by rw [hn];decide),h g (by omega)]
  congr 1
  omega
end
end Go.Proofs.YtfcgoainglpdlaaGreatDoor
namespace Go.Proofs.YtfcgoainglpdlaaGreatDoor
open Go.RowKit
open Go.Lib hiding intOf
theorem cAt_at {args:List EX} {i:Nat} {y:EX} (h:args[i]?=some y) (m:Int):cAt (cXs args) i m=brk m (levE y,cX y):=by
 unfold cAt
 rw [cXs_map,List.getElem?_map,h]
 rfl
theorem dAt_at {args:List EX} {i:Nat} {y:EX} (h:args[i]?=some y) (m:Int):dAt (dXs args) i m=bd m y:=by
 have e:∀ l:List EX,dXs l=l.map fun y=>(levE y,dX y):=by
  intro l
  induction l with
  |nil=>rw [dXs];rfl
  |cons y r ih=>rw [dXs,ih];rfl
 unfold dAt
 rw [e,List.getElem?_map,h]
 rfl
theorem dJ_le {y:EX}:∀ {ys:List EX},y ∈ ys→bd 1 y≤dJ (dXs ys)
 |[],h=>by cases h
 |x::r,h=>by
  rw [dJ_cons]
  rcases List.mem_cons.1 h with rfl | h
  ·omega
  ·have:=dJ_le h;omega
def Fst (ts:List Key):Prop:=∃ q r,ts=q::r∧(q.1≠4∨q=sym 40∨q=sym 33)
theorem Fst.app {a b:List Key} (h:Fst a):Fst (a++b):=by
 obtain ⟨q,r,rfl,h⟩:=h
 exact ⟨q,r++b,rfl,h⟩
theorem Fst.brk {m k:Int} {ts:List Key} (h:Fst ts):Fst (Go.Proofs.YtfcgoainglpdlaaGreatDoor.brk m (k,ts)):=by
 unfold Go.Proofs.YtfcgoainglpdlaaGreatDoor.brk
 split
 ·exact ⟨sym 40,ts++[sym 41],rfl,.inr (.inl rfl)⟩
 ·exact h
theorem Fst.no {l:List TZ} {i:Int} {ts r:List Key} (h:Fst ts) (H:Has l i (ts++r)) {z:UInt8} (hz:z≠40∧z≠33):isS (tkAt l i) z=false:=by
 obtain ⟨q,r',rfl,h⟩:=h
 obtain ⟨h1,h2⟩:=Has.head (r:=r'++r) H
 rcases h with h | rfl | rfl
 ·exact notS_kind (by rw [h1];exact h)
 ·exact notS_text h2 (by simpa [sym] using fun e:(40:UInt8)=z=>hz.1 e.symm)
 ·exact notS_text h2 (by simpa [sym] using fun e:(33:UInt8)=z=>hz.2 e.symm)
theorem get0 {args:List EX} (h:0 < args.length):∃ y,args[0]?=some y∧y ∈ args:=⟨args[0],List.getElem?_eq_getElem h,List.getElem_mem h⟩
theorem fst_X:∀ (n:Nat) (x:EX),SizeOf.sizeOf x < n→wfX x→Fst (cX x):=by
 intro n
 induction n with
 |zero=>intro x h;omega
 |succ n ih =>
 rintro ⟨k,p,s,v,nm,t,args⟩ hs h
 unfold wfX at h
 obtain ⟨ha,hv,h⟩:=h
 have hA:∀ y ∈ args,∀ m,Fst (brk m (levE y,cX y)):=fun y hy m=>(ih y (by have:=List.sizeOf_lt_of_mem hy;simp only [EX.mk.sizeOf_spec] at hs;omega) (wfXs_mem ha hy)).brk
 unfold cX
 rcases h with ⟨rfl,h⟩ | ⟨rfl,h⟩ | ⟨rfl,h⟩ | ⟨rfl,h⟩ | ⟨rfl,hl,h⟩ | ⟨rfl,hl⟩ | ⟨rfl,hl⟩ | ⟨rfl,h⟩ | ⟨rfl,hl,h⟩ | ⟨rfl,hl⟩
 ·rw [if_pos rfl];exact ⟨_,_,rfl,.inl (by show (2:Int)≠4;decide)⟩
 ·rw [if_neg (by decide),if_pos rfl];exact ⟨_,_,rfl,.inl (by show (3:Int)≠4;decide)⟩
 ·rw [if_neg (by decide),if_neg (by decide),if_pos rfl]
  split
  ·exact ⟨_,_,rfl,.inl (by decide)⟩
  ·exact ⟨_,_,rfl,.inl (by decide)⟩
 ·rw [if_neg (by decide),if_neg (by decide),if_neg (by decide),if_pos rfl];exact ⟨_,_,rfl,.inl (by show (1:Int)≠4;decide)⟩
 ·obtain ⟨y,hy,hm⟩:=get0 (args:=args) (by omega)
  rw [if_neg (by decide),if_neg (by decide),if_neg (by decide),if_neg (by decide),if_pos rfl,cAt_at hy]
  exact (hA y hm 6).app.app
 ·obtain ⟨y,hy,hm⟩:=get0 (args:=args) (by omega)
  rw [if_neg (by decide),if_neg (by decide),if_neg (by decide),if_neg (by decide),if_neg (by decide),if_pos rfl,cAt_at hy]
  exact (hA y hm 6).app.app.app
 ·obtain ⟨y,hy,hm⟩:=get0 (args:=args) (by omega)
  rw [if_neg (by decide),if_neg (by decide),if_neg (by decide),if_neg (by decide),if_neg (by decide),if_neg (by decide),if_pos rfl,cAt_at hy]
  exact (hA y hm 6).app.app.app
 ·rw [if_neg (by decide),if_neg (by decide),if_neg (by decide),if_neg (by decide),if_neg (by decide),if_neg (by decide),if_neg (by decide),if_pos rfl]
  exact ⟨_,_,rfl,.inl (by decide)⟩
 ·obtain ⟨y,hy,hm⟩:=get0 (args:=args) (by omega)
  rw [if_neg (by decide),if_neg (by decide),if_neg (by decide),if_neg (by decide),if_neg (by decide),if_neg (by decide),if_neg (by decide),if_neg (by decide),if_neg (by decide),cAt_at hy]
  exact (hA y hm _).app.app
 ·rw [if_neg (by decide),if_neg (by decide),if_neg (by decide),if_neg (by decide),if_neg (by decide),if_neg (by decide),if_neg (by decide),if_neg (by decide),if_pos rfl]
  exact ⟨_,_,rfl,.inr (.inr rfl)⟩
section
variable {l:List TZ}
def Cor (l:List TZ) (x:EX):Prop:=∀ (d:Nat) (i:Int),d + dX x≤30→Has l i (cX x) →
 (levE x=6→RdP l d i x (i + (cX x).length))∧(levE x=5→Stp (tkAt l (i + (cX x).length))→RdU l d i x (i + (cX x).length)) ∧
 (∀ k:Nat,levE x=k→1≤k→k≤4→Sto (k + 1) (tkAt l (i + (cX x).length))→RdB l k d i x (i + (cX x).length))
theorem RdE.from {d:Nat} {i j:Int} {x:EX}:∀ (n k m:Nat),k + n=m→m≤5→RdE l m d i x j→1≤k→Sto k (tkAt l j)→RdE l k d i x j
 |0,k,m,hk,_,h,_,_=>by
  obtain rfl:k=m:=by omega
  exact h
 |n + 1,k,m,hk,hm,h,h1,hs=>((RdE.from n (k + 1) m (by omega) hm h (by omega) (hs.mono (by omega))).b (by omega)).e (hs.2 k (Nat.le_refl _) h1)
theorem lev_in (x:EX):levE x=6∨levE x=5∨∃ k:Nat,levE x=k∧1≤k∧k≤4:=by
 unfold levE levK
 split
 ·exact .inr (.inl rfl)
 ·split
  ·right;right
   split
   ·exact ⟨2,rfl,by decide,by decide⟩
   ·split
    ·exact ⟨3,rfl,by decide,by decide⟩
    ·split
     ·exact ⟨4,rfl,by decide,by decide⟩
     ·exact ⟨1,rfl,by decide,by decide⟩
  ·exact .inl rfl
theorem Cor.low {x:EX} (h:Cor l x) {k:Nat} (h1:1≤k) (h5:k≤5) (hk:(k:Int)≤levE x) {d:Nat} {i:Int} (hd:d + dX x≤30) (H:Has l i (cX x)) (hs:Sto k (tkAt l (i + (cX x).length))):RdE l k d i x (i + (cX x).length):=by
 obtain ⟨a,b,c⟩:=h d i hd H
 rcases lev_in x with e | e | ⟨v,e,e1,e4⟩
 ·exact RdE.from (5 - k) k 5 (by omega) (by omega) ((a e).u hs.1).e h1 hs
 ·exact RdE.from (5 - k) k 5 (by omega) (by omega) (b e hs.1).e h1 hs
 ·have hkv:k≤v:=by omega
  have:=(c v e e1 e4 (hs.mono (by omega))).e (hs.2 v hkv e1)
  exact RdE.from (v - k) k v (by omega) (by omega) this h1 hs
theorem lev_one (x:EX):1≤levE x:=by
 rcases lev_in x with e | e | ⟨v,e,e1,e4⟩ <;> omega
theorem Cor.par {x:EX} (h:Cor l x) {d:Nat} {i:Int} (hd:d + 1 + dX x≤30) (H:Has l i ([sym 40]++cX x++[sym 41])):RdP l d i x (i + ([sym 40]++cX x++[sym 41]).length):=by
 rw [List.append_assoc] at H
 have h40:=has_sym H
 have H1:Has l (i + 1) (cX x++[sym 41]):=H.tail
 have h41:=has_sym H1.right
 have hE:=h.low (k:=1) (by decide) (by decide) (lev_one x) (d:=d + 1) (by omega) H1.left (sto_sym h41 (by decide))
 have:=RdP.par h40 (by omega) hE h41
 have e:i + (([sym 40]++cX x++[sym 41]).length:Nat)=i + 1 + (cX x).length + 1:=by simp only [List.length_append,List.length_cons,List.length_nil];push_cast;omega
 rw [e]
 exact this
theorem Cor.p {x:EX} (h:Cor l x) {d:Nat} {i:Int} (hd:d + bd 6 x≤30) (H:Has l i (brk 6 (levE x,cX x))):RdP l d i x (i + (brk 6 (levE x,cX x)).length):=by
 rw [bd_eq] at hd
 unfold brk at H ⊢
 by_cases hl:levE x < 6
 ·rw [if_pos hl] at H hd ⊢
  exact h.par (by omega) H
 ·rw [if_neg hl] at H hd ⊢
  have e:levE x=6:=by rcases lev_in x with e | e | ⟨v,e,e1,e4⟩ <;> omega
  exact (h d i (by omega) H).1 e
theorem Cor.e {x:EX} (h:Cor l x) {k:Nat} (h1:1≤k) (h5:k≤5) {d:Nat} {i:Int} (hd:d + bd k x≤30) (H:Has l i (brk k (levE x,cX x))) (hs:Sto k (tkAt l (i + (brk k (levE x,cX x)).length))):RdE l k d i x (i + (brk k (levE x,cX x)).length):=by
 rw [bd_eq] at hd
 unfold brk at H hs ⊢
 by_cases hl:levE x < k
 ·simp only [hl,if_true] at H hs hd ⊢
  exact RdE.from (5 - k) k 5 (by omega) (by omega) ((h.par (by omega) H).u hs.1).e h1 hs
 ·simp only [hl,if_false] at H hs hd ⊢
  exact h.low h1 h5 (by omega) (by omega) H hs
theorem Cor.b {x:EX} (h:Cor l x) {k:Nat} (h1:1≤k) (h4:k≤4) {d:Nat} {i:Int} (hd:d + bd k x≤30) (H:Has l i (brk k (levE x,cX x))) (hs:Sto (k + 1) (tkAt l (i + (brk k (levE x,cX x)).length))):RdB l k d i x (i + (brk k (levE x,cX x)).length):=by
 rw [bd_eq] at hd
 unfold brk at H hs ⊢
 by_cases hl:levE x < k
 ·simp only [hl,if_true] at H hs hd ⊢
  exact (RdE.from (5 - (k + 1)) (k + 1) 5 (by omega) (by omega) ((h.par (by omega) H).u hs.1).e (by omega) hs).b h4
 ·simp only [hl,if_false] at H hs hd ⊢
  by_cases he:levE x=k
  ·exact (h d i (by omega) H).2.2 k he h1 h4 hs
  ·exact (h.low (k:=k + 1) (by omega) (by omega) (by omega) (by omega) H hs).b h4
theorem cor_all:∀ (n:Nat) (x:EX),SizeOf.sizeOf x < n→wfX x→nX x→Cor l x:=by
 intro n
 induction n with
 |zero=>intro x h;omega
 |succ n ih =>
 rintro ⟨k,p,s,v,nm,t,args⟩ hs hw hn d i hd H
 have hw':=hw
 have hn':=hn
 unfold wfX at hw
 unfold nX at hn
 obtain ⟨ha,hv,h⟩:=hw
 obtain ⟨na,n1,n2,n3,n4,n5⟩:=hn
 have hC:∀ y ∈ args,Cor l y:=fun y hy=>ih y (by have:=List.sizeOf_lt_of_mem hy;simp only [EX.mk.sizeOf_spec] at hs;omega) (wfXs_mem ha hy) (nXs_mem na hy)
 have hF:∀ y ∈ args,∀ m,Fst (brk m (levE y,cX y)):=fun y hy m=>(fst_X _ y (Nat.lt_succ_self _) (wfXs_mem ha hy)).brk
 have hv6:∀ (h9:k≠9) (h10:k≠10),levE (.mk k p s v nm t args)=6:=fun h9 h10=>by rw [levE_mk,levK,if_neg h10,if_neg h9]
 have hL:∀ (ys:List EX) (c z:UInt8) (d:Nat) (i:Int),(∀ y ∈ ys,y ∈ args)→(z=41∨z=125)→d + (1 + dJ (dXs ys))≤30→Has l i ([sym c]++cJ (cXs ys)++[sym z])→RdL l z d i ys (i + (cJ (cXs ys)).length + 2):=fun ys c z d i hys hz hd H =>
  lst_rd hz (by omega) (fun y hy i Hy hst=>(hC y (hys y hy)).e (k:=1) (by decide) (by decide) (d:=d + 1) (by have:=dJ_le hy;push_cast;omega) Hy hst) (fun y hy i Hy=>Fst.no (r:=[]) (hF y (hys y hy) 1) (by rw [List.append_nil];exact Hy) (by rcases hz with rfl | rfl <;> decide)) H
 rcases h with ⟨rfl,h⟩ | ⟨rfl,h⟩ | ⟨rfl,h⟩ | ⟨rfl,h⟩ | ⟨rfl,hl,h⟩ | ⟨rfl,hl⟩ | ⟨rfl,hl⟩ | ⟨rfl,h⟩ | ⟨rfl,hl,h⟩ | ⟨rfl,hl⟩
 ·obtain rfl:=n3 (by decide)
  obtain rfl:=n5 (by decide)
  have e6:=hv6 (by decide) (by decide)
  refine ⟨fun _=>?_,fun e=>by rw [e6] at e;omega,fun q e=>by rw [e6] at e;omega⟩
  exact leaf_rd hw' hn' (by decide) H
 ·obtain rfl:=n3 (by decide)
  obtain rfl:=n5 (by decide)
  have e6:=hv6 (by decide) (by decide)
  refine ⟨fun _=>?_,fun e=>by rw [e6] at e;omega,fun q e=>by rw [e6] at e;omega⟩
  exact leaf_rd hw' hn' (by decide) H
 ·obtain rfl:=n3 (by decide)
  obtain rfl:=n5 (by decide)
  have e6:=hv6 (by decide) (by decide)
  refine ⟨fun _=>?_,fun e=>by rw [e6] at e;omega,fun q e=>by rw [e6] at e;omega⟩
  have e1:(cX (.mk 3 p s v nm noTX [])).length=1:=by
   rw [cX,if_neg (by decide),if_neg (by decide),if_pos rfl]
   split <;> rfl
  rw [e1]
  exact leaf_rd hw' hn' (by decide) H
 ·obtain rfl:=n3 (by decide)
  obtain rfl:=n5 (by decide)
  have e6:=hv6 (by decide) (by decide)
  refine ⟨fun _=>?_,fun e=>by rw [e6] at e;omega,fun q e=>by rw [e6] at e;omega⟩
  exact leaf_rd hw' hn' (by decide) H
 ·
  obtain rfl:=n3 (by decide)
  obtain rfl:=n1 (by decide) (by decide)
  have e6:=hv6 (by decide) (by decide)
  refine ⟨fun _=>?_,fun e=>by rw [e6] at e;omega,fun q e=>by rw [e6] at e;omega⟩
  match args,hl,hC,hd,H with
  |[y],_,hC,hd,H =>
   rw [dX,if_pos rfl,dAt_at (y:=y) rfl] at hd
   rw [cX,if_neg (by decide),if_neg (by decide),if_neg (by decide),if_neg (by decide),if_pos rfl,cAt_at (y:=y) rfl] at H ⊢
   have hp:=(hC y (by simp)).p hd H.left.left
   rw [List.append_assoc] at H
   have hs:=has_sym H.right
   obtain ⟨a1,a2⟩:=H.right.tail.head
   have:=hp.sel hs a1 (text_of (s:=nm) a2) (p:=p) (e:=s)
   have e:i + ((brk 6 (levE y,cX y)++[sym 46]++[(1,nm.data.toList)]).length:Nat)=i + (brk 6 (levE y,cX y)).length + 2:=by simp only [List.length_append,List.length_cons,List.length_nil];push_cast;omega
   rw [e]
   exact this
 ·
  obtain rfl:=n3 (by decide)
  obtain rfl:=n1 (by decide) (by decide)
  obtain rfl:=n2 (by decide) (by decide) (by decide) (by decide)
  have e6:=hv6 (by decide) (by decide)
  refine ⟨fun _=>?_,fun e=>by rw [e6] at e;omega,fun q e=>by rw [e6] at e;omega⟩
  match args,hl,hC,hL,hd,H with
  |y::r,_,hC,hL,hd,H =>
   rw [dX,if_neg (by decide),if_pos rfl,dAt_at (y:=y) rfl,dXs_drop,List.drop_succ_cons,List.drop_zero] at hd
   rw [cX,if_neg (by decide),if_neg (by decide),if_neg (by decide),if_neg (by decide),if_neg (by decide),if_pos rfl,cAt_at (y:=y) rfl,cXs_drop,List.drop_succ_cons,List.drop_zero] at H ⊢
   have hp:=(hC y (by simp)).p (d:=d) (by omega) H.left.left.left
   have H2:Has l i (brk 6 (levE y,cX y)++([sym 40]++cJ (cXs r)++[sym 41])):=by simpa only [List.append_assoc] using H
   have hs:isS (tkAt l (i + (brk 6 (levE y,cX y)).length)) 40=true:=by
    have:=H2.right
    rw [List.append_assoc] at this
    exact has_sym this
   have:=hp.call hs (hL r 40 41 d _ (fun z hz=>by simp [hz]) (.inl rfl) (by omega) H2.right) (p:=p) (e:=s)
   have e:i + ((brk 6 (levE y,cX y)++[sym 40]++cJ (cXs r)++[sym 41]).length:Nat)=i + (brk 6 (levE y,cX y)).length + (cJ (cXs r)).length + 2:=by simp only [List.length_append,List.length_cons,List.length_nil];push_cast;omega
   rw [e]
   exact this
 ·
  obtain rfl:=n3 (by decide)
  obtain rfl:=n1 (by decide) (by decide)
  obtain rfl:=n2 (by decide) (by decide) (by decide) (by decide)
  have e6:=hv6 (by decide) (by decide)
  refine ⟨fun _=>?_,fun e=>by rw [e6] at e;omega,fun q e=>by rw [e6] at e;omega⟩
  match args,hl,hC,hd,H with
  |[y,z],_,hC,hd,H =>
   rw [dX,if_neg (by decide),if_neg (by decide),if_pos rfl,dAt_at (y:=y) rfl,dAt_at (y:=z) rfl] at hd
   rw [cX,if_neg (by decide),if_neg (by decide),if_neg (by decide),if_neg (by decide),if_neg (by decide),if_neg (by decide),if_pos rfl,cAt_at (y:=y) rfl,cAt_at (y:=z) rfl] at H ⊢
   have hp:=(hC y (by simp)).p (d:=d) (by omega) H.left.left.left
   have H2:Has l i (brk 6 (levE y,cX y)++([sym 91]++(brk 1 (levE z,cX z)++[sym 93]))):=by simpa only [List.append_assoc] using H
   have hs:=has_sym H2.right
   have H3:Has l (i + (brk 6 (levE y,cX y)).length + 1) (brk 1 (levE z,cX z)++[sym 93]):=H2.right.tail
   have h93:=has_sym H3.right
   have hz:=(hC z (by simp)).e (k:=1) (by decide) (by decide) (d:=d + 1) (by push_cast;omega) H3.left (sto_sym h93 (by decide))
   have:=hp.idx hs (by omega) hz h93 (p:=p) (e:=s)
   have e:i + ((brk 6 (levE y,cX y)++[sym 91]++brk 1 (levE z,cX z)++[sym 93]).length:Nat)=i + (brk 6 (levE y,cX y)).length + 1 + (brk 1 (levE z,cX z)).length + 1:=by simp only [List.length_append,List.length_cons,List.length_nil];push_cast;omega
   rw [e]
   exact this
 ·
  obtain rfl:=n1 (by decide) (by decide)
  obtain rfl:=n2 (by decide) (by decide) (by decide) (by decide)
  obtain ⟨t1,t2⟩:=n4 rfl
  have e6:=hv6 (by decide) (by decide)
  refine ⟨fun _=>?_,fun e=>by rw [e6] at e;omega,fun q e=>by rw [e6] at e;omega⟩
  rw [dX,if_neg (by decide),if_neg (by decide),if_neg (by decide),if_pos rfl] at hd
  rw [cX,if_neg (by decide),if_neg (by decide),if_neg (by decide),if_neg (by decide),if_neg (by decide),if_neg (by decide),if_neg (by decide),if_pos rfl] at H ⊢
  have H2:Has l i ([(5,[110,101,119])]++(cT t++([sym 123]++cJ (cXs args)++[sym 125]))):=by simpa only [List.append_assoc] using H
  obtain ⟨a1,a2⟩:=H2.head
  have H3:Has l (i + 1) (cT t++([sym 123]++cJ (cXs args)++[sym 125])):=H2.tail
  have hs:isS (tkAt l (i + 1 + (cT t).length)) 123=true:=by
   have:=H3.right
   rw [List.append_assoc] at this
   exact has_sym this
  have:=RdP.new h t1 t2 a1 a2 H3.left rfl hs (hL args 123 125 d _ (fun z hz=>hz) (.inr rfl) (by omega) H3.right) (p:=p) (e:=s)
  have e:i + (([(5,[110,101,119])]++cT t++[sym 123]++cJ (cXs args)++[sym 125]).length:Nat)=i + 1 + (cT t).length + (cJ (cXs args)).length + 2:=by simp only [List.length_append,List.length_cons,List.length_nil];push_cast;omega
  rw [e]
  exact this
 ·
  obtain rfl:=n3 (by decide)
  obtain rfl:=n1 (by decide) (by decide)
  have e9:levE (.mk 9 p s 0 nm noTX args)=levK 9 nm:=levE_mk ..
  match args,hl,hC,hd,H with
  |[y,z],_,hC,hd,H =>
   rw [dX,if_neg (by decide),if_neg (by decide),if_neg (by decide),if_neg (by decide),if_neg (by decide),if_pos rfl,dAt_at (y:=y) rfl,dAt_at (y:=z) rfl] at hd
   rw [cX,if_neg (by decide),if_neg (by decide),if_neg (by decide),if_neg (by decide),if_neg (by decide),if_neg (by decide),if_neg (by decide),if_neg (by decide),if_neg (by decide),cAt_at (y:=y) rfl,cAt_at (y:=z) rfl] at H ⊢
   have H2:Has l i (brk (levK 9 nm) (levE y,cX y)++([(4,nm.data.toList)]++brk (levK 9 nm + 1) (levE z,cX z))):=by simpa only [List.append_assoc] using H
   obtain ⟨a1,a2⟩:=H2.right.head
   obtain ⟨q,q1,q4,hq,hq2⟩:=lvl_of a1 a2 h
   refine ⟨fun e=>by rw [e9,hq2] at e;omega,fun e=>by rw [e9,hq2] at e;omega,fun k e h1 h4 hst=>?_⟩
   obtain rfl:k=q:=by rw [e9,hq2] at e;omega
   have e:i + ((brk (levK 9 nm) (levE y,cX y)++[(4,nm.data.toList)]++brk (levK 9 nm + 1) (levE z,cX z)).length:Nat)=i + (brk (levK 9 nm) (levE y,cX y)).length + 1 + (brk (levK 9 nm + 1) (levE z,cX z)).length:=by simp only [List.length_append,List.length_cons,List.length_nil];push_cast;omega
   rw [e] at hst ⊢
   rw [hq2] at H2 hst hd hq a1 a2 ⊢
   have hb:=(hC y (by simp)).b h1 h4 (d:=d) (by omega) H2.left (sto_op a2 h hq)
   have H3:Has l (i + (brk (k:Int) (levE y,cX y)).length + 1) (brk ((k:Int) + 1) (levE z,cX z)):=H2.right.tail
   have hz:=(hC z (by simp)).e (k:=k + 1) (by omega) (by omega) (d:=d) (by push_cast;omega) (by push_cast;exact H3) (by push_cast;exact hst)
   push_cast at hz
   exact hb.op hq (text_of a2) hz
 ·
  obtain rfl:=n3 (by decide)
  obtain rfl:=n1 (by decide) (by decide)
  obtain rfl:=n2 (by decide) (by decide) (by decide) (by decide)
  have e5:levE (.mk 10 p s 0 ⟨#[]⟩ noTX args)=5:=by rw [levE_mk,levK,if_pos rfl]
  match args,hl,hC,hd,H with
  |[y],_,hC,hd,H =>
   rw [dX,if_neg (by decide),if_neg (by decide),if_neg (by decide),if_neg (by decide),if_pos rfl,dAt_at (y:=y) rfl] at hd
   rw [cX,if_neg (by decide),if_neg (by decide),if_neg (by decide),if_neg (by decide),if_neg (by decide),if_neg (by decide),if_neg (by decide),if_neg (by decide),if_pos rfl,cAt_at (y:=y) rfl] at H ⊢
   refine ⟨fun e=>by rw [e5] at e;omega,fun _ hst=>?_,fun q e=>by rw [e5] at e;omega⟩
   have hs:=has_sym H
   have H3:Has l (i + 1) (brk 5 (levE y,cX y)):=H.tail
   have e:i + (([sym 33]++brk 5 (levE y,cX y)).length:Nat)=i + 1 + (brk 5 (levE y,cX y)).length:=by simp only [List.length_append,List.length_cons,List.length_nil];push_cast;omega
   rw [e] at hst ⊢
   have hst5:Sto 5 (tkAt l (i + 1 + (brk 5 (levE y,cX y)).length)):=⟨hst,fun m h1 _ h3=>by
    have:lvlOf (tkAt l (i + 1 + (brk 5 (levE y,cX y)).length))≤4:=by
     unfold lvlOf
     repeat' split
     all_goals omega
    omega⟩
   have hy:=(hC y (by simp)).e (k:=5) (by decide) (by decide) (d:=d + 1) (by push_cast;omega) H3 hst5
   exact RdU.not hs (by omega) hy
end
end Go.Proofs.YtfcgoainglpdlaaGreatDoor
namespace Go.Proofs.YtfcgoainglpdlaaGreatDoor
open Go.RowKit
open Go.Lib hiding intOf
theorem len1 {T:List UInt8} (h:okK (1,T)):T.length≤40:=by
 have h2:=h.2
 simp only [flt] at h2
 rw [if_neg (by decide),if_neg (by decide),if_neg (by decide),if_neg (by simp),if_neg (by simp)] at h2
 split at h2
 ·cases h2
 ·next hc=>simp only [true_and] at hc;omega
theorem len2 {T:List UInt8} (h:okK (2,T)):T.length≤15:=by
 have h2:=h.2
 simp only [flt] at h2
 rw [if_neg (by decide),if_neg (by decide),if_neg (by decide)] at h2
 split at h2
 ·cases h2
 ·next hc =>
  simp only [true_and] at hc
  have hn:num T=true:=by simpa using hc
  unfold num at hn
  simp only [Bool.and_eq_true,decide_eq_true_eq] at hn
  exact hn.1
theorem len3 {T:List UInt8} (h:okK (3,T)):T.length≤202:=by
 have h2:=h.2
 simp only [flt] at h2
 rw [if_neg (by decide),if_neg (by decide),if_neg (by decide),if_neg (by simp)] at h2
 split at h2
 ·cases h2
 ·next hc =>
  simp only [true_and] at hc
  have hn:quo T=true:=by simpa using hc
  cases T with
  |nil=>exact Nat.zero_le _
  |cons c q =>
   unfold quo at hn
   simp only [Bool.and_eq_true,decide_eq_true_eq] at hn
   have:=hn.1.2
   rw [List.length_dropLast] at this
   simp only [List.length_cons]
   omega
theorem tl:∀ t:TX,wfT t→(typG (toGT t)).data.toList.length + 400≤1000 * (cT t).length
 |.leaf k p g n,h=>by
  unfold wfT at h
  unfold toGT cT
  rcases h with h | ⟨rfl,hn,hg⟩
  ·have e:(typG (.mk k p g n [])).data.toList=wordT k:=by rcases h with rfl | rfl | rfl <;> (rw [typG];rfl)
   have e2:(wordT k).length≤4:=by rcases h with rfl | rfl | rfl <;> decide
   rw [e,if_neg (by omega)]
   simp only [List.length_cons,List.length_nil]
   omega
  ·have h1:=len1 hn
   rw [if_pos rfl]
   by_cases hg0:g=⟨#[]⟩
   ·subst hg0
    have e:(typG (.mk 4 p ⟨#[]⟩ n [])).data.toList=n.data.toList:=by rw [typG];simp
    rw [if_pos rfl,e]
    simp only [List.length_cons,List.length_nil]
    omega
   ·have h2:=len1 (hg.resolve_left hg0)
    rw [if_neg hg0,typG_4b p g n [] hg0]
    simp only [List.length_append,List.length_cons,List.length_nil]
    omega
 |.list p x,h=>by
  unfold wfT at h
  unfold toGT cT
  have:=tl x h
  rw [typG_5b]
  simp only [List.length_append,List.length_cons,List.length_nil]
  omega
theorem bl {m k:Int} {s:ByteArray} {ts:List Key} (h:s.data.toList.length + 400≤1000 * ts.length):(bx m (k,s)).data.toList.length + 400≤1000 * (brk m (k,ts)).length:=by
 unfold brk
 by_cases hk:k < m
 ·rw [bx_yes hk,if_pos hk]
  simp only [List.length_append,List.length_cons,List.length_nil]
  omega
 ·rw [bx_no hk,if_neg hk]
  exact h
section
variable {args:List EX}
theorem al (h:∀ y ∈ args,(plnG (toGX y)).data.toList.length + 400≤1000 * (cX y).length) {i:Nat} (hi:i < args.length) (m:Int):(argB (plsG (toGXs args)) i m).data.toList.length + 400≤1000 * (cAt (cXs args) i m).length:=by
 unfold argB cAt
 rw [pls_at,toGXs_map,cXs_map]
 simp only [List.getElem?_map,List.getElem?_eq_getElem hi,Option.map_some,levG_toGX]
 exact bl (h _ (List.getElem_mem hi))
end
theorem rl:∀ {args:List EX},(∀ y ∈ args,(plnG (toGX y)).data.toList.length + 400≤1000 * (cX y).length)→(restB (plsG (toGXs args))).data.toList.length≤1000 * (cR (cXs args)).length
 |[],_=>by
  unfold toGXs plsG restB cXs cR
  exact Nat.le_refl _
 |y::r,h=>by
  have h1:(bx 1 (levE y,plnG (toGX y))).data.toList.length + 400≤1000 * (brk 1 (levE y,cX y)).length:=bl (h y (by simp))
  have h2:=rl (args:=r) fun z hz=>h z (by simp [hz])
  unfold toGXs plsG cXs
  rw [restB,cR,levG_toGX]
  simp only [ByteArray.data_append,Array.toList_append,List.length_append,List.length_cons,List.length_nil]
  omega
theorem jl {args:List EX} (h:∀ y ∈ args,(plnG (toGX y)).data.toList.length + 400≤1000 * (cX y).length):(joinB (plsG (toGXs args))).data.toList.length≤1000 * (cJ (cXs args)).length:=by
 cases args with
 |nil =>
  unfold toGXs plsG joinB cXs cJ
  exact Nat.le_refl _
 |cons y r =>
  have h1:(bx 1 (levE y,plnG (toGX y))).data.toList.length + 400≤1000 * (brk 1 (levE y,cX y)).length:=bl (h y (by simp))
  have h2:=rl (args:=r) fun z hz=>h z (by simp [hz])
  unfold toGXs plsG cXs
  rw [joinB,cJ,levG_toGX]
  simp only [ByteArray.data_append,Array.toList_append,List.length_append]
  omega
theorem xl:∀ (n:Nat) (x:EX),SizeOf.sizeOf x < n→wfX x→(plnG (toGX x)).data.toList.length + 400≤1000 * (cX x).length:=by
 intro n
 induction n with
 |zero=>intro x h;omega
 |succ n ih =>
 rintro ⟨k,p,s,v,nm,t,args⟩ hs h
 unfold wfX at h
 obtain ⟨ha,hv,h⟩:=h
 have hA:∀ y ∈ args,(plnG (toGX y)).data.toList.length + 400≤1000 * (cX y).length:=fun y hy=>ih y (by have:=List.sizeOf_lt_of_mem hy;simp only [EX.mk.sizeOf_spec] at hs;omega) (wfXs_mem ha hy)
 unfold toGX cX
 rcases h with ⟨rfl,h⟩ | ⟨rfl,h⟩ | ⟨rfl,h⟩ | ⟨rfl,h⟩ | ⟨rfl,hl,h⟩ | ⟨rfl,hl⟩ | ⟨rfl,hl⟩ | ⟨rfl,h⟩ | ⟨rfl,hl,h⟩ | ⟨rfl,hl⟩
 ·rw [if_pos rfl]
  have e:(plnG (.mk 1 p s nm v (toGT t) (toGXs args))).data.toList=Lib.itoa v:=by rw [plnG,if_pos rfl]
  have:=len2 h
  rw [e]
  simp only [List.length_cons,List.length_nil]
  omega
 ·have h3:=len3 h
  rw [if_neg (by decide),if_pos rfl,plnG_2]
  simp only [List.length_cons,List.length_nil]
  omega
 ·rw [if_neg (by decide),if_neg (by decide),if_pos rfl]
  rcases h with rfl | rfl
  ·have e:(plnG (.mk 3 p s nm 0 (toGT t) (toGXs args))).data.toList=[102,97,108,115,101]:=by rw [plnG];rfl
   rw [e,if_neg (by decide)]
   decide
  ·have e:(plnG (.mk 3 p s nm 1 (toGT t) (toGXs args))).data.toList=[116,114,117,101]:=by rw [plnG];rfl
   rw [e,if_pos rfl]
   decide
 ·have h3:=len1 h
  rw [if_neg (by decide),if_neg (by decide),if_neg (by decide),if_pos rfl,plnG_4]
  simp only [List.length_cons,List.length_nil]
  omega
 ·have h3:=len1 h
  have h4:=al hA (i:=0) (by omega) 6
  rw [if_neg (by decide),if_neg (by decide),if_neg (by decide),if_neg (by decide),if_pos rfl,plnG_5]
  simp only [List.length_append,List.length_cons,List.length_nil]
  omega
 ·have h4:=al hA (i:=0) (by omega) 6
  have h5:=jl (args:=args.drop 1) fun y hy=>hA y (List.mem_of_mem_drop hy)
  rw [if_neg (by decide),if_neg (by decide),if_neg (by decide),if_neg (by decide),if_neg (by decide),if_pos rfl,plnG_6,pls_drop,toGXs_drop,cXs_drop]
  simp only [List.length_append,List.length_cons,List.length_nil]
  omega
 ·have h4:=al hA (i:=0) (by omega) 6
  have h5:=al hA (i:=1) (by omega) 1
  rw [if_neg (by decide),if_neg (by decide),if_neg (by decide),if_neg (by decide),if_neg (by decide),if_neg (by decide),if_pos rfl,plnG_7]
  simp only [List.length_append,List.length_cons,List.length_nil]
  omega
 ·have h4:=tl t h
  have h5:=jl hA
  rw [if_neg (by decide),if_neg (by decide),if_neg (by decide),if_neg (by decide),if_neg (by decide),if_neg (by decide),if_neg (by decide),if_pos rfl,plnG_8]
  simp only [List.length_append,List.length_cons,List.length_nil]
  omega
 ·have h4:=al hA (i:=0) (by omega) (levK 9 nm)
  have h5:=al hA (i:=1) (by omega) (levK 9 nm + 1)
  have h6:nm.data.toList.length≤2:=by
   simp only [opsK,List.mem_cons,List.not_mem_nil,or_false] at h
   rcases h with e | e | e | e | e | e <;> (rw [e];decide)
  rw [if_neg (by decide),if_neg (by decide),if_neg (by decide),if_neg (by decide),if_neg (by decide),if_neg (by decide),if_neg (by decide),if_neg (by decide),if_neg (by decide),plnG_9]
  simp only [List.length_append,List.length_cons,List.length_nil]
  omega
 ·have h4:=al hA (i:=0) (by omega) 5
  rw [if_neg (by decide),if_neg (by decide),if_neg (by decide),if_neg (by decide),if_neg (by decide),if_neg (by decide),if_neg (by decide),if_neg (by decide),if_pos rfl,plnG_10]
  simp only [List.length_append,List.length_cons,List.length_nil]
  omega
theorem el {x:EX} (h:wfX x):(exL (toGX x)).length + 400≤1000 * (ce x).length:=by
 unfold exL
 rw [levG_toGX]
 exact bl (xl _ x (Nat.lt_succ_self _) h)
end Go.Proofs.YtfcgoainglpdlaaGreatDoor
