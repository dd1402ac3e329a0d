/- Plain: a file that a text is: its own text has right tokens, no more than the text has. Condition: the text's tokens are right. -/
import Derived.Test.YtfcgoainglpdlaaGreatDoorM48
import Derived.Test.YtfcgoainglpdlaaGreatDoorM13
import Derived.Test.YtfcgoainglpdlaaGreatDoorM38
import Derived.Test.YtfcgoainglpdlaaGreatDoorM32
namespace Go.Proofs.YtfcgoainglpdlaaGreatDoor
open Go.RowKit
open Go.Lib hiding intOf
mutual
theorem cS_pos:∀ {x:SX},1≤(cS x).length
 |.mk k p nm h x u v=>by
  rw [cS]
  repeat' split
  all_goals simp only [List.length_append,List.length_cons,List.length_nil]
  all_goals omega
end
theorem cSs_le:∀ l:List SX,l.length≤(cSs l).length
 |[]=>Nat.zero_le _
 |y::r=>by
  have h1:=cS_pos (x:=y)
  have h2:=cSs_le r
  rw [cSs,List.length_append,List.length_cons]
  omega
theorem noEX_num:numX noEX=true:=by decide +kernel
mutual
theorem wfS.num:∀ {x:SX},wfS x→(cS x).length≤9223372036854775807→numS x=true
 |.mk k p nm h x u v,hw,hl=>by
  unfold wfS at hw
  obtain ⟨⟨hu,hv,h1,h2⟩,hw⟩:=hw
  have hx:numX x=true:=by
   rcases hw with ⟨_,_,rfl⟩ | ⟨hx,_⟩
   ·exact noEX_num
   ·exact hx.num
  have hlen:numSs u=true∧numSs v=true∧u.length≤9223372036854775807∧v.length≤9223372036854775807:=by
   have l1:=cSs_le u
   have l2:=cSs_le v
   have e0:(cSs []).length=0:=by rw [cSs];rfl
   have hcu:(cSs u).length≤(cS (.mk k p nm h x u v)).length:=by
    rcases h1 with rfl | rfl | rfl
    ·rw [cS,if_neg (by decide),if_neg (by decide),if_neg (by decide),if_pos rfl]
     simp only [List.length_append,List.length_cons,List.length_nil]
     omega
    ·rw [cS,if_neg (by decide),if_neg (by decide),if_neg (by decide),if_neg (by decide),if_pos rfl]
     simp only [List.length_append,List.length_cons,List.length_nil]
     omega
    ·rw [e0];exact Nat.zero_le _
   have hcv:(cSs v).length≤(cS (.mk k p nm h x u v)).length:=by
    rcases h2 with ⟨rfl,rfl⟩ | rfl
    ·rw [cS,if_neg (by decide),if_neg (by decide),if_neg (by decide),if_pos rfl,if_pos rfl]
     simp only [List.length_append,List.length_cons,List.length_nil]
     omega
    ·rw [e0];exact Nat.zero_le _
   exact ⟨wfSs.num hu (by omega),wfSs.num hv (by omega),by omega,by omega⟩
  unfold numS
  rw [hx,hlen.1,hlen.2.1]
  simp only [Bool.true_and,Bool.and_true,decide_eq_true_eq]
  exact hlen.2.2
theorem wfSs.num:∀ {l:List SX},wfSs l→(cSs l).length≤9223372036854775807→numSs l=true
 |[],_,_=>by unfold numSs;rfl
 |y::r,h,hl=>by
  unfold wfSs at h
  rw [cSs,List.length_append] at hl
  unfold numSs
  rw [wfS.num h.1 (by omega),wfSs.num h.2 (by omega)]
  rfl
end
theorem kJ_le {α:Type} {g:α→List Key}:∀ {l:List α},l.length≤(kJ (l.map g)).length + 1
 |[]=>by simp
 |y::r=>by
  have key:∀ r:List α,r.length≤(kR (r.map g)).length:=by
   intro r
   induction r with
   |nil=>exact Nat.zero_le _
   |cons z q ih =>
    simp only [List.map_cons,kR,List.length_append,List.length_cons,List.length_nil]
    omega
  have:=key r
  simp only [List.map_cons,kJ,List.length_append,List.length_cons]
  omega
theorem flat_le {α:Type} {g:α→List Key}:∀ {l:List α},(∀ y ∈ l,1≤(g y).length)→l.length≤(l.flatMap g).length
 |[],_=>Nat.zero_le _
 |y::r,h=>by
  have h1:=h y (by simp)
  have h2:=flat_le (g:=g) (l:=r) fun z hz=>h z (by simp [hz])
  simp only [List.flatMap_cons,List.length_append,List.length_cons]
  omega
theorem flat_mem {α:Type} {g:α→List Key}:∀ {l:List α} {y:α},y ∈ l→(g y).length≤(l.flatMap g).length
 |[],_,h=>by cases h
 |x::r,y,h=>by
  simp only [List.flatMap_cons,List.length_append]
  rcases List.mem_cons.1 h with rfl | h
  ·omega
  ·have:=flat_mem (g:=g) h;omega
theorem cM_pos (x:MX):1≤(cM x).length∧x.params.length≤(cM x).length:=by
 have:=kJ_le (g:=cT) (l:=x.params)
 unfold cM
 simp only [List.length_append,List.length_cons,List.length_nil]
 omega
theorem wfD.num {x:DX} (h:wfD x) (hl:(cD x).length≤1000000):numD x=true:=by
 obtain ⟨hn,hf,hm,h⟩:=h
 unfold cD at hl
 have hml:x.methods.length≤(x.methods.flatMap cM).length:=flat_le fun y _=>(cM_pos y).1
 have hmp:∀ y ∈ x.methods,y.params.length≤(x.methods.flatMap cM).length:=fun y hy=>Nat.le_trans (cM_pos y).2 (flat_mem hy)
 unfold numD
 simp only [Bool.and_eq_true,decide_eq_true_eq,List.all_eq_true]
 rcases h with ⟨hk,h1,h2,h3⟩ | ⟨hk,h1,h2,h3⟩ | ⟨hk,h1,hrv,hb,hr,hbd⟩
 ·rw [if_pos hk] at hl
  have hfl:x.fields.length≤(x.fields.flatMap cFld).length:=flat_le fun y _=>by unfold cFld;simp
  simp only [List.length_append,List.length_cons,List.length_nil] at hl
  rw [h1,h2,h3]
  exact ⟨⟨by simp,by omega,by simp,by simp⟩,fun y hy=>(by cases hy),by unfold numSs;rfl⟩
 ·rw [if_neg (by omega),if_pos hk] at hl
  simp only [List.length_append,List.length_cons,List.length_nil] at hl
  rw [h1,h2,h3]
  exact ⟨⟨by simp,by simp,by omega,by simp⟩,fun y hy=>(by unfold numM;have:=hmp y hy;simp only [decide_eq_true_eq];omega),by unfold numSs;rfl⟩
 ·rw [if_neg (by omega),if_neg (by omega)] at hl
  have hfl:=kJ_le (g:=cP) (l:=x.fields)
  have hbl:x.bounds.length≤(if x.bounds=[] then [] else [sym 91]++kJ (x.bounds.map cP)++[sym 93]).length:=by
   by_cases hbn:x.bounds=[]
   ·rw [hbn];exact Nat.zero_le _
   ·have:=kJ_le (g:=cP) (l:=x.bounds)
    rw [if_neg hbn]
    simp only [List.length_append,List.length_cons,List.length_nil]
    omega
  have hsl:=cSs_le x.body
  simp only [List.length_append,List.length_cons,List.length_nil] at hl hbl
  have e1:(cSs x.body).length≤1000000:=by omega
  refine ⟨⟨by omega,by omega,by rw [h1];simp,by omega⟩,fun y hy=>(by rw [h1] at hy;cases hy),hbd.num (by omega)⟩
theorem wfF.num {x:FX} (h:wfF x) (hl:(cF x).length≤1000000):numF x=true:=by
 obtain ⟨hn,hi,hd⟩:=h
 unfold cF at hl
 have h1:x.imports.length≤(x.imports.flatMap cI).length:=flat_le fun y _=>by unfold cI;simp
 have hp:∀ y:DX,1≤(cD y).length:=fun y=>by
  unfold cD
  repeat' split
  all_goals simp only [List.length_append,List.length_cons,List.length_nil]
  all_goals omega
 have h2:x.decls.length≤(x.decls.flatMap cD).length:=flat_le fun y _=>hp y
 simp only [List.length_append,List.length_cons,List.length_nil] at hl
 unfold numF
 simp only [Bool.and_eq_true,decide_eq_true_eq,List.all_eq_true]
 exact ⟨by omega,fun y hy=>(hd y hy).num (by have:=flat_mem (g:=cD) hy;omega)⟩
section
variable {l:List TZ} (H:OkL l)
include H
theorem imps_ok {e:Nat} (G:Good l e):∀ {k:Nat} {i:Int} {xs:List (ByteArray × Int)} {j:Int},imps l k i=.ok xs j→i≤e→(∀ y ∈ xs,okK (1,y.1.data.toList))∧i + (xs.flatMap cI).length≤j∧j≤e
 |0,_,_,_,h,_=>by rw [imps] at h;cases h
 |k + 1,i,xs,j,h,hi=>by
  rw [imps] at h
  split at h
  ·obtain ⟨n,a,hn,h⟩:=thn_ok h
   obtain ⟨u,b,hu,h⟩:=thn_ok h
   obtain ⟨ys,c,hy,h⟩:=thn_ok h
   injection h with h h'
   subst h;subst h'
   obtain ⟨n1,en⟩:=na_ok H hn
   have hs:=sy_rng hu
   have hr:=G.sym hs.2.2.2
   have eb:=hs.1
   obtain ⟨q1,q2,q3⟩:=imps_ok G hy (by omega)
   refine ⟨fun y hy=>?_,?_,q3⟩
   ·rcases List.mem_cons.1 hy with rfl | hy
    ·exact n1
    ·exact q1 y hy
   ·rw [List.flatMap_cons,List.length_append]
    show i + (((3 + (ys.flatMap cI).length:Nat)):Int)≤_
    push_cast
    omega
  ·injection h with h h'
   subst h;subst h'
   exact ⟨fun y hy=>(by cases hy),by show i + ((0:Nat):Int)≤_;omega,hi⟩
theorem dcls_ok {e:Nat} (G:Good l e) {F fb f:Nat}:∀ {k:Nat} {i:Int} {xs:List DX} {j:Int},dcls l F fb f k i=.ok xs j→i≤e→(∀ y ∈ xs,wfD y)∧i + (xs.flatMap cD).length≤e
 |0,_,_,_,h,_=>by rw [dcls] at h;cases h
 |k + 1,i,xs,j,h,hi=>by
  rw [dcls] at h
  split at h
  ·injection h with h h'
   subst h;subst h'
   exact ⟨fun y hy=>(by cases hy),by show i + ((0:Nat):Int)≤_;omega⟩
  ·obtain ⟨x,a,hx,h⟩:=thn_ok h
   obtain ⟨ys,c,hy,h⟩:=thn_ok h
   injection h with h h'
   subst h;subst h'
   obtain ⟨p1,p2⟩:=dcl_ok H hx
   have hr:=G.sym (dcl_at hx).last
   obtain ⟨q1,q2⟩:=dcls_ok G hy (by omega)
   refine ⟨fun y hy=>?_,?_⟩
   ·rcases List.mem_cons.1 hy with rfl | hy
    ·exact p1
    ·exact q1 y hy
   ·rw [List.flatMap_cons,List.length_append]
    push_cast
    omega
theorem fil_ok {e:Nat} (G:Good l e) {F fb f:Nat} {X:FX} {j:Int} (h:fil l F fb f=.ok X j):wfF X∧(cF X).length≤e:=by
 unfold fil at h
 obtain ⟨v,a,hv,h⟩:=thn_ok h
 obtain ⟨n,b,hn,h⟩:=thn_ok h
 obtain ⟨u,c,hu,h⟩:=thn_ok h
 obtain ⟨is,d,hi,h⟩:=thn_ok h
 obtain ⟨ds,q,hd,h⟩:=thn_ok h
 injection h with h h'
 subst h
 have ev:=(wo_rng hv).1
 obtain ⟨n1,en⟩:=na_ok H hn
 have hs:=sy_rng hu
 have eu:=hs.1
 have hr:=G.sym hs.2.2.2
 obtain ⟨i1,i2,i3⟩:=imps_ok H G hi (by omega)
 obtain ⟨d1,d2⟩:=dcls_ok H G hd i3
 refine ⟨⟨n1,i1,d1⟩,?_⟩
 unfold cF
 simp only [List.length_append,List.length_cons,List.length_nil]
 omega
end
theorem okL_of {s:List UInt8} (h:bad (toks s) 0=none):OkL ((toks s).map zTok):=by
 intro i hk
 have hr:=tkAt_real hk
 obtain ⟨n,rfl⟩:∃ n:Nat,i=n:=⟨i.toNat,by omega⟩
 have hn:n < (toks s).length:=by have:=hr.2;rw [List.length_map] at this;omega
 have e:tkAt ((toks s).map zTok) (n:Nat)=zTok (toks s)[n]:=tkAt_in (by rw [List.getElem?_map,List.getElem?_eq_getElem hn];rfl)
 rw [e] at hk ⊢
 exact okK_of h _ (List.getElem_mem hn) hk
theorem file_less {s:List UInt8} {X:FX} {j:Int} (h:txtAll s=.ok X j):bad (toks s) 0=none∧wfF X∧numF X=true∧(filL (toGF X)).length≤4001000∧keys (filL (toGF X))=cF X∧(cF X).length + 1≤(toks s).length ∧
  bad (toks (filL (toGF X))) 0=none∧(toks (filL (toGF X))).length≤(toks s).length:=by
 cases hb:bad (toks s) 0 with
 |some x =>
  obtain ⟨a,c⟩:=x
  unfold txtAll at h
  rw [txt_bad hb] at h
  cases h
 |none =>
  unfold txtAll at h
  rw [txt_good hb] at h
  obtain ⟨w1,w2⟩:=fil_ok (okL_of hb) (toks_good s) h
  have hl:(toks s).length=(pcsAt 0 s).length + 1:=by unfold toks;rw [List.length_append];rfl
  have hf:=toks_few hb
  have hk:keys (filL (toGF X))=cF X:=(la_F w1).b.all
  obtain ⟨r1,r2⟩:=right_of hk (ok_F w1) (by omega)
  have h3:=fl w1
  exact ⟨rfl,w1,w1.num (by omega),by omega,hk,by omega,r1,by omega⟩
end Go.Proofs.YtfcgoainglpdlaaGreatDoor
