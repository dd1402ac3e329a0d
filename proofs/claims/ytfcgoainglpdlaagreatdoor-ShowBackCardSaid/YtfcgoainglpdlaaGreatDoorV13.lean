/- Plain: what is wrong is wrong at a token; an expression in brackets. No condition. What the program's Parse answers in memory. Condition: none. Plain: blocks may be thirty within one another. No condition. Plain: the tokens of texts in braces; the statements of two texts in one block. No conditio .. -/
import Derived.Test.YtfcgoainglpdlaaGreatDoorV12
import Derived.Test.YtfcgoainglpdlaaGreatDoorV11
import Derived.BigQuiet
set_option maxRecDepth 20000
set_option maxHeartbeats 2000000
namespace Go.Proofs.YtfcgoainglpdlaaGreatDoor
def AtTok (l:List TZ) (p c:Int):Prop:=(∃ q,p=(tkAt l q).pos)∧c≠0
theorem elm_err {l:List TZ} {i p c:Int} (h:elm l i=.err p c):AtTok l p c:=by
 unfold elm at h
 split at h
 ·split at h
  ·split at h
   ·cases h
   ·injection h with h h';exact ⟨⟨_,h.symm⟩,by rw [← h'];decide⟩
  ·cases h
 ·split at h
  ·cases h
  ·injection h with h h';exact ⟨⟨_,h.symm⟩,by rw [← h'];decide⟩
theorem prs_err {l:List TZ}:∀ {k:Nat} {i p c:Int},prs l k i=.err p c→AtTok l p c
 |0,i,p,c,h=>by
  unfold prs at h
  split at h
  ·injection h with h h';exact ⟨⟨_,h.symm⟩,by rw [← h'];decide⟩
  ·exact elm_err h
 |k + 1,i,p,c,h=>by
  unfold prs at h
  split at h
  ·split at h
   ·cases hp:prs l k (i + 2) with
    |ok y n=>rw [hp] at h;cases h
    |err q d=>rw [hp] at h;injection h with h h';subst h;subst h';exact prs_err hp
   ·injection h with h h';exact ⟨⟨_,h.symm⟩,by rw [← h'];decide⟩
  ·exact elm_err h
theorem read_err {l:List TZ}:∀ f:Nat,
  (∀ k d i p c,ex l f k d i=.err p c→AtTok l p c) ∧
  (∀ k d a x i p c,binT l f k d a x i=.err p c→AtTok l p c) ∧
  (∀ d i p c,una l f d i=.err p c→AtTok l p c) ∧
  (∀ d i p c,prim l f d i=.err p c→AtTok l p c) ∧
  (∀ d a x i p c,post l f d a x i=.err p c→AtTok l p c) ∧
  (∀ z d i p c,lst l f z d i=.err p c→AtTok l p c) ∧
  (∀ z d i p c,items l f z d i=.err p c→AtTok l p c):=by
 intro f
 induction f with
 |zero =>
  refine ⟨?_,?_,?_,?_,?_,?_,?_⟩ <;> intros <;> simp [ex,binT,una,prim,post,lst,items] at *
 |succ f ih =>
  obtain ⟨iE,iB,iU,iP,iT,iL,iI⟩:=ih
  have self:∀ {α:Type} {q:Int} {e:Int} {p c:Int},e≠0→(EO.err (α:=α) (tkAt l q).pos e)=.err p c→AtTok l p c:=fun he h=>by
   injection h with h h';exact ⟨⟨_,h.symm⟩,by rw [← h'];exact he⟩
  refine ⟨?_,?_,?_,?_,?_,?_,?_⟩
  ·intro k d i p c h
   unfold ex at h
   split at h
   ·exact iU _ _ _ _ h
   ·split at h
    ·exact iB _ _ _ _ _ _ _ h
    ·next hq=>injection h with h h';subst h;subst h';exact iE _ _ _ _ _ hq
    ·cases h
  ·intro k d a x i p c h
   unfold binT at h
   split at h
   ·split at h
    ·exact iB _ _ _ _ _ _ _ h
    ·next hq=>injection h with h h';subst h;subst h';exact iE _ _ _ _ _ hq
    ·cases h
   ·cases h
  ·intro d i p c h
   unfold una at h
   split at h
   ·split at h
    ·exact self (by decide) h
    ·split at h
     ·cases h
     ·next hq=>injection h with h h';subst h;subst h';exact iU _ _ _ _ hq
     ·cases h
   ·split at h
    ·exact iT _ _ _ _ _ _ h
    ·next hq=>injection h with h h';subst h;subst h';exact iP _ _ _ _ hq
    ·cases h
  ·intro d i p c h
   unfold prim at h
   split at h
   ·split at h
    ·cases h
    ·exact self (by decide) h
   split at h
   ·split at h
    ·cases h
    ·exact self (by decide) h
   split at h
   ·cases h
   split at h
   ·cases h
   split at h
   ·cases h
   split at h
   ·split at h
    ·exact self (by decide) h
    ·split at h
     ·split at h
      ·cases h
      ·exact self (by decide) h
     ·next hq=>injection h with h h';subst h;subst h';exact iE _ _ _ _ _ hq
     ·cases h
   split at h
   ·split at h
    ·split at h
     ·split at h
      ·cases h
      ·next hq=>injection h with h h';subst h;subst h';exact iL _ _ _ _ _ hq
      ·cases h
     ·exact self (by decide) h
    ·next hq=>injection h with h h';subst h;subst h';exact prs_err hq
   ·exact self (by decide) h
  ·intro d a x i p c h
   unfold post at h
   split at h
   ·split at h
    ·exact iT _ _ _ _ _ _ h
    ·exact self (by decide) h
   split at h
   ·split at h
    ·exact iT _ _ _ _ _ _ h
    ·next hq=>injection h with h h';subst h;subst h';exact iL _ _ _ _ _ hq
    ·cases h
   split at h
   ·split at h
    ·exact self (by decide) h
    ·split at h
     ·split at h
      ·exact iT _ _ _ _ _ _ h
      ·exact self (by decide) h
     ·next hq=>injection h with h h';subst h;subst h';exact iE _ _ _ _ _ hq
     ·cases h
   ·cases h
  ·intro z d i p c h
   unfold lst at h
   split at h
   ·exact self (by decide) h
   split at h
   ·cases h
   ·exact iI _ _ _ _ _ h
  ·intro z d i p c h
   unfold items at h
   split at h
   ·split at h
    ·split at h
     ·cases h
     ·next hq=>injection h with h h';subst h;subst h';exact iI _ _ _ _ _ hq
     ·cases h
    ·split at h
     ·cases h
     ·exact self (by decide) h
   ·next hq=>injection h with h h';subst h;subst h';exact iE _ _ _ _ _ hq
   ·cases h
end Go.Proofs.YtfcgoainglpdlaaGreatDoor
namespace Go.Proofs.YtfcgoainglpdlaaGreatDoor
inductive SX where
 |mk (kind pos:Int) (name:ByteArray) (has:Bool) (x:EX) (body other:List SX)
def noEX:EX:=.mk 0 0 0 0 ⟨#[]⟩ noTX []
def wLet:List UInt8:=[108,101,116]
def wReturn:List UInt8:=[114,101,116,117,114,110]
def wIf:List UInt8:=[105,102]
def wFor:List UInt8:=[102,111,114]
def wElse:List UInt8:=[101,108,115,101]
def isSet (l:List TZ) (i:Int):Bool:=decide ((tkAt l i).kind=1) && isS (tkAt l (i + 1)) 61
def exThen (l:List TZ) (F:Nat) (z:UInt8) (i:Int) (g:EX→SX):EO SX :=
 match ex l F 1 0 i with
 |.ok x j=>if isS (tkAt l j) z then .ok (g x) (j + 1) else .err (tkAt l j).pos 5
 |.err p c=>.err p c
 |.out=>.out
mutual
def blk (l:List TZ) (F:Nat):Nat→Nat→Int→EO (List SX)
 |0,_,_=>.out
 |f + 1,d,i=>if isS (tkAt l i) 123 then (if 30≤d then .err (tkAt l i).pos 6 else rows l F f d (i + 1)) else .err (tkAt l i).pos 5
def rows (l:List TZ) (F:Nat):Nat→Nat→Int→EO (List SX)
 |0,_,_=>.out
 |f + 1,d,i=>if isS (tkAt l i) 125 then .ok [] (i + 1) else
  match stm l F f d i with
  |.ok s j =>
   match rows l F f d j with
   |.ok r q=>.ok (s::r) q
   |.err p c=>.err p c
   |.out=>.out
  |.err p c=>.err p c
  |.out=>.out
def stm (l:List TZ) (F:Nat):Nat→Nat→Int→EO SX
 |0,_,_=>.out
 |f + 1,d,i =>
  if isW (tkAt l i) wLet then
   if (tkAt l (i + 1)).kind=1 then
    if isS (tkAt l (i + 2)) 61 then exThen l F 59 (i + 3) (fun x=>.mk 1 (tkAt l i).pos (tkAt l (i + 1)).text false x [] [])
    else .err (tkAt l (i + 2)).pos 5
   else .err (tkAt l (i + 1)).pos 5
  else if isW (tkAt l i) wReturn then
   if isS (tkAt l (i + 1)) 59 then .ok (.mk 3 (tkAt l i).pos ⟨#[]⟩ false noEX [] []) (i + 2)
   else exThen l F 59 (i + 1) (fun x=>.mk 3 (tkAt l i).pos ⟨#[]⟩ true x [] [])
  else if isW (tkAt l i) wIf then
   match ex l F 1 0 (i + 1) with
   |.ok x j =>
    match blk l F f (d + 1) j with
    |.ok b q=>if isW (tkAt l q) wElse then
      match blk l F f (d + 1) (q + 1) with
      |.ok c r=>.ok (.mk 4 (tkAt l i).pos ⟨#[]⟩ true x b c) r
      |.err p c=>.err p c
      |.out=>.out
     else .ok (.mk 4 (tkAt l i).pos ⟨#[]⟩ false x b []) q
    |.err p c=>.err p c
    |.out=>.out
   |.err p c=>.err p c
   |.out=>.out
  else if isW (tkAt l i) wFor then
   match ex l F 1 0 (i + 1) with
   |.ok x j =>
    match blk l F f (d + 1) j with
    |.ok b q=>.ok (.mk 5 (tkAt l i).pos ⟨#[]⟩ false x b []) q
    |.err p c=>.err p c
    |.out=>.out
   |.err p c=>.err p c
   |.out=>.out
  else if isSet l i then exThen l F 59 (i + 2) (fun x=>.mk 2 (tkAt l i).pos (tkAt l i).text false x [] [])
  else exThen l F 59 i (fun x=>.mk 6 (tkAt l i).pos ⟨#[]⟩ false x [] [])
end
theorem exThen_rng {l:List TZ} {F:Nat} {z:UInt8} {i:Int} {g:EX→SX} {s:SX} {j:Int} (h:exThen l F z i g=.ok s j):0≤i∧i + 1 < j∧j≤l.length:=by
 unfold exThen at h
 split at h
 ·next x q hq =>
  have h1:=(read_rng F).1 _ _ _ _ _ (by decide) hq
  split at h
  ·next hc =>
   have hr:=isS_real hc
   injection h with h h';omega
  ·cases h
 ·cases h
 ·cases h
theorem stm_rng {l:List TZ} {F:Nat}:∀ f:Nat,
  (∀ d i x j,blk l F f d i=.ok x j→0≤i∧i + 1 < j∧j≤l.length) ∧
  (∀ d i x j,rows l F f d i=.ok x j→0≤i∧i < j∧j≤l.length) ∧
  (∀ d i x j,stm l F f d i=.ok x j→0≤i∧i < j∧j≤l.length):=by
 intro f
 induction f with
 |zero =>
  refine ⟨?_,?_,?_⟩ <;> intros <;> simp [blk,rows,stm] at *
 |succ f ih =>
  obtain ⟨iB,iR,iS⟩:=ih
  refine ⟨?_,?_,?_⟩
  ·intro d i x j h
   unfold blk at h
   split at h
   ·next hn =>
    have hr:=isS_real hn
    split at h
    ·cases h
    ·have:=iR _ _ _ _ h;omega
   ·cases h
  ·intro d i x j h
   unfold rows at h
   split at h
   ·next hn=>have hr:=isS_real hn;injection h with h h';omega
   ·split at h
    ·next s q hq =>
     have h1:=iS _ _ _ _ hq
     split at h
     ·next r p hr =>
      have h2:=iR _ _ _ _ hr
      injection h with h h';omega
     ·cases h
     ·cases h
    ·cases h
    ·cases h
  ·intro d i x j h
   unfold stm at h
   split at h
   ·next hn =>
    have hr:=isW_real hn
    split at h
    ·split at h
     ·have:=exThen_rng h;omega
     ·cases h
    ·cases h
   split at h
   ·next hn =>
    have hr:=isW_real hn
    split at h
    ·next hs=>have hr2:=isS_real hs;injection h with h h';omega
    ·have:=exThen_rng h;omega
   split at h
   ·next hn =>
    have hr:=isW_real hn
    split at h
    ·next y q hq =>
     have h1:=(read_rng F).1 _ _ _ _ _ (by decide) hq
     split at h
     ·next b p hp =>
      have h2:=iB _ _ _ _ hp
      split at h
      ·split at h
       ·next c r hc=>have h3:=iB _ _ _ _ hc;injection h with h h';omega
       ·cases h
       ·cases h
      ·injection h with h h';omega
     ·cases h
     ·cases h
    ·cases h
    ·cases h
   split at h
   ·next hn =>
    have hr:=isW_real hn
    split at h
    ·next y q hq =>
     have h1:=(read_rng F).1 _ _ _ _ _ (by decide) hq
     split at h
     ·next b p hp=>have h2:=iB _ _ _ _ hp;injection h with h h';omega
     ·cases h
     ·cases h
    ·cases h
    ·cases h
   split at h
   ·next hn =>
    unfold isSet at hn
    simp only [Bool.and_eq_true,decide_eq_true_eq] at hn
    have hr:=tkAt_real (l:=l) (i:=i) (by rw [hn.1];decide)
    have:=exThen_rng h;omega
   ·have:=exThen_rng h;omega
theorem exThen_some {l:List TZ} {F:Nat} (hF:fuel l≤F) {z:UInt8} {i:Int} (h0:0≤i) {g:EX→SX}:exThen l F z i g≠.out:=by
 unfold exThen
 split
 ·split <;> (intro h;cases h)
 ·intro h;cases h
 ·next hq=>exact ((enough F).1 1 0 i (by decide) (by decide) (by unfold fuel left at *;omega) hq).elim
theorem stm_some {l:List TZ} {F:Nat} (hF:fuel l≤F):∀ f:Nat,
  (∀ d (i:Int),0≤i→4 * left l i + 4≤f→blk l F f d i≠.out) ∧
  (∀ d (i:Int),0≤i→4 * left l i + 3≤f→rows l F f d i≠.out) ∧
  (∀ d (i:Int),0≤i→4 * left l i + 2≤f→stm l F f d i≠.out):=by
 intro f
 induction f with
 |zero =>
  refine ⟨?_,?_,?_⟩ <;> intros <;> omega
 |succ f ih =>
  obtain ⟨iB,iR,iS⟩:=ih
  obtain ⟨rB,rR,rS⟩:=stm_rng (l:=l) (F:=F) f
  refine ⟨?_,?_,?_⟩
  ·intro d i h0 hf
   unfold blk
   split
   ·next hn =>
    have hr:=isS_real hn
    split
    ·intro h;cases h
    ·exact iR _ _ (by omega) (by unfold left at *;omega)
   ·intro h;cases h
  ·intro d i h0 hf
   unfold rows
   split
   ·intro h;cases h
   ·split
    ·next s q hq =>
     have h1:=rS _ _ _ _ hq
     split
     ·intro h;cases h
     ·intro h;cases h
     ·next hr=>exact (iR _ _ (by omega) (by unfold left at *;omega) hr).elim
    ·intro h;cases h
    ·next hq=>exact (iS _ _ h0 (by omega) hq).elim
  ·intro d i h0 hf
   unfold stm
   split
   ·split
    ·split
     ·exact exThen_some hF (by omega)
     ·intro h;cases h
    ·intro h;cases h
   split
   ·split
    ·intro h;cases h
    ·exact exThen_some hF (by omega)
   split
   ·next hn =>
    have hr:=isW_real hn
    split
    ·next y q hq =>
     have h1:=(read_rng F).1 _ _ _ _ _ (by decide) hq
     split
     ·next b p hp =>
      have h2:=rB _ _ _ _ hp
      split
      ·split
       ·intro h;cases h
       ·intro h;cases h
       ·next hc=>exact (iB _ _ (by omega) (by unfold left at *;omega) hc).elim
      ·intro h;cases h
     ·intro h;cases h
     ·next hc=>exact (iB _ _ (by omega) (by unfold left at *;omega) hc).elim
    ·intro h;cases h
    ·next hq=>exact ((enough F).1 1 0 _ (by decide) (by decide) (by unfold fuel left at *;omega) hq).elim
   split
   ·next hn =>
    have hr:=isW_real hn
    split
    ·next y q hq =>
     have h1:=(read_rng F).1 _ _ _ _ _ (by decide) hq
     split
     ·intro h;cases h
     ·intro h;cases h
     ·next hc=>exact (iB _ _ (by omega) (by unfold left at *;omega) hc).elim
    ·intro h;cases h
    ·next hq=>exact ((enough F).1 1 0 _ (by decide) (by decide) (by unfold fuel left at *;omega) hq).elim
   split
   ·exact exThen_some hF (by omega)
   ·exact exThen_some hF h0
theorem exThen_err {l:List TZ} {F:Nat} {z:UInt8} {i:Int} {g:EX→SX} {p c:Int} (h:exThen l F z i g=.err p c):AtTok l p c:=by
 unfold exThen at h
 split at h
 ·split at h
  ·cases h
  ·injection h with h h';exact ⟨⟨_,h.symm⟩,by rw [← h'];decide⟩
 ·next hq=>injection h with h h';subst h;subst h';exact (read_err F).1 _ _ _ _ _ hq
 ·cases h
theorem stm_err {l:List TZ} {F:Nat}:∀ f:Nat,
  (∀ d i p c,blk l F f d i=.err p c→AtTok l p c) ∧
  (∀ d i p c,rows l F f d i=.err p c→AtTok l p c) ∧
  (∀ d i p c,stm l F f d i=.err p c→AtTok l p c):=by
 intro f
 induction f with
 |zero =>
  refine ⟨?_,?_,?_⟩ <;> intros <;> simp [blk,rows,stm] at *
 |succ f ih =>
  obtain ⟨iB,iR,iS⟩:=ih
  have self:∀ {α:Type} {q:Int} {e:Int} {p c:Int},e≠0→(EO.err (α:=α) (tkAt l q).pos e)=.err p c→AtTok l p c:=fun he h=>by
   injection h with h h';exact ⟨⟨_,h.symm⟩,by rw [← h'];exact he⟩
  refine ⟨?_,?_,?_⟩
  ·intro d i p c h
   unfold blk at h
   split at h
   ·split at h
    ·exact self (by decide) h
    ·exact iR _ _ _ _ h
   ·exact self (by decide) h
  ·intro d i p c h
   unfold rows at h
   split at h
   ·cases h
   ·split at h
    ·split at h
     ·cases h
     ·next hr=>injection h with h h';subst h;subst h';exact iR _ _ _ _ hr
     ·cases h
    ·next hr=>injection h with h h';subst h;subst h';exact iS _ _ _ _ hr
    ·cases h
  ·intro d i p c h
   unfold stm at h
   split at h
   ·split at h
    ·split at h
     ·exact exThen_err h
     ·exact self (by decide) h
    ·exact self (by decide) h
   split at h
   ·split at h
    ·cases h
    ·exact exThen_err h
   split at h
   ·split at h
    ·split at h
     ·split at h
      ·split at h
       ·cases h
       ·next hr=>injection h with h h';subst h;subst h';exact iB _ _ _ _ hr
       ·cases h
      ·cases h
     ·next hr=>injection h with h h';subst h;subst h';exact iB _ _ _ _ hr
     ·cases h
    ·next hq=>injection h with h h';subst h;subst h';exact (read_err F).1 _ _ _ _ _ hq
    ·cases h
   split at h
   ·split at h
    ·split at h
     ·cases h
     ·next hr=>injection h with h h';subst h;subst h';exact iB _ _ _ _ hr
     ·cases h
    ·next hq=>injection h with h h';subst h;subst h';exact (read_err F).1 _ _ _ _ _ hq
    ·cases h
   split at h
   ·exact exThen_err h
   ·exact exThen_err h
end Go.Proofs.YtfcgoainglpdlaaGreatDoor
namespace Go.Proofs.YtfcgoainglpdlaaGreatDoor
open Go.RowKit
open Go.Lib hiding intOf
mutual
def IsSP (P:Nat→Prop) (w:World):SX→Value→Prop
 |.mk k p nm h x u v,V=>∃ (e0 e1 e2 e3 e4 e5 e6 e7 e8 e9 e10:Value) (o:Option Addr) (c:Nat) (o':Option Addr) (c':Nat),
   V=.agg #[.int .i64 k,.int .i64 p,.string nm,.bool h,e0,e1,e2,e3,e4,e5,e6,e7,e8,e9,e10,.slice o u.length c,.slice o' v.length c'] ∧
   IsEP P w x (.agg #[e0,e1,e2,e3,e4,e5,e6,e7,e8,e9,e10])∧IsSPs P w o 0 u∧IsSPs P w o' 0 v
def IsSPs (P:Nat→Prop) (w:World) (o:Option Addr):Nat→List SX→Prop
 |_,[]=>True
 |i,y::r=>(∃ (b:Nat) (c0 c1 c2 c3 c4 c5 c6 c7 c8 c9 c10 c11 c12 c13 c14 c15 c16:Value),o=some ⟨b,0,none⟩∧P b ∧
   w.cell? ⟨b,i * 17,none⟩=some c0∧w.cell? ⟨b,i * 17 + 1,none⟩=some c1∧w.cell? ⟨b,i * 17 + 2,none⟩=some c2∧w.cell? ⟨b,i * 17 + 3,none⟩=some c3∧w.cell? ⟨b,i * 17 + 4,none⟩=some c4∧w.cell? ⟨b,i * 17 + 5,none⟩=some c5 ∧
   w.cell? ⟨b,i * 17 + 6,none⟩=some c6∧w.cell? ⟨b,i * 17 + 7,none⟩=some c7∧w.cell? ⟨b,i * 17 + 8,none⟩=some c8∧w.cell? ⟨b,i * 17 + 9,none⟩=some c9∧w.cell? ⟨b,i * 17 + 10,none⟩=some c10∧w.cell? ⟨b,i * 17 + 11,none⟩=some c11 ∧
   w.cell? ⟨b,i * 17 + 12,none⟩=some c12∧w.cell? ⟨b,i * 17 + 13,none⟩=some c13∧w.cell? ⟨b,i * 17 + 14,none⟩=some c14∧w.cell? ⟨b,i * 17 + 15,none⟩=some c15∧w.cell? ⟨b,i * 17 + 16,none⟩=some c16 ∧
   IsSP P w y (.agg #[c0,c1,c2,c3,c4,c5,c6,c7,c8,c9,c10,c11,c12,c13,c14,c15,c16]))∧IsSPs P w o (i + 1) r
end
mutual
theorem IsSP.keep {P P':Nat→Prop} {w w':World} (hP:∀ (b i:Nat) (u:Value),P b→w.cell? ⟨b,i,none⟩=some u→P' b) (hk:∀ (b i:Nat) (u:Value),P b→w.cell? ⟨b,i,none⟩=some u→w'.cell? ⟨b,i,none⟩=some u):∀ {x:SX} {v:Value},IsSP P w x v→IsSP P' w' x v
 |.mk ..,_,h=>by
  unfold IsSP at h ⊢
  obtain ⟨e0,e1,e2,e3,e4,e5,e6,e7,e8,e9,e10,o,c,o',c',hv,hx,hu,hw⟩:=h
  exact ⟨e0,e1,e2,e3,e4,e5,e6,e7,e8,e9,e10,o,c,o',c',hv,hx.keep hP hk,IsSPs.keep hP hk hu,IsSPs.keep hP hk hw⟩
theorem IsSPs.keep {P P':Nat→Prop} {w w':World} (hP:∀ (b i:Nat) (u:Value),P b→w.cell? ⟨b,i,none⟩=some u→P' b) (hk:∀ (b i:Nat) (u:Value),P b→w.cell? ⟨b,i,none⟩=some u→w'.cell? ⟨b,i,none⟩=some u):∀ {i:Nat} {xs:List SX} {o:Option Addr},IsSPs P w o i xs→IsSPs P' w' o i xs
 |_,[],_,_=>by unfold IsSPs;trivial
 |i,y::r,_,h=>by
  unfold IsSPs at h ⊢
  obtain ⟨⟨b,c0,c1,c2,c3,c4,c5,c6,c7,c8,c9,c10,c11,c12,c13,c14,c15,c16,ho,hb,h0,h1,h2,h3,h4,h5,h6,h7,h8,h9,h10,h11,h12,h13,h14,h15,h16,hy⟩,hr⟩:=h
  exact ⟨⟨b,c0,c1,c2,c3,c4,c5,c6,c7,c8,c9,c10,c11,c12,c13,c14,c15,c16,ho,hP _ _ _ hb h0,hk _ _ _ hb h0,hk _ _ _ hb h1,hk _ _ _ hb h2,hk _ _ _ hb h3,hk _ _ _ hb h4,hk _ _ _ hb h5,hk _ _ _ hb h6,hk _ _ _ hb h7,hk _ _ _ hb h8,hk _ _ _ hb h9,hk _ _ _ hb h10,hk _ _ _ hb h11,hk _ _ _ hb h12,hk _ _ _ hb h13,hk _ _ _ hb h14,hk _ _ _ hb h15,hk _ _ _ hb h16,IsSP.keep hP hk hy⟩,IsSPs.keep hP hk hr⟩
end
theorem IsSP.below {P:Nat→Prop} {w w':World} {x:SX} {v:Value} (h:IsSP P w x v) (hb:Below w.heap.size w w'):IsSP P w' x v :=
 h.keep (fun _ _ _ h _=>h) fun _ _ _ _ hc=>(hb.cell (World.block_lt_of_cell? _ _ hc)).trans hc
theorem IsSPs.below {P:Nat→Prop} {w w':World} {o:Option Addr} {i:Nat} {xs:List SX} (h:IsSPs P w o i xs) (hb:Below w.heap.size w w'):IsSPs P w' o i xs :=
 h.keep (fun _ _ _ h _=>h) fun _ _ _ _ hc=>(hb.cell (World.block_lt_of_cell? _ _ hc)).trans hc
end Go.Proofs.YtfcgoainglpdlaaGreatDoor
namespace Go.Proofs.YtfcgoainglpdlaaGreatDoor
section
variable {l m:List TZ} {s b a e:Int}
end
end Go.Proofs.YtfcgoainglpdlaaGreatDoor
namespace Go.Proofs.YtfcgoainglpdlaaGreatDoor
section
variable {l m:List TZ} {s b a e:Int}
end
end Go.Proofs.YtfcgoainglpdlaaGreatDoor
namespace Go.Proofs.YtfcgoainglpdlaaGreatDoor
section
variable {s t:List UInt8}
end
end Go.Proofs.YtfcgoainglpdlaaGreatDoor
namespace Go.Proofs.YtfcgoainglpdlaaGreatDoor
def fuelB (l:List TZ):Nat:=4 * l.length + 8
end Go.Proofs.YtfcgoainglpdlaaGreatDoor
namespace Go.Proofs.YtfcgoainglpdlaaGreatDoor
open Go.RowKit
open Go.Lib hiding intOf
def SParRes (B:Nat) (W:World) (r:EO (List SX)) (v:Value):Prop :=
 match r with
 |.ok X j=>∃ (o:Option Addr) (c:Nat),v=.tuple #[.slice o X.length c,.int .i64 j,.agg #[.int .i64 0,.int .i64 0]]∧IsSPs (fun q=>B≤q) W o 0 X
 |.err p q=>∃ (o:Option Addr) (c:Nat),v=.tuple #[.slice o 0 c,.int .i64 0,.agg #[.int .i64 p,.int .i64 q]]
 |.out=>True
theorem SParRes.parts {B:Nat} {W:World} {r:EO (List SX)} {v:Value} (h:SParRes B W r v) (hr:r≠.out) :
  ∃ (o:Option Addr) (c n:Nat) (j p q:Int),v=.tuple #[.slice o n c,.int .i64 j,.agg #[.int .i64 p,.int .i64 q]] ∧
   ((∃ X,r=.ok X j∧n=X.length∧p=0∧q=0∧IsSPs (fun q=>B≤q) W o 0 X)∨(r=.err p q∧n=0∧j=0)):=by
 cases r with
 |out=>exact (hr rfl).elim
 |ok X j=>obtain ⟨o,c,rfl,hx⟩:=h;exact ⟨o,c,_,_,_,_,rfl,.inl ⟨X,rfl,rfl,rfl,rfl,hx⟩⟩
 |err p q=>obtain ⟨o,c,rfl⟩:=h;exact ⟨o,c,_,_,_,_,rfl,.inr ⟨rfl,rfl,rfl⟩⟩
end Go.Proofs.YtfcgoainglpdlaaGreatDoor
namespace Go.Proofs.YtfcgoainglpdlaaGreatDoor
open Go.RowKit
open Go.Lib hiding intOf
def thrown (p q:Int):List PanicEntry:=[{ v:=.iface 84 (.agg #[.int .i64 p,.int .i64 q]),recovered:=false }]
theorem throw_any (k p s:Int) (x:ByteArray) (q:Int) (w:World):Calls Tryz.prog 124 #[.agg #[.int .i64 k,.int .i64 p,.int .i64 s,.string x],.int .i64 q] w fun e w'=>e=.panicked (thrown p q)∧Below w.heap.size w w':=by
 go_enter Tryz.func124,Tryz.ntmps124
 go_wp2
 exact ⟨rfl,rfl,(Below.refl _ _).alloc (Nat.le_refl _) _⟩
theorem symbol_v (k p s:Int) (x:ByteArray) (y:ByteArray) (w:World):Calls Tryz.prog 118 #[.agg #[.int .i64 k,.int .i64 p,.int .i64 s,.string x],.string y] w fun e w'=>e=.returned (.bool (isKT ⟨k,p,s,x⟩ 4 y))∧Below w.heap.size w w':=by
 unfold isKT
 by_cases hk:k=4
 ·have d:decide (k=4)=true:=by simpa using hk
  have e:(k == 4)=true:=by simpa using hk
  rw [d]
  go_enter Tryz.func118,Tryz.ntmps118
  go_wp2
  go_ret
  exact ⟨rfl,(Below.refl _ _).alloc (Nat.le_refl _) _⟩
 ·have d:decide (k=4)=false:=by simpa using hk
  have e:(k == 4)=false:=by simpa using hk
  rw [d]
  go_enter Tryz.func118,Tryz.ntmps118
  go_wp2
  go_ret
  exact ⟨rfl,(Below.refl _ _).alloc (Nat.le_refl _) _⟩
theorem word_v (k p s:Int) (x:ByteArray) (y:ByteArray) (w:World):Calls Tryz.prog 142 #[.agg #[.int .i64 k,.int .i64 p,.int .i64 s,.string x],.string y] w fun e w'=>e=.returned (.bool (isKT ⟨k,p,s,x⟩ 5 y))∧Below w.heap.size w w':=by
 unfold isKT
 by_cases hk:k=5
 ·have d:decide (k=5)=true:=by simpa using hk
  have e:(k == 5)=true:=by simpa using hk
  rw [d]
  go_enter Tryz.func142,Tryz.ntmps142
  go_wp2
  go_ret
  exact ⟨rfl,(Below.refl _ _).alloc (Nat.le_refl _) _⟩
 ·have d:decide (k=5)=false:=by simpa using hk
  have e:(k == 5)=false:=by simpa using hk
  rw [d]
  go_enter Tryz.func142,Tryz.ntmps142
  go_wp2
  go_ret
  exact ⟨rfl,(Below.refl _ _).alloc (Nat.le_refl _) _⟩
section
variable {b c m:Nat} {o:Option Addr} {l:List TZ} {i d:Int} {w:World}
theorem peek_any (S:PS b o c m l i d w) (hn:l.length≤9223372036854775807) :
  Calls Tryz.prog 68 #[.pointer (some ⟨b,0,none⟩)] w fun e w'=>e=.returned (.agg #[.int .i64 (tkAt l i).kind,.int .i64 (tkAt l i).pos,.int .i64 (tkAt l i).stop,.string (tkAt l i).text])∧Below w.heap.size w w':=by
 obtain ⟨p0,p1,p2,p3,pf⟩:=S.cells
 have hbl:=S.lt
 have H:=Lib.hid S.toks
 clear S
 by_cases hi:0≤i∧i < l.length
 ·obtain ⟨h0,h1⟩:=hi
  obtain ⟨k,rfl⟩:∃ k:Nat,i=k:=⟨i.toNat,by omega⟩
  have hk:k < l.length:=by omega
  obtain ⟨a,rfl,c0,c1,c2,c3⟩:=H.out.tokM (List.getElem?_eq_getElem hk)
  have ht:=Lib.hid (tkAt_in (List.getElem?_eq_getElem hk))
  have g0:decide ((0:Int)≤(k:Nat))=true:=by simp
  generalize l[k]=t at *
  rw [ht.out]
  go_enter Tryz.func68,Tryz.ntmps68
  go_wp2_with fail
  go_quiet (fail)
  go_wp2_with fail
  go_region
  all_goals
   go_wp2
   refine bodyPost_ret (v:=.agg #[.int .i64 t.kind,.int .i64 t.pos,.int .i64 t.stop,.string t.text]) (by simp [results,Tryz.results68,go_sem]) rfl ⟨rfl,?_⟩
   exact set4_below (below_drewN ((Below.refl _ _).alloc (Nat.le_refl _) _) _) (Nat.le_refl _) _ _ _ _
 ·have ht:=tkAt_out (l:=l) (i:=i) (by omega)
  rw [ht]
  clear ht
  by_cases hl:l.length=0
  ·have he:endOf l=0:=by rw [List.length_eq_zero_iff.1 hl];rfl
   rw [he]
   clear he
   have hc:i < 0∨0≤i:=by omega
   rcases hc with hc | hc
   ·have g0:decide ((0:Int)≤i)=false:=by simp;omega
    go_enter Tryz.func68,Tryz.ntmps68
    go_wp2_with fail
    go_quiet (fail)
    go_wp2
    refine bodyPost_ret (v:=.agg #[.int .i64 0,.int .i64 0,.int .i64 0,.string ⟨#[]⟩]) (by simp [results,Tryz.results68,go_sem]) rfl ⟨rfl,?_⟩
    exact set4_below (below_drewN ((Below.refl _ _).alloc (Nat.le_refl _) _) _) (Nat.le_refl _) _ _ _ _
   ·have g0:decide ((0:Int)≤i)=true:=by simp;omega
    have g1:¬ i < ((l.length:Nat):Int):=by omega
    go_enter Tryz.func68,Tryz.ntmps68
    go_wp2_with fail
    go_quiet (fail)
    go_wp2
    refine bodyPost_ret (v:=.agg #[.int .i64 0,.int .i64 0,.int .i64 0,.string ⟨#[]⟩]) (by simp [results,Tryz.results68,go_sem]) rfl ⟨rfl,?_⟩
    exact set4_below (below_drewN ((Below.refl _ _).alloc (Nat.le_refl _) _) _) (Nat.le_refl _) _ _ _ _
  ·obtain ⟨k,hk⟩:∃ k,l.length=k + 1:=⟨l.length - 1,by omega⟩
   have hkl:k < l.length:=by omega
   obtain ⟨a,rfl,c0,c1,c2,c3⟩:=H.out.tokM (List.getElem?_eq_getElem hkl)
   have he:=Lib.hid (endOf_last (List.getElem?_eq_getElem hkl) hk)
   generalize l[k]=t at *
   rw [he.out]
   have HK:=Lib.hid hk
   clear he c0 c1 c3
   rw [hk] at hi hn p0
   clear hk hkl
   have hk1:((k:Nat):Int) + 1 - 1=k:=by omega
   have hk2:(0:Int) < ((k:Nat):Int) + 1:=by omega
   have hc:i < 0∨(0≤i∧((k:Nat):Int) + 1≤i):=by omega
   rcases hc with hc | ⟨hc,hc2⟩
   ·have g0:decide ((0:Int)≤i)=false:=by simp;omega
    go_enter Tryz.func68,Tryz.ntmps68
    go_wp2_with fail
    go_quiet (fail)
    go_wp2_with fail
    go_quiet (fail)
    go_wp2
    refine bodyPost_ret (v:=.agg #[.int .i64 0,.int .i64 t.stop,.int .i64 t.stop,.string ⟨#[]⟩]) (by simp [results,Tryz.results68,go_sem]) rfl ⟨rfl,?_⟩
    exact set4_below (below_drewN ((Below.refl _ _).alloc (Nat.le_refl _) _) _) (Nat.le_refl _) _ _ _ _
   ·have g0:decide ((0:Int)≤i)=true:=by simp;omega
    have g1:¬ i < ((k:Nat):Int) + 1:=by omega
    go_enter Tryz.func68,Tryz.ntmps68
    go_wp2_with fail
    go_quiet (fail)
    go_wp2_with fail
    go_quiet (fail)
    go_wp2
    refine bodyPost_ret (v:=.agg #[.int .i64 0,.int .i64 t.stop,.int .i64 t.stop,.string ⟨#[]⟩]) (by simp [results,Tryz.results68,go_sem]) rfl ⟨rfl,?_⟩
    exact set4_below (below_drewN ((Below.refl _ _).alloc (Nat.le_refl _) _) _) (Nat.le_refl _) _ _ _ _
theorem sees_any (S:PS b o c m l i d w) (hn:l.length≤9223372036854775807) (y:ByteArray) :
  Calls Tryz.prog 101 #[.pointer (some ⟨b,0,none⟩),.string y] w fun e w'=>e=.returned (.bool (isKT (tkAt l i) 4 y))∧Below w.heap.size w w':=by
 have H:=Lib.hid S
 clear S
 have HP:=Lib.hid (peek_any H.out hn)
 have HS:=Lib.hid (fun (W:World) (t:TZ) (y:ByteArray)=>symbol_v t.kind t.pos t.stop t.text y W)
 go_enter Tryz.func101,Tryz.ntmps101
 go_wp2_with fail
 refine HP.out.mono ?_
 rintro e w1 ⟨rfl,hB⟩
 have B1:=Lib.hid hB
 clear hB
 go_wp2_with fail
 refine (HS.out _ (tkAt l i) _).mono ?_
 rintro e w2 ⟨rfl,hB⟩
 have B2:=Lib.hid (B1.out.trans (hB.mono B1.out.size))
 clear hB
 go_wp2
 go_ret
 exact ⟨rfl,B2.out⟩
theorem operator_any (S:PS b o c m l i d w) (hn:l.length≤9223372036854775807) (hf:Fits l) :
  Calls Tryz.prog 69 #[.pointer (some ⟨b,0,none⟩)] w fun e w'=>e=.returned (.int .i64 (lvlOf (tkAt l i):Nat))∧Below w.heap.size w w':=by
 have H:=Lib.hid S
 clear S
 have HP:=Lib.hid (peek_any H.out hn)
 have HF:=Lib.hid (hf.tkAt i)
 clear hf
 by_cases hk:(tkAt l i).kind=4
 ·have e:((tkAt l i).kind != 4)=false:=by simpa using hk
  rw [lvlOf_sym hk]
  clear hk
  go_enter Tryz.func69,Tryz.ntmps69
  go_wp2_with fail
  refine HP.out.mono ?_
  rintro e w1 ⟨rfl,hB⟩
  have S1:=Lib.hid (H.out.step hB)
  obtain ⟨p0,p1,p2,p3,pf⟩:=S1.out.cells
  have hbl:=S1.out.lt
  have B1:=Lib.hid hB
  have hL:LvlsAt ((w1.alloc (.cells #[.int .i64 (tkAt l i).kind,.int .i64 (tkAt l i).pos,.int .i64 (tkAt l i).stop,.string (tkAt l i).text] 81)).drew) m:=(World.ownsMap.alloc S1.out.lvls _)
  have hlk:=lookup_lvl hL (tkAt l i).text (by have:=HF.out;omega)
  clear hB hL
  go_wp2_with fail
  go_region
  go_wp2
  go_ret
  exact ⟨rfl,(B1.out.alloc B1.out.size _).drew⟩
 ·have e:((tkAt l i).kind != 4)=true:=by simpa using hk
  have e0:lvlOf (tkAt l i)=0:=by unfold lvlOf;rw [if_pos hk]
  rw [e0]
  clear hk e0
  go_enter Tryz.func69,Tryz.ntmps69
  go_wp2_with fail
  refine HP.out.mono ?_
  rintro e w1 ⟨rfl,hB⟩
  have B1:=Lib.hid hB
  clear hB
  go_wp2
  go_ret
  exact ⟨rfl,B1.out.alloc B1.out.size _⟩
theorem end_any (S:PS b o c m l i d w) (hn:l.length≤9223372036854775807) (hi:1≤i∧i≤l.length) :
  Calls Tryz.prog 71 #[.pointer (some ⟨b,0,none⟩)] w fun e w'=>e=.returned (.int .i64 (tkAt l (i - 1)).stop)∧Below w.heap.size w w':=by
 obtain ⟨p0,p1,p2,p3,pf⟩:=S.cells
 have hbl:=S.lt
 have H:=Lib.hid S.toks
 clear S
 obtain ⟨h0,h1⟩:=hi
 obtain ⟨k,rfl⟩:∃ k:Nat,i=(k:Nat) + 1:=⟨(i - 1).toNat,by omega⟩
 have hk:k < l.length:=by omega
 have hk1:((k:Nat):Int) + 1 - 1=k:=by omega
 have hk2:((k:Nat):Int) < (l.length:Nat):=by omega
 obtain ⟨a,rfl,c0,c1,c2,c3⟩:=H.out.tok (List.getElem?_eq_getElem hk)
 have ht:=Lib.hid (tkAt_in (List.getElem?_eq_getElem hk))
 rw [hk1]
 generalize l[k]=t at *
 rw [ht.out]
 clear h0 h1
 go_enter Tryz.func71,Tryz.ntmps71
 go_wp2_with fail
 go_region
 go_wp2
 go_ret
 exact ⟨rfl,(Below.refl _ _).drew⟩
theorem take_any (S:PS b o c m l i d w) (hn:l.length≤4611686018427387904) (hi:0≤i∧i < l.length) :
  Calls Tryz.prog 70 #[.pointer (some ⟨b,0,none⟩)] w fun e w'=>e=.returned (.agg #[.int .i64 (tkAt l i).kind,.int .i64 (tkAt l i).pos,.int .i64 (tkAt l i).stop,.string (tkAt l i).text])∧PS b o c m l (i + 1) d w'∧Kp b w w':=by
 have hbl:=S.lt
 obtain ⟨p0,p1,p2,p3,pf⟩:=S.cells
 have H:=Lib.hid S
 clear S
 obtain ⟨h0,h1⟩:=hi
 obtain ⟨k,rfl⟩:∃ k:Nat,i=k:=⟨i.toNat,by omega⟩
 have hk:k < l.length:=by omega
 obtain ⟨a,rfl,c0,c1,c2,c3⟩:=H.out.toks.tokM (List.getElem?_eq_getElem hk)
 obtain ⟨a',ha',d0,d1,d2,d3⟩:=H.out.toks.tok (List.getElem?_eq_getElem hk)
 obtain rfl:a=a':=by injection ha'
 have hab:(a.add (k * 4)).block < w.heap.size:=World.block_lt_of_cell? _ _ d0
 have ht:=Lib.hid (tkAt_in (List.getElem?_eq_getElem hk))
 clear ha'
 generalize l[k]=t at *
 rw [ht.out]
 have H2:=Lib.hid (H.out.alloc (.cells #[.int .i64 0,.int .i64 0,.int .i64 0,.string ⟨#[]⟩] 81))
 have hbn:b≠w.heap.size:=by omega
 have hbn2:b≠w.heap.size + 1:=by omega
 go_enter Tryz.func70,Tryz.ntmps70
 go_wp2_with fail
 go_region
 all_goals
  go_wp2
  refine bodyPost_ret (v:=.agg #[.int .i64 t.kind,.int .i64 t.pos,.int .i64 t.stop,.string t.text]) (by simp [results,Tryz.results70,go_sem]) rfl ⟨rfl,?_,?_⟩
  ·exact (((H.out.next _).alloc _).alloc _).drew
  ·exact ((((Kp.refl b w).setCell (.inr rfl) _).alloc _).alloc _).drew
end
end Go.Proofs.YtfcgoainglpdlaaGreatDoor
namespace Go.Proofs.YtfcgoainglpdlaaGreatDoor
open Go.RowKit
open Go.Lib hiding intOf
theorem run_field3 (a b c:Int) (t:ByteArray) (w:World):(Instr.field 81 (.agg #[.int .i64 a,.int .i64 b,.int .i64 c,.string t]) 3).run Tryz.prog w=.ok (.string t) w:=by
 simp [Instr.field,go_sem,part,asAgg]
section
variable {b c m:Nat} {o:Option Addr} {l:List TZ} {i d:Int} {w:World}
theorem expect_ok (S:PS b o c m l i d w) (hn:l.length≤1073741824) {y:ByteArray} (hy:isKT (tkAt l i) 4 y=true) :
  Calls Tryz.prog 123 #[.pointer (some ⟨b,0,none⟩),.string y] w fun e w'=>e=.returned (.agg #[.int .i64 (tkAt l i).kind,.int .i64 (tkAt l i).pos,.int .i64 (tkAt l i).stop,.string (tkAt l i).text])∧PS b o c m l (i + 1) d w'∧Kp b w w':=by
 have hr:=isKT_real (by decide) hy
 have H:=Lib.hid S
 have hbl:=S.lt
 clear S
 have HN:=Lib.hid hn
 have HR:=Lib.hid hr
 have HS:=Lib.hid (fun (W:World) (h:PS b o c m l i d W)=>sees_any h (by have:=HN.out;omega) y)
 have HT:=Lib.hid (fun (W:World) (h:PS b o c m l i d W)=>take_any h (by have:=HN.out;omega) HR.out)
 have HY:=Lib.hid hy
 rw [HY.out] at HS
 clear hn hr hy
 go_enter Tryz.func123,Tryz.ntmps123
 go_wp2_with fail
 refine (HS.out _ (H.out.alloc _)).mono ?_
 rintro e w1 ⟨rfl,hB⟩
 have S1:=Lib.hid ((H.out.alloc _).step hB)
 have K1:=Lib.hid (((Kp.refl b w).alloc _).then_below hB)
 have X1:=Lib.hid (blk_mid3 hB)
 have hz1:=mid_size hB
 clear hB
 go_wp2_with fail
 refine (HT.out _ S1.out).mono ?_
 rintro e w2 ⟨rfl,hS,hK⟩
 have S2:=Lib.hid hS
 have K2:=Lib.hid (K1.out.trans hK)
 have hx2:=X1.out.kp hK (by omega)
 have c2:=hx2.cell
 have f2:=hx2.frozen
 clear hS hK hx2
 go_wp2
 refine bodyPost_ret (v:=.agg #[.int .i64 (tkAt l i).kind,.int .i64 (tkAt l i).pos,.int .i64 (tkAt l i).stop,.string (tkAt l i).text]) (by simp [results,Tryz.results123,go_sem,c2]) rfl ⟨rfl,?_,?_⟩
 ·exact S2.out.set4 (by omega) _ _ _ _
 ·exact set4_kp K2.out (.inl (Nat.le_refl _)) _ _ _ _
theorem expect_no (S:PS b o c m l i d w) (hn:l.length≤1073741824) {y:ByteArray} (hy:isKT (tkAt l i) 4 y=false) :
  Calls Tryz.prog 123 #[.pointer (some ⟨b,0,none⟩),.string y] w fun e w'=>e=.panicked (thrown (tkAt l i).pos 5)∧Kp b w w':=by
 have H:=Lib.hid S
 clear S
 have HN:=Lib.hid hn
 have HS:=Lib.hid (fun (W:World) (h:PS b o c m l i d W)=>sees_any h (by have:=HN.out;omega) y)
 have HP:=Lib.hid (fun (W:World) (h:PS b o c m l i d W)=>peek_any h (by have:=HN.out;omega))
 have HY:=Lib.hid hy
 rw [HY.out] at HS
 clear hn hy
 go_enter Tryz.func123,Tryz.ntmps123
 go_wp2_with fail
 refine (HS.out _ (H.out.alloc _)).mono ?_
 rintro e w1 ⟨rfl,hB⟩
 have S1:=Lib.hid ((H.out.alloc _).step hB)
 have K1:=Lib.hid (((Kp.refl b w).alloc _).then_below hB)
 clear hB
 go_wp2_with fail
 refine (HP.out _ S1.out).mono ?_
 rintro e w2 ⟨rfl,hB⟩
 have K2:=Lib.hid (K1.out.then_below hB)
 clear hB
 go_wp2_with fail
 refine (throw_any _ _ _ _ 5 w2).mono ?_
 rintro e w3 ⟨rfl,hB⟩
 have K3:=Lib.hid (K2.out.then_below hB)
 clear hB
 go_wp2
 exact ⟨rfl,rfl,K3.out⟩
theorem enter_ok (S:PS b o c m l i d w) (hn:l.length≤1073741824) {y:ByteArray} (hy:isKT (tkAt l i) 4 y=true) (hd:0≤d∧d < 30) :
  Calls Tryz.prog 103 #[.pointer (some ⟨b,0,none⟩),.string y] w fun e w'=>e=.returned (.tuple #[])∧PS b o c m l (i + 1) (d + 1) w'∧Kp b w w':=by
 have HE:=Lib.hid (expect_ok S hn hy)
 have hbl:=S.lt
 obtain ⟨hd0,hd1⟩:=hd
 have e30:(d == 30)=false:=by simp;omega
 clear S hy hn
 go_enter Tryz.func103,Tryz.ntmps103
 go_wp2_with fail
 refine HE.out.mono ?_
 rintro e w1 ⟨rfl,hS,hK⟩
 have S1:=Lib.hid hS
 have K1:=Lib.hid hK
 have hb1:b < w1.heap.size:=hS.lt
 have hbn:b≠w1.heap.size:=by omega
 obtain ⟨p0,p1,p2,p3,pf⟩:=hS.cells
 clear hS hK
 go_wp2
 refine bodyPost_end (results_none rfl _ _ _) rfl ⟨rfl,?_,?_⟩
 ·exact (S1.out.deep _).alloc _
 ·exact (K1.out.setCell (.inr rfl) _).alloc _
theorem enter_deep (S:PS b o c m l i 30 w) (hn:l.length≤1073741824) {y:ByteArray} (hy:isKT (tkAt l i) 4 y=true) :
  Calls Tryz.prog 103 #[.pointer (some ⟨b,0,none⟩),.string y] w fun e w'=>e=.panicked (thrown (tkAt l i).pos 6)∧Kp b w w':=by
 have HE:=Lib.hid (expect_ok S hn hy)
 have hbl:=S.lt
 clear S hy hn
 go_enter Tryz.func103,Tryz.ntmps103
 go_wp2_with fail
 refine HE.out.mono ?_
 rintro e w1 ⟨rfl,hS,hK⟩
 have K1:=Lib.hid hK
 have hb1:b < w1.heap.size:=hS.lt
 have hbn:b≠w1.heap.size:=by omega
 obtain ⟨p0,p1,p2,p3,pf⟩:=hS.cells
 clear hS hK
 go_wp2_with fail
 refine (throw_any _ _ _ _ 6 _).mono ?_
 rintro e w3 ⟨rfl,hB⟩
 have K3:=Lib.hid ((K1.out.alloc _).then_below hB)
 clear hB
 go_wp2
 exact ⟨rfl,rfl,K3.out⟩
theorem enter_no (S:PS b o c m l i d w) (hn:l.length≤1073741824) {y:ByteArray} (hy:isKT (tkAt l i) 4 y=false) :
  Calls Tryz.prog 103 #[.pointer (some ⟨b,0,none⟩),.string y] w fun e w'=>e=.panicked (thrown (tkAt l i).pos 5)∧Kp b w w':=by
 have HE:=Lib.hid (expect_no S hn hy)
 clear S hy hn
 go_enter Tryz.func103,Tryz.ntmps103
 go_wp2_with fail
 refine HE.out.mono ?_
 rintro e w1 ⟨rfl,hK⟩
 have K1:=Lib.hid hK
 clear hK
 go_wp2
 exact ⟨rfl,rfl,K1.out⟩
theorem leave_ok (S:PS b o c m l i d w) (hn:l.length≤1073741824) {y:ByteArray} (hy:isKT (tkAt l i) 4 y=true) (hd:0≤d∧d≤30) :
  Calls Tryz.prog 144 #[.pointer (some ⟨b,0,none⟩),.string y] w fun e w'=>e=.returned (.tuple #[])∧PS b o c m l (i + 1) (d - 1) w'∧Kp b w w':=by
 have HE:=Lib.hid (expect_ok S hn hy)
 have hbl:=S.lt
 obtain ⟨hd0,hd1⟩:=hd
 clear S hy hn
 go_enter Tryz.func144,Tryz.ntmps144
 go_wp2_with fail
 refine HE.out.mono ?_
 rintro e w1 ⟨rfl,hS,hK⟩
 have S1:=Lib.hid hS
 have K1:=Lib.hid hK
 have hb1:b < w1.heap.size:=hS.lt
 obtain ⟨p0,p1,p2,p3,pf⟩:=hS.cells
 clear hS hK
 go_wp2
 refine bodyPost_end (results_none rfl _ _ _) rfl ⟨rfl,?_,?_⟩
 ·exact S1.out.deep _
 ·exact K1.out.setCell (.inr rfl) _
theorem leave_no (S:PS b o c m l i d w) (hn:l.length≤1073741824) {y:ByteArray} (hy:isKT (tkAt l i) 4 y=false) :
  Calls Tryz.prog 144 #[.pointer (some ⟨b,0,none⟩),.string y] w fun e w'=>e=.panicked (thrown (tkAt l i).pos 5)∧Kp b w w':=by
 have HE:=Lib.hid (expect_no S hn hy)
 clear S hy hn
 go_enter Tryz.func144,Tryz.ntmps144
 go_wp2_with fail
 refine HE.out.mono ?_
 rintro e w1 ⟨rfl,hK⟩
 have K1:=Lib.hid hK
 clear hK
 go_wp2
 exact ⟨rfl,rfl,K1.out⟩
theorem name_ok (S:PS b o c m l i d w) (hn:l.length≤1073741824) (hf:Fits l) (hk:(tkAt l i).kind=1) :
  Calls Tryz.prog 120 #[.pointer (some ⟨b,0,none⟩)] w fun e w'=>e=.returned (.string (tkAt l i).text)∧PS b o c m l (i + 1) d w'∧Kp b w w':=by
 have HP:=Lib.hid (peek_any S (by omega))
 have hr:=tkAt_real (l:=l) (i:=i) (by rw [hk];decide)
 have HT:=Lib.hid (fun (W:World) (h:PS b o c m l i d W)=>take_any h (by omega) hr)
 have HC:=Lib.hid (fun W:World=>clone_any (tkAt l i).text W (hf.tkAt i))
 have H:=Lib.hid S
 have e1:((tkAt l i).kind != 1)=false:=by simpa using hk
 have hfield:=run_field3
 clear S hk hn hr hf
 go_enter Tryz.func120,Tryz.ntmps120
 go_wp2_with fail
 refine HP.out.mono ?_
 rintro e w1 ⟨rfl,hB⟩
 have S1:=Lib.hid ((H.out.step hB).alloc (.cells #[.int .i64 (tkAt l i).kind,.int .i64 (tkAt l i).pos,.int .i64 (tkAt l i).stop,.string (tkAt l i).text] 81))
 have K1:=Lib.hid (((Kp.refl b w).then_below hB).alloc (.cells #[.int .i64 (tkAt l i).kind,.int .i64 (tkAt l i).pos,.int .i64 (tkAt l i).stop,.string (tkAt l i).text] 81))
 clear hB
 go_wp2_with fail
 refine (HT.out _ S1.out).mono ?_
 rintro e w2 ⟨rfl,hS,hK⟩
 have S2:=Lib.hid hS
 have K2:=Lib.hid (K1.out.trans hK)
 clear hS hK
 go_wp2_with fail
 refine (HC.out _).mono ?_
 rintro e w3 ⟨rfl,hB⟩
 have S3:=Lib.hid (S2.out.step hB)
 have K3:=Lib.hid (K2.out.then_below hB)
 clear hB
 go_wp2
 go_ret
 exact ⟨rfl,S3.out,K3.out⟩
theorem name_no (S:PS b o c m l i d w) (hn:l.length≤1073741824) (hk:(tkAt l i).kind≠1) :
  Calls Tryz.prog 120 #[.pointer (some ⟨b,0,none⟩)] w fun e w'=>e=.panicked (thrown (tkAt l i).pos 5)∧Kp b w w':=by
 have HP:=Lib.hid (peek_any S (by omega))
 have e1:((tkAt l i).kind != 1)=true:=by simpa using hk
 clear S hk hn
 go_enter Tryz.func120,Tryz.ntmps120
 go_wp2_with fail
 refine HP.out.mono ?_
 rintro e w1 ⟨rfl,hB⟩
 have K1:=Lib.hid (((Kp.refl b w).then_below hB).alloc (.cells #[.int .i64 (tkAt l i).kind,.int .i64 (tkAt l i).pos,.int .i64 (tkAt l i).stop,.string (tkAt l i).text] 81))
 clear hB
 go_wp2_with fail
 refine (throw_any _ _ _ _ 5 _).mono ?_
 rintro e w3 ⟨rfl,hB⟩
 have K3:=Lib.hid (K1.out.then_below hB)
 clear hB
 go_wp2
 exact ⟨rfl,rfl,K3.out⟩
end
end Go.Proofs.YtfcgoainglpdlaaGreatDoor
namespace Go.Proofs.YtfcgoainglpdlaaGreatDoor
structure PX where
 name:ByteArray
 pos:Int
 typ:TX
structure MX where
 name:ByteArray
 pos:Int
 params:List TX
 has:Bool
 result:TX
structure DX where
 kind:Int
 pos:Int
 stop:Int
 name:ByteArray
 method:Bool
 recv:PX
 bounds:List PX
 fields:List PX
 methods:List MX
 has:Bool
 result:TX
 body:List SX
structure FX where
 name:ByteArray
 pos:Int
 imports:List (ByteArray × Int)
 decls:List DX
def noPX:PX:=⟨⟨#[]⟩,0,noTX⟩
def wPackage:List UInt8:=[112,97,99,107,97,103,101]
def wImport:List UInt8:=[105,109,112,111,114,116]
def wType:List UInt8:=[116,121,112,101]
def wStruct:List UInt8:=[115,116,114,117,99,116]
def wInterface:List UInt8:=[105,110,116,101,114,102,97,99,101]
def wFunc:List UInt8:=[102,117,110,99]
def thn {α β:Type} (r:EO α) (f:α→Int→EO β):EO β :=
 match r with
 |.ok x j=>f x j
 |.err p q=>.err p q
 |.out=>.out
def sy (l:List TZ) (z:UInt8) (i:Int):EO Unit:=if isS (tkAt l i) z then .ok () (i + 1) else .err (tkAt l i).pos 5
def wo (l:List TZ) (s:List UInt8) (i:Int):EO Unit:=if isW (tkAt l i) s then .ok () (i + 1) else .err (tkAt l i).pos 5
def na (l:List TZ) (i:Int):EO (ByteArray × Int):=if (tkAt l i).kind=1 then .ok ((tkAt l i).text,(tkAt l i).pos) (i + 1) else .err (tkAt l i).pos 5
def ty (l:List TZ) (i:Int):EO TX:=match prs l 30 i with
 |.ok t j=>.ok t j
 |.err p c=>.err p c
def prm (l:List TZ) (i:Int):EO PX:=thn (na l i) fun n j=>thn (ty l j) fun t q=>.ok ⟨n.1,n.2,t⟩ q
def seps {α:Type} (l:List TZ) (one:Int→EO α) (z:UInt8):Nat→Int→EO (List α)
 |0,_=>.out
 |f + 1,i=>thn (one i) fun x j=>if isS (tkAt l j) 44 then thn (seps l one z f (j + 1)) fun xs q=>.ok (x::xs) q else thn (sy l z j) fun _ q=>.ok [x] q
def sepn {α:Type} (l:List TZ) (one:Int→EO α) (z:UInt8) (f:Nat) (i:Int):EO (List α):=if isS (tkAt l i) z then .ok [] (i + 1) else seps l one z f i
def upto {α:Type} (l:List TZ) (one:Int→EO α):Nat→Int→EO (List α)
 |0,_=>.out
 |f + 1,i=>if isS (tkAt l i) 125 then .ok [] (i + 1) else thn (one i) fun x j=>thn (upto l one f j) fun xs q=>.ok (x::xs) q
def fld (l:List TZ) (i:Int):EO PX:=thn (prm l i) fun x j=>thn (sy l 59 j) fun _ q=>.ok x q
def mth (l:List TZ) (f:Nat) (i:Int):EO MX:=thn (na l i) fun n j=>thn (sy l 40 j) fun _ j=>thn (sepn l (ty l) 41 f j) fun ts j =>
 if isS (tkAt l j) 59 then .ok ⟨n.1,n.2,ts,false,noTX⟩ (j + 1) else thn (ty l j) fun t j=>thn (sy l 59 j) fun _ q=>.ok ⟨n.1,n.2,ts,true,t⟩ q
def dty (l:List TZ) (f:Nat) (i:Int):EO DX:=thn (na l i) fun n j =>
 if isW (tkAt l j) wInterface then thn (sy l 123 (j + 1)) fun _ j=>thn (upto l (mth l f) f j) fun ms q=>.ok ⟨2,n.2,(tkAt l (q - 1)).stop,n.1,false,noPX,[],[],ms,false,noTX,[]⟩ q
 else thn (wo l wStruct j) fun _ j=>thn (sy l 123 j) fun _ j=>thn (upto l (fld l) f j) fun fs q=>.ok ⟨1,n.2,(tkAt l (q - 1)).stop,n.1,false,noPX,[],fs,[],false,noTX,[]⟩ q
def rcv (l:List TZ) (i:Int):EO (Bool × PX):=if isS (tkAt l i) 40 then thn (prm l (i + 1)) fun x j=>thn (sy l 41 j) fun _ q=>.ok (true,x) q else .ok (false,noPX) i
def bnds (l:List TZ) (f:Nat) (i:Int):EO (List PX):=if isS (tkAt l i) 91 then seps l (prm l) 93 f (i + 1) else .ok [] i
def res (l:List TZ) (i:Int):EO (Bool × TX):=if isS (tkAt l i) 123 then .ok (false,noTX) i else thn (ty l i) fun t q=>.ok (true,t) q
def dfn (l:List TZ) (F fb f:Nat) (i:Int):EO DX:=thn (rcv l i) fun r j=>thn (na l j) fun n j=>thn (bnds l f j) fun bs j=>thn (sy l 40 j) fun _ j=>thn (sepn l (prm l) 41 f j) fun ps j =>
 thn (res l j) fun t j=>thn (blk l F fb 0 j) fun b q=>.ok ⟨3,n.2,(tkAt l (q - 1)).stop,n.1,r.1,r.2,bs,ps,[],t.1,t.2,b⟩ q
def dcl (l:List TZ) (F fb f:Nat) (i:Int):EO DX:=if isW (tkAt l i) wType then dty l f (i + 1) else thn (wo l wFunc i) fun _ j=>dfn l F fb f j
def dcls (l:List TZ) (F fb f:Nat):Nat→Int→EO (List DX)
 |0,_=>.out
 |g + 1,i=>if (tkAt l i).kind=0 then .ok [] (i + 1) else thn (dcl l F fb f i) fun x j=>thn (dcls l F fb f g j) fun xs q=>.ok (x::xs) q
def imps (l:List TZ):Nat→Int→EO (List (ByteArray × Int))
 |0,_=>.out
 |g + 1,i=>if isW (tkAt l i) wImport then thn (na l (i + 1)) fun n j=>thn (sy l 59 j) fun _ j=>thn (imps l g j) fun xs q=>.ok (n::xs) q else .ok [] i
def fil (l:List TZ) (F fb f:Nat):EO FX:=thn (wo l wPackage 0) fun _ j=>thn (na l j) fun n j=>thn (sy l 59 j) fun _ j=>thn (imps l f j) fun is j=>thn (dcls l F fb f f j) fun ds q=>.ok ⟨n.1,n.2,is,ds⟩ q
end Go.Proofs.YtfcgoainglpdlaaGreatDoor
namespace Go.Proofs.YtfcgoainglpdlaaGreatDoor
open Go.RowKit
open Go.Lib hiding intOf
def InRow {α:Type} (k:Nat) (one:α→Value→Prop) (P:Nat→Prop) (w:World) (o:Option Addr):Nat→List α→Prop
 |_,[]=>True
 |i,y::r=>(∃ (b:Nat) (cs:List Value),o=some ⟨b,0,none⟩∧P b∧cs.length=k∧(∀ (j:Nat) (u:Value),cs[j]?=some u→w.cell? ⟨b,i * k + j,none⟩=some u)∧one y (.agg cs.toArray))∧InRow k one P w o (i + 1) r
theorem InRow.keep {α:Type} {k:Nat} {one one':α→Value→Prop} {P P':Nat→Prop} {w w':World} (hP:∀ (b i:Nat) (u:Value),P b→w.cell? ⟨b,i,none⟩=some u→P' b) (hk:∀ (b i:Nat) (u:Value),P b→w.cell? ⟨b,i,none⟩=some u→w'.cell? ⟨b,i,none⟩=some u)
  (h1:∀ y v,one y v→one' y v) (h0:0 < k):∀ {xs:List α} {i:Nat} {o:Option Addr},InRow k one P w o i xs→InRow k one' P' w' o i xs
 |[],_,_,_=>trivial
 |y::r,i,o,h=>by
  obtain ⟨⟨b,cs,ho,hb,hl,hc,hy⟩,hr⟩:=h
  obtain ⟨c0,hc0⟩:∃ c0,cs[0]?=some c0:=⟨cs[0]'(by omega),List.getElem?_eq_getElem (by omega)⟩
  exact ⟨⟨b,cs,ho,hP b _ _ hb (hc 0 c0 hc0),hl,fun j u hu=>hk b _ u hb (hc j u hu),h1 y _ hy⟩,InRow.keep hP hk h1 h0 hr⟩
def IsPX (P:Nat→Prop) (w:World) (x:PX) (v:Value):Prop:=∃ (tk tp:Int) (tg tn:ByteArray) (tz:Option Addr) (ta:Nat),
 v=.agg #[.string x.name,.int .i64 x.pos,.int .i64 tk,.int .i64 tp,.string tg,.string tn,.slice tz ta ta]∧IsTP P w x.typ (.agg #[.int .i64 tk,.int .i64 tp,.string tg,.string tn,.slice tz ta ta])
def IsMX (P:Nat→Prop) (w:World) (x:MX) (v:Value):Prop:=∃ (o:Option Addr) (c:Nat) (tk tp:Int) (tg tn:ByteArray) (tz:Option Addr) (ta:Nat),
 v=.agg #[.string x.name,.int .i64 x.pos,.slice o x.params.length c,.bool x.has,.int .i64 tk,.int .i64 tp,.string tg,.string tn,.slice tz ta ta] ∧
 InRow 5 (IsTP P w) P w o 0 x.params∧IsTP P w x.result (.agg #[.int .i64 tk,.int .i64 tp,.string tg,.string tn,.slice tz ta ta])
def IsDX (P:Nat→Prop) (w:World) (x:DX) (v:Value):Prop:=∃ (rn:ByteArray) (rp rk rq:Int) (rg rm:ByteArray) (rz:Option Addr) (ra:Nat) (ob:Option Addr) (cb:Nat) (of:Option Addr) (cf:Nat) (om:Option Addr) (cm:Nat) (tk tp:Int) (tg tn:ByteArray) (tz:Option Addr) (ta:Nat) (os:Option Addr) (cs:Nat),
 v=.agg #[.int .i64 x.kind,.int .i64 x.pos,.int .i64 x.stop,.string x.name,.bool x.method,.string rn,.int .i64 rp,.int .i64 rk,.int .i64 rq,.string rg,.string rm,.slice rz ra ra,.slice ob x.bounds.length cb,.slice of x.fields.length cf,.slice om x.methods.length cm,.bool x.has,.int .i64 tk,.int .i64 tp,.string tg,.string tn,.slice tz ta ta,.slice os x.body.length cs] ∧
 IsPX P w x.recv (.agg #[.string rn,.int .i64 rp,.int .i64 rk,.int .i64 rq,.string rg,.string rm,.slice rz ra ra])∧InRow 7 (IsPX P w) P w ob 0 x.bounds∧InRow 7 (IsPX P w) P w of 0 x.fields∧InRow 9 (IsMX P w) P w om 0 x.methods ∧
 IsTP P w x.result (.agg #[.int .i64 tk,.int .i64 tp,.string tg,.string tn,.slice tz ta ta])∧IsSPs P w os 0 x.body
def IsNX (n:ByteArray × Int) (v:Value):Prop:=v=.agg #[.string n.1,.int .i64 n.2]
def IsFX (P:Nat→Prop) (w:World) (x:FX) (v:Value):Prop:=∃ (oi:Option Addr) (ci:Nat) (od:Option Addr) (cd:Nat),
 v=.agg #[.string x.name,.int .i64 x.pos,.slice oi x.imports.length ci,.slice od x.decls.length cd]∧InRow 2 IsNX P w oi 0 x.imports∧InRow 22 (IsDX P w) P w od 0 x.decls
section
variable {P P':Nat→Prop} {w w':World} (hP:∀ (b i:Nat) (u:Value),P b→w.cell? ⟨b,i,none⟩=some u→P' b) (hk:∀ (b i:Nat) (u:Value),P b→w.cell? ⟨b,i,none⟩=some u→w'.cell? ⟨b,i,none⟩=some u)
include hP hk
theorem IsPX.keep {x:PX} {v:Value} (h:IsPX P w x v):IsPX P' w' x v:=by
 obtain ⟨tk,tp,tg,tn,tz,ta,hv,ht⟩:=h
 exact ⟨tk,tp,tg,tn,tz,ta,hv,ht.keep hP hk⟩
theorem IsMX.keep {x:MX} {v:Value} (h:IsMX P w x v):IsMX P' w' x v:=by
 obtain ⟨o,c,tk,tp,tg,tn,tz,ta,hv,hp,ht⟩:=h
 exact ⟨o,c,tk,tp,tg,tn,tz,ta,hv,hp.keep hP hk (fun y v h=>IsTP.keep hP hk h) (by decide),ht.keep hP hk⟩
theorem IsDX.keep {x:DX} {v:Value} (h:IsDX P w x v):IsDX P' w' x v:=by
 obtain ⟨rn,rp,rk,rq,rg,rm,rz,ra,ob,cb,of,cf,om,cm,tk,tp,tg,tn,tz,ta,os,cs,hv,h1,h2,h3,h4,h5,h6⟩:=h
 exact ⟨rn,rp,rk,rq,rg,rm,rz,ra,ob,cb,of,cf,om,cm,tk,tp,tg,tn,tz,ta,os,cs,hv,h1.keep hP hk,h2.keep hP hk (fun y v h=>IsPX.keep hP hk h) (by decide),h3.keep hP hk (fun y v h=>IsPX.keep hP hk h) (by decide),h4.keep hP hk (fun y v h=>IsMX.keep hP hk h) (by decide),h5.keep hP hk,IsSPs.keep hP hk h6⟩
theorem IsFX.keep {x:FX} {v:Value} (h:IsFX P w x v):IsFX P' w' x v:=by
 obtain ⟨oi,ci,od,cd,hv,h1,h2⟩:=h
 exact ⟨oi,ci,od,cd,hv,h1.keep hP hk (fun _ _ h=>h) (by decide),h2.keep hP hk (fun y v h=>IsDX.keep hP hk h) (by decide)⟩
end
end Go.Proofs.YtfcgoainglpdlaaGreatDoor
namespace Go.Proofs.YtfcgoainglpdlaaGreatDoor
def erT (g:Int→Int):TX→TX
 |.leaf k p q n=>.leaf k (g p) q n
 |.list p x=>.list (g p) (erT g x)
section
variable {g:Int→Int} {l m:List TZ} {e:Int}
section
variable {f k d:Nat} {a i:Int} {x:EX} {z:UInt8}
end
end
end Go.Proofs.YtfcgoainglpdlaaGreatDoor
namespace Go.Proofs.YtfcgoainglpdlaaGreatDoor
section
variable {g:Int→Int} {l m:List TZ} {e:Int}
end
end Go.Proofs.YtfcgoainglpdlaaGreatDoor
namespace Go.Proofs.YtfcgoainglpdlaaGreatDoor
section
variable {g:Int→Int} {l m:List TZ} {e:Int}
theorem rows_thn {F f d:Nat} {i:Int}:rows l F (f + 1) d i=if isS (tkAt l i) 125 then .ok [] (i + 1) else thn (stm l F f d i) fun s j=>thn (rows l F f d j) fun r q=>.ok (s::r) q:=by
 rw [rows];unfold thn
 split
 ·rfl
 ·cases stm l F f d i with
  |ok s j=>simp only;cases rows l F f d j <;> rfl
  |err p c=>rfl
  |out=>rfl
theorem blk_thn {F f d:Nat} {i:Int}:blk l F (f + 1) d i=if isS (tkAt l i) 123 then (if 30≤d then .err (tkAt l i).pos 6 else rows l F f d (i + 1)) else .err (tkAt l i).pos 5:=by rw [blk]
end
end Go.Proofs.YtfcgoainglpdlaaGreatDoor
namespace Go.Proofs.YtfcgoainglpdlaaGreatDoor
theorem thn_ok {α β:Type} {r:EO α} {f:α→Int→EO β} {y:β} {q:Int} (h:thn r f=.ok y q):∃ x j,r=.ok x j∧f x j=.ok y q:=by
 cases r with
 |ok x j=>exact ⟨x,j,rfl,h⟩
 |err p c=>cases h
 |out=>cases h
section
variable {l:List TZ}
theorem sy_rng {z:UInt8} {i:Int} {x:Unit} {j:Int} (h:sy l z i=.ok x j):j=i + 1∧0≤i∧i < l.length∧isS (tkAt l i) z=true:=by
 unfold sy at h;split at h
 ·next hs=>injection h with _ h;have:=isS_real hs;exact ⟨h.symm,this.1,this.2,hs⟩
 ·cases h
theorem wo_rng {w:List UInt8} {i:Int} {x:Unit} {j:Int} (h:wo l w i=.ok x j):j=i + 1∧0≤i∧i < l.length:=by
 unfold wo at h;split at h
 ·next hs=>injection h with _ h;have:=isW_real hs;exact ⟨h.symm,this.1,this.2⟩
 ·cases h
theorem na_rng {i:Int} {x:ByteArray × Int} {j:Int} (h:na l i=.ok x j):j=i + 1∧0≤i∧i < l.length∧(tkAt l i).kind=1∧x=((tkAt l i).text,(tkAt l i).pos):=by
 unfold na at h;split at h
 ·next hk=>injection h with h1 h;have:=tkAt_real (l:=l) (i:=i) (by rw [hk];decide);exact ⟨h.symm,this.1,this.2,hk,h1.symm⟩
 ·cases h
theorem ty_rng {i:Int} {x:TX} {j:Int} (h:ty l i=.ok x j):i < j∧j≤l.length:=by
 unfold ty at h
 split at h
 ·next t q hq=>injection h with _ h;have:=(prs_rng hq);omega
 ·cases h
theorem prm_rng {i:Int} {x:PX} {j:Int} (h:prm l i=.ok x j):i + 1 < j∧j≤l.length∧(tkAt l i).kind=1∧x.name=(tkAt l i).text∧x.pos=(tkAt l i).pos:=by
 unfold prm at h
 obtain ⟨n,a,h1,h⟩:=thn_ok h
 obtain ⟨t,b,h2,h⟩:=thn_ok h
 injection h with hx hj
 obtain ⟨n1,n2,n3,n4,rfl⟩:=na_rng h1
 have:=ty_rng h2
 exact ⟨by omega,by omega,n4,by rw [← hx],by rw [← hx]⟩
theorem seps_rng {α:Type} {one:Int→EO α} (h1:∀ i x j,one i=.ok x j→i < j∧j≤l.length) {z:UInt8}:∀ {f:Nat} {i:Int} {xs:List α} {j:Int},seps l one z f i=.ok xs j→i < j∧j≤l.length
 |0,_,_,_,h=>by rw [seps] at h;cases h
 |f + 1,i,xs,j,h=>by
  rw [seps] at h
  obtain ⟨x,a,ha,h⟩:=thn_ok h
  have:=h1 _ _ _ ha
  split at h
  ·obtain ⟨ys,b,hb,h⟩:=thn_ok h
   injection h with _ h
   have:=seps_rng h1 hb;omega
  ·obtain ⟨_,b,hb,h⟩:=thn_ok h
   injection h with _ h
   have:=sy_rng hb;omega
theorem sepn_rng {α:Type} {one:Int→EO α} (h1:∀ i x j,one i=.ok x j→i < j∧j≤l.length) {z:UInt8} {f:Nat} {i:Int} {xs:List α} {j:Int} (h:sepn l one z f i=.ok xs j):i < j∧j≤l.length:=by
 unfold sepn at h
 split at h
 ·next hs=>injection h with _ h;have:=isS_real hs;omega
 ·exact seps_rng h1 h
theorem upto_rng {α:Type} {one:Int→EO α} (h1:∀ i x j,one i=.ok x j→i < j∧j≤l.length):∀ {f:Nat} {i:Int} {xs:List α} {j:Int},upto l one f i=.ok xs j→i < j∧j≤l.length∧isS (tkAt l (j - 1)) 125=true
 |0,_,_,_,h=>by rw [upto] at h;cases h
 |f + 1,i,xs,j,h=>by
  rw [upto] at h
  split at h
  ·next hs=>injection h with _ h;have:=isS_real hs;subst h;exact ⟨by omega,by omega,by rw [show i + 1 - 1=i by omega];exact hs⟩
  ·obtain ⟨x,a,ha,h⟩:=thn_ok h
   obtain ⟨ys,b,hb,h⟩:=thn_ok h
   injection h with _ h
   subst h
   have:=h1 _ _ _ ha
   obtain ⟨u1,u2,u3⟩:=upto_rng h1 hb
   exact ⟨by omega,u2,u3⟩
theorem fld_rng {i:Int} {x:PX} {j:Int} (h:fld l i=.ok x j):i < j∧j≤l.length:=by
 unfold fld at h
 obtain ⟨n,a,h1,h⟩:=thn_ok h
 obtain ⟨_,b,h2,h⟩:=thn_ok h
 injection h with _ h
 have:=prm_rng h1;have:=sy_rng h2;omega
theorem mth_rng {f:Nat} {i:Int} {x:MX} {j:Int} (h:mth l f i=.ok x j):i < j∧j≤l.length:=by
 unfold mth at h
 obtain ⟨n,a,h1,h⟩:=thn_ok h
 obtain ⟨_,b,h2,h⟩:=thn_ok h
 obtain ⟨ts,c,h3,h⟩:=thn_ok h
 have:=(na_rng h1).1;have:=sy_rng h2;have:=sepn_rng (fun _ _ _ h=>ty_rng h) h3
 split at h
 ·next hs=>injection h with _ h;have:=isS_real hs;omega
 ·obtain ⟨t,d,h4,h⟩:=thn_ok h
  obtain ⟨_,e,h5,h⟩:=thn_ok h
  injection h with _ h
  have:=ty_rng h4;have:=sy_rng h5;omega
theorem rcv_rng {i:Int} {x:Bool × PX} {j:Int} (h:rcv l i=.ok x j):i≤j:=by
 unfold rcv at h
 split at h
 ·obtain ⟨n,a,h1,h⟩:=thn_ok h
  obtain ⟨_,b,h2,h⟩:=thn_ok h
  injection h with _ h
  have:=prm_rng h1;have:=sy_rng h2;omega
 ·injection h with _ h;omega
theorem bnds_rng {f:Nat} {i:Int} {x:List PX} {j:Int} (h:bnds l f i=.ok x j):i≤j:=by
 unfold bnds at h
 split at h
 ·have:=seps_rng (fun _ _ _ h=>by have:=prm_rng h;omega) h;omega
 ·injection h with _ h;omega
theorem res_rng {i:Int} {x:Bool × TX} {j:Int} (h:res l i=.ok x j):i≤j:=by
 unfold res at h
 split at h
 ·injection h with _ h;omega
 ·obtain ⟨t,a,h1,h⟩:=thn_ok h
  injection h with _ h
  have:=ty_rng h1;omega
theorem rows_end {F:Nat}:∀ {f d:Nat} {i:Int} {x:List SX} {j:Int},rows l F f d i=.ok x j→isS (tkAt l (j - 1)) 125=true
 |0,_,_,_,_,h=>by rw [rows] at h;cases h
 |f + 1,d,i,x,j,h=>by
  rw [rows_thn] at h
  split at h
  ·next hs=>injection h with _ h;subst h;rw [show i + 1 - 1=i by omega];exact hs
  ·obtain ⟨s,a,ha,h⟩:=thn_ok h
   obtain ⟨r,b,hb,h⟩:=thn_ok h
   injection h with _ h
   subst h
   exact rows_end hb
theorem blk_end {F f d:Nat} {i:Int} {x:List SX} {j:Int} (h:blk l F f d i=.ok x j):isS (tkAt l (j - 1)) 125=true:=by
 cases f with
 |zero=>rw [blk] at h;cases h
 |succ f =>
  rw [blk_thn] at h
  split at h
  ·split at h
   ·cases h
   ·exact rows_end h
  ·cases h
structure DAt (l:List TZ) (i:Int) (x:DX) (j:Int):Prop where
 far:i < j
 near:j≤l.length
 last:isS (tkAt l (j - 1)) 125=true
 stop:x.stop=(tkAt l (j - 1)).stop
 name:∃ a,i≤a∧a < j - 1∧(tkAt l a).kind=1∧x.name=(tkAt l a).text∧x.pos=(tkAt l a).pos∧∀ y ∈ x.fields,∃ q,a < q∧q < j - 1∧(tkAt l q).kind=1∧y.name=(tkAt l q).text∧y.pos=(tkAt l q).pos
theorem seps_at {α:Type} {one:Int→EO α} {P:α→Int→Prop} (h1:∀ i x j,one i=.ok x j→i < j∧j≤l.length) (h2:∀ i x j,one i=.ok x j→P x i) {z:UInt8}:∀ {f:Nat} {i:Int} {xs:List α} {j:Int},seps l one z f i=.ok xs j→∀ y ∈ xs,∃ q,i≤q∧q < j - 1∧P y q
 |0,_,_,_,h=>by rw [seps] at h;cases h
 |f + 1,i,xs,j,h=>by
  rw [seps] at h
  obtain ⟨x,a,ha,h⟩:=thn_ok h
  have r1:=h1 _ _ _ ha
  split at h
  ·obtain ⟨ys,b,hb,h⟩:=thn_ok h
   injection h with hx hj
   subst hx hj
   have r2:=seps_rng h1 hb
   intro y hy
   rcases List.mem_cons.1 hy with rfl | hy
   ·exact ⟨i,by omega,by omega,h2 _ _ _ ha⟩
   ·obtain ⟨q,q1,q2,q3⟩:=seps_at h1 h2 hb y hy
    exact ⟨q,by omega,q2,q3⟩
  ·obtain ⟨_,b,hb,h⟩:=thn_ok h
   injection h with hx hj
   subst hx hj
   have:=sy_rng hb
   intro y hy
   obtain rfl:=List.mem_singleton.1 hy
   exact ⟨i,by omega,by omega,h2 _ _ _ ha⟩
theorem upto_at {α:Type} {one:Int→EO α} {P:α→Int→Prop} (h1:∀ i x j,one i=.ok x j→i < j∧j≤l.length) (h2:∀ i x j,one i=.ok x j→P x i):∀ {f:Nat} {i:Int} {xs:List α} {j:Int},upto l one f i=.ok xs j→∀ y ∈ xs,∃ q,i≤q∧q < j - 1∧P y q
 |0,_,_,_,h=>by rw [upto] at h;cases h
 |f + 1,i,xs,j,h=>by
  rw [upto] at h
  split at h
  ·injection h with hx hj
   subst hx
   intro y hy
   cases hy
  ·obtain ⟨x,a,ha,h⟩:=thn_ok h
   obtain ⟨ys,b,hb,h⟩:=thn_ok h
   injection h with hx hj
   subst hx hj
   have r1:=h1 _ _ _ ha
   have r2:=upto_rng h1 hb
   intro y hy
   rcases List.mem_cons.1 hy with rfl | hy
   ·exact ⟨i,by omega,by omega,h2 _ _ _ ha⟩
   ·obtain ⟨q,q1,q2,q3⟩:=upto_at h1 h2 hb y hy
    exact ⟨q,by omega,q2,q3⟩
theorem dty_at {f:Nat} {i:Int} {x:DX} {j:Int} (h:dty l f i=.ok x j):DAt l i x j:=by
 unfold dty at h
 obtain ⟨n,a,h1,h⟩:=thn_ok h
 obtain ⟨n1,n2,n3,n4,rfl⟩:=na_rng h1
 split at h
 ·obtain ⟨_,b,h2,h⟩:=thn_ok h
  obtain ⟨ms,c,h3,h⟩:=thn_ok h
  injection h with hx hj
  subst hx hj
  have:=sy_rng h2
  have hu:=upto_rng (fun _ _ _ h=>mth_rng h) h3
  exact ⟨by omega,hu.2.1,hu.2.2,rfl,i,by omega,by omega,n4,rfl,rfl,fun y hy=>by cases hy⟩
 ·obtain ⟨_,b,h2,h⟩:=thn_ok h
  obtain ⟨_,c,h3,h⟩:=thn_ok h
  obtain ⟨fs,d,h4,h⟩:=thn_ok h
  injection h with hx hj
  subst hx hj
  have:=wo_rng h2;have:=sy_rng h3
  have hu:=upto_rng (fun _ _ _ h=>fld_rng h) h4
  refine ⟨by omega,hu.2.1,hu.2.2,rfl,i,by omega,by omega,n4,rfl,rfl,fun y hy=>?_⟩
  obtain ⟨q,q1,q2,q3⟩:=upto_at (P:=fun (y:PX) q=>(tkAt l q).kind=1∧y.name=(tkAt l q).text∧y.pos=(tkAt l q).pos) (fun _ _ _ h=>fld_rng h) (fun i x j h=>by
   unfold fld at h
   obtain ⟨n,a,h1,h⟩:=thn_ok h
   obtain ⟨_,b,h2,h⟩:=thn_ok h
   injection h with hx _
   subst hx
   exact (prm_rng h1).2.2) h4 y hy
  exact ⟨q,by omega,q2,q3⟩
theorem dfn_at {F fb f:Nat} {i:Int} {x:DX} {j:Int} (h:dfn l F fb f i=.ok x j):DAt l i x j:=by
 unfold dfn at h
 obtain ⟨r,a,h1,h⟩:=thn_ok h
 obtain ⟨n,b,h2,h⟩:=thn_ok h
 obtain ⟨bs,c,h3,h⟩:=thn_ok h
 obtain ⟨_,d,h4,h⟩:=thn_ok h
 obtain ⟨ps,e,h5,h⟩:=thn_ok h
 obtain ⟨t,k,h6,h⟩:=thn_ok h
 obtain ⟨bd,q,h7,h⟩:=thn_ok h
 injection h with hx hj
 subst hx hj
 obtain ⟨n1,n2,n3,n4,rfl⟩:=na_rng h2
 have r1:=rcv_rng h1;have r3:=bnds_rng h3;have r4:=sy_rng h4
 have r5:=sepn_rng (fun _ _ _ h=>by have:=prm_rng h;omega) h5;have r6:=res_rng h6;have r7:=(stm_rng (l:=l) (F:=F) fb).1 _ _ _ _ h7
 refine ⟨by omega,r7.2.2,blk_end h7,rfl,a,by omega,by omega,n4,rfl,rfl,fun y hy=>?_⟩
 unfold sepn at h5
 split at h5
 ·injection h5 with hx _
  subst hx
  cases hy
 ·obtain ⟨q',q1,q2,q3⟩:=seps_at (P:=fun (y:PX) q=>(tkAt l q).kind=1∧y.name=(tkAt l q).text∧y.pos=(tkAt l q).pos) (fun _ _ _ h=>by have:=prm_rng h;omega) (fun i x j h=>(prm_rng h).2.2) h5 y hy
  exact ⟨q',by omega,by omega,q3⟩
theorem dcl_at {F fb f:Nat} {i:Int} {x:DX} {j:Int} (h:dcl l F fb f i=.ok x j):DAt l (i + 1) x j:=by
 unfold dcl at h
 split at h
 ·exact dty_at h
 ·obtain ⟨_,a,h1,h⟩:=thn_ok h
  have:=(wo_rng h1).1
  subst this
  exact dfn_at h
theorem dcl_rng {F fb f:Nat} {i:Int} {x:DX} {j:Int} (h:dcl l F fb f i=.ok x j):i < j:=by have:=(dcl_at h).far;omega
end
end Go.Proofs.YtfcgoainglpdlaaGreatDoor
namespace Go.Proofs.YtfcgoainglpdlaaGreatDoor
section
variable {g:Int→Int} {l m:List TZ} {e:Int}
end
end Go.Proofs.YtfcgoainglpdlaaGreatDoor
namespace Go.Proofs.YtfcgoainglpdlaaGreatDoor
section
variable {l m:List TZ} {e:Int} {F fb f:Nat}
end
end Go.Proofs.YtfcgoainglpdlaaGreatDoor
namespace Go.Proofs.YtfcgoainglpdlaaGreatDoor
def IsAt (l:List TZ):Int→List (ByteArray × Int)→Int→Prop
 |i,[],j=>i=j
 |i,n::r,j=>i + 2 < l.length∧0≤i∧(tkAt l (i + 1)).kind=1∧n=((tkAt l (i + 1)).text,(tkAt l (i + 1)).pos)∧IsAt l (i + 3) r j
section
variable {l:List TZ}
theorem imps_at:∀ {k:Nat} {i:Int} {xs:List (ByteArray × Int)} {j:Int},imps l k i=.ok xs j→IsAt l i xs j
 |0,_,_,_,h=>by rw [imps] at h;cases h
 |k + 1,i,xs,j,h=>by
  rw [imps] at h
  split at h
  ·next hw =>
   have hr:=isW_real hw
   obtain ⟨n,a,h1,h⟩:=thn_ok h
   obtain ⟨_,b,h2,h⟩:=thn_ok h
   obtain ⟨ys,c,h3,h⟩:=thn_ok h
   injection h with hx hj
   subst hx hj
   obtain ⟨n1,n2,n3,n4,n5⟩:=na_rng h1
   have r2:=sy_rng h2
   have r3:=imps_at h3
   rw [r2.1,n1,show i + 1 + 1 + 1=i + 3 by omega] at r3
   exact ⟨by omega,by omega,n4,n5,r3⟩
  ·injection h with hx hj
   subst hx hj
   exact rfl
theorem IsAt.le:∀ {xs:List (ByteArray × Int)} {i j:Int},IsAt l i xs j→i≤j
 |[],_,_,h=>by have:_=_:=h;omega
 |_::r,i,j,h=>by have:=IsAt.le h.2.2.2.2;omega
theorem thn_some {α β:Type} {r:EO α} {f:α→Int→EO β} (h:r≠.out) (hf:∀ x j,r=.ok x j→f x j≠.out):thn r f≠.out:=by
 cases r with
 |ok x j=>exact hf x j rfl
 |err p c=>intro e;cases e
 |out=>exact (h rfl).elim
theorem sy_some (z:UInt8) (i:Int):sy l z i≠.out:=by unfold sy;split <;> (intro e;cases e)
theorem wo_some (w:List UInt8) (i:Int):wo l w i≠.out:=by unfold wo;split <;> (intro e;cases e)
theorem na_some (i:Int):na l i≠.out:=by unfold na;split <;> (intro e;cases e)
theorem ty_some (i:Int):ty l i≠.out:=by unfold ty;split <;> (intro e;cases e)
theorem prm_some (i:Int):prm l i≠.out:=by
 unfold prm
 exact thn_some (na_some i) fun _ _ _=>thn_some (ty_some _) fun _ _ _=>by intro e;cases e
def lft (l:List TZ) (i:Int):Nat:=((l.length:Int) - i).toNat
theorem seps_some {α:Type} {one:Int→EO α} (h1:∀ i x j,one i=.ok x j→i < j∧j≤l.length) (h2:∀ i,one i≠.out) (z:UInt8):∀ (f:Nat) (i:Int),lft l i < f→seps l one z f i≠.out
 |0,_,h=>by omega
 |f + 1,i,h=>by
  rw [seps]
  refine thn_some (h2 i) fun x j hx=>?_
  have r:=h1 _ _ _ hx
  split
  ·next hs =>
   have:=isS_real hs
   exact thn_some (seps_some h1 h2 z f (j + 1) (by unfold lft at *;omega)) fun _ _ _=>by intro e;cases e
  ·exact thn_some (sy_some _ _) fun _ _ _=>by intro e;cases e
theorem sepn_some {α:Type} {one:Int→EO α} (h1:∀ i x j,one i=.ok x j→i < j∧j≤l.length) (h2:∀ i,one i≠.out) (z:UInt8) {f:Nat} {i:Int} (hf:lft l i < f):sepn l one z f i≠.out:=by
 unfold sepn
 split
 ·intro e;cases e
 ·exact seps_some h1 h2 z f i hf
theorem upto_some {α:Type} {one:Int→EO α} (h1:∀ i x j,one i=.ok x j→i < j∧j≤l.length) (h2:∀ i,0≤i→one i≠.out):∀ (f:Nat) (i:Int),0≤i→lft l i < f→upto l one f i≠.out
 |0,_,_,h=>by omega
 |f + 1,i,h0,h=>by
  rw [upto]
  split
  ·intro e;cases e
  ·refine thn_some (h2 i h0) fun x j hx=>?_
   have r:=h1 _ _ _ hx
   exact thn_some (upto_some h1 h2 f j (by omega) (by unfold lft at *;omega)) fun _ _ _=>by intro e;cases e
theorem fld_some (i:Int):fld l i≠.out:=by
 unfold fld
 exact thn_some (prm_some i) fun _ _ _=>thn_some (sy_some _ _) fun _ _ _=>by intro e;cases e
theorem mth_some {f:Nat} (hf:l.length < f) {i:Int} (h0:0≤i):mth l f i≠.out:=by
 unfold mth
 refine thn_some (na_some i) fun n a h1=>thn_some (sy_some _ _) fun _ b h2=>?_
 have:=(na_rng h1).1;have:=sy_rng h2
 refine thn_some (sepn_some (fun _ _ _ h=>ty_rng h) ty_some _ (by unfold lft;omega)) fun _ _ _=>?_
 split
 ·intro e;cases e
 ·exact thn_some (ty_some _) fun _ _ _=>thn_some (sy_some _ _) fun _ _ _=>by intro e;cases e
theorem dty_some {f:Nat} (hf:l.length < f) {i:Int} (h0:0≤i):dty l f i≠.out:=by
 unfold dty
 refine thn_some (na_some i) fun n a h1=>?_
 have:=(na_rng h1).1
 split
 ·refine thn_some (sy_some _ _) fun _ b h2=>?_
  have:=sy_rng h2
  exact thn_some (upto_some (fun _ _ _ h=>mth_rng h) (fun i hi=>mth_some hf hi) f b (by omega) (by unfold lft;omega)) fun _ _ _=>by intro e;cases e
 ·refine thn_some (wo_some _ _) fun _ b h2=>thn_some (sy_some _ _) fun _ c h3=>?_
  have:=wo_rng h2;have:=sy_rng h3
  exact thn_some (upto_some (fun _ _ _ h=>fld_rng h) (fun i _=>fld_some i) f c (by omega) (by unfold lft;omega)) fun _ _ _=>by intro e;cases e
theorem rcv_some (i:Int):rcv l i≠.out:=by
 unfold rcv
 split
 ·exact thn_some (prm_some _) fun _ _ _=>thn_some (sy_some _ _) fun _ _ _=>by intro e;cases e
 ·intro e;cases e
theorem bnds_some {f:Nat} (hf:l.length < f) {i:Int} (h0:0≤i):bnds l f i≠.out:=by
 unfold bnds
 split
 ·exact seps_some (fun _ _ _ h=>by have:=prm_rng h;omega) prm_some _ f _ (by unfold lft;omega)
 ·intro e;cases e
theorem res_some (i:Int):res l i≠.out:=by
 unfold res
 split
 ·intro e;cases e
 ·exact thn_some (ty_some _) fun _ _ _=>by intro e;cases e
theorem dfn_some {F f:Nat} (hF:fuel l≤F) (hf:l.length < f) {i:Int} (h0:0≤i):dfn l F (fuelB l) f i≠.out:=by
 unfold dfn
 refine thn_some (rcv_some i) fun _ a h1=>thn_some (na_some _) fun _ b h2=>?_
 have:=rcv_rng h1;have:=(na_rng h2).1
 refine thn_some (bnds_some hf (by omega)) fun _ c h3=>thn_some (sy_some _ _) fun _ d h4=>?_
 have:=bnds_rng h3;have:=sy_rng h4
 refine thn_some (sepn_some (fun _ _ _ h=>by have:=prm_rng h;omega) prm_some _ (by unfold lft;omega)) fun _ k h5=>thn_some (res_some _) fun _ q h6=>?_
 have:=sepn_rng (fun _ _ _ h=>by have:=prm_rng h;omega) h5;have:=res_rng h6
 exact thn_some ((stm_some hF _).1 0 q (by omega) (by unfold fuelB left;omega)) fun _ _ _=>by intro e;cases e
theorem dcl_some {F f:Nat} (hF:fuel l≤F) (hf:l.length < f) {i:Int} (h0:0≤i):dcl l F (fuelB l) f i≠.out:=by
 unfold dcl
 split
 ·exact dty_some hf (by omega)
 ·refine thn_some (wo_some _ _) fun _ a h1=>?_
  have:=wo_rng h1
  exact dfn_some hF hf (by omega)
theorem dcls_some {F f:Nat} (hF:fuel l≤F) (hf:l.length < f):∀ (k:Nat) (i:Int),0≤i→lft l i < k→dcls l F (fuelB l) f k i≠.out
 |0,_,_,h=>by omega
 |k + 1,i,h0,h=>by
  rw [dcls]
  split
  ·intro e;cases e
  ·refine thn_some (dcl_some hF hf h0) fun x j hx=>?_
   have r:=dcl_at hx
   have:=r.far;have:=r.near
   exact thn_some (dcls_some hF hf k j (by omega) (by unfold lft at *;omega)) fun _ _ _=>by intro e;cases e
theorem imps_some:∀ (k:Nat) (i:Int),lft l i < k→imps l k i≠.out
 |0,_,h=>by omega
 |k + 1,i,h=>by
  rw [imps]
  split
  ·refine thn_some (na_some _) fun _ a h1=>thn_some (sy_some _ _) fun _ b h2=>?_
   have:=na_rng h1;have:=sy_rng h2
   exact thn_some (imps_some k b (by unfold lft at *;omega)) fun _ _ _=>by intro e;cases e
  ·intro e;cases e
theorem fil_some {F f:Nat} (hF:fuel l≤F) (hf:l.length < f):fil l F (fuelB l) f≠.out:=by
 unfold fil
 refine thn_some (wo_some _ _) fun _ a h1=>thn_some (na_some _) fun _ b h2=>thn_some (sy_some _ _) fun _ c h3=>?_
 have:=wo_rng h1;have:=(na_rng h2).1;have:=sy_rng h3
 refine thn_some (imps_some f c (by unfold lft;omega)) fun _ d h4=>?_
 have:=IsAt.le (imps_at h4)
 exact thn_some (dcls_some hF hf f d (by omega) (by unfold lft;omega)) fun _ _ _=>by intro e;cases e
end
end Go.Proofs.YtfcgoainglpdlaaGreatDoor
namespace Go.Proofs.YtfcgoainglpdlaaGreatDoor
theorem thn_assoc {α β γ:Type} (r:EO α) (f:α→Int→EO β) (g:β→Int→EO γ):thn (thn r f) g=thn r fun x j=>thn (f x j) g:=by
 cases r <;> rfl
theorem thn_congr {α β:Type} (r:EO α) {f g:α→Int→EO β} (h:∀ x j,r=.ok x j→f x j=g x j):thn r f=thn r g:=by
 cases r with
 |ok x j=>exact h x j rfl
 |err p q=>rfl
 |out=>rfl
section
variable {α:Type} {l:List TZ} {one:Int→EO α}
def sepw (l:List TZ) (one:Int→EO α):Nat→Int→EO (List α)
 |0,_=>.out
 |g + 1,i=>thn (one i) fun x j=>if isS (tkAt l j) 44 then thn (sepw l one g (j + 1)) fun xs q=>.ok (x::xs) q else .ok [x] j
def aftw (l:List TZ) (one:Int→EO α) (g:Nat) (j:Int):EO (List α):=if isS (tkAt l j) 44 then sepw l one g (j + 1) else .ok [] j
theorem sepw_eq {g:Nat} {i:Int}:sepw l one (g + 1) i=thn (one i) fun x j=>thn (aftw l one g j) fun xs q=>.ok (x::xs) q:=by
 rw [sepw]
 refine thn_congr _ fun x j _=>?_
 unfold aftw
 split <;> rfl
theorem seps_eq (z:UInt8):∀ (f:Nat) (i:Int),seps l one z f i=thn (sepw l one f i) fun xs j=>thn (sy l z j) fun _ q=>.ok xs q
 |0,_=>rfl
 |f + 1,i=>by
  rw [seps,sepw,thn_assoc]
  refine thn_congr _ fun x j _=>?_
  split
  ·rw [thn_assoc,seps_eq z f,thn_assoc]
   refine thn_congr _ fun xs q _=>?_
   rw [thn_assoc];rfl
  ·rfl
def lstw (l:List TZ) (one:Int→EO α) (f:Nat) (i:Int):EO (List α):=thn (sy l 40 i) fun _ j=>sepn l one 41 f j
def midw (l:List TZ) (one:Int→EO α) (f:Nat) (j:Int):EO (List α):=if isS (tkAt l j) 41 then .ok [] j else sepw l one f j
theorem sepn_eq (f:Nat) (j:Int):sepn l one 41 f j=thn (midw l one f j) fun xs q=>thn (sy l 41 q) fun _ r=>.ok xs r:=by
 unfold sepn midw
 cases h:isS (tkAt l j) 41
 ·exact seps_eq 41 f j
 ·show EO.ok [] (j + 1)=thn (sy l 41 j) fun _ r=>EO.ok [] r
  unfold sy
  rw [if_pos h];rfl
def memw (l:List TZ) (one:Int→EO α) (f:Nat) (i:Int):EO (List α):=thn (sy l 123 i) fun _ j=>upto l one f j
def preG (ys:List α) (r:EO (List α)):EO (List α):=thn r fun zs q=>.ok (ys++zs) q
theorem preG_nil (r:EO (List α)):preG [] r=r:=by cases r <;> rfl
theorem preG_snoc {ys:List α} {y:α} {r:EO (List α)}:preG ys (thn r fun zs q=>.ok (y::zs) q)=preG (ys++[y]) r:=by
 cases r with
 |ok zs q=>show EO.ok (ys++y::zs) q=EO.ok (ys++[y]++zs) q;rw [List.append_assoc];rfl
 |err p q=>rfl
 |out=>rfl
theorem upto_shut {f:Nat} {i:Int} (h:isS (tkAt l i) 125=true):upto l one (f + 1) i=.ok [] (i + 1):=by rw [upto,if_pos h]
theorem upto_more {f:Nat} {i:Int} (h:isS (tkAt l i) 125=false):upto l one (f + 1) i=thn (one i) fun x j=>thn (upto l one f j) fun xs q=>.ok (x::xs) q:=by rw [upto,if_neg (by rw [h];decide)]
end
section
variable {l:List TZ}
def resw (l:List TZ) (z:UInt8) (i:Int):EO (Bool × TX):=if isS (tkAt l i) z then .ok (false,noTX) i else thn (ty l i) fun t q=>.ok (true,t) q
theorem res_eq (i:Int):res l i=resw l 123 i:=rfl
theorem mth_eq (f:Nat) (i:Int):mth l f i=thn (na l i) fun n j=>thn (lstw l (ty l) f j) fun ts j=>thn (resw l 59 j) fun t j=>thn (sy l 59 j) fun _ q=>.ok ⟨n.1,n.2,ts,t.1,t.2⟩ q:=by
 unfold mth
 refine thn_congr _ fun n j _=>?_
 unfold lstw
 rw [thn_assoc]
 refine thn_congr _ fun _ j _=>?_
 refine thn_congr _ fun ts j _=>?_
 unfold resw
 cases h:isS (tkAt l j) 59
 ·rw [if_neg (by decide),if_neg (by decide),thn_assoc];rfl
 ·rw [if_pos rfl,if_pos rfl]
  show _=thn (sy l 59 j) fun _ q=>EO.ok (⟨n.1,n.2,ts,false,noTX⟩:MX) q
  unfold sy
  rw [if_pos h];rfl
def shutD (x:DX) (s:Int):DX:=⟨x.kind,x.pos,s,x.name,x.method,x.recv,x.bounds,x.fields,x.methods,x.has,x.result,x.body⟩
def dty0 (l:List TZ) (f:Nat) (i:Int):EO DX:=thn (na l i) fun n j =>
 if isW (tkAt l j) wStruct then thn (memw l (fld l) f (j + 1)) fun fs q=>.ok ⟨1,n.2,0,n.1,false,noPX,[],fs,[],false,noTX,[]⟩ q
 else thn (wo l wInterface j) fun _ j=>thn (memw l (mth l f) f j) fun ms q=>.ok ⟨2,n.2,0,n.1,false,noPX,[],[],ms,false,noTX,[]⟩ q
theorem dty_eq (f:Nat) (i:Int):dty l f i=thn (dty0 l f i) fun x q=>.ok (shutD x (tkAt l (q - 1)).stop) q:=by
 unfold dty dty0
 rw [thn_assoc]
 refine thn_congr _ fun n j _=>?_
 cases hs:isW (tkAt l j) wStruct
 ·rw [if_neg (c:=(false:Bool)=true) (by decide)]
  cases hi:isW (tkAt l j) wInterface
  ·rw [if_neg (by decide)]
   unfold wo
   rw [if_neg (by rw [hs];decide),if_neg (by rw [hi];decide)]
   rfl
  ·rw [if_pos rfl]
   have e:wo l wInterface j=.ok () (j + 1):=by unfold wo;rw [if_pos hi]
   rw [e]
   unfold memw
   show _=thn (thn (thn (sy l 123 (j + 1)) _) _) _
   rw [thn_assoc,thn_assoc]
   refine thn_congr _ fun _ j _=>?_
   rfl
 ·have hi:isW (tkAt l j) wInterface=false:=by
   unfold isW at hs ⊢
   simp only [Bool.and_eq_true,decide_eq_true_eq] at hs
   rw [hs.2]
   simp [wStruct,wInterface]
  rw [hi,if_neg (by decide),if_pos rfl]
  have e:wo l wStruct j=.ok () (j + 1):=by unfold wo;rw [if_pos hs]
  rw [e]
  unfold memw
  show thn (sy l 123 (j + 1)) _=_
  rw [thn_assoc,thn_assoc]
  refine thn_congr _ fun _ j _=>?_
  rfl
def dfn0 (l:List TZ) (F fb f:Nat) (i:Int):EO DX:=thn (rcv l i) fun r j=>thn (na l j) fun n j=>thn (bnds l f j) fun bs j=>thn (lstw l (prm l) f j) fun ps j =>
 thn (resw l 123 j) fun t j=>thn (blk l F fb 0 j) fun b q=>.ok ⟨3,n.2,0,n.1,r.1,r.2,bs,ps,[],t.1,t.2,b⟩ q
theorem dfn_eq (F fb f:Nat) (i:Int):dfn l F fb f i=thn (dfn0 l F fb f i) fun x q=>.ok (shutD x (tkAt l (q - 1)).stop) q:=by
 unfold dfn dfn0 lstw
 simp only [thn_assoc,res_eq]
 rfl
def dcl0 (l:List TZ) (F fb f:Nat) (i:Int):EO DX:=if isW (tkAt l i) wType then dty0 l f (i + 1) else thn (wo l wFunc i) fun _ j=>dfn0 l F fb f j
theorem dcl_eq (F fb f:Nat) (i:Int):dcl l F fb f i=thn (dcl0 l F fb f i) fun x q=>.ok (shutD x (tkAt l (q - 1)).stop) q:=by
 unfold dcl dcl0
 split
 ·exact dty_eq f _
 ·rw [thn_assoc]
  exact thn_congr _ fun _ j _=>dfn_eq F fb f j
theorem dcl0_rng {F fb f:Nat} {i:Int} {x:DX} {q:Int} (h:dcl0 l F fb f i=.ok x q):i < q∧0≤q - 1∧q - 1 < l.length:=by
 have hd:dcl l F fb f i=.ok (shutD x (tkAt l (q - 1)).stop) q:=by rw [dcl_eq,h];rfl
 have h1:=dcl_rng hd
 have h2:=isS_real (dcl_at hd).last
 omega
def impw (l:List TZ) (i:Int):EO (ByteArray × Int):=thn (na l i) fun n j=>thn (sy l 59 j) fun _ q=>.ok n q
theorem imps_step {g:Nat} {i:Int} (h:isW (tkAt l i) wImport=true):imps l (g + 1) i=thn (impw l (i + 1)) fun n j=>thn (imps l g j) fun xs q=>.ok (n::xs) q:=by
 rw [imps,if_pos h]
 unfold impw
 simp only [thn_assoc]
 rfl
theorem imps_stop {g:Nat} {i:Int} (h:isW (tkAt l i) wImport=false):imps l (g + 1) i=.ok [] i:=by rw [imps,if_neg (by rw [h];decide)]
theorem impw_rng {i:Int} {n:ByteArray × Int} {j:Int} (h:impw l i=.ok n j):i < j∧j≤l.length:=by
 unfold impw at h
 obtain ⟨n',a,h1,h⟩:=thn_ok h
 obtain ⟨_,b,h2,h⟩:=thn_ok h
 injection h with _ hj
 have:=na_rng h1
 have:=sy_rng h2
 omega
theorem dcls_step {F fb f g:Nat} {i:Int} (h:(tkAt l i).kind≠0):dcls l F fb f (g + 1) i=thn (dcl l F fb f i) fun x j=>thn (dcls l F fb f g j) fun xs q=>.ok (x::xs) q:=by rw [dcls,if_neg h]
theorem dcls_stop {F fb f g:Nat} {i:Int} (h:(tkAt l i).kind=0):dcls l F fb f (g + 1) i=.ok [] (i + 1):=by rw [dcls,if_pos h]
end
end Go.Proofs.YtfcgoainglpdlaaGreatDoor
