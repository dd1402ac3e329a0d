/- Plain facts about tokens of a text: layout, pieces, what is wrong first. Nothing of the program is imported; no condition. How many tokens may stand before one is wrong, and how long a token may be that is right: plain facts. Plain facts about pieces, for the document's own lexer: when a piece of .. -/
import Derived.Laws.RangeAny
namespace Go.Proofs.YtfcgoainglpdlaaGreatDoor
def lay (c:UInt8):Bool:=c == 9 || c == 10 || c == 13 || c == 32
def ltr (c:UInt8):Bool:=(decide (65≤c.toNat) && decide (c.toNat≤90)) || (decide (97≤c.toNat) && decide (c.toNat≤122)) || c == 95
def dgt (c:UInt8):Bool:=decide (48≤c.toNat) && decide (c.toNat≤57)
def nam (c:UInt8):Bool:=ltr c || dgt c
def pla (c:UInt8):Bool:=decide (32≤c.toNat) && decide (c.toNat≤126)
def ne10 (c:UInt8):Bool:=c != 10
def ne34 (c:UInt8):Bool:=c != 34
def syms:List UInt8:=[40,41,123,125,91,93,44,59,46,61,60,43,45,42,33]
def kws:List (List UInt8):=[[112,97,99,107,97,103,101],[105,109,112,111,114,116],[116,121,112,101],[115,116,114,117,99,116],[105,110,116,101,114,102,97,99,101],[102,117,110,99],[108,101,116],[105,102],[101,108,115,101],[102,111,114],[114,101,116,117,114,110],[110,101,119],[116,114,117,101],[102,97,108,115,101],[105,110,116],[98,111,111,108],[116,101,120,116]]
def kw (l:List UInt8):Bool:=decide (l ∈ kws)
def run (p:UInt8→Bool):List UInt8→Nat
 |[]=>0
 |c::r=>if p c then run p r + 1 else 0
def skp:Bool→List UInt8→Nat
 |_,[]=>0
 |true,c::r=>if c=10 then skp false r + 1 else skp true r + 1
 |false,c::r=>if lay c then skp false r + 1 else if c=47∧r.head?=some 47 then skp true r + 1 else 0
theorem run_le (p:UInt8→Bool) (l:List UInt8):run p l≤l.length:=by
 induction l with
 |nil=>exact Nat.le_refl _
 |cons c r ih=>simp only [run,List.length_cons];split <;> omega
theorem run_hit {p:UInt8→Bool} {c:UInt8} (r:List UInt8) (h:p c=true):run p (c::r)=run p r + 1:=by simp [run,h]
theorem run_miss {p:UInt8→Bool} {c:UInt8} (r:List UInt8) (h:p c=false):run p (c::r)=0:=by simp [run,h]
theorem skp_le (b:Bool) (l:List UInt8):skp b l≤l.length:=by
 induction l generalizing b with
 |nil=>simp [skp]
 |cons c r ih =>
  have h1:=ih true
  have h2:=ih false
  cases b
  ·simp only [skp,List.length_cons]
   split
   ·omega
   ·split <;> omega
  ·simp only [skp,List.length_cons]
   split <;> omega
theorem skp_true (l:List UInt8):skp true l=run ne10 l + skp false (l.drop (run ne10 l)):=by
 induction l with
 |nil=>rfl
 |cons c r ih =>
  by_cases h:c=10
  ·subst h
   rw [run_miss r (by decide)]
   simp [skp,lay]
  ·rw [run_hit r (by simpa [ne10] using h),List.drop_succ_cons]
   have e:skp true (c::r)=skp true r + 1:=by simp only [skp];rw [if_neg h]
   rw [e,ih];omega
theorem skp_layout (c:UInt8) (r:List UInt8) (h:lay c=true):skp false (c::r)=skp false r + 1:=by simp [skp,h]
theorem skp_comment (r:List UInt8):skp false (47::47::r)=skp true (47::47::r):=by simp [skp,lay]
theorem skp_stop (c:UInt8) (r:List UInt8) (h:lay c=false) (h2:¬ (c=47∧r.head?=some 47)):skp false (c::r)=0:=by
 simp only [skp,h,Bool.false_eq_true,if_false];rw [if_neg h2]
theorem skp_again (b:Bool) (l:List UInt8):skp false (l.drop (skp b l))=0:=by
 induction l generalizing b with
 |nil=>simp [skp]
 |cons c r ih =>
  have h1:=ih true
  have h2:=ih false
  cases b <;> simp only [skp]
  ·split
   ·simpa using h2
   ·split
    ·simpa using h1
    ·rename_i h3 h4
     simp only [List.drop_zero]
     exact skp_stop c r (by simpa using h3) h4
  ·split
   ·simpa using h2
   ·simpa using h1
def kln:List UInt8→Int × Nat
 |[]=>(0,0)
 |c::r =>
  if ltr c then (if kw ((c::r).take (run nam (c::r))) then 5 else 1,run nam (c::r))
  else if dgt c then (2,run dgt (c::r))
  else if c=34 then (3,if run ne34 r < r.length then run ne34 r + 2 else r.length + 1)
  else if (c=61∧r.head?=some 61)∨(c=38∧r.head?=some 38) then (4,2)
  else if c ∈ syms then (4,1) else (-1,1)
theorem nam_of_ltr {c:UInt8} (h:ltr c=true):nam c=true:=by simp [nam,h]
theorem kln_cons (c:UInt8) (r:List UInt8):kln (c::r) =
  if ltr c then (if kw ((c::r).take (run nam (c::r))) then 5 else 1,run nam (c::r))
  else if dgt c then (2,run dgt (c::r))
  else if c=34 then (3,if run ne34 r < r.length then run ne34 r + 2 else r.length + 1)
  else if (c=61∧r.head?=some 61)∨(c=38∧r.head?=some 38) then (4,2)
  else if c ∈ syms then (4,1) else (-1,1):=rfl
theorem kln_pos (c:UInt8) (r:List UInt8):1≤(kln (c::r)).2∧(kln (c::r)).2≤(c::r).length:=by
 have hr:=run_le ne34 r
 have hn:=run_le nam (c::r)
 have hd:=run_le dgt (c::r)
 rw [kln_cons]
 by_cases h1:ltr c=true
 ·rw [if_pos h1]
  refine ⟨?_,hn⟩
  rw [run_hit r (nam_of_ltr h1)];omega
 ·rw [if_neg h1]
  by_cases h2:dgt c=true
  ·rw [if_pos h2]
   refine ⟨?_,hd⟩
   rw [run_hit r h2];omega
  ·rw [if_neg h2]
   by_cases h3:c=34
   ·rw [if_pos h3];simp only [List.length_cons];split <;> omega
   ·rw [if_neg h3]
    by_cases h4:(c=61∧r.head?=some 61)∨(c=38∧r.head?=some 38)
    ·rw [if_pos h4]
     have hr:r≠[]:=by rintro rfl;simp at h4
     have:=List.length_pos_iff.2 hr
     simp only [List.length_cons];omega
    ·rw [if_neg h4];split <;> simp
def num (t:List UInt8):Bool:=decide (t.length≤15) && (t.head? != some 48 || decide (t.length=1))
def quo:List UInt8→Bool
 |[]=>false
 |_::q=>decide (q.getLast?=some 34) && decide (q.dropLast.length≤200) && decide (run pla q.dropLast=q.dropLast.length)
def flt (k:Int) (t:List UInt8) (before:Nat):Int :=
 if k=0 then 0 else if 4000≤before then 6 else if k=-1 then 1 else if k=2∧num t=false then 2 else if k=3∧quo t=false then 3 else if k=1∧40 < t.length then 4 else 0
structure Tok where
 kind:Int
 pos:Nat
 stop:Nat
 text:List UInt8
deriving DecidableEq
def pcs:Nat→Nat→List UInt8→List Tok
 |0,_,_=>[]
 |f + 1,at',l =>
  if l.drop (skp false l)=[] then []
  else ⟨(kln (l.drop (skp false l))).1,at' + skp false l,at' + skp false l + (kln (l.drop (skp false l))).2,(l.drop (skp false l)).take (kln (l.drop (skp false l))).2⟩
   :: pcs f (at' + skp false l + (kln (l.drop (skp false l))).2) ((l.drop (skp false l)).drop (kln (l.drop (skp false l))).2)
theorem kln_pos' {l:List UInt8} (h:l≠[]):1≤(kln l).2∧(kln l).2≤l.length:=by
 cases l with
 |nil=>exact absurd rfl h
 |cons c r=>exact kln_pos c r
theorem pcs_fuel (f g at':Nat) (l:List UInt8) (hf:l.length≤f) (hg:l.length≤g):pcs f at' l=pcs g at' l:=by
 induction f generalizing g at' l with
 |zero =>
  have h0:l=[]:=List.eq_nil_of_length_eq_zero (by omega)
  subst h0
  cases g <;> simp [pcs]
 |succ f ih =>
  cases g with
  |zero =>
   have h0:l=[]:=List.eq_nil_of_length_eq_zero (by omega)
   subst h0
   simp [pcs]
  |succ g =>
   simp only [pcs]
   split
   ·rfl
   ·rename_i h
    have hp:=kln_pos' h
    rw [ih g]
    all_goals simp only [List.length_drop] at *;omega
def pcsAt (at':Nat) (l:List UInt8):List Tok:=pcs l.length at' l
theorem pcsAt_end (at':Nat) (l:List UInt8) (h:l.drop (skp false l)=[]):pcsAt at' l=[]:=by
 unfold pcsAt
 cases hl:l.length with
 |zero=>rfl
 |succ n=>simp [pcs,h]
theorem pcsAt_cons (at':Nat) (l:List UInt8) (h:l.drop (skp false l)≠[]) :
  pcsAt at' l=⟨(kln (l.drop (skp false l))).1,at' + skp false l,at' + skp false l + (kln (l.drop (skp false l))).2,(l.drop (skp false l)).take (kln (l.drop (skp false l))).2⟩
   :: pcsAt (at' + skp false l + (kln (l.drop (skp false l))).2) ((l.drop (skp false l)).drop (kln (l.drop (skp false l))).2):=by
 have hp:=kln_pos' h
 unfold pcsAt
 cases hl:l.length with
 |zero=>rw [List.eq_nil_of_length_eq_zero hl] at h;simp at h
 |succ n =>
  simp only [pcs]
  rw [if_neg h]
  congr 1
  apply pcs_fuel
  ·simp only [List.length_drop] at *;omega
  ·exact Nat.le_refl _
theorem pcsAt_skip (at':Nat) (l:List UInt8):pcsAt at' l=pcsAt (at' + skp false l) (l.drop (skp false l)):=by
 have hz:=skp_again false l
 by_cases h:l.drop (skp false l)=[]
 ·rw [pcsAt_end at' l h,pcsAt_end _ _ (by rw [hz];simpa using h)]
 ·rw [pcsAt_cons at' l h,pcsAt_cons _ (l.drop (skp false l)) (by rw [hz];simpa using h),hz]
  simp
def endTok (l:List UInt8):Tok:=⟨0,l.length,l.length,[]⟩
def toks (l:List UInt8):List Tok:=pcsAt 0 l++[endTok l]
def bad:List Tok→Nat→Option (Nat × Int)
 |[],_=>none
 |t::r,n=>if flt t.kind t.text n=0 then bad r (n + 1) else some (t.pos,flt t.kind t.text n)
def lexed (l:List UInt8):List Tok × Nat × Int :=
 match bad (toks l) 0 with
 |none=>(toks l,0,0)
 |some (a,c)=>([],a,c)
theorem bad_append (a b:List Tok) (n:Nat) (h:bad a n=none):bad (a++b) n=bad b (n + a.length):=by
 induction a generalizing n with
 |nil=>rfl
 |cons t r ih =>
  simp only [bad,List.cons_append,List.length_cons] at *
  split at h
  ·rename_i h0;rw [if_pos h0,ih _ h];congr 1;omega
  ·cases h
theorem bad_append_some (a b:List Tok) (n:Nat) {x:Nat × Int} (h:bad a n=some x):bad (a++b) n=some x:=by
 induction a generalizing n with
 |nil=>cases h
 |cons t r ih =>
  simp only [bad,List.cons_append] at *
  split at h
  ·rename_i h0;rw [if_pos h0,ih _ h]
  ·rename_i h0;rw [if_neg h0];exact h
def okTok (n:Nat) (t:Tok):Prop:=t.pos≤n∧t.stop≤n∧t.text.length≤n∧-1≤t.kind∧t.kind≤5∧(t.kind≠0→t.text≠[])
theorem kln_kind (l:List UInt8):-1≤(kln l).1∧(kln l).1≤5:=by
 cases l with
 |nil=>simp [kln]
 |cons c r =>
  rw [kln_cons]
  split
  ·simp only;split <;> omega
  ·split
   ·simp only;omega
   ·split
    ·simp only;omega
    ·split
     ·simp only;omega
     ·split <;> simp
theorem pcs_ok (f at':Nat) (l:List UInt8):∀ t ∈ pcs f at' l,okTok (at' + l.length) t:=by
 induction f generalizing at' l with
 |zero=>simp [pcs]
 |succ f ih =>
  simp only [pcs]
  split
  ·simp
  ·rename_i h
   have hp:=kln_pos' h
   have hs:=skp_le false l
   have hk:=kln_kind (l.drop (skp false l))
   intro t ht
   rcases List.mem_cons.1 ht with rfl | ht
   ·refine ⟨?_,?_,?_,hk.1,hk.2,fun _=>?_⟩
    ·simp only;omega
    ·simp only [List.length_drop] at *;omega
    ·simp only [List.length_take,List.length_drop] at *;omega
    ·simp only
     intro h0
     have:=congrArg List.length h0
     simp only [List.length_take,List.length_drop,List.length_nil] at *
     omega
   ·have:=ih _ _ t ht
    simp only [List.length_drop] at *
    obtain ⟨a,b,c,d,e,f⟩:=this
    exact ⟨by omega,by omega,by omega,d,e,f⟩
theorem toks_ok (l:List UInt8):∀ t ∈ toks l,okTok l.length t:=by
 intro t ht
 unfold toks pcsAt at ht
 rcases List.mem_append.1 ht with h | h
 ·have:=pcs_ok _ _ _ t h;simpa using this
 ·simp at h;subst h;exact ⟨Nat.le_refl _,Nat.le_refl _,Nat.zero_le _,by show (-1:Int)≤0;omega,by show (0:Int)≤5;omega,fun h=>absurd rfl h⟩
theorem flt_zero (t:List UInt8) (n:Nat):flt 0 t n=0:=by simp [flt]
theorem flt_count {k:Int} {t:List UInt8} {n:Nat} (h:flt k t n=0) (hk:k≠0):n < 4000:=by
 unfold flt at h
 rw [if_neg hk] at h
 split at h
 ·omega
 ·omega
end Go.Proofs.YtfcgoainglpdlaaGreatDoor
namespace Go.Proofs.YtfcgoainglpdlaaGreatDoor
theorem kln_nonzero {l:List UInt8} (h:l≠[]):(kln l).1≠0:=by
 cases l with
 |nil=>exact absurd rfl h
 |cons c r =>
  rw [kln_cons]
  split
  ·simp only;split <;> omega
  ·split
   ·simp only;omega
   ·split
    ·simp only;omega
    ·split
     ·simp only;omega
     ·split <;> simp
theorem pcs_nonzero (f at':Nat) (l:List UInt8):∀ t ∈ pcs f at' l,t.kind≠0:=by
 induction f generalizing at' l with
 |zero=>simp [pcs]
 |succ f ih =>
  simp only [pcs]
  split
  ·simp
  ·rename_i h
   intro t ht
   rcases List.mem_cons.1 ht with rfl | ht
   ·exact kln_nonzero h
   ·exact ih _ _ t ht
theorem bad_count (ts:List Tok):∀ n,n≤4000→bad ts n=none→(∀ t ∈ ts,t.kind≠0)→n + ts.length≤4000:=by
 induction ts with
 |nil=>intro n hn _ _;simpa using hn
 |cons t r ih =>
  intro n hn hb hk
  simp only [bad] at hb
  split at hb
  ·rename_i h0
   have h1:=flt_count h0 (hk t (List.mem_cons_self ..))
   have h2:=ih (n + 1) (by omega) hb (fun u hu=>hk u (List.mem_cons_of_mem _ hu))
   simp only [List.length_cons];omega
  ·cases hb
theorem pre_count {l:List UInt8} {pre:List Tok} {x:Tok} (h:pre++[x] <+: toks l) (hb:bad pre 0=none):pre.length≤4000:=by
 have h1:pre <+: toks l:=(List.prefix_append pre [x]).trans h
 have h2:=h.length_le
 have h3:pre <+: pcsAt 0 l:=by
  refine List.prefix_of_prefix_length_le h1 ?_ ?_
  ·exact List.prefix_append _ _
  ·unfold toks at h2
   simp only [List.length_append,List.length_cons,List.length_nil] at h2
   omega
 have:=bad_count pre 0 (by omega) hb (fun t ht=>pcs_nonzero _ _ _ t (h3.subset ht))
 omega
theorem good_len {l:List UInt8} (h:bad (toks l) 0=none):(toks l).length≤4001:=by
 have h1:bad (pcsAt 0 l) 0=none:=by
  cases hb:bad (pcsAt 0 l) 0 with
  |none=>rfl
  |some x=>unfold toks at h;rw [bad_append_some _ _ _ hb] at h;cases h
 have:=bad_count (pcsAt 0 l) 0 (by omega) h1 (fun t ht=>pcs_nonzero _ _ _ t ht)
 unfold toks
 rw [List.length_append];simp only [List.length_cons,List.length_nil];omega
theorem lexed_few {l:List UInt8} {ts:List Tok} {a:Nat} {c:Int} (hl:lexed l=(ts,a,c)):ts.length≤4001:=by
 unfold lexed at hl
 split at hl
 ·rename_i h
  injection hl with hl _
  rw [← hl];exact good_len h
 ·injection hl with hl _
  rw [← hl];simp
theorem kln_short (l:List UInt8) (n:Nat) (h:flt (kln l).1 (l.take (kln l).2) n=0):(l.take (kln l).2).length≤300:=by
 cases l with
 |nil=>simp
 |cons c r =>
  rw [kln_cons] at h ⊢
  split at h
  ·rename_i h1
   rw [if_pos h1]
   simp only at h ⊢
   generalize (c::r).take (run nam (c::r))=t at *
   by_cases hk:kw t=true
   ·have hm:t ∈ kws:=by simpa [kw] using hk
    have:∀ u ∈ kws,u.length≤300:=by decide
    exact this t hm
   ·rw [if_neg hk] at h
    unfold flt at h
    rw [if_neg (by decide)] at h
    split at h
    ·omega
    ·rw [if_neg (by decide),if_neg (by simp),if_neg (by simp)] at h
     split at h
     ·omega
     ·rename_i h2;omega
  ·rename_i h1
   rw [if_neg h1]
   split at h
   ·rename_i h2
    rw [if_pos h2]
    simp only at h ⊢
    generalize (c::r).take (run dgt (c::r))=t at *
    unfold flt at h
    rw [if_neg (by decide)] at h
    split at h
    ·omega
    ·rw [if_neg (by decide)] at h
     split at h
     ·omega
     ·rename_i h3
      have:num t=true:=by
       cases hn:num t
       ·exact absurd ⟨rfl,hn⟩ h3
       ·rfl
      unfold num at this
      simp at this
      omega
   ·rename_i h2
    rw [if_neg h2]
    split at h
    ·rename_i h3
     rw [if_pos h3]
     simp only at h ⊢
     generalize (c::r).take (if run ne34 r < r.length then run ne34 r + 2 else r.length + 1)=t at *
     unfold flt at h
     rw [if_neg (by decide)] at h
     split at h
     ·omega
     ·rw [if_neg (by decide),if_neg (by simp)] at h
      split at h
      ·omega
      ·rename_i h4
       have:quo t=true:=by
        cases hn:quo t
        ·exact absurd ⟨rfl,hn⟩ h4
        ·rfl
       cases t with
       |nil=>simp
       |cons d q =>
        simp [quo] at this
        simp only [List.length_cons]
        omega
    ·rename_i h3
     rw [if_neg h3]
     split at h
     ·rename_i h4
      rw [if_pos h4]
      simp only [List.length_take];omega
     ·rename_i h4
      rw [if_neg h4]
      split <;> (simp only [List.length_take];omega)
theorem pcs_short (f at':Nat) (l:List UInt8):∀ t ∈ pcs f at' l,∀ n,flt t.kind t.text n=0→t.text.length≤300:=by
 induction f generalizing at' l with
 |zero=>simp [pcs]
 |succ f ih =>
  simp only [pcs]
  split
  ·simp
  ·intro t ht
   rcases List.mem_cons.1 ht with rfl | ht
   ·exact fun n h=>kln_short _ n h
   ·exact ih _ _ t ht
theorem toks_short (l:List UInt8) (t:Tok) (ht:t ∈ toks l) (n:Nat) (h:flt t.kind t.text n=0):t.text.length≤300:=by
 unfold toks pcsAt at ht
 rcases List.mem_append.1 ht with h1 | h1
 ·exact pcs_short _ _ _ t h1 n h
 ·simp at h1;subst h1;simp [endTok]
end Go.Proofs.YtfcgoainglpdlaaGreatDoor
namespace Go.Proofs.YtfcgoainglpdlaaGreatDoor
theorem run_take (p:UInt8→Bool) (l:List UInt8):run p (l.take (run p l))=run p l:=by
 induction l with
 |nil=>rfl
 |cons c r ih =>
  by_cases hc:p c=true
  ·rw [run_hit r hc,List.take_succ_cons,run_hit _ hc,ih]
  ·rw [run_miss r (by simpa using hc)];rfl
theorem run_stop (p:UInt8→Bool) (l:List UInt8) (h:run p l < l.length):∃ c r,l.drop (run p l)=c::r∧p c=false:=by
 induction l with
 |nil=>simp at h
 |cons c r ih =>
  by_cases hc:p c=true
  ·rw [run_hit r hc] at h ⊢
   rw [List.drop_succ_cons]
   exact ih (by simp only [List.length_cons] at h;omega)
  ·exact ⟨c,r,by rw [run_miss r (by simpa using hc)];rfl,by simpa using hc⟩
end Go.Proofs.YtfcgoainglpdlaaGreatDoor
namespace Go.Proofs.YtfcgoainglpdlaaGreatDoor
def sh (n:Nat) (t:Tok):Tok:=⟨t.kind,t.pos + n,t.stop + n,t.text⟩
theorem pcs_shift (f at' n:Nat) (l:List UInt8):pcs f (at' + n) l=(pcs f at' l).map (sh n):=by
 induction f generalizing at' l with
 |zero=>rfl
 |succ f ih =>
  simp only [pcs]
  split
  ·rfl
  ·rw [List.map_cons,← ih]
   congr 1
   ·simp only [sh,Tok.mk.injEq,true_and,and_true];constructor <;> omega
   ·congr 1;omega
theorem pcsAt_shift (at' n:Nat) (l:List UInt8):pcsAt (at' + n) l=(pcsAt at' l).map (sh n):=pcs_shift _ _ _ _
theorem run_app_stop (p:UInt8→Bool) (l m:List UInt8) (x:UInt8) (hx:p x=false):run p (l++x::m)=run p l:=by
 induction l with
 |nil=>rw [List.nil_append,run_miss m hx];rfl
 |cons c r ih =>
  by_cases hc:p c=true
  ·rw [List.cons_append,run_hit _ hc,run_hit _ hc,ih]
  ·rw [List.cons_append,run_miss _ (by simpa using hc),run_miss _ (by simpa using hc)]
theorem run_app_lt (p:UInt8→Bool) (l m:List UInt8) (h:run p l < l.length):run p (l++m)=run p l:=by
 induction l with
 |nil=>simp at h
 |cons c r ih =>
  by_cases hc:p c=true
  ·rw [run_hit r hc,List.length_cons] at h
   rw [List.cons_append,run_hit _ hc,run_hit _ hc,ih (by omega)]
  ·rw [List.cons_append,run_miss _ (by simpa using hc),run_miss _ (by simpa using hc)]
def shut:List UInt8→Prop
 |[]=>True
 |c::r=>c=34→run ne34 r < r.length
def sep (x:UInt8):Prop:=nam x=false∧dgt x=false∧x≠61∧x≠38
theorem ltr34:ltr 34=false:=by decide
theorem dgt34:dgt 34=false:=by decide
theorem kln_app (l m:List UInt8) (x:UInt8) (hx:sep x) (hl:l≠[]) (hs:shut l):kln (l++x::m)=kln l:=by
 obtain ⟨x1,x2,x3,x4⟩:=hx
 cases l with
 |nil=>exact absurd rfl hl
 |cons c r =>
  rw [List.cons_append,kln_cons,kln_cons]
  have e1:run nam (c::(r++x::m))=run nam (c::r):=run_app_stop nam (c::r) m x x1
  have e2:run dgt (c::(r++x::m))=run dgt (c::r):=run_app_stop dgt (c::r) m x x2
  have hn:=run_le nam (c::r)
  have e3:(c::(r++x::m)).take (run nam (c::r))=(c::r).take (run nam (c::r)):=by
   rw [← List.cons_append,List.take_append_of_le_length hn]
  have e4:((c=61∧(r++x::m).head?=some 61)∨(c=38∧(r++x::m).head?=some 38)) ↔ ((c=61∧r.head?=some 61)∨(c=38∧r.head?=some 38)):=by
   cases r with
   |nil=>simp [x3,x4]
   |cons d r=>simp
  rw [e1,e2,e3]
  by_cases h1:ltr c=true
  ·rw [if_pos h1,if_pos h1]
  ·rw [if_neg h1,if_neg h1]
   by_cases h2:dgt c=true
   ·rw [if_pos h2,if_pos h2]
   ·rw [if_neg h2,if_neg h2]
    by_cases h3:c=34
    ·have hlt:=hs h3
     rw [if_pos h3,if_pos h3,run_app_lt _ _ _ hlt,if_pos hlt,if_pos (by rw [List.length_append];omega)]
    ·rw [if_neg h3,if_neg h3]
     simp only [e4]
theorem kln_self (l:List UInt8) (hl:l≠[]) (hs:shut l):kln (l.take (kln l).2)=kln l∧(l.take (kln l).2).length=(kln l).2∧shut (l.take (kln l).2):=by
 have hp:=kln_pos' hl
 have hlen:(l.take (kln l).2).length=(kln l).2:=by rw [List.length_take];omega
 refine ⟨?_,hlen,?_⟩
 ·cases l with
  |nil=>exact absurd rfl hl
  |cons c r =>
   have hk:=kln_cons c r
   obtain ⟨n,hn⟩:∃ n,(kln (c::r)).2=n + 1:=⟨(kln (c::r)).2 - 1,by omega⟩
   have ht:(c::r).take (kln (c::r)).2=c::r.take n:=by rw [hn,List.take_succ_cons]
   have hk2:=kln_cons c (r.take n)
   rw [ht,hk2]
   by_cases h1:ltr c=true
   ·rw [if_pos h1] at hk ⊢
    have e2:(kln (c::r)).2=run nam (c::r):=by rw [hk]
    have e3:run nam (c::r.take n)=run nam (c::r):=by rw [← ht,e2,run_take]
    rw [hk,e3,← ht,e2,List.take_take,Nat.min_self]
   ·rw [if_neg h1] at hk ⊢
    by_cases h2:dgt c=true
    ·rw [if_pos h2] at hk ⊢
     have e2:(kln (c::r)).2=run dgt (c::r):=by rw [hk]
     have e3:run dgt (c::r.take n)=run dgt (c::r):=by rw [← ht,e2,run_take]
     rw [hk,e3]
    ·rw [if_neg h2] at hk ⊢
     by_cases h3:c=34
     ·have hlt:=hs h3
      rw [if_pos h3,if_pos hlt] at hk
      rw [if_pos h3]
      have e2:n=run ne34 r + 1:=by
       have:(kln (c::r)).2=run ne34 r + 2:=by rw [hk]
       omega
      have e3:run ne34 (r.take n)=run ne34 r:=by
       have h4:r.take n++r.drop n=r:=List.take_append_drop _ _
       have h5:run ne34 (r.take (run ne34 r))=run ne34 r:=run_take _ _
       have h6:r.take n=r.take (run ne34 r)++(r.drop (run ne34 r)).take 1:=by
        rw [e2,List.take_add]
       obtain ⟨d,r',hd,hdd⟩:=run_stop ne34 r hlt
       rw [h6,hd]
       have h7:(d::r').take 1=d::[]:=rfl
       rw [h7,run_app_stop _ _ _ _ hdd,h5]
      have e4:(r.take n).length=n:=by rw [List.length_take];omega
      rw [hk,e3,e4,if_pos (by omega)]
     ·rw [if_neg h3] at hk ⊢
      by_cases h4:(c=61∧r.head?=some 61)∨(c=38∧r.head?=some 38)
      ·rw [if_pos h4] at hk
       have e2:n=1:=by
        have:(kln (c::r)).2=2:=by rw [hk]
        omega
       have e3:(r.take n).head?=r.head?:=by rw [e2];cases r <;> rfl
       rw [e3,if_pos h4,hk]
      ·rw [if_neg h4] at hk
       have e2:n=0:=by
        have:(kln (c::r)).2=1:=by rw [hk];split <;> rfl
        omega
       rw [e2,List.take_zero]
       rw [if_neg (by simp),hk]
 ·cases l with
  |nil=>exact absurd rfl hl
  |cons c r =>
   obtain ⟨n,hn⟩:∃ n,(kln (c::r)).2=n + 1:=⟨(kln (c::r)).2 - 1,by omega⟩
   rw [hn,List.take_succ_cons]
   intro h3
   have hlt:=hs h3
   have hk:=kln_cons c r
   rw [h3,if_neg (by rw [ltr34];simp),if_neg (by rw [dgt34];simp),if_pos rfl,if_pos hlt] at hk
   have e2:n=run ne34 r + 1:=by
    have:(kln (c::r)).2=run ne34 r + 2:=by rw [h3,hk]
    omega
   have h6:r.take n=r.take (run ne34 r)++(r.drop (run ne34 r)).take 1:=by rw [e2,List.take_add]
   obtain ⟨d,r',hd,hdd⟩:=run_stop ne34 r hlt
   rw [h6,hd]
   have h7:(d::r').take 1=d::[]:=rfl
   rw [h7,run_app_stop _ _ _ _ hdd,run_take]
   simp only [List.length_append,List.length_take,List.length_cons,List.length_nil]
   omega
def fine (t:Tok):Prop:=∃ c r,t.text=c::r∧lay c=false∧c≠47∧kln t.text=(t.kind,t.text.length)∧shut t.text
theorem quo_shut (r:List UInt8) (h:¬ run ne34 r < r.length):quo (34::r)=false:=by
 have hne:r.getLast?≠some 34:=fun e=>by
  have hm:=List.mem_of_getLast? e
  have hall:∀ c ∈ r,ne34 c=true:=by
   have h0:run ne34 r=r.length:=by have:=run_le ne34 r;omega
   clear e hm h
   induction r with
   |nil=>simp
   |cons c r ih =>
    by_cases hc:ne34 c=true
    ·rw [run_hit r hc,List.length_cons] at h0
     intro x hx
     rcases List.mem_cons.1 hx with rfl | hx
     ·exact hc
     ·exact ih (by omega) x hx
    ·rw [run_miss r (by simpa using hc)] at h0;simp at h0
  have:=hall 34 hm
  revert this;decide
 simp [quo,hne]
theorem fine_first (l:List UInt8) (at' n:Nat) (hl:l≠[]) (hz:skp false l=0) (h:flt (kln l).1 (l.take (kln l).2) n=0) :
  shut l∧fine ⟨(kln l).1,at',at' + (kln l).2,l.take (kln l).2⟩:=by
 have hp:=kln_pos' hl
 have hs:shut l:=by
  cases l with
  |nil=>exact absurd rfl hl
  |cons c r =>
   intro h3
   have hk:=kln_cons c r
   rw [h3,if_neg (by rw [ltr34];simp),if_neg (by rw [dgt34];simp),if_pos rfl] at hk
   by_cases hlt:run ne34 r < r.length
   ·exact hlt
   ·exfalso
    rw [if_neg hlt] at hk
    rw [h3,hk] at h
    have ht:(34::r).take (r.length + 1)=34::r:=List.take_of_length_le (by simp)
    simp only [ht] at h
    have hq:=quo_shut r hlt
    unfold flt at h
    rw [if_neg (by decide)] at h
    split at h
    ·simp at h
    ·simp [hq] at h
 refine ⟨hs,?_⟩
 obtain ⟨k1,k2,k3⟩:=kln_self l hl hs
 cases l with
 |nil=>exact absurd rfl hl
 |cons c r =>
  obtain ⟨m,hm⟩:∃ m,(kln (c::r)).2=m + 1:=⟨(kln (c::r)).2 - 1,by omega⟩
  have ht:(c::r).take (kln (c::r)).2=c::r.take m:=by rw [hm,List.take_succ_cons]
  refine ⟨c,r.take m,ht,?_,?_,?_,k3⟩
  ·by_cases hc:lay c=true
   ·rw [skp_layout c r hc] at hz;omega
   ·simpa using hc
  ·intro e
   subst e
   have hk:=kln_cons 47 r
   rw [if_neg (by decide),if_neg (by decide),if_neg (by decide),if_neg (by simp),if_neg (by decide)] at hk
   rw [hk] at h
   unfold flt at h
   rw [if_neg (by decide)] at h
   split at h
   ·simp at h
   ·simp at h
  ·show kln ((c::r).take (kln (c::r)).2)=_
   rw [k1]
   exact Prod.ext rfl k2.symm
theorem bad_cons {t:Tok} {r:List Tok} {n:Nat} (h:bad (t::r) n=none):flt t.kind t.text n=0∧bad r (n + 1)=none:=by
 simp only [bad] at h
 split at h
 ·rename_i h0;exact ⟨h0,h⟩
 ·cases h
theorem pcsAt_ind {P:Nat→List UInt8→Prop} (h0:∀ a l,l.drop (skp false l)=[]→P a l)
  (h1:∀ a l,l.drop (skp false l)≠[]→P (a + skp false l + (kln (l.drop (skp false l))).2) ((l.drop (skp false l)).drop (kln (l.drop (skp false l))).2)→P a l) (a:Nat) (l:List UInt8):P a l:=by
 suffices h:∀ n (a:Nat) (l:List UInt8),l.length≤n→P a l from h _ a l (Nat.le_refl _)
 intro n
 induction n with
 |zero=>intro a l hl;exact h0 a l (List.drop_eq_nil_of_le (by omega))
 |succ n ih =>
  intro a l hl
  by_cases h:l.drop (skp false l)=[]
  ·exact h0 a l h
  ·have hp:=kln_pos' h
   exact h1 a l h (ih _ _ (by simp only [List.length_drop] at *;omega))
theorem good_fine (a:Nat) (l:List UInt8):∀ n,bad (pcsAt a l) n=none→∀ t ∈ pcsAt a l,fine t:=by
 refine pcsAt_ind (P:=fun a l=>∀ n,bad (pcsAt a l) n=none→∀ t ∈ pcsAt a l,fine t) (fun a l h n _ t ht=>by rw [pcsAt_end a l h] at ht;cases ht) (fun a l h ih n hb t ht=>?_) a l
 rw [pcsAt_cons a l h] at hb ht
 obtain ⟨hf,hb⟩:=bad_cons hb
 rcases List.mem_cons.1 ht with rfl | ht
 ·exact (fine_first _ _ n h (skp_again false l) hf).2
 ·exact ih _ hb t ht
theorem lexed_good' {l:List UInt8} (h:bad (toks l) 0=none):lexed l=(toks l,0,0):=by unfold lexed;rw [h]
theorem lexed_bad' {l:List UInt8} {a:Nat} {c:Int} (h:bad (toks l) 0=some (a,c)):lexed l=([],a,c):=by unfold lexed;rw [h]
theorem lexed_cases (l:List UInt8):(bad (toks l) 0=none∧lexed l=(toks l,0,0))∨∃ a c,bad (toks l) 0=some (a,c)∧lexed l=([],a,c):=by
 cases h:bad (toks l) 0 with
 |none=>exact .inl ⟨rfl,lexed_good' h⟩
 |some x=>exact .inr ⟨x.1,x.2,rfl,lexed_bad' h⟩
theorem bad_some {ts:List Tok} {n a:Nat} {c:Int} (h:bad ts n=some (a,c)):c≠0∧∃ t ∈ ts,t.pos=a∧t.kind≠0:=by
 induction ts generalizing n with
 |nil=>cases h
 |cons t r ih =>
  simp only [bad] at h
  split at h
  ·obtain ⟨h1,u,hu,h2⟩:=ih h
   exact ⟨h1,u,List.mem_cons_of_mem _ hu,h2⟩
  ·rename_i h0
   injection h with h
   injection h with h1 h2
   refine ⟨by rw [← h2];exact h0,t,List.mem_cons_self,h1,fun hk=>h0 ?_⟩
   rw [hk];exact flt_zero _ _
theorem bad_end (ts:List Tok) (e:Tok) (he:e.kind=0) (n:Nat):bad (ts++[e]) n=bad ts n:=by
 induction ts generalizing n with
 |nil=>simp [bad,he,flt]
 |cons t r ih =>
  simp only [List.cons_append,bad]
  rw [ih]
theorem bad_toks (l:List UInt8) (n:Nat):bad (toks l) n=bad (pcsAt 0 l) n:=bad_end _ _ rfl n
end Go.Proofs.YtfcgoainglpdlaaGreatDoor
namespace Go.Proofs.YtfcgoainglpdlaaGreatDoor
abbrev Key:=Int × List UInt8
def keyZ (t:Tok):Key:=(t.kind,t.text)
def keys (l:List UInt8):List Key:=(pcsAt 0 l).map keyZ
theorem keys_at (a:Nat) (l:List UInt8):(pcsAt a l).map keyZ=keys l:=by
 have h:=pcsAt_shift 0 a l
 rw [Nat.zero_add] at h
 rw [h,List.map_map]
 rfl
theorem keys_nil:keys []=[]:=by
 unfold keys
 rw [pcsAt_end 0 [] (by simp [skp])]
 rfl
theorem keys_lay (c:UInt8) (m:List UInt8) (h:lay c=true):keys (c::m)=keys m:=by
 have e1:keys (c::m)=(pcsAt (0 + skp false (c::m)) ((c::m).drop (skp false (c::m)))).map keyZ:=congrArg (List.map keyZ) (pcsAt_skip 0 (c::m))
 have e2:keys m=(pcsAt (0 + skp false m) (m.drop (skp false m))).map keyZ:=congrArg (List.map keyZ) (pcsAt_skip 0 m)
 rw [e1,e2,skp_layout c m h,List.drop_succ_cons,keys_at,keys_at]
def fineK (q:Key):Prop:=∃ c r,q.2=c::r∧lay c=false∧c≠47∧kln q.2=(q.1,q.2.length)∧shut q.2
def okK (q:Key):Prop:=fineK q∧flt q.1 q.2 0=0
def Sp (m:List UInt8):Prop:=m=[]∨∃ x r,m=x::r∧sep x
def Sh (s:List UInt8):Prop:=∃ x r,s=x::r∧sep x
theorem Sh.sp {s:List UInt8} (h:Sh s) (m:List UInt8):Sp (s++m):=by
 obtain ⟨x,r,rfl,h⟩:=h
 exact .inr ⟨x,r++m,rfl,h⟩
theorem keys_one (k:Int) (T m:List UInt8) (c:UInt8) (r:List UInt8) (hT:T=c::r) (hl:lay c=false) (h47:c≠47) (hk:kln (T++m)=(k,T.length)):keys (T++m)=(k,T)::keys m:=by
 subst hT
 have hs:skp false (c::r++m)=0:=skp_stop c (r++m) hl (fun e=>h47 e.1)
 have hd:(c::r++m).drop (skp false (c::r++m))=c::r++m:=by rw [hs];rfl
 have e:=pcsAt_cons 0 (c::r++m) (by rw [hd];simp)
 rw [hd,hk] at e
 unfold keys
 rw [e,List.map_cons,keys_at]
 simp only [keyZ]
 rw [List.take_left' rfl,List.drop_left' rfl]
 rfl
theorem keys_fine {q:Key} (h:fineK q) (m:List UInt8) (hm:Sp m):keys (q.2++m)=q::keys m:=by
 obtain ⟨c,r,hT,hl,h47,hk,hs⟩:=h
 refine keys_one q.1 q.2 m c r hT hl h47 ?_
 rcases hm with rfl | ⟨x,r',rfl,hx⟩
 ·rw [List.append_nil,hk]
 ·rw [kln_app q.2 r' x hx (by rw [hT];simp) hs,hk]
def LA (s:List UInt8) (ts:List Key):Prop:=∀ m,keys (s++m)=ts++keys m
def LB (s:List UInt8) (ts:List Key):Prop:=∀ m,Sp m→keys (s++m)=ts++keys m
theorem LA.b {s:List UInt8} {ts:List Key} (h:LA s ts):LB s ts:=fun m _=>h m
theorem LA.nil:LA [] []:=fun _=>rfl
theorem LA.app {s s':List UInt8} {ts ts':List Key} (h:LA s ts) (h':LA s' ts'):LA (s++s') (ts++ts'):=fun m=>by rw [List.append_assoc,h,h',List.append_assoc]
theorem LA.appB {s s':List UInt8} {ts ts':List Key} (h:LA s ts) (h':LB s' ts'):LB (s++s') (ts++ts'):=fun m hm=>by rw [List.append_assoc,h,h' m hm,List.append_assoc]
theorem LB.app {s s':List UInt8} {ts ts':List Key} (h:LB s ts) (hs:Sh s') (h':LA s' ts'):LA (s++s') (ts++ts'):=fun m=>by rw [List.append_assoc,h _ (hs.sp m),h',List.append_assoc]
theorem LB.appB {s s':List UInt8} {ts ts':List Key} (h:LB s ts) (hs:Sh s') (h':LB s' ts'):LB (s++s') (ts++ts'):=fun m hm=>by rw [List.append_assoc,h _ (hs.sp m),h' m hm,List.append_assoc]
theorem LB.all {s:List UInt8} {ts:List Key} (h:LB s ts):keys s=ts:=by
 have:=h [] (.inl rfl)
 rwa [List.append_nil,keys_nil,List.append_nil] at this
theorem LB.fine {q:Key} (h:fineK q):LB q.2 [q]:=fun m hm=>keys_fine h m hm
theorem LA.lay {c:UInt8} (h:lay c=true):LA [c] []:=fun m=>keys_lay c m h
def hard (c:UInt8):Bool:=decide (c ∈ syms) && decide (c≠61)
theorem kln_hard {c:UInt8} (h:hard c=true) (m:List UInt8):kln (c::m)=(4,1):=by
 unfold hard at h
 simp only [Bool.and_eq_true,decide_eq_true_eq] at h
 obtain ⟨hc,h61⟩:=h
 have key:∀ x ∈ syms,ltr x=false∧dgt x=false∧x≠34∧x≠38:=by decide
 obtain ⟨h1,h2,h3,h4⟩:=key c hc
 rw [kln_cons,if_neg (by rw [h1];simp),if_neg (by rw [h2];simp),if_neg h3,if_neg (by rintro (⟨e,_⟩ | ⟨e,_⟩);exact h61 e;exact h4 e),if_pos hc]
theorem LA.sym {c:UInt8} (h:hard c=true):LA [c] [(4,[c])]:=fun m=>by
 have key:∀ x ∈ syms,Go.Proofs.YtfcgoainglpdlaaGreatDoor.lay x=false∧x≠47:=by decide
 have hc:c ∈ syms:=by unfold hard at h;simp only [Bool.and_eq_true,decide_eq_true_eq] at h;exact h.1
 exact keys_one 4 [c] m c [] rfl (key c hc).1 (key c hc).2 (kln_hard h m)
theorem sep_of {x:UInt8} (h:(decide (nam x=false) && decide (dgt x=false) && decide (x≠61) && decide (x≠38))=true):sep x:=by
 simp only [Bool.and_eq_true,decide_eq_true_eq] at h
 exact ⟨h.1.1.1,h.1.1.2,h.1.2,h.2⟩
theorem Sh.mk {x:UInt8} {r:List UInt8} (h:(decide (nam x=false) && decide (dgt x=false) && decide (x≠61) && decide (x≠38))=true):Sh (x::r):=⟨x,r,rfl,sep_of h⟩
theorem LB.blank {s:List UInt8} {ts:List Key} (h:LB s ts):LA (s++[32]) ts:=by
 have:=h.app (s':=[32]) (Sh.mk (by decide)) (LA.lay (by decide))
 rwa [List.append_nil] at this
theorem toks_keys (s:List UInt8):(toks s).map keyZ=keys s++[(0,[])]:=by
 unfold toks keys
 rw [List.map_append]
 rfl
theorem flt_at {k:Int} {T:List UInt8} {n:Nat} (h:flt k T 0=0) (hn:n < 4000):flt k T n=0:=by
 have e:flt k T n=flt k T 0:=by
  unfold flt;split
  ·rfl
  ·rw [if_neg (show ¬ 4000≤n by omega),if_neg (show ¬ 4000≤0 by omega)]
 rw [e,h]
theorem bad_of:∀ (ts:List Tok) (n:Nat),(∀ t ∈ ts,flt t.kind t.text 0=0)→n + ts.length≤4000→bad ts n=none
 |[],_,_,_=>rfl
 |t::r,n,h,hn=>by
  simp only [List.length_cons] at hn
  simp only [bad]
  rw [if_pos (flt_at (h t (by simp)) (by omega))]
  exact bad_of r (n + 1) (fun x hx=>h x (by simp [hx])) (by omega)
theorem right_of {s:List UInt8} {ts:List Key} (hk:keys s=ts) (h:∀ q ∈ ts,okK q) (hn:ts.length≤4000):bad (toks s) 0=none∧(toks s).length=ts.length + 1:=by
 subst hk
 have hl:(pcsAt 0 s).length=(keys s).length:=by unfold keys;rw [List.length_map]
 constructor
 ·rw [bad_toks]
  refine bad_of _ 0 (fun t ht=>(h (keyZ t) ?_).2) (by omega)
  unfold keys
  exact List.mem_map_of_mem ht
 ·unfold toks
  rw [List.length_append,hl]
  rfl
theorem okK_of {s:List UInt8} (h:bad (toks s) 0=none) (t:Tok) (ht:t ∈ toks s) (hk:t.kind≠0):okK (t.kind,t.text):=by
 rw [bad_toks] at h
 have hm:t ∈ pcsAt 0 s:=by
  unfold toks at ht
  rcases List.mem_append.1 ht with h1 | h1
  ·exact h1
  ·exfalso
   have e:t=endTok s:=by simpa using h1
   exact hk (by rw [e];rfl)
 refine ⟨good_fine 0 s 0 h t hm,?_⟩
 have key:∀ (ts:List Tok) (n:Nat),bad ts n=none→∀ t ∈ ts,t.kind≠0→flt t.kind t.text 0=0:=by
  intro ts
  induction ts with
  |nil=>intro n _ t ht;cases ht
  |cons x r ih =>
   intro n hb t ht hk
   obtain ⟨h1,h2⟩:=bad_cons hb
   rcases List.mem_cons.1 ht with rfl | ht
   ·unfold flt at h1 ⊢
    rw [if_neg hk] at h1 ⊢
    split at h1
    ·simp at h1
    ·rw [if_neg (by omega)];exact h1
   ·exact ih _ h2 t ht hk
 exact key _ 0 h t hm hk
end Go.Proofs.YtfcgoainglpdlaaGreatDoor
