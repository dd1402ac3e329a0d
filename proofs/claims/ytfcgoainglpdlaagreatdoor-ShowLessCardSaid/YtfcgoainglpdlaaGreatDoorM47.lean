/- Plain: which tokens a text that is put together of pieces has. No condition. -/
import Derived.Test.YtfcgoainglpdlaaGreatDoorM04
namespace Go.Proofs.YtfcgoainglpdlaaGreatDoor
abbrev Key:=Int × List UInt8
def keyOf (t:Tok):Key:=(t.kind,t.text)
def keys (l:List UInt8):List Key:=(pcsAt 0 l).map keyOf
theorem keys_at (a:Nat) (l:List UInt8):(pcsAt a l).map keyOf=keys l:=by
 have h:=pcsAt_shift 0 a l
 rw [Nat.zero_add] at h
 rw [h,List.map_map]
 rfl
theorem keys_nil:keys []=[]:=by
 unfold keys
 rw [pcsAt_end 0 [] (by simp [skp])]
 rfl
theorem keys_lay (c:UInt8) (m:List UInt8) (h:lay c=true):keys (c::m)=keys m:=by
 have e1:keys (c::m)=(pcsAt (0 + skp false (c::m)) ((c::m).drop (skp false (c::m)))).map keyOf:=congrArg (List.map keyOf) (pcsAt_skip 0 (c::m))
 have e2:keys m=(pcsAt (0 + skp false m) (m.drop (skp false m))).map keyOf:=congrArg (List.map keyOf) (pcsAt_skip 0 m)
 rw [e1,e2,skp_layout c m h,List.drop_succ_cons,keys_at,keys_at]
def fineK (q:Key):Prop:=∃ c r,q.2=c::r∧lay c=false∧c≠47∧kln q.2=(q.1,q.2.length)∧shut q.2
def okK (q:Key):Prop:=fineK q∧flt q.1 q.2 0=0
def Sp (m:List UInt8):Prop:=m=[]∨∃ x r,m=x::r∧sep x
def Sh (s:List UInt8):Prop:=∃ x r,s=x::r∧sep x
theorem Sh.sp {s:List UInt8} (h:Sh s) (m:List UInt8):Sp (s++m):=by
 obtain ⟨x,r,rfl,h⟩:=h
 exact .inr ⟨x,r++m,rfl,h⟩
theorem keys_one (k:Int) (T m:List UInt8) (c:UInt8) (r:List UInt8) (hT:T=c::r) (hl:lay c=false) (h47:c≠47) (hk:kln (T++m)=(k,T.length)):keys (T++m)=(k,T)::keys m:=by
 subst hT
 have hs:skp false (c::r++m)=0:=skp_stop c (r++m) hl (fun e=>h47 e.1)
 have hd:(c::r++m).drop (skp false (c::r++m))=c::r++m:=by rw [hs];rfl
 have e:=pcsAt_cons 0 (c::r++m) (by rw [hd];simp)
 rw [hd,hk] at e
 unfold keys
 rw [e,List.map_cons,keys_at]
 simp only [keyOf]
 rw [List.take_left' rfl,List.drop_left' rfl]
 rfl
theorem keys_fine {q:Key} (h:fineK q) (m:List UInt8) (hm:Sp m):keys (q.2++m)=q::keys m:=by
 obtain ⟨c,r,hT,hl,h47,hk,hs⟩:=h
 refine keys_one q.1 q.2 m c r hT hl h47 ?_
 rcases hm with rfl | ⟨x,r',rfl,hx⟩
 ·rw [List.append_nil,hk]
 ·rw [kln_app q.2 r' x hx (by rw [hT];simp) hs,hk]
def LA (s:List UInt8) (ts:List Key):Prop:=∀ m,keys (s++m)=ts++keys m
def LB (s:List UInt8) (ts:List Key):Prop:=∀ m,Sp m→keys (s++m)=ts++keys m
theorem LA.b {s:List UInt8} {ts:List Key} (h:LA s ts):LB s ts:=fun m _=>h m
theorem LA.nil:LA [] []:=fun _=>rfl
theorem LA.app {s s':List UInt8} {ts ts':List Key} (h:LA s ts) (h':LA s' ts'):LA (s++s') (ts++ts'):=fun m=>by rw [List.append_assoc,h,h',List.append_assoc]
theorem LA.appB {s s':List UInt8} {ts ts':List Key} (h:LA s ts) (h':LB s' ts'):LB (s++s') (ts++ts'):=fun m hm=>by rw [List.append_assoc,h,h' m hm,List.append_assoc]
theorem LB.app {s s':List UInt8} {ts ts':List Key} (h:LB s ts) (hs:Sh s') (h':LA s' ts'):LA (s++s') (ts++ts'):=fun m=>by rw [List.append_assoc,h _ (hs.sp m),h',List.append_assoc]
theorem LB.appB {s s':List UInt8} {ts ts':List Key} (h:LB s ts) (hs:Sh s') (h':LB s' ts'):LB (s++s') (ts++ts'):=fun m hm=>by rw [List.append_assoc,h _ (hs.sp m),h' m hm,List.append_assoc]
theorem LB.all {s:List UInt8} {ts:List Key} (h:LB s ts):keys s=ts:=by
 have:=h [] (.inl rfl)
 rwa [List.append_nil,keys_nil,List.append_nil] at this
theorem LB.fine {q:Key} (h:fineK q):LB q.2 [q]:=fun m hm=>keys_fine h m hm
theorem LA.lay {c:UInt8} (h:lay c=true):LA [c] []:=fun m=>keys_lay c m h
theorem LA.lays (c:UInt8) (h:Go.Proofs.YtfcgoainglpdlaaGreatDoor.lay c=true):∀ n:Nat,LA (List.replicate n c) []
 |0=>LA.nil
 |n + 1=>by
  have:=(LA.lay h).app (LA.lays c h n)
  rwa [show [c]++List.replicate n c=List.replicate (n + 1) c from (List.replicate_succ).symm] at this
def hard (c:UInt8):Bool:=decide (c ∈ syms) && decide (c≠61)
theorem kln_hard {c:UInt8} (h:hard c=true) (m:List UInt8):kln (c::m)=(4,1):=by
 unfold hard at h
 simp only [Bool.and_eq_true,decide_eq_true_eq] at h
 obtain ⟨hc,h61⟩:=h
 have key:∀ x ∈ syms,ltr x=false∧dgt x=false∧x≠34∧x≠38:=by decide
 obtain ⟨h1,h2,h3,h4⟩:=key c hc
 rw [kln_cons,if_neg (by rw [h1];simp),if_neg (by rw [h2];simp),if_neg h3,if_neg (by rintro (⟨e,_⟩ | ⟨e,_⟩);exact h61 e;exact h4 e),if_pos hc]
theorem LA.sym {c:UInt8} (h:hard c=true):LA [c] [(4,[c])]:=fun m=>by
 have key:∀ x ∈ syms,Go.Proofs.YtfcgoainglpdlaaGreatDoor.lay x=false∧x≠47:=by decide
 have hc:c ∈ syms:=by unfold hard at h;simp only [Bool.and_eq_true,decide_eq_true_eq] at h;exact h.1
 exact keys_one 4 [c] m c [] rfl (key c hc).1 (key c hc).2 (kln_hard h m)
theorem sep_of {x:UInt8} (h:(decide (nam x=false) && decide (dgt x=false) && decide (x≠61) && decide (x≠38))=true):sep x:=by
 simp only [Bool.and_eq_true,decide_eq_true_eq] at h
 exact ⟨h.1.1.1,h.1.1.2,h.1.2,h.2⟩
theorem Sh.mk {x:UInt8} {r:List UInt8} (h:(decide (nam x=false) && decide (dgt x=false) && decide (x≠61) && decide (x≠38))=true):Sh (x::r):=⟨x,r,rfl,sep_of h⟩
theorem LB.blank {s:List UInt8} {ts:List Key} (h:LB s ts):LA (s++[32]) ts:=by
 have:=h.app (s':=[32]) (Sh.mk (by decide)) (LA.lay (by decide))
 rwa [List.append_nil] at this
theorem flt_at {k:Int} {T:List UInt8} {n:Nat} (h:flt k T 0=0) (hn:n < 4000):flt k T n=0:=by
 have e:flt k T n=flt k T 0:=by
  unfold flt;split
  ·rfl
  ·rw [if_neg (show ¬ 4000≤n by omega),if_neg (show ¬ 4000≤0 by omega)]
 rw [e,h]
theorem bad_of:∀ (ts:List Tok) (n:Nat),(∀ t ∈ ts,flt t.kind t.text 0=0)→n + ts.length≤4000→bad ts n=none
 |[],_,_,_=>rfl
 |t::r,n,h,hn=>by
  simp only [List.length_cons] at hn
  simp only [bad]
  rw [if_pos (flt_at (h t (by simp)) (by omega))]
  exact bad_of r (n + 1) (fun x hx=>h x (by simp [hx])) (by omega)
theorem right_of {s:List UInt8} {ts:List Key} (hk:keys s=ts) (h:∀ q ∈ ts,okK q) (hn:ts.length≤4000):bad (toks s) 0=none∧(toks s).length=ts.length + 1:=by
 subst hk
 have hl:(pcsAt 0 s).length=(keys s).length:=by unfold keys;rw [List.length_map]
 constructor
 ·rw [bad_toks]
  refine bad_of _ 0 (fun t ht=>(h (keyOf t) ?_).2) (by omega)
  unfold keys
  exact List.mem_map_of_mem ht
 ·unfold toks
  rw [List.length_append,hl]
  rfl
theorem okK_of {s:List UInt8} (h:bad (toks s) 0=none) (t:Tok) (ht:t ∈ toks s) (hk:t.kind≠0):okK (t.kind,t.text):=by
 rw [bad_toks] at h
 have hm:t ∈ pcsAt 0 s:=by
  unfold toks at ht
  rcases List.mem_append.1 ht with h1 | h1
  ·exact h1
  ·exfalso
   have e:t=endTok s:=by simpa using h1
   exact hk (by rw [e];rfl)
 refine ⟨good_fine 0 s 0 h t hm,?_⟩
 have key:∀ (ts:List Tok) (n:Nat),bad ts n=none→∀ t ∈ ts,t.kind≠0→flt t.kind t.text 0=0:=by
  intro ts
  induction ts with
  |nil=>intro n _ t ht;cases ht
  |cons x r ih =>
   intro n hb t ht hk
   obtain ⟨h1,h2⟩:=bad_cons hb
   rcases List.mem_cons.1 ht with rfl | ht
   ·unfold flt at h1 ⊢
    rw [if_neg hk] at h1 ⊢
    split at h1
    ·simp at h1
    ·rw [if_neg (by omega)];exact h1
   ·exact ih _ h2 t ht hk
 exact key _ 0 h t hm hk
end Go.Proofs.YtfcgoainglpdlaaGreatDoor
