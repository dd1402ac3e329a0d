/- Plain: what is wrong in a file is wrong at a token; a file with more behind it is that file with more behind it, or wrong as it was. No condition. -/
import Derived.Test.YtfcgoainglpdlaaGreatDoorM13
namespace Go.Proofs.YtfcgoainglpdlaaGreatDoor
theorem thn_err {α β:Type} {r:EO α} {f:α→Int→EO β} {p c:Int} (h:thn r f=.err p c):r=.err p c∨∃ x j,r=.ok x j∧f x j=.err p c:=by
 cases r with
 |ok x j=>exact .inr ⟨x,j,rfl,h⟩
 |err p' c'=>injection h with h1 h2;subst h1 h2;exact .inl rfl
 |out=>cases h
section
variable {l:List TZ} {p c:Int}
theorem sy_bad {z:UInt8} {i:Int} (h:sy l z i=.err p c):AtTok l p c:=by
 unfold sy at h;split at h
 ·cases h
 ·injection h with h1 h2;subst h1 h2;exact ⟨⟨_,rfl⟩,by decide⟩
theorem wo_bad {w:List UInt8} {i:Int} (h:wo l w i=.err p c):AtTok l p c:=by
 unfold wo at h;split at h
 ·cases h
 ·injection h with h1 h2;subst h1 h2;exact ⟨⟨_,rfl⟩,by decide⟩
theorem na_bad {i:Int} (h:na l i=.err p c):AtTok l p c:=by
 unfold na at h;split at h
 ·cases h
 ·injection h with h1 h2;subst h1 h2;exact ⟨⟨_,rfl⟩,by decide⟩
theorem ty_bad {i:Int} (h:ty l i=.err p c):AtTok l p c:=by
 unfold ty at h;split at h
 ·cases h
 ·next p' c' hq=>injection h with h1 h2;subst h1 h2;exact prs_err hq
theorem prm_bad {i:Int} (h:prm l i=.err p c):AtTok l p c:=by
 unfold prm at h
 rcases thn_err h with h | ⟨_,_,_,h⟩
 ·exact na_bad h
 rcases thn_err h with h | ⟨_,_,_,h⟩
 ·exact ty_bad h
 cases h
theorem seps_bad {α:Type} {one:Int→EO α} (h1:∀ i,one i=.err p c→AtTok l p c) {z:UInt8}:∀ {f:Nat} {i:Int},seps l one z f i=.err p c→AtTok l p c
 |0,_,h=>by rw [seps] at h;cases h
 |f + 1,i,h=>by
  rw [seps] at h
  rcases thn_err h with h | ⟨_,_,_,h⟩
  ·exact h1 _ h
  split at h
  ·rcases thn_err h with h | ⟨_,_,_,h⟩
   ·exact seps_bad h1 h
   cases h
  ·rcases thn_err h with h | ⟨_,_,_,h⟩
   ·exact sy_bad h
   cases h
theorem sepn_bad {α:Type} {one:Int→EO α} (h1:∀ i,one i=.err p c→AtTok l p c) {z:UInt8} {f:Nat} {i:Int} (h:sepn l one z f i=.err p c):AtTok l p c:=by
 unfold sepn at h
 split at h
 ·cases h
 ·exact seps_bad h1 h
theorem upto_bad {α:Type} {one:Int→EO α} (h1:∀ i,one i=.err p c→AtTok l p c):∀ {f:Nat} {i:Int},upto l one f i=.err p c→AtTok l p c
 |0,_,h=>by rw [upto] at h;cases h
 |f + 1,i,h=>by
  rw [upto] at h
  split at h
  ·cases h
  ·rcases thn_err h with h | ⟨_,_,_,h⟩
   ·exact h1 _ h
   rcases thn_err h with h | ⟨_,_,_,h⟩
   ·exact upto_bad h1 h
   cases h
theorem fld_bad {i:Int} (h:fld l i=.err p c):AtTok l p c:=by
 unfold fld at h
 rcases thn_err h with h | ⟨_,_,_,h⟩
 ·exact prm_bad h
 rcases thn_err h with h | ⟨_,_,_,h⟩
 ·exact sy_bad h
 cases h
theorem mth_bad {f:Nat} {i:Int} (h:mth l f i=.err p c):AtTok l p c:=by
 unfold mth at h
 rcases thn_err h with h | ⟨_,_,_,h⟩
 ·exact na_bad h
 rcases thn_err h with h | ⟨_,_,_,h⟩
 ·exact sy_bad h
 rcases thn_err h with h | ⟨_,_,_,h⟩
 ·exact sepn_bad (fun _=>ty_bad) h
 split at h
 ·cases h
 rcases thn_err h with h | ⟨_,_,_,h⟩
 ·exact ty_bad h
 rcases thn_err h with h | ⟨_,_,_,h⟩
 ·exact sy_bad h
 cases h
theorem dty_bad {f:Nat} {i:Int} (h:dty l f i=.err p c):AtTok l p c:=by
 unfold dty at h
 rcases thn_err h with h | ⟨_,_,_,h⟩
 ·exact na_bad h
 split at h
 ·rcases thn_err h with h | ⟨_,_,_,h⟩
  ·exact sy_bad h
  rcases thn_err h with h | ⟨_,_,_,h⟩
  ·exact upto_bad (fun _=>mth_bad) h
  cases h
 ·rcases thn_err h with h | ⟨_,_,_,h⟩
  ·exact wo_bad h
  rcases thn_err h with h | ⟨_,_,_,h⟩
  ·exact sy_bad h
  rcases thn_err h with h | ⟨_,_,_,h⟩
  ·exact upto_bad (fun _=>fld_bad) h
  cases h
theorem dfn_bad {F fb f:Nat} {i:Int} (h:dfn l F fb f i=.err p c):AtTok l p c:=by
 unfold dfn at h
 rcases thn_err h with h | ⟨_,_,_,h⟩
 ·unfold rcv at h
  split at h
  ·rcases thn_err h with h | ⟨_,_,_,h⟩
   ·exact prm_bad h
   rcases thn_err h with h | ⟨_,_,_,h⟩
   ·exact sy_bad h
   cases h
  ·cases h
 rcases thn_err h with h | ⟨_,_,_,h⟩
 ·exact na_bad h
 rcases thn_err h with h | ⟨_,_,_,h⟩
 ·unfold bnds at h
  split at h
  ·exact seps_bad (fun _=>prm_bad) h
  ·cases h
 rcases thn_err h with h | ⟨_,_,_,h⟩
 ·exact sy_bad h
 rcases thn_err h with h | ⟨_,_,_,h⟩
 ·exact sepn_bad (fun _=>prm_bad) h
 rcases thn_err h with h | ⟨_,_,_,h⟩
 ·unfold res at h
  split at h
  ·cases h
  ·rcases thn_err h with h | ⟨_,_,_,h⟩
   ·exact ty_bad h
   cases h
 rcases thn_err h with h | ⟨_,_,_,h⟩
 ·exact (stm_err (l:=l) (F:=F) fb).1 _ _ _ _ h
 cases h
theorem dcl_bad {F fb f:Nat} {i:Int} (h:dcl l F fb f i=.err p c):AtTok l p c:=by
 unfold dcl at h
 split at h
 ·exact dty_bad h
 rcases thn_err h with h | ⟨_,_,_,h⟩
 ·exact wo_bad h
 exact dfn_bad h
theorem dcls_bad {F fb f:Nat}:∀ {k:Nat} {i:Int},dcls l F fb f k i=.err p c→AtTok l p c
 |0,_,h=>by rw [dcls] at h;cases h
 |k + 1,i,h=>by
  rw [dcls] at h
  split at h
  ·cases h
  ·rcases thn_err h with h | ⟨_,_,_,h⟩
   ·exact dcl_bad h
   rcases thn_err h with h | ⟨_,_,_,h⟩
   ·exact dcls_bad h
   cases h
theorem imps_bad:∀ {k:Nat} {i:Int},imps l k i=.err p c→AtTok l p c
 |0,_,h=>by rw [imps] at h;cases h
 |k + 1,i,h=>by
  rw [imps] at h
  split at h
  ·rcases thn_err h with h | ⟨_,_,_,h⟩
   ·exact na_bad h
   rcases thn_err h with h | ⟨_,_,_,h⟩
   ·exact sy_bad h
   rcases thn_err h with h | ⟨_,_,_,h⟩
   ·exact imps_bad h
   cases h
  ·cases h
theorem fil_bad {F fb f:Nat} (h:fil l F fb f=.err p c):AtTok l p c:=by
 unfold fil at h
 rcases thn_err h with h | ⟨_,_,_,h⟩
 ·exact wo_bad h
 rcases thn_err h with h | ⟨_,_,_,h⟩
 ·exact na_bad h
 rcases thn_err h with h | ⟨_,_,_,h⟩
 ·exact sy_bad h
 rcases thn_err h with h | ⟨_,_,_,h⟩
 ·exact imps_bad h
 rcases thn_err h with h | ⟨_,_,_,h⟩
 ·exact dcls_bad h
 cases h
end
section
variable {l m:List TZ} {e:Int} {F fb f:Nat}
end
end Go.Proofs.YtfcgoainglpdlaaGreatDoor
