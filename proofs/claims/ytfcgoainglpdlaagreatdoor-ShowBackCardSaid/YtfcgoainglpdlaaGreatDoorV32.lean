/- All of the parser's methods, for any steps. Condition: the parser lies in memory as said. -/
import Derived.Test.YtfcgoainglpdlaaGreatDoorV31
import Derived.Test.YtfcgoainglpdlaaGreatDoorV17
import Derived.Test.YtfcgoainglpdlaaGreatDoorV18
namespace Go.Proofs.YtfcgoainglpdlaaGreatDoor
open Go.RowKit
open Go.Lib hiding intOf
section
variable {b c m:Nat} {o:Option Addr} {l:List TZ}
theorem first_any {f:Nat} (hn:l.length≤1073741824) (hf:Fits l) (HL:LevC b o c m l f) (HC:CreC b o c m l f):FirC b o c m l (f + 1):=by
 intro d i w hd S hr
 by_cases h2:(tkAt l i).kind=2
 ·cases hq:numOf (tkAt l i).text.data.toList with
  |some n=>exact first_num hn hf d i w S h2 hq
  |none=>exact first_num_no hn hf d i w S h2 hq
 by_cases h3:(tkAt l i).kind=3
 ·cases hq:quoted (tkAt l i).text.data.toList
  ·exact first_text_no hn hf d i w S h3 hq
  ·exact first_text hn hf d i w S h3 hq
 by_cases h1:(tkAt l i).kind=1
 ·exact first_name hn hf d i w S h1
 cases hv:isW (tkAt l i) [116,114,117,101]
 ·cases hv2:isW (tkAt l i) [102,97,108,115,101]
  ·cases hs:isS (tkAt l i) 40
   ·cases hw:isW (tkAt l i) [110,101,119]
    ·exact first_bad hn hf d i w S h2 h3 h1 hv hv2 hs hw
    ·cases hq:crt l f d i with
     |ok x j=>exact first_new_ok hn hf d i w S h2 h3 h1 hv hv2 hw hd HC hq
     |err p q=>exact first_new_err hn hf d i w S h2 h3 h1 hv hv2 hw hd HC hq
     |out=>exact (hr ((prim_new h2 h3 h1 hv hv2 hs hw).trans hq)).elim
   ·cases hq:ins l f 41 d i with
    |ok x j=>exact first_in_ok hn hf d i w S h2 h3 h1 hv hv2 hs hd HL hq
    |err p q=>exact first_in_err hn hf d i w S h2 h3 h1 hv hv2 hs hd HL hq
    |out=>exact (hr ((prim_in h2 h3 h1 hv hv2 hs).trans hq)).elim
  ·exact first_false hn hf d i w S h2 h3 hv hv2
 ·exact first_true hn hf d i w S h2 h3 hv
theorem methods_all (hn:l.length≤1073741824) (hf:Fits l):∀ F f:Nat,f≤F→LevC b o c m l f∧NegC b o c m l f∧FirC b o c m l f∧FolC b o c m l f:=by
 intro F
 induction F with
 |zero =>
  intro f hf0
  obtain rfl:f=0:=by omega
  refine ⟨?_,?_,?_,?_⟩
  ·intro k kk d i w _ _ _ _ _ hr;exact (hr (by rw [ex])).elim
  ·intro d i w _ _ hr;exact (hr (by rw [una])).elim
  ·intro d i w _ _ hr;exact (hr (by rw [prim])).elim
  ·intro d i w _ _ hr;exact (hr (by unfold foll;rw [prim])).elim
 |succ F ih =>
  intro f hf1
  by_cases hlt:f≤F
  ·exact ih f hlt
  ·obtain rfl:f=F + 1:=by omega
   have hlev:∀ g,g≤F→LevC b o c m l g:=fun g hg=>(ih g hg).1
   have hfir:FirC b o c m l (F + 1):=first_any hn hf (hlev F (Nat.le_refl _)) (fun d i w hd S hi hr=>created_any hn hf (fun g hg=>hlev g (by omega)) d i w hd S hi hr)
   refine ⟨?_,?_,hfir,?_⟩
   ·intro k kk d i w hkk h1 h5 hd S hr
    subst hkk
    by_cases hk:k=5
    ·subst hk
     have e:ex l (F + 1) 5 d i=una l F d i:=by rw [ex,if_pos rfl]
     rw [e] at hr ⊢
     exact level5_any (ih F (Nat.le_refl _)).2.1 d i w hd S hr
    ·exact level_any hn hf hlev k d i w h1 (by omega) hd S hr
   ·intro d i w hd S hr
    exact negated_any hn (ih F (Nat.le_refl _)).2.2.2 (ih F (Nat.le_refl _)).2.1 d i w hd S hr
   ·intro d i w hd S hr
    exact followed_any hn hf (fun g hg=>hlev g (by omega)) hfir d i w hd S hr
theorem level_all (hn:l.length≤1073741824) (hf:Fits l) (f:Nat):LevC b o c m l f:=(methods_all hn hf f f (Nat.le_refl _)).1
end
end Go.Proofs.YtfcgoainglpdlaaGreatDoor
