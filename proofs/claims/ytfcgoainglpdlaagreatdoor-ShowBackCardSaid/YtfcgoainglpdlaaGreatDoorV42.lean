/- The texts that 'awake' calls: their trees, and the texts of these. No condition. The walk of this layer's own 'awake': it answers true. Condition: the library's table is laid. Plain: a file that a text is: its own text has right tokens, no more than the text has. Condition: the text's tokens are .. -/
import Derived.Test.YtfcgoainglpdlaaGreatDoorV26
import Derived.Test.YtfcgoainglpdlaaGreatDoorV29
import Derived.Test.YtfcgoainglpdlaaGreatDoorV34
import Derived.Test.YtfcgoainglpdlaaGreatDoorV41
import Derived.Test.YtfcgoainglpdlaaGreatDoorV30
import Derived.Test.YtfcgoainglpdlaaGreatDoorV13
set_option maxRecDepth 100000
set_option maxHeartbeats 8000000
namespace Go.Proofs.YtfcgoainglpdlaaGreatDoor
open Go.RowKit
open Go.Lib hiding intOf
def tA:List UInt8:=[97,45,40,98,45,99,41,42,33,40,100,61,61,49,41]
def tF:List UInt8:=[112,97,99,107,97,103,101,32,97,59,102,117,110,99,32,102,40,41,123,114,101,116,117,114,110,32,49,59,125]
def xA:EX:=match exAll tA with
 |.ok x _=>x
 |_=>.mk 0 0 0 0 ⟨#[]⟩ noTX []
def nA:Int:=match exAll tA with
 |.ok _ n=>n
 |_=>0
def xF:FX:=match txtAll tF with
 |.ok x _=>x
 |_=>⟨⟨#[]⟩,0,[],[]⟩
def nF:Int:=match txtAll tF with
 |.ok _ n=>n
 |_=>0
theorem badA7:bad (toks tA) 0=none:=by decide +kernel
theorem lenA7:(toks tA).length=15:=by decide +kernel
theorem exA7:exAll tA=.ok xA nA:=by kernel_rfl
theorem numA7:numX xA=true:=by kernel_rfl
theorem txtF7:txtAll tF=.ok xF nF:=by kernel_rfl
theorem numF7:numF xF=true:=by kernel_rfl
theorem outA7:bx 1 (levG (toGX xA),plnG (toGX xA))=⟨#[97,32,45,32,40,98,32,45,32,99,41,32,42,32,33,40,100,32,61,61,32,49,41]⟩:=by kernel_rfl
theorem outF7:filL (toGF xF)=[112,97,99,107,97,103,101,32,97,59,10,102,117,110,99,32,102,40,41,32,123,10,9,114,101,116,117,114,110,32,49,59,10,125,10]:=by kernel_rfl
theorem allA7 (w:World):Calls Tryz.prog 22 #[.string ⟨#[97,45,40,98,45,99,41,42,33,40,100,61,61,49,41]⟩] w fun e w'=>∃ o cap,e=.returned (.tuple #[.slice o 15 cap,.agg #[.int .i64 0,.int .i64 0]])∧AtToks w' o (toks tA)∧Below w.heap.size w w' :=
 (all_at ⟨tA.toArray⟩ _ 0 0 (lexed_good' badA7) w (by decide)).mono fun e w' ⟨o,cap,he,ht,hb,_⟩=>⟨o,cap,by rw [lenA7] at he;exact he,ht,hb⟩
theorem parseA7 (o:Option Addr) (c:Nat) (w:World) (h:AtToks w o (toks tA)):Calls Tryz.prog 23 #[.slice o 15 c,.int .i64 0] w fun e w'=>∃ (k p s n tk tp q:Int) (nm tg tn:ByteArray) (tz:Option Addr) (ta:Nat) (oo:Option Addr) (l cc:Nat),
  e=.returned (.tuple #[.agg #[.int .i64 k,.int .i64 p,.int .i64 s,.string nm,.int .i64 n,.int .i64 tk,.int .i64 tp,.string tg,.string tn,.slice tz ta ta,.slice oo l cc],.int .i64 q,.agg #[.int .i64 0,.int .i64 0]]) ∧
  (∃ X:GX,IsX w' X (.agg #[.int .i64 k,.int .i64 p,.int .i64 s,.string nm,.int .i64 n,.int .i64 tk,.int .i64 tp,.string tg,.string tn,.slice tz ta ta,.slice oo l cc])∧bx 1 (levG X,plnG X)=⟨#[97,32,45,32,40,98,32,45,32,99,41,32,42,32,33,40,100,32,61,61,32,49,41]⟩)∧Below w.heap.size w w':=by
 have hp:=parse_at tA badA7 (by decide) o c w h
 rw [lenA7] at hp
 refine hp.mono fun e w' ⟨v,he,hr,hb⟩=>?_
 rw [exA7] at hr
 obtain ⟨vx,rfl,hx⟩:=hr
 have hx':IsEP _ w' xA vx:=hx
 have hG:=hx'.toG numA7
 obtain ⟨n,nm,tk,tp,tg,tn,tz,ta,oo,cc,rfl,_⟩:=hx'.parts
 exact ⟨_,_,_,_,_,_,_,_,_,_,_,_,_,_,_,he,⟨toGX xA,hG,outA7⟩,hb⟩
theorem textF7 (w:World):Calls Tryz.prog 19 #[.string ⟨#[112,97,99,107,97,103,101,32,97,59,102,117,110,99,32,102,40,41,123,114,101,116,117,114,110,32,49,59,125]⟩] w fun e w'=>∃ (nm:ByteArray) (ps:Int) (oi:Option Addr) (ni ci:Nat) (od:Option Addr) (nd cd:Nat),
  e=.returned (.tuple #[.agg #[.string nm,.int .i64 ps,.slice oi ni ci,.slice od nd cd],.agg #[.int .i64 0,.int .i64 0]]) ∧
  (∃ X:GF,IsF w' X (.agg #[.string nm,.int .i64 ps,.slice oi ni ci,.slice od nd cd])∧filL X=[112,97,99,107,97,103,101,32,97,59,10,102,117,110,99,32,102,40,41,32,123,10,9,114,101,116,117,114,110,32,49,59,10,125,10])∧Below w.heap.size w w':=by
 refine (textF_all ⟨tF.toArray⟩ (by decide) w).mono fun e w' ⟨v,he,hr,hb⟩=>?_
 rw [show txtAll (⟨tF.toArray⟩:ByteArray).data.toList=_ from txtF7] at hr
 obtain ⟨vx,rfl,hx,_⟩:=hr
 have hG:IsF w' (toGF xF) vx:=IsFX.toG numF7 hx
 obtain ⟨oi,ci,od,cd,rfl,_⟩:=hx
 exact ⟨_,_,oi,_,ci,od,_,cd,he,⟨toGF xF,hG,outF7⟩,hb⟩
theorem notX7 (w:World):IsX w (.mk 10 0 0 ⟨#[]⟩ 0 (.mk 0 0 ⟨#[]⟩ ⟨#[]⟩ []) []) (.agg #[.int .i64 10,.int .i64 0,.int .i64 0,.string ⟨#[]⟩,.int .i64 0,.int .i64 0,.int .i64 0,.string ⟨#[]⟩,.string ⟨#[]⟩,.slice none 0 0,.slice none 0 0]):=by
 unfold IsX
 refine ⟨_,_,_,_,_,none,0,rfl,by decide,by decide,?_,by simp,by simp,by unfold IsXs;trivial⟩
 unfold IsG
 exact ⟨none,0,rfl,by simp,by simp,by unfold IsGs;trivial⟩
theorem outN7:bx 1 (levG (.mk 10 0 0 ⟨#[]⟩ 0 (.mk 0 0 ⟨#[]⟩ ⟨#[]⟩ []) []),plnG (.mk 10 0 0 ⟨#[]⟩ 0 (.mk 0 0 ⟨#[]⟩ ⟨#[]⟩ []) []))=⟨#[33,63]⟩:=by kernel_rfl
theorem boolG7 (w:World):IsG w (.mk 2 0 ⟨#[]⟩ ⟨#[]⟩ []) (.agg #[.int .i64 2,.int .i64 0,.string ⟨#[]⟩,.string ⟨#[]⟩,.slice none 0 0]):=by
 unfold IsG
 exact ⟨none,0,rfl,by simp,by simp,by unfold IsGs;trivial⟩
theorem showX7 (X:GX) (v:Value) (t:ByteArray) (w:World) (hT:TabW w) (hv:IsX w X v) (ht:bx 1 (levG X,plnG X)=t) (hs:t.size≤100) :
  Calls Tryz.prog 14 #[v] w fun e w'=>e=.returned (.string t)∧Below w.heap.size w w':=by
 subst ht
 exact exprS_any X v w hT hv (by omega)
theorem showF7 (X:GF) (v:Value) (t:List UInt8) (w:World) (hT:TabW w) (hv:IsF w X v) (ht:filL X=t) (hs:t.length≤100) :
  Calls Tryz.prog 20 #[v] w fun e w'=>e=.returned (.string ⟨t.toArray⟩)∧Below w.heap.size w w':=by
 subst ht
 exact fileS_any X v w hT hv (by omega)
theorem showT7 (w:World):Calls Tryz.prog 11 #[.agg #[.int .i64 2,.int .i64 0,.string ⟨#[]⟩,.string ⟨#[]⟩,.slice none 0 0]] w fun e w'=>e=.returned (.string ⟨#[98,111,111,108]⟩)∧Below w.heap.size w w' :=
 type_any (.mk 2 0 ⟨#[]⟩ ⟨#[]⟩ []) _ w (boolG7 w) (by decide)
end Go.Proofs.YtfcgoainglpdlaaGreatDoor
namespace Go.Proofs.YtfcgoainglpdlaaGreatDoor
open Go.RowKit
open Go.Lib hiding intOf
theorem Blk.sec (w:World) (t t':TypeId) (cs cs':Array Value):Blk ((w.alloc (.cells cs t)).alloc (.cells cs' t')) (w.heap.size + 1) t' cs':=by
 have:=Blk.new (w.alloc (.cells cs t)) t' cs'
 rwa [World.size_alloc] at this
theorem below_two (w:World) (o o':_):Below w.heap.size w ((w.alloc o).alloc o'):=((Below.refl _ _).alloc (Nat.le_refl _) _).alloc (by simp) _
theorem awake7_any (w:World) (hT:TabW w):Calls Tryz.prog 9 #[] w fun e w'=>e=.returned (.bool true)∧Below w.heap.size w w':=by
 have T0:=Lib.hid hT
 clear hT
 go_enter Tryz.func9,Tryz.ntmps9
 go_wp2_with fail
 refine (allA7 _).mono ?_
 rintro e w1 ⟨o,cap,rfl,hZ,hB⟩
 have Z1:=Lib.hid (hZ.below ((Below.refl _ _).alloc (Nat.le_refl _) (.cells #[.int .i64 0,.int .i64 0] 44)))
 have B1:=Lib.hid (hB.alloc hB.size (.cells #[.int .i64 0,.int .i64 0] 44))
 clear hZ hB
 go_wp2_with fail
 refine (parseA7 o cap _ Z1.out).mono ?_
 rintro e w2 ⟨k,p,s,n,tk,tp,q,nm,tg,tn,tz,ta,oo,l,cc,rfl,⟨X,hX,hx⟩,hB⟩
 have B2:=Lib.hid (B1.out.trans (hB.mono B1.out.size))
 have HX:=Lib.hid hX
 have Hx:=Lib.hid hx
 clear hB Z1 B1 hX hx
 go_wp2_with fail
 refine (textF7 _).mono ?_
 rintro e w3 ⟨fn,fp,oi,ni,ci,od,nd,cd,rfl,⟨F,hF,hf⟩,hB⟩
 have DB2:=Lib.hid ((Blk.sec w2 31 44 #[.int .i64 k,.int .i64 p,.int .i64 s,.string nm,.int .i64 n,.int .i64 tk,.int .i64 tp,.string tg,.string tn,.slice tz ta ta,.slice oo l cc] #[.int .i64 0,.int .i64 0]).below hB)
 have XB2:=Lib.hid (((Blk.new w2 31 #[.int .i64 k,.int .i64 p,.int .i64 s,.string nm,.int .i64 n,.int .i64 tk,.int .i64 tp,.string tg,.string tn,.slice tz ta ta,.slice oo l cc]).alloc (.cells #[.int .i64 0,.int .i64 0] 44)).below hB)
 have cx2:=XB2.out.cell
 have cd2:=DB2.out.cell
 have q0:=DB2.out.lt
 have qn:w2.heap.size < w3.heap.size:=by omega
 have K2:=Lib.hid (below_two w2 (.cells #[.int .i64 k,.int .i64 p,.int .i64 s,.string nm,.int .i64 n,.int .i64 tk,.int .i64 tp,.string tg,.string tn,.slice tz ta ta,.slice oo l cc] 31) (.cells #[.int .i64 0,.int .i64 0] 44))
 have K3:=Lib.hid (below_two w3 (.cells #[.string fn,.int .i64 fp,.slice oi ni ci,.slice od nd cd] 42) (.cells #[.int .i64 0,.int .i64 0] 44))
 have XB3:Hid (Blk ((w3.alloc (.cells #[.string fn,.int .i64 fp,.slice oi ni ci,.slice od nd cd] 42)).alloc (.cells #[.int .i64 0,.int .i64 0] 44)) w2.heap.size 31 #[.int .i64 k,.int .i64 p,.int .i64 s,.string nm,.int .i64 n,.int .i64 tk,.int .i64 tp,.string tg,.string tn,.slice tz ta ta,.slice oo l cc]):=(((Blk.new w2 _ _).alloc _).below hB).below K3.out
 have DB3:Hid (Blk ((w3.alloc (.cells #[.string fn,.int .i64 fp,.slice oi ni ci,.slice od nd cd] 42)).alloc (.cells #[.int .i64 0,.int .i64 0] 44)) (w2.heap.size + 1) 44 #[.int .i64 0,.int .i64 0]):=((Blk.sec w2 _ _ _ _).below hB).below K3.out
 have FB3:Hid (Blk ((w3.alloc (.cells #[.string fn,.int .i64 fp,.slice oi ni ci,.slice od nd cd] 42)).alloc (.cells #[.int .i64 0,.int .i64 0] 44)) w3.heap.size 42 #[.string fn,.int .i64 fp,.slice oi ni ci,.slice od nd cd]):=(Blk.new w3 _ _).alloc _
 have EB3:Hid (Blk ((w3.alloc (.cells #[.string fn,.int .i64 fp,.slice oi ni ci,.slice od nd cd] 42)).alloc (.cells #[.int .i64 0,.int .i64 0] 44)) (w3.heap.size + 1) 44 #[.int .i64 0,.int .i64 0]):=Blk.sec w3 _ _ _ _
 have HX3:Hid (IsX ((w3.alloc (.cells #[.string fn,.int .i64 fp,.slice oi ni ci,.slice od nd cd] 42)).alloc (.cells #[.int .i64 0,.int .i64 0] 44)) X (.agg #[.int .i64 k,.int .i64 p,.int .i64 s,.string nm,.int .i64 n,.int .i64 tk,.int .i64 tp,.string tg,.string tn,.slice tz ta ta,.slice oo l cc])):=((HX.out.below K2.out).below hB).below K3.out
 have HF3:Hid (IsF ((w3.alloc (.cells #[.string fn,.int .i64 fp,.slice oi ni ci,.slice od nd cd] 42)).alloc (.cells #[.int .i64 0,.int .i64 0] 44)) F (.agg #[.string fn,.int .i64 fp,.slice oi ni ci,.slice od nd cd])):=hF.below K3.out
 have B3:Hid (Below w.heap.size w ((w3.alloc (.cells #[.string fn,.int .i64 fp,.slice oi ni ci,.slice od nd cd] 42)).alloc (.cells #[.int .i64 0,.int .i64 0] 44))):=by
  have h2:=B2.out.trans (K2.out.mono B2.out.size)
  have h3:=h2.trans (hB.mono h2.size)
  exact h3.trans (K3.out.mono h3.size)
 have T3:=Lib.hid (T0.out.below B3.out)
 have Hf:=Lib.hid hf
 clear hB K2 K3 B2 HX hF hf T0
 go_wp2_with (first
  |(go_at_call 11;refine (showT7 _).mono ?_;rintro e w7 ⟨rfl,hB⟩;have B7:=Lib.hid (B6.out.trans (hB.mono B6.out.size));clear hB)
  |(go_at_call 20;refine (showF7 F _ _ _ T5.out HF5.out Hf.out (by decide)).mono ?_;rintro e w6 ⟨rfl,hB⟩;have B6:=Lib.hid (B5.out.trans (hB.mono B5.out.size));have XB6:=Lib.hid (XB5.out.below hB);have DB6:=Lib.hid (DB5.out.below hB);have FB6:=Lib.hid (FB5.out.below hB);have EB6:=Lib.hid (EB5.out.below hB);have HX6:=Lib.hid (HX5.out.below hB);have HF6:=Lib.hid (HF5.out.below hB);have T6:=Lib.hid (T5.out.below hB);(try clear cd2);(try clear cx2);(try clear q0);(try clear qn);(try clear cdd);(try clear cee);(try clear cff);have cdd:=DB6.out.cell;have cee:=EB6.out.cell;have cff:=FB6.out.cell;clear hB)
  |(go_at_call 14;refine (showX7 _ _ _ _ T4.out (notX7 _) outN7 (by decide)).mono ?_;rintro e w5 ⟨rfl,hB⟩;have B5:=Lib.hid (B4.out.trans (hB.mono B4.out.size));have XB5:=Lib.hid (XB4.out.below hB);have DB5:=Lib.hid (DB4.out.below hB);have FB5:=Lib.hid (FB4.out.below hB);have EB5:=Lib.hid (EB4.out.below hB);have HX5:=Lib.hid (HX4.out.below hB);have HF5:=Lib.hid (HF4.out.below hB);have T5:=Lib.hid (T4.out.below hB);(try clear cd2);(try clear cx2);(try clear q0);(try clear qn);(try clear cdd);(try clear cee);(try clear cff);have cdd:=DB5.out.cell;have cee:=EB5.out.cell;have cff:=FB5.out.cell;clear hB)
  |(go_at_call 14;refine (showX7 X _ _ _ T3.out HX3.out Hx.out (by decide)).mono ?_;rintro e w4 ⟨rfl,hB⟩;have B4:=Lib.hid (B3.out.trans (hB.mono B3.out.size));have XB4:=Lib.hid (XB3.out.below hB);have DB4:=Lib.hid (DB3.out.below hB);have FB4:=Lib.hid (FB3.out.below hB);have EB4:=Lib.hid (EB3.out.below hB);have HX4:=Lib.hid (HX3.out.below hB);have HF4:=Lib.hid (HF3.out.below hB);have T4:=Lib.hid (T3.out.below hB);(try clear cd2);(try clear cx2);(try clear q0);(try clear qn);(try clear cdd);(try clear cee);(try clear cff);have cdd:=DB4.out.cell;have cee:=EB4.out.cell;have cff:=FB4.out.cell;clear hB)
  |(refine boxLoad 31 11 size11 Tryz.underlying31 rfl _ rfl w2.heap.size rfl (cs:=[_,_,_,_,_,_,_,_,_,_,_]) XB3.out rfl ?_))
 go_ret
 exact ⟨by simp,B7.out⟩
end Go.Proofs.YtfcgoainglpdlaaGreatDoor
namespace Go.Proofs.YtfcgoainglpdlaaGreatDoor
open Go.RowKit
open Go.Lib hiding intOf
section
variable {l:List TZ} (H:OkL l)
include H
end
theorem okL_of {s:List UInt8} (h:bad (toks s) 0=none):OkL ((toks s).map zTok):=by
 intro i hk
 have hr:=tkAt_real hk
 obtain ⟨n,rfl⟩:∃ n:Nat,i=n:=⟨i.toNat,by omega⟩
 have hn:n < (toks s).length:=by have:=hr.2;rw [List.length_map] at this;omega
 have e:tkAt ((toks s).map zTok) (n:Nat)=zTok (toks s)[n]:=tkAt_in (by rw [List.getElem?_map,List.getElem?_eq_getElem hn];rfl)
 rw [e] at hk ⊢
 exact okK_of h _ (List.getElem_mem hn) hk
end Go.Proofs.YtfcgoainglpdlaaGreatDoor
namespace Go.Proofs.YtfcgoainglpdlaaGreatDoor
open Go.RowKit
open Go.Lib hiding intOf
theorem typ_er:∀ t:TX,typG (toGT (erT (fun _=>0) t))=typG (toGT t)
 |.leaf k p g n=>by unfold erT toGT;rw [typG,typG]
 |.list p x=>by
  unfold erT toGT
  rw [typG,typG,typGs,typGs,typ_er x]
mutual
theorem pln_er:∀ x:EX,plnG (toGX (er x))=plnG (toGX x)∧levG (toGX (er x))=levG (toGX x)
 |.mk k p s n nm t args=>by
  have h:plsG (toGXs (ers args))=plsG (toGXs args):=plns_er args
  have ht:=typ_er t
  unfold er toGX
  rw [plnG,plnG,h,ht]
  exact ⟨rfl,rfl⟩
theorem plns_er:∀ xs:List EX,plsG (toGXs (ers xs))=plsG (toGXs xs)
 |[]=>by unfold ers;rfl
 |y::r=>by
  have h1:=pln_er y
  have h2:=plns_er r
  unfold ers toGXs
  rw [plsG,plsG,h1.1,h1.2,h2]
end
theorem exL_er {x y:EX} (h:er y=er x):exL (toGX y)=exL (toGX x):=by
 unfold exL
 rw [← (pln_er y).1,← (pln_er y).2,h,(pln_er x).1,(pln_er x).2]
mutual
def SmG:GX→GX→Prop
 |.mk k _ _ nm n t us,.mk k' _ _ nm' n' t' bs=>k=k'∧nm=nm'∧n=n'∧typG t=typG t'∧(typG t).size≤100000∧SmGs us bs
def SmGs:List GX→List GX→Prop
 |[],[]=>True
 |a::r,b::q=>SmG a b∧SmGs r q
 |_,_=>False
end
theorem SmGs.len:∀ {us bs:List GX},SmGs us bs→us.length=bs.length
 |[],[],_=>rfl
 |a::r,b::q,h=>by
  unfold SmGs at h
  simp only [List.length_cons,SmGs.len h.2]
 |[],_::_,h=>by unfold SmGs at h;exact h.elim
 |_::_,[],h=>by unfold SmGs at h;exact h.elim
theorem SmGs.at_:∀ {us bs:List GX} {j:Nat} {a b:GX},SmGs us bs→us[j]?=some a→bs[j]?=some b→SmG a b
 |x::r,y::q,0,a,b,h,ha,hb=>by
  unfold SmGs at h
  simp only [List.getElem?_cons_zero,Option.some.injEq] at ha hb
  subst ha;subst hb
  exact h.1
 |x::r,y::q,j + 1,a,b,h,ha,hb=>by
  unfold SmGs at h
  exact SmGs.at_ h.2 (by simpa using ha) (by simpa using hb)
 |[],_,_,_,_,_,ha,_=>by simp at ha
 |_::_,[],_,_,_,h,_,_=>by unfold SmGs at h;exact h.elim
theorem typ_small:∀ t:TX,wfT t→nT t→(typG (toGT t)).size≤90 + 2 * depT t
 |.leaf k p g n,hw,_=>by
  have:=tl (.leaf k p g n) hw
  have h3:(cT (.leaf k p g n)).length≤3:=by
   unfold cT
   repeat' split
   all_goals simp
  unfold depT
  unfold wfT at hw
  unfold toGT
  rcases hw with h | ⟨rfl,h1,h2⟩
  ·have e:(typG (.mk k p g n [])).data.toList=wordT k:=by rcases h with rfl | rfl | rfl <;> (rw [typG];rfl)
   have e2:(wordT k).length≤4:=by rcases h with rfl | rfl | rfl <;> decide
   have e3:=bsize (typG (.mk k p g n []))
   rw [e] at e3
   omega
  ·have l1:=len1 h1
   rw [bsize] at l1
   rw [typG]
   simp only [show ¬ ((4:Int)=1) by decide,show ¬ ((4:Int)=2) by decide,show ¬ ((4:Int)=3) by decide,if_false,if_true]
   split
   ·next hg =>
    have l2:=len1 (h2.resolve_left hg)
    rw [bsize] at l2
    simp only [ByteArray.size_append]
    have:(⟨#[46]⟩:ByteArray).size=1:=rfl
    omega
   ·omega
 |.list p x,hw,hn=>by
  unfold wfT at hw
  unfold nT at hn
  have:=typ_small x hw hn
  unfold depT toGT
  rw [typG,typGs]
  simp only [show ¬ ((5:Int)=1) by decide,show ¬ ((5:Int)=2) by decide,show ¬ ((5:Int)=3) by decide,show ¬ ((5:Int)=4) by decide,if_false,if_true,ByteArray.size_append]
  have:(⟨#[91,93]⟩:ByteArray).size=2:=rfl
  omega
mutual
theorem sm_of:∀ {x y:EX},wfX x→nX x→er y=er x→SmG (toGX x) (toGX y)
 |.mk k p s n nm t args,.mk k' p' s' n' nm' t' args',hw,hn,h=>by
  unfold wfX at hw
  unfold nX at hn
  unfold er at h
  injection h with h1 _ _ h4 h5 h6 h7
  unfold toGX SmG
  have ht:typG (toGT t)=typG (toGT t'):=by rw [← typ_er t,← h6,typ_er t']
  refine ⟨h1.symm,h5.symm,h4.symm,ht,?_,sms_of hw.1 hn.1 h7⟩
  obtain ⟨_,_,hw⟩:=hw
  obtain ⟨_,_,_,n3,n4,_⟩:=hn
  by_cases h8:k=8
  ·have hwt:wfT t:=by
    rcases hw with ⟨e,_⟩ | ⟨e,_⟩ | ⟨e,_⟩ | ⟨e,_⟩ | ⟨e,_⟩ | ⟨e,_⟩ | ⟨e,_⟩ | ⟨_,h⟩ | ⟨e,_⟩ | ⟨e,_⟩
    all_goals first | exact h | omega
   have:=typ_small t hwt (n4 h8).1
   have:=(n4 h8).2
   omega
  ·rw [n3 h8]
   exact Nat.le_trans (show (typG (toGT noTX)).size≤1 from Nat.le_refl _) (by decide)
theorem sms_of:∀ {xs ys:List EX},wfXs xs→nXs xs→ers ys=ers xs→SmGs (toGXs xs) (toGXs ys)
 |[],[],_,_,_=>by unfold toGXs SmGs;trivial
 |x::r,y::q,hw,hn,h=>by
  unfold wfXs at hw
  unfold nXs at hn
  unfold ers at h
  injection h with h1 h2
  unfold toGXs SmGs
  exact ⟨sm_of hw.1 hn.1 h1,sms_of hw.2 hn.2 h2⟩
 |[],y::q,_,_,h=>by unfold ers at h;cases h
 |x::r,[],_,_,h=>by unfold ers at h;cases h
end
theorem has_toks (s:List UInt8) {ts:List Key} (hk:keys s=ts):Has ((toks s).map zTok) 0 (ts++[(0,[])]):=by
 intro n q hq
 rw [← hk,← toks_keys s,List.getElem?_map] at hq
 obtain ⟨t,ht,rfl⟩:=Option.map_eq_some_iff.1 hq
 have e:tkAt ((toks s).map zTok) (0 + (n:Int))=zTok t:=by
  rw [Int.zero_add]
  exact tkAt_in (by rw [List.getElem?_map,ht];rfl)
 rw [e]
 exact ⟨rfl,rfl⟩
theorem back_plain {s:List UInt8} {x:EX} {n:Int} (hb:bad (toks s) 0=none) (h:exAll s=.ok x n) (hn:n≤4000) :
  wfX x∧(exL (toGX x)).length≤4000000∧bad (toks (exL (toGX x))) 0=none ∧
  ∃ y f,ex ((toks (exL (toGX x))).map zTok) f 1 0 0=.ok y (((toks (exL (toGX x))).length:Nat) - 1)∧wfX y∧exL (toGX y)=exL (toGX x)∧SmG (toGX x) (toGX y):=by
 unfold exAll at h
 obtain ⟨w1,w2⟩:=(read_ok (okL_of hb) _).1 _ _ _ _ _ (by decide) (by decide) h
 obtain ⟨d1,d2⟩:=(read_dep _).1 _ _ _ _ _ (by decide) (by decide) h
 have hk:keys (exL (toGX x))=ce x:=(lb_exL w1).all
 have hl:(ce x).length≤4000:=by rw [ce_len];push_cast at w2;omega
 obtain ⟨r1,r2⟩:=right_of hk (ok_ce w1) hl
 have hH:=has_toks _ hk
 have hE:Sto 1 (tkAt ((toks (exL (toGX x))).map zTok) (0 + ((ce x).length:Nat))):=by
  obtain ⟨a1,a2⟩:=hH.right.head
  simp only at a1 a2
  exact ⟨⟨notS_kind (by rw [a1];decide),notS_kind (by rw [a1];decide),notS_kind (by rw [a1];decide)⟩,fun m _ h1=>by rw [lvl_none (.inl (by rw [a1];decide))];omega⟩
 obtain ⟨y,hy,f0,hf⟩:=(cor_all _ x (Nat.lt_succ_self _) w1 d1).e (k:=1) (by decide) (by decide) (d:=0) (d2 (by decide)) hH.left hE
 have hy1:=hf f0 (Nat.le_refl _)
 have e:(0:Int) + ((ce x).length:Nat)=((toks (exL (toGX x))).length:Nat) - 1:=by rw [r2];push_cast;omega
 have hlx:=el w1
 refine ⟨w1,by omega,r1,y,f0,?_,?_,exL_er hy,sm_of w1 d1 hy⟩
 ·rw [← e];exact hy1
 ·exact ((read_ok (okL_of r1) _).1 _ _ _ _ _ (by decide) (by decide) hy1).1
end Go.Proofs.YtfcgoainglpdlaaGreatDoor
