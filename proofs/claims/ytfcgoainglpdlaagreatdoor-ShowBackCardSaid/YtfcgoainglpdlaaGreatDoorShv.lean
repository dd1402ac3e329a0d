/- ShowBack answers true: an expression that a text is, is read as itself, but for places, from its text. No condition beside the form's own reach. -/
import Derived.Test.YtfcgoainglpdlaaGreatDoorV23
import Derived.Test.YtfcgoainglpdlaaGreatDoorV42
import Derived.Test.YtfcgoainglpdlaaGreatDoorV44
import Derived.ChangeMaps5
set_option maxRecDepth 100000
set_option maxHeartbeats 8000000
namespace Go.Proofs.YtfcgoainglpdlaaGreatDoor.showBack
open Go.ChangeShapes Go.WideShapes Go.ChangeAt Go.RowKit
open Go.ChangeMaps (open_string shut_string)
open Go.Lib hiding intOf
theorem allOk {s:ByteArray} (h:bad (toks s.data.toList) 0=none) (hs:s.size≤140737488351232) (w:World):Calls Tryz.prog 22 #[.string s] w fun e w'=>∃ o cap,e=.returned (.tuple #[.slice o (toks s.data.toList).length cap,.agg #[.int .i64 0,.int .i64 0]])∧AtToks w' o (toks s.data.toList)∧Below w.heap.size w w' :=
 (all_at s _ 0 0 (lexed_good' h) w (by omega)).mono fun e w' ⟨o,cap,he,ht,hb,_⟩=>⟨o,cap,he,ht,hb⟩
theorem allErr {s:ByteArray} {a:Nat} {c:Int} (h:bad (toks s.data.toList) 0=some (a,c)) (hs:s.size≤140737488351232) (w:World):Calls Tryz.prog 22 #[.string s] w fun e w'=>∃ o n cap,e=.returned (.tuple #[.slice o n cap,.agg #[.int .i64 a,.int .i64 c]])∧Below w.heap.size w w' :=
 (all_at s _ a c (lexed_bad' h) w (by omega)).mono fun e w' ⟨o,cap,he,_,hb,_⟩=>⟨o,_,cap,he,hb⟩
theorem parseErr {s:List UInt8} {p q:Int} (hb:bad (toks s) 0=none) (h:exAll s=.err p q) (hs:s.length≤281474976710656) (o:Option Addr) (c:Nat) (w:World) (hz:AtToks w o (toks s)) :
  Calls Tryz.prog 23 #[.slice o (toks s).length c,.int .i64 0] w fun e w'=>e=.returned (.tuple #[.agg zeroE,.int .i64 0,.agg #[.int .i64 p,.int .i64 q]])∧Below w.heap.size w w':=by
 have hp:=parse_at s hb hs o c w hz
 refine hp.mono fun e w' ⟨v,he,hr,hb⟩=>?_
 rw [h] at hr
 exact ⟨by rw [he];exact congrArg _ hr,hb⟩
theorem parseG {s:List UInt8} {x:EX} {n:Int} {f:Nat} (hb:bad (toks s) 0=none) (h:ex ((toks s).map zTok) f 1 0 0=.ok x n) (hn:numX x=true) (hs:s.length≤281474976710656) (o:Option Addr) (c:Nat) (w:World) (hz:AtToks w o (toks s)) :
  Calls Tryz.prog 23 #[.slice o (toks s).length c,.int .i64 0] w fun e w'=>∃ (k p s n' tk tp:Int) (nm tg tn:ByteArray) (tz:Option Addr) (ta:Nat) (oo:Option Addr) (l cc:Nat),
  e=.returned (.tuple #[.agg #[.int .i64 k,.int .i64 p,.int .i64 s,.string nm,.int .i64 n',.int .i64 tk,.int .i64 tp,.string tg,.string tn,.slice tz ta ta,.slice oo l cc],.int .i64 n,.agg #[.int .i64 0,.int .i64 0]]) ∧
  IsX w' (toGX x) (.agg #[.int .i64 k,.int .i64 p,.int .i64 s,.string nm,.int .i64 n',.int .i64 tk,.int .i64 tp,.string tg,.string tn,.slice tz ta ta,.slice oo l cc])∧Below w.heap.size w w':=by
 have hf:=toks_fits hs
 have hl:((toks s).map zTok).length≤1073741824:=by have:=toks_few hb;rw [List.length_map];omega
 have hp:=parseE_any (c:=c) 0 w hz.zt f (fun b m=>level_all hl hf _) (by rw [h];simp)
 rw [List.length_map,h] at hp
 refine hp.mono fun e w' ⟨v,he,hr,hb⟩=>?_
 obtain ⟨vx,rfl,hx⟩:=hr
 have hx':IsEP _ w' x vx:=hx
 have hG:=hx'.toG hn
 obtain ⟨n',nm,tk,tp,tg,tn,tz,ta,oo,cc,rfl,_⟩:=hx'.parts
 exact ⟨_,_,_,_,_,_,_,_,_,_,_,_,_,_,he,hG,hb⟩
theorem bytes_eq {a b:ByteArray} (h:a.data.toList=b.data.toList):a=b:=ByteArray.ext (Array.ext' h)
theorem walk (s:ByteArray) (w:World) (hT:TabW w) (hs:s.size≤140737488351232) :
  Calls Tryz.prog 7 #[.string s] w fun e w'=>e=.returned (.bool true)∧Below w.heap.size w w':=by
 have HA:=Lib.hid (awake7_any w hT)
 have hsz:s.data.toList.length=s.size:=by rw [Array.length_toList];rfl
 rcases lexed_cases s.data.toList with ⟨hb,_⟩ | ⟨a,c,hb,_⟩
 ·have HL:=Lib.hid (allOk hb hs)
  cases hq:exAll s.data.toList with
  |out=>exact (exAll_some _ hq).elim
  |err p q =>
   have hq0:=((read_err _).1 _ _ _ _ _ hq).2
   have HP:=Lib.hid (parseErr hb hq (by omega))
   have eq:(q != 0)=true:=by simpa using hq0
   clear hq hb hsz hq0 hs hT
   generalize toks s.data.toList=ts at *
   go_enter Tryz.func7,Tryz.ntmps7
   go_wp2_with fail
   refine HA.out.mono ?_
   rintro e w1 ⟨rfl,hB⟩
   have H1:=Lib.hid hB
   clear hB HA
   go_wp2_with fail
   refine (HL.out _).mono ?_
   rintro e w2 ⟨o,cap,rfl,hz,hB⟩
   have Z2:=Lib.hid (hz.below ((Below.refl _ _).alloc (Nat.le_refl _) (.cells #[.int .i64 0,.int .i64 0] 44)))
   have H2:=Lib.hid ((H1.out.trans (hB.mono H1.out.size)).alloc (by have:=H1.out.size;have:=hB.size;omega) (.cells #[.int .i64 0,.int .i64 0] 44))
   clear hB hz H1
   go_wp2_with fail
   refine (HP.out o cap _ Z2.out).mono ?_
   rintro e w3 ⟨rfl,hB⟩
   have H3:=Lib.hid (H2.out.trans (hB.mono H2.out.size))
   have hz3:=H3.out.size
   clear hB H2 Z2
   unfold zeroE
   go_wp2
   go_ret
   exact ⟨by simp,(H3.out.alloc hz3 _).alloc (by simp;omega) _⟩
  |ok x n =>
   have hfew:=toks_few hb
   by_cases hj:n=((toks s.data.toList).length:Nat) - 1
   ·obtain ⟨hw,hlen,hb2,y,f,hy,hwy,hyx,hsm⟩:=back_plain hb hq (by omega)
    have hfew2:=toks_few hb2
    have hyt:bx 1 (levG (toGX y),plnG (toGX y))=bx 1 (levG (toGX x),plnG (toGX x)):=bytes_eq hyx
    have ht:(bx 1 (levG (toGX x),plnG (toGX x))).size≤4000000:=by rw [← bsize];exact hlen
    have e2:exL (toGX x)=(bx 1 (levG (toGX x),plnG (toGX x))).data.toList:=rfl
    rw [e2] at hfew2 hy hb2 hlen
    have HP:=Lib.hid (fun (o:Option Addr) (c:Nat) (W:World) (hz:AtToks W o (toks s.data.toList))=>parseG (f:=fuel ((toks s.data.toList).map zTok)) hb hq (wfX.num hw) (by omega) o c W hz)
    have HO:=Lib.hid (fun (W:World)=>allOk (s:=bx 1 (levG (toGX x),plnG (toGX x))) hb2 (by omega) W)
    have HQ:=Lib.hid (fun (o:Option Addr) (c:Nat) (W:World) (hz:AtToks W o (toks (bx 1 (levG (toGX x),plnG (toGX x))).data.toList))=>parseG hb2 hy (wfX.num hwy) (Nat.le_trans hlen (by decide)) o c W hz)
    have HS:=Lib.hid (fun (v:Value) (W:World) (hT:TabW W) (hv:IsX W (toGX x) v)=>exprS_any (toGX x) v W hT hv (by omega))
    have HS':Hid (∀ (v:Value) (W:World) (hT:TabW W) (hv:IsX W (toGX y) v),Calls Tryz.prog 14 #[v] W fun e w'=>e=.returned (.string (bx 1 (levG (toGX x),plnG (toGX x))))∧Below W.heap.size W w'):=fun v W hT hv=>by
     have:=exprS_any (toGX y) v W hT hv (by rw [hyt];omega)
     rwa [hyt] at this
    have HM:=Lib.hid (fun (v v':Value) (W:World) (hv:IsX W (toGX x) v) (hv':IsX W (toGX y) v')=>same_any _ (toGX x) (toGX y) v v' W (Nat.lt_succ_self _) hsm hv hv')
    have T0:=Lib.hid hT
    have hnn:(0:Int)≤((toks s.data.toList).length:Nat):=by omega
    subst hj
    clear hq hb hb2 hsz hs hT hw hlen hwy hyx hsm hyt ht hy e2
    generalize bx 1 (levG (toGX x),plnG (toGX x))=t at *
    generalize toGX x=X at *
    generalize toGX y=Y at *
    generalize toks s.data.toList=ts at *
    generalize toks t.data.toList=us at *
    have hu:(0:Int)≤((us.length:Nat):Int):=by omega
    go_enter Tryz.func7,Tryz.ntmps7
    go_wp2_with fail
    refine HA.out.mono ?_
    rintro e w1 ⟨rfl,hB⟩
    have H1:=Lib.hid hB
    clear hB HA
    go_wp2_with fail
    refine (HL.out _).mono ?_
    rintro e w2 ⟨o,cap,rfl,hz,hB⟩
    have Z2:=Lib.hid (hz.below ((Below.refl _ _).alloc (Nat.le_refl _) (.cells #[.int .i64 0,.int .i64 0] 44)))
    have H2:=Lib.hid ((H1.out.trans (hB.mono H1.out.size)).alloc (by have:=H1.out.size;have:=hB.size;omega) (.cells #[.int .i64 0,.int .i64 0] 44))
    clear hB hz H1 HL
    go_wp2_with fail
    refine (HP.out o cap _ Z2.out).mono ?_
    rintro e w3 ⟨k,p,s,n,tk,tp,nm,tg,tn,tz,ta,oo,l,cc,rfl,hX,hB⟩
    have H3:Hid (Below w.heap.size w ((w3.alloc (.cells #[.int .i64 k,.int .i64 p,.int .i64 s,.string nm,.int .i64 n,.int .i64 tk,.int .i64 tp,.string tg,.string tn,.slice tz ta ta,.slice oo l cc] 31)).alloc (.cells #[.int .i64 0,.int .i64 0] 44))):=by
     have h1:=H2.out.trans (hB.mono H2.out.size)
     exact h1.trans ((below_two w3 _ _).mono h1.size)
    have X3:Hid (Blk ((w3.alloc (.cells #[.int .i64 k,.int .i64 p,.int .i64 s,.string nm,.int .i64 n,.int .i64 tk,.int .i64 tp,.string tg,.string tn,.slice tz ta ta,.slice oo l cc] 31)).alloc (.cells #[.int .i64 0,.int .i64 0] 44)) w3.heap.size 31 #[.int .i64 k,.int .i64 p,.int .i64 s,.string nm,.int .i64 n,.int .i64 tk,.int .i64 tp,.string tg,.string tn,.slice tz ta ta,.slice oo l cc]):=(Blk.new w3 _ _).alloc _
    have HX3:Hid (IsX ((w3.alloc (.cells #[.int .i64 k,.int .i64 p,.int .i64 s,.string nm,.int .i64 n,.int .i64 tk,.int .i64 tp,.string tg,.string tn,.slice tz ta ta,.slice oo l cc] 31)).alloc (.cells #[.int .i64 0,.int .i64 0] 44)) X (.agg #[.int .i64 k,.int .i64 p,.int .i64 s,.string nm,.int .i64 n,.int .i64 tk,.int .i64 tp,.string tg,.string tn,.slice tz ta ta,.slice oo l cc])):=hX.below (below_two w3 _ _)
    have T3:=Lib.hid (T0.out.below H3.out)
    clear hB hX HP H2 Z2 T0
    go_wp2_with (refine boxLoad 31 11 size11 Tryz.underlying31 rfl _ rfl w3.heap.size rfl (cs:=[_,_,_,_,_,_,_,_,_,_,_]) X3.out rfl ?_)
    refine (HS.out _ _ T3.out HX3.out).mono ?_
    rintro e w4 ⟨rfl,hB⟩
    have H4:=Lib.hid (H3.out.trans (hB.mono H3.out.size))
    have X4:=Lib.hid (X3.out.below hB)
    have HX4:=Lib.hid (HX3.out.below hB)
    have T4:=Lib.hid (T3.out.below hB)
    clear hB H3 X3 HX3 T3 HS
    generalize w3.heap.size=b1 at *
    go_wp2_with fail
    refine (HO.out _).mono ?_
    rintro e w5 ⟨o5,cap5,rfl,hz,hB⟩
    have K5:=Lib.hid (hB.trans (((Below.refl _ _).alloc (Nat.le_refl _) (.cells #[.int .i64 0,.int .i64 0] 44)).mono hB.size))
    have Z5:=Lib.hid (hz.below ((Below.refl _ _).alloc (Nat.le_refl _) (.cells #[.int .i64 0,.int .i64 0] 44)))
    have D5:Hid (Blk (w5.alloc (.cells #[.int .i64 0,.int .i64 0] 44)) w5.heap.size 44 #[.int .i64 0,.int .i64 0]):=Blk.new w5 _ _
    have H5:=Lib.hid (H4.out.trans (K5.out.mono H4.out.size))
    have X5:=Lib.hid (X4.out.below K5.out)
    have HX5:=Lib.hid (HX4.out.below K5.out)
    have T5:=Lib.hid (T4.out.below K5.out)
    clear hB hz K5 H4 X4 HX4 T4 HO
    go_wp2_with fail
    refine (HQ.out o5 cap5 _ Z5.out).mono ?_
    rintro e w6 ⟨k6,p6,s6,n6,tk6,tp6,nm6,tg6,tn6,tz6,ta6,oo6,l6,cc6,rfl,hY,hB⟩
    have K6:Hid (Below (w5.alloc (.cells #[.int .i64 0,.int .i64 0] 44)).heap.size (w5.alloc (.cells #[.int .i64 0,.int .i64 0] 44)) ((w6.alloc (.cells #[.int .i64 k6,.int .i64 p6,.int .i64 s6,.string nm6,.int .i64 n6,.int .i64 tk6,.int .i64 tp6,.string tg6,.string tn6,.slice tz6 ta6 ta6,.slice oo6 l6 cc6] 31)).alloc (.cells #[.int .i64 0,.int .i64 0] 44))):=hB.trans ((below_two w6 _ _).mono hB.size)
    have Y6:Hid (Blk ((w6.alloc (.cells #[.int .i64 k6,.int .i64 p6,.int .i64 s6,.string nm6,.int .i64 n6,.int .i64 tk6,.int .i64 tp6,.string tg6,.string tn6,.slice tz6 ta6 ta6,.slice oo6 l6 cc6] 31)).alloc (.cells #[.int .i64 0,.int .i64 0] 44)) w6.heap.size 31 #[.int .i64 k6,.int .i64 p6,.int .i64 s6,.string nm6,.int .i64 n6,.int .i64 tk6,.int .i64 tp6,.string tg6,.string tn6,.slice tz6 ta6 ta6,.slice oo6 l6 cc6]):=(Blk.new w6 _ _).alloc _
    have HY6:Hid (IsX ((w6.alloc (.cells #[.int .i64 k6,.int .i64 p6,.int .i64 s6,.string nm6,.int .i64 n6,.int .i64 tk6,.int .i64 tp6,.string tg6,.string tn6,.slice tz6 ta6 ta6,.slice oo6 l6 cc6] 31)).alloc (.cells #[.int .i64 0,.int .i64 0] 44)) Y (.agg #[.int .i64 k6,.int .i64 p6,.int .i64 s6,.string nm6,.int .i64 n6,.int .i64 tk6,.int .i64 tp6,.string tg6,.string tn6,.slice tz6 ta6 ta6,.slice oo6 l6 cc6])):=hY.below (below_two w6 _ _)
    have E6:Hid (Blk ((w6.alloc (.cells #[.int .i64 k6,.int .i64 p6,.int .i64 s6,.string nm6,.int .i64 n6,.int .i64 tk6,.int .i64 tp6,.string tg6,.string tn6,.slice tz6 ta6 ta6,.slice oo6 l6 cc6] 31)).alloc (.cells #[.int .i64 0,.int .i64 0] 44)) (w6.heap.size + 1) 44 #[.int .i64 0,.int .i64 0]):=Blk.sec w6 _ _ _ _
    have H6:=Lib.hid (H5.out.trans (K6.out.mono H5.out.size))
    have X6:=Lib.hid (X5.out.below K6.out)
    have D6:=Lib.hid (D5.out.below K6.out)
    have HX6:=Lib.hid (HX5.out.below K6.out)
    have T6:=Lib.hid (T5.out.below K6.out)
    clear hB hY K6 H5 X5 D5 HX5 T5 HQ Z5
    go_wp2_with (first
     |(refine boxLoad 31 11 size11 Tryz.underlying31 rfl _ rfl b1 rfl (cs:=[.int .i64 k,_,_,_,_,_,_,_,_,_,_]) X6.out rfl ?_)
     |(refine boxLoad 31 11 size11 Tryz.underlying31 rfl _ rfl w6.heap.size rfl (cs:=[.int .i64 k6,_,_,_,_,_,_,_,_,_,_]) Y6.out rfl ?_))
    refine (HM.out _ _ _ HX6.out HY6.out).mono ?_
    rintro e w7 ⟨rfl,hB⟩
    have H7:=Lib.hid (H6.out.trans (hB.mono H6.out.size))
    have Y7:=Lib.hid (Y6.out.below hB)
    have HY7:=Lib.hid (HY6.out.below hB)
    have T7:=Lib.hid (T6.out.below hB)
    have d7:=(D6.out.below hB).cell
    have e7:=(E6.out.below hB).cell
    have y7:=Y7.out.cell
    have z7:=Y7.out.lt
    have q7:=(D6.out.below hB).lt
    have r7:=(E6.out.below hB).lt
    clear hB H6 X6 Y6 D6 E6 HX6 HY6 T6 HM
    go_wp2_with (first
     |(go_at_call 14;refine (HS'.out _ _ T7.out HY7.out).mono ?_;rintro e w8 ⟨rfl,hB⟩;have H8:=Lib.hid (H7.out.trans (hB.mono H7.out.size));clear hB))
    go_ret
    exact ⟨by first | rfl | simp,H8.out⟩
   ·have ej:(n != ((toks s.data.toList).length:Nat) - 1)=true:=by rw [bne_iff_ne];exact hj
    have HP:=Lib.hid (fun (o:Option Addr) (c:Nat) (W:World) (hz:AtToks W o (toks s.data.toList))=>parse_at s.data.toList hb (by omega) o c W hz)
    rw [hq] at HP
    clear hq hb hsz hs hT hj
    generalize toks s.data.toList=ts at *
    go_enter Tryz.func7,Tryz.ntmps7
    go_wp2_with fail
    refine HA.out.mono ?_
    rintro e w1 ⟨rfl,hB⟩
    have H1:=Lib.hid hB
    clear hB HA
    go_wp2_with fail
    refine (HL.out _).mono ?_
    rintro e w2 ⟨o,cap,rfl,hz,hB⟩
    have Z2:=Lib.hid (hz.below ((Below.refl _ _).alloc (Nat.le_refl _) (.cells #[.int .i64 0,.int .i64 0] 44)))
    have H2:=Lib.hid ((H1.out.trans (hB.mono H1.out.size)).alloc (by have:=H1.out.size;have:=hB.size;omega) (.cells #[.int .i64 0,.int .i64 0] 44))
    clear hB hz H1 HL
    go_wp2_with fail
    refine (HP.out o cap _ Z2.out).mono ?_
    rintro e w3 ⟨v,rfl,hr,hB⟩
    obtain ⟨vx,rfl,hx⟩:=hr
    obtain ⟨n',nm,tk,tp,tg,tn,tz,ta,o',c',rfl,_⟩:=hx.parts
    have H3:=Lib.hid (H2.out.trans (hB.mono H2.out.size))
    have hz3:=H3.out.size
    clear hB H2 Z2 hx HP
    go_wp2
    go_ret
    exact ⟨by simp,(H3.out.alloc hz3 _).alloc (by simp;omega) _⟩
 ·have HL:=Lib.hid (allErr hb hs)
  have hc:=(bad_some hb).1
  have hc2:(c != 0)=true:=by simpa using hc
  clear hb hsz hc hs hT
  go_enter Tryz.func7,Tryz.ntmps7
  go_wp2_with fail
  refine HA.out.mono ?_
  rintro e w1 ⟨rfl,hB⟩
  have H1:=Lib.hid hB
  clear hB HA
  go_wp2_with fail
  refine (HL.out _).mono ?_
  rintro e w2 ⟨o,m,cap,rfl,hB⟩
  have H2:=Lib.hid (H1.out.trans (hB.mono H1.out.size))
  have hz2:=H2.out.size
  clear hB H1 HL
  go_wp2
  go_ret
  exact ⟨rfl,H2.out.alloc hz2 _⟩
theorem contract (H:Type) (enc:TypeId × Value→H) (W:World) (base:Nat) (args:Array Value) (ds gs:List (DataW H)) (before:List MemPlace)
  (hval:∀ (j:Nat) t v,Tryz.f7.params[j]?=some t→args[j]?=some v→Value.okWide Tryz.prog W .any base t v)
  (hW:DataW.Whole enc Tryz.prog Tryz.f7.params.toList Rows.showBackSpec.vars false W args.toList ds gs before) (hreach:∀ n ∈ DataW.weightsEach Tryz.prog Tryz.f7.params.toList (ds++gs),n≤reachBytes) (hL:laidMetH Tryz.prog Rows.showBackRow.laid W) :
  Calls Tryz.prog 7 args W fun e W'=>∃ v,e=.returned v∧Rows.showBackSpec.post enc Tryz.prog Tryz.f7 false true false false W args v W':=by
 have hT:TabW W:=table7 hL
 have hW':=hW
 obtain ⟨p,q,hA0,hV,rfl,hfz,hnd⟩:=hW
 have hA:DataW.TrodAll enc Tryz.prog W 0 (fun _=>true) true Tryz.f7.params.toList args.toList ds p:=hA0
 rw [Tryz.params7] at hA hval
 obtain ⟨v0,vs0,d0,ds0,p0,q0',hargs,rfl,rfl,h0,r0⟩:=trodAll_cons hA
 obtain ⟨rfl,rfl,rfl⟩:=trodAll_nil r0
 obtain rfl:args=#[v0]:=by cases args;simp_all
 obtain ⟨rfl,rfl⟩:=trodVars_none hV
 obtain ⟨a0,rfl,rfl,rfl,w0⟩:=open_string Tryz.underlying9 (hval 0 9 v0 rfl rfl) h0
 have f0:a0.size≤140737488351232:=by
  have h:=hreach a0.data.toList.length (by simp [DataW.weightsEach,DataW.weights])
  have e:a0.data.toList.length=a0.size:=by rw [Array.length_toList];rfl
  have hr:reachBytes=140737488351232:=by decide
  omega
 clear hA0
 simp only [List.append_nil] at hW'
 refine (walk a0 W hT f0).mono fun e W' ⟨he,hg⟩=>?_
 subst he
 exact ⟨_,rfl,_,_,_,[],_,[],hW',(trodAll_cons_mk (shut_bool Tryz.underlying4 _) trodAll_mk0),(trodAll_cons_mk (shut_string Tryz.underlying9 w0) trodAll_mk0),rfl,hg.frame _,fun h=>by cases h⟩
theorem laid_met (os:Os):laidMet Tryz.prog laid7 ((laidWorld7 os).forCall (fun _ _=>0) ⟨#[],#[.string .empty],[]⟩).memory :=
 laidMet_of_run' 8 (by kernel_rfl) (by kernel_rfl)
theorem reads (os:Os) {H:Type} (enc:TypeId × Value→H):∃ places,DataW.whole enc Tryz.prog ((laidWorld7 os).forCall (fun _ _=>0) ⟨#[],#[.string .empty],[]⟩).memory Tryz.f7.params.toList Rows.showBackSpec.vars false (#[.string .empty]:Array Value).toList 8=some ([.lit (.string [])],[],places) :=
 ⟨[],by kernel_rfl⟩
theorem lifted (os:Os) (started:os.Started) (H:Type) (enc:TypeId × Value→H) (F:Stop.Interp) :
  ReturnsInHanded {} Tryz.checked os 7 .any ((OpenSpec.ofChange Rows.showBackSpec).preRow enc Tryz.prog Tryz.f7 Rows.showBackRow.domain false Rows.showBackRow.laid) (((OpenSpec.ofChange Rows.showBackSpec).at F).post enc Tryz.prog Tryz.f7 false true false false):=by
 obtain ⟨places,hx⟩:=reads os enc
 refine returnsInHanded_of_row (C:=Tryz.checked) (s:=(OpenSpec.ofChange Rows.showBackSpec)) own7 started (by kernel_rfl) Tryz.func7
  (witness_row_at (enc:=enc) (C:=Tryz.checked) false (laidWorld7 os) #[.string .empty] rfl (by kernel_rfl) (by kernel_rfl) (by kernel_rfl)
   (OpenSpec.preRow_of_cond 8 hx (by kernel_rfl) (fun k hk=>by cases hk) (by kernel_rfl) (laid_met os))) ?_
 intro W base args ds gs before hval hW _ hcond hsz hL _ _
 exact contract H enc W base args ds gs before hval hW (fun n hn=>of_decide_eq_true (List.all_eq_true.1 hsz n hn)) hL
theorem said:Rows.ShowBackSaid :=
 OpenClaim.holds_of_cond 7 Tryz.f7 rfl rfl rfl rfl rfl rfl rfl ⟨rfl,rfl,rfl,rfl,rfl⟩ rfl rfl rfl rfl rfl (by kernel_rfl) Tryz.func7 (by kernel_rfl)
  (of_decide_eq_true (by kernel_rfl)) (by unfold Func.isWrapper;first | (rw [if_pos (by decide +kernel)];kernel_rfl) | (rw [if_neg (by decide +kernel)];exact ⟨rfl,rfl⟩))
  (fun os started H enc _ F=>by rw [OpenClaim.pre_eq_preRow];exact lifted os started H enc F)
theorem plain (f:FuncId) (fn:Func) (hf:Tryz.pinned.checked.prog.funcNamed "quoin/quoinlaw07.ShowBack"=some f) (hfn:Tryz.pinned.checked.prog.funcs[f]?=some fn) :
  true=Tryz.pinned.checked.prog.looks []∧∀ (j:Nat) t,fn.params[j]?=some t→Tryz.pinned.checked.prog.wantsStandIn t=false:=by
 obtain rfl:f=7:=Option.some.inj ((show Tryz.prog.funcNamed "quoin/quoinlaw07.ShowBack"=some 7 by kernel_rfl).symm.trans hf) |>.symm
 obtain rfl:fn=Tryz.f7:=(Option.some.inj (Tryz.func7.symm.trans hfn)).symm
 refine ⟨by kernel_rfl,fun j t ht=>?_⟩
 rw [Tryz.params7] at ht
 have hm:=Array.mem_of_getElem? ht
 simp only [List.mem_toArray,List.mem_cons,List.not_mem_nil,or_false] at hm
 rcases hm with rfl
 exact (show Tryz.prog.wantsStandIn 9=false by kernel_rfl)
theorem proved:Rows.ShowBackCardSaid :=
 Claim7.holds_tied_plain_at .later [] _ _ _ _ said (fun _ h=>by cases h) (by kernel_rfl) (fun _ h=>by cases h) showBack_row_tie rfl ⟨rfl,rfl⟩ (by kernel_rfl) rfl plain (by kernel_rfl)
end Go.Proofs.YtfcgoainglpdlaaGreatDoor.showBack
