/- The walks of 'number' and 'unquoted'. Condition: a text of at most 2^48 bytes. -/
import Derived.Test.YtfcgoainglpdlaaGreatDoorV13
import Derived.Lib.ConvBytes
set_option maxRecDepth 20000
set_option maxHeartbeats 1000000
namespace Go.Proofs.YtfcgoainglpdlaaGreatDoor
open Go.RowKit
open Go.Lib hiding intOf
theorem prefix1 (l:List UInt8):Lib.hasPrefix l [34]=decide (l.head?=some 34):=by
 unfold Lib.hasPrefix
 cases l with
 |nil=>rfl
 |cons x r =>
  simp [List.isPrefixOf]
  rw [Bool.eq_iff_iff]
  simp
  exact eq_comm
theorem cutPrefix_in (s:ByteArray) (w:World) (hs:s.size≤9223372036854775807) :
  Calls Tryz.prog 164 #[.string s,.string ⟨#[34]⟩] w fun e w'=>e=.returned (.tuple #[.string (if s.data.toList.head?=some 34 then s.extract 1 s.size else s),.bool (decide (s.data.toList.head?=some 34))])∧w'=w:=by
 have HP:=Lib.hid (Tryz.stringslite_HasPrefix s ⟨#[34]⟩)
 by_cases h:s.data.toList.head?=some 34
 ·have e:Lib.hasPrefix s.data.toList (⟨#[34]⟩:ByteArray).data.toList=true:=by
   show Lib.hasPrefix s.data.toList [34]=true
   rw [prefix1,h];rfl
  have hz:1≤s.size:=by
   have:0 < s.data.toList.length:=by
    rcases hl:s.data.toList with _ | ⟨x,r⟩
    ·rw [hl] at h;cases h
    ·simp
   rw [size_toList] at this
   exact this
  rw [e] at HP
  simp only [h,if_true,decide_true]
  clear h e
  go_enter Tryz.func164,Tryz.ntmps164
  go_wp2_with (go_at_call 115;refine (HP.out _).mono ?_;rintro e w1 ⟨rfl,rfl⟩)
  go_ret2
  exact ⟨rfl,rfl⟩
 ·have e:Lib.hasPrefix s.data.toList (⟨#[34]⟩:ByteArray).data.toList=false:=by
   show Lib.hasPrefix s.data.toList [34]=false
   rw [prefix1];simpa using h
  rw [e] at HP
  simp only [h,if_false,decide_false]
  clear h e
  go_enter Tryz.func164,Tryz.ntmps164
  go_wp2_with (go_at_call 115;refine (HP.out _).mono ?_;rintro e w1 ⟨rfl,rfl⟩)
  go_ret2
  exact ⟨rfl,rfl⟩
theorem cutPrefix_any (s:ByteArray) (w:World) (hs:s.size≤9223372036854775807) :
  Calls Tryz.prog 154 #[.string s,.string ⟨#[34]⟩] w fun e w'=>e=.returned (.tuple #[.string (if s.data.toList.head?=some 34 then s.extract 1 s.size else s),.bool (decide (s.data.toList.head?=some 34))])∧w'=w:=by
 have HP:=Lib.hid (cutPrefix_in s w hs)
 clear hs
 generalize (if s.data.toList.head?=some 34 then s.extract 1 s.size else s)=u at *
 generalize decide (s.data.toList.head?=some 34)=v at *
 go_enter Tryz.func154,Tryz.ntmps154
 go_wp2_with (go_at_call 164;refine HP.out.mono ?_;rintro e w1 ⟨rfl,rfl⟩)
 go_ret2
 exact ⟨rfl,rfl⟩
theorem quoted_parts (l:List UInt8):quoted l=(decide (l.head?=some 34) && decide ((l.drop 1).getLast?=some 34)):=by
 unfold quoted
 rcases l with _ | ⟨x,_ | ⟨y,r⟩⟩
 ·rfl
 ·simp
 ·simp
theorem unquote_parts (l:List UInt8):unquote l=(l.drop 1).dropLast:=by
 unfold unquote
 rw [List.dropLast_eq_take,List.length_drop]
 rfl
theorem unquoted_ok (t:TZ) (w:World) (hs:t.text.size≤281474976710656) (hq:quoted t.text.data.toList=true) :
  Calls Tryz.prog 141 #[.agg #[.int .i64 t.kind,.int .i64 t.pos,.int .i64 t.stop,.string t.text]] w fun e w'=>e=.returned (.string ⟨(unquote t.text.data.toList).toArray⟩)∧Below w.heap.size w w':=by
 rw [unquote_parts]
 rw [quoted_parts] at hq
 simp only [Bool.and_eq_true,decide_eq_true_eq] at hq
 obtain ⟨h1,h2⟩:=hq
 have hz:1≤t.text.size:=by
  have:0 < t.text.data.toList.length:=by
   rcases hl:t.text.data.toList with _ | ⟨x,r⟩
   ·rw [hl] at h1;cases h1
   ·simp
  rw [size_toList] at this
  exact this
 have HP:=Lib.hid (fun w=>cutPrefix_any t.text w (by omega))
 have HS:=Lib.hid (fun w=>cut_any t.text w hz (by omega))
 rw [trim1 _ h2] at HS
 simp only [h1,h2,if_true,decide_true] at HP HS
 have hl:(⟨(t.text.data.toList.drop 1).dropLast.toArray⟩:ByteArray).size≤281474976710656:=by
  show ((t.text.data.toList.drop 1).dropLast.toArray).size≤_
  have:=size_toList t.text
  simp only [List.size_toArray,List.length_dropLast,List.length_drop]
  omega
 generalize (⟨(t.text.data.toList.drop 1).dropLast.toArray⟩:ByteArray)=u at *
 have HC:=Lib.hid (fun w=>clone_any u w hl)
 clear h1 h2 hl
 go_enter Tryz.func141,Tryz.ntmps141
 go_wp2_with fail
 refine (HP.out _).mono ?_
 rintro e w1 ⟨rfl,rfl⟩
 go_wp2_with fail
 refine (HS.out _).mono ?_
 rintro e w2 ⟨rfl,rfl⟩
 go_wp2_with fail
 refine (HC.out _).mono ?_
 rintro e w3 ⟨rfl,hB⟩
 have B3:=Lib.hid (((Below.refl w.heap.size w).alloc (Nat.le_refl _) _).trans (hB.mono (by simp)))
 clear hB
 go_wp2
 go_ret
 exact ⟨rfl,B3.out⟩
theorem unquoted_no (t:TZ) (w:World) (hs:t.text.size≤281474976710656) (hq:quoted t.text.data.toList=false) :
  Calls Tryz.prog 141 #[.agg #[.int .i64 t.kind,.int .i64 t.pos,.int .i64 t.stop,.string t.text]] w fun e w'=>e=.panicked (thrown t.pos 3)∧Below w.heap.size w w':=by
 have HP:=Lib.hid (fun w=>cutPrefix_any t.text w (by omega))
 by_cases h1:t.text.data.toList.head?=some 34
 ·have h2:¬ (t.text.data.toList.drop 1).getLast?=some 34:=fun h2=>by rw [quoted_parts,h1,h2] at hq;simp at hq
  have hz:1≤t.text.size:=by
   have:0 < t.text.data.toList.length:=by
    rcases hl:t.text.data.toList with _ | ⟨x,r⟩
    ·rw [hl] at h1;cases h1
    ·simp
   rw [size_toList] at this
   exact this
  have HS:=Lib.hid (fun w=>cut_any t.text w hz (by omega))
  simp only [h1,h2,if_true,decide_true,decide_false] at HP HS
  generalize (⟨(Lib.trimSuffix (t.text.data.toList.drop 1) [34]).toArray⟩:ByteArray)=u at *
  clear h1 h2 hq
  go_enter Tryz.func141,Tryz.ntmps141
  go_wp2_with fail
  refine (HP.out _).mono ?_
  rintro e w1 ⟨rfl,rfl⟩
  go_wp2_with fail
  refine (HS.out _).mono ?_
  rintro e w2 ⟨rfl,rfl⟩
  go_wp2_with fail
  refine (throw_any _ _ _ _ 3 _).mono ?_
  rintro e w3 ⟨rfl,hB⟩
  have B3:=Lib.hid (((Below.refl w.heap.size w).alloc (Nat.le_refl _) _).trans (hB.mono (by simp)))
  clear hB
  go_wp2
  exact ⟨rfl,rfl,B3.out⟩
 ·simp only [h1,if_false,decide_false] at HP
  have HS:=Lib.hid (fun w=>Tryz.strings_CutSuffix t.text ⟨#[34]⟩ w (by omega))
  clear h1 hq
  go_enter Tryz.func141,Tryz.ntmps141
  go_wp2_with fail
  refine (HP.out _).mono ?_
  rintro e w1 ⟨rfl,rfl⟩
  go_wp2_with fail
  refine (HS.out _).mono ?_
  rintro e w2 ⟨rfl,rfl⟩
  go_wp2_with fail
  refine (throw_any _ _ _ _ 3 _).mono ?_
  rintro e w3 ⟨rfl,hB⟩
  have B3:=Lib.hid (((Below.refl w.heap.size w).alloc (Nat.le_refl _) _).trans (hB.mono (by simp)))
  clear hB
  go_wp2
  exact ⟨rfl,rfl,B3.out⟩
def foldD (l:List UInt8):Int:=l.foldl (fun n c=>10 * n + ((c.toNat:Int) - 48)) 0
theorem foldD_snoc (l:List UInt8) (c:UInt8):foldD (l++[c])=10 * foldD l + ((c.toNat:Int) - 48):=by
 unfold foldD;rw [List.foldl_append];rfl
theorem foldD_take {l:List UInt8}:∀ (k:Nat),k≤l.length→(l.take k).all isD=true→∃ n:Nat,foldD (l.take k)=n∧n < 10 ^ k
 |0,_,_=>⟨0,by simp [foldD],by decide⟩
 |k + 1,hk,h=>by
  rw [List.take_succ_eq_append_getElem (by omega)] at h ⊢
  rw [List.all_append,Bool.and_eq_true] at h
  obtain ⟨n,hn,hl⟩:=foldD_take k (by omega) h.1
  have hd:isD l[k]=true:=by simpa using h.2
  unfold isD at hd
  simp only [Bool.and_eq_true,decide_eq_true_eq] at hd
  refine ⟨10 * n + (l[k].toNat - 48),?_,?_⟩
  ·rw [foldD_snoc,hn];omega
  ·rw [Nat.pow_succ];omega
theorem numOf_some {l:List UInt8} (h0:1≤l.length) (h1:l.length≤15) (h:l.all isD=true):numOf l=some (foldD l):=by
 unfold numOf;rw [if_pos ⟨h0,h1,h⟩];rfl
theorem numOf_none {l:List UInt8} (h:¬ (1≤l.length∧l.length≤15∧l.all isD=true)):numOf l=none:=by
 unfold numOf;rw [if_neg h]
theorem bytes_below (w:World) (s:ByteArray):Below w.heap.size w (Lib.bytesWorld w 5 s) :=
 ⟨rfl,rfl,rfl,by rw [Lib.bytesWorld_size];omega,fun k hk=>Lib.bytesWorld_at_old w 5 s k hk⟩
def NumRes (r:Option Int) (p:Int) (e:Ending):Prop:=match r with
 |some n=>e=.returned (.int .i64 n)
 |none=>e=.panicked (thrown p 2)
theorem number_any (t:TZ) (w:World) (hs:t.text.size≤281474976710656) :
  Calls Tryz.prog 140 #[.agg #[.int .i64 t.kind,.int .i64 t.pos,.int .i64 t.stop,.string t.text]] w fun e w'=>NumRes (numOf t.text.data.toList) t.pos e∧Below w.heap.size w w':=by
 obtain ⟨tk,tp,ts,s⟩:=t
 simp only at hs ⊢
 have hsz:=size_toList s
 by_cases h0:s.size=0
 ·rw [numOf_none (by omega)]
  have b0:(((s.size:Nat):Int) == 0)=true:=by rw [beq_iff_eq];omega
  clear hsz
  go_enter Tryz.func140,Tryz.ntmps140
  go_wp2_with fail
  refine (throw_any _ _ _ _ 2 _).mono ?_
  rintro e w3 ⟨rfl,hB⟩
  have B3:=Lib.hid (((Below.refl w.heap.size w).alloc (Nat.le_refl _) _).trans (hB.mono (by simp)))
  clear hB
  go_wp2
  exact ⟨rfl,rfl,B3.out⟩
 by_cases h15:15 < s.size
 ·rw [numOf_none (by omega)]
  have b0:(((s.size:Nat):Int) == 0)=false:=by rw [beq_eq_false_iff_ne];omega
  have b1:decide ((15:Int) < ((s.size:Nat):Int))=true:=by simp;omega
  clear hsz h0
  go_enter Tryz.func140,Tryz.ntmps140
  go_wp2_with fail
  refine (throw_any _ _ _ _ 2 _).mono ?_
  rintro e w3 ⟨rfl,hB⟩
  have B3:=Lib.hid (((Below.refl w.heap.size w).alloc (Nat.le_refl _) _).trans (hB.mono (by simp)))
  clear hB
  go_wp2
  exact ⟨rfl,rfl,B3.out⟩
 have b0:(((s.size:Nat):Int) == 0)=false:=by rw [beq_eq_false_iff_ne];omega
 have b1:decide ((15:Int) < ((s.size:Nat):Int))=false:=by simp;omega
 have HL:1≤s.data.toList.length∧s.data.toList.length≤15:=by omega
 have HZ:=Lib.hid hsz
 have H0:=Lib.hid h0
 have H1:=Lib.hid HL
 have kc:=fun (w:World)=>Lib.run_convert_string_bytes (P:=Tryz.prog) w 9 92 5 s Tryz.underlying9 Tryz.underlying92 Tryz.underlying5
 clear hsz h0 HL
 go_enter Tryz.func140,Tryz.ntmps140
 go_wp2_with fail
 have HB0:=Lib.hid (((Below.refl w.heap.size w).alloc (Nat.le_refl _) (.cells #[.int .i64 tk,.int .i64 tp,.int .i64 ts,.string s] 81)).trans ((bytes_below (w.alloc (.cells #[.int .i64 tk,.int .i64 tp,.int .i64 ts,.string s] 81)) s).mono (by simp)))
 have HC:=Lib.hid (fun (j:Nat) (hj:j < s.size)=>Lib.bytesWorld_cell (w.alloc (.cells #[.int .i64 tk,.int .i64 tp,.int .i64 ts,.string s] 81)) 5 s j hj)
 have c0:∀ i,(Lib.bytesWorld (w.alloc (.cells #[.int .i64 tk,.int .i64 tp,.int .i64 ts,.string s] 81)) 5 s).cell? ⟨w.heap.size,i,none⟩=#[Value.int .i64 tk,.int .i64 tp,.int .i64 ts,.string s][i]?:=fun i=>by
  rw [Lib.bytesWorld_old _ _ _ _ (by simp)]
  exact (Blk.new w 81 _).cell i
 simp only [World.size_alloc] at HC
 generalize Lib.bytesWorld (w.alloc (.cells #[.int .i64 tk,.int .i64 tp,.int .i64 ts,.string s] 81)) 5 s=W at *
 generalize grownCap (w.alloc (.cells #[.int .i64 tk,.int .i64 tp,.int .i64 ts,.string s] 81)) s.size 0 5=cap at *
 clear kc b0 b1 hs
 go_loopw [3,22] (fun s3 s22 wr=>∃ (k:Nat),s3=.int .i64 (foldD (s.data.toList.take k))∧s22=.int .i64 (k:Nat)∧k≤s.size∧Hid ((s.data.toList.take k).all isD=true)∧wr=W) (fun _ s22 _=>s.size - (RowKit.intOf s22).toNat)
 case atStart=>exact ⟨0,rfl,rfl,Nat.zero_le _,by show _=true;simp,rfl⟩
 case round =>
  obtain ⟨k,rfl,rfl,hk,hd,rfl⟩:=hrel
  obtain ⟨n,hn,hn2⟩:=foldD_take k (by rw [HZ.out];exact hk) hd.out
  rw [hn]
  have HN:=Lib.hid hn
  clear hn
  have hn3:n < 10 ^ 15:=Nat.lt_of_lt_of_le hn2 (Nat.pow_le_pow_right (by decide) (by omega))
  have hn4:n < 1000000000000000:=by simpa using hn3
  clear hn2 hn3
  by_cases hlt:k < s.size
  ·have hc:=HC.out k hlt
   have hks:k < s.data.toList.length:=by rw [HZ.out];exact hlt
   have hgd:s.data.toList.getD k 0=s.data.toList[k]:=by simp [List.getD,List.getElem?_eq_getElem hks]
   rw [hgd] at hc
   have htk:s.data.toList.take (k + 1)=s.data.toList.take k++[s.data.toList[k]]:=List.take_succ_eq_append_getElem hks
   have HT:=Lib.hid htk
   have HG:Hid (s.data.toList[k]?=some s.data.toList[k]):=List.getElem?_eq_getElem hks
   clear hgd htk
   obtain ⟨x,hx⟩:∃ x,s.data.toList[k]=x:=⟨_,rfl⟩
   rw [hx] at hc HT HG
   clear hx hks
   have hk2:((k:Nat):Int) < (s.size:Nat):=by omega
   have hx2:x.toNat < 256:=x.toNat_lt
   cases hD:isD x
   ·have hr:numOf s.data.toList=none:=numOf_none fun h=>by
     have h1:=List.all_eq_true.1 h.2.2 x (List.mem_of_getElem? HG)
     rw [hD] at h1;cases h1
    have HR:=Lib.hid hr
    clear hr
    unfold isD at hD
    by_cases d1:x.toNat < 48
    ·have e1:decide (((x.toNat:Nat):Int) < 48)=true:=by simp;omega
     clear hD d1
     go_wp2_with fail
     refine (throw_any _ _ _ _ 2 _).mono ?_
     rintro e w3 ⟨rfl,hB⟩
     have B3:=Lib.hid (HB0.out.trans (hB.mono HB0.out.size))
     clear hB
     go_wp2
     exact ⟨rfl,by rw [HR.out];rfl,B3.out⟩
    ·have d2:57 < x.toNat:=by
      refine Classical.byContradiction fun hc=>?_
      rw [decide_eq_true (by omega:48≤x.toNat),decide_eq_true (by omega:x.toNat≤57)] at hD
      cases hD
     have e1:decide (((x.toNat:Nat):Int) < 48)=false:=by simp;omega
     have e2:decide ((57:Int) < ((x.toNat:Nat):Int))=true:=by simp;omega
     clear hD d1 d2
     go_wp2_with fail
     refine (throw_any _ _ _ _ 2 _).mono ?_
     rintro e w3 ⟨rfl,hB⟩
     have B3:=Lib.hid (HB0.out.trans (hB.mono HB0.out.size))
     clear hB
     go_wp2
     exact ⟨rfl,by rw [HR.out];rfl,B3.out⟩
   ·have HD:=Lib.hid hD
    unfold isD at hD
    simp only [Bool.and_eq_true,decide_eq_true_eq] at hD
    obtain ⟨d1,d2⟩:=hD
    have e1:decide (((x.toNat:Nat):Int) < 48)=false:=by simp;omega
    have e2:decide ((57:Int) < ((x.toNat:Nat):Int))=false:=by simp;omega
    go_wp2
    go_roundw
    case rel =>
     refine ⟨k + 1,?_,?_,hlt,?_,trivial⟩
     ·rw [HT.out,foldD_snoc,HN.out]
     ·go_num
     ·show _=true
      rw [HT.out,List.all_append,hd.out];simp [HD.out]
    case measure=>simp [RowKit.intOf];omega
  ·have hk0:¬ ((k:Nat):Int) < (s.size:Nat):=by omega
   have hkk:s.data.toList.take k=s.data.toList:=List.take_of_length_le (by rw [HZ.out];omega)
   have hr:numOf s.data.toList=some (n:Int):=by
    rw [numOf_some H1.out.1 H1.out.2 (by rw [← hkk];exact hd.out),← hkk,HN.out]
   have HR:=Lib.hid hr
   clear hkk hr
   go_wp2
   go_ret
   exact ⟨by rw [HR.out];rfl,HB0.out⟩
end Go.Proofs.YtfcgoainglpdlaaGreatDoor
