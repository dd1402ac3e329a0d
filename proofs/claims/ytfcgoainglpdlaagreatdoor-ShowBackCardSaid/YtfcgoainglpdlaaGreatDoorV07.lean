/- The walks of 'keywords' and 'Word': the map of the language's words. No condition beyond the text's size (at most 2^48 bytes). The walk of 'pieceAt'. Conditions: the place lies in the text; the text has at most 2^48 bytes; the map of the words lies in memory. -/
import Derived.Test.YtfcgoainglpdlaaGreatDoorV06
import Derived.Maps.OwnOps
import Derived.Maps.Views
import Derived.StringKeys
set_option maxRecDepth 100000
set_option maxHeartbeats 2000000
namespace Go.Proofs.YtfcgoainglpdlaaGreatDoor
open Go.RowKit
open Go.Lib hiding intOf
open Go.Maps (Keyed)
theorem wpList_insert_own {H:Type} {P:Program} (w:World) {ops:Array Oper} {rest:List Oper} {o:Oper} {a:Act} {Q:Exit→Act→World→Prop}
  (hg:o.guard=none) (m x v:Operand) (t:TypeId) (hop:o.op=Op.insert t m x v)
  (k e:TypeId) (K:Keyed P k) (ht:P.underlying t=some (.map k e)) (R:Value→Option (DataW H × List MemPlace)) (b n:Nat) (D:DataW H)
  (hm:a.eval m=.map (some b)) (hown:w.ownsMap P k R b n D) (hn:n < maxLen) (key val:Value) (kl:Lit) (hx:a.eval x=key) (hv:a.eval v=val) (hkey:keyOf P k key=some kl)
  (d:DataW H) (ps:List MemPlace) (hval:R val=some (d,ps))
  (hK:∀ w',w'.ownsMap P k R b (n + 1) (D.put kl d)→w.grownBy w' (some b)→wpList P ops Q rest (a.put o.dst undef) w') :
  wpList P ops Q (o::rest) a w:=by
 refine wpList_plain hg fun K' hK'=>?_
 obtain ⟨w',hrun,r1,r2⟩:=hown.update K ht hn hkey hval
 unfold Oper.wp
 simp [execOp,hop,hm,hx,hv,hrun,Result.andThen]
 exact hK' _ _ (hK w' r1 r2)
def wordsD (ks:List (List UInt8)):DataW Unit:=ks.foldl (fun D k=>D.put (.string k) (.lit (.int .i64 5))) (.map [])
theorem wordsD_isMap (ks:List (List UInt8)) (D:DataW Unit) (h:Maps.IsMap D):Maps.IsMap (ks.foldl (fun D k=>D.put (.string k) (.lit (.int .i64 5))) D):=by
 induction ks generalizing D with
 |nil=>exact h
 |cons k r ih=>exact ih _ (h.put _ _)
theorem wordsD_map (ks:List (List UInt8)):Maps.IsMap (wordsD ks):=wordsD_isMap ks _ Maps.isMap_empty
theorem wordsD_snoc (ks:List (List UInt8)) (k:List UInt8):wordsD (ks++[k])=(wordsD ks).put (.string k) (.lit (.int .i64 5)):=by
 unfold wordsD;rw [List.foldl_append];rfl
theorem wordsD_at (ks:List (List UInt8)) (l:List UInt8):(wordsD ks).atKey (.string l) (.lit (.int .i64 0))=.lit (.int .i64 (if l ∈ ks then 5 else 0)):=by
 suffices h:∀ r:List (List UInt8),(wordsD r.reverse).atKey (.string l) (.lit (.int .i64 0))=.lit (.int .i64 (if l ∈ r then 5 else 0)) by
  have:=h ks.reverse
  rw [List.reverse_reverse] at this
  rw [this];simp
 intro r
 induction r with
 |nil=>rfl
 |cons k r ih =>
  rw [List.reverse_cons,wordsD_snoc]
  by_cases h:l=k
  ·subst h
   rw [Maps.atKey_put_same (wordsD_map _) (by trivial)]
   simp
  ·rw [Maps.atKey_put_other (by intro e;injection e with e;exact h e),ih]
   simp [h]
def WordsAt (w:World) (b:Nat):Prop:=w.ownsMap Tryz.prog 9 (plainElem (H:=Unit) Tryz.prog 3) b 17 (wordsD kws)
def KS (w0 w:World) (n:Nat) (D:DataW Unit):Prop:=w.ownsMap Tryz.prog 9 (plainElem (H:=Unit) Tryz.prog 3) w0.heap.size n D∧Below w0.heap.size w0 w
theorem KS.next {w0 w w1:World} {n n':Nat} {D D':DataW Unit} (h:KS w0 w n D) (ho:w1.ownsMap Tryz.prog 9 (plainElem (H:=Unit) Tryz.prog 3) w0.heap.size n' D') (hg:w.grownBy w1 (some w0.heap.size)):KS w0 w1 n' D' :=
 ⟨ho,h.2.grown hg h.2.size (fun k e=>by cases e;exact Nat.le_refl _)⟩
theorem KS.start (w:World):KS w (w.alloc (.map #[] 0)) 0 (.map []):=⟨World.ownsMap_made w _ _ _,(Below.refl _ w).alloc (Nat.le_refl _) _⟩
theorem five:plainElem (H:=Unit) Tryz.prog 3 (.int .i64 5)=some (.lit (.int .i64 5),[]):=plainElem_int Tryz.underlying3 (by decide)
theorem keywords_any (w:World):Calls Tryz.prog 61 #[] w fun e w'=>e=.returned (.map (some w.heap.size))∧WordsAt w' w.heap.size∧Below w.heap.size w w':=by
 have hmm:=@run_makeMap Tryz.prog
 have S:=KS.start w
 go_enter Tryz.func61,Tryz.ntmps61
 go_wp2_with (refine wpList_insert_own _ rfl _ _ _ 86 rfl 9 3 (Maps.string_keyed Tryz.underlying9) Tryz.underlying86 _ _ _ _ rfl S.1 (by decide) _ _ _ rfl rfl (WideMaps.keyOf_string_mk Tryz.underlying9 (by decide)) _ [] five ?_;intro w1 ho hg;replace S:=S.next ho hg;clear ho hg)
 go_ret
 exact ⟨rfl,S.1,S.2⟩
theorem lookup_word {w:World} {b:Nat} (h:WordsAt w b) (t:ByteArray) (ht:t.size≤9223372036854775807) :
  (Instr.lookup 86 (.map (some b)) (.string t) false).run Tryz.prog w=.ok (.int .i64 (if kw t.data.toList then 5 else 0)) w:=by
 obtain ⟨c,hrun,hat,_⟩:=World.ownsMap.lookup_int h (Maps.string_keyed Tryz.underlying9) Tryz.underlying86 Tryz.underlying3 (Tryz.zeroValue3 _) (WideMaps.keyOf_string_mk Tryz.underlying9 (s:=t) (by unfold maxLen;omega))
 rw [wordsD_at] at hat
 injection hat with hat
 injection hat with _ hat
 rw [hrun,← hat]
 unfold kw
 by_cases hm:t.data.toList ∈ kws <;> simp [hm]
end Go.Proofs.YtfcgoainglpdlaaGreatDoor
namespace Go.Proofs.YtfcgoainglpdlaaGreatDoor
open Go.RowKit
open Go.Lib hiding intOf
theorem wpList_lookup_run {P:Program} (w:World) {ops:Array Oper} {rest:List Oper} {o:Oper} {a:Act} {Q:Exit→Act→World→Prop}
  (hg:o.guard=none) (m x:Operand) (t:TypeId) (hop:o.op=Op.lookup t m x false) (M key v:Value) (hm:a.eval m=M) (hx:a.eval x=key)
  (hrun:(Instr.lookup t M key false).run P w=.ok v w) (hK:wpList P ops Q rest (a.put o.dst v) w):wpList P ops Q (o::rest) a w:=by
 refine wpList_plain hg fun K' hK'=>?_
 unfold Oper.wp
 simp [execOp,hop,hm,hx,hrun,Result.andThen]
 exact hK' _ _ hK
theorem WordsAt.alloc {w:World} {b:Nat} (h:WordsAt w b) (o:Obj):WordsAt (w.alloc o) b:=World.ownsMap.alloc h o
theorem lookup_yes {w:World} {b:Nat} (h:WordsAt w b) (t:ByteArray) (ht:t.size≤9223372036854775807) (hk:kw t.data.toList=true) :
  (Instr.lookup 86 (.map (some b)) (.string t) false).run Tryz.prog w=.ok (.int .i64 5) w:=by
 rw [lookup_word h t ht,hk];rfl
theorem lookup_no {w:World} {b:Nat} (h:WordsAt w b) (t:ByteArray) (ht:t.size≤9223372036854775807) (hk:kw t.data.toList=false) :
  (Instr.lookup 86 (.map (some b)) (.string t) false).run Tryz.prog w=.ok (.int .i64 0) w:=by
 rw [lookup_word h t ht,hk];rfl
theorem index_mem (l:List UInt8) (c:UInt8):decide ((0:Int)≤Lib.indexByte l c)=decide (c ∈ l):=by
 induction l with
 |nil=>rfl
 |cons b r ih =>
  unfold Lib.indexByte
  by_cases h:b=c
  ·subst h;simp
  ·have hb:(b == c)=false:=by simpa using h
   rw [hb]
   simp only [Bool.false_eq_true,if_false,List.mem_cons]
   by_cases h2:(0:Int)≤Lib.indexByte r c
   ·have h3:c ∈ r:=by have:=ih.symm.trans (decide_eq_true h2);simpa using this
    have h4:(Lib.indexByte r c == -1)=false:=by rw [beq_eq_false_iff_ne];omega
    rw [h4]
    simp only [Bool.false_eq_true,if_false]
    rw [decide_eq_true (by omega),decide_eq_true (.inr h3)]
   ·have h3:¬ c ∈ r:=by have:=ih.symm.trans (decide_eq_false h2);simpa using this
    have h5:¬ (c=b∨c ∈ r):=by rintro (e | e);exact h e.symm;exact h3 e
    rw [decide_eq_false h5]
    split
    ·rfl
    ·rename_i h6
     have h7:Lib.indexByte r c≠-1:=by simpa using h6
     rw [decide_eq_false (by omega)]
theorem symbols_any (c:UInt8) (w:World):∃ i:Int,decide ((0:Int)≤i)=decide (c ∈ syms) ∧
  Calls Tryz.prog 98 #[.string ⟨#[40,41,123,125,91,93,44,59,46,61,60,43,45,42,33]⟩,.int .u8 (c.toNat:Nat)] w fun e w'=>e=.returned (.int .i64 i)∧w=w':=by
 refine ⟨_,index_mem syms c,(Tryz.strings_IndexByte _ _ w).mono fun e w' ⟨he,hw⟩=>⟨?_,hw.symm⟩⟩
 rw [he]
 have e:((c.toNat:Nat):Int).toNat.toUInt8=c:=by simp
 rw [e];rfl
theorem ext_take (s:ByteArray) (k m:Nat):(s.extract k (k + m)).data.toList=(s.data.toList.drop k).take m:=by rw [Lib.extract_data];congr 1;omega
def pieceV (s:ByteArray) (k:Nat) (r:Int × Nat):Value:=.agg #[.int .i64 r.1,.int .i64 (k:Nat),.int .i64 ((k + r.2:Nat):Int),.string (s.extract k (k + r.2))]
theorem pieceAt_name (s:ByteArray) (k b m:Nat) (w:World) (hs:s.size≤9223372036854775807) (hk:k < s.size) (hW:WordsAt w b) (hl:ltr s[k]=true) (hm:run nam (s.data.toList.drop k)=m) (hm2:k + m≤s.size) (x:Bool) (hx:kw (s.extract k (k + m)).data.toList=x) :
  Calls Tryz.prog 63 #[.string s,.int .i64 (k:Nat),.map (some b)] w fun e w'=>e=.returned (pieceV s k (if x then 5 else 1,m))∧Below w.heap.size w w':=by
 have HL:=Lib.hid (fun w=>isLetter_any s[k] w)
 have HR:=Lib.hid (fun w=>runEnd40_any s k w hs (Nat.le_of_lt hk))
 have HW:=Lib.hid hW
 have HX:=Lib.hid hx
 rw [hl] at HL
 rw [hm] at HR
 clear hl hm hW hx
 cases x
 ·go_enter Tryz.func63,Tryz.ntmps63
  go_wp2_with (first | (go_at_call 94;refine (HL.out _).mono ?_;rintro e w1 ⟨rfl,rfl⟩) | (go_at_call 92;refine (HR.out _).mono ?_;rintro e w1 ⟨rfl,rfl⟩) | (at_lookup;refine wpList_lookup_run _ rfl _ _ _ rfl _ _ _ rfl rfl (lookup_no (HW.out.alloc _) (s.extract k (k + m)) (by rw [ByteArray.size_extract];omega) HX.out) ?_))
  refine bodyPost_ret (v:=.agg #[.int .i64 1,.int .i64 (k:Nat),.int .i64 ((k:Int) + m),.string (s.extract k (k + m))]) (by simp [results,Tryz.results63,go_sem]) rfl ⟨by simp [pieceV],(Below.refl _ _).alloc (Nat.le_refl _) _⟩
 ·go_enter Tryz.func63,Tryz.ntmps63
  go_wp2_with (first | (go_at_call 94;refine (HL.out _).mono ?_;rintro e w1 ⟨rfl,rfl⟩) | (go_at_call 92;refine (HR.out _).mono ?_;rintro e w1 ⟨rfl,rfl⟩) | (at_lookup;refine wpList_lookup_run _ rfl _ _ _ rfl _ _ _ rfl rfl (lookup_yes (HW.out.alloc _) (s.extract k (k + m)) (by rw [ByteArray.size_extract];omega) HX.out) ?_))
  refine bodyPost_ret (v:=.agg #[.int .i64 5,.int .i64 (k:Nat),.int .i64 ((k:Int) + m),.string (s.extract k (k + m))]) (by simp [results,Tryz.results63,go_sem]) rfl ⟨by simp [pieceV],(Below.refl _ _).alloc (Nat.le_refl _) _⟩
theorem pieceAt_number (s:ByteArray) (k b m:Nat) (w:World) (hs:s.size≤9223372036854775807) (hk:k < s.size) (hl:ltr s[k]=false) (hd:dgt s[k]=true) (hm:run dgt (s.data.toList.drop k)=m) (hm2:k + m≤s.size) :
  Calls Tryz.prog 63 #[.string s,.int .i64 (k:Nat),.map (some b)] w fun e w'=>e=.returned (pieceV s k (2,m))∧Below w.heap.size w w':=by
 have HL:=Lib.hid (fun w=>isLetter_any s[k] w)
 have HD:=Lib.hid (fun w=>isDigit_any s[k] w)
 have HR:=Lib.hid (fun w=>runEnd41_any s k w hs (Nat.le_of_lt hk))
 rw [hl] at HL
 rw [hd] at HD
 rw [hm] at HR
 clear hl hd hm
 go_enter Tryz.func63,Tryz.ntmps63
 go_wp2_with (first | (go_at_call 94;refine (HL.out _).mono ?_;rintro e w1 ⟨rfl,rfl⟩) | (go_at_call 96;refine (HD.out _).mono ?_;rintro e w1 ⟨rfl,rfl⟩) | (go_at_call 92;refine (HR.out _).mono ?_;rintro e w1 ⟨rfl,rfl⟩))
 refine bodyPost_ret (v:=.agg #[.int .i64 2,.int .i64 (k:Nat),.int .i64 ((k:Int) + m),.string (s.extract k (k + m))]) (by simp [results,Tryz.results63,go_sem]) rfl ⟨by simp [pieceV],(Below.refl _ _).alloc (Nat.le_refl _) _⟩
theorem pieceAt_text (s:ByteArray) (k b m:Nat) (w:World) (hs:s.size≤9223372036854775807) (hk:k < s.size) (hl:ltr s[k]=false) (hd:dgt s[k]=false) (hq:s[k]=34)
  (hm:(if run ne34 (s.data.toList.drop (k + 1)) < (s.data.toList.drop (k + 1)).length then run ne34 (s.data.toList.drop (k + 1)) + 2 else (s.data.toList.drop (k + 1)).length + 1)=m) (hm2:k + m≤s.size) :
  Calls Tryz.prog 63 #[.string s,.int .i64 (k:Nat),.map (some b)] w fun e w'=>e=.returned (pieceV s k (3,m))∧Below w.heap.size w w':=by
 have HL:=Lib.hid (fun w=>isLetter_any s[k] w)
 have HD:=Lib.hid (fun w=>isDigit_any s[k] w)
 have HQ:=Lib.hid (fun w=>quoteEnd_any s k w hs hk)
 have b1:(((s[k].toNat:Nat):Int) == 34)=true:=by rw [hq];rfl
 rw [hl] at HL
 rw [hd] at HD
 rw [hm] at HQ
 clear hl hd hm hq
 go_enter Tryz.func63,Tryz.ntmps63
 go_wp2_with (first | (go_at_call 94;refine (HL.out _).mono ?_;rintro e w1 ⟨rfl,rfl⟩) | (go_at_call 96;refine (HD.out _).mono ?_;rintro e w1 ⟨rfl,rfl⟩) | (go_at_call 97;refine (HQ.out _).mono ?_;rintro e w1 ⟨rfl,rfl⟩))
 refine bodyPost_ret (v:=.agg #[.int .i64 3,.int .i64 (k:Nat),.int .i64 ((k:Int) + m),.string (s.extract k (k + m))]) (by simp [results,Tryz.results63,go_sem]) rfl ⟨by simp [pieceV],(Below.refl _ _).alloc (Nat.le_refl _) _⟩
theorem not_quote {c:UInt8} (h:c≠34):(((c.toNat:Nat):Int) == 34)=false:=beq_eq_false_iff_ne.2 fun e=>u8_ne h (by show c.toNat=34;omega)
theorem pieceAt_two (s:ByteArray) (k b:Nat) (w:World) (hs:s.size≤9223372036854775807) (hk:k < s.size) (hl:ltr s[k]=false) (hd:dgt s[k]=false) (hq:s[k]≠34) (x y:Bool)
  (hx:decide ((s.data.toList.drop k).take 2=[61,61])=x) (hy:decide ((s.data.toList.drop k).take 2=[38,38])=y) (hxy:x=true∨y=true) (hm2:k + 2≤s.size) :
  Calls Tryz.prog 63 #[.string s,.int .i64 (k:Nat),.map (some b)] w fun e w'=>e=.returned (pieceV s k (4,2))∧Below w.heap.size w w':=by
 have HL:=Lib.hid (fun w=>isLetter_any s[k] w)
 have HD:=Lib.hid (fun w=>isDigit_any s[k] w)
 have HP:=Lib.hid (fun w=>hasPrefix2 s k 61 61 w (Nat.le_of_lt hk))
 have HA:=Lib.hid (fun w=>hasPrefix2 s k 38 38 w (Nat.le_of_lt hk))
 have b1:=not_quote hq
 rw [hl] at HL
 rw [hd] at HD
 rw [hx] at HP
 rw [hy] at HA
 clear hl hd hq hx hy
 cases x
 ·have hxy:y=true:=by simpa using hxy
  rw [hxy] at HA
  clear hxy
  go_enter Tryz.func63,Tryz.ntmps63
  go_wp2_with (first | (go_at_call 94;refine (HL.out _).mono ?_;rintro e w1 ⟨rfl,rfl⟩) | (go_at_call 96;refine (HD.out _).mono ?_;rintro e w1 ⟨rfl,rfl⟩))
  refine (HP.out _).mono ?_
  rintro e w1 ⟨rfl,rfl⟩
  go_wp2_with fail
  refine (HA.out _).mono ?_
  rintro e w1 ⟨rfl,rfl⟩
  go_wp2
  refine bodyPost_ret (v:=.agg #[.int .i64 4,.int .i64 (k:Nat),.int .i64 ((k:Int) + 2),.string (s.extract k (k + 2))]) (by simp [results,Tryz.results63,go_sem]) rfl ⟨by simp [pieceV],(Below.refl _ _).alloc (Nat.le_refl _) _⟩
 ·clear hxy
  go_enter Tryz.func63,Tryz.ntmps63
  go_wp2_with (first | (go_at_call 94;refine (HL.out _).mono ?_;rintro e w1 ⟨rfl,rfl⟩) | (go_at_call 96;refine (HD.out _).mono ?_;rintro e w1 ⟨rfl,rfl⟩))
  refine (HP.out _).mono ?_
  rintro e w1 ⟨rfl,rfl⟩
  go_wp2
  refine bodyPost_ret (v:=.agg #[.int .i64 4,.int .i64 (k:Nat),.int .i64 ((k:Int) + 2),.string (s.extract k (k + 2))]) (by simp [results,Tryz.results63,go_sem]) rfl ⟨by simp [pieceV],(Below.refl _ _).alloc (Nat.le_refl _) _⟩
theorem pieceAt_one (s:ByteArray) (k b:Nat) (w:World) (hs:s.size≤9223372036854775807) (hk:k < s.size) (hl:ltr s[k]=false) (hd:dgt s[k]=false) (hq:s[k]≠34)
  (hx:decide ((s.data.toList.drop k).take 2=[61,61])=false) (hy:decide ((s.data.toList.drop k).take 2=[38,38])=false) (z:Bool) (hz:decide (s[k] ∈ syms)=z) :
  Calls Tryz.prog 63 #[.string s,.int .i64 (k:Nat),.map (some b)] w fun e w'=>e=.returned (pieceV s k (if z then 4 else -1,1))∧Below w.heap.size w w':=by
 have HL:=Lib.hid (fun w=>isLetter_any s[k] w)
 have HD:=Lib.hid (fun w=>isDigit_any s[k] w)
 have HP:=Lib.hid (fun w=>hasPrefix2 s k 61 61 w (Nat.le_of_lt hk))
 have HA:=Lib.hid (fun w=>hasPrefix2 s k 38 38 w (Nat.le_of_lt hk))
 have hi:=fun w=>symbols_any s[k] w
 have b1:=not_quote hq
 rw [hl] at HL
 rw [hd] at HD
 rw [hx] at HP
 rw [hy] at HA
 rw [hz] at hi
 have HI:=Lib.hid hi
 clear hl hd hq hx hy hz hi
 cases z
 ·go_enter Tryz.func63,Tryz.ntmps63
  go_wp2_with (first | (go_at_call 94;refine (HL.out _).mono ?_;rintro e w1 ⟨rfl,rfl⟩) | (go_at_call 96;refine (HD.out _).mono ?_;rintro e w1 ⟨rfl,rfl⟩))
  refine (HP.out _).mono ?_
  rintro e w1 ⟨rfl,rfl⟩
  go_wp2_with fail
  refine (HA.out _).mono ?_
  rintro e w1 ⟨rfl,rfl⟩
  go_wp2_with fail
  obtain ⟨i,hi1,hi2⟩:=HI.out (w.alloc (.cells #[.int .i64 0,.int .i64 0,.int .i64 0,.string ⟨#[]⟩] 81))
  have HJ:=Lib.hid hi2
  clear hi2
  refine HJ.out.mono ?_
  rintro e w1 ⟨rfl,rfl⟩
  go_wp2
  refine bodyPost_ret (v:=.agg #[.int .i64 (-1),.int .i64 (k:Nat),.int .i64 ((k:Int) + 1),.string (s.extract k (k + 1))]) (by simp [results,Tryz.results63,go_sem]) rfl ⟨by simp [pieceV],(Below.refl _ _).alloc (Nat.le_refl _) _⟩
 ·go_enter Tryz.func63,Tryz.ntmps63
  go_wp2_with (first | (go_at_call 94;refine (HL.out _).mono ?_;rintro e w1 ⟨rfl,rfl⟩) | (go_at_call 96;refine (HD.out _).mono ?_;rintro e w1 ⟨rfl,rfl⟩))
  refine (HP.out _).mono ?_
  rintro e w1 ⟨rfl,rfl⟩
  go_wp2_with fail
  refine (HA.out _).mono ?_
  rintro e w1 ⟨rfl,rfl⟩
  go_wp2_with fail
  obtain ⟨i,hi1,hi2⟩:=HI.out (w.alloc (.cells #[.int .i64 0,.int .i64 0,.int .i64 0,.string ⟨#[]⟩] 81))
  have HJ:=Lib.hid hi2
  clear hi2
  refine HJ.out.mono ?_
  rintro e w1 ⟨rfl,rfl⟩
  go_wp2
  refine bodyPost_ret (v:=.agg #[.int .i64 4,.int .i64 (k:Nat),.int .i64 ((k:Int) + 1),.string (s.extract k (k + 1))]) (by simp [results,Tryz.results63,go_sem]) rfl ⟨by simp [pieceV],(Below.refl _ _).alloc (Nat.le_refl _) _⟩
theorem pieceAt_any (s:ByteArray) (k b:Nat) (w:World) (hs:s.size≤9223372036854775807) (hk:k < s.size) (hW:WordsAt w b) :
  Calls Tryz.prog 63 #[.string s,.int .i64 (k:Nat),.map (some b)] w fun e w'=>e=.returned (pieceV s k (kln (s.data.toList.drop k)))∧Below w.heap.size w w':=by
 have hp:=kln_pos s[k] (s.data.toList.drop (k + 1))
 rw [← drop_cons s k hk,List.length_drop,size_toList] at hp
 have hd:=drop_cons s k hk
 have hkl:=kln_cons s[k] (s.data.toList.drop (k + 1))
 rw [← drop_cons s k hk] at hkl
 by_cases h1:ltr s[k]=true
 ·rw [if_pos h1] at hkl
  rw [hkl] at hp ⊢
  have h:=pieceAt_name s k b _ w hs hk hW h1 rfl (by simp only at hp;omega) _ rfl
  rwa [ext_take] at h
 ·have h1':ltr s[k]=false:=by simpa using h1
  rw [if_neg h1] at hkl
  by_cases h2:dgt s[k]=true
  ·rw [if_pos h2] at hkl
   rw [hkl] at hp ⊢
   exact pieceAt_number s k b _ w hs hk h1' h2 rfl (by simp only at hp;omega)
  ·have h2':dgt s[k]=false:=by simpa using h2
   rw [if_neg h2] at hkl
   by_cases h3:s[k]=34
   ·rw [if_pos h3] at hkl
    rw [hkl] at hp ⊢
    exact pieceAt_text s k b _ w hs hk h1' h2' h3 rfl (by simp only at hp;omega)
   ·rw [if_neg h3] at hkl
    by_cases h4:(s[k]=61∧(s.data.toList.drop (k + 1)).head?=some 61)∨(s[k]=38∧(s.data.toList.drop (k + 1)).head?=some 38)
    ·rw [if_pos h4] at hkl
     rw [hkl] at hp ⊢
     refine pieceAt_two s k b w hs hk h1' h2' h3 _ _ rfl rfl ?_ (by simp only at hp;omega)
     rcases h4 with h4 | h4
     ·left;rw [hd];exact decide_eq_true ((take2_iff _ _ _ _).2 h4)
     ·right;rw [hd];exact decide_eq_true ((take2_iff _ _ _ _).2 h4)
    ·rw [if_neg h4] at hkl
     have h:=pieceAt_one s k b w hs hk h1' h2' h3 (by rw [hd];exact decide_eq_false fun h=>h4 (.inl ((take2_iff _ _ _ _).1 h))) (by rw [hd];exact decide_eq_false fun h=>h4 (.inr ((take2_iff _ _ _ _).1 h))) _ rfl
     rw [hkl]
     by_cases h5:s[k] ∈ syms
     ·rw [if_pos h5];rw [decide_eq_true h5] at h;exact h
     ·rw [if_neg h5];rw [decide_eq_false h5] at h;exact h
end Go.Proofs.YtfcgoainglpdlaaGreatDoor
