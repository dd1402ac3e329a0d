/- The walks of the small tests of bytes, and of 'runEnd' at each of the tests that it is handed. Condition: the text has at most 2^48 bytes. The walks of 'skip' and 'quoteEnd'. Condition: the text has at most 2^48 bytes. The walks of 'isNumber', 'isQuoted' and 'fault'. Conditions: the piece has a byte at least, where it is not the end; at most 2^48 bytes. -/
import Derived.Test.YtfcgoainglpdlaaGreatDoorV04
import Derived.Test.YtfcgoainglpdlaaGreatDoorV05
import Derived.Test.YtfcgoainglpdlaaGreatDoorRows
import Derived.WalkKit
import Derived.WalkSpells
import Derived.WalkLawsBesides
import Derived.Lib.OthersKept
import Derived.Lib.Hide
set_option maxHeartbeats 1000000
namespace Go.Proofs.YtfcgoainglpdlaaGreatDoor
open Go.RowKit
open Go.Lib hiding intOf
theorem size_toList (s:ByteArray):s.data.toList.length=s.size:=by simp
theorem drop_cons (s:ByteArray) (k:Nat) (h:k < s.size):s.data.toList.drop k=s[k]::s.data.toList.drop (k + 1):=by
 rw [List.drop_eq_getElem_cons (by simpa using h)];rfl
theorem drop_nil (s:ByteArray) (k:Nat) (h:s.size≤k):s.data.toList.drop k=[]:=by
 rw [List.drop_eq_nil_iff];simpa using h
theorem u8_ne {c d:UInt8} (h:c≠d):c.toNat≠d.toNat:=fun e=>h (UInt8.toNat_inj.1 e)
theorem isLayout_any (c:UInt8) (w:World):Calls Tryz.prog 90 #[.int .u8 (c.toNat:Nat)] w fun e w'=>e=.returned (.bool (lay c))∧w=w':=by
 by_cases h1:c=9
 ·subst h1
  go_enter Tryz.func90,Tryz.ntmps90
  go_wp2
  go_ret
  exact ⟨rfl,rfl⟩
 by_cases h2:c=10
 ·subst h2
  go_enter Tryz.func90,Tryz.ntmps90
  go_wp2
  go_ret
  exact ⟨rfl,rfl⟩
 by_cases h3:c=13
 ·subst h3
  go_enter Tryz.func90,Tryz.ntmps90
  go_wp2
  go_ret
  exact ⟨rfl,rfl⟩
 by_cases h4:c=32
 ·subst h4
  go_enter Tryz.func90,Tryz.ntmps90
  go_wp2
  go_ret
  exact ⟨rfl,rfl⟩
 have e1:=u8_ne h1
 have e2:=u8_ne h2
 have e3:=u8_ne h3
 have e4:=u8_ne h4
 have hl:lay c=false:=by simp [lay,h1,h2,h3,h4]
 rw [hl]
 have b1:(((c.toNat:Nat):Int) == 9)=false:=beq_eq_false_iff_ne.2 fun e=>e1 (by show c.toNat=9;omega)
 have b2:(((c.toNat:Nat):Int) == 10)=false:=beq_eq_false_iff_ne.2 fun e=>e2 (by show c.toNat=10;omega)
 have b3:(((c.toNat:Nat):Int) == 13)=false:=beq_eq_false_iff_ne.2 fun e=>e3 (by show c.toNat=13;omega)
 have b4:(((c.toNat:Nat):Int) == 32)=false:=beq_eq_false_iff_ne.2 fun e=>e4 (by show c.toNat=32;omega)
 clear h1 h2 h3 h4 e1 e2 e3 e4 hl
 go_enter Tryz.func90,Tryz.ntmps90
 go_wp2
 go_ret
 exact ⟨rfl,rfl⟩
theorem isLetter_any (c:UInt8) (w:World):Calls Tryz.prog 94 #[.int .u8 (c.toNat:Nat)] w fun e w'=>e=.returned (.bool (ltr c))∧w=w':=by
 by_cases h95:c=95
 ·subst h95
  go_enter Tryz.func94,Tryz.ntmps94
  go_wp2
  go_ret
  exact ⟨rfl,rfl⟩
 have e95:=u8_ne h95
 have b95:(((c.toNat:Nat):Int) == 95)=false:=beq_eq_false_iff_ne.2 fun e=>e95 (by show c.toNat=95;omega)
 have hl:ltr c=((decide (65≤c.toNat) && decide (c.toNat≤90)) || (decide (97≤c.toNat) && decide (c.toNat≤122))):=by simp [ltr,h95]
 rw [hl]
 clear hl h95 e95
 generalize c.toNat=n at *
 have hcase:n < 65∨(65≤n∧n≤90)∨(91≤n∧n < 97)∨(97≤n∧n≤122)∨122 < n:=by omega
 rcases hcase with h | ⟨h,h'⟩ | ⟨h,h'⟩ | ⟨h,h'⟩ | h
 ·rw [show (decide (65≤n) && decide (n≤90) || decide (97≤n) && decide (n≤122))=false by simp;try omega]
  have d1:decide ((65:Int)≤n)=false:=by simp;omega
  have d2:decide ((n:Int)≤90)=true:=by simp;omega
  have d3:decide ((97:Int)≤n)=false:=by simp;omega
  have d4:decide ((n:Int)≤122)=true:=by simp;omega
  go_enter Tryz.func94,Tryz.ntmps94
  go_wp2
  go_ret
  exact ⟨rfl,rfl⟩
 ·rw [show (decide (65≤n) && decide (n≤90) || decide (97≤n) && decide (n≤122))=true by simp;try omega]
  have d1:decide ((65:Int)≤n)=true:=by simp;omega
  have d2:decide ((n:Int)≤90)=true:=by simp;omega
  have d3:decide ((97:Int)≤n)=false:=by simp;omega
  have d4:decide ((n:Int)≤122)=true:=by simp;omega
  go_enter Tryz.func94,Tryz.ntmps94
  go_wp2
  go_ret
  exact ⟨rfl,rfl⟩
 ·rw [show (decide (65≤n) && decide (n≤90) || decide (97≤n) && decide (n≤122))=false by simp;try omega]
  have d1:decide ((65:Int)≤n)=true:=by simp;omega
  have d2:decide ((n:Int)≤90)=false:=by simp;omega
  have d3:decide ((97:Int)≤n)=false:=by simp;omega
  have d4:decide ((n:Int)≤122)=true:=by simp;omega
  go_enter Tryz.func94,Tryz.ntmps94
  go_wp2
  go_ret
  exact ⟨rfl,rfl⟩
 ·rw [show (decide (65≤n) && decide (n≤90) || decide (97≤n) && decide (n≤122))=true by simp;try omega]
  have d1:decide ((65:Int)≤n)=true:=by simp;omega
  have d2:decide ((n:Int)≤90)=false:=by simp;omega
  have d3:decide ((97:Int)≤n)=true:=by simp;omega
  have d4:decide ((n:Int)≤122)=true:=by simp;omega
  go_enter Tryz.func94,Tryz.ntmps94
  go_wp2
  go_ret
  exact ⟨rfl,rfl⟩
 ·rw [show (decide (65≤n) && decide (n≤90) || decide (97≤n) && decide (n≤122))=false by simp;try omega]
  have d1:decide ((65:Int)≤n)=true:=by simp;omega
  have d2:decide ((n:Int)≤90)=false:=by simp;omega
  have d3:decide ((97:Int)≤n)=true:=by simp;omega
  have d4:decide ((n:Int)≤122)=false:=by simp;omega
  go_enter Tryz.func94,Tryz.ntmps94
  go_wp2
  go_ret
  exact ⟨rfl,rfl⟩
theorem isDigit_any (c:UInt8) (w:World):Calls Tryz.prog 96 #[.int .u8 (c.toNat:Nat)] w fun e w'=>e=.returned (.bool (dgt c))∧w=w':=by
 unfold dgt
 generalize c.toNat=n at *
 have hcase:n < 48∨(48≤n∧n≤57)∨57 < n:=by omega
 rcases hcase with h | ⟨h,h'⟩ | h
 ·rw [show (decide (48≤n) && decide (n≤57))=false by simp;try omega]
  have d1:decide ((48:Int)≤n)=false:=by simp;omega
  have d2:decide ((n:Int)≤57)=true:=by simp;omega
  go_enter Tryz.func96,Tryz.ntmps96
  go_wp2
  go_ret
  exact ⟨rfl,rfl⟩
 ·rw [show (decide (48≤n) && decide (n≤57))=true by simp;try omega]
  have d1:decide ((48:Int)≤n)=true:=by simp;omega
  have d2:decide ((n:Int)≤57)=true:=by simp;omega
  go_enter Tryz.func96,Tryz.ntmps96
  go_wp2
  go_ret
  exact ⟨rfl,rfl⟩
 ·rw [show (decide (48≤n) && decide (n≤57))=false by simp;try omega]
  have d1:decide ((48:Int)≤n)=true:=by simp;omega
  have d2:decide ((n:Int)≤57)=false:=by simp;omega
  go_enter Tryz.func96,Tryz.ntmps96
  go_wp2
  go_ret
  exact ⟨rfl,rfl⟩
theorem isPlain_any (c:UInt8) (w:World):Calls Tryz.prog 100 #[.int .u8 (c.toNat:Nat)] w fun e w'=>e=.returned (.bool (pla c))∧w=w':=by
 unfold pla
 generalize c.toNat=n at *
 have hcase:n < 32∨(32≤n∧n≤126)∨126 < n:=by omega
 rcases hcase with h | ⟨h,h'⟩ | h
 ·rw [show (decide (32≤n) && decide (n≤126))=false by simp;try omega]
  have d1:decide ((32:Int)≤n)=false:=by simp;omega
  have d2:decide ((n:Int)≤126)=true:=by simp;omega
  go_enter Tryz.func100,Tryz.ntmps100
  go_wp2
  go_ret
  exact ⟨rfl,rfl⟩
 ·rw [show (decide (32≤n) && decide (n≤126))=true by simp;try omega]
  have d1:decide ((32:Int)≤n)=true:=by simp;omega
  have d2:decide ((n:Int)≤126)=true:=by simp;omega
  go_enter Tryz.func100,Tryz.ntmps100
  go_wp2
  go_ret
  exact ⟨rfl,rfl⟩
 ·rw [show (decide (32≤n) && decide (n≤126))=false by simp;try omega]
  have d1:decide ((32:Int)≤n)=true:=by simp;omega
  have d2:decide ((n:Int)≤126)=false:=by simp;omega
  go_enter Tryz.func100,Tryz.ntmps100
  go_wp2
  go_ret
  exact ⟨rfl,rfl⟩
theorem skip1_any (c:UInt8) (w:World):Calls Tryz.prog 93 #[.int .u8 (c.toNat:Nat)] w fun e w'=>e=.returned (.bool (ne10 c))∧w=w':=by
 by_cases h1:c=10
 ·subst h1
  go_enter Tryz.func93,Tryz.ntmps93
  go_wp2
  go_ret
  exact ⟨rfl,rfl⟩
 ·rw [show ne10 c=true by simpa [ne10] using h1]
  have e1:=u8_ne h1
  have b1:(((c.toNat:Nat):Int) == 10)=false:=beq_eq_false_iff_ne.2 fun e=>e1 (by show c.toNat=10;omega)
  have b2:(((c.toNat:Nat):Int) != 10)=true:=by rw [bne,b1];rfl
  clear h1 e1
  go_enter Tryz.func93,Tryz.ntmps93
  go_wp2
  go_ret
  exact ⟨rfl,rfl⟩
theorem pieceAt1_any (c:UInt8) (w:World):Calls Tryz.prog 95 #[.int .u8 (c.toNat:Nat)] w fun e w'=>e=.returned (.bool (nam c))∧w=w':=by
 have H1:=Lib.hid (isLetter_any c w)
 have H2:=Lib.hid (isDigit_any c w)
 unfold nam
 generalize ltr c=x at *
 generalize dgt c=y at *
 cases x
 ·rw [Bool.false_or]
  go_enter Tryz.func95,Tryz.ntmps95
  go_wp2_with (first | (go_at_call 94;refine H1.out.mono ?_;rintro e w1 ⟨rfl,rfl⟩) | (go_at_call 96;refine H2.out.mono ?_;rintro e w1 ⟨rfl,rfl⟩))
  go_ret
  exact ⟨rfl,rfl⟩
 ·rw [Bool.true_or]
  go_enter Tryz.func95,Tryz.ntmps95
  go_wp2_with (first | (go_at_call 94;refine H1.out.mono ?_;rintro e w1 ⟨rfl,rfl⟩) | (go_at_call 96;refine H2.out.mono ?_;rintro e w1 ⟨rfl,rfl⟩))
  go_ret
  exact ⟨rfl,rfl⟩
theorem runEnd38_any (s:ByteArray) (k:Nat) (w:World) (hs:s.size≤9223372036854775807) (hk:k≤s.size) :
  Calls Tryz.prog 92 #[.string s,.int .i64 (k:Nat),.func (.func 93) #[] #[]] w fun e w'=>e=.returned (.int .i64 ((k + run ne10 (s.data.toList.drop k):Nat):Int))∧w=w':=by
 have hle:=run_le ne10 (s.data.toList.drop k)
 rw [List.length_drop,size_toList] at hle
 generalize hT:k + run ne10 (s.data.toList.drop k)=T
 have HT:=Lib.hid hT
 have hTs:T≤s.size:=by omega
 clear hT hle
 go_enter Tryz.func92,Tryz.ntmps92
 go_wp2
 go_loop [1] (fun i=>∃ j:Nat,j≤s.size∧i=.int .i64 (j:Nat)∧Hid (j + run ne10 (s.data.toList.drop j)=T)) (fun i=>s.size - (intOf i).toNat)
 case atStart=>exact ⟨k,hk,rfl,HT⟩
 case round =>
  obtain ⟨j,hj,rfl,HJ⟩:=hrel
  by_cases hlt:j < s.size
  ·have HC:=Lib.hid (skip1_any s[j] w)
   by_cases hp:ne10 s[j]=true
   ·have HN:Hid (j + 1 + run ne10 (s.data.toList.drop (j + 1))=T):=by
     have h:=HJ.out
     rw [drop_cons s j hlt,run_hit _ hp] at h
     exact Lib.hid (by omega)
    rw [hp] at HC
    clear hp
    go_wp2_with (go_at_call 93;refine HC.out.mono ?_;rintro e w1 ⟨rfl,rfl⟩)
    go_round
    case rel=>exact ⟨j + 1,hlt,by go_num,HN⟩
    case measure=>simp [intOf];omega
   ·have hp:ne10 s[j]=false:=by simpa using hp
    have HN:Hid (j=T):=by
     have h:=HJ.out
     rw [drop_cons s j hlt,run_miss _ hp] at h
     exact Lib.hid (by omega)
    rw [hp] at HC
    clear hp
    obtain rfl:j=T:=HN.out
    go_wp2_with (go_at_call 93;refine HC.out.mono ?_;rintro e w1 ⟨rfl,rfl⟩)
    go_ret
    exact ⟨rfl,rfl⟩
  ·have HN:Hid (j=T):=by
    have h:=HJ.out
    rw [drop_nil s j (by omega)] at h
    exact Lib.hid (by simpa [run] using h)
   obtain rfl:j=T:=HN.out
   go_wp2
   go_ret
   exact ⟨rfl,rfl⟩
theorem runEnd40_any (s:ByteArray) (k:Nat) (w:World) (hs:s.size≤9223372036854775807) (hk:k≤s.size) :
  Calls Tryz.prog 92 #[.string s,.int .i64 (k:Nat),.func (.func 95) #[] #[]] w fun e w'=>e=.returned (.int .i64 ((k + run nam (s.data.toList.drop k):Nat):Int))∧w=w':=by
 have hle:=run_le nam (s.data.toList.drop k)
 rw [List.length_drop,size_toList] at hle
 generalize hT:k + run nam (s.data.toList.drop k)=T
 have HT:=Lib.hid hT
 have hTs:T≤s.size:=by omega
 clear hT hle
 go_enter Tryz.func92,Tryz.ntmps92
 go_wp2
 go_loop [1] (fun i=>∃ j:Nat,j≤s.size∧i=.int .i64 (j:Nat)∧Hid (j + run nam (s.data.toList.drop j)=T)) (fun i=>s.size - (intOf i).toNat)
 case atStart=>exact ⟨k,hk,rfl,HT⟩
 case round =>
  obtain ⟨j,hj,rfl,HJ⟩:=hrel
  by_cases hlt:j < s.size
  ·have HC:=Lib.hid (pieceAt1_any s[j] w)
   by_cases hp:nam s[j]=true
   ·have HN:Hid (j + 1 + run nam (s.data.toList.drop (j + 1))=T):=by
     have h:=HJ.out
     rw [drop_cons s j hlt,run_hit _ hp] at h
     exact Lib.hid (by omega)
    rw [hp] at HC
    clear hp
    go_wp2_with (go_at_call 95;refine HC.out.mono ?_;rintro e w1 ⟨rfl,rfl⟩)
    go_round
    case rel=>exact ⟨j + 1,hlt,by go_num,HN⟩
    case measure=>simp [intOf];omega
   ·have hp:nam s[j]=false:=by simpa using hp
    have HN:Hid (j=T):=by
     have h:=HJ.out
     rw [drop_cons s j hlt,run_miss _ hp] at h
     exact Lib.hid (by omega)
    rw [hp] at HC
    clear hp
    obtain rfl:j=T:=HN.out
    go_wp2_with (go_at_call 95;refine HC.out.mono ?_;rintro e w1 ⟨rfl,rfl⟩)
    go_ret
    exact ⟨rfl,rfl⟩
  ·have HN:Hid (j=T):=by
    have h:=HJ.out
    rw [drop_nil s j (by omega)] at h
    exact Lib.hid (by simpa [run] using h)
   obtain rfl:j=T:=HN.out
   go_wp2
   go_ret
   exact ⟨rfl,rfl⟩
theorem runEnd41_any (s:ByteArray) (k:Nat) (w:World) (hs:s.size≤9223372036854775807) (hk:k≤s.size) :
  Calls Tryz.prog 92 #[.string s,.int .i64 (k:Nat),.func (.func 96) #[] #[]] w fun e w'=>e=.returned (.int .i64 ((k + run dgt (s.data.toList.drop k):Nat):Int))∧w=w':=by
 have hle:=run_le dgt (s.data.toList.drop k)
 rw [List.length_drop,size_toList] at hle
 generalize hT:k + run dgt (s.data.toList.drop k)=T
 have HT:=Lib.hid hT
 have hTs:T≤s.size:=by omega
 clear hT hle
 go_enter Tryz.func92,Tryz.ntmps92
 go_wp2
 go_loop [1] (fun i=>∃ j:Nat,j≤s.size∧i=.int .i64 (j:Nat)∧Hid (j + run dgt (s.data.toList.drop j)=T)) (fun i=>s.size - (intOf i).toNat)
 case atStart=>exact ⟨k,hk,rfl,HT⟩
 case round =>
  obtain ⟨j,hj,rfl,HJ⟩:=hrel
  by_cases hlt:j < s.size
  ·have HC:=Lib.hid (isDigit_any s[j] w)
   by_cases hp:dgt s[j]=true
   ·have HN:Hid (j + 1 + run dgt (s.data.toList.drop (j + 1))=T):=by
     have h:=HJ.out
     rw [drop_cons s j hlt,run_hit _ hp] at h
     exact Lib.hid (by omega)
    rw [hp] at HC
    clear hp
    go_wp2_with (go_at_call 96;refine HC.out.mono ?_;rintro e w1 ⟨rfl,rfl⟩)
    go_round
    case rel=>exact ⟨j + 1,hlt,by go_num,HN⟩
    case measure=>simp [intOf];omega
   ·have hp:dgt s[j]=false:=by simpa using hp
    have HN:Hid (j=T):=by
     have h:=HJ.out
     rw [drop_cons s j hlt,run_miss _ hp] at h
     exact Lib.hid (by omega)
    rw [hp] at HC
    clear hp
    obtain rfl:j=T:=HN.out
    go_wp2_with (go_at_call 96;refine HC.out.mono ?_;rintro e w1 ⟨rfl,rfl⟩)
    go_ret
    exact ⟨rfl,rfl⟩
  ·have HN:Hid (j=T):=by
    have h:=HJ.out
    rw [drop_nil s j (by omega)] at h
    exact Lib.hid (by simpa [run] using h)
   obtain rfl:j=T:=HN.out
   go_wp2
   go_ret
   exact ⟨rfl,rfl⟩
theorem runEnd45_any (s:ByteArray) (k:Nat) (w:World) (hs:s.size≤9223372036854775807) (hk:k≤s.size) :
  Calls Tryz.prog 92 #[.string s,.int .i64 (k:Nat),.func (.func 100) #[] #[]] w fun e w'=>e=.returned (.int .i64 ((k + run pla (s.data.toList.drop k):Nat):Int))∧w=w':=by
 have hle:=run_le pla (s.data.toList.drop k)
 rw [List.length_drop,size_toList] at hle
 generalize hT:k + run pla (s.data.toList.drop k)=T
 have HT:=Lib.hid hT
 have hTs:T≤s.size:=by omega
 clear hT hle
 go_enter Tryz.func92,Tryz.ntmps92
 go_wp2
 go_loop [1] (fun i=>∃ j:Nat,j≤s.size∧i=.int .i64 (j:Nat)∧Hid (j + run pla (s.data.toList.drop j)=T)) (fun i=>s.size - (intOf i).toNat)
 case atStart=>exact ⟨k,hk,rfl,HT⟩
 case round =>
  obtain ⟨j,hj,rfl,HJ⟩:=hrel
  by_cases hlt:j < s.size
  ·have HC:=Lib.hid (isPlain_any s[j] w)
   by_cases hp:pla s[j]=true
   ·have HN:Hid (j + 1 + run pla (s.data.toList.drop (j + 1))=T):=by
     have h:=HJ.out
     rw [drop_cons s j hlt,run_hit _ hp] at h
     exact Lib.hid (by omega)
    rw [hp] at HC
    clear hp
    go_wp2_with (go_at_call 100;refine HC.out.mono ?_;rintro e w1 ⟨rfl,rfl⟩)
    go_round
    case rel=>exact ⟨j + 1,hlt,by go_num,HN⟩
    case measure=>simp [intOf];omega
   ·have hp:pla s[j]=false:=by simpa using hp
    have HN:Hid (j=T):=by
     have h:=HJ.out
     rw [drop_cons s j hlt,run_miss _ hp] at h
     exact Lib.hid (by omega)
    rw [hp] at HC
    clear hp
    obtain rfl:j=T:=HN.out
    go_wp2_with (go_at_call 100;refine HC.out.mono ?_;rintro e w1 ⟨rfl,rfl⟩)
    go_ret
    exact ⟨rfl,rfl⟩
  ·have HN:Hid (j=T):=by
    have h:=HJ.out
    rw [drop_nil s j (by omega)] at h
    exact Lib.hid (by simpa [run] using h)
   obtain rfl:j=T:=HN.out
   go_wp2
   go_ret
   exact ⟨rfl,rfl⟩
end Go.Proofs.YtfcgoainglpdlaaGreatDoor
namespace Go.Proofs.YtfcgoainglpdlaaGreatDoor
open Go.RowKit
open Go.Lib hiding intOf
theorem ret_int {k:IntKind} {a b:Int} (h:a=b):Ending.returned (.int k a)=.returned (.int k b):=by rw [h]
theorem ext_end (s:ByteArray) (j:Nat) (_:j≤s.size):(s.extract j s.size).data.toList=s.data.toList.drop j:=by
 rw [Lib.extract_data,List.take_of_length_le]
 rw [List.length_drop,size_toList];exact Nat.le_refl _
theorem prefix2 (l:List UInt8) (c d:UInt8):Lib.hasPrefix l [c,d]=decide (l.take 2=[c,d]):=by
 unfold Lib.hasPrefix
 rw [Bool.eq_iff_iff,decide_eq_true_eq]
 match l with
 |[]=>simp
 |[x]=>simp [List.isPrefixOf]
 |x::y::r =>
  simp only [List.isPrefixOf,List.take_succ_cons,List.take_zero,Bool.and_true,Bool.and_eq_true,beq_iff_eq]
  constructor
  ·rintro ⟨rfl,rfl⟩;rfl
  ·intro h;injection h with h1 h2;injection h2 with h2 _;exact ⟨h1.symm,h2.symm⟩
theorem hasPrefix2 (s:ByteArray) (j:Nat) (c d:UInt8) (w:World) (hj:j≤s.size) :
  Calls Tryz.prog 91 #[.string (s.extract j s.size),.string ⟨#[c,d]⟩] w fun e w'=>e=.returned (.bool (decide ((s.data.toList.drop j).take 2=[c,d])))∧w=w' :=
 (Tryz.strings_HasPrefix (s.extract j s.size) ⟨#[c,d]⟩ w).mono fun e w' ⟨he,hw⟩=>⟨by rw [he,ext_end s j hj];exact congrArg (fun b=>Ending.returned (.bool b)) (prefix2 _ c d),hw.symm⟩
theorem take2_iff (c:UInt8) (r:List UInt8) (x y:UInt8):((c::r).take 2=[x,y]) ↔ (c=x∧r.head?=some y):=by
 cases r <;> simp
theorem index_run (l:List UInt8):Lib.indexByte l 34=if run ne34 l < l.length then (run ne34 l:Int) else -1:=by
 induction l with
 |nil=>rfl
 |cons c r ih =>
  have hr:=run_le ne34 r
  unfold Lib.indexByte
  by_cases h:c=34
  ·subst h
   rw [run_miss r (by decide)];simp
  ·rw [run_hit r (by simpa [ne34] using h),ih]
   have hb:(c == 34)=false:=by simpa using h
   rw [hb]
   simp only [Bool.false_eq_true,if_false,List.length_cons]
   by_cases h2:run ne34 r < r.length
   ·have h3:((run ne34 r:Int) == -1)=false:=by rw [beq_eq_false_iff_ne];omega
    simp only [h2,if_true,h3,Bool.false_eq_true,if_false]
    rw [if_pos (by omega)];rfl
   ·simp only [h2,if_false,beq_self_eq_true,if_true]
    rw [if_neg (by omega)]
theorem skip_any (s:ByteArray) (k:Nat) (w:World) (hs:s.size≤9223372036854775807) (hk:k≤s.size) :
  Calls Tryz.prog 62 #[.string s,.int .i64 (k:Nat)] w fun e w'=>e=.returned (.int .i64 ((k + skp false (s.data.toList.drop k):Nat):Int))∧w=w':=by
 have hle:=skp_le false (s.data.toList.drop k)
 rw [List.length_drop,size_toList] at hle
 generalize hT:k + skp false (s.data.toList.drop k)=T
 have HT:=Lib.hid hT
 have hTs:T≤s.size:=by omega
 clear hT hle
 go_enter Tryz.func62,Tryz.ntmps62
 go_wp2
 go_loop [1] (fun i=>∃ j:Nat,j≤s.size∧i=.int .i64 (j:Nat)∧Hid (j + skp false (s.data.toList.drop j)=T)) (fun i=>s.size - (RowKit.intOf i).toNat)
 case atStart=>exact ⟨k,hk,rfl,HT⟩
 case round =>
  obtain ⟨j,hj,rfl,HJ⟩:=hrel
  by_cases hlt:j < s.size
  ·have HL:=Lib.hid (isLayout_any s[j] w)
   have HP:=Lib.hid (hasPrefix2 s j 47 47 w hj)
   have HR:=Lib.hid (runEnd38_any s j w hs hj)
   have hd:=drop_cons s j hlt
   by_cases hl:lay s[j]=true
   ·have HN:Hid (j + 1 + skp false (s.data.toList.drop (j + 1))=T):=by
     have h:=HJ.out
     rw [hd,skp_layout _ _ hl] at h
     exact Lib.hid (by omega)
    rw [hl] at HL
    clear hl hd
    go_wp2_with (go_at_call 90;refine HL.out.mono ?_;rintro e w1 ⟨rfl,rfl⟩)
    go_round
    case rel=>exact ⟨j + 1,hlt,by go_num,HN⟩
    case measure=>simp [RowKit.intOf];omega
   ·have hl:lay s[j]=false:=by simpa using hl
    by_cases hc:s[j]=47∧(s.data.toList.drop (j + 1)).head?=some 47
    ·have hm:=run_le ne10 (s.data.toList.drop j)
     rw [List.length_drop,size_toList] at hm
     have hm1:1≤run ne10 (s.data.toList.drop j):=by
      rw [hd,run_hit _ (by rw [hc.1];decide)];omega
     have HN:Hid (j + run ne10 (s.data.toList.drop j) + skp false (s.data.toList.drop (j + run ne10 (s.data.toList.drop j)))=T):=by
      have h:=HJ.out
      obtain ⟨r,hr⟩:∃ r,s.data.toList.drop j=47::47::r:=by
       rw [hd,hc.1]
       cases h3:s.data.toList.drop (j + 1) with
       |nil=>rw [h3] at hc;simp at hc
       |cons x r=>rw [h3] at hc;obtain ⟨_,h4⟩:=hc;simp at h4;subst h4;exact ⟨r,rfl⟩
      have e:skp false (s.data.toList.drop j)=skp true (s.data.toList.drop j):=by rw [hr];exact skp_comment r
      rw [e,skp_true,List.drop_drop] at h
      exact Lib.hid (by omega)
     rw [hl] at HL
     rw [show decide ((s.data.toList.drop j).take 2=[47,47])=true by rw [hd];exact decide_eq_true ((take2_iff _ _ _ _).2 hc)] at HP
     clear hl hd hc
     generalize run ne10 (s.data.toList.drop j)=m at *
     go_wp2_with (first | (go_at_call 90;refine HL.out.mono ?_;rintro e w1 ⟨rfl,rfl⟩) | (go_at_call 91;refine HP.out.mono ?_;rintro e w1 ⟨rfl,rfl⟩) | (go_at_call 92;refine HR.out.mono ?_;rintro e w1 ⟨rfl,rfl⟩))
     go_round
     case rel=>exact ⟨j + m,by omega,by go_num,HN⟩
     case measure=>simp [RowKit.intOf];omega
    ·have HN:Hid (j=T):=by
      have h:=HJ.out
      rw [hd,skp_stop _ _ hl hc] at h
      exact Lib.hid (by omega)
     rw [hl] at HL
     rw [show decide ((s.data.toList.drop j).take 2=[47,47])=false by rw [hd];exact decide_eq_false (fun h=>hc ((take2_iff _ _ _ _).1 h))] at HP
     clear hl hd hc
     obtain rfl:j=T:=HN.out
     go_wp2_with (first | (go_at_call 90;refine HL.out.mono ?_;rintro e w1 ⟨rfl,rfl⟩) | (go_at_call 91;refine HP.out.mono ?_;rintro e w1 ⟨rfl,rfl⟩))
     go_ret
     exact ⟨rfl,rfl⟩
  ·have HN:Hid (j=T):=by
    have h:=HJ.out
    rw [drop_nil s j (by omega)] at h
    exact Lib.hid (by simpa [skp] using h)
   obtain rfl:j=T:=HN.out
   go_wp2
   go_ret
   exact ⟨rfl,rfl⟩
theorem indexByte_at (s:ByteArray) (j:Nat) (w:World) (hj:j≤s.size) :
  Calls Tryz.prog 98 #[.string (s.extract j s.size),.int .u8 34] w fun e w'=>e=.returned (.int .i64 (if run ne34 (s.data.toList.drop j) < (s.data.toList.drop j).length then (run ne34 (s.data.toList.drop j):Int) else -1))∧w=w' :=
 (Tryz.strings_IndexByte (s.extract j s.size) 34 w).mono fun e w' ⟨he,hw⟩=>⟨by rw [he,ext_end s j hj];exact congrArg (fun b=>Ending.returned (.int .i64 b)) (index_run _),hw.symm⟩
theorem quoteEnd_any (s:ByteArray) (k:Nat) (w:World) (hs:s.size≤9223372036854775807) (hk:k < s.size) :
  Calls Tryz.prog 97 #[.string s,.int .i64 (k:Nat)] w fun e w' =>
   e=.returned (.int .i64 ((k + (if run ne34 (s.data.toList.drop (k + 1)) < (s.data.toList.drop (k + 1)).length then run ne34 (s.data.toList.drop (k + 1)) + 2 else (s.data.toList.drop (k + 1)).length + 1):Nat):Int))∧w=w':=by
 have HI:=Lib.hid (indexByte_at s (k + 1) w (by omega))
 have hle:=run_le ne34 (s.data.toList.drop (k + 1))
 have hlen:(s.data.toList.drop (k + 1)).length=s.size - (k + 1):=by rw [List.length_drop,size_toList]
 rw [hlen] at HI hle ⊢
 generalize run ne34 (s.data.toList.drop (k + 1))=m at *
 clear hlen
 by_cases h:m < s.size - (k + 1)
 ·rw [if_pos h] at HI ⊢
  go_enter Tryz.func97,Tryz.ntmps97
  go_wp2_with (go_at_call 98;refine HI.out.mono ?_;rintro e w1 ⟨rfl,rfl⟩)
  go_ret
  exact ⟨ret_int (by omega),rfl⟩
 ·rw [if_neg h] at HI ⊢
  go_enter Tryz.func97,Tryz.ntmps97
  go_wp2_with (go_at_call 98;refine HI.out.mono ?_;rintro e w1 ⟨rfl,rfl⟩)
  go_ret
  exact ⟨ret_int (by omega),rfl⟩
end Go.Proofs.YtfcgoainglpdlaaGreatDoor
namespace Go.Proofs.YtfcgoainglpdlaaGreatDoor
open Go.RowKit
open Go.Lib hiding intOf
theorem head_get (d:ByteArray) (h:0 < d.size):d.data.toList.head?=some d[0]:=by
 have:=drop_cons d 0 h
 rw [List.drop_zero] at this
 rw [this];rfl
theorem isNumber_any (d:ByteArray) (w:World) (hd:0 < d.size) (hs:d.size≤9223372036854775807) :
  Calls Tryz.prog 64 #[.string d] w fun e w'=>e=.returned (.bool (num d.data.toList))∧w=w':=by
 have hn:num d.data.toList=(decide (d.size≤15) && (d[0] != 48 || decide (d.size=1))):=by
  unfold num;rw [head_get d hd,size_toList];rfl
 rw [hn]
 clear hn
 by_cases h1:d.size≤15
 ·by_cases h2:d[0]=48
  ·have b2:(((d[0].toNat:Nat):Int) != 48)=false:=by rw [h2];rfl
   by_cases h3:d.size=1
   ·have b3:(((d.size:Nat):Int) == 1)=true:=by rw [beq_iff_eq];omega
    rw [show (decide (d.size≤15) && (d[0] != 48 || decide (d.size=1)))=true by simp [h3]]
    clear h2 h3
    go_enter Tryz.func64,Tryz.ntmps64
    go_wp2
    go_ret
    exact ⟨rfl,rfl⟩
   ·have b3:(((d.size:Nat):Int) == 1)=false:=by rw [beq_eq_false_iff_ne];omega
    rw [show (decide (d.size≤15) && (d[0] != 48 || decide (d.size=1)))=false by simp [h2,h3]]
    clear h2 h3
    go_enter Tryz.func64,Tryz.ntmps64
    go_wp2
    go_ret
    exact ⟨rfl,rfl⟩
  ·have h4:=u8_ne h2
   have b1:(((d[0].toNat:Nat):Int) == 48)=false:=beq_eq_false_iff_ne.2 fun e=>h4 (by show d[0].toNat=48;omega)
   have b2:(((d[0].toNat:Nat):Int) != 48)=true:=by rw [bne,b1];rfl
   rw [show (decide (d.size≤15) && (d[0] != 48 || decide (d.size=1)))=true by simp [h1,h2]]
   clear h2 h4 b1
   go_enter Tryz.func64,Tryz.ntmps64
   go_wp2
   go_ret
   exact ⟨rfl,rfl⟩
 ·rw [show (decide (d.size≤15) && (d[0] != 48 || decide (d.size=1)))=false by simp [h1]]
  have b1:decide (((d.size:Nat):Int)≤15)=false:=by simp;omega
  go_enter Tryz.func64,Tryz.ntmps64
  go_wp2
  go_ret
  exact ⟨rfl,rfl⟩
theorem suffix1 (l:List UInt8):Lib.hasSuffix l [34]=decide (l.getLast?=some 34):=by
 unfold Lib.hasSuffix
 rw [Bool.eq_iff_iff,decide_eq_true_eq,List.isSuffixOf_iff_suffix]
 constructor
 ·rintro ⟨a,rfl⟩;simp
 ·intro h
  obtain ⟨a,ha⟩:=List.getLast?_eq_some_iff.1 h
  exact ⟨a,ha.symm⟩
theorem trim1 (l:List UInt8) (h:l.getLast?=some 34):Lib.trimSuffix l [34]=l.dropLast:=by
 unfold Lib.trimSuffix
 rw [suffix1,h,if_pos (by simp),List.dropLast_eq_take];rfl
theorem cut_any (q:ByteArray) (w:World) (hq:0 < q.size) (hs:q.size≤9223372036854775807) :
  Calls Tryz.prog 99 #[.string (q.extract 1 q.size),.string ⟨#[34]⟩] w fun e w' =>
   e=.returned (.tuple #[.string ⟨(Lib.trimSuffix (q.data.toList.drop 1) [34]).toArray⟩,.bool (decide ((q.data.toList.drop 1).getLast?=some 34))])∧w=w':=by
 have h:=Tryz.strings_CutSuffix (q.extract 1 q.size) ⟨#[34]⟩ w (by rw [ByteArray.size_extract];omega)
 rw [ext_end q 1 (by omega)] at h
 refine h.mono fun e w' ⟨he,hw⟩=>⟨?_,hw.symm⟩
 rw [he,← suffix1]
theorem isQuoted_any (q:ByteArray) (w:World) (hq:0 < q.size) (hs:q.size≤9223372036854775807) :
  Calls Tryz.prog 65 #[.string q] w fun e w'=>e=.returned (.bool (quo q.data.toList))∧w=w':=by
 have HC:=Lib.hid (cut_any q w hq hs)
 have hd:=drop_cons q 0 hq
 rw [List.drop_zero] at hd
 have hn:quo q.data.toList=(decide ((q.data.toList.drop 1).getLast?=some 34) && decide ((q.data.toList.drop 1).dropLast.length≤200) && decide (run pla (q.data.toList.drop 1).dropLast=(q.data.toList.drop 1).dropLast.length)):=by
  rw [hd];rfl
 rw [hn]
 clear hn hd
 have hlen:(q.data.toList.drop 1).length≤q.size:=by rw [List.length_drop,size_toList];omega
 generalize q.data.toList.drop 1=l at *
 by_cases h1:l.getLast?=some 34
 ·rw [trim1 l h1] at HC
  simp only [h1,decide_true,Bool.true_and] at HC ⊢
  have hl2:l.dropLast.length≤q.size:=by rw [List.length_dropLast];omega
  obtain ⟨t,ht⟩:∃ t:ByteArray,(⟨l.dropLast.toArray⟩:ByteArray)=t:=⟨_,rfl⟩
  have hts:t.size=l.dropLast.length:=by rw [← ht];simp [ByteArray.size]
  have htl:t.data.toList=l.dropLast:=by rw [← ht]
  rw [ht] at HC
  have hr:=run_le pla l.dropLast
  have hts2:t.size≤9223372036854775807:=by omega
  rw [← htl] at hr hts ⊢
  clear ht htl h1 hlen
  have HR:=Lib.hid (runEnd45_any t 0 w (by omega) (Nat.zero_le _))
  rw [List.drop_zero,Nat.zero_add] at HR
  rw [← hts] at hr ⊢
  clear hts hl2
  generalize run pla t.data.toList=m at *
  by_cases h2:t.size≤200
  ·by_cases h3:m=t.size
   ·rw [show (decide (t.size≤200) && decide (m=t.size))=true by simp [h2,h3]]
    have b3:(((m:Nat):Int) == ((t.size:Nat):Int))=true:=by rw [beq_iff_eq];omega
    clear h3
    go_enter Tryz.func65,Tryz.ntmps65
    go_wp2_with (first | (go_at_call 99;refine HC.out.mono ?_;rintro e w1 ⟨rfl,rfl⟩) | (go_at_call 92;refine HR.out.mono ?_;rintro e w1 ⟨rfl,rfl⟩))
    go_ret
    exact ⟨rfl,rfl⟩
   ·rw [show (decide (t.size≤200) && decide (m=t.size))=false by simp [h3]]
    have b3:(((m:Nat):Int) == ((t.size:Nat):Int))=false:=by rw [beq_eq_false_iff_ne];omega
    clear h3
    go_enter Tryz.func65,Tryz.ntmps65
    go_wp2_with (first | (go_at_call 99;refine HC.out.mono ?_;rintro e w1 ⟨rfl,rfl⟩) | (go_at_call 92;refine HR.out.mono ?_;rintro e w1 ⟨rfl,rfl⟩))
    go_ret
    exact ⟨rfl,rfl⟩
  ·rw [show (decide (t.size≤200) && decide (m=t.size))=false by simp [h2]]
   have b2:decide (((t.size:Nat):Int)≤200)=false:=by simp;omega
   go_enter Tryz.func65,Tryz.ntmps65
   go_wp2_with (first | (go_at_call 99;refine HC.out.mono ?_;rintro e w1 ⟨rfl,rfl⟩) | (go_at_call 92;refine HR.out.mono ?_;rintro e w1 ⟨rfl,rfl⟩))
   go_ret
   exact ⟨rfl,rfl⟩
 ·simp only [h1,decide_false,Bool.false_and] at HC ⊢
  generalize (⟨(Lib.trimSuffix l [34]).toArray⟩:ByteArray)=t at *
  clear h1
  go_enter Tryz.func65,Tryz.ntmps65
  go_wp2_with (go_at_call 99;refine HC.out.mono ?_;rintro e w1 ⟨rfl,rfl⟩)
  go_ret
  exact ⟨rfl,rfl⟩
theorem flt_deep {k:Int} {l:List UInt8} {n:Nat} (hk:k≠0) (h:4000≤n):flt k l n=6:=by unfold flt;rw [if_neg hk,if_pos h]
theorem flt_in {k:Int} {l:List UInt8} {n:Nat} (hk:k≠0) (h:¬ 4000≤n) :
  flt k l n=if k=-1 then 1 else if k=2∧num l=false then 2 else if k=3∧quo l=false then 3 else if k=1∧40 < l.length then 4 else 0:=by unfold flt;rw [if_neg hk,if_neg h]
theorem fault_any (k p e:Int) (t:ByteArray) (n:Nat) (w:World) (hk1:-1≤k) (hk2:k≤5) (ht:k≠0→0 < t.size) (hs:t.size≤9223372036854775807) :
  Calls Tryz.prog 40 #[.agg #[.int .i64 k,.int .i64 p,.int .i64 e,.string t],.int .i64 (n:Nat)] w fun e w'=>e=.returned (.int .i64 (flt k t.data.toList n))∧Below w.heap.size w w':=by
 by_cases h0:k=0
 ·subst h0
  rw [flt_zero]
  clear ht
  go_enter Tryz.func40,Tryz.ntmps40
  go_wp2
  go_ret
  exact ⟨rfl,(Below.refl _ _).alloc (Nat.le_refl _) _⟩
 replace ht:=ht h0
 by_cases h4:4000≤n
 ·rw [flt_deep h0 h4]
  have b0:(k == 0)=false:=beq_eq_false_iff_ne.2 h0
  have b1:decide ((4000:Int)≤(n:Nat))=true:=by simp;omega
  clear h0
  go_enter Tryz.func40,Tryz.ntmps40
  go_wp2
  go_ret
  exact ⟨rfl,(Below.refl _ _).alloc (Nat.le_refl _) _⟩
 rw [flt_in h0 h4]
 have b1:decide ((4000:Int)≤(n:Nat))=false:=by simp;omega
 have hcase:k=-1∨k=1∨k=2∨k=3∨k=4∨k=5:=by omega
 rcases hcase with rfl | rfl | rfl | rfl | rfl | rfl
 ·rw [if_pos rfl]
  clear h0
  go_enter Tryz.func40,Tryz.ntmps40
  go_wp2
  go_ret
  exact ⟨rfl,(Below.refl _ _).alloc (Nat.le_refl _) _⟩
 ·rw [size_toList]
  clear h0
  by_cases h5:40 < t.size
  ·rw [if_neg (by decide),if_neg (by simp),if_neg (by simp),if_pos ⟨rfl,h5⟩]
   have b5:decide ((40:Int) < (t.size:Nat))=true:=by simp;omega
   go_enter Tryz.func40,Tryz.ntmps40
   go_wp2
   go_ret
   exact ⟨rfl,(Below.refl _ _).alloc (Nat.le_refl _) _⟩
  ·rw [if_neg (by decide),if_neg (by simp),if_neg (by simp),if_neg (fun h=>h5 h.2)]
   have b5:decide ((40:Int) < (t.size:Nat))=false:=by simp;omega
   go_enter Tryz.func40,Tryz.ntmps40
   go_wp2
   go_ret
   exact ⟨rfl,(Below.refl _ _).alloc (Nat.le_refl _) _⟩
 ·have HN:=Lib.hid (fun w=>isNumber_any t w ht hs)
  clear h0
  cases hnum:num t.data.toList
  ·rw [if_neg (by decide),if_pos ⟨rfl,rfl⟩]
   rw [hnum] at HN
   clear hnum
   go_enter Tryz.func40,Tryz.ntmps40
   go_wp2_with (go_at_call 64;refine (HN.out _).mono ?_;rintro e w1 ⟨rfl,rfl⟩)
   go_ret
   exact ⟨rfl,(Below.refl _ _).alloc (Nat.le_refl _) _⟩
  ·rw [if_neg (by decide),if_neg (by simp),if_neg (by simp),if_neg (by simp)]
   rw [hnum] at HN
   clear hnum
   go_enter Tryz.func40,Tryz.ntmps40
   go_wp2_with (go_at_call 64;refine (HN.out _).mono ?_;rintro e w1 ⟨rfl,rfl⟩)
   go_ret
   exact ⟨rfl,(Below.refl _ _).alloc (Nat.le_refl _) _⟩
 ·have HN:=Lib.hid (fun w=>isQuoted_any t w ht hs)
  clear h0
  cases hnum:quo t.data.toList
  ·rw [if_neg (by decide),if_neg (by simp),if_pos ⟨rfl,rfl⟩]
   rw [hnum] at HN
   clear hnum
   go_enter Tryz.func40,Tryz.ntmps40
   go_wp2_with (go_at_call 65;refine (HN.out _).mono ?_;rintro e w1 ⟨rfl,rfl⟩)
   go_ret
   exact ⟨rfl,(Below.refl _ _).alloc (Nat.le_refl _) _⟩
  ·rw [if_neg (by decide),if_neg (by simp),if_neg (by simp),if_neg (by simp)]
   rw [hnum] at HN
   clear hnum
   go_enter Tryz.func40,Tryz.ntmps40
   go_wp2_with (go_at_call 65;refine (HN.out _).mono ?_;rintro e w1 ⟨rfl,rfl⟩)
   go_ret
   exact ⟨rfl,(Below.refl _ _).alloc (Nat.le_refl _) _⟩
 ·rw [if_neg (by decide),if_neg (by simp),if_neg (by simp),if_neg (by simp)]
  clear h0
  go_enter Tryz.func40,Tryz.ntmps40
  go_wp2
  go_ret
  exact ⟨rfl,(Below.refl _ _).alloc (Nat.le_refl _) _⟩
 ·rw [if_neg (by decide),if_neg (by simp),if_neg (by simp),if_neg (by simp)]
  clear h0
  go_enter Tryz.func40,Tryz.ntmps40
  go_wp2
  go_ret
  exact ⟨rfl,(Below.refl _ _).alloc (Nat.le_refl _) _⟩
end Go.Proofs.YtfcgoainglpdlaaGreatDoor
