/- The program's walk of an expression without brackets about it (made by tools/genprh.py). Conditions: the text is of at most 2^47 bytes; the library's table is laid. The program's walk of tabs, of a block, of what is within a statement (made by tools/genprk.py). Conditions: the text is of at most .. -/
import Derived.Test.YtfcgoainglpdlaaGreatDoorV26
import Derived.Test.YtfcgoainglpdlaaGreatDoorV22
import Derived.Test.YtfcgoainglpdlaaGreatDoorV03
set_option maxRecDepth 100000
set_option maxHeartbeats 2000000
namespace Go.Proofs.YtfcgoainglpdlaaGreatDoor
open Go.RowKit
open Go.Lib hiding intOf
theorem SP.step {w0 w w':World} {b m:Nat} {l:List UInt8} (h:SP w0 b m l w) (hb:Below w.heap.size w w'):SP w0 b m l w' :=
 ⟨h.pw.kept fun k _ hk=>(hb.block k (Array.getElem?_eq_some_iff.1 hk).1).trans hk,h.lev.same fun _ hk _=>(hb.block m (Array.getElem?_eq_some_iff.1 hk).1).trans hk,h.below.trans (hb.mono h.base),h.ne⟩
theorem Kq.of_below {B b:Nat} {w w':World} (hB:B≤w.heap.size) (hb:Below w.heap.size w w'):Kq B b w w' :=
 ⟨hb.mono hB,fun k _ hk _ _=>(hb.block k (Array.getElem?_eq_some_iff.1 hk).1).trans hk⟩
theorem restB_list:∀ l:List (Int × ByteArray),(restB l).data.toList=restL (l.map fun q=>(bx 1 q).data.toList)
 |[]=>rfl
 |x::r=>by simp only [restB,List.map_cons,restL,ByteArray.data_append,Array.toList_append,restB_list r]
theorem joinB_list:∀ l:List (Int × ByteArray),(joinB l).data.toList=joinL' (l.map fun q=>(bx 1 q).data.toList)
 |[]=>rfl
 |x::r=>by simp only [joinB,List.map_cons,joinL',ByteArray.data_append,Array.toList_append,restB_list r]
theorem pls_map (xs:List GX):(plsG xs).map (fun q=>(bx 1 q).data.toList)=xs.map fun x=>(bx 1 (levG x,plnG x)).data.toList:=by
 induction xs with
 |nil=>rw [plsG];rfl
 |cons x r ih=>rw [plsG];simp [ih]
theorem pls_drop (xs:List GX) (k:Nat):(plsG xs).drop k=plsG (xs.drop k):=by
 induction xs generalizing k with
 |nil=>rw [plsG];cases k <;> simp [plsG]
 |cons x r ih =>
  cases k with
  |zero=>rfl
  |succ k=>rw [plsG];simpa using ih k
theorem joinB_pls (xs:List GX):(joinB (plsG xs)).data.toList=joinL' (xs.map fun x=>(bx 1 (levG x,plnG x)).data.toList):=by rw [joinB_list,pls_map]
theorem IsXs.shift {w:World} {a:Addr}:∀ {xs:List GX} {i k:Nat},IsXs w (some a) (i + k) xs→IsXs w (some (a.add (k * 11))) i xs
 |[],_,_,_=>by unfold IsXs;trivial
 |y::r,i,k,h=>by
  unfold IsXs at h ⊢
  obtain ⟨⟨a',c0,c1,c2,c3,c4,c5,c6,c7,c8,c9,c10,ho,h0,h1,h2,h3,h4,h5,h6,h7,h8,h9,h10,hy⟩,hr⟩:=h
  cases ho
  have e:∀ j,(a.add (k * 11)).add (i * 11 + j)=a.add ((i + k) * 11 + j):=fun j=>by rw [add_more'];congr 1;omega
  have e0:(a.add (k * 11)).add (i * 11)=a.add ((i + k) * 11):=by rw [add_more'];congr 1;omega
  refine ⟨⟨_,c0,c1,c2,c3,c4,c5,c6,c7,c8,c9,c10,rfl,?_,?_,?_,?_,?_,?_,?_,?_,?_,?_,?_,hy⟩,IsXs.shift (by rwa [show i + 1 + k=i + k + 1 by omega])⟩
  ·rw [e0];exact h0
  all_goals (rw [e];assumption)
theorem plnG_1 (p s:Int) (nm:ByteArray) (n:Int) (t:GT) (args:List GX):plnG (.mk 1 p s nm n t args)=⟨(Lib.itoa n).toArray⟩:=by rw [plnG];simp
theorem plnG_3 (p s:Int) (nm:ByteArray) (n:Int) (t:GT) (args:List GX):plnG (.mk 3 p s nm n t args)=⟨(Lib.formatBool (n == 1)).toArray⟩:=by
 rw [plnG]
 by_cases h:n=1
 ·subst h;rfl
 ·have e:(n == 1)=false:=by simpa using h
  rw [e]
  simp only [show ¬ (3:Int)=1 by decide,show ¬ (3:Int)=2 by decide,h,if_false,if_true]
  rfl
theorem levK_small (nm:ByteArray):levK 9 nm + 1≤9223372036854775807∧-9223372036854775808≤levK 9 nm + 1:=by
 unfold levK
 repeat' split
 all_goals decide
theorem plnG_no (k p s:Int) (nm:ByteArray) (n:Int) (t:GT) (args:List GX) (hk:k < 1∨10 < k):plnG (.mk k p s nm n t args)=⟨#[63]⟩:=by
 rw [plnG]
 simp [show ¬ k=1 by omega,show ¬ k=2 by omega,show ¬ k=3 by omega,show ¬ k=4 by omega,show ¬ k=5 by omega,show ¬ k=6 by omega,show ¬ k=7 by omega,show ¬ k=8 by omega,show ¬ k=9 by omega,show ¬ k=10 by omega]
theorem plnG_2 (p s:Int) (nm:ByteArray) (n:Int) (t:GT) (args:List GX):(plnG (.mk 2 p s nm n t args)).data.toList=[34]++nm.data.toList++[34]:=by
 rw [plnG]
 simp only [show ¬ (2:Int)=1 by decide,show ¬ (2:Int)=3 by decide,show ¬ (2:Int)=4 by decide,show ¬ (2:Int)=5 by decide,show ¬ (2:Int)=6 by decide,show ¬ (2:Int)=7 by decide,show ¬ (2:Int)=8 by decide,show ¬ (2:Int)=10 by decide,show ¬ (2:Int)=9 by decide,if_false,if_true,ByteArray.data_append,Array.toList_append]
theorem plnG_4 (p s:Int) (nm:ByteArray) (n:Int) (t:GT) (args:List GX):(plnG (.mk 4 p s nm n t args)).data.toList=nm.data.toList:=by
 rw [plnG]
 simp only [show ¬ (4:Int)=1 by decide,show ¬ (4:Int)=2 by decide,show ¬ (4:Int)=3 by decide,show ¬ (4:Int)=5 by decide,show ¬ (4:Int)=6 by decide,show ¬ (4:Int)=7 by decide,show ¬ (4:Int)=8 by decide,show ¬ (4:Int)=10 by decide,show ¬ (4:Int)=9 by decide,if_false,if_true]
theorem plnG_5 (p s:Int) (nm:ByteArray) (n:Int) (t:GT) (args:List GX):(plnG (.mk 5 p s nm n t args)).data.toList=(argB (plsG args) 0 6).data.toList++[46]++nm.data.toList:=by
 rw [plnG]
 simp only [show ¬ (5:Int)=1 by decide,show ¬ (5:Int)=2 by decide,show ¬ (5:Int)=3 by decide,show ¬ (5:Int)=4 by decide,show ¬ (5:Int)=6 by decide,show ¬ (5:Int)=7 by decide,show ¬ (5:Int)=8 by decide,show ¬ (5:Int)=10 by decide,show ¬ (5:Int)=9 by decide,if_false,if_true,ByteArray.data_append,Array.toList_append]
theorem plnG_6 (p s:Int) (nm:ByteArray) (n:Int) (t:GT) (args:List GX):(plnG (.mk 6 p s nm n t args)).data.toList=(argB (plsG args) 0 6).data.toList++[40]++(joinB ((plsG args).drop 1)).data.toList++[41]:=by
 rw [plnG]
 simp only [show ¬ (6:Int)=1 by decide,show ¬ (6:Int)=2 by decide,show ¬ (6:Int)=3 by decide,show ¬ (6:Int)=4 by decide,show ¬ (6:Int)=5 by decide,show ¬ (6:Int)=7 by decide,show ¬ (6:Int)=8 by decide,show ¬ (6:Int)=10 by decide,show ¬ (6:Int)=9 by decide,if_false,if_true,ByteArray.data_append,Array.toList_append]
theorem plnG_7 (p s:Int) (nm:ByteArray) (n:Int) (t:GT) (args:List GX):(plnG (.mk 7 p s nm n t args)).data.toList=(argB (plsG args) 0 6).data.toList++[91]++(argB (plsG args) 1 1).data.toList++[93]:=by
 rw [plnG]
 simp only [show ¬ (7:Int)=1 by decide,show ¬ (7:Int)=2 by decide,show ¬ (7:Int)=3 by decide,show ¬ (7:Int)=4 by decide,show ¬ (7:Int)=5 by decide,show ¬ (7:Int)=6 by decide,show ¬ (7:Int)=8 by decide,show ¬ (7:Int)=10 by decide,show ¬ (7:Int)=9 by decide,if_false,if_true,ByteArray.data_append,Array.toList_append]
theorem plnG_8 (p s:Int) (nm:ByteArray) (n:Int) (t:GT) (args:List GX):(plnG (.mk 8 p s nm n t args)).data.toList=[110,101,119,32]++(typG t).data.toList++[123]++(joinB (plsG args)).data.toList++[125]:=by
 rw [plnG]
 simp only [show ¬ (8:Int)=1 by decide,show ¬ (8:Int)=2 by decide,show ¬ (8:Int)=3 by decide,show ¬ (8:Int)=4 by decide,show ¬ (8:Int)=5 by decide,show ¬ (8:Int)=6 by decide,show ¬ (8:Int)=7 by decide,show ¬ (8:Int)=10 by decide,show ¬ (8:Int)=9 by decide,if_false,if_true,ByteArray.data_append,Array.toList_append]
theorem plnG_9 (p s:Int) (nm:ByteArray) (n:Int) (t:GT) (args:List GX):(plnG (.mk 9 p s nm n t args)).data.toList=(argB (plsG args) 0 (levK 9 nm)).data.toList++[32]++nm.data.toList++[32]++(argB (plsG args) 1 (levK 9 nm + 1)).data.toList:=by
 rw [plnG]
 simp only [show ¬ (9:Int)=1 by decide,show ¬ (9:Int)=2 by decide,show ¬ (9:Int)=3 by decide,show ¬ (9:Int)=4 by decide,show ¬ (9:Int)=5 by decide,show ¬ (9:Int)=6 by decide,show ¬ (9:Int)=7 by decide,show ¬ (9:Int)=8 by decide,show ¬ (9:Int)=10 by decide,if_false,if_true,ByteArray.data_append,Array.toList_append]
theorem plnG_10 (p s:Int) (nm:ByteArray) (n:Int) (t:GT) (args:List GX):(plnG (.mk 10 p s nm n t args)).data.toList=[33]++(argB (plsG args) 0 5).data.toList:=by
 rw [plnG]
 simp only [show ¬ (10:Int)=1 by decide,show ¬ (10:Int)=2 by decide,show ¬ (10:Int)=3 by decide,show ¬ (10:Int)=4 by decide,show ¬ (10:Int)=5 by decide,show ¬ (10:Int)=6 by decide,show ¬ (10:Int)=7 by decide,show ¬ (10:Int)=8 by decide,show ¬ (10:Int)=9 by decide,if_false,if_true,ByteArray.data_append,Array.toList_append]
theorem bare_2 (w0:World) (b m:Nat) (p s:Int) (nm:ByteArray) (n:Int) (t:GT) (args:List GX):BareIs w0 b m (.mk 2 p s nm n t args):=by
 intro v l w hv hp hl
 have HV:=Lib.hid hv
 unfold IsX at hv
 obtain ⟨y0,y1,y2,y3,y4,o,c,rfl,n1,n2,ht,hol,hoc,ha⟩:=hv
 have HX1:=Lib.hid (Blk.new w 31 #[.int .i64 2,.int .i64 p,.int .i64 s,.string nm,.int .i64 n,y0,y1,y2,y3,y4,.slice o args.length c])
 have HP1:=Lib.hid (hp.alloc (.cells #[.int .i64 2,.int .i64 p,.int .i64 s,.string nm,.int .i64 n,y0,y1,y2,y3,y4,.slice o args.length c] 31))
 have HK1:=Lib.hid ((Kq.refl w0.heap.size b w).alloc hp.base (.cells #[.int .i64 2,.int .i64 p,.int .i64 s,.string nm,.int .i64 n,y0,y1,y2,y3,y4,.slice o args.length c] 31))
 have hbb:Hid (w.heap.size≠b):=by have:=hp.lt;show _≠_;omega
 clear hp
 rw [plnG_2] at hl ⊢
 have HL1:Hid (l.length + ([34]++(nm.data.toList++[34])).length≤140737488355328):=by simp only [List.length_append] at hl ⊢;show _≤_;omega
 clear hl HV ht hol hoc ha n1 n2
 go_enter Tryz.func49,Tryz.ntmps49
 go_wp2_with (first
  |(go_at_call 47;refine (put3 w0 b m _ _ HP1.out _ _ _ _ (by simp) HL1.out).mono ?_;rintro e w2 ⟨rfl,hp,hk⟩;have HP2:=Lib.hid hp;have HK2:=Lib.hid (HK1.out.trans hk);clear hp hk))
 go_wp2
 first | go_end0 | refine bodyPost_ret (results_none rfl _ _ _) rfl ?_
 refine ⟨rfl,HP2.out.cast ?_,HK2.out⟩
 simp
theorem bare_4 (w0:World) (b m:Nat) (p s:Int) (nm:ByteArray) (n:Int) (t:GT) (args:List GX):BareIs w0 b m (.mk 4 p s nm n t args):=by
 intro v l w hv hp hl
 have HV:=Lib.hid hv
 unfold IsX at hv
 obtain ⟨y0,y1,y2,y3,y4,o,c,rfl,n1,n2,ht,hol,hoc,ha⟩:=hv
 have HX1:=Lib.hid (Blk.new w 31 #[.int .i64 4,.int .i64 p,.int .i64 s,.string nm,.int .i64 n,y0,y1,y2,y3,y4,.slice o args.length c])
 have HP1:=Lib.hid (hp.alloc (.cells #[.int .i64 4,.int .i64 p,.int .i64 s,.string nm,.int .i64 n,y0,y1,y2,y3,y4,.slice o args.length c] 31))
 have HK1:=Lib.hid ((Kq.refl w0.heap.size b w).alloc hp.base (.cells #[.int .i64 4,.int .i64 p,.int .i64 s,.string nm,.int .i64 n,y0,y1,y2,y3,y4,.slice o args.length c] 31))
 have hbb:Hid (w.heap.size≠b):=by have:=hp.lt;show _≠_;omega
 clear hp
 rw [plnG_4] at hl ⊢
 have HL1:=Lib.hid hl
 clear hl HV ht hol hoc ha n1 n2
 go_enter Tryz.func49,Tryz.ntmps49
 go_wp2_with (first
  |(go_at_call 47;refine (put1 w0 b m _ _ HP1.out _ _ (by simp) HL1.out).mono ?_;rintro e w2 ⟨rfl,hp,hk⟩;have HP2:=Lib.hid hp;have HK2:=Lib.hid (HK1.out.trans hk);clear hp hk))
 go_wp2
 first | go_end0 | refine bodyPost_ret (results_none rfl _ _ _) rfl ?_
 refine ⟨rfl,HP2.out.cast ?_,HK2.out⟩
 simp
theorem bare_10 (w0:World) (b m:Nat) (p s:Int) (nm:ByteArray) (n:Int) (t:GT) (args:List GX) (hA:∀ y ∈ args,BareIs w0 b m y):BareIs w0 b m (.mk 10 p s nm n t args):=by
 intro v l w hv hp hl
 have HV:=Lib.hid hv
 unfold IsX at hv
 obtain ⟨y0,y1,y2,y3,y4,o,c,rfl,n1,n2,ht,hol,hoc,ha⟩:=hv
 have HX1:=Lib.hid (Blk.new w 31 #[.int .i64 10,.int .i64 p,.int .i64 s,.string nm,.int .i64 n,y0,y1,y2,y3,y4,.slice o args.length c])
 have HP1:=Lib.hid (hp.alloc (.cells #[.int .i64 10,.int .i64 p,.int .i64 s,.string nm,.int .i64 n,y0,y1,y2,y3,y4,.slice o args.length c] 31))
 have HK1:=Lib.hid ((Kq.refl w0.heap.size b w).alloc hp.base (.cells #[.int .i64 10,.int .i64 p,.int .i64 s,.string nm,.int .i64 n,y0,y1,y2,y3,y4,.slice o args.length c] 31))
 have hbb:Hid (w.heap.size≠b):=by have:=hp.lt;show _≠_;omega
 clear hp
 rw [plnG_10] at hl ⊢
 have HL1:Hid ((l).length + ([33]).length≤140737488355328):=by (try simp only [List.length_append] at hl);(try simp only [List.length_append]);show _≤_;omega
 have HL2:Hid ((l++([33])).length + ((argB (plsG args) 0 5).data.toList).length≤140737488355328):=by (try simp only [List.length_append] at hl);(try simp only [List.length_append]);show _≤_;omega
 have HG0:=Lib.hid (fun (l':List UInt8) (W:World) (hp:SP w0 b m l' W)=>arg_of w0 b m 10 p s nm n t args hA 0 _ (5) l' W HV.out hp)
 clear hl HV hA ht hol hoc ha n1 n2
 generalize argB (plsG args) 0 5=a0 at *
 go_enter Tryz.func49,Tryz.ntmps49
 go_wp2_with (first
  |(refine boxLoad 31 11 size11 Tryz.underlying31 rfl _ rfl w.heap.size rfl (cs:=[_,_,_,_,_,_,_,_,_,_,_]) HX2.out rfl ?_)
  |(refine boxLoad 31 11 size11 Tryz.underlying31 rfl _ rfl w.heap.size rfl (cs:=[_,_,_,_,_,_,_,_,_,_,_]) HX1.out rfl ?_)
  |(go_at_call 75;refine (HG0.out _ _ HP2.out HL2.out).mono ?_;rintro e w3 ⟨rfl,hp,hk⟩;have HP3:=Lib.hid hp;have HK3:=Lib.hid (HK2.out.trans hk);have HX3:=Lib.hid (hk.blk HX2.out hbb.out (by decide));have d3:=HX3.out.cell;clear hp hk)
  |(go_at_call 47;refine (put1 w0 b m _ _ HP1.out _ _ (by simp) HL1.out).mono ?_;rintro e w2 ⟨rfl,hp,hk⟩;have HP2:=Lib.hid hp;have HK2:=Lib.hid (HK1.out.trans hk);have HX2:=Lib.hid (hk.blk HX1.out hbb.out (by decide));have d2:=HX2.out.cell;clear hp hk))
 go_wp2
 first | go_end0 | refine bodyPost_ret (results_none rfl _ _ _) rfl ?_
 refine ⟨rfl,HP3.out.cast ?_,HK3.out⟩
 simp
theorem bare_5 (w0:World) (b m:Nat) (p s:Int) (nm:ByteArray) (n:Int) (t:GT) (args:List GX) (hA:∀ y ∈ args,BareIs w0 b m y):BareIs w0 b m (.mk 5 p s nm n t args):=by
 intro v l w hv hp hl
 have HV:=Lib.hid hv
 unfold IsX at hv
 obtain ⟨y0,y1,y2,y3,y4,o,c,rfl,n1,n2,ht,hol,hoc,ha⟩:=hv
 have HX1:=Lib.hid (Blk.new w 31 #[.int .i64 5,.int .i64 p,.int .i64 s,.string nm,.int .i64 n,y0,y1,y2,y3,y4,.slice o args.length c])
 have HP1:=Lib.hid (hp.alloc (.cells #[.int .i64 5,.int .i64 p,.int .i64 s,.string nm,.int .i64 n,y0,y1,y2,y3,y4,.slice o args.length c] 31))
 have HK1:=Lib.hid ((Kq.refl w0.heap.size b w).alloc hp.base (.cells #[.int .i64 5,.int .i64 p,.int .i64 s,.string nm,.int .i64 n,y0,y1,y2,y3,y4,.slice o args.length c] 31))
 have hbb:Hid (w.heap.size≠b):=by have:=hp.lt;show _≠_;omega
 clear hp
 rw [plnG_5] at hl ⊢
 have HL1:Hid ((l).length + ((argB (plsG args) 0 6).data.toList).length≤140737488355328):=by (try simp only [List.length_append] at hl);(try simp only [List.length_append]);show _≤_;omega
 have HL2:Hid ((l++((argB (plsG args) 0 6).data.toList)).length + ([46]++nm.data.toList).length≤140737488355328):=by (try simp only [List.length_append] at hl);(try simp only [List.length_append]);show _≤_;omega
 have HG0:=Lib.hid (fun (l':List UInt8) (W:World) (hp:SP w0 b m l' W)=>arg_of w0 b m 5 p s nm n t args hA 0 _ (6) l' W HV.out hp)
 clear hl HV hA ht hol hoc ha n1 n2
 generalize argB (plsG args) 0 6=a0 at *
 go_enter Tryz.func49,Tryz.ntmps49
 go_wp2_with (first
  |(refine boxLoad 31 11 size11 Tryz.underlying31 rfl _ rfl w.heap.size rfl (cs:=[_,_,_,_,_,_,_,_,_,_,_]) HX2.out rfl ?_)
  |(refine boxLoad 31 11 size11 Tryz.underlying31 rfl _ rfl w.heap.size rfl (cs:=[_,_,_,_,_,_,_,_,_,_,_]) HX1.out rfl ?_)
  |(go_at_call 47;refine (put2 w0 b m _ _ HP2.out _ _ _ (by simp) HL2.out).mono ?_;rintro e w3 ⟨rfl,hp,hk⟩;have HP3:=Lib.hid hp;have HK3:=Lib.hid (HK2.out.trans hk);clear hp hk)
  |(go_at_call 75;refine (HG0.out _ _ HP1.out HL1.out).mono ?_;rintro e w2 ⟨rfl,hp,hk⟩;have HP2:=Lib.hid hp;have HK2:=Lib.hid (HK1.out.trans hk);have HX2:=Lib.hid (hk.blk HX1.out hbb.out (by decide));have d2:=HX2.out.cell;clear hp hk))
 go_wp2
 first | go_end0 | refine bodyPost_ret (results_none rfl _ _ _) rfl ?_
 refine ⟨rfl,HP3.out.cast ?_,HK3.out⟩
 simp
theorem bare_6 (w0:World) (b m:Nat) (p s:Int) (nm:ByteArray) (n:Int) (t:GT) (args:List GX) (hA:∀ y ∈ args,BareIs w0 b m y):BareIs w0 b m (.mk 6 p s nm n t args):=by
 intro v l w hv hp hl
 have HV:=Lib.hid hv
 unfold IsX at hv
 obtain ⟨y0,y1,y2,y3,y4,o,c,rfl,n1,n2,ht,hol,hoc,ha⟩:=hv
 have HX1:=Lib.hid (Blk.new w 31 #[.int .i64 6,.int .i64 p,.int .i64 s,.string nm,.int .i64 n,y0,y1,y2,y3,y4,.slice o args.length c])
 have HP1:=Lib.hid (hp.alloc (.cells #[.int .i64 6,.int .i64 p,.int .i64 s,.string nm,.int .i64 n,y0,y1,y2,y3,y4,.slice o args.length c] 31))
 have HK1:=Lib.hid ((Kq.refl w0.heap.size b w).alloc hp.base (.cells #[.int .i64 6,.int .i64 p,.int .i64 s,.string nm,.int .i64 n,y0,y1,y2,y3,y4,.slice o args.length c] 31))
 have hbb:Hid (w.heap.size≠b):=by have:=hp.lt;show _≠_;omega
 clear hp
 rw [plnG_6] at hl ⊢
 rw [pls_drop,joinB_pls] at hl ⊢
 have HL1:Hid ((l).length + ((argB (plsG args) 0 6).data.toList).length≤140737488355328):=by (try simp only [List.length_append] at hl);(try simp only [List.length_append]);show _≤_;omega
 have HL2:Hid ((l++((argB (plsG args) 0 6).data.toList)).length + ([40]++joinL' ((args.drop 1).map fun x=>(bx 1 (levG x,plnG x)).data.toList)++[41]).length≤140737488355328):=by (try simp only [List.length_append] at hl);(try simp only [List.length_append]);show _≤_;omega
 have HG0:=Lib.hid (fun (l':List UInt8) (W:World) (hp:SP w0 b m l' W)=>arg_of w0 b m 6 p s nm n t args hA 0 _ (6) l' W HV.out hp)
 rcases args with _ | ⟨y,_ | ⟨z,r⟩⟩
 ·have HE:=Lib.hid (fun (o':Option Addr) (c':Nat) (l':List UInt8) (W:World) (hp:SP w0 b m l' W)=>exprs_any w0 b m [] (fun y hy=>by cases hy) o' c' (Nat.zero_le _) (by unfold IsXs;trivial) ⟨#[40]⟩ ⟨#[41]⟩ l' W hp)
  clear hl HV hA ht hol hoc ha n1 n2
  simp only [List.drop_nil] at HL2 ⊢
  generalize argB (plsG []) 0 6=a0 at *
  go_enter Tryz.func49,Tryz.ntmps49
  go_wp2_with (first
   |(refine boxLoad 31 11 size11 Tryz.underlying31 rfl _ rfl w.heap.size rfl (cs:=[_,_,_,_,_,_,_,_,_,_,_]) HX2.out rfl ?_)
   |(refine boxLoad 31 11 size11 Tryz.underlying31 rfl _ rfl w.heap.size rfl (cs:=[_,_,_,_,_,_,_,_,_,_,_]) HX1.out rfl ?_)
   |(go_at_call 76;refine (HE.out _ _ _ _ HP2.out HL2.out).mono ?_;rintro e w3 ⟨rfl,hp,hk⟩;have HP3:=Lib.hid hp;have HK3:=Lib.hid (HK2.out.trans hk);clear hp hk)
   |(go_at_call 75;refine (HG0.out _ _ HP1.out HL1.out).mono ?_;rintro e w2 ⟨rfl,hp,hk⟩;have HP2:=Lib.hid hp;have HK2:=Lib.hid (HK1.out.trans hk);have HX2:=Lib.hid (hk.blk HX1.out hbb.out (by decide));have d2:=HX2.out.cell;clear hp hk))
  all_goals
   go_wp2
   first | go_end0 | refine bodyPost_ret (results_none rfl _ _ _) rfl ?_
   refine ⟨rfl,HP3.out.cast ?_,HK3.out⟩
   simp
 ·have HE:=Lib.hid (fun (o':Option Addr) (c':Nat) (l':List UInt8) (W:World) (hp:SP w0 b m l' W)=>exprs_any w0 b m [] (fun y hy=>by cases hy) o' c' (Nat.zero_le _) (by unfold IsXs;trivial) ⟨#[40]⟩ ⟨#[41]⟩ l' W hp)
  clear hl HV hA ht hol hoc ha n1 n2
  simp only [List.drop_succ_cons,List.drop_zero] at HL2 ⊢
  generalize argB (plsG [y]) 0 6=a0 at *
  have hmin:min (1:Int) 1=1:=by decide
  go_enter Tryz.func49,Tryz.ntmps49
  go_wp2_with (first
   |(refine boxLoad 31 11 size11 Tryz.underlying31 rfl _ rfl w.heap.size rfl (cs:=[_,_,_,_,_,_,_,_,_,_,_]) HX2.out rfl ?_)
   |(refine boxLoad 31 11 size11 Tryz.underlying31 rfl _ rfl w.heap.size rfl (cs:=[_,_,_,_,_,_,_,_,_,_,_]) HX1.out rfl ?_)
   |(go_at_call 76;refine (HE.out _ _ _ _ HP2.out HL2.out).mono ?_;rintro e w3 ⟨rfl,hp,hk⟩;have HP3:=Lib.hid hp;have HK3:=Lib.hid (HK2.out.trans hk);clear hp hk)
   |(go_at_call 75;refine (HG0.out _ _ HP1.out HL1.out).mono ?_;rintro e w2 ⟨rfl,hp,hk⟩;have HP2:=Lib.hid hp;have HK2:=Lib.hid (HK1.out.trans hk);have HX2:=Lib.hid (hk.blk HX1.out hbb.out (by decide));have d2:=HX2.out.cell;clear hp hk))
  all_goals
   go_wp2
   first | go_end0 | refine bodyPost_ret (results_none rfl _ _ _) rfl ?_
   refine ⟨rfl,HP3.out.cast ?_,HK3.out⟩
   simp
 ·have ha':=ha
  unfold IsXs at ha'
  obtain ⟨⟨a,c0,c1,c2,c3,c4,c5,c6,c7,c8,c9,c10,rfl,_⟩,ha1⟩:=ha'
  have hsh:IsXs w0 (some (a.add (1 * 11))) 0 (z::r):=IsXs.shift (by simpa using ha1)
  have hc1:¬ c=1:=by simp only [List.length_cons] at hol;omega
  have HE:=Lib.hid (fun (c':Nat) (l':List UInt8) (W:World) (hp:SP w0 b m l' W)=>exprs_any w0 b m (z::r) (fun x hx=>hA x (List.mem_cons_of_mem _ hx)) (some (a.add (1 * 11))) c' (by have:maxLen=9223372036854775807:=rfl;simp only [List.length_cons] at hol ⊢;omega) hsh ⟨#[40]⟩ ⟨#[41]⟩ l' W hp)
  clear hsh ha1
  clear hl HV hA ht hol hoc ha n1 n2
  simp only [List.drop_succ_cons,List.drop_zero] at HL2 ⊢
  generalize argB (plsG (y::z::r)) 0 6=a0 at *
  have hmin:min (1:Int) ((r.length:Int) + 1 + 1)=1:=by omega
  go_enter Tryz.func49,Tryz.ntmps49
  go_wp2_with (first
   |(refine boxLoad 31 11 size11 Tryz.underlying31 rfl _ rfl w.heap.size rfl (cs:=[_,_,_,_,_,_,_,_,_,_,_]) HX2.out rfl ?_)
   |(refine boxLoad 31 11 size11 Tryz.underlying31 rfl _ rfl w.heap.size rfl (cs:=[_,_,_,_,_,_,_,_,_,_,_]) HX1.out rfl ?_)
   |(go_at_call 76;refine (HE.out _ _ _ HP2.out HL2.out).mono ?_;rintro e w3 ⟨rfl,hp,hk⟩;have HP3:=Lib.hid hp;have HK3:=Lib.hid (HK2.out.trans hk);clear hp hk)
   |(go_at_call 75;refine (HG0.out _ _ HP1.out HL1.out).mono ?_;rintro e w2 ⟨rfl,hp,hk⟩;have HP2:=Lib.hid hp;have HK2:=Lib.hid (HK1.out.trans hk);have HX2:=Lib.hid (hk.blk HX1.out hbb.out (by decide));have d2:=HX2.out.cell;clear hp hk))
  all_goals
   go_wp2
   first | go_end0 | refine bodyPost_ret (results_none rfl _ _ _) rfl ?_
   refine ⟨rfl,HP3.out.cast ?_,HK3.out⟩
   simp
theorem bare_7 (w0:World) (b m:Nat) (p s:Int) (nm:ByteArray) (n:Int) (t:GT) (args:List GX) (hA:∀ y ∈ args,BareIs w0 b m y):BareIs w0 b m (.mk 7 p s nm n t args):=by
 intro v l w hv hp hl
 have HV:=Lib.hid hv
 unfold IsX at hv
 obtain ⟨y0,y1,y2,y3,y4,o,c,rfl,n1,n2,ht,hol,hoc,ha⟩:=hv
 have HX1:=Lib.hid (Blk.new w 31 #[.int .i64 7,.int .i64 p,.int .i64 s,.string nm,.int .i64 n,y0,y1,y2,y3,y4,.slice o args.length c])
 have HP1:=Lib.hid (hp.alloc (.cells #[.int .i64 7,.int .i64 p,.int .i64 s,.string nm,.int .i64 n,y0,y1,y2,y3,y4,.slice o args.length c] 31))
 have HK1:=Lib.hid ((Kq.refl w0.heap.size b w).alloc hp.base (.cells #[.int .i64 7,.int .i64 p,.int .i64 s,.string nm,.int .i64 n,y0,y1,y2,y3,y4,.slice o args.length c] 31))
 have hbb:Hid (w.heap.size≠b):=by have:=hp.lt;show _≠_;omega
 clear hp
 rw [plnG_7] at hl ⊢
 have HL1:Hid ((l).length + ((argB (plsG args) 0 6).data.toList).length≤140737488355328):=by (try simp only [List.length_append] at hl);(try simp only [List.length_append]);show _≤_;omega
 have HL2:Hid ((l++((argB (plsG args) 0 6).data.toList)).length + ([91]).length≤140737488355328):=by (try simp only [List.length_append] at hl);(try simp only [List.length_append]);show _≤_;omega
 have HL3:Hid ((l++((argB (plsG args) 0 6).data.toList)++([91])).length + ((argB (plsG args) 1 1).data.toList).length≤140737488355328):=by (try simp only [List.length_append] at hl);(try simp only [List.length_append]);show _≤_;omega
 have HL4:Hid ((l++((argB (plsG args) 0 6).data.toList)++([91])++((argB (plsG args) 1 1).data.toList)).length + ([93]).length≤140737488355328):=by (try simp only [List.length_append] at hl);(try simp only [List.length_append]);show _≤_;omega
 have HG0:=Lib.hid (fun (l':List UInt8) (W:World) (hp:SP w0 b m l' W)=>arg_of w0 b m 7 p s nm n t args hA 0 _ (6) l' W HV.out hp)
 have HG1:=Lib.hid (fun (l':List UInt8) (W:World) (hp:SP w0 b m l' W)=>arg_of w0 b m 7 p s nm n t args hA 1 _ (1) l' W HV.out hp)
 clear hl HV hA ht hol hoc ha n1 n2
 generalize argB (plsG args) 0 6=a0 at *
 generalize argB (plsG args) 1 1=a1 at *
 go_enter Tryz.func49,Tryz.ntmps49
 go_wp2_with (first
  |(refine boxLoad 31 11 size11 Tryz.underlying31 rfl _ rfl w.heap.size rfl (cs:=[_,_,_,_,_,_,_,_,_,_,_]) HX4.out rfl ?_)
  |(refine boxLoad 31 11 size11 Tryz.underlying31 rfl _ rfl w.heap.size rfl (cs:=[_,_,_,_,_,_,_,_,_,_,_]) HX3.out rfl ?_)
  |(refine boxLoad 31 11 size11 Tryz.underlying31 rfl _ rfl w.heap.size rfl (cs:=[_,_,_,_,_,_,_,_,_,_,_]) HX2.out rfl ?_)
  |(refine boxLoad 31 11 size11 Tryz.underlying31 rfl _ rfl w.heap.size rfl (cs:=[_,_,_,_,_,_,_,_,_,_,_]) HX1.out rfl ?_)
  |(go_at_call 47;refine (put1 w0 b m _ _ HP4.out _ _ (by simp) HL4.out).mono ?_;rintro e w5 ⟨rfl,hp,hk⟩;have HP5:=Lib.hid hp;have HK5:=Lib.hid (HK4.out.trans hk);clear hp hk)
  |(go_at_call 75;refine (HG1.out _ _ HP3.out HL3.out).mono ?_;rintro e w4 ⟨rfl,hp,hk⟩;have HP4:=Lib.hid hp;have HK4:=Lib.hid (HK3.out.trans hk);have HX4:=Lib.hid (hk.blk HX3.out hbb.out (by decide));have d4:=HX4.out.cell;clear hp hk)
  |(go_at_call 47;refine (put1 w0 b m _ _ HP2.out _ _ (by simp) HL2.out).mono ?_;rintro e w3 ⟨rfl,hp,hk⟩;have HP3:=Lib.hid hp;have HK3:=Lib.hid (HK2.out.trans hk);have HX3:=Lib.hid (hk.blk HX2.out hbb.out (by decide));have d3:=HX3.out.cell;clear hp hk)
  |(go_at_call 75;refine (HG0.out _ _ HP1.out HL1.out).mono ?_;rintro e w2 ⟨rfl,hp,hk⟩;have HP2:=Lib.hid hp;have HK2:=Lib.hid (HK1.out.trans hk);have HX2:=Lib.hid (hk.blk HX1.out hbb.out (by decide));have d2:=HX2.out.cell;clear hp hk))
 go_wp2
 first | go_end0 | refine bodyPost_ret (results_none rfl _ _ _) rfl ?_
 refine ⟨rfl,HP5.out.cast ?_,HK5.out⟩
 simp
theorem bare_9 (w0:World) (b m:Nat) (p s:Int) (nm:ByteArray) (n:Int) (t:GT) (args:List GX) (hA:∀ y ∈ args,BareIs w0 b m y):BareIs w0 b m (.mk 9 p s nm n t args):=by
 intro v l w hv hp hl
 have HV:=Lib.hid hv
 unfold IsX at hv
 obtain ⟨y0,y1,y2,y3,y4,o,c,rfl,n1,n2,ht,hol,hoc,ha⟩:=hv
 have HX1:=Lib.hid (Blk.new w 31 #[.int .i64 9,.int .i64 p,.int .i64 s,.string nm,.int .i64 n,y0,y1,y2,y3,y4,.slice o args.length c])
 have HP1:=Lib.hid (hp.alloc (.cells #[.int .i64 9,.int .i64 p,.int .i64 s,.string nm,.int .i64 n,y0,y1,y2,y3,y4,.slice o args.length c] 31))
 have HK1:=Lib.hid ((Kq.refl w0.heap.size b w).alloc hp.base (.cells #[.int .i64 9,.int .i64 p,.int .i64 s,.string nm,.int .i64 n,y0,y1,y2,y3,y4,.slice o args.length c] 31))
 have hbb:Hid (w.heap.size≠b):=by have:=hp.lt;show _≠_;omega
 clear hp
 rw [plnG_9] at hl ⊢
 have HL1:Hid ((l).length + ((argB (plsG args) 0 (levK 9 nm)).data.toList).length≤140737488355328):=by (try simp only [List.length_append] at hl);(try simp only [List.length_append]);show _≤_;omega
 have HL2:Hid ((l++((argB (plsG args) 0 (levK 9 nm)).data.toList)).length + ([32]++(nm.data.toList++[32])).length≤140737488355328):=by (try simp only [List.length_append] at hl);(try simp only [List.length_append]);show _≤_;omega
 have HL3:Hid ((l++((argB (plsG args) 0 (levK 9 nm)).data.toList)++([32]++(nm.data.toList++[32]))).length + ((argB (plsG args) 1 (levK 9 nm + 1)).data.toList).length≤140737488355328):=by (try simp only [List.length_append] at hl);(try simp only [List.length_append]);show _≤_;omega
 have HG0:=Lib.hid (fun (l':List UInt8) (W:World) (hp:SP w0 b m l' W)=>arg_of w0 b m 9 p s nm n t args hA 0 _ (levK 9 nm) l' W HV.out hp)
 have HG1:=Lib.hid (fun (l':List UInt8) (W:World) (hp:SP w0 b m l' W)=>arg_of w0 b m 9 p s nm n t args hA 1 _ (levK 9 nm + 1) l' W HV.out hp)
 have hnm:nm.size≤9223372036854775807:=by simp only [List.length_append] at hl;rw [← bsize];omega
 have HW:=Lib.hid (fun (l':List UInt8) (W:World) (hp:SP w0 b m l' W)=>level_any' w0 b m l' (.mk 9 p s nm n t args) _ W HV.out hp (fun k p' s' nm' n' t' a' e _=>by injection e with _ _ _ e;rw [← e];exact hnm))
 have hlv:=levK_small nm
 have hlv1:=hlv.1
 have hlv2:=hlv.2
 clear hlv hnm
 clear hl HV hA ht hol hoc ha n1 n2
 simp only [levG] at HW
 generalize levK 9 nm=lev at *
 generalize argB (plsG args) 0 lev=a0 at *
 generalize argB (plsG args) 1 (lev + 1)=a1 at *
 go_enter Tryz.func49,Tryz.ntmps49
 go_wp2_with (first
  |(refine boxLoad 31 11 size11 Tryz.underlying31 rfl _ rfl w.heap.size rfl (cs:=[_,_,_,_,_,_,_,_,_,_,_]) HX4.out rfl ?_)
  |(refine boxLoad 31 11 size11 Tryz.underlying31 rfl _ rfl w.heap.size rfl (cs:=[_,_,_,_,_,_,_,_,_,_,_]) HX3.out rfl ?_)
  |(refine boxLoad 31 11 size11 Tryz.underlying31 rfl _ rfl w.heap.size rfl (cs:=[_,_,_,_,_,_,_,_,_,_,_]) HX2.out rfl ?_)
  |(refine boxLoad 31 11 size11 Tryz.underlying31 rfl _ rfl w.heap.size rfl (cs:=[_,_,_,_,_,_,_,_,_,_,_]) HX1.out rfl ?_)
  |(go_at_call 75;refine (HG1.out _ _ HP4.out HL3.out).mono ?_;rintro e w5 ⟨rfl,hp,hk⟩;have HP5:=Lib.hid hp;have HK5:=Lib.hid (HK4.out.trans hk);have HX5:=Lib.hid (hk.blk HX4.out hbb.out (by decide));have d5:=HX5.out.cell;clear hp hk)
  |(go_at_call 47;refine (put3 w0 b m _ _ HP3.out _ _ _ _ (by simp) HL2.out).mono ?_;rintro e w4 ⟨rfl,hp,hk⟩;have HP4:=Lib.hid hp;have HK4:=Lib.hid (HK3.out.trans hk);have HX4:=Lib.hid (hk.blk HX3.out hbb.out (by decide));have d4:=HX4.out.cell;clear hp hk)
  |(go_at_call 75;refine (HG0.out _ _ HP2.out HL1.out).mono ?_;rintro e w3 ⟨rfl,hp,hk⟩;have HP3:=Lib.hid hp;have HK3:=Lib.hid (HK2.out.trans hk);have HX3:=Lib.hid (hk.blk HX2.out hbb.out (by decide));have d3:=HX3.out.cell;clear hp hk)
  |(go_at_call 48;refine (HW.out _ _ HP1.out).mono ?_;rintro e w2 ⟨rfl,hp,hk⟩;have HP2:=Lib.hid hp;have HK2:=Lib.hid (HK1.out.trans hk);have HX2:=Lib.hid (hk.blk HX1.out hbb.out (by decide));have d2:=HX2.out.cell;clear hp hk))
 go_wp2
 first | go_end0 | refine bodyPost_ret (results_none rfl _ _ _) rfl ?_
 refine ⟨rfl,HP5.out.cast ?_,HK5.out⟩
 simp
theorem bare_8 (w0:World) (b m:Nat) (p s:Int) (nm:ByteArray) (n:Int) (t:GT) (args:List GX) (hA:∀ y ∈ args,BareIs w0 b m y):BareIs w0 b m (.mk 8 p s nm n t args):=by
 intro v l w hv hp hl
 have HV:=Lib.hid hv
 unfold IsX at hv
 obtain ⟨y0,y1,y2,y3,y4,o,c,rfl,n1,n2,ht,hol,hoc,ha⟩:=hv
 have HX1:=Lib.hid (Blk.new w 31 #[.int .i64 8,.int .i64 p,.int .i64 s,.string nm,.int .i64 n,y0,y1,y2,y3,y4,.slice o args.length c])
 have HP1:=Lib.hid (hp.alloc (.cells #[.int .i64 8,.int .i64 p,.int .i64 s,.string nm,.int .i64 n,y0,y1,y2,y3,y4,.slice o args.length c] 31))
 have HK1:=Lib.hid ((Kq.refl w0.heap.size b w).alloc hp.base (.cells #[.int .i64 8,.int .i64 p,.int .i64 s,.string nm,.int .i64 n,y0,y1,y2,y3,y4,.slice o args.length c] 31))
 have hbb:Hid (w.heap.size≠b):=by have:=hp.lt;show _≠_;omega
 clear hp
 rw [plnG_8] at hl ⊢
 rw [joinB_pls] at hl ⊢
 have HL1:Hid ((l).length + ([110,101,119,32]).length≤140737488355328):=by (try simp only [List.length_append] at hl);(try simp only [List.length_append]);show _≤_;omega
 have HL2:Hid ((l++([110,101,119,32])).length + ((typG t).data.toList).length≤140737488355328):=by (try simp only [List.length_append] at hl);(try simp only [List.length_append]);show _≤_;omega
 have HL3:Hid ((l++([110,101,119,32])++((typG t).data.toList)).length + ([123]++joinL' (args.map fun x=>(bx 1 (levG x,plnG x)).data.toList)++[125]).length≤140737488355328):=by (try simp only [List.length_append] at hl);(try simp only [List.length_append]);show _≤_;omega
 have HT:=Lib.hid (fun (l':List UInt8) (W:World) (hp:SP w0 b m l' W)=>typed_any w0 b m _ t _ l' W (Nat.lt_succ_self _) ht hp)
 have HE:=Lib.hid (fun (l':List UInt8) (W:World) (hp:SP w0 b m l' W)=>exprs_any w0 b m args hA o c (by have:maxLen=9223372036854775807:=rfl;omega) ha ⟨#[123]⟩ ⟨#[125]⟩ l' W hp)
 have hO:=Lib.hid ht.ones
 clear hl HV hA ht hol hoc ha n1 n2
 generalize joinL' (args.map fun x=>(bx 1 (levG x,plnG x)).data.toList)=ts at *
 generalize args.length=q at *
 go_enter Tryz.func49,Tryz.ntmps49
 go_wp2_with (first
  |(go_at_call 76;refine (HE.out _ _ HP3.out HL3.out).mono ?_;rintro e w4 ⟨rfl,hp,hk⟩;have HP4:=Lib.hid hp;have HK4:=Lib.hid (HK3.out.trans hk);clear hp hk)
  |(go_at_call 27;refine (HT.out _ _ HP2.out HL2.out).mono ?_;rintro e w3 ⟨rfl,hp,hk⟩;have HP3:=Lib.hid hp;have HK3:=Lib.hid (HK2.out.trans hk);have HX3:=Lib.hid (hk.blk HX2.out hbb.out (by decide));have d3:=HX3.out.cell;clear hp hk)
  |(go_at_call 47;refine (put1 w0 b m _ _ HP1.out _ _ (by simp) HL1.out).mono ?_;rintro e w2 ⟨rfl,hp,hk⟩;have HP2:=Lib.hid hp;have HK2:=Lib.hid (HK1.out.trans hk);have HX2:=Lib.hid (hk.blk HX1.out hbb.out (by decide));have d2:=HX2.out.cell;clear hp hk))
 go_wp2
 first | go_end0 | refine bodyPost_ret (results_none rfl _ _ _) rfl ?_
 refine ⟨rfl,HP4.out.cast ?_,HK4.out⟩
 simp
theorem bare_1 (w0:World) (b m:Nat) (p s:Int) (nm:ByteArray) (n:Int) (t:GT) (args:List GX) (hT:TabW w0):BareIs w0 b m (.mk 1 p s nm n t args):=by
 intro v l w hv hp hl
 have HV:=Lib.hid hv
 unfold IsX at hv
 obtain ⟨y0,y1,y2,y3,y4,o,c,rfl,n1,n2,ht,hol,hoc,ha⟩:=hv
 have HX1:=Lib.hid (Blk.new w 31 #[.int .i64 1,.int .i64 p,.int .i64 s,.string nm,.int .i64 n,y0,y1,y2,y3,y4,.slice o args.length c])
 have HP1:=Lib.hid (hp.alloc (.cells #[.int .i64 1,.int .i64 p,.int .i64 s,.string nm,.int .i64 n,y0,y1,y2,y3,y4,.slice o args.length c] 31))
 have HK1:=Lib.hid ((Kq.refl w0.heap.size b w).alloc hp.base (.cells #[.int .i64 1,.int .i64 p,.int .i64 s,.string nm,.int .i64 n,y0,y1,y2,y3,y4,.slice o args.length c] 31))
 have hbb:Hid (w.heap.size≠b):=by have:=hp.lt;show _≠_;omega
 clear hp
 rw [plnG_1] at hl ⊢
 have HL1:=Lib.hid hl
 have HI:=Lib.hid (Tryz.strconv_Itoa n n1 n2 _ (hT.below HP1.out.below))
 clear hT
 clear hl HV ht hol hoc ha n1 n2
 go_enter Tryz.func49,Tryz.ntmps49
 go_wp2_with fail
 refine HI.out.mono ?_
 rintro e w2 ⟨rfl,d,os,rfl⟩
 have hg:=fun (W:World)=>Lib.below_grow W.heap.size W (Nat.le_refl _) d os
 have HP2:=Lib.hid (HP1.out.step (hg _))
 have HK2:=Lib.hid (HK1.out.trans (Kq.of_below HP1.out.base (hg _)))
 clear hg
 generalize Sort.grow _ _=w2 at *
 go_wp2_with (first
  |(go_at_call 47;refine (put1 w0 b m _ _ HP2.out _ _ (by simp) HL1.out).mono ?_;rintro e w3 ⟨rfl,hp,hk⟩;have HP3:=Lib.hid hp;have HK3:=Lib.hid (HK2.out.trans hk);clear hp hk))
 go_wp2
 first | go_end0 | refine bodyPost_ret (results_none rfl _ _ _) rfl ?_
 refine ⟨rfl,HP3.out.cast ?_,HK3.out⟩
 simp
theorem bare_3 (w0:World) (b m:Nat) (p s:Int) (nm:ByteArray) (n:Int) (t:GT) (args:List GX):BareIs w0 b m (.mk 3 p s nm n t args):=by
 intro v l w hv hp hl
 have HV:=Lib.hid hv
 unfold IsX at hv
 obtain ⟨y0,y1,y2,y3,y4,o,c,rfl,n1,n2,ht,hol,hoc,ha⟩:=hv
 have HX1:=Lib.hid (Blk.new w 31 #[.int .i64 3,.int .i64 p,.int .i64 s,.string nm,.int .i64 n,y0,y1,y2,y3,y4,.slice o args.length c])
 have HP1:=Lib.hid (hp.alloc (.cells #[.int .i64 3,.int .i64 p,.int .i64 s,.string nm,.int .i64 n,y0,y1,y2,y3,y4,.slice o args.length c] 31))
 have HK1:=Lib.hid ((Kq.refl w0.heap.size b w).alloc hp.base (.cells #[.int .i64 3,.int .i64 p,.int .i64 s,.string nm,.int .i64 n,y0,y1,y2,y3,y4,.slice o args.length c] 31))
 have hbb:Hid (w.heap.size≠b):=by have:=hp.lt;show _≠_;omega
 clear hp
 rw [plnG_3] at hl ⊢
 have HL1:=Lib.hid hl
 have HI:=Lib.hid (fun (W:World)=>Tryz.strconv_FormatBool (n == 1) W)
 clear hl HV ht hol hoc ha n1 n2
 go_enter Tryz.func49,Tryz.ntmps49
 go_wp2_with (first
  |(go_at_call 47;refine (put1 w0 b m _ _ HP2.out _ _ (by simp) HL1.out).mono ?_;rintro e w3 ⟨rfl,hp,hk⟩;have HP3:=Lib.hid hp;have HK3:=Lib.hid (HK2.out.trans hk);clear hp hk)
  |(go_at_call 74;refine (HI.out _).mono ?_;rintro e w2 ⟨rfl,rfl⟩;have HP2:=HP1;have HK2:=HK1))
 go_wp2
 first | go_end0 | refine bodyPost_ret (results_none rfl _ _ _) rfl ?_
 refine ⟨rfl,HP3.out.cast ?_,HK3.out⟩
 simp
theorem bare_no (w0:World) (b m:Nat) (k:Int) (hk:k < 1∨10 < k) (p s:Int) (nm:ByteArray) (n:Int) (t:GT) (args:List GX):BareIs w0 b m (.mk k p s nm n t args):=by
 intro v l w hv hp hl
 have HV:=Lib.hid hv
 unfold IsX at hv
 obtain ⟨y0,y1,y2,y3,y4,o,c,rfl,n1,n2,ht,hol,hoc,ha⟩:=hv
 have HX1:=Lib.hid (Blk.new w 31 #[.int .i64 k,.int .i64 p,.int .i64 s,.string nm,.int .i64 n,y0,y1,y2,y3,y4,.slice o args.length c])
 have HP1:=Lib.hid (hp.alloc (.cells #[.int .i64 k,.int .i64 p,.int .i64 s,.string nm,.int .i64 n,y0,y1,y2,y3,y4,.slice o args.length c] 31))
 have HK1:=Lib.hid ((Kq.refl w0.heap.size b w).alloc hp.base (.cells #[.int .i64 k,.int .i64 p,.int .i64 s,.string nm,.int .i64 n,y0,y1,y2,y3,y4,.slice o args.length c] 31))
 have hbb:Hid (w.heap.size≠b):=by have:=hp.lt;show _≠_;omega
 clear hp
 rw [plnG_no k p s nm n t args hk] at hl ⊢
 have HL1:=Lib.hid hl
 have h1:¬ k=1:=by omega
 have h2:¬ k=2:=by omega
 have h3:¬ k=3:=by omega
 have h4:¬ k=4:=by omega
 have h5:¬ k=5:=by omega
 have h6:¬ k=6:=by omega
 have h7:¬ k=7:=by omega
 have h8:¬ k=8:=by omega
 have h9:¬ k=9:=by omega
 have h10:¬ k=10:=by omega
 clear hl HV ht hol hoc ha n1 n2 hk
 go_enter Tryz.func49,Tryz.ntmps49
 go_wp2_with (first
  |(go_at_call 47;refine (put1 w0 b m _ _ HP1.out _ _ (by simp) HL1.out).mono ?_;rintro e w2 ⟨rfl,hp,hk⟩;have HP2:=Lib.hid hp;have HK2:=Lib.hid (HK1.out.trans hk);clear hp hk))
 go_wp2
 first | go_end0 | refine bodyPost_ret (results_none rfl _ _ _) rfl ?_
 refine ⟨rfl,HP2.out.cast ?_,HK2.out⟩
 simp
theorem mem_size {y:GX}:∀ {xs:List GX},y ∈ xs→SizeOf.sizeOf y < SizeOf.sizeOf xs
 |x::r,h=>by
  rcases List.mem_cons.1 h with rfl | h
  ·simp;omega
  ·have:=mem_size h
   simp;omega
theorem bare_any (w0:World) (b m:Nat) (hT:TabW w0):∀ (s:Nat) (x:GX),SizeOf.sizeOf x < s→BareIs w0 b m x:=by
 intro s
 induction s with
 |zero=>intro x h;omega
 |succ s ih =>
 rintro ⟨k,p,q,nm,n,t,args⟩ hs
 have hA:∀ y ∈ args,BareIs w0 b m y:=fun y hy=>ih y (by have:=mem_size hy;simp at hs;omega)
 by_cases hk:k < 1∨10 < k
 ·exact bare_no w0 b m k hk p q nm n t args
 have h:k=1∨k=2∨k=3∨k=4∨k=5∨k=6∨k=7∨k=8∨k=9∨k=10:=by omega
 rcases h with rfl | rfl | rfl | rfl | rfl | rfl | rfl | rfl | rfl | rfl
 ·exact bare_1 w0 b m p q nm n t args hT
 ·exact bare_2 w0 b m p q nm n t args
 ·exact bare_3 w0 b m p q nm n t args
 ·exact bare_4 w0 b m p q nm n t args
 ·exact bare_5 w0 b m p q nm n t args hA
 ·exact bare_6 w0 b m p q nm n t args hA
 ·exact bare_7 w0 b m p q nm n t args hA
 ·exact bare_8 w0 b m p q nm n t args hA
 ·exact bare_9 w0 b m p q nm n t args hA
 ·exact bare_10 w0 b m p q nm n t args hA
theorem expr_any (w0:World) (b m:Nat) (hT:TabW w0) (x:GX) (v:Value) (mm:Int) (l:List UInt8) (w:World) (hv:IsX w0 x v) (hp:SP w0 b m l w) :
  Does w0 b m 29 #[.pointer (some ⟨b,0,none⟩),v,.int .i64 mm] (bx mm (levG x,plnG x)).data.toList w l :=
 expr_of w0 b m x (bare_any w0 b m hT _ x (Nat.lt_succ_self _)) v mm l w hv hp
end Go.Proofs.YtfcgoainglpdlaaGreatDoor
namespace Go.Proofs.YtfcgoainglpdlaaGreatDoor
open Go.RowKit
open Go.Lib hiding intOf
theorem exprL_any (w0:World) (b m:Nat) (hT:TabW w0) (x:GX) (v:Value) (l:List UInt8) (w:World) (hv:IsX w0 x v) (hp:SP w0 b m l w) :
  Does w0 b m 29 #[.pointer (some ⟨b,0,none⟩),v,.int .i64 1] (exL x) w l:=expr_any w0 b m hT x v 1 l w hv hp
theorem size17:(Tryz.prog.info? 62).map (·.size)=some 17:=by kernel_rfl
theorem IsS.ones {w:World} {x:GS} {cs:List Value} (h:IsS w x (.agg cs.toArray)):cs.all (·.oneCell')=true:=by
 obtain ⟨k,p,nm,hb,x,u,v⟩:=x
 unfold IsS at h
 obtain ⟨e0,e1,e2,e3,e4,e5,e6,e7,e8,e9,e10,o,c,o',c',hv,_,hx,_⟩:=h
 have h1:=hx.ones
 have h2:cs=[.int .i64 k,.int .i64 p,.string nm,.bool hb,e0,e1,e2,e3,e4,e5,e6,e7,e8,e9,e10,.slice o u.length c,.slice o' v.length c']:=by
  simp only [Value.agg.injEq] at hv
  have:=congrArg Array.toList hv
  simpa using this
 rw [h2]
 simp only [List.all_cons,List.all_nil,Bool.and_true] at h1 ⊢
 rw [show (Value.int IntKind.i64 k).oneCell'=true from rfl,show (Value.int IntKind.i64 p).oneCell'=true from rfl,show (Value.string nm).oneCell'=true from rfl,show (Value.bool hb).oneCell'=true from rfl,show (Value.slice o u.length c).oneCell'=true from rfl,show (Value.slice o' v.length c').oneCell'=true from rfl]
 simpa using h1
def StmtIs (w0:World) (b m:Nat) (s:GS):Prop:=∀ (t:Nat),t≤100→∀ (v:Value) (l:List UInt8) (w:World),IsS w0 s v→SP w0 b m l w→Does w0 b m 53 #[.pointer (some ⟨b,0,none⟩),v,.int .i64 (t:Nat)] (stmL t s) w l
theorem tabs_any (w0:World) (b m:Nat) (n:Nat) (hn:n≤1000) (l:List UInt8) (w:World) (hp:SP w0 b m l w) :
  Does w0 b m 52 #[.pointer (some ⟨b,0,none⟩),.int .i64 (n:Nat)] (tabsL n) w l:=by
 intro hl
 have HP1:=Lib.hid hp
 have HW:=Lib.hid (Kq.refl w0.heap.size b w)
 have HL:=Lib.hid hl
 clear hp hl
 go_enter Tryz.func52,Tryz.ntmps52
 go_wp2
 go_loopw [5] (fun i wr=>∃ j:Nat,i=.int .i64 (j:Nat)∧j≤n∧Hid (SP w0 b m (l++tabsL j) wr)∧Hid (Kq w0.heap.size b w wr)) (fun i _=>n - (RowKit.intOf i).toNat)
 case atStart=>exact ⟨0,rfl,Nat.zero_le _,by simpa [tabsL,Hid] using HP1.out,HW⟩
 case round =>
  obtain ⟨j,rfl,hj,HPr,HKr⟩:=hrel
  by_cases hlt:j < n
  ·have hlt':decide ((j:Int) < (n:Int))=true:=by simp;omega
   have hj2:(j:Int) + 1≤9223372036854775807:=by omega
   have hj3:-9223372036854775808≤(j:Int) + 1:=by omega
   have HL1:Hid ((l++tabsL j).length + ([9]:List UInt8).length≤140737488355328):=by have h0:=HL.out;simp only [tabsL,List.length_append,List.length_replicate,List.length_cons,List.length_nil] at h0 ⊢;show _≤_;omega
   go_wp2_with (go_at_call 47;refine (put1 w0 b m _ _ HPr.out _ _ rfl HL1.out).mono ?_;rintro e w2 ⟨rfl,hp,hk⟩;have HP2:=Lib.hid hp;have HK2:=Lib.hid (HKr.out.trans hk);clear hp hk)
   case roundEnd =>
    refine ⟨⟨j + 1,by push_cast;rfl,by omega,HP2.out.cast ?_,HK2⟩,by simp [RowKit.intOf];omega⟩
    show l++List.replicate j 9++[9]=l++List.replicate (j + 1) 9
    rw [List.append_assoc,← List.replicate_succ']
  ·have hlt':decide ((j:Int) < (n:Int))=false:=by simp;omega
   obtain rfl:j=n:=by omega
   go_wp2
   first | go_end0 | refine bodyPost_ret (results_none rfl _ _ _) rfl ?_
   exact ⟨rfl,HPr.out,HKr.out⟩
theorem block_of (w0:World) (b m:Nat) (ss:List GS) (hA:∀ y ∈ ss,StmtIs w0 b m y) (n:Nat) (o:Option Addr) (c:Nat) (hn:ss.length≤9223372036854775807) (hx:IsSs w0 o 0 ss) (hnn:n≤9223372036854775807) (l:List UInt8) (w:World) (hp:SP w0 b m l w) :
  Does w0 b m 32 #[.pointer (some ⟨b,0,none⟩),.slice o ss.length c,.int .i64 (n:Nat)] (blkL (min n 100) ss) w l:=by
 intro hl
 have HP1:=Lib.hid hp
 have HW:=Lib.hid (Kq.refl w0.heap.size b w)
 obtain ⟨t,ht,hmin,htl⟩:∃ t:Nat,t=min n 100∧min (n:Int) 100=(t:Nat)∧t≤100:=⟨_,rfl,by omega,by omega⟩
 rw [← ht] at hl ⊢
 have HL:=Lib.hid hl
 have HG:=Lib.hid hx
 have HA:=Lib.hid hA
 have HTL:=Lib.hid htl
 clear hp hl hx hA ht htl
 go_enter Tryz.func32,Tryz.ntmps32
 go_wp2
 clear hmin hnn
 go_loopw [12] (fun i wr=>∃ j:Nat,i=.int .i64 (j:Nat)∧j≤ss.length∧Hid (SP w0 b m (l++blkL t (ss.take j)) wr)∧Hid (Kq w0.heap.size b w wr)) (fun i _=>ss.length - (RowKit.intOf i).toNat)
 case atStart=>exact ⟨0,rfl,Nat.zero_le _,by simpa [blkL,Hid] using HP1.out,HW⟩
 case round =>
  obtain ⟨j,rfl,hj,HPr,HKr⟩:=hrel
  by_cases hlt:j < ss.length
  ·have hlt':decide ((j:Int) < (ss.length:Int))=true:=by simp;omega
   have hj2:(j:Int) + 1≤9223372036854775807:=by omega
   have hj3:-9223372036854775808≤(j:Int) + 1:=by omega
   have hg:ss[j]?=some ss[j]:=List.getElem?_eq_getElem hlt
   obtain ⟨a,cs,rfl,hcl,hR,hy⟩:=HG.out.at_ j hg
   rw [Nat.zero_add] at hR
   have HN:=Lib.hid (blkL_next (t:=t) hg)
   have HM:=Lib.hid (List.getElem_mem hlt)
   have hln:=blkL_take_le t ss (j + 1)
   rw [HN.out] at hln
   generalize ss[j]=y at *
   have HL1:Hid ((l++blkL t (ss.take j)).length + (tabsL t).length≤140737488355328):=by have h0:=HL.out;simp only [List.length_append] at hln ⊢;show _≤_;omega
   have HL2:Hid ((l++blkL t (ss.take j)++tabsL t).length + (stmL t y).length≤140737488355328):=by have h0:=HL.out;simp only [List.length_append] at hln ⊢;show _≤_;omega
   have HL3:Hid ((l++blkL t (ss.take j)++tabsL t++stmL t y).length + ([10]:List UInt8).length≤140737488355328):=by have h0:=HL.out;simp only [List.length_append] at hln ⊢;show _≤_;omega
   have HR:=Lib.hid hR
   have HO:=Lib.hid hy.ones
   have HC:=Lib.hid hcl
   have HTB:=Lib.hid (fun (l':List UInt8) (W:World) (hp:SP w0 b m l' W)=>tabs_any w0 b m t (by have:=HTL.out;omega) l' W hp)
   have HST:=Lib.hid (fun (l':List UInt8) (W:World) (hp:SP w0 b m l' W)=>HA.out y HM.out t HTL.out _ l' W hy hp)
   have HX1:=Lib.hid (Blk.new wr 62 cs.toArray)
   have HP3:=Lib.hid (HPr.out.alloc (.cells cs.toArray 62))
   have HK3:=Lib.hid (HKr.out.alloc HPr.out.base (.cells cs.toArray 62))
   have hbb:Hid (wr.heap.size≠b):=by have:=HPr.out.lt;show _≠_;omega
   clear hln hg hR hy hcl HM
   go_wp2_with (first
    |(go_at_call 47;refine (put1 w0 b m _ _ HP5.out _ _ rfl HL3.out).mono ?_;rintro e w6 ⟨rfl,hp,hk⟩;have HP6:=Lib.hid hp;have HK6:=Lib.hid (HK5.out.trans hk);clear hp hk)
    |(go_at_call 53;refine (HST.out _ _ HP4.out HL2.out).mono ?_;rintro e w5 ⟨rfl,hp,hk⟩;have HP5:=Lib.hid hp;have HK5:=Lib.hid (HK4.out.trans hk);clear hp hk)
    |(refine boxLoad 62 17 size17 Tryz.underlying62 rfl _ rfl wr.heap.size rfl (cs:=cs) HX4.out HC.out ?_)
    |(go_at_call 52;refine (HTB.out _ _ HP3.out HL1.out).mono ?_;rintro e w4 ⟨rfl,hp,hk⟩;have HP4:=Lib.hid hp;have HK4:=Lib.hid (HK3.out.trans hk);have HX4:=Lib.hid (hk.blk HX1.out hbb.out (by decide));clear hp hk)
    |(refine boxNew 62 17 size17 rfl _ _ rfl rfl cs rfl rfl HC.out HO.out ?_)
    |(refine boxLoadG 62 17 size17 Tryz.underlying62 rfl _ rfl _ rfl (cs:=cs) (fun j v h=>((HPr.out.below).cell (World.block_lt_of_cell? _ _ (HR.out j v h))).trans (HR.out j v h)) HC.out ?_))
   case roundEnd =>
    refine ⟨⟨j + 1,by push_cast;rfl,by omega,HP6.out.cast ?_,HK6⟩,by simp [RowKit.intOf];omega⟩
    rw [HN.out];simp only [List.append_assoc]
  ·have hlt':decide ((j:Int) < (ss.length:Int))=false:=by simp;omega
   have hj':Hid (ss.take j=ss):=List.take_of_length_le (by omega)
   go_wp2
   first | go_end0 | refine bodyPost_ret (results_none rfl _ _ _) rfl ?_
   refine ⟨rfl,HPr.out.cast ?_,HKr.out⟩
   rw [hj'.out]
theorem inner_of (w0:World) (b m:Nat) (ss:List GS) (hA:∀ y ∈ ss,StmtIs w0 b m y) (t:Nat) (ht:t≤100) (o:Option Addr) (c:Nat) (hn:ss.length≤9223372036854775807) (hx:IsSs w0 o 0 ss) (l:List UInt8) (w:World) (hp:SP w0 b m l w) :
  Does w0 b m 80 #[.pointer (some ⟨b,0,none⟩),.slice o ss.length c,.int .i64 (t:Nat)] ([32,123,10]++blkL (min (t + 1) 100) ss++tabsL t++[125]) w l:=by
 intro hl
 have HP1:=Lib.hid hp
 have HK1:=Lib.hid (Kq.refl w0.heap.size b w)
 simp only [List.length_append] at hl
 have HL1:Hid (l.length + ([32,123,10]:List UInt8).length≤140737488355328):=by show _≤_;omega
 have HL2:Hid ((l++[32,123,10]).length + (blkL (min (t + 1) 100) ss).length≤140737488355328):=by simp only [List.length_append];show _≤_;omega
 have HL3:Hid ((l++[32,123,10]++blkL (min (t + 1) 100) ss).length + (tabsL t).length≤140737488355328):=by simp only [List.length_append];show _≤_;omega
 have HL4:Hid ((l++[32,123,10]++blkL (min (t + 1) 100) ss++tabsL t).length + ([125]:List UInt8).length≤140737488355328):=by simp only [List.length_append];show _≤_;omega
 have HB:=Lib.hid (fun (l':List UInt8) (W:World) (hp:SP w0 b m l' W)=>block_of w0 b m ss hA (t + 1) o c hn hx (by omega) l' W hp)
 have HTB:=Lib.hid (fun (l':List UInt8) (W:World) (hp:SP w0 b m l' W)=>tabs_any w0 b m t (by omega) l' W hp)
 have ht2:(t:Int) + 1≤9223372036854775807:=by omega
 have ht3:-9223372036854775808≤(t:Int) + 1:=by omega
 clear hp hl hx hA hn
 go_enter Tryz.func80,Tryz.ntmps80
 go_wp2_with (first
  |(go_at_call 47;refine (put1 w0 b m _ _ HP4.out _ _ (by simp) HL4.out).mono ?_;rintro e w5 ⟨rfl,hp,hk⟩;have HP5:=Lib.hid hp;have HK5:=Lib.hid (HK4.out.trans hk);clear hp hk)
  |(go_at_call 52;refine (HTB.out _ _ HP3.out HL3.out).mono ?_;rintro e w4 ⟨rfl,hp,hk⟩;have HP4:=Lib.hid hp;have HK4:=Lib.hid (HK3.out.trans hk);clear hp hk)
  |(go_at_call 32;refine (HB.out _ _ HP2.out HL2.out).mono ?_;rintro e w3 ⟨rfl,hp,hk⟩;have HP3:=Lib.hid hp;have HK3:=Lib.hid (HK2.out.trans hk);clear hp hk)
  |(go_at_call 47;refine (put1 w0 b m _ _ HP1.out _ _ (by simp) HL1.out).mono ?_;rintro e w2 ⟨rfl,hp,hk⟩;have HP2:=Lib.hid hp;have HK2:=Lib.hid (HK1.out.trans hk);clear hp hk))
 go_wp2
 first | go_end0 | refine bodyPost_ret (results_none rfl _ _ _) rfl ?_
 refine ⟨rfl,HP5.out.cast ?_,HK5.out⟩
 simp
theorem ended_any (w0:World) (b m:Nat) (hT:TabW w0) (x:GX) (v:Value) (l:List UInt8) (w:World) (hv:IsX w0 x v) (hp:SP w0 b m l w) :
  Does w0 b m 79 #[.pointer (some ⟨b,0,none⟩),v] (exL x++[59]) w l:=by
 intro hl
 have HE:=Lib.hid (fun (l':List UInt8) (W:World) (hp:SP w0 b m l' W)=>exprL_any w0 b m hT x v l' W hv hp)
 obtain ⟨k,p,s,nm,n,y0,y1,y2,y3,y4,o,q,c,rfl⟩:=hv.form
 have HX1:=Lib.hid (Blk.new w 31 #[.int .i64 k,.int .i64 p,.int .i64 s,.string nm,.int .i64 n,y0,y1,y2,y3,y4,.slice o q c])
 have HP1:=Lib.hid (hp.alloc (.cells #[.int .i64 k,.int .i64 p,.int .i64 s,.string nm,.int .i64 n,y0,y1,y2,y3,y4,.slice o q c] 31))
 have HK1:=Lib.hid ((Kq.refl w0.heap.size b w).alloc hp.base (.cells #[.int .i64 k,.int .i64 p,.int .i64 s,.string nm,.int .i64 n,y0,y1,y2,y3,y4,.slice o q c] 31))
 have hbb:Hid (w.heap.size≠b):=by have:=hp.lt;show _≠_;omega
 simp only [List.length_append] at hl
 have HL1:Hid (l.length + (exL x).length≤140737488355328):=by show _≤_;omega
 have HL2:Hid ((l++exL x).length + ([59]:List UInt8).length≤140737488355328):=by simp only [List.length_append];show _≤_;omega
 clear hp hl hv hT
 go_enter Tryz.func79,Tryz.ntmps79
 go_wp2_with (first
  |(refine boxLoad 31 11 size11 Tryz.underlying31 rfl _ rfl w.heap.size rfl (cs:=[_,_,_,_,_,_,_,_,_,_,_]) HX1.out rfl ?_)
  |(go_at_call 47;refine (put1 w0 b m _ _ HP2.out _ _ (by simp) HL2.out).mono ?_;rintro e w3 ⟨rfl,hp,hk⟩;have HP3:=Lib.hid hp;have HK3:=Lib.hid (HK2.out.trans hk);clear hp hk)
  |(go_at_call 29;refine (HE.out _ _ HP1.out HL1.out).mono ?_;rintro e w2 ⟨rfl,hp,hk⟩;have HP2:=Lib.hid hp;have HK2:=Lib.hid (HK1.out.trans hk);clear hp hk))
 go_wp2
 first | go_end0 | refine bodyPost_ret (results_none rfl _ _ _) rfl ?_
 refine ⟨rfl,HP3.out.cast ?_,HK3.out⟩
 simp only [List.append_assoc]
end Go.Proofs.YtfcgoainglpdlaaGreatDoor
namespace Go.Proofs.YtfcgoainglpdlaaGreatDoor
open Go.RowKit
open Go.Lib hiding intOf
theorem partE {w:World} {g:Nat} {k p:Int} {nm:ByteArray} {h:Bool} {e0 e1 e2 e3 e4 e5 e6 e7 e8 e9 e10 s1 s2:Value} (hb:Blk w g 62 #[.int .i64 k,.int .i64 p,.string nm,.bool h,e0,e1,e2,e3,e4,e5,e6,e7,e8,e9,e10,s1,s2]):∀ (j:Nat) (v:Value),[e0,e1,e2,e3,e4,e5,e6,e7,e8,e9,e10][j]?=some v→w.cell? ((⟨g,4,none⟩:Addr).add j)=some v:=by
 intro j v hj
 have h0:=hb.cell (4 + j)
 match j,hj with
 |0,hj=>exact h0.trans hj
 |1,hj=>exact h0.trans hj
 |2,hj=>exact h0.trans hj
 |3,hj=>exact h0.trans hj
 |4,hj=>exact h0.trans hj
 |5,hj=>exact h0.trans hj
 |6,hj=>exact h0.trans hj
 |7,hj=>exact h0.trans hj
 |8,hj=>exact h0.trans hj
 |9,hj=>exact h0.trans hj
 |10,hj=>exact h0.trans hj
 |j + 11,hj=>simp at hj
theorem stmL_1 (t:Nat) (p:Int) (nm:ByteArray) (h:Bool) (x:GX) (u v:List GS):stmL t (.mk 1 p nm h x u v)=[108,101,116,32]++(nm.data.toList++[32,61,32])++(exL x++[59]):=by
 rw [stmL]
 simp only [if_true]
theorem stmL_2 (t:Nat) (p:Int) (nm:ByteArray) (h:Bool) (x:GX) (u v:List GS):stmL t (.mk 2 p nm h x u v)=(nm.data.toList++[32,61,32])++(exL x++[59]):=by
 rw [stmL]
 simp only [show ¬ (2:Int)=1 by decide,if_false,if_true]
theorem stmL_3a (t:Nat) (p:Int) (nm:ByteArray) (x:GX) (u v:List GS):stmL t (.mk 3 p nm false x u v)=[114,101,116,117,114,110,59]:=by
 rw [stmL]
 simp only [show ¬ (3:Int)=1 by decide,show ¬ (3:Int)=2 by decide,if_false,if_true,Bool.false_eq_true]
theorem stmL_3b (t:Nat) (p:Int) (nm:ByteArray) (x:GX) (u v:List GS):stmL t (.mk 3 p nm true x u v)=[114,101,116,117,114,110,32]++(exL x++[59]):=by
 rw [stmL]
 simp only [show ¬ (3:Int)=1 by decide,show ¬ (3:Int)=2 by decide,if_false,if_true]
theorem stmL_4a (t:Nat) (p:Int) (nm:ByteArray) (x:GX) (u v:List GS):stmL t (.mk 4 p nm false x u v)=[105,102,32]++exL x++([32,123,10]++blkL (min (t + 1) 100) u++tabsL t++[125]):=by
 rw [stmL]
 simp only [show ¬ (4:Int)=1 by decide,show ¬ (4:Int)=2 by decide,show ¬ (4:Int)=3 by decide,if_false,if_true,Bool.false_eq_true,List.append_nil]
theorem stmL_4b (t:Nat) (p:Int) (nm:ByteArray) (x:GX) (u v:List GS):stmL t (.mk 4 p nm true x u v)=[105,102,32]++exL x++([32,123,10]++blkL (min (t + 1) 100) u++tabsL t++[125])++([32,101,108,115,101]++([32,123,10]++blkL (min (t + 1) 100) v++tabsL t++[125])):=by
 rw [stmL]
 simp only [show ¬ (4:Int)=1 by decide,show ¬ (4:Int)=2 by decide,show ¬ (4:Int)=3 by decide,if_false,if_true]
theorem stmL_5 (t:Nat) (p:Int) (nm:ByteArray) (h:Bool) (x:GX) (u v:List GS):stmL t (.mk 5 p nm h x u v)=[102,111,114,32]++exL x++([32,123,10]++blkL (min (t + 1) 100) u++tabsL t++[125]):=by
 rw [stmL]
 simp only [show ¬ (5:Int)=1 by decide,show ¬ (5:Int)=2 by decide,show ¬ (5:Int)=3 by decide,show ¬ (5:Int)=4 by decide,if_false,if_true]
theorem stmL_6 (t:Nat) (p:Int) (nm:ByteArray) (h:Bool) (x:GX) (u v:List GS):stmL t (.mk 6 p nm h x u v)=exL x++[59]:=by
 rw [stmL]
 simp only [show ¬ (6:Int)=1 by decide,show ¬ (6:Int)=2 by decide,show ¬ (6:Int)=3 by decide,show ¬ (6:Int)=4 by decide,show ¬ (6:Int)=5 by decide,if_false,if_true]
theorem stmL_no (k:Int) (hk:k < 1∨6 < k) (t:Nat) (p:Int) (nm:ByteArray) (h:Bool) (x:GX) (u v:List GS):stmL t (.mk k p nm h x u v)=[63]:=by
 rw [stmL]
 simp only [show ¬ k=1 by omega,show ¬ k=2 by omega,show ¬ k=3 by omega,show ¬ k=4 by omega,show ¬ k=5 by omega,show ¬ k=6 by omega,if_false]
theorem stmt_1 (w0:World) (b m:Nat) (hT:TabW w0) (p:Int) (nm:ByteArray) (h:Bool) (x:GX) (u v:List GS):StmtIs w0 b m (.mk 1 p nm h x u v):=by
 intro t ht V l w hv hp hl
 unfold IsS at hv
 obtain ⟨e0,e1,e2,e3,e4,e5,e6,e7,e8,e9,e10,o,c,o',c',rfl,hln,hx,hu,hv2⟩:=hv
 have HX1:=Lib.hid (Blk.new w 62 #[.int .i64 1,.int .i64 p,.string nm,.bool h,e0,e1,e2,e3,e4,e5,e6,e7,e8,e9,e10,.slice o u.length c,.slice o' v.length c'])
 have HP1:=Lib.hid (hp.alloc (.cells #[.int .i64 1,.int .i64 p,.string nm,.bool h,e0,e1,e2,e3,e4,e5,e6,e7,e8,e9,e10,.slice o u.length c,.slice o' v.length c'] 62))
 have HK1:=Lib.hid ((Kq.refl w0.heap.size b w).alloc hp.base (.cells #[.int .i64 1,.int .i64 p,.string nm,.bool h,e0,e1,e2,e3,e4,e5,e6,e7,e8,e9,e10,.slice o u.length c,.slice o' v.length c'] 62))
 have hbb:Hid (w.heap.size≠b):=by have:=hp.lt;show _≠_;omega
 clear hp
 rw [stmL_1] at hl ⊢
 have HL1:Hid ((l).length + ([108,101,116,32]++(nm.data.toList++[32,61,32])).length≤140737488355328):=by (try simp only [List.length_append] at hl);(try simp only [List.length_append]);show _≤_;omega
 have HL2:Hid ((l++([108,101,116,32]++(nm.data.toList++[32,61,32]))).length + (exL x++[59]).length≤140737488355328):=by (try simp only [List.length_append] at hl);(try simp only [List.length_append]);show _≤_;omega
 have HE:=Lib.hid (fun (l':List UInt8) (W:World) (hp:SP w0 b m l' W)=>ended_any w0 b m hT x _ l' W hx hp)
 clear hl hln hx hu hv2 ht hT
 generalize exL x=q at *
 go_enter Tryz.func53,Tryz.ntmps53
 go_wp2_with (first
  |(refine boxLoadG 31 11 size11 Tryz.underlying31 rfl _ rfl ⟨w.heap.size,4,none⟩ rfl (cs:=[e0,e1,e2,e3,e4,e5,e6,e7,e8,e9,e10]) (partE HX2.out) rfl ?_)
  |(refine boxLoadG 31 11 size11 Tryz.underlying31 rfl _ rfl ⟨w.heap.size,4,none⟩ rfl (cs:=[e0,e1,e2,e3,e4,e5,e6,e7,e8,e9,e10]) (partE HX1.out) rfl ?_)
  |(go_at_call 79;refine (HE.out _ _ HP2.out HL2.out).mono ?_;rintro e w3 ⟨rfl,hp,hk⟩;have HP3:=Lib.hid hp;have HK3:=Lib.hid (HK2.out.trans hk);clear hp hk)
  |(go_at_call 47;refine (put3 w0 b m _ _ HP1.out _ _ _ _ (by simp) HL1.out).mono ?_;rintro e w2 ⟨rfl,hp,hk⟩;have HP2:=Lib.hid hp;have HK2:=Lib.hid (HK1.out.trans hk);have HX2:=Lib.hid (hk.blk HX1.out hbb.out (by decide));have d2:=HX2.out.cell;clear hp hk))
 go_wp2
 first | go_end0 | refine bodyPost_ret (results_none rfl _ _ _) rfl ?_
 refine ⟨rfl,HP3.out.cast ?_,HK3.out⟩
 simp
theorem stmt_2 (w0:World) (b m:Nat) (hT:TabW w0) (p:Int) (nm:ByteArray) (h:Bool) (x:GX) (u v:List GS):StmtIs w0 b m (.mk 2 p nm h x u v):=by
 intro t ht V l w hv hp hl
 unfold IsS at hv
 obtain ⟨e0,e1,e2,e3,e4,e5,e6,e7,e8,e9,e10,o,c,o',c',rfl,hln,hx,hu,hv2⟩:=hv
 have HX1:=Lib.hid (Blk.new w 62 #[.int .i64 2,.int .i64 p,.string nm,.bool h,e0,e1,e2,e3,e4,e5,e6,e7,e8,e9,e10,.slice o u.length c,.slice o' v.length c'])
 have HP1:=Lib.hid (hp.alloc (.cells #[.int .i64 2,.int .i64 p,.string nm,.bool h,e0,e1,e2,e3,e4,e5,e6,e7,e8,e9,e10,.slice o u.length c,.slice o' v.length c'] 62))
 have HK1:=Lib.hid ((Kq.refl w0.heap.size b w).alloc hp.base (.cells #[.int .i64 2,.int .i64 p,.string nm,.bool h,e0,e1,e2,e3,e4,e5,e6,e7,e8,e9,e10,.slice o u.length c,.slice o' v.length c'] 62))
 have hbb:Hid (w.heap.size≠b):=by have:=hp.lt;show _≠_;omega
 clear hp
 rw [stmL_2] at hl ⊢
 have HL1:Hid ((l).length + (nm.data.toList++[32,61,32]).length≤140737488355328):=by (try simp only [List.length_append] at hl);(try simp only [List.length_append]);show _≤_;omega
 have HL2:Hid ((l++(nm.data.toList++[32,61,32])).length + (exL x++[59]).length≤140737488355328):=by (try simp only [List.length_append] at hl);(try simp only [List.length_append]);show _≤_;omega
 have HE:=Lib.hid (fun (l':List UInt8) (W:World) (hp:SP w0 b m l' W)=>ended_any w0 b m hT x _ l' W hx hp)
 clear hl hln hx hu hv2 ht hT
 generalize exL x=q at *
 go_enter Tryz.func53,Tryz.ntmps53
 go_wp2_with (first
  |(refine boxLoadG 31 11 size11 Tryz.underlying31 rfl _ rfl ⟨w.heap.size,4,none⟩ rfl (cs:=[e0,e1,e2,e3,e4,e5,e6,e7,e8,e9,e10]) (partE HX2.out) rfl ?_)
  |(refine boxLoadG 31 11 size11 Tryz.underlying31 rfl _ rfl ⟨w.heap.size,4,none⟩ rfl (cs:=[e0,e1,e2,e3,e4,e5,e6,e7,e8,e9,e10]) (partE HX1.out) rfl ?_)
  |(go_at_call 79;refine (HE.out _ _ HP2.out HL2.out).mono ?_;rintro e w3 ⟨rfl,hp,hk⟩;have HP3:=Lib.hid hp;have HK3:=Lib.hid (HK2.out.trans hk);clear hp hk)
  |(go_at_call 47;refine (put2 w0 b m _ _ HP1.out _ _ _ (by simp) HL1.out).mono ?_;rintro e w2 ⟨rfl,hp,hk⟩;have HP2:=Lib.hid hp;have HK2:=Lib.hid (HK1.out.trans hk);have HX2:=Lib.hid (hk.blk HX1.out hbb.out (by decide));have d2:=HX2.out.cell;clear hp hk))
 go_wp2
 first | go_end0 | refine bodyPost_ret (results_none rfl _ _ _) rfl ?_
 refine ⟨rfl,HP3.out.cast ?_,HK3.out⟩
 simp
theorem stmt_3a (w0:World) (b m:Nat) (p:Int) (nm:ByteArray) (x:GX) (u v:List GS):StmtIs w0 b m (.mk 3 p nm false x u v):=by
 intro t ht V l w hv hp hl
 unfold IsS at hv
 obtain ⟨e0,e1,e2,e3,e4,e5,e6,e7,e8,e9,e10,o,c,o',c',rfl,hln,hx,hu,hv2⟩:=hv
 have HX1:=Lib.hid (Blk.new w 62 #[.int .i64 3,.int .i64 p,.string nm,.bool false,e0,e1,e2,e3,e4,e5,e6,e7,e8,e9,e10,.slice o u.length c,.slice o' v.length c'])
 have HP1:=Lib.hid (hp.alloc (.cells #[.int .i64 3,.int .i64 p,.string nm,.bool false,e0,e1,e2,e3,e4,e5,e6,e7,e8,e9,e10,.slice o u.length c,.slice o' v.length c'] 62))
 have HK1:=Lib.hid ((Kq.refl w0.heap.size b w).alloc hp.base (.cells #[.int .i64 3,.int .i64 p,.string nm,.bool false,e0,e1,e2,e3,e4,e5,e6,e7,e8,e9,e10,.slice o u.length c,.slice o' v.length c'] 62))
 have hbb:Hid (w.heap.size≠b):=by have:=hp.lt;show _≠_;omega
 clear hp
 rw [stmL_3a] at hl ⊢
 have HL1:=Lib.hid hl
 clear hl hln hx hu hv2 ht
 go_enter Tryz.func53,Tryz.ntmps53
 go_wp2_with (first
  |(go_at_call 47;refine (put1 w0 b m _ _ HP1.out _ _ (by simp) HL1.out).mono ?_;rintro e w2 ⟨rfl,hp,hk⟩;have HP2:=Lib.hid hp;have HK2:=Lib.hid (HK1.out.trans hk);clear hp hk))
 go_wp2
 first | go_end0 | refine bodyPost_ret (results_none rfl _ _ _) rfl ?_
 refine ⟨rfl,HP2.out.cast ?_,HK2.out⟩
 simp
theorem stmt_3b (w0:World) (b m:Nat) (hT:TabW w0) (p:Int) (nm:ByteArray) (x:GX) (u v:List GS):StmtIs w0 b m (.mk 3 p nm true x u v):=by
 intro t ht V l w hv hp hl
 unfold IsS at hv
 obtain ⟨e0,e1,e2,e3,e4,e5,e6,e7,e8,e9,e10,o,c,o',c',rfl,hln,hx,hu,hv2⟩:=hv
 have HX1:=Lib.hid (Blk.new w 62 #[.int .i64 3,.int .i64 p,.string nm,.bool true,e0,e1,e2,e3,e4,e5,e6,e7,e8,e9,e10,.slice o u.length c,.slice o' v.length c'])
 have HP1:=Lib.hid (hp.alloc (.cells #[.int .i64 3,.int .i64 p,.string nm,.bool true,e0,e1,e2,e3,e4,e5,e6,e7,e8,e9,e10,.slice o u.length c,.slice o' v.length c'] 62))
 have HK1:=Lib.hid ((Kq.refl w0.heap.size b w).alloc hp.base (.cells #[.int .i64 3,.int .i64 p,.string nm,.bool true,e0,e1,e2,e3,e4,e5,e6,e7,e8,e9,e10,.slice o u.length c,.slice o' v.length c'] 62))
 have hbb:Hid (w.heap.size≠b):=by have:=hp.lt;show _≠_;omega
 clear hp
 rw [stmL_3b] at hl ⊢
 have HL1:Hid ((l).length + ([114,101,116,117,114,110,32]).length≤140737488355328):=by (try simp only [List.length_append] at hl);(try simp only [List.length_append]);show _≤_;omega
 have HL2:Hid ((l++([114,101,116,117,114,110,32])).length + (exL x++[59]).length≤140737488355328):=by (try simp only [List.length_append] at hl);(try simp only [List.length_append]);show _≤_;omega
 have HE:=Lib.hid (fun (l':List UInt8) (W:World) (hp:SP w0 b m l' W)=>ended_any w0 b m hT x _ l' W hx hp)
 clear hl hln hx hu hv2 ht hT
 generalize exL x=q at *
 go_enter Tryz.func53,Tryz.ntmps53
 go_wp2_with (first
  |(refine boxLoadG 31 11 size11 Tryz.underlying31 rfl _ rfl ⟨w.heap.size,4,none⟩ rfl (cs:=[e0,e1,e2,e3,e4,e5,e6,e7,e8,e9,e10]) (partE HX2.out) rfl ?_)
  |(refine boxLoadG 31 11 size11 Tryz.underlying31 rfl _ rfl ⟨w.heap.size,4,none⟩ rfl (cs:=[e0,e1,e2,e3,e4,e5,e6,e7,e8,e9,e10]) (partE HX1.out) rfl ?_)
  |(go_at_call 79;refine (HE.out _ _ HP2.out HL2.out).mono ?_;rintro e w3 ⟨rfl,hp,hk⟩;have HP3:=Lib.hid hp;have HK3:=Lib.hid (HK2.out.trans hk);clear hp hk)
  |(go_at_call 47;refine (put1 w0 b m _ _ HP1.out _ _ (by simp) HL1.out).mono ?_;rintro e w2 ⟨rfl,hp,hk⟩;have HP2:=Lib.hid hp;have HK2:=Lib.hid (HK1.out.trans hk);have HX2:=Lib.hid (hk.blk HX1.out hbb.out (by decide));have d2:=HX2.out.cell;clear hp hk))
 go_wp2
 first | go_end0 | refine bodyPost_ret (results_none rfl _ _ _) rfl ?_
 refine ⟨rfl,HP3.out.cast ?_,HK3.out⟩
 simp
theorem stmt_4a (w0:World) (b m:Nat) (hT:TabW w0) (p:Int) (nm:ByteArray) (x:GX) (u v:List GS) (hA:∀ y ∈ u,StmtIs w0 b m y):StmtIs w0 b m (.mk 4 p nm false x u v):=by
 intro t ht V l w hv hp hl
 unfold IsS at hv
 obtain ⟨e0,e1,e2,e3,e4,e5,e6,e7,e8,e9,e10,o,c,o',c',rfl,hln,hx,hu,hv2⟩:=hv
 have HX1:=Lib.hid (Blk.new w 62 #[.int .i64 4,.int .i64 p,.string nm,.bool false,e0,e1,e2,e3,e4,e5,e6,e7,e8,e9,e10,.slice o u.length c,.slice o' v.length c'])
 have HP1:=Lib.hid (hp.alloc (.cells #[.int .i64 4,.int .i64 p,.string nm,.bool false,e0,e1,e2,e3,e4,e5,e6,e7,e8,e9,e10,.slice o u.length c,.slice o' v.length c'] 62))
 have HK1:=Lib.hid ((Kq.refl w0.heap.size b w).alloc hp.base (.cells #[.int .i64 4,.int .i64 p,.string nm,.bool false,e0,e1,e2,e3,e4,e5,e6,e7,e8,e9,e10,.slice o u.length c,.slice o' v.length c'] 62))
 have hbb:Hid (w.heap.size≠b):=by have:=hp.lt;show _≠_;omega
 clear hp
 rw [stmL_4a] at hl ⊢
 have HL1:Hid ((l).length + ([105,102,32]).length≤140737488355328):=by (try simp only [List.length_append] at hl);(try simp only [List.length_append]);show _≤_;omega
 have HL2:Hid ((l++([105,102,32])).length + (exL x).length≤140737488355328):=by (try simp only [List.length_append] at hl);(try simp only [List.length_append]);show _≤_;omega
 have HL3:Hid ((l++([105,102,32])++(exL x)).length + ([32,123,10]++blkL (min (t + 1) 100) u++tabsL t++[125]).length≤140737488355328):=by (try simp only [List.length_append] at hl);(try simp only [List.length_append]);show _≤_;omega
 have HE:=Lib.hid (fun (l':List UInt8) (W:World) (hp:SP w0 b m l' W)=>exprL_any w0 b m hT x _ l' W hx hp)
 have HI:=Lib.hid (fun (l':List UInt8) (W:World) (hp:SP w0 b m l' W)=>inner_of w0 b m u hA t ht o c hln.1 hu l' W hp)
 clear hl hln hx hu hv2 ht hT hA
 generalize exL x=q at *
 generalize blkL (min (t + 1) 100) u=bu at *
 generalize tabsL t=tt at *
 go_enter Tryz.func53,Tryz.ntmps53
 go_wp2_with (first
  |(refine boxLoadG 31 11 size11 Tryz.underlying31 rfl _ rfl ⟨w.heap.size,4,none⟩ rfl (cs:=[e0,e1,e2,e3,e4,e5,e6,e7,e8,e9,e10]) (partE HX2.out) rfl ?_)
  |(refine boxLoadG 31 11 size11 Tryz.underlying31 rfl _ rfl ⟨w.heap.size,4,none⟩ rfl (cs:=[e0,e1,e2,e3,e4,e5,e6,e7,e8,e9,e10]) (partE HX1.out) rfl ?_)
  |(go_at_call 80;refine (HI.out _ _ HP3.out HL3.out).mono ?_;rintro e w4 ⟨rfl,hp,hk⟩;have HP4:=Lib.hid hp;have HK4:=Lib.hid (HK3.out.trans hk);have HX4:=Lib.hid (hk.blk HX3.out hbb.out (by decide));have d4:=HX4.out.cell;clear hp hk)
  |(go_at_call 29;refine (HE.out _ _ HP2.out HL2.out).mono ?_;rintro e w3 ⟨rfl,hp,hk⟩;have HP3:=Lib.hid hp;have HK3:=Lib.hid (HK2.out.trans hk);have HX3:=Lib.hid (hk.blk HX2.out hbb.out (by decide));have d3:=HX3.out.cell;clear hp hk)
  |(go_at_call 47;refine (put1 w0 b m _ _ HP1.out _ _ (by simp) HL1.out).mono ?_;rintro e w2 ⟨rfl,hp,hk⟩;have HP2:=Lib.hid hp;have HK2:=Lib.hid (HK1.out.trans hk);have HX2:=Lib.hid (hk.blk HX1.out hbb.out (by decide));have d2:=HX2.out.cell;clear hp hk))
 go_wp2
 first | go_end0 | refine bodyPost_ret (results_none rfl _ _ _) rfl ?_
 refine ⟨rfl,HP4.out.cast ?_,HK4.out⟩
 simp
theorem stmt_4b (w0:World) (b m:Nat) (hT:TabW w0) (p:Int) (nm:ByteArray) (x:GX) (u v:List GS) (hA:∀ y ∈ u,StmtIs w0 b m y) (hA2:∀ y ∈ v,StmtIs w0 b m y):StmtIs w0 b m (.mk 4 p nm true x u v):=by
 intro t ht V l w hv hp hl
 unfold IsS at hv
 obtain ⟨e0,e1,e2,e3,e4,e5,e6,e7,e8,e9,e10,o,c,o',c',rfl,hln,hx,hu,hv2⟩:=hv
 have HX1:=Lib.hid (Blk.new w 62 #[.int .i64 4,.int .i64 p,.string nm,.bool true,e0,e1,e2,e3,e4,e5,e6,e7,e8,e9,e10,.slice o u.length c,.slice o' v.length c'])
 have HP1:=Lib.hid (hp.alloc (.cells #[.int .i64 4,.int .i64 p,.string nm,.bool true,e0,e1,e2,e3,e4,e5,e6,e7,e8,e9,e10,.slice o u.length c,.slice o' v.length c'] 62))
 have HK1:=Lib.hid ((Kq.refl w0.heap.size b w).alloc hp.base (.cells #[.int .i64 4,.int .i64 p,.string nm,.bool true,e0,e1,e2,e3,e4,e5,e6,e7,e8,e9,e10,.slice o u.length c,.slice o' v.length c'] 62))
 have hbb:Hid (w.heap.size≠b):=by have:=hp.lt;show _≠_;omega
 clear hp
 rw [stmL_4b] at hl ⊢
 have HL1:Hid ((l).length + ([105,102,32]).length≤140737488355328):=by (try simp only [List.length_append] at hl);(try simp only [List.length_append]);show _≤_;omega
 have HL2:Hid ((l++([105,102,32])).length + (exL x).length≤140737488355328):=by (try simp only [List.length_append] at hl);(try simp only [List.length_append]);show _≤_;omega
 have HL3:Hid ((l++([105,102,32])++(exL x)).length + ([32,123,10]++blkL (min (t + 1) 100) u++tabsL t++[125]).length≤140737488355328):=by (try simp only [List.length_append] at hl);(try simp only [List.length_append]);show _≤_;omega
 have HL4:Hid ((l++([105,102,32])++(exL x)++([32,123,10]++blkL (min (t + 1) 100) u++tabsL t++[125])).length + ([32,101,108,115,101]).length≤140737488355328):=by (try simp only [List.length_append] at hl);(try simp only [List.length_append]);show _≤_;omega
 have HL5:Hid ((l++([105,102,32])++(exL x)++([32,123,10]++blkL (min (t + 1) 100) u++tabsL t++[125])++([32,101,108,115,101])).length + ([32,123,10]++blkL (min (t + 1) 100) v++tabsL t++[125]).length≤140737488355328):=by (try simp only [List.length_append] at hl);(try simp only [List.length_append]);show _≤_;omega
 have HE:=Lib.hid (fun (l':List UInt8) (W:World) (hp:SP w0 b m l' W)=>exprL_any w0 b m hT x _ l' W hx hp)
 have HI:=Lib.hid (fun (l':List UInt8) (W:World) (hp:SP w0 b m l' W)=>inner_of w0 b m u hA t ht o c hln.1 hu l' W hp)
 have HI2:=Lib.hid (fun (l':List UInt8) (W:World) (hp:SP w0 b m l' W)=>inner_of w0 b m v hA2 t ht o' c' hln.2 hv2 l' W hp)
 clear hl hln hx hu hv2 ht hT hA hA2
 generalize exL x=q at *
 generalize blkL (min (t + 1) 100) u=bu at *
 generalize blkL (min (t + 1) 100) v=bv at *
 generalize tabsL t=tt at *
 go_enter Tryz.func53,Tryz.ntmps53
 go_wp2_with (first
  |(refine boxLoadG 31 11 size11 Tryz.underlying31 rfl _ rfl ⟨w.heap.size,4,none⟩ rfl (cs:=[e0,e1,e2,e3,e4,e5,e6,e7,e8,e9,e10]) (partE HX2.out) rfl ?_)
  |(refine boxLoadG 31 11 size11 Tryz.underlying31 rfl _ rfl ⟨w.heap.size,4,none⟩ rfl (cs:=[e0,e1,e2,e3,e4,e5,e6,e7,e8,e9,e10]) (partE HX1.out) rfl ?_)
  |(go_at_call 80;refine (HI2.out _ _ HP5.out HL5.out).mono ?_;rintro e w6 ⟨rfl,hp,hk⟩;have HP6:=Lib.hid hp;have HK6:=Lib.hid (HK5.out.trans hk);clear hp hk)
  |(go_at_call 47;refine (put1 w0 b m _ _ HP4.out _ _ (by simp) HL4.out).mono ?_;rintro e w5 ⟨rfl,hp,hk⟩;have HP5:=Lib.hid hp;have HK5:=Lib.hid (HK4.out.trans hk);have HX5:=Lib.hid (hk.blk HX4.out hbb.out (by decide));have d5:=HX5.out.cell;clear hp hk)
  |(go_at_call 80;refine (HI.out _ _ HP3.out HL3.out).mono ?_;rintro e w4 ⟨rfl,hp,hk⟩;have HP4:=Lib.hid hp;have HK4:=Lib.hid (HK3.out.trans hk);have HX4:=Lib.hid (hk.blk HX3.out hbb.out (by decide));have d4:=HX4.out.cell;clear hp hk)
  |(go_at_call 29;refine (HE.out _ _ HP2.out HL2.out).mono ?_;rintro e w3 ⟨rfl,hp,hk⟩;have HP3:=Lib.hid hp;have HK3:=Lib.hid (HK2.out.trans hk);have HX3:=Lib.hid (hk.blk HX2.out hbb.out (by decide));have d3:=HX3.out.cell;clear hp hk)
  |(go_at_call 47;refine (put1 w0 b m _ _ HP1.out _ _ (by simp) HL1.out).mono ?_;rintro e w2 ⟨rfl,hp,hk⟩;have HP2:=Lib.hid hp;have HK2:=Lib.hid (HK1.out.trans hk);have HX2:=Lib.hid (hk.blk HX1.out hbb.out (by decide));have d2:=HX2.out.cell;clear hp hk))
 go_wp2
 first | go_end0 | refine bodyPost_ret (results_none rfl _ _ _) rfl ?_
 refine ⟨rfl,HP6.out.cast ?_,HK6.out⟩
 simp
theorem stmt_5 (w0:World) (b m:Nat) (hT:TabW w0) (p:Int) (nm:ByteArray) (h:Bool) (x:GX) (u v:List GS) (hA:∀ y ∈ u,StmtIs w0 b m y):StmtIs w0 b m (.mk 5 p nm h x u v):=by
 intro t ht V l w hv hp hl
 unfold IsS at hv
 obtain ⟨e0,e1,e2,e3,e4,e5,e6,e7,e8,e9,e10,o,c,o',c',rfl,hln,hx,hu,hv2⟩:=hv
 have HX1:=Lib.hid (Blk.new w 62 #[.int .i64 5,.int .i64 p,.string nm,.bool h,e0,e1,e2,e3,e4,e5,e6,e7,e8,e9,e10,.slice o u.length c,.slice o' v.length c'])
 have HP1:=Lib.hid (hp.alloc (.cells #[.int .i64 5,.int .i64 p,.string nm,.bool h,e0,e1,e2,e3,e4,e5,e6,e7,e8,e9,e10,.slice o u.length c,.slice o' v.length c'] 62))
 have HK1:=Lib.hid ((Kq.refl w0.heap.size b w).alloc hp.base (.cells #[.int .i64 5,.int .i64 p,.string nm,.bool h,e0,e1,e2,e3,e4,e5,e6,e7,e8,e9,e10,.slice o u.length c,.slice o' v.length c'] 62))
 have hbb:Hid (w.heap.size≠b):=by have:=hp.lt;show _≠_;omega
 clear hp
 rw [stmL_5] at hl ⊢
 have HL1:Hid ((l).length + ([102,111,114,32]).length≤140737488355328):=by (try simp only [List.length_append] at hl);(try simp only [List.length_append]);show _≤_;omega
 have HL2:Hid ((l++([102,111,114,32])).length + (exL x).length≤140737488355328):=by (try simp only [List.length_append] at hl);(try simp only [List.length_append]);show _≤_;omega
 have HL3:Hid ((l++([102,111,114,32])++(exL x)).length + ([32,123,10]++blkL (min (t + 1) 100) u++tabsL t++[125]).length≤140737488355328):=by (try simp only [List.length_append] at hl);(try simp only [List.length_append]);show _≤_;omega
 have HE:=Lib.hid (fun (l':List UInt8) (W:World) (hp:SP w0 b m l' W)=>exprL_any w0 b m hT x _ l' W hx hp)
 have HI:=Lib.hid (fun (l':List UInt8) (W:World) (hp:SP w0 b m l' W)=>inner_of w0 b m u hA t ht o c hln.1 hu l' W hp)
 clear hl hln hx hu hv2 ht hT hA
 generalize exL x=q at *
 generalize blkL (min (t + 1) 100) u=bu at *
 generalize tabsL t=tt at *
 go_enter Tryz.func53,Tryz.ntmps53
 go_wp2_with (first
  |(refine boxLoadG 31 11 size11 Tryz.underlying31 rfl _ rfl ⟨w.heap.size,4,none⟩ rfl (cs:=[e0,e1,e2,e3,e4,e5,e6,e7,e8,e9,e10]) (partE HX2.out) rfl ?_)
  |(refine boxLoadG 31 11 size11 Tryz.underlying31 rfl _ rfl ⟨w.heap.size,4,none⟩ rfl (cs:=[e0,e1,e2,e3,e4,e5,e6,e7,e8,e9,e10]) (partE HX1.out) rfl ?_)
  |(go_at_call 80;refine (HI.out _ _ HP3.out HL3.out).mono ?_;rintro e w4 ⟨rfl,hp,hk⟩;have HP4:=Lib.hid hp;have HK4:=Lib.hid (HK3.out.trans hk);clear hp hk)
  |(go_at_call 29;refine (HE.out _ _ HP2.out HL2.out).mono ?_;rintro e w3 ⟨rfl,hp,hk⟩;have HP3:=Lib.hid hp;have HK3:=Lib.hid (HK2.out.trans hk);have HX3:=Lib.hid (hk.blk HX2.out hbb.out (by decide));have d3:=HX3.out.cell;clear hp hk)
  |(go_at_call 47;refine (put1 w0 b m _ _ HP1.out _ _ (by simp) HL1.out).mono ?_;rintro e w2 ⟨rfl,hp,hk⟩;have HP2:=Lib.hid hp;have HK2:=Lib.hid (HK1.out.trans hk);have HX2:=Lib.hid (hk.blk HX1.out hbb.out (by decide));have d2:=HX2.out.cell;clear hp hk))
 go_wp2
 first | go_end0 | refine bodyPost_ret (results_none rfl _ _ _) rfl ?_
 refine ⟨rfl,HP4.out.cast ?_,HK4.out⟩
 simp
theorem stmt_6 (w0:World) (b m:Nat) (hT:TabW w0) (p:Int) (nm:ByteArray) (h:Bool) (x:GX) (u v:List GS):StmtIs w0 b m (.mk 6 p nm h x u v):=by
 intro t ht V l w hv hp hl
 unfold IsS at hv
 obtain ⟨e0,e1,e2,e3,e4,e5,e6,e7,e8,e9,e10,o,c,o',c',rfl,hln,hx,hu,hv2⟩:=hv
 have HX1:=Lib.hid (Blk.new w 62 #[.int .i64 6,.int .i64 p,.string nm,.bool h,e0,e1,e2,e3,e4,e5,e6,e7,e8,e9,e10,.slice o u.length c,.slice o' v.length c'])
 have HP1:=Lib.hid (hp.alloc (.cells #[.int .i64 6,.int .i64 p,.string nm,.bool h,e0,e1,e2,e3,e4,e5,e6,e7,e8,e9,e10,.slice o u.length c,.slice o' v.length c'] 62))
 have HK1:=Lib.hid ((Kq.refl w0.heap.size b w).alloc hp.base (.cells #[.int .i64 6,.int .i64 p,.string nm,.bool h,e0,e1,e2,e3,e4,e5,e6,e7,e8,e9,e10,.slice o u.length c,.slice o' v.length c'] 62))
 have hbb:Hid (w.heap.size≠b):=by have:=hp.lt;show _≠_;omega
 clear hp
 rw [stmL_6] at hl ⊢
 have HL1:=Lib.hid hl
 have HE:=Lib.hid (fun (l':List UInt8) (W:World) (hp:SP w0 b m l' W)=>ended_any w0 b m hT x _ l' W hx hp)
 clear hl hln hx hu hv2 ht hT
 generalize exL x=q at *
 go_enter Tryz.func53,Tryz.ntmps53
 go_wp2_with (first
  |(refine boxLoadG 31 11 size11 Tryz.underlying31 rfl _ rfl ⟨w.heap.size,4,none⟩ rfl (cs:=[e0,e1,e2,e3,e4,e5,e6,e7,e8,e9,e10]) (partE HX1.out) rfl ?_)
  |(go_at_call 79;refine (HE.out _ _ HP1.out HL1.out).mono ?_;rintro e w2 ⟨rfl,hp,hk⟩;have HP2:=Lib.hid hp;have HK2:=Lib.hid (HK1.out.trans hk);clear hp hk))
 go_wp2
 first | go_end0 | refine bodyPost_ret (results_none rfl _ _ _) rfl ?_
 refine ⟨rfl,HP2.out.cast ?_,HK2.out⟩
 simp
theorem stmt_no (w0:World) (b m:Nat) (k:Int) (hk:k < 1∨6 < k) (p:Int) (nm:ByteArray) (h:Bool) (x:GX) (u v:List GS):StmtIs w0 b m (.mk k p nm h x u v):=by
 intro t ht V l w hv hp hl
 unfold IsS at hv
 obtain ⟨e0,e1,e2,e3,e4,e5,e6,e7,e8,e9,e10,o,c,o',c',rfl,hln,hx,hu,hv2⟩:=hv
 have HX1:=Lib.hid (Blk.new w 62 #[.int .i64 k,.int .i64 p,.string nm,.bool h,e0,e1,e2,e3,e4,e5,e6,e7,e8,e9,e10,.slice o u.length c,.slice o' v.length c'])
 have HP1:=Lib.hid (hp.alloc (.cells #[.int .i64 k,.int .i64 p,.string nm,.bool h,e0,e1,e2,e3,e4,e5,e6,e7,e8,e9,e10,.slice o u.length c,.slice o' v.length c'] 62))
 have HK1:=Lib.hid ((Kq.refl w0.heap.size b w).alloc hp.base (.cells #[.int .i64 k,.int .i64 p,.string nm,.bool h,e0,e1,e2,e3,e4,e5,e6,e7,e8,e9,e10,.slice o u.length c,.slice o' v.length c'] 62))
 have hbb:Hid (w.heap.size≠b):=by have:=hp.lt;show _≠_;omega
 clear hp
 rw [stmL_no k hk] at hl ⊢
 have HL1:=Lib.hid hl
 have h1:¬ k=1:=by omega
 have h2:¬ k=2:=by omega
 have h3:¬ k=3:=by omega
 have h4:¬ k=4:=by omega
 have h5:¬ k=5:=by omega
 have h6:¬ k=6:=by omega
 clear hl hln hx hu hv2 ht hk
 go_enter Tryz.func53,Tryz.ntmps53
 go_wp2_with (first
  |(go_at_call 47;refine (put1 w0 b m _ _ HP1.out _ _ (by simp) HL1.out).mono ?_;rintro e w2 ⟨rfl,hp,hk⟩;have HP2:=Lib.hid hp;have HK2:=Lib.hid (HK1.out.trans hk);clear hp hk))
 go_wp2
 first | go_end0 | refine bodyPost_ret (results_none rfl _ _ _) rfl ?_
 refine ⟨rfl,HP2.out.cast ?_,HK2.out⟩
 simp
theorem memS_size {y:GS}:∀ {xs:List GS},y ∈ xs→SizeOf.sizeOf y < SizeOf.sizeOf xs
 |x::r,h=>by
  rcases List.mem_cons.1 h with rfl | h
  ·simp;omega
  ·have:=memS_size h
   simp;omega
theorem stmt_any (w0:World) (b m:Nat) (hT:TabW w0):∀ (s:Nat) (x:GS),SizeOf.sizeOf x < s→StmtIs w0 b m x:=by
 intro s
 induction s with
 |zero=>intro x h;omega
 |succ s ih =>
 rintro ⟨k,p,nm,h,x,u,v⟩ hs
 have hA:∀ y ∈ u,StmtIs w0 b m y:=fun y hy=>ih y (by have:=memS_size hy;simp at hs;omega)
 have hB:∀ y ∈ v,StmtIs w0 b m y:=fun y hy=>ih y (by have:=memS_size hy;simp at hs;omega)
 by_cases hk:k < 1∨6 < k
 ·exact stmt_no w0 b m k hk p nm h x u v
 have hc:k=1∨k=2∨k=3∨k=4∨k=5∨k=6:=by omega
 rcases hc with rfl | rfl | rfl | rfl | rfl | rfl
 ·exact stmt_1 w0 b m hT p nm h x u v
 ·exact stmt_2 w0 b m hT p nm h x u v
 ·cases h
  ·exact stmt_3a w0 b m p nm x u v
  ·exact stmt_3b w0 b m hT p nm x u v
 ·cases h
  ·exact stmt_4a w0 b m hT p nm x u v hA
  ·exact stmt_4b w0 b m hT p nm x u v hA hB
 ·exact stmt_5 w0 b m hT p nm h x u v hA
 ·exact stmt_6 w0 b m hT p nm h x u v
end Go.Proofs.YtfcgoainglpdlaaGreatDoor
