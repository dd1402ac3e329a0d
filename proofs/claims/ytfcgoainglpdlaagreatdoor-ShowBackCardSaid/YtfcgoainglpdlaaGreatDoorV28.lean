/- The program's walk of parameters, results, declarations and files (made by tools/genprm.py). Conditions: the text is of at most 2^47 bytes; the library's table is laid. A new printer, what is put into it, its text. Condition: the text is of at most 2^47 bytes. -/
import Derived.Test.YtfcgoainglpdlaaGreatDoorV27
import Derived.Test.YtfcgoainglpdlaaGreatDoorV26
set_option maxRecDepth 100000
set_option maxHeartbeats 2000000
namespace Go.Proofs.YtfcgoainglpdlaaGreatDoor
open Go.RowKit
open Go.Lib hiding intOf
theorem typesL_any (w0:World) (b m:Nat) (xs:List GT) (o:Option Addr) (c:Nat) (hn:xs.length≤9223372036854775807) (hx:IsGs w0 o 0 xs) (l:List UInt8) (w:World) (hp:SP w0 b m l w) :
  Does w0 b m 112 #[.pointer (some ⟨b,0,none⟩),.slice o xs.length c] (joinL' (xs.map typL)) w l:=types_any w0 b m xs o c hn hx l w hp
theorem size7:(Tryz.prog.info? 72).map (·.size)=some 7:=by kernel_rfl
theorem size9:(Tryz.prog.info? 111).map (·.size)=some 9:=by kernel_rfl
theorem size22:(Tryz.prog.info? 76).map (·.size)=some 22:=by kernel_rfl
theorem size2:(Tryz.prog.info? 69).map (·.size)=some 2:=by kernel_rfl
theorem partAt {w:World} {g:Nat} {T:TypeId} {cs:Array Value} (hb:Blk w g T cs) (off n:Nat) (part:List Value) (hp:part=(cs.toList.drop off).take n):∀ (j:Nat) (v:Value),part[j]?=some v→w.cell? ((⟨g,off,none⟩:Addr).add j)=some v:=by
 intro j v h
 subst hp
 have h0:=hb.cell (off + j)
 have h1:(cs.toList.drop off)[j]?=some v:=by
  rw [List.getElem?_take] at h
  split at h
  ·exact h
  ·cases h
 rw [List.getElem?_drop,Array.getElem?_toList] at h1
 rw [h1] at h0
 rw [← h0]
 by_cases hj:j=0
 ·subst hj;simp [Addr.add]
 ·simp [Addr.add,hj]
theorem ones_of {cs ds:List Value} (h:Value.agg cs.toArray=.agg ds.toArray) (hd:ds.all (·.oneCell')=true):cs.all (·.oneCell')=true:=by
 simp only [Value.agg.injEq] at h
 have:=congrArg Array.toList h
 simp only at this
 rw [this];exact hd
theorem IsP.ones {w:World} {x:GP} {cs:List Value} (h:IsP w x (.agg cs.toArray)):cs.all (·.oneCell')=true:=by
 obtain ⟨t0,t1,t2,t3,t4,hv,ht⟩:=h
 refine ones_of (ds:=[.string x.name,.int .i64 x.pos,t0,t1,t2,t3,t4]) hv ?_
 obtain ⟨a0,a1,a2,a3,a4⟩:=ht.ones
 simp only [List.all_cons,List.all_nil,a0,a1,a2,a3,a4]
 rfl
theorem IsM.ones {w:World} {x:GM} {cs:List Value} (h:IsM w x (.agg cs.toArray)):cs.all (·.oneCell')=true:=by
 obtain ⟨o,c,t0,t1,t2,t3,t4,hv,_,_,ht⟩:=h
 refine ones_of (ds:=[.string x.name,.int .i64 x.pos,.slice o x.params.length c,.bool x.has,t0,t1,t2,t3,t4]) hv ?_
 obtain ⟨a0,a1,a2,a3,a4⟩:=ht.ones
 simp only [List.all_cons,List.all_nil,a0,a1,a2,a3,a4]
 rfl
theorem IsD.ones {w:World} {x:GD} {cs:List Value} (h:IsD w x (.agg cs.toArray)):cs.all (·.oneCell')=true:=by
 obtain ⟨r0,r1,r2,r3,r4,r5,r6,ob,cb,of,cf,om,cm,t0,t1,t2,t3,t4,os,co,hv,_,hr,_,_,_,ht,_⟩:=h
 refine ones_of (ds:=[.int .i64 x.kind,.int .i64 x.pos,.int .i64 x.stop,.string x.name,.bool x.method,r0,r1,r2,r3,r4,r5,r6,.slice ob x.bounds.length cb,.slice of x.fields.length cf,.slice om x.methods.length cm,.bool x.has,t0,t1,t2,t3,t4,.slice os x.body.length co]) hv ?_
 obtain ⟨a0,a1,a2,a3,a4⟩:=ht.ones
 have hr':=IsP.ones (cs:=[r0,r1,r2,r3,r4,r5,r6]) hr
 simp only [List.all_cons,List.all_nil,Bool.and_true,Bool.and_eq_true] at hr'
 obtain ⟨b0,b1,b2,b3,b4,b5,b6⟩:=hr'
 simp only [List.all_cons,List.all_nil,a0,a1,a2,a3,a4,b0,b1,b2,b3,b4,b5,b6]
 rfl
theorem IsN.ones {x:ByteArray × Int} {cs:List Value} (h:IsN x (.agg cs.toArray)):cs.all (·.oneCell')=true :=
 ones_of (ds:=[.string x.1,.int .i64 x.2]) h rfl
theorem param_any (w0:World) (b m:Nat) (x:GP) (v:Value) (hv:IsP w0 x v) (l:List UInt8) (w:World) (hp:SP w0 b m l w) :
  Does w0 b m 111 #[.pointer (some ⟨b,0,none⟩),v] (parL x) w l:=by
 intro hl
 obtain ⟨t0,t1,t2,t3,t4,rfl,ht⟩:=hv
 unfold parL typL at hl
 unfold parL typL
 have HX1:=Lib.hid (Blk.new w 72 #[.string x.name,.int .i64 x.pos,t0,t1,t2,t3,t4])
 have HP1:=Lib.hid (hp.alloc (.cells #[.string x.name,.int .i64 x.pos,t0,t1,t2,t3,t4] 72))
 have HK1:=Lib.hid ((Kq.refl w0.heap.size b w).alloc hp.base (.cells #[.string x.name,.int .i64 x.pos,t0,t1,t2,t3,t4] 72))
 have hbb:Hid (w.heap.size≠b):=by have:=hp.lt;show _≠_;omega
 clear hp
 have HL1:Hid ((l).length + (x.name.data.toList++[32]).length≤140737488355328):=by (try simp only [List.length_append] at hl);(try simp only [List.length_append]);show _≤_;omega
 have HL2:Hid ((l++(x.name.data.toList++[32])).length + ((typG x.typ).data.toList).length≤140737488355328):=by (try simp only [List.length_append] at hl);(try simp only [List.length_append]);show _≤_;omega
 have HT:=Lib.hid (fun (l':List UInt8) (W:World) (hp:SP w0 b m l' W)=>typed_any w0 b m _ x.typ _ l' W (Nat.lt_succ_self _) ht hp)
 clear hl ht
 go_enter Tryz.func111,Tryz.ntmps111
 go_wp2_with (first
  |(refine boxLoadG 24 5 size5 Tryz.underlying24 rfl _ rfl ⟨w.heap.size,2,none⟩ rfl (cs:=[t0,t1,t2,t3,t4]) (partAt HX2.out 2 5 _ rfl) rfl ?_)
  |(go_at_call 27;refine (HT.out _ _ HP2.out HL2.out).mono ?_;rintro e w3 ⟨rfl,hp,hk⟩;have HP3:=Lib.hid hp;have HK3:=Lib.hid (HK2.out.trans hk);clear hp hk)
  |(go_at_call 47;refine (put2 w0 b m _ _ HP1.out _ _ _ (by simp) HL1.out).mono ?_;rintro e w2 ⟨rfl,hp,hk⟩;have HP2:=Lib.hid hp;have HK2:=Lib.hid (HK1.out.trans hk);have HX2:=Lib.hid (hk.blk HX1.out hbb.out (by decide));have d2:=HX2.out.cell;clear hp hk))
 go_wp2
 first | go_end0 | refine bodyPost_ret (results_none rfl _ _ _) rfl ?_
 refine ⟨rfl,HP3.out.cast ?_,HK3.out⟩
 simp
theorem result_any (w0:World) (b m:Nat) (h:Bool) (t:GT) (v:Value) (hv:IsG w0 t v) (l:List UInt8) (w:World) (hp:SP w0 b m l w) :
  Does w0 b m 113 #[.pointer (some ⟨b,0,none⟩),.bool h,v] (resL h t) w l:=by
 intro hl
 have HV:=Lib.hid hv
 obtain ⟨k,p,g,n,args⟩:=t
 unfold IsG at hv
 obtain ⟨o,c,rfl,_⟩:=hv
 have HX1:=Lib.hid (Blk.new w 24 #[.int .i64 k,.int .i64 p,.string g,.string n,.slice o args.length c])
 have HP1:=Lib.hid (hp.alloc (.cells #[.int .i64 k,.int .i64 p,.string g,.string n,.slice o args.length c] 24))
 have HK1:=Lib.hid ((Kq.refl w0.heap.size b w).alloc hp.base (.cells #[.int .i64 k,.int .i64 p,.string g,.string n,.slice o args.length c] 24))
 have hbb:Hid (w.heap.size≠b):=by have:=hp.lt;show _≠_;omega
 clear hp
 cases h
 ·unfold resL
  clear hl
  go_enter Tryz.func113,Tryz.ntmps113
  go_wp2
  first | go_end0 | refine bodyPost_ret (results_none rfl _ _ _) rfl ?_
  exact ⟨rfl,HP1.out.cast (by simp),HK1.out⟩
 ·unfold resL typL at hl
  unfold resL typL
  simp only [if_true] at hl ⊢
  have HL1:Hid ((l).length + ([32]).length≤140737488355328):=by (try simp only [List.length_append] at hl);(try simp only [List.length_append]);show _≤_;omega
  have HL2:Hid ((l++([32])).length + ((typG (.mk k p g n args)).data.toList).length≤140737488355328):=by (try simp only [List.length_append] at hl);(try simp only [List.length_append]);show _≤_;omega
  have HT:=Lib.hid (fun (l':List UInt8) (W:World) (hp:SP w0 b m l' W)=>typed_any w0 b m _ (.mk k p g n args) _ l' W (Nat.lt_succ_self _) HV.out hp)
  clear hl
  generalize (typG (.mk k p g n args)).data.toList=q at *
  go_enter Tryz.func113,Tryz.ntmps113
  go_wp2_with (first
   |(refine boxLoad 24 5 size5 Tryz.underlying24 rfl _ rfl w.heap.size rfl (cs:=[_,_,_,_,_]) HX2.out rfl ?_)
   |(go_at_call 27;refine (HT.out _ _ HP2.out HL2.out).mono ?_;rintro e w3 ⟨rfl,hp,hk⟩;have HP3:=Lib.hid hp;have HK3:=Lib.hid (HK2.out.trans hk);clear hp hk)
   |(go_at_call 47;refine (put1 w0 b m _ _ HP1.out _ _ (by simp) HL1.out).mono ?_;rintro e w2 ⟨rfl,hp,hk⟩;have HP2:=Lib.hid hp;have HK2:=Lib.hid (HK1.out.trans hk);have HX2:=Lib.hid (hk.blk HX1.out hbb.out (by decide));have d2:=HX2.out.cell;clear hp hk))
  go_wp2
  first | go_end0 | refine bodyPost_ret (results_none rfl _ _ _) rfl ?_
  refine ⟨rfl,HP3.out.cast ?_,HK3.out⟩
  simp
theorem params_any (w0:World) (b m:Nat) (xs:List GP) (o:Option Addr) (c:Nat) (hn:xs.length≤9223372036854775807) (hx:RowX 7 (IsP w0) w0 o 0 xs) (op cl:ByteArray) (l:List UInt8) (w:World) (hp:SP w0 b m l w) :
  Does w0 b m 114 #[.pointer (some ⟨b,0,none⟩),.string op,.slice o xs.length c,.string cl] (op.data.toList++joinL' (xs.map parL)++cl.data.toList) w l:=by
 intro hl
 have HP1:=Lib.hid hp
 have HW:=Lib.hid (Kq.refl w0.heap.size b w)
 generalize hts:xs.map parL=ts at hl ⊢
 have HTS:=Lib.hid hts
 simp only [List.length_append] at hl
 have HL0:Hid (l.length + op.data.toList.length≤140737488355328):=by show _≤_;omega
 have HLc:Hid ((l++op.data.toList++joinL' ts).length + cl.data.toList.length≤140737488355328):=by simp only [List.length_append];show _≤_;omega
 have HL:Hid ((l++op.data.toList).length + (joinL' ts).length≤140737488355328):=by simp only [List.length_append];show _≤_;omega
 have HG:=Lib.hid hx
 clear hp hts hl hx
 go_enter Tryz.func114,Tryz.ntmps114
 go_wp2_with (first
  |(go_at_call 107;refine (commas_any w0 b m _ _ HP0.out).mono ?_;obtain ⟨G,hG0,hG⟩:∃ G,G=wp.heap.size∧w.heap.size≤G + 1:=⟨_,rfl,by have:=HK0.out.below.size;omega⟩;rewrite [← hG0];rintro e w2 ⟨rfl,⟨hp2,hc2⟩,hk⟩;have HP2:=Lib.hid hp2;have HC2:=Lib.hid hc2;have HK2:=Lib.hid (HK0.out.trans hk);have HG0:=Lib.hid hG;clear hp2 hc2 hk hG hG0)
  |(go_at_call 47;refine (put1 w0 b m _ _ HP1.out _ _ rfl HL0.out).mono ?_;rintro e wp ⟨rfl,hp,hk⟩;have HP0:=Lib.hid hp;have HK0:=Lib.hid (HW.out.trans hk);clear hp hk))
 go_loopw [19] (fun i wr=>∃ j:Nat,i=.int .i64 (j:Nat)∧j≤xs.length∧JS w0 b m G (l++op.data.toList) ts w j wr) (fun i _=>xs.length - (RowKit.intOf i).toNat)
 case atStart=>exact ⟨0,rfl,Nat.zero_le _,by simpa [joinL',Hid] using HP2.out,HC2,HK2⟩
 case round =>
  obtain ⟨j,rfl,hj,HPr,HCr,HKr⟩:=hrel
  by_cases hlt:j < xs.length
  ·have hlt':decide ((j:Int) < (xs.length:Int))=true:=by simp;omega
   have hj2:(j:Int) + 1≤9223372036854775807:=by omega
   have hj3:-9223372036854775808≤(j:Int) + 1:=by omega
   have hg:xs[j]?=some xs[j]:=List.getElem?_eq_getElem hlt
   obtain ⟨a,cs,rfl,hcl,hR,hy⟩:=HG.out.at_ j hg
   rw [Nat.zero_add] at hR
   have ht:ts[j]?=some (parL xs[j]):=by rw [← HTS.out,List.getElem?_map,hg];rfl
   have HN:=Lib.hid (joinL_next ht)
   have HM:=Lib.hid (List.getElem_mem hlt)
   generalize xs[j]=y at *
   have hln:=joinL_take_le ts (j + 1)
   rw [HN.out] at hln
   have HL1:Hid ((l++op.data.toList++joinL' (ts.take j)).length + (sepB j).data.toList.length≤140737488355328):=by have h0:=HL.out;(try simp only [List.length_append] at h0);simp only [List.length_append] at hln ⊢;show _≤_;omega
   have HL2:Hid ((l++op.data.toList++joinL' (ts.take j)++(sepB j).data.toList).length + (parL y).length≤140737488355328):=by have h0:=HL.out;(try simp only [List.length_append] at h0);simp only [List.length_append] at hln ⊢;show _≤_;omega
   clear hln ht hg
   have hR:=Lib.hid hR
   have HC:=Lib.hid hcl
   have HO:=Lib.hid hy.ones
   have HT:=Lib.hid (fun (l':List UInt8) (W:World) (hp:SP w0 b m l' W)=>param_any w0 b m y _ hy l' W hp)
   clear hy HM hcl
   have HX1:=Lib.hid (Blk.new wr 72 cs.toArray)
   have HP3:=Lib.hid (HPr.out.alloc (.cells cs.toArray 72))
   have HK3:=Lib.hid (HKr.out.alloc HPr.out.base (.cells cs.toArray 72))
   have HC3:=Lib.hid (HCr.out.kq ((Kq.refl _ _ wr).alloc HPr.out.base (.cells cs.toArray 72)))
   have hbb:Hid (wr.heap.size≠b∧wr.heap.size≠G + 1):=by have:=HPr.out.lt;have:=HCr.out.two.lt;exact ⟨by omega,by omega⟩
   go_wp2_with (first
    |(refine boxLoad 72 7 size7 Tryz.underlying72 rfl _ rfl wr.heap.size rfl (cs:=cs) HX4.out HC.out ?_)
    |(refine boxLoadG 72 7 size7 Tryz.underlying72 rfl _ rfl _ rfl (cs:=cs) (fun j v h=>((HPr.out.below).cell (World.block_lt_of_cell? _ _ (hR.out j v h))).trans (hR.out j v h)) HC.out ?_)
    |(refine boxNew 72 7 size7 rfl _ _ rfl rfl cs rfl rfl HC.out HO.out ?_)
    |(go_at_call 111;refine (HT.out _ _ HP4.out HL2.out).mono ?_;rintro e w5 ⟨rfl,hp,hk⟩;have HP5:=Lib.hid hp;have HK5:=Lib.hid (HK4.out.trans hk);have HC5:=Lib.hid (HC4.out.kq hk);clear hp hk)
    |(go_at_call 127;refine (comma_any w0 b m G _ _ _ HP3.out HC3.out HL1.out).mono ?_;rintro e w4 ⟨rfl,⟨hp,hc⟩,hk⟩;have HP4:=Lib.hid hp;have HC4:=Lib.hid hc;have HX4:=Lib.hid (hk.blk HX1.out hbb.out.1 hbb.out.2 (by decide));have HK4:=Lib.hid (HK3.out.kc hk HG0.out);clear hp hc hk))
   case roundEnd =>
    refine ⟨⟨j + 1,by push_cast;rfl,by omega,HP5.out.cast ?_,?_,HK5⟩,by simp [RowKit.intOf];omega⟩
    ·rw [HN.out];simp only [List.append_assoc]
    ·have:=HC5.out
     rwa [← sepB_next j] at this
  ·have hlt':decide ((j:Int) < (xs.length:Int))=false:=by simp;omega
   have hj':Hid (ts.take j=ts):=List.take_of_length_le (by rw [← HTS.out,List.length_map];omega)
   have HPe:=HPr.out
   rw [hj'.out] at HPe
   have HPE:=Lib.hid HPe
   clear HPe
   go_wp2_with (go_at_call 47;refine (put1 w0 b m _ _ HPE.out _ _ rfl HLc.out).mono ?_;rintro e wq ⟨rfl,hp,hk⟩;have HPq:=Lib.hid hp;have HKq:=Lib.hid (HKr.out.trans hk);clear hp hk)
   first | go_end0 | refine bodyPost_ret (results_none rfl _ _ _) rfl ?_
   refine ⟨rfl,HPq.out.cast ?_,HKq.out⟩
   simp only [List.append_assoc]
theorem struct_any (w0:World) (b m:Nat) (x:GD) (v:Value) (hv:IsD w0 x v) (l:List UInt8) (w:World) (hp:SP w0 b m l w) :
  Does w0 b m 87 #[.pointer (some ⟨b,0,none⟩),v] ([116,121,112,101,32]++(x.name.data.toList++[32,115,116,114,117,99,116,32,123])++x.fields.flatMap fldL++[32,125]) w l:=by
 intro hl
 obtain ⟨r0,r1,r2,r3,r4,r5,r6,ob,cb,of,cf,om,cm,t0,t1,t2,t3,t4,os,co,rfl,hln0,hrv,hbd,hfd,hmd,ht,hbo⟩:=hv
 have HX1:=Lib.hid (Blk.new w 76 #[.int .i64 x.kind,.int .i64 x.pos,.int .i64 x.stop,.string x.name,.bool x.method,r0,r1,r2,r3,r4,r5,r6,.slice ob x.bounds.length cb,.slice of x.fields.length cf,.slice om x.methods.length cm,.bool x.has,t0,t1,t2,t3,t4,.slice os x.body.length co])
 have HP1:=Lib.hid (hp.alloc (.cells #[.int .i64 x.kind,.int .i64 x.pos,.int .i64 x.stop,.string x.name,.bool x.method,r0,r1,r2,r3,r4,r5,r6,.slice ob x.bounds.length cb,.slice of x.fields.length cf,.slice om x.methods.length cm,.bool x.has,t0,t1,t2,t3,t4,.slice os x.body.length co] 76))
 have HK1:=Lib.hid ((Kq.refl w0.heap.size b w).alloc hp.base (.cells #[.int .i64 x.kind,.int .i64 x.pos,.int .i64 x.stop,.string x.name,.bool x.method,r0,r1,r2,r3,r4,r5,r6,.slice ob x.bounds.length cb,.slice of x.fields.length cf,.slice om x.methods.length cm,.bool x.has,t0,t1,t2,t3,t4,.slice os x.body.length co] 76))
 have hbb:Hid (w.heap.size≠b):=by have:=hp.lt;show _≠_;omega
 clear hp
 simp only [List.length_append] at hl
 have HLa:Hid (l.length + ([116,121,112,101,32]++(x.name.data.toList++[32,115,116,114,117,99,116,32,123])).length≤140737488355328):=by simp only [List.length_append];show _≤_;omega
 have HL:Hid ((l++([116,121,112,101,32]++(x.name.data.toList++[32,115,116,114,117,99,116,32,123]))).length + (x.fields.flatMap fldL).length≤140737488355328):=by simp only [List.length_append];show _≤_;omega
 have HLz:Hid ((l++([116,121,112,101,32]++(x.name.data.toList++[32,115,116,114,117,99,116,32,123]))++x.fields.flatMap fldL).length + ([32,125]:List UInt8).length≤140737488355328):=by simp only [List.length_append];show _≤_;omega
 have HG:=Lib.hid hfd
 have hn:=hln0.2.1
 clear hl hln0 hrv hbd hfd hmd ht hbo
 go_enter Tryz.func87,Tryz.ntmps87
 go_wp2_with (first
  |(go_at_call 47;refine (put3 w0 b m _ _ HP1.out _ _ _ _ (by simp) HLa.out).mono ?_;rintro e w2 ⟨rfl,hp,hk⟩;have HP2:=Lib.hid hp;have HK2:=Lib.hid (HK1.out.trans hk);have HX2:=Lib.hid (hk.blk HX1.out hbb.out (by decide));have d2:=HX2.out.cell;clear hp hk))
 go_loopw [14] (fun i wr=>∃ j:Nat,i=.int .i64 (j:Nat)∧j≤x.fields.length∧Hid (SP w0 b m (l++([116,121,112,101,32]++(x.name.data.toList++[32,115,116,114,117,99,116,32,123]))++(x.fields.take j).flatMap fldL) wr)∧Hid (Kq w0.heap.size b w wr)) (fun i _=>x.fields.length - (RowKit.intOf i).toNat)
 case atStart=>exact ⟨0,rfl,Nat.zero_le _,by simpa [Hid] using And.intro HP2.out HK2.out⟩
 case round =>
  obtain ⟨j,rfl,hj,HPr,HKr⟩:=hrel
  by_cases hlt:j < x.fields.length
  ·have hlt':decide ((j:Int) < (x.fields.length:Int))=true:=by simp;omega
   have hj2:(j:Int) + 1≤9223372036854775807:=by omega
   have hj3:-9223372036854775808≤(j:Int) + 1:=by omega
   have hg:x.fields[j]?=some x.fields[j]:=List.getElem?_eq_getElem hlt
   obtain ⟨a,cs,rfl,hcl,hR,hy⟩:=HG.out.at_ j hg
   rw [Nat.zero_add] at hR
   have HN:=Lib.hid (flatMap_next (f:=fldL) hg)
   have hln:=flatMap_take_le fldL x.fields (j + 1)
   rw [HN.out] at hln
   generalize x.fields[j]=y at *
   have hty:fldL y=[32]++parL y++[59]:=rfl
   rw [hty] at hln
   have HL1:Hid ((l++([116,121,112,101,32]++(x.name.data.toList++[32,115,116,114,117,99,116,32,123]))++(x.fields.take j).flatMap fldL).length + ([32]).length≤140737488355328):=by have h0:=HL.out;(try simp only [List.length_append] at h0 hln);(try simp only [List.length_append]);show _≤_;omega
   have HL2:Hid ((l++([116,121,112,101,32]++(x.name.data.toList++[32,115,116,114,117,99,116,32,123]))++(x.fields.take j).flatMap fldL++[32]).length + (parL y).length≤140737488355328):=by have h0:=HL.out;(try simp only [List.length_append] at h0 hln);(try simp only [List.length_append]);show _≤_;omega
   have HL3:Hid ((l++([116,121,112,101,32]++(x.name.data.toList++[32,115,116,114,117,99,116,32,123]))++(x.fields.take j).flatMap fldL++[32]++parL y).length + ([59]).length≤140737488355328):=by have h0:=HL.out;(try simp only [List.length_append] at h0 hln);(try simp only [List.length_append]);show _≤_;omega
   have HPA:=Lib.hid (fun (l':List UInt8) (W:World) (hp:SP w0 b m l' W)=>param_any w0 b m y _ hy l' W hp)
   have HR:=Lib.hid hR
   have HO:=Lib.hid hy.ones
   have HC:=Lib.hid hcl
   have HX3:=Lib.hid (Blk.new wr 72 cs.toArray)
   have HP3:=Lib.hid (HPr.out.alloc (.cells cs.toArray 72))
   have HK3:=Lib.hid (HKr.out.alloc HPr.out.base (.cells cs.toArray 72))
   have hbb:Hid (wr.heap.size≠b):=by have:=HPr.out.lt;show _≠_;omega
   clear hln hg hR hy hcl hty
   go_wp2_with (first
    |(go_at_call 47;refine (put1 w0 b m _ _ HP5.out _ _ rfl HL3.out).mono ?_;rintro e w6 ⟨rfl,hp,hk⟩;have HP6:=Lib.hid hp;have HK6:=Lib.hid (HK5.out.trans hk);clear hp hk)
    |(go_at_call 111;refine (HPA.out _ _ HP4.out HL2.out).mono ?_;rintro e w5 ⟨rfl,hp,hk⟩;have HP5:=Lib.hid hp;have HK5:=Lib.hid (HK4.out.trans hk);clear hp hk)
    |(refine boxLoad 72 7 size7 Tryz.underlying72 rfl _ rfl wr.heap.size rfl (cs:=cs) HX4.out HC.out ?_)
    |(go_at_call 47;refine (put1 w0 b m _ _ HP3.out _ _ (by simp) HL1.out).mono ?_;rintro e w4 ⟨rfl,hp,hk⟩;have HP4:=Lib.hid hp;have HK4:=Lib.hid (HK3.out.trans hk);have HX4:=Lib.hid (hk.blk HX3.out hbb.out (by decide));clear hp hk)
    |(refine boxNew 72 7 size7 rfl _ _ rfl rfl cs rfl rfl HC.out HO.out ?_)
    |(refine boxLoadG 72 7 size7 Tryz.underlying72 rfl _ rfl _ rfl (cs:=cs) (fun j v h=>((HPr.out.below).cell (World.block_lt_of_cell? _ _ (HR.out j v h))).trans (HR.out j v h)) HC.out ?_))
   case roundEnd =>
    refine ⟨⟨j + 1,by push_cast;rfl,by omega,HP6.out.cast ?_,HK6⟩,by simp [RowKit.intOf];omega⟩
    rw [HN.out];simp [fldL]
  ·have hlt':decide ((j:Int) < (x.fields.length:Int))=false:=by simp;omega
   have hj':Hid (x.fields.take j=x.fields):=List.take_of_length_le (by omega)
   have HPe:=HPr.out
   rw [hj'.out] at HPe
   have HPE:=Lib.hid HPe
   clear HPe
   go_wp2_with (go_at_call 47;refine (put1 w0 b m _ _ HPE.out _ _ rfl HLz.out).mono ?_;rintro e wq ⟨rfl,hp,hk⟩;have HPq:=Lib.hid hp;have HKq:=Lib.hid (HKr.out.trans hk);clear hp hk)
   first | go_end0 | refine bodyPost_ret (results_none rfl _ _ _) rfl ?_
   refine ⟨rfl,HPq.out.cast ?_,HKq.out⟩
   simp
theorem iface_any (w0:World) (b m:Nat) (x:GD) (v:Value) (hv:IsD w0 x v) (l:List UInt8) (w:World) (hp:SP w0 b m l w) :
  Does w0 b m 88 #[.pointer (some ⟨b,0,none⟩),v] ([116,121,112,101,32]++(x.name.data.toList++[32,105,110,116,101,114,102,97,99,101,32,123])++x.methods.flatMap methL++[32,125]) w l:=by
 intro hl
 obtain ⟨r0,r1,r2,r3,r4,r5,r6,ob,cb,of,cf,om,cm,t0,t1,t2,t3,t4,os,co,rfl,hln0,hrv,hbd,hfd,hmd,ht,hbo⟩:=hv
 have HX1:=Lib.hid (Blk.new w 76 #[.int .i64 x.kind,.int .i64 x.pos,.int .i64 x.stop,.string x.name,.bool x.method,r0,r1,r2,r3,r4,r5,r6,.slice ob x.bounds.length cb,.slice of x.fields.length cf,.slice om x.methods.length cm,.bool x.has,t0,t1,t2,t3,t4,.slice os x.body.length co])
 have HP1:=Lib.hid (hp.alloc (.cells #[.int .i64 x.kind,.int .i64 x.pos,.int .i64 x.stop,.string x.name,.bool x.method,r0,r1,r2,r3,r4,r5,r6,.slice ob x.bounds.length cb,.slice of x.fields.length cf,.slice om x.methods.length cm,.bool x.has,t0,t1,t2,t3,t4,.slice os x.body.length co] 76))
 have HK1:=Lib.hid ((Kq.refl w0.heap.size b w).alloc hp.base (.cells #[.int .i64 x.kind,.int .i64 x.pos,.int .i64 x.stop,.string x.name,.bool x.method,r0,r1,r2,r3,r4,r5,r6,.slice ob x.bounds.length cb,.slice of x.fields.length cf,.slice om x.methods.length cm,.bool x.has,t0,t1,t2,t3,t4,.slice os x.body.length co] 76))
 have hbb:Hid (w.heap.size≠b):=by have:=hp.lt;show _≠_;omega
 clear hp
 simp only [List.length_append] at hl
 have HLa:Hid (l.length + ([116,121,112,101,32]++(x.name.data.toList++[32,105,110,116,101,114,102,97,99,101,32,123])).length≤140737488355328):=by simp only [List.length_append];show _≤_;omega
 have HL:Hid ((l++([116,121,112,101,32]++(x.name.data.toList++[32,105,110,116,101,114,102,97,99,101,32,123]))).length + (x.methods.flatMap methL).length≤140737488355328):=by simp only [List.length_append];show _≤_;omega
 have HLz:Hid ((l++([116,121,112,101,32]++(x.name.data.toList++[32,105,110,116,101,114,102,97,99,101,32,123]))++x.methods.flatMap methL).length + ([32,125]:List UInt8).length≤140737488355328):=by simp only [List.length_append];show _≤_;omega
 have HG:=Lib.hid hmd
 have hn:=hln0.2.2.1
 clear hl hln0 hrv hbd hfd hmd ht hbo
 go_enter Tryz.func88,Tryz.ntmps88
 go_wp2_with (first
  |(go_at_call 47;refine (put3 w0 b m _ _ HP1.out _ _ _ _ (by simp) HLa.out).mono ?_;rintro e w2 ⟨rfl,hp,hk⟩;have HP2:=Lib.hid hp;have HK2:=Lib.hid (HK1.out.trans hk);have HX2:=Lib.hid (hk.blk HX1.out hbb.out (by decide));have d2:=HX2.out.cell;clear hp hk))
 go_loopw [14] (fun i wr=>∃ j:Nat,i=.int .i64 (j:Nat)∧j≤x.methods.length∧Hid (SP w0 b m (l++([116,121,112,101,32]++(x.name.data.toList++[32,105,110,116,101,114,102,97,99,101,32,123]))++(x.methods.take j).flatMap methL) wr)∧Hid (Kq w0.heap.size b w wr)) (fun i _=>x.methods.length - (RowKit.intOf i).toNat)
 case atStart=>exact ⟨0,rfl,Nat.zero_le _,by simpa [Hid] using And.intro HP2.out HK2.out⟩
 case round =>
  obtain ⟨j,rfl,hj,HPr,HKr⟩:=hrel
  by_cases hlt:j < x.methods.length
  ·have hlt':decide ((j:Int) < (x.methods.length:Int))=true:=by simp;omega
   have hj2:(j:Int) + 1≤9223372036854775807:=by omega
   have hj3:-9223372036854775808≤(j:Int) + 1:=by omega
   have hg:x.methods[j]?=some x.methods[j]:=List.getElem?_eq_getElem hlt
   obtain ⟨a,cs,rfl,hcl,hR,hy⟩:=HG.out.at_ j hg
   rw [Nat.zero_add] at hR
   have HN:=Lib.hid (flatMap_next (f:=methL) hg)
   have hln:=flatMap_take_le methL x.methods (j + 1)
   rw [HN.out] at hln
   generalize x.methods[j]=y at *
   have hty:methL y=([32]++(y.name.data.toList++[40]))++joinL' (y.params.map typL)++[41]++resL y.has y.result++[59]:=rfl
   rw [hty] at hln
   have HL1:Hid ((l++([116,121,112,101,32]++(x.name.data.toList++[32,105,110,116,101,114,102,97,99,101,32,123]))++(x.methods.take j).flatMap methL).length + ([32]++(y.name.data.toList++[40])).length≤140737488355328):=by have h0:=HL.out;(try simp only [List.length_append] at h0 hln);(try simp only [List.length_append]);show _≤_;omega
   have HL2:Hid ((l++([116,121,112,101,32]++(x.name.data.toList++[32,105,110,116,101,114,102,97,99,101,32,123]))++(x.methods.take j).flatMap methL++([32]++(y.name.data.toList++[40]))).length + (joinL' (y.params.map typL)).length≤140737488355328):=by have h0:=HL.out;(try simp only [List.length_append] at h0 hln);(try simp only [List.length_append]);show _≤_;omega
   have HL3:Hid ((l++([116,121,112,101,32]++(x.name.data.toList++[32,105,110,116,101,114,102,97,99,101,32,123]))++(x.methods.take j).flatMap methL++([32]++(y.name.data.toList++[40]))++joinL' (y.params.map typL)).length + ([41]).length≤140737488355328):=by have h0:=HL.out;(try simp only [List.length_append] at h0 hln);(try simp only [List.length_append]);show _≤_;omega
   have HL4:Hid ((l++([116,121,112,101,32]++(x.name.data.toList++[32,105,110,116,101,114,102,97,99,101,32,123]))++(x.methods.take j).flatMap methL++([32]++(y.name.data.toList++[40]))++joinL' (y.params.map typL)++[41]).length + (resL y.has y.result).length≤140737488355328):=by have h0:=HL.out;(try simp only [List.length_append] at h0 hln);(try simp only [List.length_append]);show _≤_;omega
   have HL5:Hid ((l++([116,121,112,101,32]++(x.name.data.toList++[32,105,110,116,101,114,102,97,99,101,32,123]))++(x.methods.take j).flatMap methL++([32]++(y.name.data.toList++[40]))++joinL' (y.params.map typL)++[41]++resL y.has y.result).length + ([59]).length≤140737488355328):=by have h0:=HL.out;(try simp only [List.length_append] at h0 hln);(try simp only [List.length_append]);show _≤_;omega
   have HO:=Lib.hid hy.ones
   obtain ⟨o1,c1,t0',t1',t2',t3',t4',hv',hpl,hpp,hrt⟩:=hy
   have hcs:cs=[.string y.name,.int .i64 y.pos,.slice o1 y.params.length c1,.bool y.has,t0',t1',t2',t3',t4']:=by simp only [Value.agg.injEq] at hv';have:=congrArg Array.toList hv';simpa using this
   subst hcs
   have HTY:=Lib.hid (fun (l':List UInt8) (W:World) (hp:SP w0 b m l' W)=>typesL_any w0 b m y.params o1 c1 hpl hpp l' W hp)
   have HRE:=Lib.hid (fun (l':List UInt8) (W:World) (hp:SP w0 b m l' W)=>result_any w0 b m y.has y.result _ hrt l' W hp)
   have HR:=Lib.hid hR
   clear hcl
   have HX3:=Lib.hid (Blk.new wr 111 #[.string y.name,.int .i64 y.pos,.slice o1 y.params.length c1,.bool y.has,t0',t1',t2',t3',t4'])
   have HP3:=Lib.hid (HPr.out.alloc (.cells #[.string y.name,.int .i64 y.pos,.slice o1 y.params.length c1,.bool y.has,t0',t1',t2',t3',t4'] 111))
   have HK3:=Lib.hid (HKr.out.alloc HPr.out.base (.cells #[.string y.name,.int .i64 y.pos,.slice o1 y.params.length c1,.bool y.has,t0',t1',t2',t3',t4'] 111))
   have hbb:Hid (wr.heap.size≠b):=by have:=HPr.out.lt;show _≠_;omega
   clear hln hg hR hty hv' hpl hpp hrt
   go_wp2_with (first
    |(go_at_call 47;refine (put1 w0 b m _ _ HP7.out _ _ rfl HL5.out).mono ?_;rintro e w8 ⟨rfl,hp,hk⟩;have HP8:=Lib.hid hp;have HK8:=Lib.hid (HK7.out.trans hk);clear hp hk)
    |(go_at_call 113;refine (HRE.out _ _ HP6.out HL4.out).mono ?_;rintro e w7 ⟨rfl,hp,hk⟩;have HP7:=Lib.hid hp;have HK7:=Lib.hid (HK6.out.trans hk);clear hp hk)
    |(refine boxLoadG 24 5 size5 Tryz.underlying24 rfl _ rfl ⟨wr.heap.size,4,none⟩ rfl (cs:=[t0',t1',t2',t3',t4']) (partAt HX6.out 4 5 _ rfl) rfl ?_)
    |(go_at_call 47;refine (put1 w0 b m _ _ HP5.out _ _ rfl HL3.out).mono ?_;rintro e w6 ⟨rfl,hp,hk⟩;have HP6:=Lib.hid hp;have HK6:=Lib.hid (HK5.out.trans hk);have HX6:=Lib.hid (hk.blk HX5.out hbb.out (by decide));have d6:=HX6.out.cell;clear hp hk)
    |(go_at_call 112;refine (HTY.out _ _ HP4.out HL2.out).mono ?_;rintro e w5 ⟨rfl,hp,hk⟩;have HP5:=Lib.hid hp;have HK5:=Lib.hid (HK4.out.trans hk);have HX5:=Lib.hid (hk.blk HX4.out hbb.out (by decide));have d5:=HX5.out.cell;clear hp hk)
    |(go_at_call 47;refine (put3 w0 b m _ _ HP3.out _ _ _ _ (by simp) HL1.out).mono ?_;rintro e w4 ⟨rfl,hp,hk⟩;have HP4:=Lib.hid hp;have HK4:=Lib.hid (HK3.out.trans hk);have HX4:=Lib.hid (hk.blk HX3.out hbb.out (by decide));have d4:=HX4.out.cell;clear hp hk)
    |(refine boxNew 111 9 size9 rfl _ _ rfl rfl [.string y.name,.int .i64 y.pos,.slice o1 y.params.length c1,.bool y.has,t0',t1',t2',t3',t4'] rfl rfl rfl HO.out ?_)
    |(refine boxLoadG 111 9 size9 Tryz.underlying111 rfl _ rfl _ rfl (cs:=[.string y.name,.int .i64 y.pos,.slice o1 y.params.length c1,.bool y.has,t0',t1',t2',t3',t4']) (fun j v h=>((HPr.out.below).cell (World.block_lt_of_cell? _ _ (HR.out j v h))).trans (HR.out j v h)) rfl ?_))
   case roundEnd =>
    refine ⟨⟨j + 1,by push_cast;rfl,by omega,HP8.out.cast ?_,HK8⟩,by simp [RowKit.intOf];omega⟩
    rw [HN.out];simp [methL]
  ·have hlt':decide ((j:Int) < (x.methods.length:Int))=false:=by simp;omega
   have hj':Hid (x.methods.take j=x.methods):=List.take_of_length_le (by omega)
   have HPe:=HPr.out
   rw [hj'.out] at HPe
   have HPE:=Lib.hid HPe
   clear HPe
   go_wp2_with (go_at_call 47;refine (put1 w0 b m _ _ HPE.out _ _ rfl HLz.out).mono ?_;rintro e wq ⟨rfl,hp,hk⟩;have HPq:=Lib.hid hp;have HKq:=Lib.hid (HKr.out.trans hk);clear hp hk)
   first | go_end0 | refine bodyPost_ret (results_none rfl _ _ _) rfl ?_
   refine ⟨rfl,HPq.out.cast ?_,HKq.out⟩
   simp
theorem funL_eq (x:GD):funL x=[102,117,110,99,32]++recvL x.method x.recv++x.name.data.toList++bndL x.bounds++((⟨#[40]⟩:ByteArray).data.toList++joinL' (x.fields.map parL)++(⟨#[41]⟩:ByteArray).data.toList)++resL x.has x.result++([32,123,10]++blkL (min (0 + 1) 100) x.body++tabsL 0++[125]):=rfl
theorem fun_00 (w0:World) (b m:Nat) (hT:TabW w0) (x:GD) (hme:x.method=false) (hbn:x.bounds.length=0) (v:Value) (hv:IsD w0 x v) (l:List UInt8) (w:World) (hp:SP w0 b m l w) :
  Does w0 b m 89 #[.pointer (some ⟨b,0,none⟩),v] (funL x) w l:=by
 intro hl
 obtain ⟨r0,r1,r2,r3,r4,r5,r6,ob,cb,of,cf,om,cm,t0,t1,t2,t3,t4,os,co,rfl,hln0,hrv,hbd,hfd,hmd,ht,hbo⟩:=hv
 rw [hme,hbn]
 have HX1:=Lib.hid (Blk.new w 76 #[.int .i64 x.kind,.int .i64 x.pos,.int .i64 x.stop,.string x.name,.bool false,r0,r1,r2,r3,r4,r5,r6,.slice ob 0 cb,.slice of x.fields.length cf,.slice om x.methods.length cm,.bool x.has,t0,t1,t2,t3,t4,.slice os x.body.length co])
 have HP1:=Lib.hid (hp.alloc (.cells #[.int .i64 x.kind,.int .i64 x.pos,.int .i64 x.stop,.string x.name,.bool false,r0,r1,r2,r3,r4,r5,r6,.slice ob 0 cb,.slice of x.fields.length cf,.slice om x.methods.length cm,.bool x.has,t0,t1,t2,t3,t4,.slice os x.body.length co] 76))
 have HK1:=Lib.hid ((Kq.refl w0.heap.size b w).alloc hp.base (.cells #[.int .i64 x.kind,.int .i64 x.pos,.int .i64 x.stop,.string x.name,.bool false,r0,r1,r2,r3,r4,r5,r6,.slice ob 0 cb,.slice of x.fields.length cf,.slice om x.methods.length cm,.bool x.has,t0,t1,t2,t3,t4,.slice os x.body.length co] 76))
 have hbb:Hid (w.heap.size≠b):=by have:=hp.lt;show _≠_;omega
 clear hp
 rw [funL_eq] at hl ⊢
 simp only [recvL,bndL,hme,hbn,if_true,if_false,Bool.false_eq_true,List.append_nil] at hl ⊢
 have HL1:Hid ((l).length + ([102,117,110,99,32]).length≤140737488355328):=by (try simp only [List.length_append] at hl);(try simp only [List.length_append]);show _≤_;omega
 have HL2:Hid ((l++([102,117,110,99,32])).length + (x.name.data.toList).length≤140737488355328):=by (try simp only [List.length_append] at hl);(try simp only [List.length_append]);show _≤_;omega
 have HL3:Hid ((l++([102,117,110,99,32])++(x.name.data.toList)).length + ((⟨#[40]⟩:ByteArray).data.toList++joinL' (x.fields.map parL)++(⟨#[41]⟩:ByteArray).data.toList).length≤140737488355328):=by (try simp only [List.length_append] at hl);(try simp only [List.length_append]);show _≤_;omega
 have HL4:Hid ((l++([102,117,110,99,32])++(x.name.data.toList)++((⟨#[40]⟩:ByteArray).data.toList++joinL' (x.fields.map parL)++(⟨#[41]⟩:ByteArray).data.toList)).length + (resL x.has x.result).length≤140737488355328):=by (try simp only [List.length_append] at hl);(try simp only [List.length_append]);show _≤_;omega
 have HL5:Hid ((l++([102,117,110,99,32])++(x.name.data.toList)++((⟨#[40]⟩:ByteArray).data.toList++joinL' (x.fields.map parL)++(⟨#[41]⟩:ByteArray).data.toList)++(resL x.has x.result)).length + ([32,123,10]++blkL (min (0 + 1) 100) x.body++tabsL 0++[125]).length≤140737488355328):=by (try simp only [List.length_append] at hl);(try simp only [List.length_append]);show _≤_;omega
 have HFD:=Lib.hid (fun (l':List UInt8) (W:World) (hp:SP w0 b m l' W)=>params_any w0 b m x.fields of cf hln0.2.1 hfd ⟨#[40]⟩ ⟨#[41]⟩ l' W hp)
 have HRE:=Lib.hid (fun (l':List UInt8) (W:World) (hp:SP w0 b m l' W)=>result_any w0 b m x.has x.result _ ht l' W hp)
 have HBO:=Lib.hid (fun (l':List UInt8) (W:World) (hp:SP w0 b m l' W)=>inner_of w0 b m x.body (fun y _=>stmt_any w0 b m hT _ y (Nat.lt_succ_self _)) 0 (Nat.zero_le _) os co hln0.2.2.2 hbo l' W hp)
 clear hl hln0 hrv hbd hfd hmd ht hbo hT hbn
 generalize blkL (min (0 + 1) 100) x.body=qb at *
 go_enter Tryz.func89,Tryz.ntmps89
 go_wp2_with (first
  |(go_at_call 80;refine (HBO.out _ _ HP5.out HL5.out).mono ?_;rintro e w6 ⟨rfl,hp,hk⟩;have HP6:=Lib.hid hp;have HK6:=Lib.hid (HK5.out.trans hk);clear hp hk)
  |(go_at_call 113;refine (HRE.out _ _ HP4.out HL4.out).mono ?_;rintro e w5 ⟨rfl,hp,hk⟩;have HP5:=Lib.hid hp;have HK5:=Lib.hid (HK4.out.trans hk);have HX5:=Lib.hid (hk.blk HX4.out hbb.out (by decide));have d5:=HX5.out.cell;clear hp hk)
  |(refine boxLoadG 24 5 size5 Tryz.underlying24 rfl _ rfl ⟨w.heap.size,16,none⟩ rfl (cs:=[t0,t1,t2,t3,t4]) (partAt HX4.out 16 5 _ rfl) rfl ?_)
  |(go_at_call 114;refine (HFD.out _ _ HP3.out HL3.out).mono ?_;rintro e w4 ⟨rfl,hp,hk⟩;have HP4:=Lib.hid hp;have HK4:=Lib.hid (HK3.out.trans hk);have HX4:=Lib.hid (hk.blk HX3.out hbb.out (by decide));have d4:=HX4.out.cell;clear hp hk)
  |(go_at_call 47;refine (put1 w0 b m _ _ HP2.out _ _ (by simp) HL2.out).mono ?_;rintro e w3 ⟨rfl,hp,hk⟩;have HP3:=Lib.hid hp;have HK3:=Lib.hid (HK2.out.trans hk);have HX3:=Lib.hid (hk.blk HX2.out hbb.out (by decide));have d3:=HX3.out.cell;clear hp hk)
  |(go_at_call 47;refine (put1 w0 b m _ _ HP1.out _ _ (by simp) HL1.out).mono ?_;rintro e w2 ⟨rfl,hp,hk⟩;have HP2:=Lib.hid hp;have HK2:=Lib.hid (HK1.out.trans hk);have HX2:=Lib.hid (hk.blk HX1.out hbb.out (by decide));have d2:=HX2.out.cell;clear hp hk))
 go_wp2
 first | go_end0 | refine bodyPost_ret (results_none rfl _ _ _) rfl ?_
 refine ⟨rfl,HP6.out.cast ?_,HK6.out⟩
 simp
theorem fun_01 (w0:World) (b m:Nat) (hT:TabW w0) (x:GD) (hme:x.method=false) (hbn:¬ x.bounds.length=0) (v:Value) (hv:IsD w0 x v) (l:List UInt8) (w:World) (hp:SP w0 b m l w) :
  Does w0 b m 89 #[.pointer (some ⟨b,0,none⟩),v] (funL x) w l:=by
 intro hl
 obtain ⟨r0,r1,r2,r3,r4,r5,r6,ob,cb,of,cf,om,cm,t0,t1,t2,t3,t4,os,co,rfl,hln0,hrv,hbd,hfd,hmd,ht,hbo⟩:=hv
 rw [hme]
 have HX1:=Lib.hid (Blk.new w 76 #[.int .i64 x.kind,.int .i64 x.pos,.int .i64 x.stop,.string x.name,.bool false,r0,r1,r2,r3,r4,r5,r6,.slice ob x.bounds.length cb,.slice of x.fields.length cf,.slice om x.methods.length cm,.bool x.has,t0,t1,t2,t3,t4,.slice os x.body.length co])
 have HP1:=Lib.hid (hp.alloc (.cells #[.int .i64 x.kind,.int .i64 x.pos,.int .i64 x.stop,.string x.name,.bool false,r0,r1,r2,r3,r4,r5,r6,.slice ob x.bounds.length cb,.slice of x.fields.length cf,.slice om x.methods.length cm,.bool x.has,t0,t1,t2,t3,t4,.slice os x.body.length co] 76))
 have HK1:=Lib.hid ((Kq.refl w0.heap.size b w).alloc hp.base (.cells #[.int .i64 x.kind,.int .i64 x.pos,.int .i64 x.stop,.string x.name,.bool false,r0,r1,r2,r3,r4,r5,r6,.slice ob x.bounds.length cb,.slice of x.fields.length cf,.slice om x.methods.length cm,.bool x.has,t0,t1,t2,t3,t4,.slice os x.body.length co] 76))
 have hbb:Hid (w.heap.size≠b):=by have:=hp.lt;show _≠_;omega
 clear hp
 rw [funL_eq] at hl ⊢
 simp only [recvL,bndL,hme,hbn,if_false,Bool.false_eq_true,List.append_nil] at hl ⊢
 have HL1:Hid ((l).length + ([102,117,110,99,32]).length≤140737488355328):=by (try simp only [List.length_append] at hl);(try simp only [List.length_append]);show _≤_;omega
 have HL2:Hid ((l++([102,117,110,99,32])).length + (x.name.data.toList).length≤140737488355328):=by (try simp only [List.length_append] at hl);(try simp only [List.length_append]);show _≤_;omega
 have HL3:Hid ((l++([102,117,110,99,32])++(x.name.data.toList)).length + ((⟨#[91]⟩:ByteArray).data.toList++joinL' (x.bounds.map parL)++(⟨#[93]⟩:ByteArray).data.toList).length≤140737488355328):=by (try simp only [List.length_append] at hl);(try simp only [List.length_append]);show _≤_;omega
 have HL4:Hid ((l++([102,117,110,99,32])++(x.name.data.toList)++((⟨#[91]⟩:ByteArray).data.toList++joinL' (x.bounds.map parL)++(⟨#[93]⟩:ByteArray).data.toList)).length + ((⟨#[40]⟩:ByteArray).data.toList++joinL' (x.fields.map parL)++(⟨#[41]⟩:ByteArray).data.toList).length≤140737488355328):=by (try simp only [List.length_append] at hl);(try simp only [List.length_append]);show _≤_;omega
 have HL5:Hid ((l++([102,117,110,99,32])++(x.name.data.toList)++((⟨#[91]⟩:ByteArray).data.toList++joinL' (x.bounds.map parL)++(⟨#[93]⟩:ByteArray).data.toList)++((⟨#[40]⟩:ByteArray).data.toList++joinL' (x.fields.map parL)++(⟨#[41]⟩:ByteArray).data.toList)).length + (resL x.has x.result).length≤140737488355328):=by (try simp only [List.length_append] at hl);(try simp only [List.length_append]);show _≤_;omega
 have HL6:Hid ((l++([102,117,110,99,32])++(x.name.data.toList)++((⟨#[91]⟩:ByteArray).data.toList++joinL' (x.bounds.map parL)++(⟨#[93]⟩:ByteArray).data.toList)++((⟨#[40]⟩:ByteArray).data.toList++joinL' (x.fields.map parL)++(⟨#[41]⟩:ByteArray).data.toList)++(resL x.has x.result)).length + ([32,123,10]++blkL (min (0 + 1) 100) x.body++tabsL 0++[125]).length≤140737488355328):=by (try simp only [List.length_append] at hl);(try simp only [List.length_append]);show _≤_;omega
 have HBD:=Lib.hid (fun (l':List UInt8) (W:World) (hp:SP w0 b m l' W)=>params_any w0 b m x.bounds ob cb hln0.1 hbd ⟨#[91]⟩ ⟨#[93]⟩ l' W hp)
 have HFD:=Lib.hid (fun (l':List UInt8) (W:World) (hp:SP w0 b m l' W)=>params_any w0 b m x.fields of cf hln0.2.1 hfd ⟨#[40]⟩ ⟨#[41]⟩ l' W hp)
 have HRE:=Lib.hid (fun (l':List UInt8) (W:World) (hp:SP w0 b m l' W)=>result_any w0 b m x.has x.result _ ht l' W hp)
 have HBO:=Lib.hid (fun (l':List UInt8) (W:World) (hp:SP w0 b m l' W)=>inner_of w0 b m x.body (fun y _=>stmt_any w0 b m hT _ y (Nat.lt_succ_self _)) 0 (Nat.zero_le _) os co hln0.2.2.2 hbo l' W hp)
 have hbd0:((0:Int) < (x.bounds.length:Int)):=by omega
 clear hl hln0 hrv hbd hfd hmd ht hbo hT hbn
 generalize blkL (min (0 + 1) 100) x.body=qb at *
 go_enter Tryz.func89,Tryz.ntmps89
 go_wp2_with (first
  |(go_at_call 80;refine (HBO.out _ _ HP6.out HL6.out).mono ?_;rintro e w7 ⟨rfl,hp,hk⟩;have HP7:=Lib.hid hp;have HK7:=Lib.hid (HK6.out.trans hk);clear hp hk)
  |(go_at_call 113;refine (HRE.out _ _ HP5.out HL5.out).mono ?_;rintro e w6 ⟨rfl,hp,hk⟩;have HP6:=Lib.hid hp;have HK6:=Lib.hid (HK5.out.trans hk);have HX6:=Lib.hid (hk.blk HX5.out hbb.out (by decide));have d6:=HX6.out.cell;clear hp hk)
  |(refine boxLoadG 24 5 size5 Tryz.underlying24 rfl _ rfl ⟨w.heap.size,16,none⟩ rfl (cs:=[t0,t1,t2,t3,t4]) (partAt HX5.out 16 5 _ rfl) rfl ?_)
  |(go_at_call 114;refine (HFD.out _ _ HP4.out HL4.out).mono ?_;rintro e w5 ⟨rfl,hp,hk⟩;have HP5:=Lib.hid hp;have HK5:=Lib.hid (HK4.out.trans hk);have HX5:=Lib.hid (hk.blk HX4.out hbb.out (by decide));have d5:=HX5.out.cell;clear hp hk)
  |(go_at_call 114;refine (HBD.out _ _ HP3.out HL3.out).mono ?_;rintro e w4 ⟨rfl,hp,hk⟩;have HP4:=Lib.hid hp;have HK4:=Lib.hid (HK3.out.trans hk);have HX4:=Lib.hid (hk.blk HX3.out hbb.out (by decide));have d4:=HX4.out.cell;clear hp hk)
  |(go_at_call 47;refine (put1 w0 b m _ _ HP2.out _ _ (by simp) HL2.out).mono ?_;rintro e w3 ⟨rfl,hp,hk⟩;have HP3:=Lib.hid hp;have HK3:=Lib.hid (HK2.out.trans hk);have HX3:=Lib.hid (hk.blk HX2.out hbb.out (by decide));have d3:=HX3.out.cell;clear hp hk)
  |(go_at_call 47;refine (put1 w0 b m _ _ HP1.out _ _ (by simp) HL1.out).mono ?_;rintro e w2 ⟨rfl,hp,hk⟩;have HP2:=Lib.hid hp;have HK2:=Lib.hid (HK1.out.trans hk);have HX2:=Lib.hid (hk.blk HX1.out hbb.out (by decide));have d2:=HX2.out.cell;clear hp hk))
 go_wp2
 first | go_end0 | refine bodyPost_ret (results_none rfl _ _ _) rfl ?_
 refine ⟨rfl,HP7.out.cast ?_,HK7.out⟩
 simp
theorem fun_10 (w0:World) (b m:Nat) (hT:TabW w0) (x:GD) (hme:x.method=true) (hbn:x.bounds.length=0) (v:Value) (hv:IsD w0 x v) (l:List UInt8) (w:World) (hp:SP w0 b m l w) :
  Does w0 b m 89 #[.pointer (some ⟨b,0,none⟩),v] (funL x) w l:=by
 intro hl
 obtain ⟨r0,r1,r2,r3,r4,r5,r6,ob,cb,of,cf,om,cm,t0,t1,t2,t3,t4,os,co,rfl,hln0,hrv,hbd,hfd,hmd,ht,hbo⟩:=hv
 rw [hme,hbn]
 have HX1:=Lib.hid (Blk.new w 76 #[.int .i64 x.kind,.int .i64 x.pos,.int .i64 x.stop,.string x.name,.bool true,r0,r1,r2,r3,r4,r5,r6,.slice ob 0 cb,.slice of x.fields.length cf,.slice om x.methods.length cm,.bool x.has,t0,t1,t2,t3,t4,.slice os x.body.length co])
 have HP1:=Lib.hid (hp.alloc (.cells #[.int .i64 x.kind,.int .i64 x.pos,.int .i64 x.stop,.string x.name,.bool true,r0,r1,r2,r3,r4,r5,r6,.slice ob 0 cb,.slice of x.fields.length cf,.slice om x.methods.length cm,.bool x.has,t0,t1,t2,t3,t4,.slice os x.body.length co] 76))
 have HK1:=Lib.hid ((Kq.refl w0.heap.size b w).alloc hp.base (.cells #[.int .i64 x.kind,.int .i64 x.pos,.int .i64 x.stop,.string x.name,.bool true,r0,r1,r2,r3,r4,r5,r6,.slice ob 0 cb,.slice of x.fields.length cf,.slice om x.methods.length cm,.bool x.has,t0,t1,t2,t3,t4,.slice os x.body.length co] 76))
 have hbb:Hid (w.heap.size≠b):=by have:=hp.lt;show _≠_;omega
 clear hp
 rw [funL_eq] at hl ⊢
 simp only [recvL,bndL,hme,hbn,if_true,List.append_nil] at hl ⊢
 have HL1:Hid ((l).length + ([102,117,110,99,32]).length≤140737488355328):=by (try simp only [List.length_append] at hl);(try simp only [List.length_append]);show _≤_;omega
 have HL2:Hid ((l++([102,117,110,99,32])).length + ([40]).length≤140737488355328):=by (try simp only [List.length_append] at hl);(try simp only [List.length_append]);show _≤_;omega
 have HL3:Hid ((l++([102,117,110,99,32])++([40])).length + (parL x.recv).length≤140737488355328):=by (try simp only [List.length_append] at hl);(try simp only [List.length_append]);show _≤_;omega
 have HL4:Hid ((l++([102,117,110,99,32])++([40])++(parL x.recv)).length + ([41,32]).length≤140737488355328):=by (try simp only [List.length_append] at hl);(try simp only [List.length_append]);show _≤_;omega
 have HL5:Hid ((l++([102,117,110,99,32])++([40])++(parL x.recv)++([41,32])).length + (x.name.data.toList).length≤140737488355328):=by (try simp only [List.length_append] at hl);(try simp only [List.length_append]);show _≤_;omega
 have HL6:Hid ((l++([102,117,110,99,32])++([40])++(parL x.recv)++([41,32])++(x.name.data.toList)).length + ((⟨#[40]⟩:ByteArray).data.toList++joinL' (x.fields.map parL)++(⟨#[41]⟩:ByteArray).data.toList).length≤140737488355328):=by (try simp only [List.length_append] at hl);(try simp only [List.length_append]);show _≤_;omega
 have HL7:Hid ((l++([102,117,110,99,32])++([40])++(parL x.recv)++([41,32])++(x.name.data.toList)++((⟨#[40]⟩:ByteArray).data.toList++joinL' (x.fields.map parL)++(⟨#[41]⟩:ByteArray).data.toList)).length + (resL x.has x.result).length≤140737488355328):=by (try simp only [List.length_append] at hl);(try simp only [List.length_append]);show _≤_;omega
 have HL8:Hid ((l++([102,117,110,99,32])++([40])++(parL x.recv)++([41,32])++(x.name.data.toList)++((⟨#[40]⟩:ByteArray).data.toList++joinL' (x.fields.map parL)++(⟨#[41]⟩:ByteArray).data.toList)++(resL x.has x.result)).length + ([32,123,10]++blkL (min (0 + 1) 100) x.body++tabsL 0++[125]).length≤140737488355328):=by (try simp only [List.length_append] at hl);(try simp only [List.length_append]);show _≤_;omega
 have HPA:=Lib.hid (fun (l':List UInt8) (W:World) (hp:SP w0 b m l' W)=>param_any w0 b m x.recv _ hrv l' W hp)
 have HFD:=Lib.hid (fun (l':List UInt8) (W:World) (hp:SP w0 b m l' W)=>params_any w0 b m x.fields of cf hln0.2.1 hfd ⟨#[40]⟩ ⟨#[41]⟩ l' W hp)
 have HRE:=Lib.hid (fun (l':List UInt8) (W:World) (hp:SP w0 b m l' W)=>result_any w0 b m x.has x.result _ ht l' W hp)
 have HBO:=Lib.hid (fun (l':List UInt8) (W:World) (hp:SP w0 b m l' W)=>inner_of w0 b m x.body (fun y _=>stmt_any w0 b m hT _ y (Nat.lt_succ_self _)) 0 (Nat.zero_le _) os co hln0.2.2.2 hbo l' W hp)
 clear hl hln0 hrv hbd hfd hmd ht hbo hT hbn
 generalize blkL (min (0 + 1) 100) x.body=qb at *
 go_enter Tryz.func89,Tryz.ntmps89
 go_wp2_with (first
  |(go_at_call 80;refine (HBO.out _ _ HP8.out HL8.out).mono ?_;rintro e w9 ⟨rfl,hp,hk⟩;have HP9:=Lib.hid hp;have HK9:=Lib.hid (HK8.out.trans hk);clear hp hk)
  |(go_at_call 113;refine (HRE.out _ _ HP7.out HL7.out).mono ?_;rintro e w8 ⟨rfl,hp,hk⟩;have HP8:=Lib.hid hp;have HK8:=Lib.hid (HK7.out.trans hk);have HX8:=Lib.hid (hk.blk HX7.out hbb.out (by decide));have d8:=HX8.out.cell;clear hp hk)
  |(refine boxLoadG 24 5 size5 Tryz.underlying24 rfl _ rfl ⟨w.heap.size,16,none⟩ rfl (cs:=[t0,t1,t2,t3,t4]) (partAt HX7.out 16 5 _ rfl) rfl ?_)
  |(go_at_call 114;refine (HFD.out _ _ HP6.out HL6.out).mono ?_;rintro e w7 ⟨rfl,hp,hk⟩;have HP7:=Lib.hid hp;have HK7:=Lib.hid (HK6.out.trans hk);have HX7:=Lib.hid (hk.blk HX6.out hbb.out (by decide));have d7:=HX7.out.cell;clear hp hk)
  |(go_at_call 47;refine (put1 w0 b m _ _ HP5.out _ _ (by simp) HL5.out).mono ?_;rintro e w6 ⟨rfl,hp,hk⟩;have HP6:=Lib.hid hp;have HK6:=Lib.hid (HK5.out.trans hk);have HX6:=Lib.hid (hk.blk HX5.out hbb.out (by decide));have d6:=HX6.out.cell;clear hp hk)
  |(go_at_call 47;refine (put1 w0 b m _ _ HP4.out _ _ (by simp) HL4.out).mono ?_;rintro e w5 ⟨rfl,hp,hk⟩;have HP5:=Lib.hid hp;have HK5:=Lib.hid (HK4.out.trans hk);have HX5:=Lib.hid (hk.blk HX4.out hbb.out (by decide));have d5:=HX5.out.cell;clear hp hk)
  |(go_at_call 111;refine (HPA.out _ _ HP3.out HL3.out).mono ?_;rintro e w4 ⟨rfl,hp,hk⟩;have HP4:=Lib.hid hp;have HK4:=Lib.hid (HK3.out.trans hk);have HX4:=Lib.hid (hk.blk HX3.out hbb.out (by decide));have d4:=HX4.out.cell;clear hp hk)
  |(refine boxLoadG 72 7 size7 Tryz.underlying72 rfl _ rfl ⟨w.heap.size,5,none⟩ rfl (cs:=[r0,r1,r2,r3,r4,r5,r6]) (partAt HX3.out 5 7 _ rfl) rfl ?_)
  |(go_at_call 47;refine (put1 w0 b m _ _ HP2.out _ _ (by simp) HL2.out).mono ?_;rintro e w3 ⟨rfl,hp,hk⟩;have HP3:=Lib.hid hp;have HK3:=Lib.hid (HK2.out.trans hk);have HX3:=Lib.hid (hk.blk HX2.out hbb.out (by decide));have d3:=HX3.out.cell;clear hp hk)
  |(go_at_call 47;refine (put1 w0 b m _ _ HP1.out _ _ (by simp) HL1.out).mono ?_;rintro e w2 ⟨rfl,hp,hk⟩;have HP2:=Lib.hid hp;have HK2:=Lib.hid (HK1.out.trans hk);have HX2:=Lib.hid (hk.blk HX1.out hbb.out (by decide));have d2:=HX2.out.cell;clear hp hk))
 go_wp2
 first | go_end0 | refine bodyPost_ret (results_none rfl _ _ _) rfl ?_
 refine ⟨rfl,HP9.out.cast ?_,HK9.out⟩
 simp
theorem fun_11 (w0:World) (b m:Nat) (hT:TabW w0) (x:GD) (hme:x.method=true) (hbn:¬ x.bounds.length=0) (v:Value) (hv:IsD w0 x v) (l:List UInt8) (w:World) (hp:SP w0 b m l w) :
  Does w0 b m 89 #[.pointer (some ⟨b,0,none⟩),v] (funL x) w l:=by
 intro hl
 obtain ⟨r0,r1,r2,r3,r4,r5,r6,ob,cb,of,cf,om,cm,t0,t1,t2,t3,t4,os,co,rfl,hln0,hrv,hbd,hfd,hmd,ht,hbo⟩:=hv
 rw [hme]
 have HX1:=Lib.hid (Blk.new w 76 #[.int .i64 x.kind,.int .i64 x.pos,.int .i64 x.stop,.string x.name,.bool true,r0,r1,r2,r3,r4,r5,r6,.slice ob x.bounds.length cb,.slice of x.fields.length cf,.slice om x.methods.length cm,.bool x.has,t0,t1,t2,t3,t4,.slice os x.body.length co])
 have HP1:=Lib.hid (hp.alloc (.cells #[.int .i64 x.kind,.int .i64 x.pos,.int .i64 x.stop,.string x.name,.bool true,r0,r1,r2,r3,r4,r5,r6,.slice ob x.bounds.length cb,.slice of x.fields.length cf,.slice om x.methods.length cm,.bool x.has,t0,t1,t2,t3,t4,.slice os x.body.length co] 76))
 have HK1:=Lib.hid ((Kq.refl w0.heap.size b w).alloc hp.base (.cells #[.int .i64 x.kind,.int .i64 x.pos,.int .i64 x.stop,.string x.name,.bool true,r0,r1,r2,r3,r4,r5,r6,.slice ob x.bounds.length cb,.slice of x.fields.length cf,.slice om x.methods.length cm,.bool x.has,t0,t1,t2,t3,t4,.slice os x.body.length co] 76))
 have hbb:Hid (w.heap.size≠b):=by have:=hp.lt;show _≠_;omega
 clear hp
 rw [funL_eq] at hl ⊢
 simp only [recvL,bndL,hme,hbn,if_true,if_false] at hl ⊢
 have HL1:Hid ((l).length + ([102,117,110,99,32]).length≤140737488355328):=by (try simp only [List.length_append] at hl);(try simp only [List.length_append]);show _≤_;omega
 have HL2:Hid ((l++([102,117,110,99,32])).length + ([40]).length≤140737488355328):=by (try simp only [List.length_append] at hl);(try simp only [List.length_append]);show _≤_;omega
 have HL3:Hid ((l++([102,117,110,99,32])++([40])).length + (parL x.recv).length≤140737488355328):=by (try simp only [List.length_append] at hl);(try simp only [List.length_append]);show _≤_;omega
 have HL4:Hid ((l++([102,117,110,99,32])++([40])++(parL x.recv)).length + ([41,32]).length≤140737488355328):=by (try simp only [List.length_append] at hl);(try simp only [List.length_append]);show _≤_;omega
 have HL5:Hid ((l++([102,117,110,99,32])++([40])++(parL x.recv)++([41,32])).length + (x.name.data.toList).length≤140737488355328):=by (try simp only [List.length_append] at hl);(try simp only [List.length_append]);show _≤_;omega
 have HL6:Hid ((l++([102,117,110,99,32])++([40])++(parL x.recv)++([41,32])++(x.name.data.toList)).length + ((⟨#[91]⟩:ByteArray).data.toList++joinL' (x.bounds.map parL)++(⟨#[93]⟩:ByteArray).data.toList).length≤140737488355328):=by (try simp only [List.length_append] at hl);(try simp only [List.length_append]);show _≤_;omega
 have HL7:Hid ((l++([102,117,110,99,32])++([40])++(parL x.recv)++([41,32])++(x.name.data.toList)++((⟨#[91]⟩:ByteArray).data.toList++joinL' (x.bounds.map parL)++(⟨#[93]⟩:ByteArray).data.toList)).length + ((⟨#[40]⟩:ByteArray).data.toList++joinL' (x.fields.map parL)++(⟨#[41]⟩:ByteArray).data.toList).length≤140737488355328):=by (try simp only [List.length_append] at hl);(try simp only [List.length_append]);show _≤_;omega
 have HL8:Hid ((l++([102,117,110,99,32])++([40])++(parL x.recv)++([41,32])++(x.name.data.toList)++((⟨#[91]⟩:ByteArray).data.toList++joinL' (x.bounds.map parL)++(⟨#[93]⟩:ByteArray).data.toList)++((⟨#[40]⟩:ByteArray).data.toList++joinL' (x.fields.map parL)++(⟨#[41]⟩:ByteArray).data.toList)).length + (resL x.has x.result).length≤140737488355328):=by (try simp only [List.length_append] at hl);(try simp only [List.length_append]);show _≤_;omega
 have HL9:Hid ((l++([102,117,110,99,32])++([40])++(parL x.recv)++([41,32])++(x.name.data.toList)++((⟨#[91]⟩:ByteArray).data.toList++joinL' (x.bounds.map parL)++(⟨#[93]⟩:ByteArray).data.toList)++((⟨#[40]⟩:ByteArray).data.toList++joinL' (x.fields.map parL)++(⟨#[41]⟩:ByteArray).data.toList)++(resL x.has x.result)).length + ([32,123,10]++blkL (min (0 + 1) 100) x.body++tabsL 0++[125]).length≤140737488355328):=by (try simp only [List.length_append] at hl);(try simp only [List.length_append]);show _≤_;omega
 have HPA:=Lib.hid (fun (l':List UInt8) (W:World) (hp:SP w0 b m l' W)=>param_any w0 b m x.recv _ hrv l' W hp)
 have HBD:=Lib.hid (fun (l':List UInt8) (W:World) (hp:SP w0 b m l' W)=>params_any w0 b m x.bounds ob cb hln0.1 hbd ⟨#[91]⟩ ⟨#[93]⟩ l' W hp)
 have HFD:=Lib.hid (fun (l':List UInt8) (W:World) (hp:SP w0 b m l' W)=>params_any w0 b m x.fields of cf hln0.2.1 hfd ⟨#[40]⟩ ⟨#[41]⟩ l' W hp)
 have HRE:=Lib.hid (fun (l':List UInt8) (W:World) (hp:SP w0 b m l' W)=>result_any w0 b m x.has x.result _ ht l' W hp)
 have HBO:=Lib.hid (fun (l':List UInt8) (W:World) (hp:SP w0 b m l' W)=>inner_of w0 b m x.body (fun y _=>stmt_any w0 b m hT _ y (Nat.lt_succ_self _)) 0 (Nat.zero_le _) os co hln0.2.2.2 hbo l' W hp)
 have hbd0:((0:Int) < (x.bounds.length:Int)):=by omega
 clear hl hln0 hrv hbd hfd hmd ht hbo hT hbn
 generalize blkL (min (0 + 1) 100) x.body=qb at *
 go_enter Tryz.func89,Tryz.ntmps89
 go_wp2_with (first
  |(go_at_call 80;refine (HBO.out _ _ HP9.out HL9.out).mono ?_;rintro e w10 ⟨rfl,hp,hk⟩;have HP10:=Lib.hid hp;have HK10:=Lib.hid (HK9.out.trans hk);clear hp hk)
  |(go_at_call 113;refine (HRE.out _ _ HP8.out HL8.out).mono ?_;rintro e w9 ⟨rfl,hp,hk⟩;have HP9:=Lib.hid hp;have HK9:=Lib.hid (HK8.out.trans hk);have HX9:=Lib.hid (hk.blk HX8.out hbb.out (by decide));have d9:=HX9.out.cell;clear hp hk)
  |(refine boxLoadG 24 5 size5 Tryz.underlying24 rfl _ rfl ⟨w.heap.size,16,none⟩ rfl (cs:=[t0,t1,t2,t3,t4]) (partAt HX8.out 16 5 _ rfl) rfl ?_)
  |(go_at_call 114;refine (HFD.out _ _ HP7.out HL7.out).mono ?_;rintro e w8 ⟨rfl,hp,hk⟩;have HP8:=Lib.hid hp;have HK8:=Lib.hid (HK7.out.trans hk);have HX8:=Lib.hid (hk.blk HX7.out hbb.out (by decide));have d8:=HX8.out.cell;clear hp hk)
  |(go_at_call 114;refine (HBD.out _ _ HP6.out HL6.out).mono ?_;rintro e w7 ⟨rfl,hp,hk⟩;have HP7:=Lib.hid hp;have HK7:=Lib.hid (HK6.out.trans hk);have HX7:=Lib.hid (hk.blk HX6.out hbb.out (by decide));have d7:=HX7.out.cell;clear hp hk)
  |(go_at_call 47;refine (put1 w0 b m _ _ HP5.out _ _ (by simp) HL5.out).mono ?_;rintro e w6 ⟨rfl,hp,hk⟩;have HP6:=Lib.hid hp;have HK6:=Lib.hid (HK5.out.trans hk);have HX6:=Lib.hid (hk.blk HX5.out hbb.out (by decide));have d6:=HX6.out.cell;clear hp hk)
  |(go_at_call 47;refine (put1 w0 b m _ _ HP4.out _ _ (by simp) HL4.out).mono ?_;rintro e w5 ⟨rfl,hp,hk⟩;have HP5:=Lib.hid hp;have HK5:=Lib.hid (HK4.out.trans hk);have HX5:=Lib.hid (hk.blk HX4.out hbb.out (by decide));have d5:=HX5.out.cell;clear hp hk)
  |(go_at_call 111;refine (HPA.out _ _ HP3.out HL3.out).mono ?_;rintro e w4 ⟨rfl,hp,hk⟩;have HP4:=Lib.hid hp;have HK4:=Lib.hid (HK3.out.trans hk);have HX4:=Lib.hid (hk.blk HX3.out hbb.out (by decide));have d4:=HX4.out.cell;clear hp hk)
  |(refine boxLoadG 72 7 size7 Tryz.underlying72 rfl _ rfl ⟨w.heap.size,5,none⟩ rfl (cs:=[r0,r1,r2,r3,r4,r5,r6]) (partAt HX3.out 5 7 _ rfl) rfl ?_)
  |(go_at_call 47;refine (put1 w0 b m _ _ HP2.out _ _ (by simp) HL2.out).mono ?_;rintro e w3 ⟨rfl,hp,hk⟩;have HP3:=Lib.hid hp;have HK3:=Lib.hid (HK2.out.trans hk);have HX3:=Lib.hid (hk.blk HX2.out hbb.out (by decide));have d3:=HX3.out.cell;clear hp hk)
  |(go_at_call 47;refine (put1 w0 b m _ _ HP1.out _ _ (by simp) HL1.out).mono ?_;rintro e w2 ⟨rfl,hp,hk⟩;have HP2:=Lib.hid hp;have HK2:=Lib.hid (HK1.out.trans hk);have HX2:=Lib.hid (hk.blk HX1.out hbb.out (by decide));have d2:=HX2.out.cell;clear hp hk))
 go_wp2
 first | go_end0 | refine bodyPost_ret (results_none rfl _ _ _) rfl ?_
 refine ⟨rfl,HP10.out.cast ?_,HK10.out⟩
 simp
theorem function_any (w0:World) (b m:Nat) (hT:TabW w0) (x:GD) (v:Value) (hv:IsD w0 x v) (l:List UInt8) (w:World) (hp:SP w0 b m l w) :
  Does w0 b m 89 #[.pointer (some ⟨b,0,none⟩),v] (funL x) w l:=by
 cases hme:x.method with
 |false =>
  by_cases hbn:x.bounds.length=0
  ·exact fun_00 w0 b m hT x hme hbn v hv l w hp
  ·exact fun_01 w0 b m hT x hme hbn v hv l w hp
 |true =>
  by_cases hbn:x.bounds.length=0
  ·exact fun_10 w0 b m hT x hme hbn v hv l w hp
  ·exact fun_11 w0 b m hT x hme hbn v hv l w hp
end Go.Proofs.YtfcgoainglpdlaaGreatDoor
namespace Go.Proofs.YtfcgoainglpdlaaGreatDoor
open Go.RowKit
open Go.Lib hiding intOf
theorem levels_any (w:World):Calls Tryz.prog 45 #[] w fun e w'=>e=.returned (.map (some w.heap.size))∧LvlsAt w' w.heap.size∧Below w.heap.size w w':=by
 have hmm:=@run_makeMap Tryz.prog
 have S:=KS.start w
 go_enter Tryz.func45,Tryz.ntmps45
 go_wp2_with (refine wpList_insert_own _ rfl _ _ _ 86 rfl 9 3 (Maps.string_keyed Tryz.underlying9) Tryz.underlying86 _ _ _ _ rfl S.1 (by decide) _ _ _ rfl rfl (WideMaps.keyOf_string_mk Tryz.underlying9 (by decide)) _ [] (plainElem_int Tryz.underlying3 (by decide)) ?_;intro w1 ho hg;replace S:=S.next ho hg;clear ho hg)
 go_ret
 exact ⟨rfl,S.1,S.2⟩
theorem SP.new {w w1:World} (hL:LvlsAt w1 w.heap.size) (hB:Below w.heap.size w w1):SP w w1.heap.size w.heap.size [] (w1.alloc (.cells #[.pointer none,.slice none 0 0,.map (some w.heap.size)] 96)):=by
 have hlt:w.heap.size < w1.heap.size:=by
  obtain ⟨es,clock,h1,_⟩:=hL
  exact (Array.getElem?_eq_some_iff.1 h1).1
 refine ⟨.inl ⟨hB.size,.slice none 0 0,Blk.new w1 _ _,World.ownsRow_nil _ _ _ _,by simp [Value.ownBlock]⟩,hL.same fun o hx _=>(Lib.alloc_old w1 _ _ (Array.getElem?_eq_some_iff.1 hx).1).trans hx,hB.alloc hB.size _,by omega⟩
theorem printed_Type (w:World) (c0:Addr) (out:List UInt8) (hl:out.length≤140737488355328)
  (hF:∀ (b m:Nat) (W:World),SP w b m [] W→Does w b m 26 #[.pointer (some ⟨b,0,none⟩),.pointer (some c0)] out W []) :
  Calls Tryz.prog 25 #[.func (.func 26) #[] #[.pointer (some c0)]] w fun e w'=>e=.returned (.string ⟨out.toArray⟩)∧Below w.heap.size w w':=by
 have HF:=Lib.hid hF
 have HL0:Hid (([]:List UInt8).length + out.length≤140737488355328):=by show _≤_;simpa using hl
 clear hF hl
 go_enter Tryz.func25,Tryz.ntmps25
 go_wp2_with (first
  |(go_at_call 46;refine (string_any w.heap.size w1.heap.size w.heap.size _ _ HP2.out.pw HP2.out.base).mono ?_;rintro e w3 ⟨rfl,hb⟩;have HB3:=Lib.hid (HP2.out.below.trans hb);clear hb)
  |(go_at_call 26;refine (HF.out _ _ _ HP1.out HL0.out).mono ?_;rintro e w2 ⟨rfl,hp,hk⟩;have HP2:=Lib.hid hp;clear hp hk)
  |(go_at_call 45;refine (levels_any _).mono ?_;rintro e w1 ⟨rfl,hL,hB⟩;have HP1:=Lib.hid (SP.new hL hB);clear hL hB))
 go_ret
 exact ⟨rfl,HB3.out⟩
theorem printed_Expr (w:World) (c0:Addr) (out:List UInt8) (hl:out.length≤140737488355328)
  (hF:∀ (b m:Nat) (W:World),SP w b m [] W→Does w b m 28 #[.pointer (some ⟨b,0,none⟩),.pointer (some c0)] out W []) :
  Calls Tryz.prog 25 #[.func (.func 28) #[] #[.pointer (some c0)]] w fun e w'=>e=.returned (.string ⟨out.toArray⟩)∧Below w.heap.size w w':=by
 have HF:=Lib.hid hF
 have HL0:Hid (([]:List UInt8).length + out.length≤140737488355328):=by show _≤_;simpa using hl
 clear hF hl
 go_enter Tryz.func25,Tryz.ntmps25
 go_wp2_with (first
  |(go_at_call 46;refine (string_any w.heap.size w1.heap.size w.heap.size _ _ HP2.out.pw HP2.out.base).mono ?_;rintro e w3 ⟨rfl,hb⟩;have HB3:=Lib.hid (HP2.out.below.trans hb);clear hb)
  |(go_at_call 28;refine (HF.out _ _ _ HP1.out HL0.out).mono ?_;rintro e w2 ⟨rfl,hp,hk⟩;have HP2:=Lib.hid hp;clear hp hk)
  |(go_at_call 45;refine (levels_any _).mono ?_;rintro e w1 ⟨rfl,hL,hB⟩;have HP1:=Lib.hid (SP.new hL hB);clear hL hB))
 go_ret
 exact ⟨rfl,HB3.out⟩
theorem printed_File (w:World) (c0:Addr) (out:List UInt8) (hl:out.length≤140737488355328)
  (hF:∀ (b m:Nat) (W:World),SP w b m [] W→Does w b m 36 #[.pointer (some ⟨b,0,none⟩),.pointer (some c0)] out W []) :
  Calls Tryz.prog 25 #[.func (.func 36) #[] #[.pointer (some c0)]] w fun e w'=>e=.returned (.string ⟨out.toArray⟩)∧Below w.heap.size w w':=by
 have HF:=Lib.hid hF
 have HL0:Hid (([]:List UInt8).length + out.length≤140737488355328):=by show _≤_;simpa using hl
 clear hF hl
 go_enter Tryz.func25,Tryz.ntmps25
 go_wp2_with (first
  |(go_at_call 46;refine (string_any w.heap.size w1.heap.size w.heap.size _ _ HP2.out.pw HP2.out.base).mono ?_;rintro e w3 ⟨rfl,hb⟩;have HB3:=Lib.hid (HP2.out.below.trans hb);clear hb)
  |(go_at_call 36;refine (HF.out _ _ _ HP1.out HL0.out).mono ?_;rintro e w2 ⟨rfl,hp,hk⟩;have HP2:=Lib.hid hp;clear hp hk)
  |(go_at_call 45;refine (levels_any _).mono ?_;rintro e w1 ⟨rfl,hL,hB⟩;have HP1:=Lib.hid (SP.new hL hB);clear hL hB))
 go_ret
 exact ⟨rfl,HB3.out⟩
theorem type_any (x:GT) (v:Value) (w:World) (hv:IsG w x v) (hs:(typG x).size≤140737488355328) :
  Calls Tryz.prog 11 #[v] w fun e w'=>e=.returned (.string (typG x))∧Below w.heap.size w w':=by
 obtain ⟨k,p,g,n,args⟩:=x
 have HV:=Lib.hid hv
 unfold IsG at hv
 obtain ⟨o,c,rfl,_⟩:=hv
 have H0:Hid (Below w.heap.size w (w.alloc (.cells #[.int .i64 k,.int .i64 p,.string g,.string n,.slice o args.length c] 24))):=(Below.refl _ _).alloc (Nat.le_refl _) _
 have HX:=Lib.hid (Blk.new w 24 #[.int .i64 k,.int .i64 p,.string g,.string n,.slice o args.length c])
 have HP:=Lib.hid (printed_Type (w.alloc (.cells #[.int .i64 k,.int .i64 p,.string g,.string n,.slice o args.length c] 24)) ⟨w.heap.size,0,none⟩ (typG (.mk k p g n args)).data.toList (by rw [bsize];exact hs) (fun b m W hp hl=>by
  have HP1:=Lib.hid hp
  have HK1:=Lib.hid (Kq.refl (w.alloc (.cells #[.int .i64 k,.int .i64 p,.string g,.string n,.slice o args.length c] 24)).heap.size b W)
  have HX1:=Lib.hid (HX.out.below hp.below)
  have HT:=Lib.hid (typed_any _ b m _ (.mk k p g n args) _ [] W (Nat.lt_succ_self _) (HV.out.below H0.out) hp hl)
  clear hp hl hs
  go_enter Tryz.func26,Tryz.ntmps26
  go_wp2_with (first
   |(refine boxLoad 24 5 size5 Tryz.underlying24 rfl _ rfl w.heap.size rfl (cs:=[_,_,_,_,_]) HX1.out rfl ?_)
   |(go_at_call 27;refine (HT.out).mono ?_;rintro e w2 ⟨rfl,hp,hk⟩;have HP2:=Lib.hid hp;have HK2:=Lib.hid (HK1.out.trans hk);clear hp hk))
  first | go_end0 | refine bodyPost_ret (results_none rfl _ _ _) rfl ?_
  exact ⟨rfl,HP2.out,HK2.out⟩))
 clear hs
 go_enter Tryz.func11,Tryz.ntmps11
 go_wp2_with (go_at_call 25;refine HP.out.mono ?_;rintro e w2 ⟨rfl,hb⟩;have HB:=Lib.hid (H0.out.trans (hb.mono H0.out.size));clear hb)
 go_ret
 exact ⟨rfl,HB.out⟩
theorem exprS_any (x:GX) (v:Value) (w:World) (hT:TabW w) (hv:IsX w x v) (hs:(bx 1 (levG x,plnG x)).size≤140737488355328) :
  Calls Tryz.prog 14 #[v] w fun e w'=>e=.returned (.string (bx 1 (levG x,plnG x)))∧Below w.heap.size w w':=by
 have HV:=Lib.hid hv
 obtain ⟨k,p,s,nm,n,y0,y1,y2,y3,y4,o,q,c,rfl⟩:=hv.form
 have H0:Hid (Below w.heap.size w (w.alloc (.cells #[.int .i64 k,.int .i64 p,.int .i64 s,.string nm,.int .i64 n,y0,y1,y2,y3,y4,.slice o q c] 31))):=(Below.refl _ _).alloc (Nat.le_refl _) _
 have HX:=Lib.hid (Blk.new w 31 #[.int .i64 k,.int .i64 p,.int .i64 s,.string nm,.int .i64 n,y0,y1,y2,y3,y4,.slice o q c])
 have HP:=Lib.hid (printed_Expr (w.alloc (.cells #[.int .i64 k,.int .i64 p,.int .i64 s,.string nm,.int .i64 n,y0,y1,y2,y3,y4,.slice o q c] 31)) ⟨w.heap.size,0,none⟩ (bx 1 (levG x,plnG x)).data.toList (by rw [bsize];exact hs) (fun b m W hp hl=>by
  have HP1:=Lib.hid hp
  have HK1:=Lib.hid (Kq.refl (w.alloc (.cells #[.int .i64 k,.int .i64 p,.int .i64 s,.string nm,.int .i64 n,y0,y1,y2,y3,y4,.slice o q c] 31)).heap.size b W)
  have HX1:=Lib.hid (HX.out.below hp.below)
  have HT:=Lib.hid (expr_any _ b m (hT.below H0.out) x _ 1 [] W (HV.out.below H0.out) hp hl)
  clear hp hl hs hT hv
  go_enter Tryz.func28,Tryz.ntmps28
  go_wp2_with (first
   |(refine boxLoad 31 11 size11 Tryz.underlying31 rfl _ rfl w.heap.size rfl (cs:=[_,_,_,_,_,_,_,_,_,_,_]) HX1.out rfl ?_)
   |(go_at_call 29;refine (HT.out).mono ?_;rintro e w2 ⟨rfl,hp,hk⟩;have HP2:=Lib.hid hp;have HK2:=Lib.hid (HK1.out.trans hk);clear hp hk))
  first | go_end0 | refine bodyPost_ret (results_none rfl _ _ _) rfl ?_
  exact ⟨rfl,HP2.out,HK2.out⟩))
 clear hs hT hv
 go_enter Tryz.func14,Tryz.ntmps14
 go_wp2_with (go_at_call 25;refine HP.out.mono ?_;rintro e w2 ⟨rfl,hb⟩;have HB:=Lib.hid (H0.out.trans (hb.mono H0.out.size));clear hb)
 go_ret
 exact ⟨rfl,HB.out⟩
end Go.Proofs.YtfcgoainglpdlaaGreatDoor
