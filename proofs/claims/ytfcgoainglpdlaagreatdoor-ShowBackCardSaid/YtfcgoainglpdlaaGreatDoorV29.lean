/- The program's walk of a declaration and a file; its texts of blocks and files (made by tools/genprn.py). Conditions: the text is of at most 2^47 bytes; the library's table is laid. Plain: the tokens that a tree's text has: types, expressions. Condition: the tree's names are such. Plain: what is r .. -/
import Derived.Test.YtfcgoainglpdlaaGreatDoorV28
import Derived.Test.YtfcgoainglpdlaaGreatDoorV04
import Derived.Test.YtfcgoainglpdlaaGreatDoorV26
import Derived.Test.YtfcgoainglpdlaaGreatDoorV27
import Derived.Test.YtfcgoainglpdlaaGreatDoorV13
import Derived.Test.YtfcgoainglpdlaaGreatDoorV16
set_option maxRecDepth 100000
set_option maxHeartbeats 2000000
namespace Go.Proofs.YtfcgoainglpdlaaGreatDoor
open Go.RowKit
open Go.Lib hiding intOf
theorem decl_1 (w0:World) (b m:Nat) (x:GD) (hk:x.kind=1) (v:Value) (hv:IsD w0 x v) (l:List UInt8) (w:World) (hp:SP w0 b m l w) :
  Does w0 b m 57 #[.pointer (some ⟨b,0,none⟩),v] (decL x) w l:=by
 intro hl
 have hv0:=hv
 obtain ⟨r0,r1,r2,r3,r4,r5,r6,ob,cb,of,cf,om,cm,t0,t1,t2,t3,t4,os,co,rfl,hln0,hrv,hbd,hfd,hmd,ht,hbo⟩:=hv
 rw [hk] at hv0
 rw [hk]
 have HX1:=Lib.hid (Blk.new w 76 #[.int .i64 1,.int .i64 x.pos,.int .i64 x.stop,.string x.name,.bool x.method,r0,r1,r2,r3,r4,r5,r6,.slice ob x.bounds.length cb,.slice of x.fields.length cf,.slice om x.methods.length cm,.bool x.has,t0,t1,t2,t3,t4,.slice os x.body.length co])
 have HP1:=Lib.hid (hp.alloc (.cells #[.int .i64 1,.int .i64 x.pos,.int .i64 x.stop,.string x.name,.bool x.method,r0,r1,r2,r3,r4,r5,r6,.slice ob x.bounds.length cb,.slice of x.fields.length cf,.slice om x.methods.length cm,.bool x.has,t0,t1,t2,t3,t4,.slice os x.body.length co] 76))
 have HK1:=Lib.hid ((Kq.refl w0.heap.size b w).alloc hp.base (.cells #[.int .i64 1,.int .i64 x.pos,.int .i64 x.stop,.string x.name,.bool x.method,r0,r1,r2,r3,r4,r5,r6,.slice ob x.bounds.length cb,.slice of x.fields.length cf,.slice om x.methods.length cm,.bool x.has,t0,t1,t2,t3,t4,.slice os x.body.length co] 76))
 have hbb:Hid (w.heap.size≠b):=by have:=hp.lt;show _≠_;omega
 clear hp
 have he:decL x=([116,121,112,101,32]++(x.name.data.toList++[32,115,116,114,117,99,116,32,123]))++x.fields.flatMap fldL++[32,125]:=by unfold decL;simp only [hk,if_true]
 rw [he] at hl ⊢
 have HL1:=Lib.hid hl
 have HS:=Lib.hid (fun (l':List UInt8) (W:World) (hp:SP w0 b m l' W)=>struct_any w0 b m x _ hv0 l' W hp)
 clear hl he hln0 hrv hbd hfd hmd ht hbo hv0
 generalize ([116,121,112,101,32]++(x.name.data.toList++[32,115,116,114,117,99,116,32,123]))++x.fields.flatMap fldL++[32,125]=q at *
 go_enter Tryz.func57,Tryz.ntmps57
 go_wp2_with (first
  |(refine boxLoad 76 22 size22 Tryz.underlying76 rfl _ rfl w.heap.size rfl (cs:=[_,_,_,_,_,_,_,_,_,_,_,_,_,_,_,_,_,_,_,_,_,_]) HX1.out rfl ?_)
  |(go_at_call 87;refine (HS.out _ _ HP1.out HL1.out).mono ?_;rintro e w2 ⟨rfl,hp,hk⟩;have HP2:=Lib.hid hp;have HK2:=Lib.hid (HK1.out.trans hk);clear hp hk))
 go_wp2
 first | go_end0 | refine bodyPost_ret (results_none rfl _ _ _) rfl ?_
 exact ⟨rfl,HP2.out,HK2.out⟩
theorem decl_2 (w0:World) (b m:Nat) (x:GD) (hk:x.kind=2) (v:Value) (hv:IsD w0 x v) (l:List UInt8) (w:World) (hp:SP w0 b m l w) :
  Does w0 b m 57 #[.pointer (some ⟨b,0,none⟩),v] (decL x) w l:=by
 intro hl
 have hv0:=hv
 obtain ⟨r0,r1,r2,r3,r4,r5,r6,ob,cb,of,cf,om,cm,t0,t1,t2,t3,t4,os,co,rfl,hln0,hrv,hbd,hfd,hmd,ht,hbo⟩:=hv
 rw [hk] at hv0
 rw [hk]
 have HX1:=Lib.hid (Blk.new w 76 #[.int .i64 2,.int .i64 x.pos,.int .i64 x.stop,.string x.name,.bool x.method,r0,r1,r2,r3,r4,r5,r6,.slice ob x.bounds.length cb,.slice of x.fields.length cf,.slice om x.methods.length cm,.bool x.has,t0,t1,t2,t3,t4,.slice os x.body.length co])
 have HP1:=Lib.hid (hp.alloc (.cells #[.int .i64 2,.int .i64 x.pos,.int .i64 x.stop,.string x.name,.bool x.method,r0,r1,r2,r3,r4,r5,r6,.slice ob x.bounds.length cb,.slice of x.fields.length cf,.slice om x.methods.length cm,.bool x.has,t0,t1,t2,t3,t4,.slice os x.body.length co] 76))
 have HK1:=Lib.hid ((Kq.refl w0.heap.size b w).alloc hp.base (.cells #[.int .i64 2,.int .i64 x.pos,.int .i64 x.stop,.string x.name,.bool x.method,r0,r1,r2,r3,r4,r5,r6,.slice ob x.bounds.length cb,.slice of x.fields.length cf,.slice om x.methods.length cm,.bool x.has,t0,t1,t2,t3,t4,.slice os x.body.length co] 76))
 have hbb:Hid (w.heap.size≠b):=by have:=hp.lt;show _≠_;omega
 clear hp
 have he:decL x=([116,121,112,101,32]++(x.name.data.toList++[32,105,110,116,101,114,102,97,99,101,32,123]))++x.methods.flatMap methL++[32,125]:=by unfold decL;simp only [hk,show ¬ (2:Int)=1 by decide,if_false,if_true]
 rw [he] at hl ⊢
 have HL1:=Lib.hid hl
 have HS:=Lib.hid (fun (l':List UInt8) (W:World) (hp:SP w0 b m l' W)=>iface_any w0 b m x _ hv0 l' W hp)
 clear hl he hln0 hrv hbd hfd hmd ht hbo hv0
 generalize ([116,121,112,101,32]++(x.name.data.toList++[32,105,110,116,101,114,102,97,99,101,32,123]))++x.methods.flatMap methL++[32,125]=q at *
 go_enter Tryz.func57,Tryz.ntmps57
 go_wp2_with (first
  |(refine boxLoad 76 22 size22 Tryz.underlying76 rfl _ rfl w.heap.size rfl (cs:=[_,_,_,_,_,_,_,_,_,_,_,_,_,_,_,_,_,_,_,_,_,_]) HX1.out rfl ?_)
  |(go_at_call 88;refine (HS.out _ _ HP1.out HL1.out).mono ?_;rintro e w2 ⟨rfl,hp,hk⟩;have HP2:=Lib.hid hp;have HK2:=Lib.hid (HK1.out.trans hk);clear hp hk))
 go_wp2
 first | go_end0 | refine bodyPost_ret (results_none rfl _ _ _) rfl ?_
 exact ⟨rfl,HP2.out,HK2.out⟩
theorem decl_3 (w0:World) (b m:Nat) (hT:TabW w0) (x:GD) (hk:x.kind=3) (v:Value) (hv:IsD w0 x v) (l:List UInt8) (w:World) (hp:SP w0 b m l w) :
  Does w0 b m 57 #[.pointer (some ⟨b,0,none⟩),v] (decL x) w l:=by
 intro hl
 have hv0:=hv
 obtain ⟨r0,r1,r2,r3,r4,r5,r6,ob,cb,of,cf,om,cm,t0,t1,t2,t3,t4,os,co,rfl,hln0,hrv,hbd,hfd,hmd,ht,hbo⟩:=hv
 rw [hk] at hv0
 rw [hk]
 have HX1:=Lib.hid (Blk.new w 76 #[.int .i64 3,.int .i64 x.pos,.int .i64 x.stop,.string x.name,.bool x.method,r0,r1,r2,r3,r4,r5,r6,.slice ob x.bounds.length cb,.slice of x.fields.length cf,.slice om x.methods.length cm,.bool x.has,t0,t1,t2,t3,t4,.slice os x.body.length co])
 have HP1:=Lib.hid (hp.alloc (.cells #[.int .i64 3,.int .i64 x.pos,.int .i64 x.stop,.string x.name,.bool x.method,r0,r1,r2,r3,r4,r5,r6,.slice ob x.bounds.length cb,.slice of x.fields.length cf,.slice om x.methods.length cm,.bool x.has,t0,t1,t2,t3,t4,.slice os x.body.length co] 76))
 have HK1:=Lib.hid ((Kq.refl w0.heap.size b w).alloc hp.base (.cells #[.int .i64 3,.int .i64 x.pos,.int .i64 x.stop,.string x.name,.bool x.method,r0,r1,r2,r3,r4,r5,r6,.slice ob x.bounds.length cb,.slice of x.fields.length cf,.slice om x.methods.length cm,.bool x.has,t0,t1,t2,t3,t4,.slice os x.body.length co] 76))
 have hbb:Hid (w.heap.size≠b):=by have:=hp.lt;show _≠_;omega
 clear hp
 have he:decL x=funL x:=by unfold decL;simp only [hk,show ¬ (3:Int)=1 by decide,show ¬ (3:Int)=2 by decide,if_false,if_true]
 rw [he] at hl ⊢
 have HL1:=Lib.hid hl
 have HS:=Lib.hid (fun (l':List UInt8) (W:World) (hp:SP w0 b m l' W)=>function_any w0 b m hT x _ hv0 l' W hp)
 clear hl he hln0 hrv hbd hfd hmd ht hbo hT hv0
 generalize funL x=q at *
 go_enter Tryz.func57,Tryz.ntmps57
 go_wp2_with (first
  |(refine boxLoad 76 22 size22 Tryz.underlying76 rfl _ rfl w.heap.size rfl (cs:=[_,_,_,_,_,_,_,_,_,_,_,_,_,_,_,_,_,_,_,_,_,_]) HX1.out rfl ?_)
  |(go_at_call 89;refine (HS.out _ _ HP1.out HL1.out).mono ?_;rintro e w2 ⟨rfl,hp,hk⟩;have HP2:=Lib.hid hp;have HK2:=Lib.hid (HK1.out.trans hk);clear hp hk))
 go_wp2
 first | go_end0 | refine bodyPost_ret (results_none rfl _ _ _) rfl ?_
 exact ⟨rfl,HP2.out,HK2.out⟩
theorem decl_no (w0:World) (b m:Nat) (x:GD) (hk:x.kind≠1∧x.kind≠2∧x.kind≠3) (v:Value) (hv:IsD w0 x v) (l:List UInt8) (w:World) (hp:SP w0 b m l w) :
  Does w0 b m 57 #[.pointer (some ⟨b,0,none⟩),v] (decL x) w l:=by
 intro hl
 obtain ⟨r0,r1,r2,r3,r4,r5,r6,ob,cb,of,cf,om,cm,t0,t1,t2,t3,t4,os,co,rfl,hln0,hrv,hbd,hfd,hmd,ht,hbo⟩:=hv
 have HX1:=Lib.hid (Blk.new w 76 #[.int .i64 x.kind,.int .i64 x.pos,.int .i64 x.stop,.string x.name,.bool x.method,r0,r1,r2,r3,r4,r5,r6,.slice ob x.bounds.length cb,.slice of x.fields.length cf,.slice om x.methods.length cm,.bool x.has,t0,t1,t2,t3,t4,.slice os x.body.length co])
 have HP1:=Lib.hid (hp.alloc (.cells #[.int .i64 x.kind,.int .i64 x.pos,.int .i64 x.stop,.string x.name,.bool x.method,r0,r1,r2,r3,r4,r5,r6,.slice ob x.bounds.length cb,.slice of x.fields.length cf,.slice om x.methods.length cm,.bool x.has,t0,t1,t2,t3,t4,.slice os x.body.length co] 76))
 have HK1:=Lib.hid ((Kq.refl w0.heap.size b w).alloc hp.base (.cells #[.int .i64 x.kind,.int .i64 x.pos,.int .i64 x.stop,.string x.name,.bool x.method,r0,r1,r2,r3,r4,r5,r6,.slice ob x.bounds.length cb,.slice of x.fields.length cf,.slice om x.methods.length cm,.bool x.has,t0,t1,t2,t3,t4,.slice os x.body.length co] 76))
 have hbb:Hid (w.heap.size≠b):=by have:=hp.lt;show _≠_;omega
 clear hp
 have he:decL x=[63]:=by unfold decL;simp only [hk.1,hk.2.1,hk.2.2,if_false]
 rw [he] at hl ⊢
 have HL1:=Lib.hid hl
 have h1:=hk.1
 have h2:=hk.2.1
 have h3:=hk.2.2
 clear hl he hln0 hrv hbd hfd hmd ht hbo hk
 generalize x.kind=k at *
 go_enter Tryz.func57,Tryz.ntmps57
 go_wp2_with (first
  |(go_at_call 47;refine (put1 w0 b m _ _ HP1.out _ _ (by simp) HL1.out).mono ?_;rintro e w2 ⟨rfl,hp,hk⟩;have HP2:=Lib.hid hp;have HK2:=Lib.hid (HK1.out.trans hk);clear hp hk))
 go_wp2
 first | go_end0 | refine bodyPost_ret (results_none rfl _ _ _) rfl ?_
 exact ⟨rfl,HP2.out,HK2.out⟩
theorem size4:(Tryz.prog.info? 42).map (·.size)=some 4:=by kernel_rfl
theorem decl_any (w0:World) (b m:Nat) (hT:TabW w0) (x:GD) (v:Value) (hv:IsD w0 x v) (l:List UInt8) (w:World) (hp:SP w0 b m l w) :
  Does w0 b m 57 #[.pointer (some ⟨b,0,none⟩),v] (decL x) w l:=by
 by_cases h1:x.kind=1
 ·exact decl_1 w0 b m x h1 v hv l w hp
 by_cases h2:x.kind=2
 ·exact decl_2 w0 b m x h2 v hv l w hp
 by_cases h3:x.kind=3
 ·exact decl_3 w0 b m hT x h3 v hv l w hp
 ·exact decl_no w0 b m x ⟨h1,h2,h3⟩ v hv l w hp
theorem file_any (w0:World) (b m:Nat) (hT:TabW w0) (x:GF) (v:Value) (hv:IsF w0 x v) (l:List UInt8) (w:World) (hp:SP w0 b m l w) :
  Does w0 b m 37 #[.pointer (some ⟨b,0,none⟩),v] (filL x) w l:=by
 intro hl
 obtain ⟨oi,ci,od,cd,rfl,hln0,him,hde⟩:=hv
 unfold filL at hl
 unfold filL
 have HX1:=Lib.hid (Blk.new w 42 #[.string x.name,.int .i64 x.pos,.slice oi x.imports.length ci,.slice od x.decls.length cd])
 have HP1:=Lib.hid (hp.alloc (.cells #[.string x.name,.int .i64 x.pos,.slice oi x.imports.length ci,.slice od x.decls.length cd] 42))
 have HK1:=Lib.hid ((Kq.refl w0.heap.size b w).alloc hp.base (.cells #[.string x.name,.int .i64 x.pos,.slice oi x.imports.length ci,.slice od x.decls.length cd] 42))
 have hb0:Hid (w.heap.size≠b):=by have:=hp.lt;show _≠_;omega
 clear hp
 simp only [List.length_append] at hl
 have HLa:Hid (l.length + ([112,97,99,107,97,103,101,32]++(x.name.data.toList++[59,10])).length≤140737488355328):=by simp only [List.length_append];show _≤_;omega
 have HL:Hid ((l++([112,97,99,107,97,103,101,32]++(x.name.data.toList++[59,10]))).length + (x.imports.flatMap impL).length≤140737488355328):=by simp only [List.length_append];show _≤_;omega
 have HLd:Hid ((l++([112,97,99,107,97,103,101,32]++(x.name.data.toList++[59,10]))++x.imports.flatMap impL).length + (x.decls.flatMap dclL).length≤140737488355328):=by simp only [List.length_append];show _≤_;omega
 have HG:=Lib.hid him
 have HGd:=Lib.hid hde
 have HTT:=Lib.hid hT
 have hn1:=hln0.1
 have hn2:=hln0.2
 clear hl hln0 him hde hT
 go_enter Tryz.func37,Tryz.ntmps37
 go_wp2_with (first
  |(go_at_call 47;refine (put3 w0 b m _ _ HP1.out _ _ _ _ (by simp) HLa.out).mono ?_;rintro e w2 ⟨rfl,hp,hk⟩;have HP2:=Lib.hid hp;have HK2:=Lib.hid (HK1.out.trans hk);have HX2:=Lib.hid (hk.blk HX1.out hb0.out (by decide));have d2:=HX2.out.cell;clear hp hk))
 go_loopw [16] (fun i wr=>∃ j:Nat,i=.int .i64 (j:Nat)∧j≤x.imports.length∧Hid (SP w0 b m (l++([112,97,99,107,97,103,101,32]++(x.name.data.toList++[59,10]))++(x.imports.take j).flatMap impL) wr)∧Hid (Kq w0.heap.size b w wr)∧Hid (Blk wr w.heap.size 42 #[.string x.name,.int .i64 x.pos,.slice oi x.imports.length ci,.slice od x.decls.length cd])) (fun i _=>x.imports.length - (RowKit.intOf i).toNat)
 case atStart=>exact ⟨0,rfl,Nat.zero_le _,by exact ⟨HP2.out.cast (by simp),HK2,HX2⟩⟩
 case round =>
  obtain ⟨j,rfl,hj,HPr,HKr,HXr⟩:=hrel
  by_cases hlt:j < x.imports.length
  ·have hlt':decide ((j:Int) < (x.imports.length:Int))=true:=by simp;omega
   have hj2:(j:Int) + 1≤9223372036854775807:=by omega
   have hj3:-9223372036854775808≤(j:Int) + 1:=by omega
   have hg:x.imports[j]?=some x.imports[j]:=List.getElem?_eq_getElem hlt
   obtain ⟨a,cs,rfl,hcl,hR,hy⟩:=HG.out.at_ j hg
   rw [Nat.zero_add] at hR
   have HN:=Lib.hid (flatMap_next (f:=impL) hg)
   have hln:=flatMap_take_le impL x.imports (j + 1)
   rw [HN.out] at hln
   generalize x.imports[j]=y at *
   have hty:impL y=[105,109,112,111,114,116,32]++(y.1.data.toList++[59,10]):=rfl
   rw [hty] at hln
   have HL1:Hid ((l++([112,97,99,107,97,103,101,32]++(x.name.data.toList++[59,10]))++(x.imports.take j).flatMap impL).length + ([105,109,112,111,114,116,32]++(y.1.data.toList++[59,10])).length≤140737488355328):=by have h0:=HL.out;(try simp only [List.length_append] at h0 hln);(try simp only [List.length_append]);show _≤_;omega
   have HO:=Lib.hid hy.ones
   have hcs:cs=[.string y.1,.int .i64 y.2]:=by unfold IsN at hy;simp only [Value.agg.injEq] at hy;have:=congrArg Array.toList hy;simpa using this
   subst hcs
   have HR:=Lib.hid hR
   clear hcl
   have HX3:=Lib.hid (Blk.new wr 69 #[.string y.1,.int .i64 y.2])
   have HP3:=Lib.hid (HPr.out.alloc (.cells #[.string y.1,.int .i64 y.2] 69))
   have HK3:=Lib.hid (HKr.out.alloc HPr.out.base (.cells #[.string y.1,.int .i64 y.2] 69))
   have HXR:=Lib.hid (HXr.out.below ((Below.refl _ _).alloc (Nat.le_refl _) (.cells #[.string y.1,.int .i64 y.2] 69)))
   have hbb:Hid (wr.heap.size≠b):=by have:=HPr.out.lt;show _≠_;omega
   clear hln hg hR hty hy
   go_wp2_with (first
    |(go_at_call 47;refine (put3 w0 b m _ _ HP3.out _ _ _ _ (by simp) HL1.out).mono ?_;rintro e w4 ⟨rfl,hp,hk⟩;have HP4:=Lib.hid hp;have HK4:=Lib.hid (HK3.out.trans hk);have HX5:=Lib.hid (hk.blk HXR.out hb0.out (by decide));clear hp hk)
    |(refine boxNew 69 2 size2 rfl _ _ rfl rfl [.string y.1,.int .i64 y.2] rfl rfl rfl HO.out ?_)
    |(refine boxLoadG 69 2 size2 Tryz.underlying69 rfl _ rfl _ rfl (cs:=[.string y.1,.int .i64 y.2]) (fun j v h=>((HPr.out.below).cell (World.block_lt_of_cell? _ _ (HR.out j v h))).trans (HR.out j v h)) rfl ?_))
   case roundEnd =>
    refine ⟨⟨j + 1,by push_cast;rfl,by omega,HP4.out.cast ?_,HK4,HX5⟩,by simp [RowKit.intOf];omega⟩
    rw [HN.out];simp [impL]
  ·have hlt':decide ((j:Int) < (x.imports.length:Int))=false:=by simp;omega
   have hj':Hid (x.imports.take j=x.imports):=List.take_of_length_le (by omega)
   have HPe:=HPr.out
   rw [hj'.out] at HPe
   have HPE:=Lib.hid HPe
   clear HPe
   clear HPr
   have d2:=HXr.out.cell
   go_wp2
   go_loopw [29] (fun i wr=>∃ j:Nat,i=.int .i64 (j:Nat)∧j≤x.decls.length∧Hid (SP w0 b m (l++([112,97,99,107,97,103,101,32]++(x.name.data.toList++[59,10]))++x.imports.flatMap impL++(x.decls.take j).flatMap dclL) wr)∧Hid (Kq w0.heap.size b w wr)) (fun i _=>x.decls.length - (RowKit.intOf i).toNat)
   case atStart=>exact ⟨0,rfl,Nat.zero_le _,by simpa [Hid] using And.intro HPE.out HKr.out⟩
   case round =>
    obtain ⟨j,rfl,hj,HPr,HKr⟩:=hrel
    by_cases hlt:j < x.decls.length
    ·have hlt':decide ((j:Int) < (x.decls.length:Int))=true:=by simp;omega
     have hj2:(j:Int) + 1≤9223372036854775807:=by omega
     have hj3:-9223372036854775808≤(j:Int) + 1:=by omega
     have hg:x.decls[j]?=some x.decls[j]:=List.getElem?_eq_getElem hlt
     obtain ⟨a,cs,rfl,hcl,hR,hy⟩:=HGd.out.at_ j hg
     rw [Nat.zero_add] at hR
     have HN:=Lib.hid (flatMap_next (f:=dclL) hg)
     have hln:=flatMap_take_le dclL x.decls (j + 1)
     rw [HN.out] at hln
     generalize x.decls[j]=y at *
     have hty:dclL y=decL y++[10]:=rfl
     rw [hty] at hln
     have HL1:Hid ((l++([112,97,99,107,97,103,101,32]++(x.name.data.toList++[59,10]))++x.imports.flatMap impL++(x.decls.take j).flatMap dclL).length + (decL y).length≤140737488355328):=by have h0:=HLd.out;(try simp only [List.length_append] at h0 hln);(try simp only [List.length_append]);show _≤_;omega
     have HL2:Hid ((l++([112,97,99,107,97,103,101,32]++(x.name.data.toList++[59,10]))++x.imports.flatMap impL++(x.decls.take j).flatMap dclL++decL y).length + ([10]).length≤140737488355328):=by have h0:=HLd.out;(try simp only [List.length_append] at h0 hln);(try simp only [List.length_append]);show _≤_;omega
     have HDE:=Lib.hid (fun (l':List UInt8) (W:World) (hp:SP w0 b m l' W)=>decl_any w0 b m HTT.out y _ hy l' W hp)
     have HR:=Lib.hid hR
     have HO:=Lib.hid hy.ones
     have HC:=Lib.hid hcl
     have HX3:=Lib.hid (Blk.new wr 76 cs.toArray)
     have HP3:=Lib.hid (HPr.out.alloc (.cells cs.toArray 76))
     have HK3:=Lib.hid (HKr.out.alloc HPr.out.base (.cells cs.toArray 76))
     have hbb:Hid (wr.heap.size≠b):=by have:=HPr.out.lt;show _≠_;omega
     clear hln hg hR hy hcl hty
     go_wp2_with (first
      |(go_at_call 47;refine (put1 w0 b m _ _ HP4.out _ _ rfl HL2.out).mono ?_;rintro e w5 ⟨rfl,hp,hk⟩;have HP5:=Lib.hid hp;have HK5:=Lib.hid (HK4.out.trans hk);clear hp hk)
      |(go_at_call 57;refine (HDE.out _ _ HP3.out HL1.out).mono ?_;rintro e w4 ⟨rfl,hp,hk⟩;have HP4:=Lib.hid hp;have HK4:=Lib.hid (HK3.out.trans hk);clear hp hk)
      |(refine boxLoad 76 22 size22 Tryz.underlying76 rfl _ rfl wr.heap.size rfl (cs:=cs) HX3.out HC.out ?_)
      |(refine boxNew 76 22 size22 rfl _ _ rfl rfl cs rfl rfl HC.out HO.out ?_)
      |(refine boxLoadG 76 22 size22 Tryz.underlying76 rfl _ rfl _ rfl (cs:=cs) (fun j v h=>((HPr.out.below).cell (World.block_lt_of_cell? _ _ (HR.out j v h))).trans (HR.out j v h)) HC.out ?_))
     case roundEnd =>
      refine ⟨⟨j + 1,by push_cast;rfl,by omega,HP5.out.cast ?_,HK5⟩,by simp [RowKit.intOf];omega⟩
      rw [HN.out];simp [dclL]
    ·have hlt':decide ((j:Int) < (x.decls.length:Int))=false:=by simp;omega
     have hj':Hid (x.decls.take j=x.decls):=List.take_of_length_le (by omega)
     have HPe:=HPr.out
     rw [hj'.out] at HPe
     have HPE:=Lib.hid HPe
     clear HPe
     go_wp2
     first | go_end0 | refine bodyPost_ret (results_none rfl _ _ _) rfl ?_
     refine ⟨rfl,HPE.out.cast ?_,HKr.out⟩
     simp
theorem fileS_any (x:GF) (v:Value) (w:World) (hT:TabW w) (hv:IsF w x v) (hs:(filL x).length≤140737488355328) :
  Calls Tryz.prog 20 #[v] w fun e w'=>e=.returned (.string ⟨(filL x).toArray⟩)∧Below w.heap.size w w':=by
 have HV:=Lib.hid hv
 obtain ⟨oi,ci,od,cd,rfl,_⟩:=hv
 have H0:Hid (Below w.heap.size w (w.alloc (.cells #[.string x.name,.int .i64 x.pos,.slice oi x.imports.length ci,.slice od x.decls.length cd] 42))):=(Below.refl _ _).alloc (Nat.le_refl _) _
 have HX:=Lib.hid (Blk.new w 42 #[.string x.name,.int .i64 x.pos,.slice oi x.imports.length ci,.slice od x.decls.length cd])
 have HP:=Lib.hid (printed_File (w.alloc (.cells #[.string x.name,.int .i64 x.pos,.slice oi x.imports.length ci,.slice od x.decls.length cd] 42)) ⟨w.heap.size,0,none⟩ (filL x) hs (fun b m W hp hl=>by
  have HP1:=Lib.hid hp
  have HK1:=Lib.hid (Kq.refl (w.alloc (.cells #[.string x.name,.int .i64 x.pos,.slice oi x.imports.length ci,.slice od x.decls.length cd] 42)).heap.size b W)
  have HX1:=Lib.hid (HX.out.below hp.below)
  have HT:=Lib.hid (file_any _ b m (hT.below H0.out) x _ (HV.out.below H0.out) [] W hp hl)
  clear hp hl hs hT
  go_enter Tryz.func36,Tryz.ntmps36
  go_wp2_with (first
   |(refine boxLoad 42 4 size4 Tryz.underlying42 rfl _ rfl w.heap.size rfl (cs:=[_,_,_,_]) HX1.out rfl ?_)
   |(go_at_call 37;refine (HT.out).mono ?_;rintro e w2 ⟨rfl,hp,hk⟩;have HP2:=Lib.hid hp;have HK2:=Lib.hid (HK1.out.trans hk);clear hp hk))
  first | go_end0 | refine bodyPost_ret (results_none rfl _ _ _) rfl ?_
  exact ⟨rfl,HP2.out,HK2.out⟩))
 clear hs hT
 go_enter Tryz.func20,Tryz.ntmps20
 go_wp2_with (go_at_call 25;refine HP.out.mono ?_;rintro e w2 ⟨rfl,hb⟩;have HB:=Lib.hid (H0.out.trans (hb.mono H0.out.size));clear hb)
 go_ret
 exact ⟨rfl,HB.out⟩
end Go.Proofs.YtfcgoainglpdlaaGreatDoor
namespace Go.Proofs.YtfcgoainglpdlaaGreatDoor
open Go.RowKit
open Go.Lib hiding intOf
def sym (c:UInt8):Key:=(4,[c])
theorem fineK_of {k:Int} {c:UInt8} {r:List UInt8} (h:(decide (lay c=false) && decide (c≠47) && decide (kln (c::r)=(k,(c::r).length)) && decide (c≠34))=true):fineK (k,c::r):=by
 simp only [Bool.and_eq_true,decide_eq_true_eq] at h
 exact ⟨c,r,rfl,h.1.1.1,h.1.1.2,h.1.2,fun e=>absurd e h.2⟩
def wordT (k:Int):List UInt8:=if k=1 then [105,110,116] else if k=2 then [98,111,111,108] else [116,101,120,116]
def cT:TX→List Key
 |.leaf k _ g n=>if k=4 then (if g=⟨#[]⟩ then [(1,n.data.toList)] else [(1,g.data.toList),sym 46,(1,n.data.toList)]) else [(5,wordT k)]
 |.list _ x=>sym 91::sym 93::cT x
def wfT:TX→Prop
 |.leaf k _ g n=>(k=1∨k=2∨k=3)∨(k=4∧okK (1,n.data.toList)∧(g=⟨#[]⟩∨okK (1,g.data.toList)))
 |.list _ x=>wfT x
theorem LB.words:∀ k:Int,(k=1∨k=2∨k=3)→LB (wordT k) [(5,wordT k)]:=by
 rintro k (rfl | rfl | rfl)
 ·exact LB.fine (fineK_of (by decide +kernel))
 ·exact LB.fine (fineK_of (by decide +kernel))
 ·exact LB.fine (fineK_of (by decide +kernel))
theorem lb_T:∀ t:TX,wfT t→LB (typG (toGT t)).data.toList (cT t)
 |.leaf k p g n,h=>by
  unfold wfT at h
  unfold toGT cT
  rcases h with h | ⟨rfl,hn,hg⟩
  ·have e:(typG (.mk k p g n [])).data.toList=wordT k:=by rcases h with rfl | rfl | rfl <;> (rw [typG];rfl)
   rw [e,if_neg (by omega)]
   exact LB.words k h
  ·rw [if_pos rfl]
   by_cases hg0:g=⟨#[]⟩
   ·subst hg0
    rw [if_pos rfl]
    have e:(typG (.mk 4 p ⟨#[]⟩ n [])).data.toList=n.data.toList:=by rw [typG];simp
    rw [e]
    exact LB.fine (q:=(1,n.data.toList)) hn.1
   ·rw [if_neg hg0,typG_4b p g n [] hg0]
    have h1:=LB.fine (q:=(1,g.data.toList)) (hg.resolve_left hg0).1
    have h2:=h1.app (s':=[46]) (Sh.mk (by decide)) (LA.sym (c:=46) (by decide))
    exact h2.appB (LB.fine (q:=(1,n.data.toList)) hn.1)
 |.list p x,h=>by
  unfold wfT at h
  unfold toGT cT
  rw [typG_5b]
  have h1:=(LA.sym (c:=91) (by decide)).app (LA.sym (c:=93) (by decide))
  exact h1.appB (lb_T x h)
theorem okT:∀ t:TX,wfT t→∀ q ∈ cT t,okK q
 |.leaf k p g n,h=>by
  unfold wfT at h
  unfold cT
  intro q hq
  rcases h with h | ⟨rfl,hn,hg⟩
  ·rw [if_neg (by omega)] at hq
   simp only [List.mem_singleton] at hq
   subst hq
   rcases h with rfl | rfl | rfl <;> exact ⟨fineK_of (by decide +kernel),by decide⟩
  ·rw [if_pos rfl] at hq
   split at hq
   ·simp only [List.mem_singleton] at hq;subst hq;exact hn
   ·next hg0 =>
    simp only [List.mem_cons,List.not_mem_nil,or_false] at hq
    rcases hq with rfl | rfl | rfl
    ·exact hg.resolve_left hg0
    ·exact ⟨fineK_of (by decide +kernel),by decide⟩
    ·exact hn
 |.list p x,h=>by
  unfold wfT at h
  unfold cT
  intro q hq
  simp only [List.mem_cons] at hq
  rcases hq with rfl | rfl | hq
  ·exact ⟨fineK_of (by decide +kernel),by decide⟩
  ·exact ⟨fineK_of (by decide +kernel),by decide⟩
  ·exact okT x h q hq
def EX.nm:EX→ByteArray
 |.mk _ _ _ _ n _ _=>n
def levE (x:EX):Int:=levK x.kind x.nm
theorem levG_toGX (x:EX):levG (toGX x)=levE x:=by cases x;unfold toGX levG;rfl
def brk (m:Int) (q:Int × List Key):List Key:=if q.1 < m then [sym 40]++q.2++[sym 41] else q.2
def cAt (l:List (Int × List Key)) (i:Nat) (m:Int):List Key:=match l[i]? with
 |some q=>brk m q
 |none=>[]
def cR:List (Int × List Key)→List Key
 |[]=>[]
 |q::r=>[sym 44]++brk 1 q++cR r
def cJ:List (Int × List Key)→List Key
 |[]=>[]
 |q::r=>brk 1 q++cR r
mutual
def cX:EX→List Key
 |.mk k _ _ n nm t args =>
  if k=1 then [(2,Lib.itoa n)] else if k=2 then [(3,[34]++nm.data.toList++[34])]
  else if k=3 then (if n=1 then [(5,[116,114,117,101])] else [(5,[102,97,108,115,101])])
  else if k=4 then [(1,nm.data.toList)] else if k=5 then cAt (cXs args) 0 6++[sym 46]++[(1,nm.data.toList)]
  else if k=6 then cAt (cXs args) 0 6++[sym 40]++cJ ((cXs args).drop 1)++[sym 41]
  else if k=7 then cAt (cXs args) 0 6++[sym 91]++cAt (cXs args) 1 1++[sym 93]
  else if k=8 then [(5,[110,101,119])]++cT t++[sym 123]++cJ (cXs args)++[sym 125]
  else if k=10 then [sym 33]++cAt (cXs args) 0 5
  else cAt (cXs args) 0 (levK 9 nm)++[(4,nm.data.toList)]++cAt (cXs args) 1 (levK 9 nm + 1)
def cXs:List EX→List (Int × List Key)
 |[]=>[]
 |y::r=>(levE y,cX y)::cXs r
end
theorem cXs_map:∀ l:List EX,cXs l=l.map fun y=>(levE y,cX y)
 |[]=>by rw [cXs];rfl
 |y::r=>by rw [cXs,cXs_map r];rfl
def opsK:List (List UInt8):=[[38,38],[61,61],[60],[43],[45],[42]]
mutual
def wfX:EX→Prop
  | .mk k _ _ n nm t args=>wfXs args∧(0≤n∧n≤999999999999999) ∧
    ((k=1∧okK (2,Lib.itoa n))∨(k=2∧okK (3,[34]++nm.data.toList++[34]))∨(k=3∧(n=0∨n=1))∨(k=4∧okK (1,nm.data.toList)) ∨
     (k=5∧args.length=1∧okK (1,nm.data.toList))∨(k=6∧1≤args.length)∨(k=7∧args.length=2)∨(k=8∧wfT t)∨(k=9∧args.length=2∧nm.data.toList ∈ opsK)∨(k=10∧args.length=1))
def wfXs:List EX→Prop
 |[]=>True
 |y::r=>wfX y∧wfXs r
end
theorem wfXs_mem:∀ {l:List EX} {y:EX},wfXs l→y ∈ l→wfX y
 |[],_,_,h=>by cases h
 |x::r,y,h,hy=>by
  unfold wfXs at h
  rcases List.mem_cons.1 hy with rfl | hy
  ·exact h.1
  ·exact wfXs_mem h.2 hy
mutual
theorem wfX.num:∀ {x:EX},wfX x→numX x=true
 |.mk k p s n nm t args,h=>by
  unfold wfX at h
  unfold numX
  have h1:=h.2.1
  have:numXs args=true:=wfXs.num h.1
  simp only [this,Bool.and_true,decide_eq_true_eq]
  omega
theorem wfXs.num:∀ {l:List EX},wfXs l→numXs l=true
 |[],_=>by unfold numXs;rfl
 |y::r,h=>by
  unfold wfXs at h
  unfold numXs
  rw [wfX.num h.1,wfXs.num h.2]
  rfl
end
theorem lb_bx {m k:Int} {s:ByteArray} {ts:List Key} (h:LB s.data.toList ts):LB (bx m (k,s)).data.toList (brk m (k,ts)):=by
 unfold brk
 by_cases hk:k < m
 ·rw [bx_yes hk,if_pos hk]
  have h1:=(LA.sym (c:=40) (by decide)).appB h
  exact (h1.app (s':=[41]) (Sh.mk (by decide)) (LA.sym (c:=41) (by decide))).b
 ·rw [bx_no hk,if_neg hk]
  exact h
theorem lb_at {args:List EX} (h:∀ y ∈ args,LB (plnG (toGX y)).data.toList (cX y)) {i:Nat} (hi:i < args.length) (m:Int):LB (argB (plsG (toGXs args)) i m).data.toList (cAt (cXs args) i m):=by
 unfold argB cAt
 rw [pls_at,toGXs_map,cXs_map]
 simp only [List.getElem?_map,List.getElem?_eq_getElem hi,Option.map_some,levG_toGX]
 exact lb_bx (h _ (List.getElem_mem hi))
theorem lb_R:∀ {args:List EX},(∀ y ∈ args,LB (plnG (toGX y)).data.toList (cX y))→LB (restB (plsG (toGXs args))).data.toList (cR (cXs args))∧(args≠[]→Sh (restB (plsG (toGXs args))).data.toList)
 |[],_=>by
  unfold toGXs plsG restB cXs cR
  exact ⟨LA.nil.b,fun h=>absurd rfl h⟩
 |y::r,h=>by
  unfold toGXs plsG cXs
  rw [restB,cR]
  have e:(⟨#[44,32]⟩++bx 1 (levG (toGX y),plnG (toGX y))++restB (plsG (toGXs r)):ByteArray).data.toList=[44]++([32]++(bx 1 (levG (toGX y),plnG (toGX y))).data.toList)++(restB (plsG (toGXs r))).data.toList:=by
   simp [ByteArray.data_append]
  rw [e,levG_toGX]
  have h1:LB (bx 1 (levE y,plnG (toGX y))).data.toList (brk 1 (levE y,cX y)):=lb_bx (h y (by simp))
  have h2:=(LA.sym (c:=44) (by decide)).appB ((LA.lay (c:=32) (by decide)).appB h1)
  obtain ⟨h3,h4⟩:=lb_R (args:=r) fun z hz=>h z (by simp [hz])
  refine ⟨?_,fun _=>?_⟩
  ·by_cases hr:r=[]
   ·subst hr
    unfold toGXs plsG restB cXs cR
    rw [show (⟨#[]⟩:ByteArray).data.toList=[] from rfl,List.append_nil,List.append_nil]
    exact h2
   ·exact h2.appB (h4 hr) h3
  ·rw [List.append_assoc]
   exact Sh.mk (by decide)
theorem lb_J {args:List EX} (h:∀ y ∈ args,LB (plnG (toGX y)).data.toList (cX y)):LB (joinB (plsG (toGXs args))).data.toList (cJ (cXs args)):=by
 cases args with
 |nil =>
  unfold toGXs plsG joinB cXs cJ
  exact LA.nil.b
 |cons y r =>
  unfold toGXs plsG cXs
  rw [joinB,cJ,ByteArray.data_append,Array.toList_append,levG_toGX]
  have h1:LB (bx 1 (levE y,plnG (toGX y))).data.toList (brk 1 (levE y,cX y)):=lb_bx (h y (by simp))
  obtain ⟨h3,h4⟩:=lb_R (args:=r) fun z hz=>h z (by simp [hz])
  by_cases hr:r=[]
  ·subst hr
   unfold toGXs plsG restB cXs cR
   rw [show (⟨#[]⟩:ByteArray).data.toList=[] from rfl,List.append_nil,List.append_nil]
   exact h1
  ·exact h1.appB (h4 hr) h3
theorem cXs_drop (xs:List EX):(cXs xs).drop 1=cXs (xs.drop 1):=by
 cases xs with
 |nil=>unfold cXs;rfl
 |cons y r=>rw [cXs];rfl
theorem toGXs_drop (xs:List EX):(toGXs xs).drop 1=toGXs (xs.drop 1):=by
 cases xs with
 |nil=>unfold toGXs;rfl
 |cons y r=>rw [toGXs];rfl
theorem fine_op:∀ o ∈ opsK,fineK (4,o)∧flt 4 o 0=0:=by
 intro o ho
 simp only [opsK,List.mem_cons,List.not_mem_nil,or_false] at ho
 rcases ho with rfl | rfl | rfl | rfl | rfl | rfl <;> exact ⟨fineK_of (by decide +kernel),by decide⟩
theorem lb_X:∀ (n:Nat) (x:EX),SizeOf.sizeOf x < n→wfX x→LB (plnG (toGX x)).data.toList (cX x):=by
 intro n
 induction n with
 |zero=>intro x h;omega
 |succ n ih =>
 rintro ⟨k,p,s,v,nm,t,args⟩ hs h
 unfold wfX at h
 obtain ⟨ha,hv,h⟩:=h
 have hA:∀ y ∈ args,LB (plnG (toGX y)).data.toList (cX y):=fun y hy=>ih y (by have:=List.sizeOf_lt_of_mem hy;simp only [EX.mk.sizeOf_spec] at hs;omega) (wfXs_mem ha hy)
 unfold toGX cX
 rcases h with ⟨rfl,h⟩ | ⟨rfl,h⟩ | ⟨rfl,h⟩ | ⟨rfl,h⟩ | ⟨rfl,hl,h⟩ | ⟨rfl,hl⟩ | ⟨rfl,hl⟩ | ⟨rfl,h⟩ | ⟨rfl,hl,h⟩ | ⟨rfl,hl⟩
 ·rw [if_pos rfl]
  have e:(plnG (.mk 1 p s nm v (toGT t) (toGXs args))).data.toList=Lib.itoa v:=by rw [plnG,if_pos rfl]
  rw [e]
  exact LB.fine (q:=(2,Lib.itoa v)) h.1
 ·rw [if_neg (by decide),if_pos rfl,plnG_2]
  exact LB.fine (q:=(3,[34]++nm.data.toList++[34])) h.1
 ·rw [if_neg (by decide),if_neg (by decide),if_pos rfl]
  rcases h with rfl | rfl
  ·have e:(plnG (.mk 3 p s nm 0 (toGT t) (toGXs args))).data.toList=[102,97,108,115,101]:=by rw [plnG];rfl
   rw [e,if_neg (by decide)]
   exact LB.fine (q:=(5,[102,97,108,115,101])) (fineK_of (by decide +kernel))
  ·have e:(plnG (.mk 3 p s nm 1 (toGT t) (toGXs args))).data.toList=[116,114,117,101]:=by rw [plnG];rfl
   rw [e,if_pos rfl]
   exact LB.fine (q:=(5,[116,114,117,101])) (fineK_of (by decide +kernel))
 ·rw [if_neg (by decide),if_neg (by decide),if_neg (by decide),if_pos rfl,plnG_4]
  exact LB.fine (q:=(1,nm.data.toList)) h.1
 ·rw [if_neg (by decide),if_neg (by decide),if_neg (by decide),if_neg (by decide),if_pos rfl,plnG_5]
  exact ((lb_at hA (i:=0) (by omega) 6).app (Sh.mk (by decide)) (LA.sym (c:=46) (by decide))).appB (LB.fine (q:=(1,nm.data.toList)) h.1)
 ·rw [if_neg (by decide),if_neg (by decide),if_neg (by decide),if_neg (by decide),if_neg (by decide),if_pos rfl,plnG_6,pls_drop,toGXs_drop,cXs_drop]
  have h1:=((lb_at hA (i:=0) (by omega) 6).app (s':=[40]) (Sh.mk (by decide)) (LA.sym (c:=40) (by decide))).appB (lb_J (args:=args.drop 1) fun y hy=>hA y (List.mem_of_mem_drop hy))
  exact (h1.app (s':=[41]) (Sh.mk (by decide)) (LA.sym (c:=41) (by decide))).b
 ·rw [if_neg (by decide),if_neg (by decide),if_neg (by decide),if_neg (by decide),if_neg (by decide),if_neg (by decide),if_pos rfl,plnG_7]
  have h1:=((lb_at hA (i:=0) (by omega) 6).app (s':=[91]) (Sh.mk (by decide)) (LA.sym (c:=91) (by decide))).appB (lb_at hA (i:=1) (by omega) 1)
  exact (h1.app (s':=[93]) (Sh.mk (by decide)) (LA.sym (c:=93) (by decide))).b
 ·rw [if_neg (by decide),if_neg (by decide),if_neg (by decide),if_neg (by decide),if_neg (by decide),if_neg (by decide),if_neg (by decide),if_pos rfl,plnG_8]
  have h0:=(LB.fine (q:=(5,[110,101,119])) (fineK_of (by decide +kernel))).blank
  have h1:=((h0.appB (lb_T t h)).app (s':=[123]) (Sh.mk (by decide)) (LA.sym (c:=123) (by decide))).appB (lb_J hA)
  exact (h1.app (s':=[125]) (Sh.mk (by decide)) (LA.sym (c:=125) (by decide))).b
 ·rw [if_neg (by decide),if_neg (by decide),if_neg (by decide),if_neg (by decide),if_neg (by decide),if_neg (by decide),if_neg (by decide),if_neg (by decide),if_neg (by decide),plnG_9]
  have h0:=(LB.fine (q:=(4,nm.data.toList)) (fine_op _ h).1).blank
  have h1:=(lb_at hA (i:=0) (by omega) (levK 9 nm)).app (s':=[32]++(nm.data.toList++[32])) (Sh.mk (by decide)) ((LA.lay (c:=32) (by decide)).app h0)
  have h2:=h1.appB (lb_at hA (i:=1) (by omega) (levK 9 nm + 1))
  simpa only [List.append_assoc,List.nil_append] using h2
 ·rw [if_neg (by decide),if_neg (by decide),if_neg (by decide),if_neg (by decide),if_neg (by decide),if_neg (by decide),if_neg (by decide),if_neg (by decide),if_pos rfl,plnG_10]
  exact (LA.sym (c:=33) (by decide)).appB (lb_at hA (i:=0) (by omega) 5)
theorem lb_exL {x:EX} (h:wfX x):LB (exL (toGX x)) (brk 1 (levE x,cX x)):=by
 unfold exL
 rw [levG_toGX]
 exact lb_bx (lb_X _ x (Nat.lt_succ_self _) h)
end Go.Proofs.YtfcgoainglpdlaaGreatDoor
namespace Go.Proofs.YtfcgoainglpdlaaGreatDoor
open Go.RowKit
open Go.Lib hiding intOf
def OkL (l:List TZ):Prop:=∀ i:Int,(tkAt l i).kind≠0→okK ((tkAt l i).kind,(tkAt l i).text.data.toList)
def valD (l:List UInt8):Nat:=l.foldl (fun n c=>10 * n + (c.toNat - 48)) 0
theorem valD_snoc (l:List UInt8) (c:UInt8):valD (l++[c])=10 * valD l + (c.toNat - 48):=by unfold valD;rw [List.foldl_append];rfl
theorem fold_val:∀ (l:List UInt8) (n:Nat),l.all isD=true→l.foldl (fun n c=>10 * n + ((c.toNat:Int) - 48)) (n:Int)=((l.foldl (fun n c=>10 * n + (c.toNat - 48)) n:Nat):Int)
 |[],_,_=>rfl
 |c::r,n,h=>by
  simp only [List.all_cons,Bool.and_eq_true] at h
  have hc:48≤c.toNat:=by have:=h.1;unfold isD at this;simp only [Bool.and_eq_true,decide_eq_true_eq] at this;exact this.1
  rw [List.foldl_cons,List.foldl_cons,← fold_val r _ h.2]
  congr 1
  omega
theorem digit_of {c:UInt8} (h:isD c=true):UInt8.ofNat (48 + (c.toNat - 48))=c∧c.toNat - 48 < 10∧48≤c.toNat:=by
 unfold isD at h
 simp only [Bool.and_eq_true,decide_eq_true_eq] at h
 refine ⟨?_,by omega,h.1⟩
 rw [show 48 + (c.toNat - 48)=c.toNat by omega]
 exact UInt8.ofNat_toNat
theorem dec_val:∀ (n:Nat) (l:List UInt8),l.length=n + 1→l.all isD=true→(l.head?≠some 48→0 < valD l∧Lib.decDigits (valD l)=l)∧(n=0→Lib.decDigits (valD l)=l)∧valD l < 10 ^ (n + 1)
 |0,l,hl,ha=>by
  match l,hl with
  |[c],_ =>
   simp only [List.all_cons,List.all_nil,Bool.and_true] at ha
   obtain ⟨h1,h2,h3⟩:=digit_of ha
   have e:valD [c]=c.toNat - 48:=by simp [valD]
   have hd:Lib.decDigits (valD [c])=[c]:=by rw [Lib.decDigits,dif_pos (by rw [e];exact h2),e,h1]
   refine ⟨fun hh=>⟨?_,hd⟩,fun _=>hd,by rw [e];simpa using h2⟩
   rw [e]
   refine Nat.pos_of_ne_zero fun h0=>hh ?_
   have:c=48:=by
    have e2:c.toNat=48:=by omega
    exact UInt8.toNat_inj.1 (by rw [e2];rfl)
   rw [this];rfl
 |n + 1,l,hl,ha=>by
  obtain ⟨r,c,rfl⟩:∃ r c,l=r++[c]:=⟨l.dropLast,l.getLast (by intro e;subst e;simp at hl),(List.dropLast_concat_getLast _).symm⟩
  simp only [List.length_append,List.length_cons,List.length_nil] at hl
  simp only [List.all_append,List.all_cons,List.all_nil,Bool.and_true,Bool.and_eq_true] at ha
  obtain ⟨h1,h2,h3⟩:=digit_of ha.2
  obtain ⟨i1,_,i3⟩:=dec_val n r (by omega) ha.1
  rw [valD_snoc]
  refine ⟨fun hh=>?_,fun h=>by omega,?_⟩
  ·have hr:r.head?≠some 48:=by
    cases r with
    |nil=>simp at hl
    |cons x q=>simpa using hh
   obtain ⟨j1,j2⟩:=i1 hr
   refine ⟨by omega,?_⟩
   rw [Lib.decDigits,dif_neg (by omega),show (10 * valD r + (c.toNat - 48)) / 10=valD r by omega,j2,show (10 * valD r + (c.toNat - 48)) % 10=c.toNat - 48 by omega,h1]
  ·have:(10:Nat) ^ (n + 1 + 1)=10 ^ (n + 1) * 10:=Nat.pow_succ ..
   omega
theorem num_ok {T:List UInt8} {n:Int} (h:okK (2,T)) (hn:numOf T=some n):Lib.itoa n=T∧0≤n∧n≤999999999999999:=by
 unfold numOf at hn
 split at hn
 ·next hc =>
  obtain ⟨h1,h2,h3⟩:=hc
  injection hn with hn
  have e:=fold_val T 0 h3
  rw [show ((0:Nat):Int)=0 from rfl] at e
  rw [e] at hn
  subst hn
  have hf:=h.2
  unfold flt at hf
  have hnum:num T=true:=by
   cases hq:num T with
   |true=>rfl
   |false=>simp [hq] at hf
  unfold num at hnum
  simp only [Bool.and_eq_true,decide_eq_true_eq,Bool.or_eq_true,bne_iff_ne,ne_eq] at hnum
  obtain ⟨d1,d2,d3⟩:=dec_val (T.length - 1) T (by omega) h3
  have hd:Lib.decDigits (valD T)=T:=by
   rcases hnum.2 with hh | hh
   ·exact (d1 hh).2
   ·exact d2 (by omega)
  have hb:valD T < 10 ^ 15:=Nat.lt_of_lt_of_le d3 (Nat.pow_le_pow_right (by decide) (by omega))
  refine ⟨?_,by omega,?_⟩
  ·show Lib.itoa ((valD T:Nat):Int)=T
   unfold Lib.itoa
   rw [if_neg (by omega),Int.toNat_natCast,hd]
  ·show ((valD T:Nat):Int)≤_
   have:(10:Nat) ^ 15=1000000000000000:=by decide
   omega
 ·cases hn
theorem quo_ok {T:List UInt8} (h:quoted T=true):[34]++unquote T++[34]=T:=by
 unfold quoted at h
 simp only [Bool.and_eq_true,decide_eq_true_eq] at h
 obtain ⟨⟨h1,h2⟩,h3⟩:=h
 cases T with
 |nil=>simp at h1
 |cons c r =>
  simp only [List.head?_cons,Option.some.injEq] at h2
  subst h2
  have hr:r≠[]:=by intro e;subst e;simp at h1
  have h4:r.getLast?=some 34:=by rw [List.getLast?_cons] at h3;rw [List.getLast?_eq_some_getLast hr] at h3 ⊢;simpa using h3
  have h5:r.getLast hr=34:=by rw [List.getLast?_eq_some_getLast hr] at h4;injection h4
  unfold unquote
  rw [List.drop_succ_cons,List.drop_zero,List.length_cons,show r.length + 1 - 2=r.length - 1 by omega,← List.dropLast_eq_take]
  have:=List.dropLast_concat_getLast hr
  rw [h5] at this
  rw [List.append_assoc,this]
  rfl
theorem tk_name {l:List TZ} (H:OkL l) {i:Int} (h:(tkAt l i).kind=1):okK (1,(tkAt l i).text.data.toList):=by
 have:=H i (by rw [h];decide)
 rwa [h] at this
theorem prs_ok {l:List TZ} (H:OkL l):∀ (n:Nat) (i:Int) (t:TX) (j:Int),prs l n i=.ok t j→wfT t∧i + (cT t).length=j:=by
 have he:∀ (i:Int) (t:TX) (j:Int),elm l i=.ok t j→wfT t∧i + (cT t).length=j:=by
  intro i t j h
  unfold elm at h
  split at h
  ·next h1 =>
   split at h
   ·split at h
    ·next h3 =>
     injection h with h h'
     subst h;subst h'
     have n1:=tk_name H h1
     refine ⟨.inr ⟨rfl,tk_name H h3,.inr n1⟩,?_⟩
     have hg:(tkAt l i).text≠⟨#[]⟩:=by
      intro e
      rw [e] at n1
      obtain ⟨c,r,e2,_⟩:=n1.1
      cases e2
     unfold cT
     rw [if_pos rfl,if_neg hg]
     simp only [List.length_cons,List.length_nil]
     omega
    ·cases h
   ·injection h with h h'
    subst h;subst h'
    refine ⟨.inr ⟨rfl,tk_name H h1,.inl rfl⟩,?_⟩
    unfold cT
    rw [if_pos rfl,if_pos rfl]
    simp only [List.length_cons,List.length_nil]
    omega
  ·split at h
   ·next h2 =>
    injection h with h h'
    subst h;subst h'
    have hk:kindOf (tkAt l i).text.data.toList=1∨kindOf (tkAt l i).text.data.toList=2∨kindOf (tkAt l i).text.data.toList=3:=by
     have:=h2.2
     unfold kindOf at this ⊢
     repeat' split
     all_goals simp_all
    refine ⟨.inl hk,?_⟩
    unfold cT
    rw [if_neg (by omega)]
    simp only [List.length_cons,List.length_nil]
    omega
   ·cases h
 intro n
 induction n with
 |zero =>
  intro i t j h
  unfold prs at h
  split at h
  ·cases h
  ·exact he i t j h
 |succ n ih =>
  intro i t j h
  unfold prs at h
  split at h
  ·split at h
   ·cases hq:prs l n (i + 2) with
    |ok x q =>
     rw [hq] at h
     unfold Res.wrap at h
     injection h with h h'
     subst h;subst h'
     obtain ⟨h1,h2⟩:=ih _ _ _ hq
     refine ⟨h1,?_⟩
     unfold cT
     simp only [List.length_cons]
     omega
    |err p c=>rw [hq] at h;cases h
   ·cases h
  ·exact he i t j h
def bn (m:Int) (x:EX):Nat:=(brk m (levE x,cX x)).length
theorem bn_eq (m:Int) (x:EX):bn m x=(cX x).length + (if levE x < m then 2 else 0):=by
 unfold bn brk
 by_cases h:levE x < m
 ·simp only [h,if_true,List.length_append,List.length_cons,List.length_nil];omega
 ·simp only [h,if_false];rfl
theorem bn_mono {m m':Int} (h:m≤m') (x:EX):bn m x≤bn m' x:=by
 rw [bn_eq,bn_eq]
 split <;> split <;> omega
theorem bn_two (m m':Int) (x:EX):bn m' x≤bn m x + 2:=by
 rw [bn_eq,bn_eq]
 split <;> split <;> omega
theorem bn_high {m:Int} {x:EX} (h:¬ levE x < m):bn m x=(cX x).length:=by rw [bn_eq,if_neg h];omega
theorem cR_len:∀ l:List EX,(cR (cXs l)).length=if l=[] then 0 else (cJ (cXs l)).length + 1
 |[]=>by unfold cXs;rfl
 |y::r=>by
  rw [if_neg (by simp)]
  unfold cXs
  rw [cR,cJ]
  simp only [List.length_append,List.length_cons,List.length_nil]
  omega
theorem cJ_cons (y:EX) (r:List EX):(cJ (cXs (y::r))).length=bn 1 y + (cR (cXs r)).length:=by
 rw [show cXs (y::r)=(levE y,cX y)::cXs r by rw [cXs],cJ,List.length_append]
 rfl
theorem cAt_zero (x:EX) (r:List EX) (m:Int):(cAt (cXs (x::r)) 0 m).length=bn m x:=by
 rw [show cXs (x::r)=(levE x,cX x)::cXs r by rw [cXs]]
 rfl
theorem cAt_one (x y:EX) (r:List EX) (m:Int):(cAt (cXs (x::y::r)) 1 m).length=bn m y:=by
 rw [show cXs (x::y::r)=(levE x,cX x)::(levE y,cX y)::cXs r by rw [cXs,cXs]]
 rfl
theorem levE_mk (k p s n:Int) (nm:ByteArray) (t:TX) (a:List EX):levE (.mk k p s n nm t a)=levK k nm:=rfl
theorem wf_two {x y:EX} (hx:wfX x) (hy:wfX y):wfXs [x,y]:=by unfold wfXs wfXs wfXs;exact ⟨hx,hy,trivial⟩
theorem wf_one {x:EX} (hx:wfX x):wfXs [x]:=by unfold wfXs wfXs;exact ⟨hx,trivial⟩
theorem mkNot_ok {p e:Int} {x:EX} (h:wfX x):wfX (mkNot p e x)∧bn 5 (mkNot p e x)=1 + bn 5 x:=by
 constructor
 ·unfold mkNot wfX
  exact ⟨wf_one h,by decide,by right;right;right;right;right;right;right;right;right;exact ⟨rfl,rfl⟩⟩
 ·rw [bn_high (by unfold mkNot;rw [levE_mk,levK,if_pos rfl];decide)]
  unfold mkNot cX
  simp only [show ¬ ((10:Int)=1) by decide,show ¬ ((10:Int)=2) by decide,show ¬ ((10:Int)=3) by decide,show ¬ ((10:Int)=4) by decide,show ¬ ((10:Int)=5) by decide,show ¬ ((10:Int)=6) by decide,show ¬ ((10:Int)=7) by decide,show ¬ ((10:Int)=8) by decide,if_false,if_true]
  rw [List.length_append,cAt_zero]
  rfl
theorem lvl_op {t:TZ} {k:Nat} (hk:1≤k) (h:lvlOf t=k):t.kind=4∧t.text.data.toList ∈ opsK∧levK 9 t.text=(k:Int):=by
 unfold lvlOf at h
 have hb:∀ (s:List UInt8),t.text.data.toList=s→t.text=⟨s.toArray⟩:=by
  rintro s rfl
  cases t.text
  simp
 split at h
 ·omega
 ·next h4 =>
  have h4:t.kind=4:=by simpa using h4
  refine ⟨h4,?_⟩
  split at h
  ·next e=>rw [e];refine ⟨by decide,?_⟩;rw [hb _ e,← h];decide +kernel
  ·split at h
   ·next e=>rcases e with e | e <;> (rw [e];refine ⟨by decide,?_⟩;rw [hb _ e,← h];decide +kernel)
   ·split at h
    ·next e=>rcases e with e | e <;> (rw [e];refine ⟨by decide,?_⟩;rw [hb _ e,← h];decide +kernel)
    ·split at h
     ·next e=>rw [e];refine ⟨by decide,?_⟩;rw [hb _ e,← h];decide +kernel
     ·omega
theorem mkBin_ok {p e:Int} {op:ByteArray} {x y:EX} {k:Nat} (hx:wfX x) (hy:wfX y) (ho:op.data.toList ∈ opsK) (hl:levK 9 op=(k:Int)):wfX (mkBin p e op x y)∧bn k (mkBin p e op x y)=bn k x + 1 + bn (k + 1) y:=by
 constructor
 ·unfold mkBin wfX
  exact ⟨wf_two hx hy,by decide,by right;right;right;right;right;right;right;right;left;exact ⟨rfl,rfl,ho⟩⟩
 ·rw [bn_high (by unfold mkBin;rw [levE_mk,hl];omega)]
  unfold mkBin cX
  simp only [show ¬ ((9:Int)=1) by decide,show ¬ ((9:Int)=2) by decide,show ¬ ((9:Int)=3) by decide,show ¬ ((9:Int)=4) by decide,show ¬ ((9:Int)=5) by decide,show ¬ ((9:Int)=6) by decide,show ¬ ((9:Int)=7) by decide,show ¬ ((9:Int)=8) by decide,show ¬ ((9:Int)=10) by decide,if_false]
  rw [List.length_append,List.length_append,cAt_zero,cAt_one,hl]
  rfl
theorem lev6 {k p s n:Int} {nm:ByteArray} {t:TX} {a:List EX} (h:k≠9∧k≠10):¬ levE (.mk k p s n nm t a) < 6:=by
 rw [levE_mk,levK,if_neg h.2,if_neg h.1];decide
theorem mkSel_ok {p e:Int} {x:EX} {n:ByteArray} (hx:wfX x) (hn:okK (1,n.data.toList)):wfX (mkSel p x n e)∧bn 6 (mkSel p x n e)=bn 6 x + 2:=by
 constructor
 ·unfold mkSel wfX
  exact ⟨wf_one hx,by decide,by right;right;right;right;left;exact ⟨rfl,rfl,hn⟩⟩
 ·unfold mkSel
  rw [bn_high (lev6 (by decide)),cX]
  simp only [show ¬ ((5:Int)=1) by decide,show ¬ ((5:Int)=2) by decide,show ¬ ((5:Int)=3) by decide,show ¬ ((5:Int)=4) by decide,if_false,if_true]
  rw [List.length_append,List.length_append,cAt_zero]
  rfl
theorem mkCall_ok {p e:Int} {x:EX} {ys:List EX} (hx:wfX x) (hy:wfXs ys):wfX (mkCall p x ys e)∧bn 6 (mkCall p x ys e)=bn 6 x + 2 + (cJ (cXs ys)).length:=by
 constructor
 ·unfold mkCall wfX
  refine ⟨by unfold wfXs;exact ⟨hx,hy⟩,by decide,by right;right;right;right;right;left;exact ⟨rfl,by simp⟩⟩
 ·unfold mkCall
  rw [bn_high (lev6 (by decide)),cX]
  simp only [show ¬ ((6:Int)=1) by decide,show ¬ ((6:Int)=2) by decide,show ¬ ((6:Int)=3) by decide,show ¬ ((6:Int)=4) by decide,show ¬ ((6:Int)=5) by decide,if_false,if_true]
  rw [cXs_drop]
  simp only [List.length_append,cAt_zero,List.length_cons,List.length_nil,List.drop_succ_cons,List.drop_zero]
  omega
theorem mkIdx_ok {p e:Int} {x y:EX} (hx:wfX x) (hy:wfX y):wfX (mkIdx p x y e)∧bn 6 (mkIdx p x y e)=bn 6 x + 2 + bn 1 y:=by
 constructor
 ·unfold mkIdx wfX
  exact ⟨wf_two hx hy,by decide,by right;right;right;right;right;right;left;exact ⟨rfl,rfl⟩⟩
 ·unfold mkIdx
  rw [bn_high (lev6 (by decide)),cX]
  simp only [show ¬ ((7:Int)=1) by decide,show ¬ ((7:Int)=2) by decide,show ¬ ((7:Int)=3) by decide,show ¬ ((7:Int)=4) by decide,show ¬ ((7:Int)=5) by decide,show ¬ ((7:Int)=6) by decide,if_false,if_true]
  simp only [List.length_append,cAt_zero,cAt_one,List.length_cons,List.length_nil]
  omega
theorem new_ok {p e:Int} {t:TX} {ys:List EX} (ht:wfT t) (hy:wfXs ys):wfX (.mk 8 p e 0 ⟨#[]⟩ t ys)∧bn 6 (.mk 8 p e 0 ⟨#[]⟩ t ys)=(cT t).length + 3 + (cJ (cXs ys)).length:=by
 constructor
 ·unfold wfX
  exact ⟨hy,by decide,by right;right;right;right;right;right;right;left;exact ⟨rfl,ht⟩⟩
 ·rw [bn_high (lev6 (by decide)),cX]
  simp only [show ¬ ((8:Int)=1) by decide,show ¬ ((8:Int)=2) by decide,show ¬ ((8:Int)=3) by decide,show ¬ ((8:Int)=4) by decide,show ¬ ((8:Int)=5) by decide,show ¬ ((8:Int)=6) by decide,show ¬ ((8:Int)=7) by decide,if_false,if_true]
  simp only [List.length_append,List.length_cons,List.length_nil]
  omega
theorem leaf_len {k p s n:Int} {nm:ByteArray} (h:k=1∨k=2∨k=3∨k=4):bn 6 (.mk k p s n nm noTX [])=1:=by
 rw [bn_high (lev6 (by omega)),cX]
 rcases h with rfl | rfl | rfl | rfl
 ·rfl
 ·rfl
 ·simp only [show ¬ ((3:Int)=1) by decide,show ¬ ((3:Int)=2) by decide,if_false,if_true];split <;> rfl
 ·rfl
theorem wf_nil:wfXs []:=by unfold wfXs;trivial
theorem read_ok {l:List TZ} (H:OkL l):∀ f:Nat,
  (∀ k d i x j,1≤k→k≤5→ex l f k d i=.ok x j→wfX x∧i + bn k x≤j) ∧
  (∀ k d a x i y j,1≤k→k≤4→wfX x→binT l f k d a x i=.ok y j→wfX y∧(bn k y:Int) + i≤j + bn k x) ∧
  (∀ d i x j,una l f d i=.ok x j→wfX x∧i + bn 5 x≤j) ∧
  (∀ d i x j,prim l f d i=.ok x j→wfX x∧i + bn 6 x≤j) ∧
  (∀ d a x i y j,wfX x→post l f d a x i=.ok y j→wfX y∧(bn 6 y:Int) + i≤j + bn 6 x) ∧
  (∀ z d i ys q,lst l f z d i=.ok ys q→wfXs ys∧i + 2 + (cJ (cXs ys)).length≤q) ∧
  (∀ z d i ys q,items l f z d i=.ok ys q→wfXs ys∧ys≠[]∧i + 1 + (cJ (cXs ys)).length≤q):=by
 intro f
 induction f with
 |zero=>refine ⟨?_,?_,?_,?_,?_,?_,?_⟩ <;> intros <;> simp [ex,binT,una,prim,post,lst,items] at *
 |succ f ih =>
  obtain ⟨iE,iB,iU,iP,iO,iL,iI⟩:=ih
  refine ⟨?_,?_,?_,?_,?_,?_,?_⟩
  ·intro k d i x j h1 h5 h
   unfold ex at h
   split at h
   ·next hk=>subst hk;exact iU _ _ _ _ h
   ·split at h
    ·next y q hq =>
     obtain ⟨a1,a2⟩:=iE _ _ _ _ _ (by omega) (by omega) hq
     obtain ⟨b1,b2⟩:=iB _ _ _ _ _ _ _ h1 (by omega) a1 h
     have hm:=bn_mono (m:=(k:Int)) (m':=((k + 1:Nat):Int)) (by omega) y
     exact ⟨b1,by omega⟩
    ·cases h
    ·cases h
  ·intro k d a x i y j h1 h4 hx h
   unfold binT at h
   split at h
   ·next hk =>
    obtain ⟨o1,o2,o3⟩:=lvl_op h1 hk
    split at h
    ·next z q hq =>
     obtain ⟨a1,a2⟩:=iE _ _ _ _ _ (by omega) (by omega) hq
     obtain ⟨m1,m2⟩:=mkBin_ok (p:=(tkAt l a).pos) (e:=(tkAt l (q - 1)).stop) hx a1 o2 o3
     obtain ⟨b1,b2⟩:=iB _ _ _ _ _ _ _ h1 h4 m1 h
     rw [m2] at b2
     refine ⟨b1,?_⟩
     push_cast at a2 b2
     omega
    ·cases h
    ·cases h
   ·injection h with h h'
    subst h;subst h'
    exact ⟨hx,by omega⟩
  ·intro d i x j h
   unfold una at h
   split at h
   ·split at h
    ·cases h
    ·split at h
     ·next y q hq =>
      injection h with h h'
      subst h;subst h'
      obtain ⟨a1,a2⟩:=iU _ _ _ _ hq
      obtain ⟨m1,m2⟩:=mkNot_ok (p:=(tkAt l i).pos) (e:=(tkAt l (q - 1)).stop) a1
      exact ⟨m1,by rw [m2];omega⟩
     ·cases h
     ·cases h
   ·split at h
    ·next y q hq =>
     obtain ⟨a1,a2⟩:=iP _ _ _ _ hq
     obtain ⟨b1,b2⟩:=iO _ _ _ _ _ _ a1 h
     have hm:=bn_mono (m:=5) (m':=6) (by decide) x
     exact ⟨b1,by omega⟩
    ·cases h
    ·cases h
  ·intro d i x j h
   unfold prim at h
   split at h
   ·next hk =>
    split at h
    ·next n hn =>
     injection h with h h'
     subst h;subst h'
     have ho:=H i (by rw [hk];decide)
     rw [hk] at ho
     obtain ⟨n1,n2,n3⟩:=num_ok ho hn
     refine ⟨?_,by rw [leaf_len (by decide)];omega⟩
     unfold wfX
     exact ⟨wf_nil,⟨n2,n3⟩,.inl ⟨rfl,by rw [n1];exact ho⟩⟩
    ·cases h
   ·split at h
    ·next hk =>
     split at h
     ·next hq =>
      injection h with h h'
      subst h;subst h'
      have ho:=H i (by rw [hk];decide)
      rw [hk] at ho
      refine ⟨?_,by rw [leaf_len (by decide)];omega⟩
      unfold wfX
      refine ⟨wf_nil,by decide,.inr (.inl ⟨rfl,?_⟩)⟩
      show okK (3,[34]++unquote (tkAt l i).text.data.toList++[34])
      rw [quo_ok hq]
      exact ho
     ·cases h
    ·split at h
     ·injection h with h h'
      subst h;subst h'
      refine ⟨?_,by rw [leaf_len (by decide)];omega⟩
      unfold wfX
      exact ⟨wf_nil,by decide,.inr (.inr (.inl ⟨rfl,.inr rfl⟩))⟩
     ·split at h
      ·injection h with h h'
       subst h;subst h'
       refine ⟨?_,by rw [leaf_len (by decide)];omega⟩
       unfold wfX
       exact ⟨wf_nil,by decide,.inr (.inr (.inl ⟨rfl,.inl rfl⟩))⟩
      ·split at h
       ·next hk =>
        injection h with h h'
        subst h;subst h'
        refine ⟨?_,by rw [leaf_len (by decide)];omega⟩
        unfold wfX
        exact ⟨wf_nil,by decide,.inr (.inr (.inr (.inl ⟨rfl,tk_name H hk⟩)))⟩
       ·split at h
        ·split at h
         ·cases h
         ·split at h
          ·next y q hq =>
           obtain ⟨a1,a2⟩:=iE _ _ _ _ _ (by decide) (by decide) hq
           split at h
           ·injection h with h h'
            subst h;subst h'
            have hm:=bn_two 1 6 y
            exact ⟨a1,by push_cast at a2;omega⟩
           ·cases h
          ·cases h
          ·cases h
        ·split at h
         ·split at h
          ·next t q hq =>
           obtain ⟨t1,t2⟩:=prs_ok H _ _ _ _ hq
           split at h
           ·split at h
            ·next ys r hr =>
             injection h with h h'
             subst h;subst h'
             obtain ⟨a1,a2⟩:=iL _ _ _ _ _ hr
             obtain ⟨m1,m2⟩:=new_ok (p:=(tkAt l i).pos) (e:=(tkAt l (r - 1)).stop) t1 a1
             exact ⟨m1,by rw [m2];push_cast;omega⟩
            ·cases h
            ·cases h
           ·cases h
          ·cases h
         ·cases h
  ·intro d a x i y j hx h
   unfold post at h
   split at h
   ·split at h
    ·next hk =>
     obtain ⟨m1,m2⟩:=mkSel_ok (p:=(tkAt l a).pos) (e:=(tkAt l (i + 1)).stop) hx (tk_name H hk)
     obtain ⟨b1,b2⟩:=iO _ _ _ _ _ _ m1 h
     rw [m2] at b2
     exact ⟨b1,by push_cast at b2;omega⟩
    ·cases h
   ·split at h
    ·split at h
     ·next ys q hq =>
      obtain ⟨a1,a2⟩:=iL _ _ _ _ _ hq
      obtain ⟨m1,m2⟩:=mkCall_ok (p:=(tkAt l a).pos) (e:=(tkAt l (q - 1)).stop) hx a1
      obtain ⟨b1,b2⟩:=iO _ _ _ _ _ _ m1 h
      rw [m2] at b2
      exact ⟨b1,by push_cast at b2;omega⟩
     ·cases h
     ·cases h
    ·split at h
     ·split at h
      ·cases h
      ·split at h
       ·next z q hq =>
        obtain ⟨a1,a2⟩:=iE _ _ _ _ _ (by decide) (by decide) hq
        split at h
        ·obtain ⟨m1,m2⟩:=mkIdx_ok (p:=(tkAt l a).pos) (e:=(tkAt l q).stop) hx a1
         obtain ⟨b1,b2⟩:=iO _ _ _ _ _ _ m1 h
         rw [m2] at b2
         exact ⟨b1,by push_cast at a2 b2;omega⟩
        ·cases h
       ·cases h
       ·cases h
     ·injection h with h h'
      subst h;subst h'
      exact ⟨hx,by omega⟩
  ·intro z d i ys q h
   unfold lst at h
   split at h
   ·cases h
   ·split at h
    ·injection h with h h'
     subst h;subst h'
     exact ⟨wf_nil,by unfold cXs;show i + 2 + ((0:Nat):Int)≤_;omega⟩
    ·obtain ⟨a1,_,a2⟩:=iI _ _ _ _ _ h
     exact ⟨a1,by omega⟩
  ·intro z d i ys q h
   unfold items at h
   split at h
   ·next y j hy =>
    obtain ⟨a1,a2⟩:=iE _ _ _ _ _ (by decide) (by decide) hy
    split at h
    ·split at h
     ·next r p hr =>
      injection h with h h'
      subst h;subst h'
      obtain ⟨b1,b2,b3⟩:=iI _ _ _ _ _ hr
      refine ⟨by unfold wfXs;exact ⟨a1,b1⟩,by simp,?_⟩
      rw [cJ_cons,cR_len,if_neg b2]
      push_cast at a2 ⊢
      omega
     ·cases h
     ·cases h
    ·split at h
     ·injection h with h h'
      subst h;subst h'
      refine ⟨wf_one a1,by simp,?_⟩
      rw [cJ_cons,cR_len,if_pos rfl]
      push_cast at a2 ⊢
      omega
     ·cases h
   ·cases h
   ·cases h
end Go.Proofs.YtfcgoainglpdlaaGreatDoor
namespace Go.Proofs.YtfcgoainglpdlaaGreatDoor
open Go.RowKit
open Go.Lib hiding intOf
def depT:TX→Nat
 |.leaf ..=>0
 |.list _ x=>depT x + 1
def nT:TX→Prop
 |.leaf k _ g n=>k≠4→g=⟨#[]⟩∧n=⟨#[]⟩
 |.list _ x=>nT x
theorem prs_dep {l:List TZ}:∀ (n:Nat) (i:Int) (t:TX) (j:Int),prs l n i=.ok t j→nT t∧depT t≤n:=by
 have he:∀ (i:Int) (t:TX) (j:Int),elm l i=.ok t j→nT t∧depT t=0:=by
  intro i t j h
  unfold elm at h
  split at h
  ·split at h
   ·split at h
    ·injection h with h h';subst h;exact ⟨fun e=>absurd rfl e,rfl⟩
    ·cases h
   ·injection h with h h';subst h;exact ⟨fun e=>absurd rfl e,rfl⟩
  ·split at h
   ·injection h with h h';subst h;exact ⟨fun _=>⟨rfl,rfl⟩,rfl⟩
   ·cases h
 intro n
 induction n with
 |zero =>
  intro i t j h
  unfold prs at h
  split at h
  ·cases h
  ·have:=he i t j h;exact ⟨this.1,by omega⟩
 |succ n ih =>
  intro i t j h
  unfold prs at h
  split at h
  ·split at h
   ·cases hq:prs l n (i + 2) with
    |ok x q =>
     rw [hq] at h
     unfold Res.wrap at h
     injection h with h h'
     subst h;subst h'
     obtain ⟨h1,h2⟩:=ih _ _ _ hq
     exact ⟨h1,by unfold depT;omega⟩
    |err p c=>rw [hq] at h;cases h
   ·cases h
  ·have:=he i t j h;exact ⟨this.1,by omega⟩
def brd (m:Int) (q:Int × Nat):Nat:=if q.1 < m then q.2 + 1 else q.2
def dAt (l:List (Int × Nat)) (i:Nat) (m:Int):Nat:=match l[i]? with
 |some q=>brd m q
 |none=>0
def dJ:List (Int × Nat)→Nat
 |[]=>0
 |q::r=>max (brd 1 q) (dJ r)
mutual
def dX:EX→Nat
 |.mk k _ _ _ nm _ args =>
  if k=5 then dAt (dXs args) 0 6 else if k=6 then max (dAt (dXs args) 0 6) (1 + dJ ((dXs args).drop 1))
  else if k=7 then max (dAt (dXs args) 0 6) (1 + dAt (dXs args) 1 1) else if k=8 then 1 + dJ (dXs args)
  else if k=10 then 1 + dAt (dXs args) 0 5 else if k=9 then max (dAt (dXs args) 0 (levK 9 nm)) (dAt (dXs args) 1 (levK 9 nm + 1)) else 0
def dXs:List EX→List (Int × Nat)
 |[]=>[]
 |y::r=>(levE y,dX y)::dXs r
end
theorem dXs_drop (xs:List EX):(dXs xs).drop 1=dXs (xs.drop 1):=by
 cases xs with
 |nil=>unfold dXs;rfl
 |cons y r=>rw [dXs];rfl
def bd (m:Int) (x:EX):Nat:=brd m (levE x,dX x)
theorem bd_eq (m:Int) (x:EX):bd m x=dX x + (if levE x < m then 1 else 0):=by
 unfold bd brd
 by_cases h:levE x < m
 ·simp only [h,if_true]
 ·simp only [h,if_false];rfl
theorem bd_mono {m m':Int} (h:m≤m') (x:EX):bd m x≤bd m' x:=by
 rw [bd_eq,bd_eq]
 split <;> split <;> omega
theorem bd_one (m m':Int) (x:EX):bd m' x≤bd m x + 1:=by
 rw [bd_eq,bd_eq]
 split <;> split <;> omega
theorem bd_high {m:Int} {x:EX} (h:¬ levE x < m):bd m x=dX x:=by rw [bd_eq,if_neg h];omega
mutual
def nX:EX→Prop
 |.mk k _ _ n nm t args=>nXs args∧(k≠1→k≠3→n=0)∧(k≠2→k≠4→k≠5→k≠9→nm=⟨#[]⟩)∧(k≠8→t=noTX)∧(k=8→nT t∧depT t≤30)∧(k≤4→args=[])
def nXs:List EX→Prop
 |[]=>True
 |y::r=>nX y∧nXs r
end
theorem nXs_nil:nXs []:=by unfold nXs;trivial
theorem nXs_mem:∀ {l:List EX} {y:EX},nXs l→y ∈ l→nX y
 |[],_,_,h=>by cases h
 |x::r,y,h,hy=>by
  unfold nXs at h
  rcases List.mem_cons.1 hy with rfl | hy
  ·exact h.1
  ·exact nXs_mem h.2 hy
theorem n_leaf {k p s n:Int} {nm:ByteArray} (h1:k≠1→k≠3→n=0) (h2:k≠2→k≠4→k≠5→k≠9→nm=⟨#[]⟩) (h:k≤4):nX (.mk k p s n nm noTX []):=by
 unfold nX
 exact ⟨nXs_nil,h1,h2,fun _=>rfl,fun e=>by omega,fun _=>rfl⟩
theorem n_node {k p s:Int} {nm:ByteArray} {args:List EX} (ha:nXs args) (h2:k≠2→k≠4→k≠5→k≠9→nm=⟨#[]⟩) (h:4 < k) (h8:k≠8):nX (.mk k p s 0 nm noTX args):=by
 unfold nX
 exact ⟨ha,fun _ _=>rfl,h2,fun _=>rfl,fun e=>absurd e h8,fun e=>by omega⟩
theorem n_two {x y:EX} (hx:nX x) (hy:nX y):nXs [x,y]:=by unfold nXs nXs nXs;exact ⟨hx,hy,trivial⟩
theorem n_one {x:EX} (hx:nX x):nXs [x]:=by unfold nXs nXs;exact ⟨hx,trivial⟩
theorem d_leaf {k p s n:Int} {nm:ByteArray} (h:k≤4):bd 6 (.mk k p s n nm noTX [])=0:=by
 rw [bd_high (lev6 (by omega)),dX]
 rw [if_neg (by omega),if_neg (by omega),if_neg (by omega),if_neg (by omega),if_neg (by omega),if_neg (by omega)]
theorem dXs_cons (x:EX) (r:List EX):dXs (x::r)=(levE x,dX x)::dXs r:=by rw [dXs]
theorem d_not {p e:Int} {x:EX}:bd 5 (mkNot p e x)=1 + bd 5 x:=by
 rw [bd_high (by unfold mkNot;rw [levE_mk,levK,if_pos rfl];decide)]
 unfold mkNot
 rw [dX,if_neg (by decide),if_neg (by decide),if_neg (by decide),if_neg (by decide),if_pos rfl,dXs_cons]
 rfl
theorem d_bin {p e:Int} {op:ByteArray} {x y:EX} {k:Nat} (hl:levK 9 op=(k:Int)):bd k (mkBin p e op x y)=max (bd k x) (bd (k + 1) y):=by
 rw [bd_high (by unfold mkBin;rw [levE_mk,hl];omega)]
 unfold mkBin
 rw [dX,if_neg (by decide),if_neg (by decide),if_neg (by decide),if_neg (by decide),if_neg (by decide),if_pos rfl,dXs_cons,dXs_cons,hl]
 rfl
theorem d_sel {p e:Int} {x:EX} {n:ByteArray}:bd 6 (mkSel p x n e)=bd 6 x:=by
 unfold mkSel
 rw [bd_high (lev6 (by decide)),dX,if_pos rfl,dXs_cons]
 rfl
theorem d_call {p e:Int} {x:EX} {ys:List EX}:bd 6 (mkCall p x ys e)=max (bd 6 x) (1 + dJ (dXs ys)):=by
 unfold mkCall
 rw [bd_high (lev6 (by decide)),dX,if_neg (by decide),if_pos rfl,dXs_cons]
 rfl
theorem d_idx {p e:Int} {x y:EX}:bd 6 (mkIdx p x y e)=max (bd 6 x) (1 + bd 1 y):=by
 unfold mkIdx
 rw [bd_high (lev6 (by decide)),dX,if_neg (by decide),if_neg (by decide),if_pos rfl,dXs_cons,dXs_cons]
 rfl
theorem d_new {p e:Int} {t:TX} {ys:List EX}:bd 6 (.mk 8 p e 0 ⟨#[]⟩ t ys)=1 + dJ (dXs ys):=by
 rw [bd_high (lev6 (by decide)),dX,if_neg (by decide),if_neg (by decide),if_neg (by decide),if_pos rfl]
theorem dJ_cons (y:EX) (r:List EX):dJ (dXs (y::r))=max (bd 1 y) (dJ (dXs r)):=by rw [dXs_cons];rfl
theorem dJ_nil:dJ (dXs [])=0:=by unfold dXs;rfl
theorem read_dep {l:List TZ}:∀ f:Nat,
  (∀ k d i x j,1≤k→k≤5→ex l f k d i=.ok x j→nX x∧(d≤30→d + bd k x≤30)) ∧
  (∀ k d a x i y j,1≤k→k≤4→nX x→binT l f k d a x i=.ok y j→nX y∧(d≤30→d + bd k x≤30→d + bd k y≤30)) ∧
  (∀ d i x j,una l f d i=.ok x j→nX x∧(d≤30→d + bd 5 x≤30)) ∧
  (∀ d i x j,prim l f d i=.ok x j→nX x∧(d≤30→d + bd 6 x≤30)) ∧
  (∀ d a x i y j,nX x→post l f d a x i=.ok y j→nX y∧(d≤30→d + bd 6 x≤30→d + bd 6 y≤30)) ∧
  (∀ z d i ys q,lst l f z d i=.ok ys q→nXs ys∧(d≤30→d + 1 + dJ (dXs ys)≤30)) ∧
  (∀ z d i ys q,items l f z d i=.ok ys q→nXs ys∧(d + 1≤30→d + 1 + dJ (dXs ys)≤30)):=by
 intro f
 induction f with
 |zero=>refine ⟨?_,?_,?_,?_,?_,?_,?_⟩ <;> intros <;> simp [ex,binT,una,prim,post,lst,items] at *
 |succ f ih =>
  obtain ⟨iE,iB,iU,iP,iO,iL,iI⟩:=ih
  refine ⟨?_,?_,?_,?_,?_,?_,?_⟩
  ·intro k d i x j h1 h5 h
   unfold ex at h
   split at h
   ·next hk=>subst hk;exact iU _ _ _ _ h
   ·split at h
    ·next y q hq =>
     obtain ⟨a1,a2⟩:=iE _ _ _ _ _ (by omega) (by omega) hq
     obtain ⟨b1,b2⟩:=iB _ _ _ _ _ _ _ h1 (by omega) a1 h
     have hm:=bd_mono (m:=(k:Int)) (m':=((k + 1:Nat):Int)) (by omega) y
     exact ⟨b1,fun hd=>b2 hd (by have:=a2 hd;omega)⟩
    ·cases h
    ·cases h
  ·intro k d a x i y j h1 h4 hx h
   unfold binT at h
   split at h
   ·next hk =>
    obtain ⟨o1,o2,o3⟩:=lvl_op h1 hk
    split at h
    ·next z q hq =>
     obtain ⟨a1,a2⟩:=iE _ _ _ _ _ (by omega) (by omega) hq
     have m1:nX (mkBin (tkAt l a).pos (tkAt l (q - 1)).stop (tkAt l i).text x z):=n_node (n_two hx a1) (fun _ _ _ e=>absurd rfl e) (by decide) (by decide)
     have m2:=d_bin (p:=(tkAt l a).pos) (e:=(tkAt l (q - 1)).stop) (x:=x) (y:=z) o3
     obtain ⟨b1,b2⟩:=iB _ _ _ _ _ _ _ h1 h4 m1 h
     refine ⟨b1,fun hd hx=>b2 hd ?_⟩
     have:=a2 hd
     push_cast at this
     rw [m2]
     omega
    ·cases h
    ·cases h
   ·injection h with h h'
    subst h;subst h'
    exact ⟨hx,fun _ h=>h⟩
  ·intro d i x j h
   unfold una at h
   split at h
   ·split at h
    ·cases h
    ·split at h
     ·next hd y q hq =>
      injection h with h h'
      subst h;subst h'
      obtain ⟨a1,a2⟩:=iU _ _ _ _ hq
      refine ⟨n_node (n_one a1) (fun _ _ _ _=>rfl) (by decide) (by decide),fun _=>?_⟩
      rw [d_not]
      have:=a2 (by omega)
      omega
     ·cases h
     ·cases h
   ·split at h
    ·next y q hq =>
     obtain ⟨a1,a2⟩:=iP _ _ _ _ hq
     obtain ⟨b1,b2⟩:=iO _ _ _ _ _ _ a1 h
     have hm:=bd_mono (m:=5) (m':=6) (by decide) x
     exact ⟨b1,fun hd=>by have:=b2 hd (a2 hd);omega⟩
    ·cases h
    ·cases h
  ·intro d i x j h
   unfold prim at h
   split at h
   ·split at h
    ·injection h with h h'
     subst h;subst h'
     exact ⟨n_leaf (fun e=>absurd rfl e) (fun _ _ _ _=>rfl) (by decide),fun hd=>by rw [d_leaf (by decide)];exact hd⟩
    ·cases h
   ·split at h
    ·split at h
     ·injection h with h h'
      subst h;subst h'
      exact ⟨n_leaf (fun _ _=>rfl) (fun e=>absurd rfl e) (by decide),fun hd=>by rw [d_leaf (by decide)];exact hd⟩
     ·cases h
    ·split at h
     ·injection h with h h'
      subst h;subst h'
      exact ⟨n_leaf (fun _ e=>absurd rfl e) (fun _ _ _ _=>rfl) (by decide),fun hd=>by rw [d_leaf (by decide)];exact hd⟩
     ·split at h
      ·injection h with h h'
       subst h;subst h'
       exact ⟨n_leaf (fun _ e=>absurd rfl e) (fun _ _ _ _=>rfl) (by decide),fun hd=>by rw [d_leaf (by decide)];exact hd⟩
      ·split at h
       ·injection h with h h'
        subst h;subst h'
        exact ⟨n_leaf (fun _ _=>rfl) (fun _ e=>absurd rfl e) (by decide),fun hd=>by rw [d_leaf (by decide)];exact hd⟩
       ·split at h
        ·split at h
         ·cases h
         ·split at h
          ·next hd y q hq =>
           obtain ⟨a1,a2⟩:=iE _ _ _ _ _ (by decide) (by decide) hq
           split at h
           ·injection h with h h'
            subst h;subst h'
            have hm:=bd_one 1 6 y
            have:=a2 (by omega)
            push_cast at this
            exact ⟨a1,fun _=>by omega⟩
           ·cases h
          ·cases h
          ·cases h
        ·split at h
         ·split at h
          ·next t q hq =>
           obtain ⟨t1,t2⟩:=prs_dep _ _ _ _ hq
           split at h
           ·split at h
            ·next ys r hr =>
             injection h with h h'
             subst h;subst h'
             obtain ⟨a1,a2⟩:=iL _ _ _ _ _ hr
             refine ⟨?_,fun hd=>by rw [d_new];have:=a2 hd;omega⟩
             unfold nX
             exact ⟨a1,fun _ _=>rfl,fun _ _ _ _=>rfl,fun e=>absurd rfl e,fun _=>⟨t1,t2⟩,fun e=>by omega⟩
            ·cases h
            ·cases h
           ·cases h
          ·cases h
         ·cases h
  ·intro d a x i y j hx h
   unfold post at h
   split at h
   ·split at h
    ·have m1:nX (mkSel (tkAt l a).pos x (tkAt l (i + 1)).text (tkAt l (i + 1)).stop):=n_node (n_one hx) (fun _ _ e=>absurd rfl e) (by decide) (by decide)
     obtain ⟨b1,b2⟩:=iO _ _ _ _ _ _ m1 h
     rw [d_sel] at b2
     exact ⟨b1,b2⟩
    ·cases h
   ·split at h
    ·split at h
     ·next ys q hq =>
      obtain ⟨a1,a2⟩:=iL _ _ _ _ _ hq
      have m1:nX (mkCall (tkAt l a).pos x ys (tkAt l (q - 1)).stop):=n_node (by unfold nXs;exact ⟨hx,a1⟩) (fun _ _ _ _=>rfl) (by decide) (by decide)
      obtain ⟨b1,b2⟩:=iO _ _ _ _ _ _ m1 h
      rw [d_call] at b2
      exact ⟨b1,fun hd hx=>b2 hd (by have:=a2 hd;omega)⟩
     ·cases h
     ·cases h
    ·split at h
     ·split at h
      ·cases h
      ·split at h
       ·next hd z q hq =>
        obtain ⟨a1,a2⟩:=iE _ _ _ _ _ (by decide) (by decide) hq
        split at h
        ·have m1:nX (mkIdx (tkAt l a).pos x z (tkAt l q).stop):=n_node (n_two hx a1) (fun _ _ _ _=>rfl) (by decide) (by decide)
         obtain ⟨b1,b2⟩:=iO _ _ _ _ _ _ m1 h
         rw [d_idx] at b2
         have:=a2 (by omega)
         push_cast at this
         exact ⟨b1,fun hd hx=>b2 hd (by omega)⟩
        ·cases h
       ·cases h
       ·cases h
     ·injection h with h h'
      subst h;subst h'
      exact ⟨hx,fun _ h=>h⟩
  ·intro z d i ys q h
   unfold lst at h
   split at h
   ·cases h
   ·next hd =>
    split at h
    ·injection h with h h'
     subst h;subst h'
     exact ⟨nXs_nil,fun _=>by rw [dJ_nil];omega⟩
    ·obtain ⟨a1,a2⟩:=iI _ _ _ _ _ h
     exact ⟨a1,fun _=>a2 (by omega)⟩
  ·intro z d i ys q h
   unfold items at h
   split at h
   ·next y j hy =>
    obtain ⟨a1,a2⟩:=iE _ _ _ _ _ (by decide) (by decide) hy
    split at h
    ·split at h
     ·next r p hr =>
      injection h with h h'
      subst h;subst h'
      obtain ⟨b1,b2⟩:=iI _ _ _ _ _ hr
      refine ⟨by unfold nXs;exact ⟨a1,b1⟩,fun hd=>?_⟩
      have h1:=a2 hd
      have h2:=b2 hd
      push_cast at h1
      rw [dJ_cons]
      omega
     ·cases h
     ·cases h
    ·split at h
     ·injection h with h h'
      subst h;subst h'
      refine ⟨n_one a1,fun hd=>?_⟩
      have h1:=a2 hd
      push_cast at h1
      rw [dJ_cons,dJ_nil]
      omega
     ·cases h
   ·cases h
   ·cases h
end Go.Proofs.YtfcgoainglpdlaaGreatDoor
namespace Go.Proofs.YtfcgoainglpdlaaGreatDoor
open Go.RowKit
open Go.Lib hiding intOf
def ce (x:EX):List Key:=brk 1 (levE x,cX x)
end Go.Proofs.YtfcgoainglpdlaaGreatDoor
namespace Go.Proofs.YtfcgoainglpdlaaGreatDoor
open Go.RowKit
open Go.Lib hiding intOf
def AllK (ts:List Key):Prop:=∀ q ∈ ts,okK q
theorem AllK.nil:AllK []:=fun q h=>by cases h
theorem AllK.one {q:Key} (h:okK q):AllK [q]:=fun p hp=>by rw [List.mem_singleton] at hp;rw [hp];exact h
theorem AllK.app {a b:List Key} (ha:AllK a) (hb:AllK b):AllK (a++b):=fun q h=>(List.mem_append.1 h).elim (ha q) (hb q)
theorem okK_sym {c:UInt8} (h:hard c=true):okK (sym c):=by
 have key:∀ x ∈ syms,lay x=false∧x≠47∧x≠34:=by decide
 have hc:c ∈ syms:=by unfold hard at h;simp only [Bool.and_eq_true,decide_eq_true_eq] at h;exact h.1
 obtain ⟨h1,h2,h3⟩:=key c hc
 exact ⟨⟨c,[],rfl,h1,h2,kln_hard h [],fun e=>absurd e h3⟩,rfl⟩
theorem okK_word {w:List UInt8} (h:fineK (5,w)):okK (5,w):=⟨h,rfl⟩
theorem AllK.brk {m k:Int} {ts:List Key} (h:AllK ts):AllK (Go.Proofs.YtfcgoainglpdlaaGreatDoor.brk m (k,ts)):=by
 unfold Go.Proofs.YtfcgoainglpdlaaGreatDoor.brk
 split
 ·exact ((AllK.one (okK_sym (by decide))).app h).app (AllK.one (okK_sym (by decide)))
 ·exact h
theorem ok_at {args:List EX} (h:∀ y ∈ args,AllK (cX y)) (i:Nat) (m:Int):AllK (cAt (cXs args) i m):=by
 unfold cAt
 rw [cXs_map,List.getElem?_map]
 cases hi:args[i]? with
 |none=>exact AllK.nil
 |some y=>exact (h y (List.mem_of_getElem? hi)).brk
theorem ok_R:∀ {args:List EX},(∀ y ∈ args,AllK (cX y))→AllK (cR (cXs args))
 |[],_=>by unfold cXs;exact AllK.nil
 |y::r,h=>by
  unfold cXs
  rw [cR]
  exact ((AllK.one (okK_sym (by decide))).app (h y (by simp)).brk).app (ok_R fun z hz=>h z (by simp [hz]))
theorem ok_J {args:List EX} (h:∀ y ∈ args,AllK (cX y)):AllK (cJ (cXs args)):=by
 cases args with
 |nil=>unfold cXs;exact AllK.nil
 |cons y r =>
  unfold cXs
  rw [cJ]
  exact (h y (by simp)).brk.app (ok_R fun z hz=>h z (by simp [hz]))
theorem ok_X:∀ (n:Nat) (x:EX),SizeOf.sizeOf x < n→wfX x→AllK (cX x):=by
 intro n
 induction n with
 |zero=>intro x h;omega
 |succ n ih =>
 rintro ⟨k,p,s,v,nm,t,args⟩ hs h
 unfold wfX at h
 obtain ⟨ha,hv,h⟩:=h
 have hA:∀ y ∈ args,AllK (cX y):=fun y hy=>ih y (by have:=List.sizeOf_lt_of_mem hy;simp only [EX.mk.sizeOf_spec] at hs;omega) (wfXs_mem ha hy)
 have hJ:=ok_J hA
 have hJ1:AllK (cJ ((cXs args).drop 1)):=by rw [cXs_drop];exact ok_J fun y hy=>hA y (List.mem_of_mem_drop hy)
 have s40:=AllK.one (okK_sym (c:=40) (by decide))
 have s41:=AllK.one (okK_sym (c:=41) (by decide))
 have s91:=AllK.one (okK_sym (c:=91) (by decide))
 have s93:=AllK.one (okK_sym (c:=93) (by decide))
 have s123:=AllK.one (okK_sym (c:=123) (by decide))
 have s125:=AllK.one (okK_sym (c:=125) (by decide))
 unfold cX
 rcases h with ⟨rfl,h⟩ | ⟨rfl,h⟩ | ⟨rfl,h⟩ | ⟨rfl,h⟩ | ⟨rfl,hl,h⟩ | ⟨rfl,hl⟩ | ⟨rfl,hl⟩ | ⟨rfl,h⟩ | ⟨rfl,hl,h⟩ | ⟨rfl,hl⟩
 ·rw [if_pos rfl];exact AllK.one h
 ·rw [if_neg (by decide),if_pos rfl];exact AllK.one h
 ·rw [if_neg (by decide),if_neg (by decide),if_pos rfl]
  split
  ·exact AllK.one (okK_word (fineK_of (by decide +kernel)))
  ·exact AllK.one (okK_word (fineK_of (by decide +kernel)))
 ·rw [if_neg (by decide),if_neg (by decide),if_neg (by decide),if_pos rfl];exact AllK.one h
 ·rw [if_neg (by decide),if_neg (by decide),if_neg (by decide),if_neg (by decide),if_pos rfl]
  exact ((ok_at hA 0 6).app (AllK.one (okK_sym (by decide)))).app (AllK.one h)
 ·rw [if_neg (by decide),if_neg (by decide),if_neg (by decide),if_neg (by decide),if_neg (by decide),if_pos rfl]
  exact (((ok_at hA 0 6).app s40).app hJ1).app s41
 ·rw [if_neg (by decide),if_neg (by decide),if_neg (by decide),if_neg (by decide),if_neg (by decide),if_neg (by decide),if_pos rfl]
  exact (((ok_at hA 0 6).app s91).app (ok_at hA 1 1)).app s93
 ·rw [if_neg (by decide),if_neg (by decide),if_neg (by decide),if_neg (by decide),if_neg (by decide),if_neg (by decide),if_neg (by decide),if_pos rfl]
  exact ((((AllK.one (okK_word (fineK_of (by decide +kernel)))).app (okT t h)).app s123).app hJ).app s125
 ·rw [if_neg (by decide),if_neg (by decide),if_neg (by decide),if_neg (by decide),if_neg (by decide),if_neg (by decide),if_neg (by decide),if_neg (by decide),if_neg (by decide)]
  exact ((ok_at hA 0 _).app (AllK.one (q:=(4,nm.data.toList)) (fine_op _ h))).app (ok_at hA 1 _)
 ·rw [if_neg (by decide),if_neg (by decide),if_neg (by decide),if_neg (by decide),if_neg (by decide),if_neg (by decide),if_neg (by decide),if_neg (by decide),if_pos rfl]
  exact (AllK.one (okK_sym (by decide))).app (ok_at hA 0 5)
theorem ok_ce {x:EX} (h:wfX x):AllK (ce x):=(ok_X _ x (Nat.lt_succ_self _) h).brk
theorem ce_len (x:EX):(ce x).length=bn 1 x:=rfl
section
variable {l:List TZ} (H:OkL l)
include H
end
end Go.Proofs.YtfcgoainglpdlaaGreatDoor
