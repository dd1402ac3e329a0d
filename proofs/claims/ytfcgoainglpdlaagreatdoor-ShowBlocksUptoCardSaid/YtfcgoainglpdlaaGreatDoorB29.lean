/- The program's walk of a declaration and a file; its texts of blocks and files (made by tools/genprn.py). Conditions: the text is of at most 2^47 bytes; the library's table is laid. -/
import Derived.Test.YtfcgoainglpdlaaGreatDoorB28
set_option maxRecDepth 100000
set_option maxHeartbeats 2000000
namespace Go.Proofs.YtfcgoainglpdlaaGreatDoor
open Go.RowKit
open Go.Lib hiding intOf
theorem decl_1 (w0:World) (b m:Nat) (x:GD) (hk:x.kind=1) (v:Value) (hv:IsD w0 x v) (l:List UInt8) (w:World) (hp:SP w0 b m l w) :
  Does w0 b m 57 #[.pointer (some ⟨b,0,none⟩),v] (decL x) w l:=by
 intro hl
 have hv0:=hv
 obtain ⟨r0,r1,r2,r3,r4,r5,r6,ob,cb,of,cf,om,cm,t0,t1,t2,t3,t4,os,co,rfl,hln0,hrv,hbd,hfd,hmd,ht,hbo⟩:=hv
 rw [hk] at hv0
 rw [hk]
 have HX1:=Lib.hid (Blk.new w 76 #[.int .i64 1,.int .i64 x.pos,.int .i64 x.stop,.string x.name,.bool x.method,r0,r1,r2,r3,r4,r5,r6,.slice ob x.bounds.length cb,.slice of x.fields.length cf,.slice om x.methods.length cm,.bool x.has,t0,t1,t2,t3,t4,.slice os x.body.length co])
 have HP1:=Lib.hid (hp.alloc (.cells #[.int .i64 1,.int .i64 x.pos,.int .i64 x.stop,.string x.name,.bool x.method,r0,r1,r2,r3,r4,r5,r6,.slice ob x.bounds.length cb,.slice of x.fields.length cf,.slice om x.methods.length cm,.bool x.has,t0,t1,t2,t3,t4,.slice os x.body.length co] 76))
 have HK1:=Lib.hid ((Kq.refl w0.heap.size b w).alloc hp.base (.cells #[.int .i64 1,.int .i64 x.pos,.int .i64 x.stop,.string x.name,.bool x.method,r0,r1,r2,r3,r4,r5,r6,.slice ob x.bounds.length cb,.slice of x.fields.length cf,.slice om x.methods.length cm,.bool x.has,t0,t1,t2,t3,t4,.slice os x.body.length co] 76))
 have hbb:Hid (w.heap.size≠b):=by have:=hp.lt;show _≠_;omega
 clear hp
 have he:decL x=([116,121,112,101,32]++(x.name.data.toList++[32,115,116,114,117,99,116,32,123]))++x.fields.flatMap fldL++[32,125]:=by unfold decL;simp only [hk,if_true]
 rw [he] at hl ⊢
 have HL1:=Lib.hid hl
 have HS:=Lib.hid (fun (l':List UInt8) (W:World) (hp:SP w0 b m l' W)=>struct_any w0 b m x _ hv0 l' W hp)
 clear hl he hln0 hrv hbd hfd hmd ht hbo hv0
 generalize ([116,121,112,101,32]++(x.name.data.toList++[32,115,116,114,117,99,116,32,123]))++x.fields.flatMap fldL++[32,125]=q at *
 go_enter Tryz.func57,Tryz.ntmps57
 go_wp2_with (first
  |(refine boxLoad 76 22 size22 Tryz.underlying76 rfl _ rfl w.heap.size rfl (cs:=[_,_,_,_,_,_,_,_,_,_,_,_,_,_,_,_,_,_,_,_,_,_]) HX1.out rfl ?_)
  |(go_at_call 87;refine (HS.out _ _ HP1.out HL1.out).mono ?_;rintro e w2 ⟨rfl,hp,hk⟩;have HP2:=Lib.hid hp;have HK2:=Lib.hid (HK1.out.trans hk);clear hp hk))
 go_wp2
 first | go_end0 | refine bodyPost_ret (results_none rfl _ _ _) rfl ?_
 exact ⟨rfl,HP2.out,HK2.out⟩
theorem decl_2 (w0:World) (b m:Nat) (x:GD) (hk:x.kind=2) (v:Value) (hv:IsD w0 x v) (l:List UInt8) (w:World) (hp:SP w0 b m l w) :
  Does w0 b m 57 #[.pointer (some ⟨b,0,none⟩),v] (decL x) w l:=by
 intro hl
 have hv0:=hv
 obtain ⟨r0,r1,r2,r3,r4,r5,r6,ob,cb,of,cf,om,cm,t0,t1,t2,t3,t4,os,co,rfl,hln0,hrv,hbd,hfd,hmd,ht,hbo⟩:=hv
 rw [hk] at hv0
 rw [hk]
 have HX1:=Lib.hid (Blk.new w 76 #[.int .i64 2,.int .i64 x.pos,.int .i64 x.stop,.string x.name,.bool x.method,r0,r1,r2,r3,r4,r5,r6,.slice ob x.bounds.length cb,.slice of x.fields.length cf,.slice om x.methods.length cm,.bool x.has,t0,t1,t2,t3,t4,.slice os x.body.length co])
 have HP1:=Lib.hid (hp.alloc (.cells #[.int .i64 2,.int .i64 x.pos,.int .i64 x.stop,.string x.name,.bool x.method,r0,r1,r2,r3,r4,r5,r6,.slice ob x.bounds.length cb,.slice of x.fields.length cf,.slice om x.methods.length cm,.bool x.has,t0,t1,t2,t3,t4,.slice os x.body.length co] 76))
 have HK1:=Lib.hid ((Kq.refl w0.heap.size b w).alloc hp.base (.cells #[.int .i64 2,.int .i64 x.pos,.int .i64 x.stop,.string x.name,.bool x.method,r0,r1,r2,r3,r4,r5,r6,.slice ob x.bounds.length cb,.slice of x.fields.length cf,.slice om x.methods.length cm,.bool x.has,t0,t1,t2,t3,t4,.slice os x.body.length co] 76))
 have hbb:Hid (w.heap.size≠b):=by have:=hp.lt;show _≠_;omega
 clear hp
 have he:decL x=([116,121,112,101,32]++(x.name.data.toList++[32,105,110,116,101,114,102,97,99,101,32,123]))++x.methods.flatMap methL++[32,125]:=by unfold decL;simp only [hk,show ¬ (2:Int)=1 by decide,if_false,if_true]
 rw [he] at hl ⊢
 have HL1:=Lib.hid hl
 have HS:=Lib.hid (fun (l':List UInt8) (W:World) (hp:SP w0 b m l' W)=>iface_any w0 b m x _ hv0 l' W hp)
 clear hl he hln0 hrv hbd hfd hmd ht hbo hv0
 generalize ([116,121,112,101,32]++(x.name.data.toList++[32,105,110,116,101,114,102,97,99,101,32,123]))++x.methods.flatMap methL++[32,125]=q at *
 go_enter Tryz.func57,Tryz.ntmps57
 go_wp2_with (first
  |(refine boxLoad 76 22 size22 Tryz.underlying76 rfl _ rfl w.heap.size rfl (cs:=[_,_,_,_,_,_,_,_,_,_,_,_,_,_,_,_,_,_,_,_,_,_]) HX1.out rfl ?_)
  |(go_at_call 88;refine (HS.out _ _ HP1.out HL1.out).mono ?_;rintro e w2 ⟨rfl,hp,hk⟩;have HP2:=Lib.hid hp;have HK2:=Lib.hid (HK1.out.trans hk);clear hp hk))
 go_wp2
 first | go_end0 | refine bodyPost_ret (results_none rfl _ _ _) rfl ?_
 exact ⟨rfl,HP2.out,HK2.out⟩
theorem decl_3 (w0:World) (b m:Nat) (hT:TabW w0) (x:GD) (hk:x.kind=3) (v:Value) (hv:IsD w0 x v) (l:List UInt8) (w:World) (hp:SP w0 b m l w) :
  Does w0 b m 57 #[.pointer (some ⟨b,0,none⟩),v] (decL x) w l:=by
 intro hl
 have hv0:=hv
 obtain ⟨r0,r1,r2,r3,r4,r5,r6,ob,cb,of,cf,om,cm,t0,t1,t2,t3,t4,os,co,rfl,hln0,hrv,hbd,hfd,hmd,ht,hbo⟩:=hv
 rw [hk] at hv0
 rw [hk]
 have HX1:=Lib.hid (Blk.new w 76 #[.int .i64 3,.int .i64 x.pos,.int .i64 x.stop,.string x.name,.bool x.method,r0,r1,r2,r3,r4,r5,r6,.slice ob x.bounds.length cb,.slice of x.fields.length cf,.slice om x.methods.length cm,.bool x.has,t0,t1,t2,t3,t4,.slice os x.body.length co])
 have HP1:=Lib.hid (hp.alloc (.cells #[.int .i64 3,.int .i64 x.pos,.int .i64 x.stop,.string x.name,.bool x.method,r0,r1,r2,r3,r4,r5,r6,.slice ob x.bounds.length cb,.slice of x.fields.length cf,.slice om x.methods.length cm,.bool x.has,t0,t1,t2,t3,t4,.slice os x.body.length co] 76))
 have HK1:=Lib.hid ((Kq.refl w0.heap.size b w).alloc hp.base (.cells #[.int .i64 3,.int .i64 x.pos,.int .i64 x.stop,.string x.name,.bool x.method,r0,r1,r2,r3,r4,r5,r6,.slice ob x.bounds.length cb,.slice of x.fields.length cf,.slice om x.methods.length cm,.bool x.has,t0,t1,t2,t3,t4,.slice os x.body.length co] 76))
 have hbb:Hid (w.heap.size≠b):=by have:=hp.lt;show _≠_;omega
 clear hp
 have he:decL x=funL x:=by unfold decL;simp only [hk,show ¬ (3:Int)=1 by decide,show ¬ (3:Int)=2 by decide,if_false,if_true]
 rw [he] at hl ⊢
 have HL1:=Lib.hid hl
 have HS:=Lib.hid (fun (l':List UInt8) (W:World) (hp:SP w0 b m l' W)=>function_any w0 b m hT x _ hv0 l' W hp)
 clear hl he hln0 hrv hbd hfd hmd ht hbo hT hv0
 generalize funL x=q at *
 go_enter Tryz.func57,Tryz.ntmps57
 go_wp2_with (first
  |(refine boxLoad 76 22 size22 Tryz.underlying76 rfl _ rfl w.heap.size rfl (cs:=[_,_,_,_,_,_,_,_,_,_,_,_,_,_,_,_,_,_,_,_,_,_]) HX1.out rfl ?_)
  |(go_at_call 89;refine (HS.out _ _ HP1.out HL1.out).mono ?_;rintro e w2 ⟨rfl,hp,hk⟩;have HP2:=Lib.hid hp;have HK2:=Lib.hid (HK1.out.trans hk);clear hp hk))
 go_wp2
 first | go_end0 | refine bodyPost_ret (results_none rfl _ _ _) rfl ?_
 exact ⟨rfl,HP2.out,HK2.out⟩
theorem decl_no (w0:World) (b m:Nat) (x:GD) (hk:x.kind≠1∧x.kind≠2∧x.kind≠3) (v:Value) (hv:IsD w0 x v) (l:List UInt8) (w:World) (hp:SP w0 b m l w) :
  Does w0 b m 57 #[.pointer (some ⟨b,0,none⟩),v] (decL x) w l:=by
 intro hl
 obtain ⟨r0,r1,r2,r3,r4,r5,r6,ob,cb,of,cf,om,cm,t0,t1,t2,t3,t4,os,co,rfl,hln0,hrv,hbd,hfd,hmd,ht,hbo⟩:=hv
 have HX1:=Lib.hid (Blk.new w 76 #[.int .i64 x.kind,.int .i64 x.pos,.int .i64 x.stop,.string x.name,.bool x.method,r0,r1,r2,r3,r4,r5,r6,.slice ob x.bounds.length cb,.slice of x.fields.length cf,.slice om x.methods.length cm,.bool x.has,t0,t1,t2,t3,t4,.slice os x.body.length co])
 have HP1:=Lib.hid (hp.alloc (.cells #[.int .i64 x.kind,.int .i64 x.pos,.int .i64 x.stop,.string x.name,.bool x.method,r0,r1,r2,r3,r4,r5,r6,.slice ob x.bounds.length cb,.slice of x.fields.length cf,.slice om x.methods.length cm,.bool x.has,t0,t1,t2,t3,t4,.slice os x.body.length co] 76))
 have HK1:=Lib.hid ((Kq.refl w0.heap.size b w).alloc hp.base (.cells #[.int .i64 x.kind,.int .i64 x.pos,.int .i64 x.stop,.string x.name,.bool x.method,r0,r1,r2,r3,r4,r5,r6,.slice ob x.bounds.length cb,.slice of x.fields.length cf,.slice om x.methods.length cm,.bool x.has,t0,t1,t2,t3,t4,.slice os x.body.length co] 76))
 have hbb:Hid (w.heap.size≠b):=by have:=hp.lt;show _≠_;omega
 clear hp
 have he:decL x=[63]:=by unfold decL;simp only [hk.1,hk.2.1,hk.2.2,if_false]
 rw [he] at hl ⊢
 have HL1:=Lib.hid hl
 have h1:=hk.1
 have h2:=hk.2.1
 have h3:=hk.2.2
 clear hl he hln0 hrv hbd hfd hmd ht hbo hk
 generalize x.kind=k at *
 go_enter Tryz.func57,Tryz.ntmps57
 go_wp2_with (first
  |(go_at_call 47;refine (put1 w0 b m _ _ HP1.out _ _ (by simp) HL1.out).mono ?_;rintro e w2 ⟨rfl,hp,hk⟩;have HP2:=Lib.hid hp;have HK2:=Lib.hid (HK1.out.trans hk);clear hp hk))
 go_wp2
 first | go_end0 | refine bodyPost_ret (results_none rfl _ _ _) rfl ?_
 exact ⟨rfl,HP2.out,HK2.out⟩
theorem run_max_two (w:World) (ts:Array TypeId) (t:TypeId) (k k':IntKind) (x y:Int):(Builtin.max_ ts t #[.int k x,.int k' y]).run Tryz.prog w=.ok (.int k (if x < y then y else x)) w:=by
 simp [Builtin.max_,Builtin.max2]
theorem size4:(Tryz.prog.info? 42).map (·.size)=some 4:=by kernel_rfl
theorem decl_any (w0:World) (b m:Nat) (hT:TabW w0) (x:GD) (v:Value) (hv:IsD w0 x v) (l:List UInt8) (w:World) (hp:SP w0 b m l w) :
  Does w0 b m 57 #[.pointer (some ⟨b,0,none⟩),v] (decL x) w l:=by
 by_cases h1:x.kind=1
 ·exact decl_1 w0 b m x h1 v hv l w hp
 by_cases h2:x.kind=2
 ·exact decl_2 w0 b m x h2 v hv l w hp
 by_cases h3:x.kind=3
 ·exact decl_3 w0 b m hT x h3 v hv l w hp
 ·exact decl_no w0 b m x ⟨h1,h2,h3⟩ v hv l w hp
theorem file_any (w0:World) (b m:Nat) (hT:TabW w0) (x:GF) (v:Value) (hv:IsF w0 x v) (l:List UInt8) (w:World) (hp:SP w0 b m l w) :
  Does w0 b m 37 #[.pointer (some ⟨b,0,none⟩),v] (filL x) w l:=by
 intro hl
 obtain ⟨oi,ci,od,cd,rfl,hln0,him,hde⟩:=hv
 unfold filL at hl
 unfold filL
 have HX1:=Lib.hid (Blk.new w 42 #[.string x.name,.int .i64 x.pos,.slice oi x.imports.length ci,.slice od x.decls.length cd])
 have HP1:=Lib.hid (hp.alloc (.cells #[.string x.name,.int .i64 x.pos,.slice oi x.imports.length ci,.slice od x.decls.length cd] 42))
 have HK1:=Lib.hid ((Kq.refl w0.heap.size b w).alloc hp.base (.cells #[.string x.name,.int .i64 x.pos,.slice oi x.imports.length ci,.slice od x.decls.length cd] 42))
 have hb0:Hid (w.heap.size≠b):=by have:=hp.lt;show _≠_;omega
 clear hp
 simp only [List.length_append] at hl
 have HLa:Hid (l.length + ([112,97,99,107,97,103,101,32]++(x.name.data.toList++[59,10])).length≤140737488355328):=by simp only [List.length_append];show _≤_;omega
 have HL:Hid ((l++([112,97,99,107,97,103,101,32]++(x.name.data.toList++[59,10]))).length + (x.imports.flatMap impL).length≤140737488355328):=by simp only [List.length_append];show _≤_;omega
 have HLd:Hid ((l++([112,97,99,107,97,103,101,32]++(x.name.data.toList++[59,10]))++x.imports.flatMap impL).length + (x.decls.flatMap dclL).length≤140737488355328):=by simp only [List.length_append];show _≤_;omega
 have HG:=Lib.hid him
 have HGd:=Lib.hid hde
 have HTT:=Lib.hid hT
 have hn1:=hln0.1
 have hn2:=hln0.2
 clear hl hln0 him hde hT
 go_enter Tryz.func37,Tryz.ntmps37
 go_wp2_with (first
  |(go_at_call 47;refine (put3 w0 b m _ _ HP1.out _ _ _ _ (by simp) HLa.out).mono ?_;rintro e w2 ⟨rfl,hp,hk⟩;have HP2:=Lib.hid hp;have HK2:=Lib.hid (HK1.out.trans hk);have HX2:=Lib.hid (hk.blk HX1.out hb0.out (by decide));have d2:=HX2.out.cell;clear hp hk))
 go_loopw [16] (fun i wr=>∃ j:Nat,i=.int .i64 (j:Nat)∧j≤x.imports.length∧Hid (SP w0 b m (l++([112,97,99,107,97,103,101,32]++(x.name.data.toList++[59,10]))++(x.imports.take j).flatMap impL) wr)∧Hid (Kq w0.heap.size b w wr)∧Hid (Blk wr w.heap.size 42 #[.string x.name,.int .i64 x.pos,.slice oi x.imports.length ci,.slice od x.decls.length cd])) (fun i _=>x.imports.length - (RowKit.intOf i).toNat)
 case atStart=>exact ⟨0,rfl,Nat.zero_le _,by exact ⟨HP2.out.cast (by simp),HK2,HX2⟩⟩
 case round =>
  obtain ⟨j,rfl,hj,HPr,HKr,HXr⟩:=hrel
  by_cases hlt:j < x.imports.length
  ·have hlt':decide ((j:Int) < (x.imports.length:Int))=true:=by simp;omega
   have hj2:(j:Int) + 1≤9223372036854775807:=by omega
   have hj3:-9223372036854775808≤(j:Int) + 1:=by omega
   have hg:x.imports[j]?=some x.imports[j]:=List.getElem?_eq_getElem hlt
   obtain ⟨a,cs,rfl,hcl,hR,hy⟩:=HG.out.at_ j hg
   rw [Nat.zero_add] at hR
   have HN:=Lib.hid (flatMap_next (f:=impL) hg)
   have hln:=flatMap_take_le impL x.imports (j + 1)
   rw [HN.out] at hln
   generalize x.imports[j]=y at *
   have hty:impL y=[105,109,112,111,114,116,32]++(y.1.data.toList++[59,10]):=rfl
   rw [hty] at hln
   have HL1:Hid ((l++([112,97,99,107,97,103,101,32]++(x.name.data.toList++[59,10]))++(x.imports.take j).flatMap impL).length + ([105,109,112,111,114,116,32]++(y.1.data.toList++[59,10])).length≤140737488355328):=by have h0:=HL.out;(try simp only [List.length_append] at h0 hln);(try simp only [List.length_append]);show _≤_;omega
   have HO:=Lib.hid hy.ones
   have hcs:cs=[.string y.1,.int .i64 y.2]:=by unfold IsN at hy;simp only [Value.agg.injEq] at hy;have:=congrArg Array.toList hy;simpa using this
   subst hcs
   have HR:=Lib.hid hR
   clear hcl
   have HX3:=Lib.hid (Blk.new wr 69 #[.string y.1,.int .i64 y.2])
   have HP3:=Lib.hid (HPr.out.alloc (.cells #[.string y.1,.int .i64 y.2] 69))
   have HK3:=Lib.hid (HKr.out.alloc HPr.out.base (.cells #[.string y.1,.int .i64 y.2] 69))
   have HXR:=Lib.hid (HXr.out.below ((Below.refl _ _).alloc (Nat.le_refl _) (.cells #[.string y.1,.int .i64 y.2] 69)))
   have hbb:Hid (wr.heap.size≠b):=by have:=HPr.out.lt;show _≠_;omega
   clear hln hg hR hty hy
   go_wp2_with (first
    |(go_at_call 47;refine (put3 w0 b m _ _ HP3.out _ _ _ _ (by simp) HL1.out).mono ?_;rintro e w4 ⟨rfl,hp,hk⟩;have HP4:=Lib.hid hp;have HK4:=Lib.hid (HK3.out.trans hk);have HX5:=Lib.hid (hk.blk HXR.out hb0.out (by decide));clear hp hk)
    |(refine boxNew 69 2 size2 rfl _ _ rfl rfl [.string y.1,.int .i64 y.2] rfl rfl rfl HO.out ?_)
    |(refine boxLoadG 69 2 size2 Tryz.underlying69 rfl _ rfl _ rfl (cs:=[.string y.1,.int .i64 y.2]) (fun j v h=>((HPr.out.below).cell (World.block_lt_of_cell? _ _ (HR.out j v h))).trans (HR.out j v h)) rfl ?_))
   case roundEnd =>
    refine ⟨⟨j + 1,by push_cast;rfl,by omega,HP4.out.cast ?_,HK4,HX5⟩,by simp [RowKit.intOf];omega⟩
    rw [HN.out];simp [impL]
  ·have hlt':decide ((j:Int) < (x.imports.length:Int))=false:=by simp;omega
   have hj':Hid (x.imports.take j=x.imports):=List.take_of_length_le (by omega)
   have HPe:=HPr.out
   rw [hj'.out] at HPe
   have HPE:=Lib.hid HPe
   clear HPe
   clear HPr
   have d2:=HXr.out.cell
   go_wp2
   go_loopw [29] (fun i wr=>∃ j:Nat,i=.int .i64 (j:Nat)∧j≤x.decls.length∧Hid (SP w0 b m (l++([112,97,99,107,97,103,101,32]++(x.name.data.toList++[59,10]))++x.imports.flatMap impL++(x.decls.take j).flatMap dclL) wr)∧Hid (Kq w0.heap.size b w wr)) (fun i _=>x.decls.length - (RowKit.intOf i).toNat)
   case atStart=>exact ⟨0,rfl,Nat.zero_le _,by simpa [Hid] using And.intro HPE.out HKr.out⟩
   case round =>
    obtain ⟨j,rfl,hj,HPr,HKr⟩:=hrel
    by_cases hlt:j < x.decls.length
    ·have hlt':decide ((j:Int) < (x.decls.length:Int))=true:=by simp;omega
     have hj2:(j:Int) + 1≤9223372036854775807:=by omega
     have hj3:-9223372036854775808≤(j:Int) + 1:=by omega
     have hg:x.decls[j]?=some x.decls[j]:=List.getElem?_eq_getElem hlt
     obtain ⟨a,cs,rfl,hcl,hR,hy⟩:=HGd.out.at_ j hg
     rw [Nat.zero_add] at hR
     have HN:=Lib.hid (flatMap_next (f:=dclL) hg)
     have hln:=flatMap_take_le dclL x.decls (j + 1)
     rw [HN.out] at hln
     generalize x.decls[j]=y at *
     have hty:dclL y=decL y++[10]:=rfl
     rw [hty] at hln
     have HL1:Hid ((l++([112,97,99,107,97,103,101,32]++(x.name.data.toList++[59,10]))++x.imports.flatMap impL++(x.decls.take j).flatMap dclL).length + (decL y).length≤140737488355328):=by have h0:=HLd.out;(try simp only [List.length_append] at h0 hln);(try simp only [List.length_append]);show _≤_;omega
     have HL2:Hid ((l++([112,97,99,107,97,103,101,32]++(x.name.data.toList++[59,10]))++x.imports.flatMap impL++(x.decls.take j).flatMap dclL++decL y).length + ([10]).length≤140737488355328):=by have h0:=HLd.out;(try simp only [List.length_append] at h0 hln);(try simp only [List.length_append]);show _≤_;omega
     have HDE:=Lib.hid (fun (l':List UInt8) (W:World) (hp:SP w0 b m l' W)=>decl_any w0 b m HTT.out y _ hy l' W hp)
     have HR:=Lib.hid hR
     have HO:=Lib.hid hy.ones
     have HC:=Lib.hid hcl
     have HX3:=Lib.hid (Blk.new wr 76 cs.toArray)
     have HP3:=Lib.hid (HPr.out.alloc (.cells cs.toArray 76))
     have HK3:=Lib.hid (HKr.out.alloc HPr.out.base (.cells cs.toArray 76))
     have hbb:Hid (wr.heap.size≠b):=by have:=HPr.out.lt;show _≠_;omega
     clear hln hg hR hy hcl hty
     go_wp2_with (first
      |(go_at_call 47;refine (put1 w0 b m _ _ HP4.out _ _ rfl HL2.out).mono ?_;rintro e w5 ⟨rfl,hp,hk⟩;have HP5:=Lib.hid hp;have HK5:=Lib.hid (HK4.out.trans hk);clear hp hk)
      |(go_at_call 57;refine (HDE.out _ _ HP3.out HL1.out).mono ?_;rintro e w4 ⟨rfl,hp,hk⟩;have HP4:=Lib.hid hp;have HK4:=Lib.hid (HK3.out.trans hk);clear hp hk)
      |(refine boxLoad 76 22 size22 Tryz.underlying76 rfl _ rfl wr.heap.size rfl (cs:=cs) HX3.out HC.out ?_)
      |(refine boxNew 76 22 size22 rfl _ _ rfl rfl cs rfl rfl HC.out HO.out ?_)
      |(refine boxLoadG 76 22 size22 Tryz.underlying76 rfl _ rfl _ rfl (cs:=cs) (fun j v h=>((HPr.out.below).cell (World.block_lt_of_cell? _ _ (HR.out j v h))).trans (HR.out j v h)) HC.out ?_))
     case roundEnd =>
      refine ⟨⟨j + 1,by push_cast;rfl,by omega,HP5.out.cast ?_,HK5⟩,by simp [RowKit.intOf];omega⟩
      rw [HN.out];simp [dclL]
    ·have hlt':decide ((j:Int) < (x.decls.length:Int))=false:=by simp;omega
     have hj':Hid (x.decls.take j=x.decls):=List.take_of_length_le (by omega)
     have HPe:=HPr.out
     rw [hj'.out] at HPe
     have HPE:=Lib.hid HPe
     clear HPe
     go_wp2
     first | go_end0 | refine bodyPost_ret (results_none rfl _ _ _) rfl ?_
     refine ⟨rfl,HPE.out.cast ?_,HKr.out⟩
     simp
theorem fileS_any (x:GF) (v:Value) (w:World) (hT:TabW w) (hv:IsF w x v) (hs:(filL x).length≤140737488355328) :
  Calls Tryz.prog 20 #[v] w fun e w'=>e=.returned (.string ⟨(filL x).toArray⟩)∧Below w.heap.size w w':=by
 have HV:=Lib.hid hv
 obtain ⟨oi,ci,od,cd,rfl,_⟩:=hv
 have H0:Hid (Below w.heap.size w (w.alloc (.cells #[.string x.name,.int .i64 x.pos,.slice oi x.imports.length ci,.slice od x.decls.length cd] 42))):=(Below.refl _ _).alloc (Nat.le_refl _) _
 have HX:=Lib.hid (Blk.new w 42 #[.string x.name,.int .i64 x.pos,.slice oi x.imports.length ci,.slice od x.decls.length cd])
 have HP:=Lib.hid (printed_File (w.alloc (.cells #[.string x.name,.int .i64 x.pos,.slice oi x.imports.length ci,.slice od x.decls.length cd] 42)) ⟨w.heap.size,0,none⟩ (filL x) hs (fun b m W hp hl=>by
  have HP1:=Lib.hid hp
  have HK1:=Lib.hid (Kq.refl (w.alloc (.cells #[.string x.name,.int .i64 x.pos,.slice oi x.imports.length ci,.slice od x.decls.length cd] 42)).heap.size b W)
  have HX1:=Lib.hid (HX.out.below hp.below)
  have HT:=Lib.hid (file_any _ b m (hT.below H0.out) x _ (HV.out.below H0.out) [] W hp hl)
  clear hp hl hs hT
  go_enter Tryz.func36,Tryz.ntmps36
  go_wp2_with (first
   |(refine boxLoad 42 4 size4 Tryz.underlying42 rfl _ rfl w.heap.size rfl (cs:=[_,_,_,_]) HX1.out rfl ?_)
   |(go_at_call 37;refine (HT.out).mono ?_;rintro e w2 ⟨rfl,hp,hk⟩;have HP2:=Lib.hid hp;have HK2:=Lib.hid (HK1.out.trans hk);clear hp hk))
  first | go_end0 | refine bodyPost_ret (results_none rfl _ _ _) rfl ?_
  exact ⟨rfl,HP2.out,HK2.out⟩))
 clear hs hT
 go_enter Tryz.func20,Tryz.ntmps20
 go_wp2_with (go_at_call 25;refine HP.out.mono ?_;rintro e w2 ⟨rfl,hb⟩;have HB:=Lib.hid (H0.out.trans (hb.mono H0.out.size));clear hb)
 go_ret
 exact ⟨rfl,HB.out⟩
theorem blockS_any (ss:List GS) (o:Option Addr) (c:Nat) (hn:ss.length≤9223372036854775807) (i:Int) (q:Nat) (hmx:max i 0=(q:Int)) (hq:q≤9223372036854775807) (w:World) (hT:TabW w) (hx:IsSs w o 0 ss) (hs:(blkL (min q 100) ss).length≤140737488355328) :
  Calls Tryz.prog 17 #[.slice o ss.length c,.int .i64 i] w fun e w'=>e=.returned (.string ⟨(blkL (min q 100) ss).toArray⟩)∧Below w.heap.size w w':=by
 have HV:=Lib.hid hx
 have H0:Hid (Below w.heap.size w ((w.alloc (.cells #[.slice o ss.length c] 35)).alloc (.cells #[.int .i64 i] 3))):=((Below.refl _ _).alloc (Nat.le_refl _) _).alloc (by simp) _
 have HX:Hid (Blk ((w.alloc (.cells #[.slice o ss.length c] 35)).alloc (.cells #[.int .i64 i] 3)) w.heap.size 35 #[.slice o ss.length c]):=(Blk.new w 35 #[.slice o ss.length c]).below ((Below.refl _ _).alloc (Nat.le_refl _) _)
 have HY:Hid (Blk ((w.alloc (.cells #[.slice o ss.length c] 35)).alloc (.cells #[.int .i64 i] 3)) (w.heap.size + 1) 3 #[.int .i64 i]):=by
  have:=Blk.new (w.alloc (.cells #[.slice o ss.length c] 35)) 3 #[.int .i64 i]
  simpa [Hid] using this
 have hrm:∀ (w:World) (ts:Array TypeId) (t:TypeId),(Builtin.max_ ts t #[.int .i64 i,.int .i64 0]).run Tryz.prog w=.ok (.int .i64 (q:Nat)) w:=fun w ts t=>by
  rw [run_max_two,← hmx]
  congr 2
  split <;> omega
 clear hmx
 have HP:=Lib.hid (printed_Block ((w.alloc (.cells #[.slice o ss.length c] 35)).alloc (.cells #[.int .i64 i] 3)) ⟨w.heap.size,0,none⟩ ⟨w.heap.size + 1,0,none⟩ (blkL (min q 100) ss) hs (fun b m W hp hl=>by
  have HP1:=Lib.hid hp
  have HK1:=Lib.hid (Kq.refl ((w.alloc (.cells #[.slice o ss.length c] 35)).alloc (.cells #[.int .i64 i] 3)).heap.size b W)
  have HX1:=Lib.hid (HX.out.below hp.below)
  have HY1:=Lib.hid (HY.out.below hp.below)
  have HT:=Lib.hid (block_any _ b m (hT.below H0.out) ss q o c hn (HV.out.below H0.out) hq [] W hp hl)
  have x1:=HX1.out.cell 0
  have y1:=HY1.out.cell 0
  simp only [List.getElem?_toArray,List.getElem?_cons_zero] at x1 y1
  clear hp hl hs hT hn hq hx
  go_enter Tryz.func31,Tryz.ntmps31
  go_wp2_with (go_at_call 32;refine (HT.out).mono ?_;rintro e w2 ⟨rfl,hp,hk⟩;have HP2:=Lib.hid hp;have HK2:=Lib.hid (HK1.out.trans hk);clear hp hk)
  first | go_end0 | refine bodyPost_ret (results_none rfl _ _ _) rfl ?_
  exact ⟨rfl,HP2.out,HK2.out⟩))
 clear hs hT hx hq hrm
 go_enter Tryz.func17,Tryz.ntmps17
 go_wp2_with (go_at_call 25;refine HP.out.mono ?_;rintro e w2 ⟨rfl,hb⟩;have HB:=Lib.hid (H0.out.trans (hb.mono H0.out.size));clear hb)
 go_ret
 exact ⟨rfl,HB.out⟩
end Go.Proofs.YtfcgoainglpdlaaGreatDoor
