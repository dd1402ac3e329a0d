/- Parse's contract at the tokens of a text; the walk of the statements' own 'awake': it answers true. No condition. -/
import Derived.Test.YtfcgoainglpdlaaGreatDoorV32
import Derived.Test.YtfcgoainglpdlaaGreatDoorV33
import Derived.Test.YtfcgoainglpdlaaGreatDoorV12
import Derived.Test.YtfcgoainglpdlaaGreatDoorV13
namespace Go.Proofs.YtfcgoainglpdlaaGreatDoor
open Go.RowKit
open Go.Lib hiding intOf
theorem AtToks.zt {w:World} {o:Option Addr} {ts:List Tok} (h:AtToks w o ts):ZAt w o (ts.map zTok):=by
 intro k t hk
 rw [List.getElem?_map] at hk
 obtain ⟨x,hx,rfl⟩:=Option.map_eq_some_iff.1 hk
 obtain ⟨g,off,ho,h0⟩:=h (k * 4 + 0) _ ((toksC_at ts k x hx 0 (by omega)).trans rfl)
 refine ⟨⟨g,off,none⟩,ho,fun j u hu=>?_⟩
 have hj:j < 4:=(List.getElem?_eq_some_iff.1 hu).1
 obtain ⟨g',off',ho',h1⟩:=h (k * 4 + j) u ((toksC_at ts k x hx j hj).trans hu)
 rw [ho] at ho';cases ho'
 rw [add_none'];exact h1
theorem toks_fits {s:List UInt8} (hn:s.length≤281474976710656):Fits ((toks s).map zTok):=by
 intro t ht
 obtain ⟨x,hx,rfl⟩:=List.mem_map.1 ht
 have:=(toks_ok s x hx).2.2.1
 show x.text.toArray.size≤_
 simp only [List.size_toArray]
 omega
theorem toks_few {s:List UInt8} (h:bad (toks s) 0=none):(toks s).length≤4001:=lexed_few (lexed_good' h)
def exAll (s:List UInt8):EO EX:=ex ((toks s).map zTok) (fuel ((toks s).map zTok)) 1 0 0
theorem exAll_some (s:List UInt8):exAll s≠.out:=(enough _).1 1 0 0 (by decide) (by decide) (by unfold fuel left;omega)
theorem parse_at (s:List UInt8) (h:bad (toks s) 0=none) (hn:s.length≤281474976710656) (o:Option Addr) (c:Nat) (w:World) (hz:AtToks w o (toks s)) :
  Calls Tryz.prog 23 #[.slice o (toks s).length c,.int .i64 0] w fun e w'=>∃ v,e=.returned v∧ParRes w.heap.size w' (exAll s) v∧Below w.heap.size w w':=by
 have hf:=toks_fits hn
 have hl:((toks s).map zTok).length≤1073741824:=by have:=toks_few h;rw [List.length_map];omega
 have:=parseE_any (c:=c) 0 w hz.zt (fuel ((toks s).map zTok)) (fun b m=>level_all hl hf _) (exAll_some s)
 rw [List.length_map] at this
 exact this
end Go.Proofs.YtfcgoainglpdlaaGreatDoor
