/- The document's plain text of an expression. Conditions: the text's length is an int; the library's table is laid. The document's plain text of an expression with parts (made by tools/genogk.py). Conditions: the text's length is an int; the library's table is laid. What is true in every later world; cells that stand. No condition. -/
import Derived.Test.YtfcgoainglpdlaaGreatDoorV21
import Derived.WalkSmall
import Derived.Lib.AppendIntMem
namespace Go.Proofs.YtfcgoainglpdlaaGreatDoor
open Go.RowKit
abbrev TabW (w:World):Prop:=Lib.TabIs Tryz.prog w "internal/strconv.uint64pow10" .u64 Lib.pow10Tab
theorem TabW.below {w w':World} (h:TabW w) (hb:Below w.heap.size w w'):TabW w':=by
 unfold TabW Lib.TabIs World.var? at *
 cases hg:Tryz.prog.globalNamed "internal/strconv.uint64pow10" with
 |none=>simp [hg] at h
 |some g =>
  simp only [hg,Option.bind_some] at h ⊢
  have hlt:g < w.heap.size:=by
   rcases Nat.lt_or_ge g w.heap.size with h' | h'
   ·exact h'
   ·rw [Array.getElem?_eq_none h'] at h;simp at h
  rw [hb.block g hlt]
  exact h
end Go.Proofs.YtfcgoainglpdlaaGreatDoor
namespace Go.Proofs.YtfcgoainglpdlaaGreatDoor
open Go.RowKit
end Go.Proofs.YtfcgoainglpdlaaGreatDoor
namespace Go.Proofs.YtfcgoainglpdlaaGreatDoor
open Go.RowKit
theorem cellsBelow {w w':World} {b:Nat} {cs:Array Value} (h:∀ i:Nat,w.cell? ⟨b,i,none⟩=cs[i]?) (v:Value) (hv:cs[0]?=some v) (hB:Below w.heap.size w w'):∀ i:Nat,w'.cell? ⟨b,i,none⟩=cs[i]?:=fun i =>
 (World.cell?_of_block (w:=w) (a:=⟨b,i,none⟩) (hB.block b (World.block_lt_of_cell? w ⟨b,0,none⟩ ((h 0).trans hv)))).trans (h i)
end Go.Proofs.YtfcgoainglpdlaaGreatDoor
