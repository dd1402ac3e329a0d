/- What all of this layer's cards share: the table that strconv.Itoa reads, out of the row's list; a world for the witness. No condition. -/
import Derived.Test.YtfcgoainglpdlaaGreatDoorCards
import Derived.Test.YtfcgoainglpdlaaGreatDoorTie
import Derived.Test.YtfcgoainglpdlaaGreatDoorV22
import Derived.Test.YtfcgoainglpdlaaGreatDoorV03
import Derived.Deep.DeepHandedRow
import Derived.Lib.LaidTab
import Derived.ChangeSame
import Derived.Carry
namespace Go.Proofs.YtfcgoainglpdlaaGreatDoor
open Go.ChangeShapes Go.WideShapes Go.ChangeAt Go.RowKit
theorem own7:ownKnob Tryz.prog.godebug=none:=by kernel_rfl
theorem gTab7:Tryz.prog.globalNamed "internal/strconv.uint64pow10"=some 1:=by kernel_rfl
theorem gTabType7:(Tryz.prog.globals[1]?).map (·.type)=some 184:=by kernel_rfl
theorem cellsTab7:Tryz.prog.cellsOf 184=20:=by kernel_rfl
theorem cellsU7:Tryz.prog.cellsOf 170=1:=by kernel_rfl
def laid7:List (String × DataW Unit):=[("math/bits.deBruijn32tab",Rows.laid_math_bits_deBruijn32tab),("math/bits.deBruijn64tab",Rows.laid_math_bits_deBruijn64tab),("internal/strconv.uint64pow10",Rows.laid_internal_strconv_uint64pow10)]
theorem table7 {W:World} (h:laidMetH Tryz.prog laid7 W):TabW W:=by
 have h':laidMet Tryz.prog laid7 W:=h
 obtain ⟨ps,⟨_,_,_,_,_,_,_,_,_,_,⟨_,_,_,_,_,_,_,_,_,_,⟨g',t',cs,fuel,p,q,hg',ht',hvar,hd,_,_⟩,_⟩,_⟩,_,_⟩:=h'
 obtain rfl:=Option.some.inj (gTab7.symm.trans hg')
 obtain rfl:=Option.some.inj (gTabType7.symm.trans ht')
 have e:(Rows.laid_internal_strconv_uint64pow10:DataW Unit)=Lib.tabData .u64 Lib.pow10Tab:=by kernel_rfl
 rw [e] at hd
 show Lib.TabIs _ _ _ _ _
 unfold Lib.TabIs
 rw [hvar,← Lib.cells_of_tab Tryz.underlying184 Tryz.underlying170 cellsU7 cellsTab7 hd]
def tab32:List Int:=[0,1,28,2,29,14,24,3,30,22,20,15,25,17,4,8,31,27,13,23,21,19,16,7,26,12,18,6,11,5,10,9]
def tab64:List Int:=[0,1,56,2,57,49,28,3,61,58,42,50,38,29,17,4,62,47,59,36,45,43,51,22,53,39,33,30,24,18,12,5,63,55,48,27,60,41,37,16,46,35,44,21,52,32,23,11,54,26,40,15,34,20,31,10,25,14,19,9,13,8,7,6]
noncomputable def laidA7 (os:Os):World :=
 { World.holding Tryz.prog os ⟨#[],#[],[]⟩ with heap:=(World.holding Tryz.prog os ⟨#[],#[],[]⟩).heap.modify 1 fun
   |.cells _ t frozen=>.cells (Lib.pow10Tab.map fun z=>Value.int .u64 z).toArray t frozen
   |o=>o }
noncomputable def laidB7 (os:Os):World :=
 { laidA7 os with heap:=(laidA7 os).heap.modify 2 fun
   |.cells _ t frozen=>.cells (tab32.map fun z=>Value.int .u8 z).toArray t frozen
   |o=>o }
noncomputable def laidWorld7 (os:Os):World :=
 { laidB7 os with heap:=(laidB7 os).heap.modify 3 fun
   |.cells _ t frozen=>.cells (tab64.map fun z=>Value.int .u8 z).toArray t frozen
   |o=>o }
end Go.Proofs.YtfcgoainglpdlaaGreatDoor
