/-
  Two of the library's contracts at this program's numbers: stringslite.Clone, sort.Search. No condition beyond theirs.
-/
import Derived.Shelf.Pu.Clone
import Derived.Shelf.SlSorted.Search
import Derived.Test.YtakjajpacilnaaaProg
import Derived.KernelRfl
namespace Go.Proofs.Ytakjajpacilnaaa
open Go.Shelf

def cloneRen : Ren := ⟨fun | 25 => 27 | n => n, fun | 37 => 51 | 47 => 52 | n => n, fun n => n⟩
theorem cloneLays : LaysPu.n25 Try.prog cloneRen := {
  mixed := by kernel_rfl
  f25 := Try.func27.trans (congrArg some (by kernel_rfl))
  t0 := Try.underlying0
  a0 := Try.isAgg0
  z0 := Try.sizeOf0
  v0 := Try.zeroValue0
  i0 := by kernel_rfl
  t3 := Try.underlying3
  a3 := Try.isAgg3
  z3 := Try.sizeOf3
  v3 := Try.zeroValue3
  i3 := by kernel_rfl
  t4 := Try.underlying4
  a4 := Try.isAgg4
  z4 := Try.sizeOf4
  v4 := Try.zeroValue4
  i4 := by kernel_rfl
  t5 := Try.underlying5
  a5 := Try.isAgg5
  z5 := Try.sizeOf5
  v5 := Try.zeroValue5
  i5 := by kernel_rfl
  t9 := Try.underlying9
  a9 := Try.isAgg9
  z9 := Try.sizeOf9
  v9 := Try.zeroValue9
  i9 := by kernel_rfl
  t37 := Try.underlying51
  a37 := Try.isAgg51
  z37 := Try.sizeOf51
  v37 := Try.zeroValue51
  i37 := by kernel_rfl
  t47 := Try.underlying52
  a47 := Try.isAgg52
  z47 := Try.sizeOf52
  v47 := Try.zeroValue52
  i47 := by kernel_rfl }

def searchRen : Ren := ⟨fun | 16 => 22 | n => n, fun | 35 => 42 | 38 => 50 | n => n, fun n => n⟩
theorem searchLays : SlLaysO.n16 Try.prog searchRen := {
  mixed := by kernel_rfl
  f16 := Try.func22.trans (congrArg some (by kernel_rfl))
  t3 := Try.underlying3
  a3 := Try.isAgg3
  z3 := Try.sizeOf3
  v3 := Try.zeroValue3
  t4 := Try.underlying4
  a4 := Try.isAgg4
  z4 := Try.sizeOf4
  v4 := Try.zeroValue4
  t35 := Try.underlying42
  a35 := Try.isAgg42
  z35 := Try.sizeOf42
  v35 := Try.zeroValue42
  t38 := Try.underlying50
  a38 := Try.isAgg50
  z38 := Try.sizeOf50
  v38 := Try.zeroValue50 }

end Go.Proofs.Ytakjajpacilnaaa
