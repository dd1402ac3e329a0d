/-
  The chapter's example, as the statements lay it. No condition.
-/
import Derived.Test.YtmnhilgifjaocaaShd
namespace Go.Proofs.Ytmnhilgifjaocaa
open Go.RowKit
open Go.Lib hiding intOf

def leafY (k : Int) (p m : ByteArray) : GY := .mk k p m 0 []
def leafL (k : Int) (p m : ByteArray) : List Value := [.int .i64 k, .string p, .string m, .int .i64 0, .slice none 0 0]
theorem leaf_is (w : World) (k : Int) (p m : ByteArray) : IsY w (leafY k p m) (.agg (leafL k p m).toArray) := IsY.of (args := []) (Nat.le_refl _) (Nat.zero_le _) (IsYs.nil _ _ _)
set_option maxRecDepth 100000 in
theorem num_call (w : World) : Calls Try.prog 33 #[] w fun e w' => e = .returned (.agg #[.int .i64 1, .string noB, .string noB, .int .i64 0, .slice none 0 0]) ∧ Below w.heap.size w w' := by
  have hB : Below w.heap.size w (w.alloc (.cells #[.int .i64 1, .string noB, .string noB, .int .i64 0, .slice none 0 0] 29)) := (Below.refl _ w).alloc (Nat.le_refl _) _
  have HB := Lib.hid hB
  clear hB
  go_enter Try.func33, Try.ntmps33
  go_wp2
  refine bodyPost_ret (v := .agg #[.int .i64 1, .string noB, .string noB, .int .i64 0, .slice none 0 0]) (by simp [results, Try.results33, go_sem]) rfl ?_
  exact ⟨rfl, HB.out⟩
set_option maxRecDepth 100000 in
theorem named_call (p m : ByteArray) (w : World) : Calls Try.prog 32 #[.string p, .string m] w fun e w' => e = .returned (.agg #[.int .i64 4, .string p, .string m, .int .i64 0, .slice none 0 0]) ∧ Below w.heap.size w w' := by
  have hB : Below w.heap.size w (w.alloc (.cells #[.int .i64 4, .string p, .string m, .int .i64 0, .slice none 0 0] 29)) := (Below.refl _ w).alloc (Nat.le_refl _) _
  have HB := Lib.hid hB
  clear hB
  go_enter Try.func32, Try.ntmps32
  go_wp2
  refine bodyPost_ret (v := .agg #[.int .i64 4, .string p, .string m, .int .i64 0, .slice none 0 0]) (by simp [results, Try.results32, go_sem]) rfl ?_
  exact ⟨rfl, HB.out⟩

abbrev b1 (c : UInt8) : ByteArray := ⟨#[c]⟩
def mthM : MD := ⟨b1 109, [leafY 1 noB noB], leafY 2 noB noB⟩
def mthN : MD := ⟨b1 110, [], leafY 7 noB noB⟩
def decT : TD := ⟨b1 84, true, [(b1 102, leafY 1 noB noB)], [mthM]⟩
def decI : TD := ⟨b1 73, false, [], [mthM]⟩
def decJ : TD := ⟨b1 74, false, [], [mthN]⟩
def scpA : SCP := ⟨[⟨b1 97, [decT, decI, decJ]⟩], [leafY 4 (b1 97) (b1 73)]⟩
def typ (n : UInt8) : GY := leafY 4 (b1 97) (b1 n)
theorem say1 : meetsS scpA (typ 84) (typ 73) = true := by decide
theorem say2 : meetsS scpA (typ 84) (typ 74) = false := by decide
theorem say3 : assignS scpA (typ 84) (typ 73) = true := by decide
theorem say4 : assignS scpA (typ 73) (typ 84) = false := by decide
theorem say5 : fieldS scpA.W (typ 84) (b1 102) = some (leafY 1 noB noB) := by rfl
theorem say6 : methS scpA (leafY 6 noB noB) = [mthM] := by rfl
theorem say7 : alikeY zeroY (leafY 1 noB noB) = true := by decide
end Go.Proofs.Ytmnhilgifjaocaa
