/-
  The document's own small steps on names: is a name among others, a name put in its place. Condition: at most a million names.
-/
import Derived.Test.YtgnhcaepkgbieaaNma
import Derived.Test.YtgnhcaepkgbieaaGrc
import Derived.Lib.Hide
import Derived.Lib.Walk
namespace Go.Proofs.Ytgnhcaepkgbieaa
open Go.RowKit

/-- A name's bytes. -/
def nm (s : ByteArray) : Nm := s.data.toList
def nms (l : List ByteArray) : List Nm := l.map nm
theorem nm_inj {a b : ByteArray} (h : nm a = nm b) : a = b := ByteArray.ext (Array.ext' h)
theorem nm_eq (a b : ByteArray) : (a.toList == b.toList) = decide (nm a = nm b) := by
  rw [ByteArray.toList_eq, ByteArray.toList_eq]
  unfold nm
  by_cases h : a.data.toList = b.data.toList
  · rw [decide_eq_true h, h]; simp
  · rw [decide_eq_false h, beq_eq_false_iff_ne]; exact h
theorem nm_less (a b : ByteArray) : Op.bytesLess a.toList b.toList = lessN (nm a) (nm b) := by
  rw [ByteArray.toList_eq, ByteArray.toList_eq]
  rfl
theorem nms_mem {l : List ByteArray} {s : ByteArray} : nm s ∈ nms l ↔ s ∈ l := by
  unfold nms
  rw [List.mem_map]
  exact ⟨fun ⟨x, hx, e⟩ => nm_inj e ▸ hx, fun h => ⟨s, h, rfl⟩⟩

/-- An append of one name, laid just ahead. -/
theorem wpList_append_name {ops : Array Oper} {rest : List Oper} {op : Oper} {a : Act} {w0 : World} {Q : Exit → Act → World → Prop} (hgd : op.guard = none) (s x : Operand)
    (ho : op.op = .call { callee := .builtin .append, args := #[s, x], argTypes := #[25, 25] }) (base : Nat)
    (v : Value) (n : Nat) (l : List ByteArray) (y : ByteArray) (hs : a.eval s = v) (hln : l.length = n) (hown : w0.ownsRow base 9 1 v n (sC l)) (hx : a.eval x = .slice (some ⟨w0.heap.size, 0, none⟩) 1 1)
    (hb : base ≤ w0.heap.size) (hn : n ≤ 1000000)
    (h : ∀ o cap w', w'.ownsRow base 9 1 (.slice o (n + 1) cap) (n + 1) (sC (l ++ [y])) → Below base w0 w' → wpList Try.prog ops Q rest (a.put op.dst (.slice o (n + 1) cap)) w') : wpList Try.prog ops Q (op :: rest) a (w0.alloc (.cells #[.string y] 9)) := by
  subst hln
  refine wpList_append_names hgd s x ho base v l [y] hs (hown.alloc _) (some ⟨w0.heap.size, 0, none⟩) 1 hx (fun i t ht => ?_) (fun h => by cases h) (by simp only [List.length_cons, List.length_nil]; omega) (by simp; omega) fun v' w' h1 h2 => ?_
  rotate_left
  · obtain ⟨o', cap', rfl, _⟩ := own_names h1
    have e : (l ++ [y]).length = l.length + 1 := by simp
    rw [e] at h1 ⊢
    exact h o' cap' w' h1 (((Below.refl base w0).alloc hb _).trans h2)
  match i, ht with
  | 0, ht =>
    simp only [List.getElem?_cons_zero, Option.some.injEq] at ht
    subst ht
    exact ⟨_, rfl, (World.cell?_alloc_new w0 #[.string y] 9 0).trans rfl⟩
  | i + 1, ht => simp at ht

set_option maxRecDepth 20000 in
set_option maxHeartbeats 1000000 in
/-- Is a name among others? -/
theorem hasR_any (xs : List ByteArray) (o : Option Addr) (c : Nat) (s : ByteArray) (w : World) (h : AtS w o xs) (hl : xs.length ≤ 1000000) :
    Calls Try.prog 28 #[.slice o xs.length c, .string s] w fun e w' => e = .returned (.bool (decide (nm s ∈ nms xs))) ∧ w' = w := by
  have HX := Lib.hid h
  clear h
  go_enter Try.func28, Try.ntmps28
  go_wp2
  go_loopw [5] (fun i wr => ∃ j : Nat, i = .int .i64 (j : Nat) ∧ Hid (j ≤ xs.length) ∧ Hid (s ∉ xs.take j) ∧ wr = w) (fun i _ => xs.length - (RowKit.intOf i).toNat)
  case atStart => exact ⟨0, rfl, Nat.zero_le _, by show _ ∉ _; simp, rfl⟩
  case round =>
    obtain ⟨j, rfl, HJ, HN, rfl⟩ := hrel
    by_cases hj : j < xs.length
    · have hj' : ((j : Int) < (xs.length : Int)) := by omega
      have hj0 : (0 : Int) ≤ (j : Int) := by omega
      have hj1 : (j : Int) + 1 ≤ 9223372036854775807 := by omega
      have hj2 : -9223372036854775808 ≤ (j : Int) + 1 := by omega
      obtain ⟨a, ho, hc⟩ := HX.out j _ (List.getElem?_eq_getElem hj)
      subst ho
      have hq := hc
      have ht : xs.take (j + 1) = xs.take j ++ [xs[j]] := by rw [List.take_add_one, List.getElem?_eq_getElem hj]; rfl
      have HT := Lib.hid ht
      have he := nm_eq xs[j] s
      have hm : xs[j] ∈ xs := List.getElem_mem hj
      have HM := Lib.hid hm
      clear hc ht hm
      generalize xs[j] = y at *
      by_cases hy : nm y = nm s
      · rw [decide_eq_true hy] at he
        go_wp2
        go_ret
        refine ⟨?_, rfl⟩
        rw [decide_eq_true (nms_mem.2 (nm_inj hy ▸ HM.out))]
        rfl
      · rw [decide_eq_false hy] at he
        go_wp2
        case roundEnd =>
          refine ⟨⟨j + 1, by push_cast; rfl, by show _ ≤ _; omega, ?_, by first | rfl | trivial⟩, by simp [RowKit.intOf]; omega⟩
          show s ∉ _
          rw [HT.out]
          intro hs
          rcases List.mem_append.1 hs with hs | hs
          · exact HN.out hs
          · exact hy (congrArg nm (List.mem_singleton.1 hs).symm)
    · have hj' : ¬ ((j : Int) < (xs.length : Int)) := by omega
      have hn := HN.out
      rw [List.take_of_length_le (by omega)] at hn
      have HN2 := Lib.hid hn
      clear hn
      go_wp2
      go_ret
      refine ⟨?_, rfl⟩
      rw [decide_eq_false (fun h => HN2.out (nms_mem.1 h))]
      rfl

end Go.Proofs.Ytgnhcaepkgbieaa
