/-
  The program's calls answer what the chapter says. Condition: names and lists of at most 2^47 bytes.
-/
import Derived.Test.YtmnhilgifjaocaaSwc
import Derived.Test.YtmnhilgifjaocaaSpd
import Derived.Test.YtmnhilgifjaocaaSla
namespace Go.Proofs.Ytmnhilgifjaocaa
open Go.RowKit

theorem fit_zero : FitT 140737488351232 zeroD := ⟨by decide, fun f h => (nomatch h), by decide, fun f h => (nomatch h), by decide⟩
theorem fit_zeroY : FitY 140737488351232 zeroY := by
  show FitY _ (.mk 0 noB noB 0 [])
  unfold FitY FitYs
  exact ⟨by decide, by decide, by decide, trivial⟩
theorem fit_found {q : Nat} {s : SCP} (h : FitS q s) {t : GY} {d : TD} (hf : findS s.W t = some d) : FitT q d := by
  unfold findS at hf
  split at hf
  · obtain ⟨p, h1, h2⟩ := Option.bind_eq_some_iff.1 hf
    exact h.1 p (List.mem_of_find?_eq_some h1) d (List.mem_of_find?_eq_some h2)
  · cases hf
theorem fit_find {s : SCP} (h : FitS 140737488351232 s) (t : GY) : FitT 140737488351232 ((findS s.W t).getD zeroD) := by
  cases e : findS s.W t with
  | none => exact fit_zero
  | some d => exact fit_found h e
theorem fit_nil : FitMs [] := ⟨fun m h => (nomatch h), by decide⟩
theorem fit_methD {s : SCP} (h : FitS 140737488351232 s) (t : GY) : FitMs (methD s.W t) :=
  ⟨(fit_find h t).2.2.2.1, (fit_find h t).2.2.2.2⟩
theorem fit_meths {s : SCP} (h : FitS 140737488351232 s) (t : GY) : FitMs (methS s t) := by
  unfold methS
  split
  · split
    · exact fit_nil
    · split
      · exact fit_methD h _
      · exact fit_nil
  · exact fit_methD h _
theorem fit_field {s : SCP} (h : FitS 140737488351232 s) (t : GY) (m : ByteArray) : FitY 140737488351232 ((fieldS s.W t m).getD zeroY) := by
  unfold fieldS
  cases e : findS s.W t with
  | none => exact fit_zeroY
  | some d =>
    show FitY _ (Option.getD (if d.strct = true then _ else _) _)
    split
    · cases e2 : d.fields.find? fun f => decide (f.1 = m) with
      | none => exact fit_zeroY
      | some f => exact ((fit_found h e).2.1 f (List.mem_of_find?_eq_some e2)).2
    · exact fit_zeroY
theorem prg : Prg where
  find := fun s t c v w0 w h ht h0 hf => findP_any s t c v w0 w h ht h0 (fit_find hf t)
  iface := ifaceP_any
  meth := fun s t c v w0 w h ht h0 hf => methodsP_any s t c v w0 w h ht h0 (fit_meths hf t)
  field := fun s t m c v w0 w h ht h0 hf => fieldP_any s t m c v w0 w h ht h0 (fit_field hf t m)
  alike := fun x y v u w hv hu => alikeP_any _ x y v u w (Nat.lt_succ_self _) hv hu
  meets := fun s t i c v u w0 w h ht hi h0 hf => meetsP_any s t i c v u w0 w h ht hi h0 (fit_meths hf t) (fit_meths hf i)
  assign := fun s t i c v u w0 w h ht hi h0 hf => assignP_any s t i c v u w0 w h ht hi h0 (fit_meths hf t) (fit_meths hf i)
end Go.Proofs.Ytmnhilgifjaocaa
