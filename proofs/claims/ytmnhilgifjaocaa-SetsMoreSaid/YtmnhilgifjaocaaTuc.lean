/-
  What is put in: the program's answer. Condition: names of at most 2^48 bytes.
-/
import Derived.Test.YtmnhilgifjaocaaTub
namespace Go.Proofs.Ytmnhilgifjaocaa
open Go.RowKit

theorem subst_nil (q : Nat) (hq : q ≤ 281474976710656) (t : GY) (v : Value) (w : World) (hfit : FitY q t) (hv : IsY w t v) :
    Calls Try.prog 56 #[v, .slice none 0 0] w fun e w' => ∃ u, e = .returned u ∧ IsYF w' w.heap.size t u ∧ Below w.heap.size w w' := by
  refine (subst_step [] none 0 0 rfl q hq (fun i y h => by simp at h) (SizeOf.sizeOf t + 1) t v w (by omega) hfit hv (IsYs.nil _ _ _)).mono ?_
  rintro e w' ⟨u, rfl, h1, h2⟩
  rw [sub_none] at h1
  exact ⟨u, rfl, h1, h2⟩
/-- What is put in, in memory of the call's own. -/
theorem substP_any (q : Nat) (hq : q ≤ 281474976710656) (us : List GY) (ou : Option Addr) (nu cu : Nat) (hnu : us.length = nu) (hus : FitYs q us) (t : GY) (v : Value) (w : World) (hfit : FitY q t) (hv : IsY w t v) (hu : IsYs w ou 0 us) :
    Calls Try.prog 56 #[v, .slice ou nu cu] w fun e w' => SubR us t w e w' :=
  subst_step us ou nu cu hnu q hq (fun _ y h v W hv => subst_nil q hq y v W (FitYs.mem hus y (List.mem_of_getElem? h)) hv) (SizeOf.sizeOf t + 1) t v w (by omega) hfit hv hu

end Go.Proofs.Ytmnhilgifjaocaa
