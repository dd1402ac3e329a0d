/-
  An argument that is a function's declaration, opened; what a law's walk asks of the program. No condition.
-/
import Derived.Test.YtlakmniaocpaaaaM23
import Derived.Test.YtlakmniaocpaaaaM16
namespace Go.Proofs.Ytlakmniaocpaaaa
open Go.RowKit
open Go.Lib hiding intOf
/-- The statements' head answers. -/
def Awk : Prop := ∀ w : World, Calls Try.prog 10 #[] w fun e w' => e = .returned (.bool true) ∧ Below w.heap.size w w'
section
variable {H : Type} {enc : TypeId × Value → H} {W : World} {base : Nat}
set_option maxRecDepth 100000
set_option maxHeartbeats 4000000
theorem open_fn (fuel : Nat) (cs : List Value) (x : DataW H × List MemPlace) (h : DataW.trod enc Try.prog W base (fun _ => true) true fuel 36 cs = some x) :
    ∃ f : FN, IsFn W f cs ∧ WfYs f.params ∧ ∀ q, (∀ k ∈ x.1.weights Try.prog 36, k ≤ q) → FitYs q f.bounds ∧ FitYs q f.params ∧ FitY q f.result := by
  have hT : Try.prog.cellsOf 36 = 8 := by kernel_rfl
  have h9 : Try.prog.cellsOf 9 = 1 := by kernel_rfl
  have hS : Try.prog.cellsOf 23 = 1 := by kernel_rfl
  have hY : Try.prog.cellsOf 34 = 5 := by kernel_rfl
  obtain ⟨ys, n, hfu, rfl, hlen, hyl, hfld⟩ := DataW.trod_struct Try.underlying36 h
  rw [hT] at hlen
  match cs, hlen, ys, hyl with
  | [u0, u1, u2, u3, u4, u5, u6, u7], _, [y0, y1, y2, y3], _ =>
  have t0 : DataW.trod enc Try.prog W base (fun _ => true) true n 9 [u0] = some y0 := by simpa [h9] using hfld 0 _ rfl
  have t1 : DataW.trod enc Try.prog W base (fun _ => true) true n 23 [u1] = some y1 := by simpa [h9, hS] using hfld 1 _ rfl
  have t2 : DataW.trod enc Try.prog W base (fun _ => true) true n 23 [u2] = some y2 := by simpa [h9, hS] using hfld 2 _ rfl
  have t3 : DataW.trod enc Try.prog W base (fun _ => true) true n 34 [u3, u4, u5, u6, u7] = some y3 := by simpa [h9, hS, hY] using hfld 3 _ rfl
  obtain ⟨s, f0, g0, _⟩ := DataW.trod_string Try.underlying9 t0
  obtain ⟨d1, p1⟩ := y1
  obtain ⟨d2, p2⟩ := y2
  obtain ⟨o1, l1, c1, f1, a1, b1, r1, w1⟩ := open_ys t1
  obtain ⟨o2, l2, c2, f2, a2, b2, r2, w2⟩ := open_ys t2
  obtain ⟨y, hy, wy⟩ := open_y n _ _ t3
  obtain ⟨ya, yn, yp, yq, yo, ye, yk, hye⟩ := hy.expl
  simp only [List.cons.injEq, and_true] at f0 f1 f2
  subst f0; subst f1; subst f2
  simp only [Value.agg.injEq, Array.mk.injEq, List.cons.injEq, and_true] at hye
  obtain ⟨rfl, rfl, rfl, rfl, rfl⟩ := hye
  refine ⟨⟨s, l1, l2, y⟩, ⟨o1, c1, o2, c2, ya, yp, yq, yn, yo, ye, yk, rfl, a1, b1, a2, b2, r1, r2, hy⟩, wf_ys rfl t2 r2, fun q hq => ?_⟩
  have hq2 := weights3 Try.underlying36 hq
  exact ⟨(w1 q (hq2 1 _ _ rfl rfl)).1, (w2 q (hq2 2 _ _ rfl rfl)).1, wy q (hq2 3 _ _ rfl rfl)⟩
end
theorem IsFn.below {w w' : World} {f : FN} {c : List Value} (h : IsFn w f c) (hb : Below w.heap.size w w') : IsFn w' f c := by
  obtain ⟨oB, kB, oP, kP, ra, rp, rq, rn, ro, re, rk, h1, h2, h3, h4, h5, h6, h7, h8⟩ := h
  exact ⟨oB, kB, oP, kP, ra, rp, rq, rn, ro, re, rk, h1, h2, h3, h4, h5, h6.below hb, h7.below hb, h8.below hb⟩
theorem IsEs.belowE {W W' : World} {l : List (Int × Int)} {v : Value} (h : IsEs W l v) (hb : Below W.heap.size W W') : IsEs W' l v := by
  obtain ⟨o, c, h1, h2, h3, h4⟩ := h
  exact ⟨o, c, h1, h2, h3, fun i x hx => by
    obtain ⟨a, d, e1, e2, e3, e4⟩ := h4 i x hx
    exact ⟨a, d, e1, e2, mvc hb e3, e4⟩⟩
theorem cnts_small {l : List GY} (h : Sml l) : cntYs l ≤ 1000000 := by
  obtain ⟨h1, h2⟩ := h
  have key : ∀ (l : List GY), (∀ x ∈ l, cntY x ≤ 60) → cntYs l ≤ l.length * 60 := fun l => by
    induction l with
    | nil => intro _; rw [cntYs]; exact Nat.zero_le _
    | cons y r ih =>
      intro h
      have a := h y (List.mem_cons_self ..)
      have b := ih fun x hx => h x (List.mem_cons_of_mem _ hx)
      rw [cntYs, List.length_cons]
      omega
  have := key l h2
  omega
theorem IsEs.len0 {W : World} {v : Value} (h : IsEs W [] v) : ∃ o c, v = .slice o 0 c := by
  obtain ⟨o, c, h1, _⟩ := h
  exact ⟨o, c, h1⟩
end Go.Proofs.Ytlakmniaocpaaaa
