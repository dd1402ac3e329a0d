/-
  Numbers of a type that a word holds; a map from numbers to types of the call's own. Condition: numbers that a word holds.
-/
import Derived.Test.YtlakmniaocpaaaaM02
import Derived.Test.YtlakmniaocpaaaaM01
import Derived.Test.YtlakmniaocpaaaaM06
import Derived.Maps.OwnSet
import Derived.Maps.OwnIn
namespace Go.Proofs.Ytlakmniaocpaaaa
open Go.RowKit Go.Maps
open Go.Lib hiding intOf
open Go.ChangeShapes Go.WideShapes Go.Deep
mutual
/-- Each number in it is one that a word holds. -/
def WfY : GY → Prop
  | .mk _ _ _ n args => (-9223372036854775808 ≤ n ∧ n ≤ 9223372036854775807) ∧ WfYs args
def WfYs : List GY → Prop
  | [] => True
  | y :: r => WfY y ∧ WfYs r
end
theorem WfYs.of : ∀ {l : List GY}, (∀ y ∈ l, WfY y) → WfYs l
  | [], _ => by unfold WfYs; trivial
  | y :: r, h => by
    unfold WfYs
    exact ⟨h y (List.mem_cons_self ..), WfYs.of fun z hz => h z (List.mem_cons_of_mem _ hz)⟩
theorem WfYs.mem : ∀ {l : List GY}, WfYs l → ∀ y ∈ l, WfY y
  | [], _, _, h => by cases h
  | x :: r, h, y, hy => by
    unfold WfYs at h
    rcases List.mem_cons.1 hy with rfl | hy
    · exact h.1
    · exact WfYs.mem h.2 y hy
theorem WfY.num {y : GY} (h : WfY y) : -9223372036854775808 ≤ y.num ∧ y.num ≤ 9223372036854775807 := by
  obtain ⟨k, p, m, n, l⟩ := y
  unfold WfY at h
  exact h.1
theorem WfY.args {y : GY} (h : WfY y) : WfYs y.args := by
  obtain ⟨k, p, m, n, l⟩ := y
  unfold WfY at h
  exact h.2
theorem lit_wf {n : Int} (h : -9223372036854775808 ≤ n ∧ n ≤ 9223372036854775807) : (Lit.int .i64 n).wf = true := by
  unfold Lit.wf
  simp only [Bool.and_eq_true, decide_eq_true_eq]
  rw [show IntKind.i64.min = -9223372036854775808 by decide, show IntKind.i64.max = 9223372036854775807 by decide]
  exact h
theorem wf_lit {n : Int} (h : (Lit.int .i64 n).wf = true) : -9223372036854775808 ≤ n ∧ n ≤ 9223372036854775807 := by
  have h2 : IntKind.i64.min ≤ n ∧ n ≤ IntKind.i64.max := by
    unfold Lit.wf at h
    simpa only [Bool.and_eq_true, decide_eq_true_eq] using h
  rw [show IntKind.i64.min = -9223372036854775808 by decide, show IntKind.i64.max = 9223372036854775807 by decide] at h2
  exact h2
set_option maxRecDepth 100000 in
set_option maxHeartbeats 4000000 in
/-- A type that came in has such numbers alone. -/
theorem wf_y {H : Type} {enc : TypeId × Value → H} {W : World} {base : Nat} : ∀ (fuel : Nat) (cs : List Value) (x : DataW H × List MemPlace), DataW.trod enc Try.prog W base (fun _ => true) true fuel 34 cs = some x →
    ∀ g : GY, IsY W g (.agg cs.toArray) → WfY g := by
  intro fuel
  induction fuel using Nat.strongRecOn with
  | _ fuel ih =>
  intro cs x h g hg
  have hT : Try.prog.cellsOf 34 = 5 := by kernel_rfl
  have h3 : Try.prog.cellsOf 3 = 1 := by kernel_rfl
  have h9 : Try.prog.cellsOf 9 = 1 := by kernel_rfl
  have hS : Try.prog.cellsOf 23 = 1 := by kernel_rfl
  have hu := Try.underlying34
  have hv := Try.underlying23
  obtain ⟨k, p, m, n, args⟩ := g
  obtain ⟨o, c, hvv, hlc, hcm, hys⟩ := hg.parts
  obtain ⟨ys, nf, hfu, rfl, hlen, hyl, hfld⟩ := DataW.trod_struct hu h
  rw [hT] at hlen
  match cs, hlen, ys, hyl with
  | [u0, u1, u2, u3, u4], _, [y0, y1, y2, y3, y4], _ =>
  have t3 : DataW.trod enc Try.prog W base (fun _ => true) true nf 3 [u3] = some y3 := by simpa [h3] using hfld 3 _ rfl
  have t4 : DataW.trod enc Try.prog W base (fun _ => true) true nf 23 [u4] = some y4 := by simpa [hS] using hfld 4 _ rfl
  simp only [Value.agg.injEq, Array.mk.injEq, List.cons.injEq, and_true] at hvv
  obtain ⟨rfl, rfl, rfl, rfl, rfl⟩ := hvv
  obtain ⟨n3, f3, g3, w3⟩ := DataW.trod_int Try.underlying3 t3
  simp only [List.cons.injEq, and_true, Value.int.injEq, true_and] at f3
  subst f3
  unfold WfY
  refine ⟨wf_lit w3, WfYs.of fun y hy => ?_⟩
  obtain ⟨i, hi⟩ := List.getElem?_of_mem hy
  obtain ⟨a, c0, c1, c2, c3, c4, rfl, hc, hyy⟩ := hys.at_ i hi
  rw [Nat.zero_add] at hc
  rcases open_fuel hv t4 with ⟨f4, _⟩ | ⟨a', cap, n', ds, rest, hn', f4, _, hcl, _, hel⟩
  · simp at f4
  · simp only [List.cons.injEq, and_true, Value.slice.injEq, Option.some.injEq] at f4
    obtain ⟨rfl, f5, rfl⟩ := f4
    have hil := (List.getElem?_eq_some_iff.1 hi).1
    obtain ⟨d, hd⟩ : ∃ d, ds[i]? = some d := ⟨_, List.getElem?_eq_getElem (by omega)⟩
    obtain ⟨cs', pl, hcc, ht⟩ := hel i d hd
    rw [hT] at hcc
    obtain ⟨_, hlen', hat⟩ := World.cells?_some hcc
    match cs', hlen', hat, ht with
    | [v0, v1, v2, v3, v4], _, hat, ht =>
      have e : ∀ (j : Nat) (u v : Value), [c0, c1, c2, c3, c4][j]? = some u → [v0, v1, v2, v3, v4][j]? = some v → j < 5 → u = v := fun j u v h1 h2 hj => by
        have := hat j (by simpa using hj)
        rw [hc j u h1, h2] at this
        exact Option.some.inj this
      obtain rfl := e 0 _ _ rfl rfl (by decide)
      obtain rfl := e 1 _ _ rfl rfl (by decide)
      obtain rfl := e 2 _ _ rfl rfl (by decide)
      obtain rfl := e 3 _ _ rfl rfl (by decide)
      obtain rfl := e 4 _ _ rfl rfl (by decide)
      exact ih n' (by omega) _ _ ht y hyy
set_option maxRecDepth 100000 in
set_option maxHeartbeats 4000000 in
theorem wf_ys {H : Type} {enc : TypeId × Value → H} {W : World} {base : Nat} {fuel : Nat} {x : DataW H × List MemPlace} {o : Option Addr} {c n : Nat} {l : List GY} (hn : l.length = n) (h : DataW.trod enc Try.prog W base (fun _ => true) true fuel 23 [.slice o n c] = some x) (hys : IsYs W o 0 l) : WfYs l := by
  have hT : Try.prog.cellsOf 34 = 5 := by kernel_rfl
  have hv := Try.underlying23
  refine WfYs.of fun y hy => ?_
  obtain ⟨i, hi⟩ := List.getElem?_of_mem hy
  obtain ⟨a, c0, c1, c2, c3, c4, rfl, hc, hyy⟩ := hys.at_ i hi
  rw [Nat.zero_add] at hc
  rcases open_fuel hv h with ⟨f4, _⟩ | ⟨a', cap, n', ds, rest, hn', f4, _, hcl, _, hel⟩
  · simp at f4
  · simp only [List.cons.injEq, and_true, Value.slice.injEq, Option.some.injEq] at f4
    obtain ⟨rfl, f5, rfl⟩ := f4
    have hil := (List.getElem?_eq_some_iff.1 hi).1
    obtain ⟨d, hd⟩ : ∃ d, ds[i]? = some d := ⟨_, List.getElem?_eq_getElem (by omega)⟩
    obtain ⟨cs', pl, hcc, ht⟩ := hel i d hd
    rw [hT] at hcc
    obtain ⟨_, hlen', hat⟩ := World.cells?_some hcc
    match cs', hlen', hat, ht with
    | [v0, v1, v2, v3, v4], _, hat, ht =>
      have e : ∀ (j : Nat) (u v : Value), [c0, c1, c2, c3, c4][j]? = some u → [v0, v1, v2, v3, v4][j]? = some v → j < 5 → u = v := fun j u v h1 h2 hj => by
        have := hat j (by simpa using hj)
        rw [hc j u h1, h2] at this
        exact Option.some.inj this
      obtain rfl := e 0 _ _ rfl rfl (by decide)
      obtain rfl := e 1 _ _ rfl rfl (by decide)
      obtain rfl := e 2 _ _ rfl rfl (by decide)
      obtain rfl := e 3 _ _ rfl rfl (by decide)
      obtain rfl := e 4 _ _ rfl rfl (by decide)
      exact wf_y _ _ _ ht y hyy
/-! ### a map from numbers -/
abbrev DV := DataW Value
def heldElem (v : Value) : Option (DV × List MemPlace) := some (.held v, [])
def zeroTV : Value := .agg #[.int .i64 0, .string ⟨#[]⟩, .string ⟨#[]⟩, .int .i64 0, .slice none 0 0]
abbrev TM := 66
abbrev GM := Int → Option Value
structure ViewG (D : DV) (G : GM) : Prop where
  map : IsMap D
  has : ∀ x, Maps.has D (.int .i64 x) = (G x).isSome
  at_ : ∀ x v, G x = some v → ∀ zd, D.atKey (.int .i64 x) zd = .held v
  no : ∀ x, G x = none → ∀ zd, D.atKey (.int .i64 x) zd = zd
/-- A map from numbers lies there, of at most n entries. -/
def IsG (w : World) (b n : Nat) (G : GM) : Prop := ∃ D : DV, w.ownsMap Try.prog 3 heldElem b n D ∧ ViewG D G
theorem law3 : Keyed Try.prog 3 := int_keyed Try.underlying3
theorem key3 {x : Int} (h : -9223372036854775808 ≤ x ∧ x ≤ 9223372036854775807) : keyOf Try.prog 3 (.int .i64 x) = some (.int .i64 x) := keyOf_int_mk Try.underlying3 (lit_wf h)
theorem keyLit3 (x : Int) : WideAt.IsKeyLit (.int .i64 x) := trivial
theorem intKey_ne {x a : Int} (h : x ≠ a) : Lit.int .i64 x ≠ Lit.int .i64 a := fun e => h (by injection e)
theorem IsG.blk {w : World} {b n : Nat} {G : GM} (h : IsG w b n G) : ∃ es c, w.heap[b]? = some (.map es c) := by
  obtain ⟨D, ⟨es, c, hb, _⟩, _⟩ := h
  exact ⟨es, c, hb⟩
theorem IsG.lt {w : World} {b n : Nat} {G : GM} (h : IsG w b n G) : b < w.heap.size := by
  obtain ⟨es, c, h⟩ := h.blk
  exact (Array.getElem?_eq_some_iff.1 h).1
theorem IsG.same {w w' : World} {b n : Nat} {G : GM} (h : IsG w b n G) (he : w'.heap[b]? = w.heap[b]?) : IsG w' b n G := by
  obtain ⟨D, ⟨es, clock, hb, hf⟩, hv⟩ := h
  exact ⟨D, ⟨es, clock, he.trans hb, hf⟩, hv⟩
theorem IsG.below {w w' : World} {b n : Nat} {G : GM} (h : IsG w b n G) (hf : Below w.heap.size w w') : IsG w' b n G := h.same (hf.block b h.lt)
theorem IsG.mono {w : World} {b n n' : Nat} {G : GM} (h : IsG w b n G) (hn : n ≤ n') : IsG w b n' G := by
  obtain ⟨D, h, hv⟩ := h
  exact ⟨D, h.mono hn, hv⟩
theorem IsG.made (w : World) : IsG (w.alloc (.map #[] 0)) w.heap.size 0 (fun _ => none) :=
  ⟨.map [], World.ownsMap_made w _ _ _, ⟨isMap_empty, fun x => rfl, fun x j h => (by cases h), fun x _ zd => rfl⟩⟩
def putG (G : GM) (a : Int) (v : Value) : GM := fun x => if x = a then some v else G x
theorem ViewG.put {D : DV} {G : GM} (h : ViewG D G) (a : Int) (v : Value) : ViewG (D.put (.int .i64 a) (.held v)) (putG G a v) := by
  refine ⟨h.map.put _ _, fun x => ?_, fun x k hk zd => ?_, fun x hk zd => ?_⟩
  · unfold putG
    by_cases hx : x = a
    · subst hx; rw [if_pos rfl, has_put_same h.map (keyLit3 x)]; rfl
    · rw [if_neg hx, has_put_other (intKey_ne hx), h.has]
  · unfold putG at hk
    by_cases hx : x = a
    · subst hx
      rw [if_pos rfl] at hk
      injection hk with hk
      subst hk
      exact atKey_put_same h.map (keyLit3 x) _ _
    · rw [if_neg hx] at hk
      rw [atKey_put_other (intKey_ne hx)]
      exact h.at_ x k hk zd
  · unfold putG at hk
    by_cases hx : x = a
    · rw [if_pos hx] at hk; cases hk
    · rw [if_neg hx] at hk
      rw [atKey_put_other (intKey_ne hx)]
      exact h.no x hk zd
theorem ViewG.found {D : DV} {G : GM} (h : ViewG D G) {x : Int} {v : Value} {ps : List MemPlace} (hv : heldElem v = some (D.atKey (.int .i64 x) (.held zeroTV), ps)) : v = (G x).getD zeroTV := by
  unfold heldElem at hv
  simp only [Option.some.injEq, Prod.mk.injEq] at hv
  cases hG : G x with
  | some u =>
    have := hv.1
    rw [h.at_ x u hG, DataW.held.injEq] at this
    rw [this, Option.getD_some]
  | none =>
    have := hv.1
    rw [h.no x hG, DataW.held.injEq] at this
    rw [this, Option.getD_none]
theorem zeroT (w : World) : (zeroValue 34).run Try.prog w = .ok zeroTV w := by kernel_rfl
theorem run_look_ok {w : World} {b n : Nat} {G : GM} (h : IsG w b n G) {x : Int} (hx : -9223372036854775808 ≤ x ∧ x ≤ 9223372036854775807) :
    (Instr.lookup TM (.map (some b)) (.int .i64 x) true).run Try.prog w = .ok (.tuple #[(G x).getD zeroTV, .bool (G x).isSome]) w := by
  obtain ⟨D, hown, hv⟩ := h
  obtain ⟨v, ps, hrun, h1⟩ := hown.look_ok law3 Try.underlying66 (zeroT w) (zd := .held zeroTV) (zp := []) rfl (key3 hx)
  rw [hrun, hv.has, hv.found h1]
theorem run_look {w : World} {b n : Nat} {G : GM} (h : IsG w b n G) {x : Int} (hx : -9223372036854775808 ≤ x ∧ x ≤ 9223372036854775807) :
    (Instr.lookup TM (.map (some b)) (.int .i64 x) false).run Try.prog w = .ok ((G x).getD zeroTV) w := by
  obtain ⟨D, hown, hv⟩ := h
  obtain ⟨v, ps, hrun, h1⟩ := hown.lookup law3 Try.underlying66 (zeroT w) (zd := .held zeroTV) (zp := []) rfl (key3 hx)
  rw [hrun, hv.found h1]
theorem run_putG {w : World} {b n : Nat} {G : GM} (h : IsG w b n G) (hn : n < maxLen) {x : Int} (hx : -9223372036854775808 ≤ x ∧ x ≤ 9223372036854775807) (v : Value) :
    ∃ w', (Instr.mapUpdate TM (.map (some b)) (.int .i64 x) v).run Try.prog w = .ok () w' ∧ IsG w' b (n + 1) (putG G x v) ∧ w.grownBy w' (some b) := by
  obtain ⟨D, hown, hD⟩ := h
  obtain ⟨w', hrun, r1, r2⟩ := hown.update law3 Try.underlying66 hn (key3 hx) (val := v) (d := .held v) (ps := []) rfl
  exact ⟨w', hrun, ⟨_, r1, hD.put _ _⟩, r2⟩
/-- .. to types that lay there at first. -/
def IsMF (w0 w : World) (b n : Nat) (F : FM) : Prop := ∃ G : GM, IsG w b n G ∧ (∀ x, F x = none → G x = none) ∧ ∀ x y, F x = some y → ∃ v, G x = some v ∧ IsY w0 y v
theorem IsMF.put {w0 w' : World} {b n : Nat} {F : FM} {G : GM} (hn : ∀ x, F x = none → G x = none) (hs : ∀ x y, F x = some y → ∃ v, G x = some v ∧ IsY w0 y v) {a : Int} {y : GY} {v : Value} (h : IsG w' b n (putG G a v)) (hy : IsY w0 y v) : IsMF w0 w' b n (putM F a y) := by
  refine ⟨_, h, fun x hx => ?_, fun x z hx => ?_⟩
  · unfold putM at hx
    unfold putG
    by_cases e : x = a
    · rw [if_pos e] at hx; cases hx
    · rw [if_neg e] at hx ⊢
      exact hn x hx
  · unfold putM at hx
    unfold putG
    by_cases e : x = a
    · rw [if_pos e] at hx ⊢
      injection hx with hx
      subst hx
      exact ⟨v, rfl, hy⟩
    · rw [if_neg e] at hx ⊢
      exact hs x z hx
end Go.Proofs.Ytlakmniaocpaaaa
