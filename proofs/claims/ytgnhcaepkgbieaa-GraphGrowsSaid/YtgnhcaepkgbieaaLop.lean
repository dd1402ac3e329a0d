/-
  Arguments that are lists of names, of packages, a package: opened. No condition.
-/
import Derived.Test.YtgnhcaepkgbieaaRows
import Derived.Test.YtgnhcaepkgbieaaLwd
import Derived.WalkKit
import Derived.ProofKit
import Derived.OpenShut
import Derived.SizedLaws
import Derived.Deep.Slices
import Derived.Deep.Fields
import Derived.ChangeSame
import Derived.Carry
namespace Go.Proofs.Ytgnhcaepkgbieaa
open Go.ChangeShapes Go.WideShapes Go.Deep
open Go.RowKit

/-- A slice opened, with the reading's fuel: each element of its length. -/
theorem open_fuel {H : Type} {enc : TypeId × Value → H} {P : Program} {w : World} {base : Nat} {spare : Nat → Bool} {held : Bool} {t e : TypeId} {fuel : Nat} {cs : List Value} {x : DataW H × List MemPlace} (ht : P.underlying t = some (.slice e)) (h : DataW.trod enc P w base spare held fuel t cs = some x) :
    (cs = [.slice none 0 0] ∧ x = (.nil, [])) ∨
    ∃ (a : Addr) (cap n : Nat) (ds rest : List (DataW H)), fuel = n + 1 ∧ cs = [.slice (some a) ds.length cap] ∧ x.1 = .slice ds rest ∧ ds.length ≤ cap ∧ cap ≤ maxLen ∧
      ∀ (i : Nat) (d : DataW H), ds[i]? = some d → ∃ cs' pl, w.cells? base (a.add (i * P.cellsOf e)) (P.cellsOf e) = some cs' ∧ DataW.trod enc P w base spare held n e cs' = some (d, pl) := by
  rcases DataW.trod_slice ht h with h0 | ⟨a, len, cap, elems, rest, n, hf, rfl, rfl, hb, hl, hm, rfl, hel, _⟩
  · exact .inl h0
  · refine .inr ⟨a, cap, n, elems.map (·.1), rest.map (·.1), hf, by simp, rfl, by simpa using hl, hm, fun i d hd => ?_⟩
    rw [List.getElem?_map] at hd
    obtain ⟨q, hq, rfl⟩ := Option.map_eq_some_iff.1 hd
    have := hel i (List.getElem?_eq_some_iff.1 hq).1
    rw [hq] at this
    obtain ⟨cs', h1, h2⟩ := Option.bind_eq_some_iff.1 this
    exact ⟨cs', q.2, h1, h2⟩
theorem weightsAll_in {H : Type} {P : Program} {e : TypeId} : ∀ {ds : List (DataW H)} {d : DataW H} {n : Nat}, d ∈ ds → n ∈ d.weights P e → n ∈ DataW.weightsAll P e ds
  | [], _, _, h, _ => by cases h
  | x :: r, d, n, h, hn => by
    simp only [DataW.weightsAll, List.mem_append]
    cases List.mem_cons.1 h with
    | inl e => subst e; exact .inl hn
    | inr e => exact .inr (weightsAll_in e hn)
/-- One of each, in order. -/
theorem rows_of {α β : Type} {P : Nat → α → β → Prop} : ∀ (ds : List α) (i : Nat), (∀ (j : Nat) (d : α), ds[j]? = some d → ∃ y, P (i + j) d y) → ∃ ys : List β, ys.length = ds.length ∧ ∀ (j : Nat) (y : β), ys[j]? = some y → ∃ d, ds[j]? = some d ∧ P (i + j) d y
  | [], i, _ => ⟨[], rfl, fun j y h => by simp at h⟩
  | d :: r, i, h => by
    obtain ⟨y, hy⟩ := h 0 d rfl
    obtain ⟨ys, hl, hx⟩ := rows_of (P := P) r (i + 1) fun j d hd => by
      have := h (j + 1) d (by simpa using hd)
      rwa [show i + (j + 1) = i + 1 + j by omega] at this
    refine ⟨y :: ys, by simp [hl], fun j z hz => ?_⟩
    cases j with
    | zero =>
      simp only [List.getElem?_cons_zero, Option.some.injEq] at hz
      subst hz
      exact ⟨d, rfl, hy⟩
    | succ j =>
      obtain ⟨d', h1, h2⟩ := hx j z (by simpa using hz)
      exact ⟨d', by simpa using h1, by rwa [show i + (j + 1) = i + 1 + j by omega]⟩
/-- Of the names, none is longer than a reading's greatest weight. -/
def SmallS (m : Nat) (l : List ByteArray) : Prop := ∀ s ∈ l, s.size ≤ m

set_option maxRecDepth 100000 in
theorem open_ns {H : Type} {enc : TypeId × Value → H} {W : World} {base fuel : Nat} {cs : List Value} {x : DataW H × List MemPlace} (h : DataW.trod enc Try.prog W base (fun _ => true) true fuel 25 cs = some x) :
    ∃ (o : Option Addr) (l : List ByteArray) (c : Nat), cs = [.slice o l.length c] ∧ AtS W o l ∧ l.length ≤ c ∧ c ≤ 9223372036854775807 ∧ ∀ m, (∀ n ∈ x.1.weights Try.prog 25, n ≤ m) → SmallS m l := by
  have h9 : Try.prog.cellsOf 9 = 1 := by kernel_rfl
  have hv := Try.underlying25
  rcases open_fuel hv h with ⟨rfl, rfl⟩ | ⟨a, cap, n, ds, rest, _, rfl, hx, hcl, hcm, hel⟩
  · exact ⟨none, [], 0, rfl, AtS.nil _ _, Nat.le_refl _, by omega, fun m _ s hs => by simp at hs⟩
  · obtain ⟨ys, hl, hy⟩ := rows_of (P := fun (j : Nat) (d : DataW H) (s : ByteArray) => W.cell? (a.add j) = some (.string s) ∧ d = .lit (.string s.data.toList)) ds 0 (by
      intro j d hd
      rw [Nat.zero_add]
      obtain ⟨cs', pl, hc, ht⟩ := hel j d hd
      rw [h9, Nat.mul_one] at hc
      obtain ⟨_, hlen, hat⟩ := World.cells?_some hc
      obtain ⟨s, f, g, _⟩ := DataW.trod_string Try.underlying9 ht
      subst f
      refine ⟨s, ?_, (Prod.mk.inj g).1⟩
      have := hat 0 (by decide)
      simpa [Addr.add] using this)
    refine ⟨some a, ys, cap, by rw [hl], fun i s hs => ?_, by omega, by have : maxLen = 9223372036854775807 := rfl; omega, fun m hm s hs => ?_⟩
    · obtain ⟨d, _, h1, _⟩ := hy i s hs
      rw [Nat.zero_add] at h1
      exact ⟨a, rfl, h1⟩
    · obtain ⟨i, hi⟩ := List.getElem?_of_mem hs
      obtain ⟨d, hd, _, rfl⟩ := hy i s hi
      rw [hx] at hm
      simp only [DataW.weights, hv] at hm
      have := hm s.data.toList.length (List.mem_cons_of_mem _ (List.mem_append_left _ (weightsAll_in (List.mem_of_getElem? hd) (by simp [DataW.weights]))))
      rw [Array.length_toList] at this
      exact this

def SmallD (m : Nat) (n : ND) : Prop := n.name.size ≤ m ∧ SmallS m n.imps
theorem small_of {n : ND} (h : SmallD reachBytes n) : n.name.size ≤ 281474976710656 ∧ ∀ s ∈ n.imps, s.size ≤ 281474976710656 := by
  have hr : reachBytes ≤ 140737488355328 := by decide
  exact ⟨by have := h.1; omega, fun s hs => by have := h.2 s hs; omega⟩
theorem small_names {l : List ByteArray} (h : SmallS reachBytes l) : ∀ s ∈ l, s.size ≤ maxLen := fun s hs => by
  have hr : reachBytes ≤ 140737488355328 := by decide
  have := h s hs
  have e : maxLen = 9223372036854775807 := rfl
  omega
set_option maxRecDepth 100000 in
/-- A package that came in. -/
theorem open_nd {H : Type} {enc : TypeId × Value → H} {W : World} {base fuel : Nat} {cs : List Value} {x : DataW H × List MemPlace} (h : DataW.trod enc Try.prog W base (fun _ => true) true fuel 36 cs = some x) :
    ∃ (n : ND) (o : Option Addr) (c : Nat), cs = [.string n.name, .slice o n.imps.length c] ∧ AtS W o n.imps ∧ n.imps.length ≤ c ∧ c ≤ 9223372036854775807 ∧ ∀ m, (∀ k ∈ x.1.weights Try.prog 36, k ≤ m) → SmallD m n := by
  have hT : Try.prog.cellsOf 36 = 2 := by kernel_rfl
  have h9 : Try.prog.cellsOf 9 = 1 := by kernel_rfl
  have hS : Try.prog.cellsOf 25 = 1 := by kernel_rfl
  have hu := Try.underlying36
  obtain ⟨ys, n, hfu, rfl, hlen, hyl, hfld⟩ := DataW.trod_struct hu h
  rw [hT] at hlen
  match cs, hlen, ys, hyl with
  | [u0, u1], _, [y0, y1], _ =>
  have t0 : DataW.trod enc Try.prog W base (fun _ => true) true n 9 [u0] = some y0 := by simpa [h9] using hfld 0 _ rfl
  have t1 : DataW.trod enc Try.prog W base (fun _ => true) true n 25 [u1] = some y1 := by simpa [hS] using hfld 1 _ rfl
  obtain ⟨s, f0, g0, _⟩ := DataW.trod_string Try.underlying9 t0
  obtain ⟨o, l, c, f1, hat, hlc, hcm, hsm⟩ := open_ns t1
  simp only [List.cons.injEq, and_true] at f0 f1
  subst f0; subst f1; subst g0
  refine ⟨⟨s, l⟩, o, c, rfl, hat, hlc, hcm, fun m hm => ?_⟩
  simp only [DataW.weights, hu, List.map_cons, List.map_nil, DataW.weightsEach, List.mem_append] at hm
  refine ⟨?_, hsm m fun k hk => hm k ?_⟩
  · have := hm s.data.toList.length (by simp)
    rw [Array.length_toList] at this
    exact this
  · simp [hk]

set_option maxRecDepth 100000 in
/-- A list of packages that came in. -/
theorem open_nds {H : Type} {enc : TypeId × Value → H} {W : World} {base fuel : Nat} {cs : List Value} {x : DataW H × List MemPlace} (h : DataW.trod enc Try.prog W base (fun _ => true) true fuel 22 cs = some x) :
    ∃ (o : Option Addr) (l : List ND) (c : Nat), cs = [.slice o l.length c] ∧ AtE W o l ∧ l.length ≤ c ∧ c ≤ 9223372036854775807 ∧ (∀ n ∈ l, n.imps.length ≤ 9223372036854775807) ∧ ∀ m, (∀ k ∈ x.1.weights Try.prog 22, k ≤ m) → ∀ n ∈ l, SmallD m n := by
  have hT : Try.prog.cellsOf 36 = 2 := by kernel_rfl
  have hv := Try.underlying22
  rcases open_fuel hv h with ⟨rfl, rfl⟩ | ⟨a, cap, n, ds, rest, _, rfl, hx, hcl, hcm, hel⟩
  · exact ⟨none, [], 0, rfl, fun i y hy => by simp at hy, Nat.le_refl _, by omega, fun y hy => by simp at hy, fun m _ y hy => by simp at hy⟩
  · obtain ⟨ys, hl, hy⟩ := rows_of (P := fun (j : Nat) (d : DataW H) (y : ND) => ∃ (o' : Option Addr) (c : Nat), W.cell? (a.add (j * 2)) = some (.string y.name) ∧ W.cell? ⟨(a.add (j * 2)).block, (a.add (j * 2)).off + 1, none⟩ = some (.slice o' y.imps.length c) ∧ AtS W o' y.imps ∧ y.imps.length ≤ c ∧ c ≤ 9223372036854775807 ∧
        ∀ m, (∀ k ∈ d.weights Try.prog 36, k ≤ m) → SmallD m y) ds 0 (by
      intro j d hd
      rw [Nat.zero_add]
      obtain ⟨cs', pl, hc, ht⟩ := hel j d hd
      rw [hT] at hc
      obtain ⟨_, hlen, hat⟩ := World.cells?_some hc
      obtain ⟨y, o', c, rfl, g1, g2, g3, g4⟩ := open_nd ht
      refine ⟨y, o', c, ?_, ?_, g1, g2, g3, g4⟩
      · have := hat 0 (by decide)
        simpa [Addr.add] using this
      · have := hat 1 (by decide)
        simpa [Addr.add] using this)
    refine ⟨some a, ys, cap, by rw [hl], fun i y hi => ?_, by omega, by have : maxLen = 9223372036854775807 := rfl; omega, fun y hi => ?_, fun m hm y hi => ?_⟩
    · obtain ⟨d, _, o', c, g1, g2, g3, g4, _⟩ := hy i y hi
      rw [Nat.zero_add] at g1 g2
      exact ⟨a, o', c, rfl, g1, g2, g3, g4⟩
    · obtain ⟨i, hi⟩ := List.getElem?_of_mem hi
      obtain ⟨d, _, o', c, _, _, _, g4, g5, _⟩ := hy i y hi
      omega
    · obtain ⟨i, hi⟩ := List.getElem?_of_mem hi
      obtain ⟨d, hd, o', c, _, _, _, _, _, g6⟩ := hy i y hi
      rw [hx] at hm
      simp only [DataW.weights, hv] at hm
      exact g6 m fun k hk => hm k (List.mem_cons_of_mem _ (List.mem_append_left _ (weightsAll_in (List.mem_of_getElem? hd) hk)))

end Go.Proofs.Ytgnhcaepkgbieaa
