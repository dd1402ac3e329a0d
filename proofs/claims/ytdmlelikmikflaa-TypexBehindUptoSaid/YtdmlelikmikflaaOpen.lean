/-
  An argument that is a list of tokens, opened: where its tokens lie, what its bounds give. No condition.
-/
import Derived.Test.YtdmlelikmikflaaTexts
import Derived.Deep.Slices
import Derived.Deep.Fields
import Derived.ChangeSame
import Derived.Carry
namespace Go.Proofs.Ytdmlelikmikflaa
open Go.ChangeShapes Go.WideShapes Go.Deep
open Go.RowKit

theorem weightsAll_mem {H : Type} {P : Program} {e : TypeId} : ∀ {ds : List (DataW H)} {d : DataW H} {n : Nat}, d ∈ ds → n ∈ d.weights P e → n ∈ DataW.weightsAll P e ds
  | [], _, _, h, _ => by cases h
  | x :: r, d, n, h, hn => by
    simp only [DataW.weightsAll, List.mem_append]
    cases List.mem_cons.1 h with
    | inl e => subst e; exact .inl hn
    | inr e => exact .inr (weightsAll_mem e hn)

/-- The datum of one token. -/
def tzD {H : Type} (t : TZ) : DataW H := .agg [.lit (.int .i64 t.kind), .lit (.int .i64 t.pos), .lit (.int .i64 t.stop), .lit (.string t.text.data.toList)]

/-- A list of tokens that came in. -/
theorem open_toks {H : Type} {enc : TypeId × Value → H} {W : World} {v : Value} {d : DataW H} {p : List MemPlace} {base : Nat} (hval : Value.okWide Try.prog W .any base 23 v) (h : DataW.Trod enc Try.prog W 0 (fun _ => true) true 23 v d p) :
    ∃ (o : Option Addr) (l : List TZ) (cap : Nat) (rest : List (DataW H)), v = .slice o l.length cap ∧ ZAt W o l ∧ l.length ≤ cap ∧ cap ≤ 9223372036854775807 ∧ l.length + rest.length = cap ∧ (o = none → l = [] ∧ cap = 0) ∧
      ((l = [] ∧ d = .nil) ∨ d = .slice (l.map tzD) rest) := by
  obtain ⟨o, len, cap, rfl⟩ := okWide_slice Try.underlying23 hval
  obtain ⟨fuel, hf⟩ := h
  have h32 : Try.prog.cellsOf 32 = 4 := by kernel_rfl
  have h3 : Try.prog.cellsOf 3 = 1 := by kernel_rfl
  have h9 : Try.prog.cellsOf 9 = 1 := by kernel_rfl
  rcases open_slice Try.underlying23 hf with ⟨hc, hx⟩ | ⟨a, len', cap', m, n0, D, Pl, hc, _, hlc, hcm, hm, hx, hi⟩
  · simp only [Value.cells, List.cons.injEq, Value.slice.injEq, and_true] at hc
    obtain ⟨rfl, rfl, rfl⟩ := hc
    simp only [Prod.mk.injEq] at hx
    exact ⟨none, [], 0, [], rfl, fun k t hk => by simp at hk, Nat.le_refl _, by omega, rfl, fun _ => ⟨rfl, rfl⟩, .inl ⟨rfl, hx.1⟩⟩
  · simp only [Value.cells, List.cons.injEq, Value.slice.injEq, and_true] at hc
    obtain ⟨rfl, rfl, rfl⟩ := hc
    rw [if_pos rfl] at hm
    subst hm
    have key : ∀ i, ∃ t : TZ, i < m → D i = tzD t ∧ ∀ j u, (tzC t)[j]? = some u → W.cell? (a.add (i * 4 + j)) = some u := by
      intro i
      by_cases him : i < m
      · obtain ⟨cs, hcells, htrod⟩ := hi i him
        rw [h32] at hcells
        obtain ⟨_, hlen, hat⟩ := World.cells?_some hcells
        obtain ⟨ys, n, _, hD, _, hyl, hfld⟩ := DataW.trod_struct Try.underlying32 htrod
        have hD := (Prod.mk.inj hD).1
        match cs, hlen, ys, hyl with
        | [u0, u1, u2, u3], _, [y0, y1, y2, y3], _ =>
        have t0 : DataW.trod enc Try.prog W 0 (fun _ => true) true n 3 [u0] = some y0 := by simpa [h3] using hfld 0 _ rfl
        have t1 : DataW.trod enc Try.prog W 0 (fun _ => true) true n 3 [u1] = some y1 := by simpa [h3] using hfld 1 _ rfl
        have t2 : DataW.trod enc Try.prog W 0 (fun _ => true) true n 3 [u2] = some y2 := by simpa [h3] using hfld 2 _ rfl
        have t3 : DataW.trod enc Try.prog W 0 (fun _ => true) true n 9 [u3] = some y3 := by simpa [h9] using hfld 3 _ rfl
        have c0 := hat 0 (by decide)
        have c1 := hat 1 (by decide)
        have c2 := hat 2 (by decide)
        have c3 := hat 3 (by decide)
        rw [add_more] at c0 c1 c2 c3
        simp only [List.getElem?_cons_zero, List.getElem?_cons_succ] at c0 c1 c2 c3
        obtain ⟨n0, f0, g0, _⟩ := DataW.trod_int Try.underlying3 t0
        obtain ⟨n1, f1, g1, _⟩ := DataW.trod_int Try.underlying3 t1
        obtain ⟨n2, f2, g2, _⟩ := DataW.trod_int Try.underlying3 t2
        obtain ⟨s3, f3, g3, _⟩ := DataW.trod_string Try.underlying9 t3
        simp only [List.cons.injEq, and_true] at f0 f1 f2 f3
        subst f0; subst f1; subst f2; subst f3; subst g0; subst g1; subst g2; subst g3
        refine ⟨⟨n0, n1, n2, s3⟩, fun _ => ⟨?_, ?_⟩⟩
        · rw [hD]
          rfl
        · intro j u hu
          match j, hu with
          | 0, hu => cases hu; exact c0
          | 1, hu => cases hu; exact c1
          | 2, hu => cases hu; exact c2
          | 3, hu => cases hu; exact c3
          | j + 4, hu => simp [tzC] at hu
      · exact ⟨tz0 0, fun h => (him h).elim⟩
    obtain ⟨f, hf'⟩ := Classical.axiomOfChoice key
    simp only [Prod.mk.injEq] at hx
    refine ⟨some a, (List.range len).map f, m, (List.range (m - len)).map fun j => D (len + j), by simp, ?_, by simpa using hlc, by simpa [maxLen] using hcm, by simp; omega, fun h => (by cases h), .inr ?_⟩
    · intro k t hk
      rw [List.getElem?_map] at hk
      obtain ⟨x, hx', rfl⟩ := Option.map_eq_some_iff.1 hk
      obtain ⟨hkl, rfl⟩ := List.getElem?_eq_some_iff.1 hx'
      simp only [List.length_range] at hkl
      simp only [List.getElem_range]
      exact ⟨a, rfl, (hf' k (by omega)).2⟩
    · rw [hx.1]
      congr 1
      rw [List.map_map]
      refine List.map_congr_left fun i hil => ?_
      have := List.mem_range.1 hil
      exact (hf' i (by omega)).1

/-- What the form's own reach gives: the list's bytes, each token's text. -/
theorem toks_reach {H : Type} {l : List TZ} {rest : List (DataW H)} {d : DataW H} (hd : (l = [] ∧ d = .nil) ∨ d = .slice (l.map tzD) rest) (hw : ∀ n ∈ d.weights Try.prog 23, n ≤ reachBytes) : l.length * 40 ≤ 140737488355328 ∧ Fits l := by
  have hrb : reachBytes ≤ 140737488355328 := by decide
  rcases hd with ⟨rfl, rfl⟩ | rfl
  · exact ⟨by simp, fun t ht => by cases ht⟩
  · have hu := Try.underlying23
    simp only [DataW.weights, hu] at hw
    constructor
    · have h1 := hw _ (List.mem_cons_self ..)
      rw [show Try.prog.bytesOf 32 = 40 by kernel_rfl, List.length_map] at h1
      omega
    · intro t ht
      have h1 := hw t.text.data.toList.length (List.mem_cons_of_mem _ (List.mem_append_left _ (weightsAll_mem (List.mem_map_of_mem ht) (by
        have hv := Try.underlying32
        simp [tzD, DataW.weights, hv, DataW.weightsEach]))))
      have e : t.text.data.toList.length = t.text.size := by rw [Array.length_toList]; rfl
      omega

/-- What the second form's bound gives. -/
theorem toks_bulk {H : Type} {l : List TZ} {rest : List (DataW H)} {d : DataW H} (hd : (l = [] ∧ d = .nil) ∨ d = .slice (l.map tzD) rest) (hw : Rows.uptoBulk d ≤ 1048576) : l.length ≤ 1048576 ∧ Fits l := by
  rcases hd with ⟨rfl, rfl⟩ | rfl
  · exact ⟨by simp, fun t ht => by cases ht⟩
  · simp only [Rows.uptoBulk] at hw
    have key : ∀ l : List TZ, l.length ≤ Rows.uptoBulkAll (H := H) (l.map tzD) ∧ ∀ t ∈ l, t.text.size ≤ Rows.uptoBulkAll (H := H) (l.map tzD) := by
      intro l
      induction l with
      | nil => exact ⟨by simp, fun t ht => by cases ht⟩
      | cons x r ih =>
        have e : x.text.data.toList.length = x.text.size := by rw [Array.length_toList]; rfl
        have h1 := ih.1
        have h2 := ih.2
        have h3 : Rows.uptoBulk (tzD (H := H) x) = x.text.size + 5 := by simp [tzD, Rows.uptoBulk, Rows.uptoBulkAll, e]; omega
        simp only [List.map_cons, Rows.uptoBulkAll, h3, List.length_cons]
        refine ⟨by omega, fun t ht => ?_⟩
        cases List.mem_cons.1 ht with
        | inl h => subst h; omega
        | inr h => have := h2 t h; omega
    refine ⟨by have := (key l).1; omega, fun t ht => by have := (key l).2 t ht; omega⟩

end Go.Proofs.Ytdmlelikmikflaa
