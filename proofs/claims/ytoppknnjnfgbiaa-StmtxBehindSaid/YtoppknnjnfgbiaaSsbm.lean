/-
  StmtxBehind answers true, whatever the tokens. Condition: none beside the form's own reach.
  A list of tokens in a row of the call's own; an append of tokens. Condition: at most 2^47 bytes.
  An argument that is a list of tokens, opened: where its tokens lie, what its bounds give. No condition.
-/
import Derived.Test.YtoppknnjnfgbiaaParse
import Derived.Test.YtoppknnjnfgbiaaEnds
import Derived.ProofKit
import Derived.OpenShut
import Derived.SizedLaws
import Derived.Deep.Slices
import Derived.Deep.Fields
import Derived.ChangeSame
import Derived.Carry
import Derived.Laws.OwnMore
import Derived.Test.YtoppknnjnfgbiaaQmc
import Derived.Test.YtoppknnjnfgbiaaSsxm
namespace Go.Proofs.Ytoppknnjnfgbiaa
open Go.ChangeShapes Go.WideShapes Go.Deep
open Go.RowKit

theorem weightsAll_mem {H : Type} {P : Program} {e : TypeId} : ∀ {ds : List (DataW H)} {d : DataW H} {n : Nat}, d ∈ ds → n ∈ d.weights P e → n ∈ DataW.weightsAll P e ds
  | [], _, _, h, _ => by cases h
  | x :: r, d, n, h, hn => by
    simp only [DataW.weightsAll, List.mem_append]
    cases List.mem_cons.1 h with
    | inl e => subst e; exact .inl hn
    | inr e => exact .inr (weightsAll_mem e hn)

/-- The datum of one token. -/
def tzD {H : Type} (t : TZ) : DataW H := .agg [.lit (.int .i64 t.kind), .lit (.int .i64 t.pos), .lit (.int .i64 t.stop), .lit (.string t.text.data.toList)]

set_option maxRecDepth 100000 in
set_option maxHeartbeats 4000000 in
/-- A list of tokens that came in. -/
theorem open_toks {H : Type} {enc : TypeId × Value → H} {W : World} {v : Value} {d : DataW H} {p : List MemPlace} {base : Nat} (hval : Value.okWide Try.prog W .any base 23 v) (h : DataW.Trod enc Try.prog W 0 (fun _ => true) true 23 v d p) :
    ∃ (o : Option Addr) (l : List TZ) (cap : Nat) (rest : List (DataW H)), v = .slice o l.length cap ∧ ZAt W o l ∧ l.length ≤ cap ∧ cap ≤ 9223372036854775807 ∧ l.length + rest.length = cap ∧ (o = none → l = [] ∧ cap = 0) ∧
      ((l = [] ∧ d = .nil) ∨ d = .slice (l.map tzD) rest) := by
  obtain ⟨o, len, cap, rfl⟩ := okWide_slice Try.underlying23 hval
  obtain ⟨fuel, hf⟩ := h
  have h32 : Try.prog.cellsOf 53 = 4 := by kernel_rfl
  have h3 : Try.prog.cellsOf 3 = 1 := by kernel_rfl
  have h9 : Try.prog.cellsOf 9 = 1 := by kernel_rfl
  rcases open_slice Try.underlying23 hf with ⟨hc, hx⟩ | ⟨a, len', cap', m, n0, D, Pl, hc, _, hlc, hcm, hm, hx, hi⟩
  · simp only [Value.cells, List.cons.injEq, Value.slice.injEq, and_true] at hc
    obtain ⟨rfl, rfl, rfl⟩ := hc
    simp only [Prod.mk.injEq] at hx
    exact ⟨none, [], 0, [], rfl, fun k t hk => by simp at hk, Nat.le_refl _, by omega, rfl, fun _ => ⟨rfl, rfl⟩, .inl ⟨rfl, hx.1⟩⟩
  · simp only [Value.cells, List.cons.injEq, Value.slice.injEq, and_true] at hc
    obtain ⟨rfl, rfl, rfl⟩ := hc
    rw [if_pos rfl] at hm
    subst hm
    have key : ∀ i, ∃ t : TZ, i < m → D i = tzD t ∧ ∀ j u, (tzC t)[j]? = some u → W.cell? (a.add (i * 4 + j)) = some u := by
      intro i
      by_cases him : i < m
      · obtain ⟨cs, hcells, htrod⟩ := hi i him
        rw [h32] at hcells
        obtain ⟨_, hlen, hat⟩ := World.cells?_some hcells
        obtain ⟨ys, n, _, hD, _, hyl, hfld⟩ := DataW.trod_struct Try.underlying53 htrod
        have hD := (Prod.mk.inj hD).1
        match cs, hlen, ys, hyl with
        | [u0, u1, u2, u3], _, [y0, y1, y2, y3], _ =>
        have t0 : DataW.trod enc Try.prog W 0 (fun _ => true) true n 3 [u0] = some y0 := by simpa [h3] using hfld 0 _ rfl
        have t1 : DataW.trod enc Try.prog W 0 (fun _ => true) true n 3 [u1] = some y1 := by simpa [h3] using hfld 1 _ rfl
        have t2 : DataW.trod enc Try.prog W 0 (fun _ => true) true n 3 [u2] = some y2 := by simpa [h3] using hfld 2 _ rfl
        have t3 : DataW.trod enc Try.prog W 0 (fun _ => true) true n 9 [u3] = some y3 := by simpa [h9] using hfld 3 _ rfl
        have c0 := hat 0 (by decide)
        have c1 := hat 1 (by decide)
        have c2 := hat 2 (by decide)
        have c3 := hat 3 (by decide)
        rw [add_more] at c0 c1 c2 c3
        simp only [List.getElem?_cons_zero, List.getElem?_cons_succ] at c0 c1 c2 c3
        obtain ⟨n0, f0, g0, _⟩ := DataW.trod_int Try.underlying3 t0
        obtain ⟨n1, f1, g1, _⟩ := DataW.trod_int Try.underlying3 t1
        obtain ⟨n2, f2, g2, _⟩ := DataW.trod_int Try.underlying3 t2
        obtain ⟨s3, f3, g3, _⟩ := DataW.trod_string Try.underlying9 t3
        simp only [List.cons.injEq, and_true] at f0 f1 f2 f3
        subst f0; subst f1; subst f2; subst f3; subst g0; subst g1; subst g2; subst g3
        refine ⟨⟨n0, n1, n2, s3⟩, fun _ => ⟨?_, ?_⟩⟩
        · rw [hD]
          rfl
        · intro j u hu
          match j, hu with
          | 0, hu => cases hu; exact c0
          | 1, hu => cases hu; exact c1
          | 2, hu => cases hu; exact c2
          | 3, hu => cases hu; exact c3
          | j + 4, hu => simp [tzC] at hu
      · exact ⟨tz0 0, fun h => (him h).elim⟩
    obtain ⟨f, hf'⟩ := Classical.axiomOfChoice key
    simp only [Prod.mk.injEq] at hx
    refine ⟨some a, (List.range len).map f, m, (List.range (m - len)).map fun j => D (len + j), by simp, ?_, by simpa using hlc, by simpa [maxLen] using hcm, by simp; omega, fun h => (by cases h), .inr ?_⟩
    · intro k t hk
      rw [List.getElem?_map] at hk
      obtain ⟨x, hx', rfl⟩ := Option.map_eq_some_iff.1 hk
      obtain ⟨hkl, rfl⟩ := List.getElem?_eq_some_iff.1 hx'
      simp only [List.length_range] at hkl
      simp only [List.getElem_range]
      exact ⟨a, rfl, (hf' k (by omega)).2⟩
    · rw [hx.1]
      congr 1
      rw [List.map_map]
      refine List.map_congr_left fun i hil => ?_
      have := List.mem_range.1 hil
      exact (hf' i (by omega)).1

/-- What the form's own reach gives: the list's bytes, each token's text. -/
theorem toks_reach {H : Type} {l : List TZ} {rest : List (DataW H)} {d : DataW H} (hd : (l = [] ∧ d = .nil) ∨ d = .slice (l.map tzD) rest) (hw : ∀ n ∈ d.weights Try.prog 23, n ≤ reachBytes) : l.length * 40 ≤ 140737488355328 ∧ Fits l := by
  have hrb : reachBytes ≤ 140737488355328 := by decide
  rcases hd with ⟨rfl, rfl⟩ | rfl
  · exact ⟨by simp, fun t ht => by cases ht⟩
  · have hu := Try.underlying23
    simp only [DataW.weights, hu] at hw
    constructor
    · have h1 := hw _ (List.mem_cons_self ..)
      rw [show Try.prog.bytesOf 53 = 40 by kernel_rfl, List.length_map] at h1
      omega
    · intro t ht
      have h1 := hw t.text.data.toList.length (List.mem_cons_of_mem _ (List.mem_append_left _ (weightsAll_mem (List.mem_map_of_mem ht) (by
        have hv := Try.underlying53
        simp [tzD, DataW.weights, hv, DataW.weightsEach]))))
      have e : t.text.data.toList.length = t.text.size := by rw [Array.length_toList]; rfl
      omega

/-- What the second form's bound gives. -/
theorem toks_bulk {H : Type} {l : List TZ} {rest : List (DataW H)} {d : DataW H} (hd : (l = [] ∧ d = .nil) ∨ d = .slice (l.map tzD) rest) (hw : Rows.uptoBulk d ≤ 1048576) : l.length ≤ 1048576 ∧ Fits l := by
  rcases hd with ⟨rfl, rfl⟩ | rfl
  · exact ⟨by simp, fun t ht => by cases ht⟩
  · simp only [Rows.uptoBulk] at hw
    have key : ∀ l : List TZ, l.length ≤ Rows.uptoBulkAll (H := H) (l.map tzD) ∧ ∀ t ∈ l, t.text.size ≤ Rows.uptoBulkAll (H := H) (l.map tzD) := by
      intro l
      induction l with
      | nil => exact ⟨by simp, fun t ht => by cases ht⟩
      | cons x r ih =>
        have e : x.text.data.toList.length = x.text.size := by rw [Array.length_toList]; rfl
        have h1 := ih.1
        have h2 := ih.2
        have h3 : Rows.uptoBulk (tzD (H := H) x) = x.text.size + 5 := by simp [tzD, Rows.uptoBulk, Rows.uptoBulkAll, e]; omega
        simp only [List.map_cons, Rows.uptoBulkAll, h3, List.length_cons]
        refine ⟨by omega, fun t ht => ?_⟩
        cases List.mem_cons.1 ht with
        | inl h => subst h; omega
        | inr h => have := h2 t h; omega
    refine ⟨by have := (key l).1; omega, fun t ht => by have := (key l).2 t ht; omega⟩

end Go.Proofs.Ytoppknnjnfgbiaa

namespace Go.Proofs.Ytoppknnjnfgbiaa
open Go.RowKit
open Go.Lib hiding intOf

theorem add_none6 (g off n : Nat) : (⟨g, off, none⟩ : Addr).add n = ⟨g, off + n, none⟩ := by
  unfold Addr.add
  split
  · next h => rw [h]; rfl
  · rfl

/-- The cells of a list of tokens. -/
def tzsC (l : List TZ) : List Value := l.flatMap tzC
theorem tzsC_len (l : List TZ) : (tzsC l).length = l.length * 4 := by
  induction l with
  | nil => rfl
  | cons t r ih => simp only [tzsC, List.flatMap_cons, List.length_append, List.length_cons] at *; rw [ih]; simp [tzC]; omega
theorem tzsC_at (l : List TZ) (k : Nat) (t : TZ) (h : l[k]? = some t) (j : Nat) (hj : j < 4) : (tzsC l)[k * 4 + j]? = (tzC t)[j]? := by
  induction l generalizing k with
  | nil => simp at h
  | cons x r ih =>
    have hl : (tzC x).length = 4 := rfl
    cases k with
    | zero =>
      simp at h; subst h
      show (tzC x ++ tzsC r)[0 * 4 + j]? = _
      rw [Nat.zero_mul, Nat.zero_add, List.getElem?_append_left (by rw [hl]; exact hj)]
    | succ k =>
      show (tzC x ++ tzsC r)[(k + 1) * 4 + j]? = _
      rw [List.getElem?_append_right (by rw [hl]; omega), hl, show (k + 1) * 4 + j - 4 = k * 4 + j by omega]
      exact ih k (by simpa using h)
theorem tzsC_cell {w : World} {a : Addr} {l : List TZ} (h : ZAt w (some a) l) (j : Nat) (u : Value) (hu : (tzsC l)[j]? = some u) : w.cell? (a.add j) = some u := by
  have hj : j < l.length * 4 := by rw [← tzsC_len]; exact (List.getElem?_eq_some_iff.1 hu).1
  have hk : j / 4 < l.length := by omega
  obtain ⟨a', ha, hc⟩ := h (j / 4) _ (List.getElem?_eq_getElem hk)
  cases ha
  have e : j = j / 4 * 4 + j % 4 := by omega
  rw [e] at hu ⊢
  rw [tzsC_at l (j / 4) _ (List.getElem?_eq_getElem hk) (j % 4) (by omega)] at hu
  exact hc _ _ hu
theorem tzsC_one (l : List TZ) : ∀ u ∈ tzsC l, u.oneCell' = true := by
  intro u hu
  obtain ⟨t, _, ht⟩ := List.mem_flatMap.1 hu
  simp only [tzC, List.mem_cons, List.not_mem_nil, or_false] at ht
  rcases ht with rfl | rfl | rfl | rfl <;> rfl

/-- A row of the call's own that holds tokens. -/
theorem own_toks {w : World} {base : Nat} {v : Value} {l : List TZ} (h : w.ownsRow base 53 4 v l.length (tzsC l)) : ∃ o cap, v = .slice o l.length cap ∧ ZAt w o l ∧ l.length ≤ cap ∧ (o = none → l = [] ∧ cap = 0) := by
  rcases h.2 with ⟨rfl, h0⟩ | ⟨g, cap, cur, rfl, _, hg, hnc, _, _, htake⟩
  · have : l = [] := List.length_eq_zero_iff.1 h0
    subst this
    exact ⟨none, 0, rfl, fun k t hk => by simp at hk, Nat.le_refl _, fun _ => ⟨rfl, rfl⟩⟩
  · refine ⟨some ⟨g, 0, none⟩, cap, rfl, fun k t hk => ⟨_, rfl, fun j u hu => ?_⟩, hnc, fun h => (by cases h)⟩
    have hj : j < 4 := (List.getElem?_eq_some_iff.1 hu).1
    have hkl : k < l.length := (List.getElem?_eq_some_iff.1 hk).1
    rw [add_none6, Nat.zero_add, h.cellAt (k * 4 + j) (by omega), tzsC_at l k t hk j hj]
    exact hu

/-- An append of tokens, onto a row of the call's own. -/
theorem wpList_append_toks {ops : Array Oper} {rest : List Oper} {o : Oper} {a : Act} {w : World} {Q : Exit → Act → World → Prop} (hgd : o.guard = none) (s x : Operand)
    (ho : o.op = .call { callee := .builtin .append, args := #[s, x], argTypes := #[23, 23] }) (base : Nat)
    (v : Value) (l m : List TZ) (hs : a.eval s = v) (hown : w.ownsRow base 53 4 v l.length (tzsC l)) (ad : Option Addr) (c : Nat) (hx : a.eval x = .slice ad m.length c) (hm : ZAt w ad m) (hnil : ad = none → m = [] ∧ c = 0)
    (hbytes : (l.length + m.length) * 40 ≤ 140737488355328) (hbase : base ≤ w.heap.size)
    (h : ∀ v' w', w'.ownsRow base 53 4 v' (l ++ m).length (tzsC (l ++ m)) → Below base w w' → wpList Try.prog ops Q rest (a.put o.dst v') w') : wpList Try.prog ops Q (o :: rest) a w := by
  obtain ⟨i0, hi, hi'⟩ := Option.map_eq_some_iff.1 Try.info53
  simp only [Prod.mk.injEq] at hi'
  obtain ⟨hz0, hz1, hz2⟩ := hi'
  cases ad with
  | none =>
    obtain ⟨rfl, rfl⟩ := hnil rfl
    refine wpList_plain hgd fun K hK => ?_
    have hrun := run_append_owned_none (P := Try.prog) w base 23 o.type 53 i0 4 Try.underlying23 hi v l.length (tzsC l) hown
    unfold Oper.wp
    rw [List.length_nil] at hx
    simp [execOp, ho, resolve, invoke, builtin, hs, hx, hrun, Result.andThen]
    exact hK _ _ (h v w (by simpa using hown) (Below.refl _ _))
  | some ad =>
    refine wpList_append_own w hgd s x 23 ho base 53 i0 (.agg #[.int .i64 0, .int .i64 0, .int .i64 0, .string ⟨#[]⟩]) 4 40 Try.underlying23 hi hz0 hz1 hz2 rfl (by decide) v l.length (tzsC l) hs hown ad m.length c (tzsC m) hx (tzsC_len m)
      (fun j u hu => tzsC_cell hm j u hu) (tzsC_one m) (by unfold maxLen; omega) hbytes hbase fun v' w' hown' hg _ => ?_
    refine h v' w' (by rw [List.length_append]; simpa [tzsC] using hown') ?_
    refine (Below.refl base w).grown hg hbase fun k hk => ?_
    rcases hown.2 with ⟨rfl, _⟩ | ⟨g, cap, cur, rfl, hb, _⟩
    · cases hk
    · simp only [Value.ownBlock, Option.some.injEq] at hk
      omega

end Go.Proofs.Ytoppknnjnfgbiaa

namespace Go.Proofs.Ytoppknnjnfgbiaa
open Go.RowKit
open Go.Lib hiding intOf

theorem lit_rowT (w : World) (n : Nat) (hs : w.heap.size = n) : (w.alloc (.cells #[] 53)).ownsRow n 53 4 (.slice (some ⟨n, 0, none⟩) 0 0) 0 [] := by
  subst hs
  exact World.ownsRow_lit w #[] 0 (Nat.le_refl _) (Nat.zero_le _) rfl
theorem own_toks' {w : World} {base n : Nat} {v : Value} {l : List TZ} (hn : l.length = n) (h : w.ownsRow base 53 4 v l.length (tzsC l)) : ∃ o cap, v = .slice o n cap ∧ ZAt w o l ∧ w.ownsRow base 53 4 (.slice o n cap) l.length (tzsC l) := by
  subst hn
  obtain ⟨o, cap, rfl, hz, _⟩ := own_toks h
  exact ⟨o, cap, rfl, hz, h⟩
theorem Blk.keepB {W W' : World} {B k : Nat} {t : TypeId} {cs : Array Value} (h : Blk W k t cs) (hb : Below B W W') (hk : k < B) : Blk W' k t cs := (hb.block k hk).trans h
theorem ZAt.take {w : World} {o : Option Addr} {l : List TZ} (h : ZAt w o l) (n : Nat) : ZAt w o (l.take n) := fun k t hk => by
  rw [List.getElem?_take] at hk
  split at hk
  · exact h k t hk
  · cases hk

/-- The steps for both lists. -/
def stepsF (n : Nat) : Nat := 8 * n + 16
theorem stepsF_le {l : List TZ} {n : Nat} (h : l.length ≤ n) : fuel l ≤ stepsF n := by unfold fuel stepsF; omega

theorem parse_more {l l2 : List TZ} {n F f : Nat} {X : List SX} (hq : blk l F f 0 0 = .ok X (n : Nat)) (hnl : n ≤ l.length) (hf : Fits l) (hf2 : Fits l2) (hb : l.length ≤ 4100) (hb2 : l2.length ≤ 4100) (hF : stepsF 8200 ≤ F) (o : Option Addr) (c : Nat) (W : World) (hz : ZAt W o (l.take n ++ l2)) :
    Calls Try.prog 8 #[.slice o (n + l2.length) c, .int .i64 0] W fun e w' => ∃ v, e = .returned v ∧ SParRes W.heap.size w' (.ok X (n : Nat)) v ∧ Below W.heap.size W w' := by
  have hl : (l.take n ++ l2).length = n + l2.length := by rw [List.length_append, List.length_take]; omega
  have hk := blk_behind (more := l2) hq
  have h := parseS_any (c := c) 0 W hz (by omega) (fun t ht => by
    rcases List.mem_append.1 ht with h | h
    · exact hf t (List.mem_of_mem_take h)
    · exact hf2 t h) F f (Nat.le_trans (stepsF_le (by omega)) hF) (by rw [hk]; simp)
  rwa [hl, hk] at h

end Go.Proofs.Ytoppknnjnfgbiaa
namespace Go.Proofs.Ytoppknnjnfgbiaa.stmtxBehind
open Go.ChangeShapes Go.WideShapes Go.ChangeAt Go.RowKit
open Go.Lib hiding intOf

theorem own : ownKnob Try.prog.godebug = none := by kernel_rfl

set_option maxRecDepth 20000 in
set_option maxHeartbeats 4000000 in
theorem walk_long (o : Option Addr) (l : List TZ) (cap : Nat) (o2 : Option Addr) (l2 : List TZ) (cap2 : Nat) (w : World) (hs : 4100 < l.length ∨ (l.length ≤ 4100 ∧ 4100 < l2.length)) :
    Calls Try.prog 4 #[.slice o l.length cap, .slice o2 l2.length cap2] w fun e w' => e = .returned (.bool true) ∧ Below w.heap.size w w' := by
  rcases hs with h | ⟨h, h'⟩
  · have h1 : (4100 : Int) < (l.length : Nat) := by omega
    clear h
    go_enter Try.func4, Try.ntmps4
    go_wp2_with (go_at_call 7; refine (awakeS_any _).mono ?_; rintro e w1 ⟨rfl, hB⟩)
    go_ret
    exact ⟨rfl, hB⟩
  · have h1 : ¬ (4100 : Int) < (l.length : Nat) := by omega
    have h2 : (4100 : Int) < (l2.length : Nat) := by omega
    clear h h'
    go_enter Try.func4, Try.ntmps4
    go_wp2_with (go_at_call 7; refine (awakeS_any _).mono ?_; rintro e w1 ⟨rfl, hB⟩)
    go_ret
    exact ⟨rfl, hB⟩

set_option maxRecDepth 20000 in
set_option maxHeartbeats 4000000 in
theorem walk_short (o : Option Addr) (l : List TZ) (cap : Nat) (o2 : Option Addr) (l2 : List TZ) (cap2 : Nat) (w : World) (h : ZAt w o l) (hnil : o = none → l = [] ∧ cap = 0) (hb : l.length ≤ 4100) (hf : Fits l) (hlc : l.length ≤ cap)
    (h2 : ZAt w o2 l2) (hnil2 : o2 = none → l2 = [] ∧ cap2 = 0) (hb2 : l2.length ≤ 4100) (hf2 : Fits l2) :
    Calls Try.prog 4 #[.slice o l.length cap, .slice o2 l2.length cap2] w fun e w' => e = .returned (.bool true) ∧ Below w.heap.size w w' := by
  have HZ := Lib.hid h
  have HZ2 := Lib.hid h2
  have HN2 := Lib.hid hnil2
  have hne : blk l (stepsF 8200) (fuelB l) 0 0 ≠ .out := (stm_some (stepsF_le (by omega)) _).1 0 0 (Int.le_refl _) (by unfold fuelB left; omega)
  have HP := Lib.hid (fun (W : World) (hz : ZAt W o l) => parseS_any (c := cap) 0 W hz (by omega) hf (stepsF 8200) (fuelB l) (stepsF_le (by omega)) hne)
  have HNE := Lib.hid hne
  have HF := Lib.hid hf
  have HF2 := Lib.hid hf2
  have HN := Lib.hid hnil
  have g1 : ¬ (4100 : Int) < (l.length : Nat) := by omega
  have g2 : ¬ (4100 : Int) < (l2.length : Nat) := by omega
  clear h h2 hnil2 hf hf2 hnil hne
  generalize fuelB l = f at *
  go_enter Try.func4, Try.ntmps4
  go_wp2_with fail
  refine (awakeS_any _).mono ?_
  rintro e w1 ⟨rfl, hB⟩
  have B1 := Lib.hid hB
  clear hB
  go_wp2_with fail
  refine (HP.out _ (HZ.out.below B1.out)).mono ?_
  rintro e w2 ⟨v, rfl, hr, hB⟩
  have B2 := Lib.hid (B1.out.trans (hB.mono B1.out.size))
  have hz2 := B2.out.size
  clear hB B1 HP
  obtain ⟨R, hq⟩ : ∃ R, blk l (stepsF 8200) f 0 0 = R := ⟨_, rfl⟩
  have HQ := Lib.hid hq
  rw [hq] at hr HNE
  clear hq
  cases R with
  | out => exact (HNE.out rfl).elim
  | err p c =>
    obtain ⟨oX, cX, rfl⟩ := hr
    have hc : c ≠ 0 := ((stm_err _).1 _ _ _ _ HQ.out).2
    have hc1 : (c == 0) = false := by simpa using hc
    have hc2 : (c != 0) = true := by simpa using hc
    clear hc
    go_wp2
    go_ret
    exact ⟨by simp, B2.out.alloc hz2 _⟩
  | ok X m =>
    obtain ⟨hi0, him, hml⟩ := (stm_rng _).1 _ _ _ _ HQ.out
    obtain ⟨hsl, hsn⟩ := (stm_slim (N := 5000) (by omega) _).1 _ _ _ _ HQ.out
    obtain ⟨n, rfl⟩ : ∃ n : Nat, m = n := ⟨m.toNat, by omega⟩
    have hnl : n ≤ l.length := by omega
    obtain ⟨ad, rfl⟩ : ∃ ad, o = some ad := by
      cases o with
      | none => have := (HN.out rfl).1; subst this; simp at hnl; omega
      | some a => exact ⟨a, rfl⟩
    obtain ⟨oX, cX, rfl, hx⟩ := hr
    have X2 := Lib.hid hx
    have HSM := Lib.hid (fun (P Q : Nat → Prop) (o o' : Option Addr) (c c' : Nat) (W : World) (hu : IsSPs P W o 0 X) (hv : IsSPs Q W o' 0 X) => sameS_any 5000 (by decide) X (by omega) hsl P Q o o' c c' W hu hv)
    have htl : (l.take n).length = n := by rw [List.length_take]; omega
    have HTL := Lib.hid htl
    have hn0 : (0 : Int) ≤ (n : Nat) := by omega
    have hn1 : ((n : Nat) : Int) ≤ (cap : Nat) := by omega
    have hn2 : ¬ ((n : Nat) : Int) < 2 := by omega
    have hn3 : ¬ ((l.length : Nat) : Int) < (n : Nat) := by omega
    clear hx htl hsl
    go_wp2_with (first | (refine wpList_append_toks rfl _ _ rfl (w2.heap.size + 1) _ [] (l.take n) rfl (lit_rowT _ _ (by simp)) (some ad) cap (by rw [HTL.out]; rfl) ((HZ.out.take n).below ((B2.out.alloc hz2 _).alloc (by simp; omega) _)) (fun h => by cases h) (by rw [HTL.out, List.length_nil]; omega) (by simp) ?_; intro v3 w3 hown hB3; obtain ⟨o3, cap3, rfl, _, ho3⟩ := own_toks' HTL.out hown; have HO3 := Lib.hid ho3; have K3 := Lib.hid (((Blk.new w2 26 #[.int .i64 0, .int .i64 0]).alloc _).keepB hB3 (by omega)); have B3 := Lib.hid (((B2.out.alloc hz2 _).alloc (by simp; omega) _).trans (hB3.mono (by omega))); have hz3 : w2.heap.size + 1 < w3.heap.size := (by have := hB3.size; simp at this; omega); have M3 := Lib.hid ((((Below.refl w2.heap.size w2).alloc (Nat.le_refl _) _).alloc (by simp) _).trans (hB3.mono (by omega))); clear hown hB3 ho3) | (refine wpList_append_toks rfl _ _ rfl (w2.heap.size + 1) _ (l.take n) l2 rfl HO3.out o2 cap2 rfl (HZ2.out.below B3.out) HN2.out (by rw [HTL.out]; omega) (by omega) ?_; intro v4 w4 hown hB4; obtain ⟨o4, cap4, rfl, hz4', _⟩ := own_toks' (n := n + l2.length) (by rw [List.length_append, HTL.out]) hown; have HZ4 := Lib.hid hz4'; have K4 := Lib.hid (K3.out.keepB hB4 (by omega)); have B4 := Lib.hid (B3.out.trans (hB4.mono (by omega))); have hz4 : w2.heap.size + 1 < w4.heap.size := Nat.lt_of_lt_of_le hz3 hB4.size; have X4 := Lib.hid (IsSPs.below X2.out (M3.out.trans (hB4.mono (by omega)))); clear hown hB4 hz4'))
    refine (parse_more HQ.out hnl HF.out HF2.out hb hb2 (Nat.le_refl _) o4 cap4 _ HZ4.out).mono ?_
    rintro e w5 ⟨v5, rfl, hr5, hB⟩
    obtain ⟨oY, cY, rfl, hy⟩ := hr5
    have B5 := Lib.hid (B4.out.trans (hB.mono B4.out.size))
    have b5 := B5.out.size
    have kk : Below w5.heap.size w5 (w5.alloc (.cells #[.int .i64 0, .int .i64 0] 26)) := (Below.refl _ _).alloc (Nat.le_refl _) _
    have X5 := Lib.hid ((IsSPs.below X4.out hB).below kk)
    have Y5 := Lib.hid (IsSPs.below hy kk)
    clear hB hy K4 X4 HZ4 kk B4 K3 HO3 M3 B3
    go_wp2_with fail
    refine (HSM.out _ _ _ _ _ _ _ X5.out Y5.out).mono ?_
    rintro e w6 ⟨rfl, hB⟩
    have c6 := (blk_mid3 hB).cell
    have z6 : w5.heap.size < w6.heap.size := mid_size hB
    have B6 := Lib.hid (B5.out.trans ((((Below.refl _ _).alloc (Nat.le_refl _) _).trans (hB.mono (by simp))).mono b5))
    clear hB X5 Y5 HSM
    go_wp2
    go_ret
    exact ⟨by simp, B6.out⟩

theorem walk (o : Option Addr) (l : List TZ) (cap : Nat) (o2 : Option Addr) (l2 : List TZ) (cap2 : Nat) (w : World) (h : ZAt w o l) (hnil : o = none → l = [] ∧ cap = 0) (hlc : l.length ≤ cap) (hf : Fits l)
    (h2 : ZAt w o2 l2) (hnil2 : o2 = none → l2 = [] ∧ cap2 = 0) (_ : l2.length ≤ cap2) (hf2 : Fits l2) :
    Calls Try.prog 4 #[.slice o l.length cap, .slice o2 l2.length cap2] w fun e w' => e = .returned (.bool true) ∧ Below w.heap.size w w' := by
  by_cases h1 : 4100 < l.length
  · exact walk_long o l cap o2 l2 cap2 w (.inl h1)
  by_cases h3 : 4100 < l2.length
  · exact walk_long o l cap o2 l2 cap2 w (.inr ⟨by omega, h3⟩)
  exact walk_short o l cap o2 l2 cap2 w h hnil (by omega) hf hlc h2 hnil2 (by omega) hf2

theorem laidOut : laidOutB Try.prog = true := by kernel_rfl

theorem int_range {n : Int} (h : (Lit.int .i64 n).wf = true) : -9223372036854775808 ≤ n ∧ n ≤ 9223372036854775807 := by
  have h2 : IntKind.i64.min ≤ n ∧ n ≤ IntKind.i64.max := by
    unfold Lit.wf at h
    simpa only [Bool.and_eq_true, decide_eq_true_eq] using h
  rw [show IntKind.i64.min = -9223372036854775808 by decide, show IntKind.i64.max = 9223372036854775807 by decide] at h2
  exact h2

set_option maxRecDepth 100000 in
theorem lifted (os : Os) (started : os.Started) (H : Type) (enc : TypeId × Value → H) :
    ReturnsInHanded {} Try.checked os 4 .any (Rows.stmtxBehindSpec.pre6 enc Try.prog Try.f4 Rows.stmtxBehindRow.domain false) (Rows.stmtxBehindSpec.post enc Try.prog Try.f4 false true false false) := by
  refine returnsInHanded_of_change_sized (C := Try.checked) own started (by kernel_rfl) Try.func4
    (ChangeSpec.witness6 (enc := enc) (C := Try.checked) false ⟨#[], #[.slice none 0 0, .slice none 0 0], []⟩ 8 (by kernel_rfl) (by kernel_rfl) (by kernel_rfl) (by kernel_rfl)) ?_
  intro W base args ds gs before hval0 hW hcnd hsz _
  have hval : ∀ (j : Nat) t v, Try.f4.params[j]? = some t → args[j]? = some v → Value.okWide Try.prog W .any base t v := hval0
  have hW' := hW
  obtain ⟨p, q, hA0, hV, rfl, hfz, hnd⟩ := hW
  have hA : DataW.TrodAll enc Try.prog W 0 (fun _ => true) true Try.f4.params.toList args.toList ds p := hA0
  rw [Try.params4] at hA hval
  obtain ⟨v0, vs0, d0, ds0, p0, q0, hargs, rfl, rfl, h0, r0⟩ := trodAll_cons hA
  obtain ⟨v1, vs1, d1, ds1, p1, q1, rfl, rfl, rfl, h1, r1⟩ := trodAll_cons r0
  obtain ⟨rfl, rfl, rfl⟩ := trodAll_nil r1
  obtain rfl : args = #[v0, v1] := by cases args; simp_all
  obtain ⟨rfl, rfl⟩ := trodVars_none hV
  have t0 := h0
  obtain ⟨o0, l0, c0, s0, rfl, z0, lc0, _, _, n0, e0⟩ := open_toks (hval 0 23 v0 rfl rfl) h0
  obtain ⟨b0, f0⟩ := toks_reach e0 (fun n hn => by simpa using List.all_eq_true.1 hsz n (DataW.weights_mem_each (j := 0) rfl rfl n hn))
  have lt0 : ∀ x ∈ p0, x.block < W.heap.size := fun x hx => by simpa using hW'.lt x (by simp [hx])
  have t1 := h1
  obtain ⟨o1, l1, c1, s1, rfl, z1, lc1, _, _, n1, e1⟩ := open_toks (hval 1 23 v1 rfl rfl) h1
  obtain ⟨b1, f1⟩ := toks_reach e1 (fun n hn => by simpa using List.all_eq_true.1 hsz n (DataW.weights_mem_each (j := 1) rfl rfl n hn))
  have lt1 : ∀ x ∈ p1, x.block < W.heap.size := fun x hx => by simpa using hW'.lt x (by simp [hx])
  clear hA0 hval0
  simp only [List.append_nil] at hW'
  refine (walk o0 l0 c0 o1 l1 c1 W z0 n0 lc0 f0 z1 n1 lc1 f1).mono fun e W' ⟨he, hg⟩ => ?_
  subst he
  exact ⟨_, rfl, _, _, _, [], _, [], hW', (trodAll_cons_mk (shut_bool Try.underlying4 _) trodAll_mk0), (trodAll_cons_mk (Below.trod laidOut (by kernel_rfl) (of_decide_eq_true (by kernel_rfl)) t0 hg lt0) (trodAll_cons_mk (Below.trod laidOut (by kernel_rfl) (of_decide_eq_true (by kernel_rfl)) t1 hg lt1) trodAll_mk0)), rfl, hg.frame _, fun h => by cases h⟩

theorem over : Rows.stmtxBehindRow.holds Try.pinned (OpenSpec.ofChange Rows.stmtxBehindSpec) :=
  OpenClaim.holds_of_wide 4 Try.f4 rfl rfl rfl rfl rfl rfl rfl ⟨rfl, rfl, rfl, rfl, rfl⟩ rfl rfl rfl rfl rfl (by kernel_rfl) Try.func4 (by kernel_rfl)
    (of_decide_eq_true (by kernel_rfl)) (by unfold Func.isWrapper; first | (rw [if_pos (by decide +kernel)]; kernel_rfl) | (rw [if_neg (by decide +kernel)]; exact ⟨rfl, rfl⟩))
    (fun os started H enc _ => lifted os started H enc)

/-- StmtxBehind answers true. -/
theorem proved : Rows.StmtxBehindSaid :=
  over

end Go.Proofs.Ytoppknnjnfgbiaa.stmtxBehind
