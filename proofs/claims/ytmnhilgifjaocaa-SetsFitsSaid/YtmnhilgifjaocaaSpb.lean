/-
  The first method of a name, searched for. Condition: names of at most 2^48 bytes, at most 2^62 methods.
-/
import Derived.Test.YtmnhilgifjaocaaSnc
import Derived.Test.YtmnhilgifjaocaaSrd
import Derived.Test.YtmnhilgifjaocaaSca
namespace Go.Proofs.Ytmnhilgifjaocaa
open Go.RowKit
open Go.Lib hiding intOf

theorem rows_cells {w0 : World} {o : Option Addr} {l : List MD} (h : IsRow 7 IsMd w0 o l) : ∃ L : List (List Value), L.length = l.length ∧ sg.RowN 7 w0 o L ∧ ∀ (i : Nat) (c : List Value), L[i]? = some c → ∃ x, l[i]? = some x ∧ IsMd w0 x c := by
  obtain ⟨L, h1, h2⟩ := rows_of (P := fun (j : Nat) (x : MD) (c : List Value) => ∃ a, o = some a ∧ c.length = 7 ∧ (∀ (i : Nat) (u : Value), c[i]? = some u → w0.cell? ((a.add (j * 7)).add i) = some u) ∧ IsMd w0 x c) l 0 (fun j d hd => by
    rw [Nat.zero_add]
    obtain ⟨a, c, g1, g2, g3, g4⟩ := h j d hd
    exact ⟨c, a, g1, g2, g3, g4⟩)
  refine ⟨L, h1, fun i c hc => ?_, fun i c hc => ?_⟩
  · obtain ⟨x, _, a, g1, g2, g3, _⟩ := h2 i c hc
    rw [Nat.zero_add] at g3
    exact ⟨a, g1, g2, g3⟩
  · obtain ⟨x, g0, a, _, _, _, g4⟩ := h2 i c hc
    exact ⟨x, g0, g4⟩
theorem nm_cells {w0 : World} {x : MD} {c : List Value} (h : IsMd w0 x c) : sg.nmD c = sg.nm x.name := by
  obtain ⟨o, k, r0, r1, r2, r3, r4, rfl, _⟩ := h
  rfl
theorem names_cells {w0 : World} {l : List MD} {L : List (List Value)} (h1 : L.length = l.length) (h2 : ∀ (i : Nat) (c : List Value), L[i]? = some c → ∃ x, l[i]? = some x ∧ IsMd w0 x c) : L.map sg.nmD = l.map fun m => sg.nm m.name := by
  refine List.ext_getElem? fun i => ?_
  rw [List.getElem?_map, List.getElem?_map]
  cases hL : L[i]? with
  | none =>
    have := List.getElem?_eq_none_iff.1 hL
    rw [List.getElem?_eq_none_iff.2 (by omega)]
    rfl
  | some c =>
    obtain ⟨x, hx, hm⟩ := h2 i c hL
    rw [hx, Option.map_some, Option.map_some, nm_cells hm]
theorem first_find : ∀ (l : List MD) (k : Nat) (x : ByteArray), (sg.firstN (l.map fun m => sg.nm m.name) k (sg.nm x) = none ∧ hasM l x = none) ∨ ∃ i m, sg.firstN (l.map fun m => sg.nm m.name) k (sg.nm x) = some (k + i) ∧ l[i]? = some m ∧ hasM l x = some m
  | [], _, _ => .inl ⟨rfl, rfl⟩
  | m :: r, k, x => by
    unfold hasM
    rw [List.map_cons, sg.firstN, List.find?_cons]
    by_cases e : m.name = x
    · rw [if_pos (by rw [e]), decide_eq_true e]
      exact .inr ⟨0, m, rfl, rfl, rfl⟩
    · rw [if_neg (fun h => e (sg.nm_inj h).symm), decide_eq_false e]
      rcases first_find r (k + 1) x with ⟨h1, h2⟩ | ⟨i, y, h1, h2, h3⟩
      · exact .inl ⟨h1, h2⟩
      · exact .inr ⟨i + 1, y, by rw [h1]; congr 1; omega, by simpa using h2, h3⟩
theorem found_none : sg.found sg.mkI none = .int .i64 0 := rfl
theorem found_some (i : Nat) : sg.found sg.mkI (some i) = .int .i64 (i : Int) := rfl
theorem isM_below {w w' : World} {b n : Nat} {F : sg.Nm → Option Nat} (h : sg.IsM sg.mkI w b n F) (hb : Below w.heap.size w w') : sg.IsM sg.mkI w' b n F := h.below hb

set_option maxRecDepth 100000 in
set_option maxHeartbeats 4000000 in
/-- The search itself. -/
theorem found_any (l : List MD) (o : Option Addr) (m cap bM bV bL : Nat) (x : ByteArray) (w0 w : World) (hl : l.length = m) (hx : x.size ≤ 281474976710656) (hrow : IsRow 7 IsMd w0 o l) (h0 : Below w0.heap.size w0 w)
    (hM : sg.IsM sg.mkI w bM m (sg.firstN (l.map fun m => sg.nm m.name) 0)) (hV : Blk w bV 87 #[.map (some bM)]) (hL : Blk w bL 33 #[.slice o m cap]) :
    Calls Try.prog 59 #[.string x, .pointer (some ⟨bV, 0, none⟩), .pointer (some ⟨bL, 0, none⟩)] w fun e w' => ∃ d, e = .returned (.tuple #[.agg d.toArray, .bool (hasM l x).isSome]) ∧ IsMd w0 ((hasM l x).getD zeroM) d ∧ Below w.heap.size w w' := by
  obtain ⟨W2, hW2, HBX⟩ := bx1 w #[.string noB, .slice none 0 0, .int .i64 0, .string noB, .string noB, .int .i64 0, .slice none 0 0] 50
  have HW2 := Lib.hid hW2
  have hb2 := HBX.out.2.1
  have HM := Lib.hid (isM_below hM hb2)
  have HV := Lib.hid (blkB hV hb2)
  have HL := Lib.hid (blkB hL hb2)
  have k0 : Blk W2 w.heap.size 50 #[.string noB, .slice none 0 0, .int .i64 0, .string noB, .string noB, .int .i64 0, .slice none 0 0] := by have := HBX.out.at_ (Below.refl _ _) 0 rfl; rwa [Nat.add_zero] at this
  have K0 := Lib.hid k0
  have cV := HV.out.cell 0
  have cL := HL.out.cell 0
  have hsx : x.size ≤ maxLen := sg.le_maxLen hx
  have HX := Lib.hid hsx
  have HB2 := Lib.hid hb2
  have HW0 := Lib.hid (h0.trans (hb2.mono h0.size))
  clear hM hV hL hW2 hx hb2 h0 k0 hsx
  rcases first_find l 0 x with ⟨hF, hH⟩ | ⟨i, y, hF, hy, hH⟩
  · have HF := Lib.hid hF
    rw [hH]
    clear hF hH
    go_enter Try.func59, Try.ntmps59
    go_upto_region 1 with fail
    change Code.wp Try.prog _ _ _ (w.alloc (.cells #[.string noB, .slice none 0 0, .int .i64 0, .string noB, .string noB, .int .i64 0, .slice none 0 0] 50))
    rw [HW2.out]
    have c0 := K0.out.cell
    have f0 := K0.out.frozen
    go_wp2_with (refine sg.wpList_look_ok W2 sg.mkI rfl _ _ rfl bM m _ rfl HM.out x rfl HX.out ?_; rw [HF.out, found_none])
    rw [setCell_same K0.out rfl, setCell_same K0.out rfl, setCell_same K0.out rfl, setCell_same K0.out rfl, setCell_same K0.out rfl, setCell_same K0.out rfl, setCell_same K0.out rfl]
    refine bodyPost_ret (v := .tuple #[.agg #[.string noB, .slice none 0 0, .int .i64 0, .string noB, .string noB, .int .i64 0, .slice none 0 0], .bool false]) (by simp [results, Try.results59, go_sem, c0]) rfl ?_
    exact ⟨_, rfl, IsMd.zero, HB2.out⟩
  · rw [Nat.zero_add] at hF
    have HF := Lib.hid hF
    have him : i < m := by rw [← hl]; exact (List.getElem?_eq_some_iff.1 hy).1
    obtain ⟨a, c, rfl, hlc, hc, hyy⟩ := hrow i y hy
    have HYY := Lib.hid hyy
    obtain ⟨o1, k1, ia, p1, q1, ib, o2, le, k2, rfl⟩ := hyy.expl
    have hcc := fun j u h => cells_below HW0.out _ u (hc j u h)
    have e0 := at0 (hcc 0 _ rfl)
    have e1 := atS (hcc 1 _ rfl)
    have e2 := atS (hcc 2 _ rfl)
    have e3 := atS (hcc 3 _ rfl)
    have e4 := atS (hcc 4 _ rfl)
    have e5 := atS (hcc 5 _ rfl)
    have e6 := atS (hcc 6 _ rfl)
    have hi0 : (0 : Int) ≤ (i : Int) := by omega
    have hi1 : (i : Int) < (m : Int) := by omega
    rw [hH]
    clear hF hH hrow hyy hc hcc hy hlc
    go_enter Try.func59, Try.ntmps59
    go_upto_region 1 with fail
    change Code.wp Try.prog _ _ _ (w.alloc (.cells #[.string noB, .slice none 0 0, .int .i64 0, .string noB, .string noB, .int .i64 0, .slice none 0 0] 50))
    rw [HW2.out]
    have c0 := K0.out.cell
    have f0 := K0.out.frozen
    go_wp2_with (refine sg.wpList_look_ok W2 sg.mkI rfl _ _ rfl bM m _ rfl HM.out x rfl HX.out ?_; rw [HF.out, found_some])
    refine bodyPost_ret (v := .tuple #[.agg #[.string y.name, .slice o1 y.params.length k1, .int .i64 ia, .string p1, .string q1, .int .i64 ib, .slice o2 le k2], .bool true]) (by simp [results, Try.results59, go_sem, c0]) rfl ?_
    exact ⟨_, rfl, HYY.out, below7 HB2.out (Nat.le_refl _) _ _ _ _ _ _ _⟩
end Go.Proofs.Ytmnhilgifjaocaa
