/-
  The statements' head: calls whose answers the chapter fixes. No condition.
-/
import Derived.Test.YtlakmniaocpaaaaM23
import Derived.Deep.RegionHeld
namespace Go.Proofs.Ytlakmniaocpaaaa
open Go.RowKit
open Go.Lib hiding intOf
def mthA : MD := ⟨b1 109, [], leafY 1 ⟨#[]⟩ ⟨#[]⟩ 0⟩
def scpA : SCP := ⟨[⟨b1 97, [⟨b1 84, true, [], [mthA]⟩, ⟨b1 73, false, [], [mthA]⟩]⟩], []⟩
def typA (n : UInt8) : GY := leafY 4 (b1 97) (b1 n) 0
def numA : GY := leafY 1 ⟨#[]⟩ ⟨#[]⟩ 0
def parA : GY := leafY 6 ⟨#[]⟩ (b1 80) 0
def lstA (y : GY) : GY := .mk 5 ⟨#[]⟩ ⟨#[]⟩ 0 [y]
def fnA : FN := ⟨⟨#[]⟩, [typA 73], [parA, lstA parA], parA⟩
theorem sayA1 : callT fnA.bounds fnA.params fnA.result [typA 84, lstA (typA 84)] = typA 84 := by rfl
theorem sayA2 : callE scpA fnA.bounds fnA.params [typA 84, lstA (typA 84)] = [] := by decide +kernel
theorem sayA3 : callE scpA fnA.bounds fnA.params [numA, lstA numA] = [(-1, 15)] := by decide +kernel
theorem sayA4 : callE scpA fnA.bounds fnA.params [typA 84, lstA numA] = [(1, 11)] := by decide +kernel
theorem fitLeaf (k : Int) (p m : ByteArray) (n : Int) (hp : p.size ≤ 140737488351232) (hm : m.size ≤ 140737488351232) : FitY 140737488351232 (leafY k p m n) := by
  unfold leafY FitY FitYs
  exact ⟨hp, hm, by decide, trivial⟩
theorem fitLst {y : GY} (h : FitY 140737488351232 y) : FitY 140737488351232 (lstA y) := by
  unfold lstA FitY FitYs FitYs
  exact ⟨by decide, by decide, by simp, h, trivial⟩
theorem fitTwo {x y : GY} (hx : FitY 140737488351232 x) (hy : FitY 140737488351232 y) : FitYs 140737488351232 [x, y] := by
  unfold FitYs FitYs FitYs
  exact ⟨hx, hy, trivial⟩
theorem fitScA : FitS 140737488351232 scpA := by
  have hm : FitM 140737488351232 mthA := by
    refine ⟨by decide, ?_, by decide, fitLeaf _ _ _ _ (by decide) (by decide)⟩
    show FitYs _ []
    unfold FitYs; trivial
  refine ⟨fun p hp d hd => ?_, ?_⟩
  · obtain rfl := List.mem_singleton.1 hp
    simp only [List.mem_cons, List.not_mem_nil, or_false] at hd
    rcases hd with rfl | rfl
    · exact ⟨by decide, fun f hf => (nomatch hf), by decide, fun m hm' => by obtain rfl := List.mem_singleton.1 hm'; exact hm, by decide⟩
    · exact ⟨by decide, fun f hf => (nomatch hf), by decide, fun m hm' => by obtain rfl := List.mem_singleton.1 hm'; exact hm, by decide⟩
  · show FitYs _ []
    unfold FitYs; trivial
theorem wfA : WfYs fnA.params := by
  show WfYs [parA, lstA parA]
  have h : WfY parA := by unfold parA leafY WfY WfYs; exact ⟨by decide, trivial⟩
  unfold WfYs WfYs WfYs
  refine ⟨h, ?_, trivial⟩
  unfold lstA WfY WfYs WfYs
  exact ⟨by decide, h, trivial⟩
theorem cntA : cntYs fnA.params ≤ 1000000 := by decide +kernel

-- made by genixi.py
theorem row1A {α : Type} {n : Nat} {P : World → α → List Value → Prop} {W : World} {k : Nat} {t : TypeId} {c : List Value} {x : α} (b : Blk W k t c.toArray) (hc : c.length = n) (hP : P W x c) : IsRow n P W (some ⟨k, 0, none⟩) [x] := fun i y hy => by
  have hi : i = 0 := by have := (List.getElem?_eq_some_iff.1 hy).1; simpa using this
  subst hi
  obtain rfl : x = y := by simpa using hy
  refine ⟨_, c, rfl, hc, fun j u hu => ?_, hP⟩
  rw [show ((⟨k, 0, none⟩ : Addr).add (0 * n)).add j = ⟨k, j, none⟩ by unfold Addr.add; split <;> split <;> simp_all, b.cell]
  simpa using hu
theorem row2A {α : Type} {P : World → α → List Value → Prop} {W : World} {k : Nat} {t : TypeId} {a0 a1 a2 a3 b0 b1 b2 b3 : Value} {x y : α} (b : Blk W k t #[a0, a1, a2, a3, b0, b1, b2, b3]) (hx : P W x [a0, a1, a2, a3]) (hy : P W y [b0, b1, b2, b3]) : IsRow 4 P W (some ⟨k, 0, none⟩) [x, y] := fun i v hv => by
  have ad : ∀ i j, ((⟨k, 0, none⟩ : Addr).add i).add j = ⟨k, i + j, none⟩ := fun i j => by unfold Addr.add; split <;> split <;> simp_all
  match i, hv with
  | 0, hv =>
    obtain rfl : x = v := by simpa using hv
    refine ⟨_, _, rfl, rfl, fun j u hu => ?_, hx⟩
    rw [ad, b.cell]
    match j, hu with
    | 0, hu => exact hu
    | 1, hu => exact hu
    | 2, hu => exact hu
    | 3, hu => exact hu
    | j + 4, hu => simp at hu
  | 1, hv =>
    obtain rfl : y = v := by simpa using hv
    refine ⟨_, _, rfl, rfl, fun j u hu => ?_, hy⟩
    rw [ad, b.cell]
    match j, hu with
    | 0, hu => exact hu
    | 1, hu => exact hu
    | 2, hu => exact hu
    | 3, hu => exact hu
    | j + 4, hu => simp at hu
  | i + 2, hv => simp at hv
theorem scA_is {W : World} {G H K Q : Nat} (g : Blk W G 54 #[.string (b1 109), .slice none 0 0, .int .i64 1, .string ⟨#[]⟩, .string ⟨#[]⟩, .int .i64 0, .slice none 0 0]) (h : Blk W H 54 #[.string (b1 109), .slice none 0 0, .int .i64 1, .string ⟨#[]⟩, .string ⟨#[]⟩, .int .i64 0, .slice none 0 0]) (k : Blk W K 58 #[.string (b1 84), .bool true, .slice none 0 0, .slice (some ⟨G, 0, none⟩) 1 1, .string (b1 73), .bool false, .slice none 0 0, .slice (some ⟨H, 0, none⟩) 1 1]) (r : Blk W Q 62 #[.string (b1 97), .slice (some ⟨K, 0, none⟩) 2 2, .slice none 0 0]) : IsSc W scpA [.slice (some ⟨Q, 0, none⟩) 1 1, .slice none 0 0, .slice none 0 0, .slice none 0 0, .slice none 0 0] := by
  have hm : IsMd W mthA [.string (b1 109), .slice none 0 0, .int .i64 1, .string ⟨#[]⟩, .string ⟨#[]⟩, .int .i64 0, .slice none 0 0] := ⟨_, _, _, _, _, _, _, rfl, Nat.le_refl _, by decide, IsYs.nil _ _ _, leaf_is W 1 _ _ _⟩
  have ht : IsTd W ⟨b1 84, true, [], [mthA]⟩ [.string (b1 84), .bool true, .slice none 0 0, .slice (some ⟨G, 0, none⟩) 1 1] := ⟨_, _, _, _, rfl, Nat.le_refl _, by decide, Nat.le_refl _, by decide, IsRow.nil, row1A g rfl hm⟩
  have hi : IsTd W ⟨b1 73, false, [], [mthA]⟩ [.string (b1 73), .bool false, .slice none 0 0, .slice (some ⟨H, 0, none⟩) 1 1] := ⟨_, _, _, _, rfl, Nat.le_refl _, by decide, Nat.le_refl _, by decide, IsRow.nil, row1A h rfl hm⟩
  have hq : IsIf W ⟨b1 97, [⟨b1 84, true, [], [mthA]⟩, ⟨b1 73, false, [], [mthA]⟩]⟩ [.string (b1 97), .slice (some ⟨K, 0, none⟩) 2 2, .slice none 0 0] := ⟨_, _, _, _, _, rfl, Nat.le_refl _, by decide, row2A k ht hi⟩
  exact ⟨_, _, _, _, _, _, _, _, _, _, _, _, _, rfl, Nat.le_refl _, by decide, Nat.le_refl _, by decide, row1A r rfl hq, IsYs.nil _ _ _, fun h => by cases h⟩
theorem fnA_is {W : World} {gB gP gl : Nat} (b : Blk W gB 34 #[.int .i64 4, .string (b1 97), .string (b1 73), .int .i64 0, .slice none 0 0]) (p : Blk W gP 34 #[.int .i64 6, .string ⟨#[]⟩, .string (b1 80), .int .i64 0, .slice none 0 0, .int .i64 5, .string ⟨#[]⟩, .string ⟨#[]⟩, .int .i64 0, .slice (some ⟨gl, 0, none⟩) 1 1]) (hl : IsY W (lstA parA) (.agg #[.int .i64 5, .string ⟨#[]⟩, .string ⟨#[]⟩, .int .i64 0, .slice (some ⟨gl, 0, none⟩) 1 1])) : IsFn W fnA [.string ⟨#[]⟩, .slice (some ⟨gB, 0, none⟩) 1 1, .slice (some ⟨gP, 0, none⟩) 2 2, .int .i64 6, .string ⟨#[]⟩, .string (b1 80), .int .i64 0, .slice none 0 0] :=
  ⟨_, _, _, _, _, _, _, _, _, _, _, rfl, Nat.le_refl _, by decide, Nat.le_refl _, by decide, ys_one b (leaf_is W 4 _ _ _), ys_two p (leaf_is W 6 _ _ _) hl, leaf_is W 6 _ _ _⟩
theorem sizeF8 : (Try.prog.info? 36).map (·.size) = some 8 := by kernel_rfl
theorem fnA_below {W W' : World} {c : List Value} (h : IsFn W fnA c) (hb : Below W.heap.size W W') : IsFn W' fnA c := by
  obtain ⟨oB, kB, oP, kP, ra, rp, rq, rn, ro, re, rk, h1, h2, h3, h4, h5, h6, h7, h8⟩ := h
  exact ⟨oB, kB, oP, kP, ra, rp, rq, rn, ro, re, rk, h1, h2, h3, h4, h5, h6.below hb, h7.below hb, h8.below hb⟩
theorem hlA : fnA.params.length ≤ 100 := by decide
theorem fitTA : FitY 140737488351232 (typA 84) := fitLeaf 4 (b1 97) (b1 84) 0 (by decide) (by decide)
theorem fitNA : FitY 140737488351232 numA := fitLeaf 1 ⟨#[]⟩ ⟨#[]⟩ 0 (by decide) (by decide)
theorem fitPA : FitY 140737488351232 parA := fitLeaf 6 ⟨#[]⟩ (b1 80) 0 (by decide) (by decide)
theorem fitAP : FitYs 140737488351232 fnA.params := fitTwo (x := parA) (y := lstA parA) fitPA (fitLst fitPA)
theorem fitAR : FitY 140737488351232 fnA.result := fitPA
theorem fitA1 : FitYs 140737488351232 [typA 84, lstA (typA 84)] := fitTwo fitTA (fitLst fitTA)
theorem fitA2 : FitYs 140737488351232 [numA, lstA numA] := fitTwo fitNA (fitLst fitNA)
theorem fitA3 : FitYs 140737488351232 [typA 84, lstA numA] := fitTwo fitTA (fitLst fitNA)
theorem callA1 (cs cf : List Value) (gr gl : Nat) (W : World) (hs : IsSc W scpA cs) (hf : IsFn W fnA cf) (hr : Blk W gr 34 #[.int .i64 4, .string (b1 97), .string (b1 84), .int .i64 0, .slice none 0 0, .int .i64 5, .string ⟨#[]⟩, .string ⟨#[]⟩, .int .i64 0, .slice (some ⟨gl, 0, none⟩) 1 1]) (hl : IsY W (lstA (typA 84)) (.agg #[.int .i64 5, .string ⟨#[]⟩, .string ⟨#[]⟩, .int .i64 0, .slice (some ⟨gl, 0, none⟩) 1 1])) :
    Calls Try.prog 17 #[.agg cs.toArray, .agg cf.toArray, .slice (some ⟨gr, 0, none⟩) 2 2] W fun e w' => ∃ (ou : Option Addr) (ku : Nat) (ov : Option Addr) (kv : Nat), e = .returned (.tuple #[.agg #[.int .i64 4, .string (b1 97), .string (b1 84), .int .i64 0, .slice ou 0 ku], .slice ov 0 kv]) ∧ Below W.heap.size W w' := by
  have hy : IsYs W (some ⟨gr, 0, none⟩) 0 [typA 84, (lstA (typA 84))] := ys_two hr (leaf_is W _ _ _ _) hl
  refine (callP_any 140737488351232 (by decide) scpA fnA [typA 84, (lstA (typA 84))] cs cf (some ⟨gr, 0, none⟩) 2 W W hs fitScA hf hy (Nat.le_refl 2) (by decide) (Below.refl _ _) hlA wfA cntA fitA1 fitAP fitAR).mono ?_
  rintro e X ⟨u, v, rfl, hu, hv, hb⟩
  rw [sayA2] at hv
  rw [sayA1] at hu
  obtain ⟨ou, ku, rfl, _⟩ := IsY.parts (show IsY X (.mk 4 (b1 97) (b1 84) 0 []) u from hu)
  obtain ⟨ov, kv, rfl, _⟩ := hv
  exact ⟨ou, ku, ov, kv, rfl, hb⟩
theorem callA2 (cs cf : List Value) (gr gl : Nat) (W : World) (hs : IsSc W scpA cs) (hf : IsFn W fnA cf) (hr : Blk W gr 34 #[.int .i64 1, .string ⟨#[]⟩, .string ⟨#[]⟩, .int .i64 0, .slice none 0 0, .int .i64 5, .string ⟨#[]⟩, .string ⟨#[]⟩, .int .i64 0, .slice (some ⟨gl, 0, none⟩) 1 1]) (hl : IsY W (lstA numA) (.agg #[.int .i64 5, .string ⟨#[]⟩, .string ⟨#[]⟩, .int .i64 0, .slice (some ⟨gl, 0, none⟩) 1 1])) :
    Calls Try.prog 17 #[.agg cs.toArray, .agg cf.toArray, .slice (some ⟨gr, 0, none⟩) 2 2] W fun e w' => ∃ (ua un : Int) (up uq : ByteArray) (uo : Option Addr) (ue uk : Nat) (ov : Option Addr) (kv : Nat), e = .returned (.tuple #[.agg #[.int .i64 ua, .string up, .string uq, .int .i64 un, .slice uo ue uk], .slice ov 1 kv]) ∧ IsEs w' [(-1, 15)] (.slice ov 1 kv) ∧ Below W.heap.size W w' := by
  have hy : IsYs W (some ⟨gr, 0, none⟩) 0 [numA, (lstA numA)] := ys_two hr (leaf_is W _ _ _ _) hl
  refine (callP_any 140737488351232 (by decide) scpA fnA [numA, (lstA numA)] cs cf (some ⟨gr, 0, none⟩) 2 W W hs fitScA hf hy (Nat.le_refl 2) (by decide) (Below.refl _ _) hlA wfA cntA fitA2 fitAP fitAR).mono ?_
  rintro e X ⟨u, v, rfl, hu, hv, hb⟩
  rw [sayA3] at hv
  obtain ⟨ua, un, up, uq, uo, ue, uk, rfl⟩ := hu.expl
  have hv2 := hv
  obtain ⟨ov, kv, rfl, _⟩ := hv
  exact ⟨ua, un, up, uq, uo, ue, uk, ov, kv, rfl, hv2, hb⟩
theorem callA3 (cs cf : List Value) (gr gl : Nat) (W : World) (hs : IsSc W scpA cs) (hf : IsFn W fnA cf) (hr : Blk W gr 34 #[.int .i64 4, .string (b1 97), .string (b1 84), .int .i64 0, .slice none 0 0, .int .i64 5, .string ⟨#[]⟩, .string ⟨#[]⟩, .int .i64 0, .slice (some ⟨gl, 0, none⟩) 1 1]) (hl : IsY W (lstA numA) (.agg #[.int .i64 5, .string ⟨#[]⟩, .string ⟨#[]⟩, .int .i64 0, .slice (some ⟨gl, 0, none⟩) 1 1])) :
    Calls Try.prog 17 #[.agg cs.toArray, .agg cf.toArray, .slice (some ⟨gr, 0, none⟩) 2 2] W fun e w' => ∃ (ua un : Int) (up uq : ByteArray) (uo : Option Addr) (ue uk : Nat) (ov : Option Addr) (kv : Nat), e = .returned (.tuple #[.agg #[.int .i64 ua, .string up, .string uq, .int .i64 un, .slice uo ue uk], .slice ov 1 kv]) ∧ IsEs w' [(1, 11)] (.slice ov 1 kv) ∧ Below W.heap.size W w' := by
  have hy : IsYs W (some ⟨gr, 0, none⟩) 0 [typA 84, (lstA numA)] := ys_two hr (leaf_is W _ _ _ _) hl
  refine (callP_any 140737488351232 (by decide) scpA fnA [typA 84, (lstA numA)] cs cf (some ⟨gr, 0, none⟩) 2 W W hs fitScA hf hy (Nat.le_refl 2) (by decide) (Below.refl _ _) hlA wfA cntA fitA3 fitAP fitAR).mono ?_
  rintro e X ⟨u, v, rfl, hu, hv, hb⟩
  rw [sayA4] at hv
  obtain ⟨ua, un, up, uq, uo, ue, uk, rfl⟩ := hu.expl
  have hv2 := hv
  obtain ⟨ov, kv, rfl, _⟩ := hv
  exact ⟨ua, un, up, uq, uo, ue, uk, ov, kv, rfl, hv2, hb⟩
theorem at00 {w : World} {a : Addr} {n : Nat} {u : Value} (h : w.cell? ((a.add 0).add n) = some u) : w.cell? (a.add n) = some u := by
  rwa [show a.add 0 = a by unfold Addr.add; split <;> simp_all] at h
theorem es_below {W W' : World} {l : List (Int × Int)} {v : Value} (h : IsEs W l v) (hb : Below W.heap.size W W') : IsEs W' l v := by
  obtain ⟨o, c, h1, h2, h3, h4⟩ := h
  exact ⟨o, c, h1, h2, h3, fun i x hx => by
    obtain ⟨a, d, e1, e2, e3, e4⟩ := h4 i x hx
    exact ⟨a, d, e1, e2, mvc hb e3, e4⟩⟩
theorem es_row {W : World} {l : List (Int × Int)} {v : Value} {g : Nat} (h : IsEs W l v) (hl : ∀ x ∈ l, x.1 ≠ 0 ∧ x.2 ≠ 0) (hg : Blk W g 34 #[.int .i64 0, .string ⟨#[]⟩, .string ⟨#[]⟩, .int .i64 0, .slice none 0 0]) (ds : Array Value) : IsEs (W.setRow g ds) l v := by
  obtain ⟨o, c, h1, h2, h3, h4⟩ := h
  have key : ∀ (p : Addr) (n : Int), n ≠ 0 → W.cell? p = some (.int .i64 n) → (W.setRow g ds).cell? p = some (.int .i64 n) := fun p n hn hp => by
    refine (World.cell?_of_block (setRow_other W g p.block ds fun e => ?_)).trans hp
    unfold World.cell? at hp
    unfold Blk at hg
    rw [e, hg] at hp
    simp only at hp
    split at hp
    · cases hp
    · match p.off, hp with
      | 0, hp => simp at hp; exact hn hp.symm
      | 1, hp => simp at hp
      | 2, hp => simp at hp
      | 3, hp => simp at hp; exact hn hp.symm
      | 4, hp => simp at hp
      | k + 5, hp => simp at hp
  refine ⟨o, c, h1, h2, h3, fun i x hx => ?_⟩
  obtain ⟨a, d, e1, e2, e3, rfl⟩ := h4 i x hx
  obtain ⟨n1, n2⟩ := hl x (List.mem_of_getElem? hx)
  refine ⟨a, _, e1, e2, fun j u hu => ?_, rfl⟩
  have h0 := e3 j u hu
  match j, hu with
  | 0, hu => obtain rfl : Value.int .i64 x.1 = u := by simpa using hu
             exact key _ _ n1 h0
  | 1, hu => obtain rfl : Value.int .i64 x.2 = u := by simpa using hu
             exact key _ _ n2 h0
  | j + 2, hu => simp at hu
set_option maxRecDepth 100000 in
set_option maxHeartbeats 32000000 in
theorem awake_any (w : World) : Calls Try.prog 10 #[] w fun e w' => e = .returned (.bool true) ∧ Below w.heap.size w w' := by
  go_enter Try.func10, Try.ntmps10
  go_wp2_with fail
  obtain ⟨V1, hV1⟩ : ∃ V1, ((((((w.alloc (.cells #[.string (b1 109), .slice none 0 0, .int .i64 1, .string ⟨#[]⟩, .string ⟨#[]⟩, .int .i64 0, .slice none 0 0] 54)).alloc (.cells #[.string (b1 109), .slice none 0 0, .int .i64 1, .string ⟨#[]⟩, .string ⟨#[]⟩, .int .i64 0, .slice none 0 0] 54)).alloc (.cells #[.string (b1 109), .slice none 0 0, .int .i64 1, .string ⟨#[]⟩, .string ⟨#[]⟩, .int .i64 0, .slice none 0 0] 54)).alloc (.cells #[.string (b1 84), .bool true, .slice none 0 0, .slice (some ⟨w.heap.size + 1, 0, none⟩) 1 1, .string (b1 73), .bool false, .slice none 0 0, .slice (some ⟨w.heap.size + 1 + 1, 0, none⟩) 1 1] 58)).alloc (.cells #[.string (b1 97), .slice (some ⟨w.heap.size + 1 + 1 + 1, 0, none⟩) 2 2, .slice none 0 0] 62)).alloc (.cells #[.slice (some ⟨w.heap.size + 1 + 1 + 1 + 1, 0, none⟩) 1 1, .slice none 0 0, .slice none 0 0, .slice none 0 0, .slice none 0 0] 32)) = V1 := ⟨_, rfl⟩
  have b1' : Blk V1 (w.heap.size + 1) 54 #[.string (b1 109), .slice none 0 0, .int .i64 1, .string ⟨#[]⟩, .string ⟨#[]⟩, .int .i64 0, .slice none 0 0] := by rw [← hV1]; exact bkA (bkA (bkA (bkA (bkN (by simp) _ _) _) _) _) _
  have b2' : Blk V1 (w.heap.size + 1 + 1) 54 #[.string (b1 109), .slice none 0 0, .int .i64 1, .string ⟨#[]⟩, .string ⟨#[]⟩, .int .i64 0, .slice none 0 0] := by rw [← hV1]; exact bkA (bkA (bkA (bkN (by simp) _ _) _) _) _
  have b3' : Blk V1 (w.heap.size + 1 + 1 + 1) 58 #[.string (b1 84), .bool true, .slice none 0 0, .slice (some ⟨w.heap.size + 1, 0, none⟩) 1 1, .string (b1 73), .bool false, .slice none 0 0, .slice (some ⟨w.heap.size + 1 + 1, 0, none⟩) 1 1] := by rw [← hV1]; exact bkA (bkA (bkN (by simp) _ _) _) _
  have b4' : Blk V1 (w.heap.size + 1 + 1 + 1 + 1) 62 #[.string (b1 97), .slice (some ⟨w.heap.size + 1 + 1 + 1, 0, none⟩) 2 2, .slice none 0 0] := by rw [← hV1]; exact bkA (bkN (by simp) _ _) _
  have b5' : Blk V1 (w.heap.size + 1 + 1 + 1 + 1 + 1) 32 #[.slice (some ⟨w.heap.size + 1 + 1 + 1 + 1, 0, none⟩) 1 1, .slice none 0 0, .slice none 0 0, .slice none 0 0, .slice none 0 0] := by rw [← hV1]; exact bkN (by simp) _ _
  have hw1 : Below w.heap.size w V1 := by
    rw [← hV1]
    exact ((((((Below.refl _ w).alloc (Nat.le_refl _) _).alloc (by simp) _).alloc (by simp; omega) _).alloc (by simp; omega) _).alloc (by simp; omega) _).alloc (by simp; omega) _
  have HSC1 := Lib.hid (scA_is b1' b2' b3' b4')
  have HBS1 := Lib.hid b5'
  have HW1 := Lib.hid hw1
  have HV1 := Lib.hid hV1
  clear b1' b2' b3' b4' b5' hw1 hV1
  change Calls _ _ _ ((((((w.alloc (.cells #[.string (b1 109), .slice none 0 0, .int .i64 1, .string ⟨#[]⟩, .string ⟨#[]⟩, .int .i64 0, .slice none 0 0] 54)).alloc (.cells #[.string (b1 109), .slice none 0 0, .int .i64 1, .string ⟨#[]⟩, .string ⟨#[]⟩, .int .i64 0, .slice none 0 0] 54)).alloc (.cells #[.string (b1 109), .slice none 0 0, .int .i64 1, .string ⟨#[]⟩, .string ⟨#[]⟩, .int .i64 0, .slice none 0 0] 54)).alloc (.cells #[.string (b1 84), .bool true, .slice none 0 0, .slice (some ⟨w.heap.size + 1, 0, none⟩) 1 1, .string (b1 73), .bool false, .slice none 0 0, .slice (some ⟨w.heap.size + 1 + 1, 0, none⟩) 1 1] 58)).alloc (.cells #[.string (b1 97), .slice (some ⟨w.heap.size + 1 + 1 + 1, 0, none⟩) 2 2, .slice none 0 0] 62)).alloc (.cells #[.slice (some ⟨w.heap.size + 1 + 1 + 1 + 1, 0, none⟩) 1 1, .slice none 0 0, .slice none 0 0, .slice none 0 0, .slice none 0 0] 32)) _
  rw [HV1.out]
  refine (named_call _ _).mono ?_
  rintro e X1 ⟨rfl, hb1⟩
  have HX1 := Lib.hid hb1
  clear hb1
  go_wp2_with fail
  refine (param_call _ _).mono ?_
  rintro e X2 ⟨rfl, hb2⟩
  have hk2 : Below X1.heap.size X1 X2 := stepB ((Below.refl _ X1).alloc (Nat.le_refl _) _) hb2 (Nat.le_refl _)
  have hB2 : Blk X2 X1.heap.size 34 #[.int .i64 4, .string (b1 97), .string (b1 73), .int .i64 0, .slice none 0 0] := blkB (bkN rfl _ _) hb2
  have HX2 := Lib.hid hk2
  have HB2 := Lib.hid hB2
  clear hb2 hk2 hB2
  go_wp2_with fail
  refine (param_call _ _).mono ?_
  rintro e X3 ⟨rfl, hb3⟩
  have HX3 := Lib.hid hb3
  clear hb3
  go_wp2_with fail
  refine (list_call parA _ X3 (leaf_is X3 6 _ _ _)).mono ?_
  rintro e X4 ⟨gl, _, rfl, hl4, hb4⟩
  have HX4 := Lib.hid hb4
  have HL4 := Lib.hid hl4
  clear hb4 hl4
  go_wp2_with fail
  refine (param_call _ _).mono ?_
  rintro e X5 ⟨rfl, hb5⟩
  have hk5 : Below X4.heap.size X4 X5 := stepB ((Below.refl _ X4).alloc (Nat.le_refl _) _) hb5 (Nat.le_refl _)
  have hB5 : Blk X5 X4.heap.size 34 #[.int .i64 6, .string ⟨#[]⟩, .string (b1 80), .int .i64 0, .slice none 0 0, .int .i64 5, .string ⟨#[]⟩, .string ⟨#[]⟩, .int .i64 0, .slice (some ⟨gl, 0, none⟩) 1 1] := blkB (bkN rfl _ _) hb5
  have HX5 := Lib.hid hk5
  have HB5 := Lib.hid hB5
  clear hb5 hk5 hB5
  obtain ⟨gB, hgB⟩ : ∃ gB, X1.heap.size = gB := ⟨_, rfl⟩
  obtain ⟨gP, hgP⟩ : ∃ gP, X4.heap.size = gP := ⟨_, rfl⟩
  have h25 : Below X2.heap.size X2 X5 := stepB HX3.out (stepB HX4.out HX5.out (Nat.le_refl _)) (Nat.le_refl _)
  have h15 : Below X1.heap.size X1 X5 := stepB HX2.out h25 (Nat.le_refl _)
  have hV5 : Below V1.heap.size V1 X5 := stepB HX1.out h15 (Nat.le_refl _)
  have bb : Blk X5 gB 34 #[.int .i64 4, .string (b1 97), .string (b1 73), .int .i64 0, .slice none 0 0] := by rw [← hgB]; exact blkB HB2.out h25
  have bp : Blk X5 gP 34 #[.int .i64 6, .string ⟨#[]⟩, .string (b1 80), .int .i64 0, .slice none 0 0, .int .i64 5, .string ⟨#[]⟩, .string ⟨#[]⟩, .int .i64 0, .slice (some ⟨gl, 0, none⟩) 1 1] := by rw [← hgP]; exact HB5.out
  rw [hgB, hgP]
  obtain ⟨fb, hfb⟩ : ∃ fb, X5.heap.size = fb := ⟨_, rfl⟩
  obtain ⟨V, hV⟩ : ∃ V, (X5.alloc (.cells #[.string ⟨#[]⟩, .slice (some ⟨gB, 0, none⟩) 1 1, .slice (some ⟨gP, 0, none⟩) 2 2, .int .i64 6, .string ⟨#[]⟩, .string (b1 80), .int .i64 0, .slice none 0 0] 36)).alloc (.cells #[.int .i64 1, .string ⟨#[]⟩, .string ⟨#[]⟩, .int .i64 0, .slice none 0 0] 34) = V := ⟨_, rfl⟩
  have hb5V : Below X5.heap.size X5 V := by rw [← hV]; exact ((Below.refl _ _).alloc (Nat.le_refl _) _).alloc (by simp) _
  have HSC := Lib.hid (HSC1.out.below (stepB hV5 hb5V (Nat.le_refl _)))
  have HBS := Lib.hid (blkB HBS1.out (stepB hV5 hb5V (Nat.le_refl _)))
  have HFN := Lib.hid (fnA_below (fnA_is bb bp (HL4.out.below HX5.out)) hb5V)
  have HBF : Hid (Blk V fb 36 #[.string ⟨#[]⟩, .slice (some ⟨gB, 0, none⟩) 1 1, .slice (some ⟨gP, 0, none⟩) 2 2, .int .i64 6, .string ⟨#[]⟩, .string (b1 80), .int .i64 0, .slice none 0 0]) := by show Blk _ _ _ _; rw [← hV]; exact bkA (bkN hfb _ _) _
  have HBN : Hid (Blk V (fb + 1) 34 #[.int .i64 1, .string ⟨#[]⟩, .string ⟨#[]⟩, .int .i64 0, .slice none 0 0]) := by show Blk _ _ _ _; rw [← hV]; exact bkN (by simp [hfb]) _ _
  have HWV := Lib.hid (stepB (stepB HW1.out hV5 (Nat.le_refl _)) hb5V (Nat.le_refl _))
  have HV := Lib.hid hV
  have HFB := Lib.hid hfb
  clear hgB hgP h25 h15 hV5 bb bp hfb hV hb5V HSC1 HBS1 HW1 HV1 HX1 HX2 HB2 HX3 HX4 HL4 HX5 HB5
  go_wp2_with fail
  change Code.wp _ _ _ _ ((X5.alloc (.cells #[.string ⟨#[]⟩, .slice (some ⟨gB, 0, none⟩) 1 1, .slice (some ⟨gP, 0, none⟩) 2 2, .int .i64 6, .string ⟨#[]⟩, .string (b1 80), .int .i64 0, .slice none 0 0] 36)).alloc (.cells #[.int .i64 1, .string ⟨#[]⟩, .string ⟨#[]⟩, .int .i64 0, .slice none 0 0] 34))
  rw [HV.out, HFB.out]
  clear HV HFB
  go_cut [5, 6] from 32 to 41 (fun v5 v6 wx => ∃ (g5 : Nat) (ou : Option Addr) (ku : Nat) (ov : Option Addr) (kv : Nat), v5 = .pointer (some ⟨g5, 0, none⟩) ∧ v6 = .slice ov 0 kv ∧ Hid (Blk wx g5 34 #[.int .i64 4, .string (b1 97), .string (b1 84), .int .i64 0, .slice ou 0 ku]) ∧ Hid (Below V.heap.size V wx))
  case first =>
    have hS0 : (fun w' : World => Below V.heap.size V w') V.drew := (Below.refl _ _).drew
    refine wp_region_held_drew (S := (fun w' : World => Below V.heap.size V w')) (by kernel_rfl) hS0 fun hS0 => ?_
    refine wpAnyH_take (i := 0) (v := .agg #[.slice (some ⟨w.heap.size + 1 + 1 + 1 + 1, 0, none⟩) 1 1, .slice none 0 0, .slice none 0 0, .slice none 0 0, .slice none 0 0]) rfl (by kernel_rfl) (by kernel_rfl) (by kernel_rfl) (fun _ _ _ h => h) (Or.inl ⟨by kernel_rfl, fun w' hw' => ?_⟩) hS0 ?_
    · exact run_loadG 32 5 sizeS5 Try.underlying32 _ rfl ⟨w.heap.size + 1 + 1 + 1 + 1 + 1, 0, none⟩ (by kernel_rfl) (cs := [.slice (some ⟨w.heap.size + 1 + 1 + 1 + 1, 0, none⟩) 1 1, .slice none 0 0, .slice none 0 0, .slice none 0 0, .slice none 0 0]) (bk0 (blkB HBS.out hw')) rfl
    refine wpAnyH_take (i := 1) (v := .agg #[.string ⟨#[]⟩, .slice (some ⟨gB, 0, none⟩) 1 1, .slice (some ⟨gP, 0, none⟩) 2 2, .int .i64 6, .string ⟨#[]⟩, .string (b1 80), .int .i64 0, .slice none 0 0]) rfl (by kernel_rfl) (by kernel_rfl) (by kernel_rfl) (fun _ _ _ h => h) (Or.inl ⟨by kernel_rfl, fun w' hw' => ?_⟩) hS0 ?_
    · exact run_loadG 36 8 sizeF8 Try.underlying36 _ rfl ⟨fb, 0, none⟩ (by kernel_rfl) (cs := [.string ⟨#[]⟩, .slice (some ⟨gB, 0, none⟩) 1 1, .slice (some ⟨gP, 0, none⟩) 2 2, .int .i64 6, .string ⟨#[]⟩, .string (b1 80), .int .i64 0, .slice none 0 0]) (bk0 (blkB HBF.out hw')) rfl
    obtain ⟨V0, hV0⟩ : ∃ V0, V.drew = V0 := ⟨_, rfl⟩
    rw [hV0] at hS0 ⊢
    clear hV0
    refine wpAnyH_ready (rs := [2, 10]) (by kernel_rfl) (by simp) (AllReadyH.cons rfl (fun KK hK => ?_) (AllReadyH.cons rfl (fun KK hK => ?_) AllReadyH.nil))
    · go_simp
      refine (named_call _ _).mono ?_
      rintro e X1 ⟨rfl, hb⟩
      have h2' := stepB hS0 hb (Nat.le_refl _)
      refine hK.out _ _ h2' (fun h2 => ?_)
      clear hb
      refine wpAnyH_ready (rs := [3, 10]) (by kernel_rfl) (by simp) (AllReadyH.cons rfl (fun KK hK => ?_) (AllReadyH.cons rfl (fun KK hK => ?_) AllReadyH.nil))
      · go_simp
        refine (named_call _ _).mono ?_
        rintro e X3 ⟨rfl, hb⟩
        have h4' := stepB h2 hb (Nat.le_refl _)
        refine hK.out _ _ h4' (fun h4 => ?_)
        clear hb
        refine wpAnyH_ready (rs := [4, 10]) (by kernel_rfl) (by simp) (AllReadyH.cons rfl (fun KK hK => ?_) (AllReadyH.cons rfl (fun KK hK => ?_) AllReadyH.nil))
        · go_simp
          refine (list_call (typA 84) _ _ (leaf_is _ _ _ _ _)).mono ?_
          rintro e X5 ⟨gl, _, rfl, hl, hb⟩
          have h6' := stepB h4 hb (Nat.le_refl _)
          have HLY := Lib.hid hl
          refine hK.out _ _ h6' (fun h6 => ?_)
          clear hb
          clear hl
          refine wpAnyH_ready (rs := [5, 10]) (by kernel_rfl) (by simp) (AllReadyH.cons rfl (fun KK hK => ?_) (AllReadyH.cons rfl (fun KK hK => ?_) AllReadyH.nil))
          · go_simp
            obtain ⟨X7, hX⟩ : ∃ X, X5.alloc (.cells #[.int .i64 4, .string (b1 97), .string (b1 84), .int .i64 0, .slice none 0 0, .int .i64 5, .string ⟨#[]⟩, .string ⟨#[]⟩, .int .i64 0, .slice (some ⟨gl, 0, none⟩) 1 1] 34) = X := ⟨_, rfl⟩
            have hr : Blk X7 X5.heap.size 34 #[.int .i64 4, .string (b1 97), .string (b1 84), .int .i64 0, .slice none 0 0, .int .i64 5, .string ⟨#[]⟩, .string ⟨#[]⟩, .int .i64 0, .slice (some ⟨gl, 0, none⟩) 1 1] := by rw [← hX]; exact bkN rfl _ _
            have hb : Below X5.heap.size X5 X7 := by rw [← hX]; exact (Below.refl _ _).alloc (Nat.le_refl _) _
            have h8' := stepB h6 hb (Nat.le_refl _)
            have HLY := Lib.hid (HLY.out.below hb)
            have HROW := Lib.hid hr
            refine hK.out _ _ (by rw [hX]; exact h8') (fun h8 => ?_)
            change wpAnyH Try.prog _ _ _ _ _ _ _ (X5.alloc (.cells #[.int .i64 4, .string (b1 97), .string (b1 84), .int .i64 0, .slice none 0 0, .int .i64 5, .string ⟨#[]⟩, .string ⟨#[]⟩, .int .i64 0, .slice (some ⟨gl, 0, none⟩) 1 1] 34))
            rw [hX] at h8 ⊢
            clear hX hr hb
            refine wpAnyH_ready (rs := [6, 10]) (by kernel_rfl) (by simp) (AllReadyH.cons rfl (fun KK hK => ?_) (AllReadyH.cons rfl (fun KK hK => ?_) AllReadyH.nil))
            · go_simp
              refine (callA1 _ _ _ gl X7 (HSC.out.below h8) (fnA_below HFN.out h8) HROW.out HLY.out).mono ?_
              rintro e X9 ⟨ou, ku, ov, kv, rfl, hb⟩
              have h10' := stepB h8 hb (Nat.le_refl _)
              have HLY := Lib.hid (HLY.out.below hb)
              have HROW := Lib.hid (blkB HROW.out hb)
              refine hK.out _ _ h10' (fun h10 => ?_)
              clear hb
              refine wpAnyH_take (i := 7) (v := .tuple #[.agg #[.int .i64 4, .string (b1 97), .string (b1 84), .int .i64 0, .slice ou 0 ku], .slice ov 0 kv]) rfl (by kernel_rfl) (by kernel_rfl) (by kernel_rfl) (fun _ _ _ h => h) (Or.inl ⟨by kernel_rfl, fun w' hw' => ?_⟩) h10 ?_
              · go_simp
              refine wpAnyH_take (i := 8) (v := .agg #[.int .i64 4, .string (b1 97), .string (b1 84), .int .i64 0, .slice ou 0 ku]) rfl (by kernel_rfl) (by kernel_rfl) (by kernel_rfl) (fun _ _ _ h => h) (Or.inl ⟨by kernel_rfl, fun w' hw' => ?_⟩) h10 ?_
              · go_simp
              refine wpAnyH_take (i := 9) (v := .slice ov 0 kv) rfl (by kernel_rfl) (by kernel_rfl) (by kernel_rfl) (fun _ _ _ h => h) (Or.inl ⟨by kernel_rfl, fun w' hw' => ?_⟩) h10 ?_
              · go_simp
              refine wpAnyH_ready (rs := [10]) (by kernel_rfl) (by simp) (AllReadyH.cons rfl (fun KK hK => ?_) AllReadyH.nil)
              go_simp
              refine hK.out _ _ (h10.alloc h10.size _) (fun h12 => ?_)
              obtain ⟨X11, hX⟩ : ∃ X, X9.alloc (.cells #[.int .i64 0, .string ⟨#[]⟩, .string ⟨#[]⟩, .int .i64 0, .slice none 0 0] 34) = X := ⟨_, rfl⟩
              have BX : Hid (Blk X11 X9.heap.size 34 #[.int .i64 0, .string ⟨#[]⟩, .string ⟨#[]⟩, .int .i64 0, .slice none 0 0]) := by rw [← hX]; exact bkN rfl _ _
              have hb : Below X9.heap.size X9 X11 := by rw [← hX]; exact (Below.refl _ _).alloc (Nat.le_refl _) _
              have hbx : V.heap.size ≤ X9.heap.size := h10.size
              change wpAnyH Try.prog _ _ _ _ _ _ _ (X9.alloc (.cells #[.int .i64 0, .string ⟨#[]⟩, .string ⟨#[]⟩, .int .i64 0, .slice none 0 0] 34))
              rw [hX] at h12 ⊢
              clear hX
              have HLY := Lib.hid (HLY.out.below hb)
              have HROW := Lib.hid (blkB HROW.out hb)
              clear hb
              refine wpAnyH_ready (rs := [11]) (by kernel_rfl) (by simp) (AllReadyH.cons rfl (fun KK hK => ?_) AllReadyH.nil)
              refine wp_store_row (P := Try.prog) 34 _ _ rfl X9.heap.size #[.int .i64 4, .string (b1 97), .string (b1 84), .int .i64 0, .slice ou 0 ku] (by kernel_rfl) (by kernel_rfl) 34 #[.int .i64 0, .string ⟨#[]⟩, .string ⟨#[]⟩, .int .i64 0, .slice none 0 0] BX.out (by rw [size5]; rfl) rfl (by simp [Value.oneCell']) ?_
              refine hK.out _ _ (below_setRow h12 hbx _) (fun hz => ?_)
              refine wpAnyH_take (i := 12) (v := .slice ov 0 kv) rfl (by kernel_rfl) (by kernel_rfl) (by kernel_rfl) (fun _ _ _ h => h) (Or.inl ⟨by kernel_rfl, fun w' hw' => ?_⟩) hz ?_
              · go_simp
              refine wpAnyH_done (by kernel_rfl) ?_ _
              go_wp2_with fail
              go_meet
              exact ⟨_, _, _, _, _, rfl, rfl, BX.out.row _, hz⟩
            · go_simp
              refine hK.out _ _ (h8.alloc h8.size _) (fun h14 => ?_)
              obtain ⟨X13, hX⟩ : ∃ X, X7.alloc (.cells #[.int .i64 0, .string ⟨#[]⟩, .string ⟨#[]⟩, .int .i64 0, .slice none 0 0] 34) = X := ⟨_, rfl⟩
              have BX : Hid (Blk X13 X7.heap.size 34 #[.int .i64 0, .string ⟨#[]⟩, .string ⟨#[]⟩, .int .i64 0, .slice none 0 0]) := by rw [← hX]; exact bkN rfl _ _
              have hb : Below X7.heap.size X7 X13 := by rw [← hX]; exact (Below.refl _ _).alloc (Nat.le_refl _) _
              have hbx : V.heap.size ≤ X7.heap.size := h8.size
              change wpAnyH Try.prog _ _ _ _ _ _ _ (X7.alloc (.cells #[.int .i64 0, .string ⟨#[]⟩, .string ⟨#[]⟩, .int .i64 0, .slice none 0 0] 34))
              rw [hX] at h14 ⊢
              clear hX
              have HLY := Lib.hid (HLY.out.below hb)
              have HROW := Lib.hid (blkB HROW.out hb)
              clear hb
              refine wpAnyH_ready (rs := [6]) (by kernel_rfl) (by simp) (AllReadyH.cons rfl (fun KK hK => ?_) AllReadyH.nil)
              go_simp
              refine (callA1 _ _ _ gl X13 (HSC.out.below h14) (fnA_below HFN.out h14) HROW.out HLY.out).mono ?_
              rintro e X15 ⟨ou, ku, ov, kv, rfl, hb⟩
              have h16' := stepB h14 hb (Nat.le_refl _)
              have HLY := Lib.hid (HLY.out.below hb)
              have HROW := Lib.hid (blkB HROW.out hb)
              have BX := Lib.hid (blkB BX.out hb)
              refine hK.out _ _ h16' (fun h16 => ?_)
              clear hb
              refine wpAnyH_take (i := 7) (v := .tuple #[.agg #[.int .i64 4, .string (b1 97), .string (b1 84), .int .i64 0, .slice ou 0 ku], .slice ov 0 kv]) rfl (by kernel_rfl) (by kernel_rfl) (by kernel_rfl) (fun _ _ _ h => h) (Or.inl ⟨by kernel_rfl, fun w' hw' => ?_⟩) h16 ?_
              · go_simp
              refine wpAnyH_take (i := 9) (v := .slice ov 0 kv) rfl (by kernel_rfl) (by kernel_rfl) (by kernel_rfl) (fun _ _ _ h => h) (Or.inl ⟨by kernel_rfl, fun w' hw' => ?_⟩) h16 ?_
              · go_simp
              refine wpAnyH_ready (rs := [8]) (by kernel_rfl) (by simp) (AllReadyH.cons rfl (fun KK hK => ?_) AllReadyH.nil)
              go_simp
              refine hK.out _ _ h16 (fun h16 => ?_)
              refine wpAnyH_ready (rs := [11]) (by kernel_rfl) (by simp) (AllReadyH.cons rfl (fun KK hK => ?_) AllReadyH.nil)
              refine wp_store_row (P := Try.prog) 34 _ _ rfl X7.heap.size #[.int .i64 4, .string (b1 97), .string (b1 84), .int .i64 0, .slice ou 0 ku] (by kernel_rfl) (by kernel_rfl) 34 #[.int .i64 0, .string ⟨#[]⟩, .string ⟨#[]⟩, .int .i64 0, .slice none 0 0] BX.out (by rw [size5]; rfl) rfl (by simp [Value.oneCell']) ?_
              refine hK.out _ _ (below_setRow h16 hbx _) (fun hz => ?_)
              refine wpAnyH_take (i := 12) (v := .slice ov 0 kv) rfl (by kernel_rfl) (by kernel_rfl) (by kernel_rfl) (fun _ _ _ h => h) (Or.inl ⟨by kernel_rfl, fun w' hw' => ?_⟩) hz ?_
              · go_simp
              refine wpAnyH_done (by kernel_rfl) ?_ _
              go_wp2_with fail
              go_meet
              exact ⟨_, _, _, _, _, rfl, rfl, BX.out.row _, hz⟩
          · go_simp
            refine hK.out _ _ (h6.alloc h6.size _) (fun h18 => ?_)
            obtain ⟨X17, hX⟩ : ∃ X, X5.alloc (.cells #[.int .i64 0, .string ⟨#[]⟩, .string ⟨#[]⟩, .int .i64 0, .slice none 0 0] 34) = X := ⟨_, rfl⟩
            have BX : Hid (Blk X17 X5.heap.size 34 #[.int .i64 0, .string ⟨#[]⟩, .string ⟨#[]⟩, .int .i64 0, .slice none 0 0]) := by rw [← hX]; exact bkN rfl _ _
            have hb : Below X5.heap.size X5 X17 := by rw [← hX]; exact (Below.refl _ _).alloc (Nat.le_refl _) _
            have hbx : V.heap.size ≤ X5.heap.size := h6.size
            change wpAnyH Try.prog _ _ _ _ _ _ _ (X5.alloc (.cells #[.int .i64 0, .string ⟨#[]⟩, .string ⟨#[]⟩, .int .i64 0, .slice none 0 0] 34))
            rw [hX] at h18 ⊢
            clear hX
            have HLY := Lib.hid (HLY.out.below hb)
            clear hb
            refine wpAnyH_ready (rs := [5]) (by kernel_rfl) (by simp) (AllReadyH.cons rfl (fun KK hK => ?_) AllReadyH.nil)
            go_simp
            obtain ⟨X19, hX⟩ : ∃ X, X17.alloc (.cells #[.int .i64 4, .string (b1 97), .string (b1 84), .int .i64 0, .slice none 0 0, .int .i64 5, .string ⟨#[]⟩, .string ⟨#[]⟩, .int .i64 0, .slice (some ⟨gl, 0, none⟩) 1 1] 34) = X := ⟨_, rfl⟩
            have hr : Blk X19 X17.heap.size 34 #[.int .i64 4, .string (b1 97), .string (b1 84), .int .i64 0, .slice none 0 0, .int .i64 5, .string ⟨#[]⟩, .string ⟨#[]⟩, .int .i64 0, .slice (some ⟨gl, 0, none⟩) 1 1] := by rw [← hX]; exact bkN rfl _ _
            have hb : Below X17.heap.size X17 X19 := by rw [← hX]; exact (Below.refl _ _).alloc (Nat.le_refl _) _
            have h20' := stepB h18 hb (Nat.le_refl _)
            have HLY := Lib.hid (HLY.out.below hb)
            have BX := Lib.hid (blkB BX.out hb)
            have HROW := Lib.hid hr
            refine hK.out _ _ (by rw [hX]; exact h20') (fun h20 => ?_)
            change wpAnyH Try.prog _ _ _ _ _ _ _ (X17.alloc (.cells #[.int .i64 4, .string (b1 97), .string (b1 84), .int .i64 0, .slice none 0 0, .int .i64 5, .string ⟨#[]⟩, .string ⟨#[]⟩, .int .i64 0, .slice (some ⟨gl, 0, none⟩) 1 1] 34))
            rw [hX] at h20 ⊢
            clear hX hr hb
            refine wpAnyH_ready (rs := [6]) (by kernel_rfl) (by simp) (AllReadyH.cons rfl (fun KK hK => ?_) AllReadyH.nil)
            go_simp
            refine (callA1 _ _ _ gl X19 (HSC.out.below h20) (fnA_below HFN.out h20) HROW.out HLY.out).mono ?_
            rintro e X21 ⟨ou, ku, ov, kv, rfl, hb⟩
            have h22' := stepB h20 hb (Nat.le_refl _)
            have HLY := Lib.hid (HLY.out.below hb)
            have BX := Lib.hid (blkB BX.out hb)
            have HROW := Lib.hid (blkB HROW.out hb)
            refine hK.out _ _ h22' (fun h22 => ?_)
            clear hb
            refine wpAnyH_take (i := 7) (v := .tuple #[.agg #[.int .i64 4, .string (b1 97), .string (b1 84), .int .i64 0, .slice ou 0 ku], .slice ov 0 kv]) rfl (by kernel_rfl) (by kernel_rfl) (by kernel_rfl) (fun _ _ _ h => h) (Or.inl ⟨by kernel_rfl, fun w' hw' => ?_⟩) h22 ?_
            · go_simp
            refine wpAnyH_take (i := 9) (v := .slice ov 0 kv) rfl (by kernel_rfl) (by kernel_rfl) (by kernel_rfl) (fun _ _ _ h => h) (Or.inl ⟨by kernel_rfl, fun w' hw' => ?_⟩) h22 ?_
            · go_simp
            refine wpAnyH_ready (rs := [8]) (by kernel_rfl) (by simp) (AllReadyH.cons rfl (fun KK hK => ?_) AllReadyH.nil)
            go_simp
            refine hK.out _ _ h22 (fun h22 => ?_)
            refine wpAnyH_ready (rs := [11]) (by kernel_rfl) (by simp) (AllReadyH.cons rfl (fun KK hK => ?_) AllReadyH.nil)
            refine wp_store_row (P := Try.prog) 34 _ _ rfl X5.heap.size #[.int .i64 4, .string (b1 97), .string (b1 84), .int .i64 0, .slice ou 0 ku] (by kernel_rfl) (by kernel_rfl) 34 #[.int .i64 0, .string ⟨#[]⟩, .string ⟨#[]⟩, .int .i64 0, .slice none 0 0] BX.out (by rw [size5]; rfl) rfl (by simp [Value.oneCell']) ?_
            refine hK.out _ _ (below_setRow h22 hbx _) (fun hz => ?_)
            refine wpAnyH_take (i := 12) (v := .slice ov 0 kv) rfl (by kernel_rfl) (by kernel_rfl) (by kernel_rfl) (fun _ _ _ h => h) (Or.inl ⟨by kernel_rfl, fun w' hw' => ?_⟩) hz ?_
            · go_simp
            refine wpAnyH_done (by kernel_rfl) ?_ _
            go_wp2_with fail
            go_meet
            exact ⟨_, _, _, _, _, rfl, rfl, BX.out.row _, hz⟩
        · go_simp
          refine hK.out _ _ (h4.alloc h4.size _) (fun h24 => ?_)
          obtain ⟨X23, hX⟩ : ∃ X, X3.alloc (.cells #[.int .i64 0, .string ⟨#[]⟩, .string ⟨#[]⟩, .int .i64 0, .slice none 0 0] 34) = X := ⟨_, rfl⟩
          have BX : Hid (Blk X23 X3.heap.size 34 #[.int .i64 0, .string ⟨#[]⟩, .string ⟨#[]⟩, .int .i64 0, .slice none 0 0]) := by rw [← hX]; exact bkN rfl _ _
          have hb : Below X3.heap.size X3 X23 := by rw [← hX]; exact (Below.refl _ _).alloc (Nat.le_refl _) _
          have hbx : V.heap.size ≤ X3.heap.size := h4.size
          change wpAnyH Try.prog _ _ _ _ _ _ _ (X3.alloc (.cells #[.int .i64 0, .string ⟨#[]⟩, .string ⟨#[]⟩, .int .i64 0, .slice none 0 0] 34))
          rw [hX] at h24 ⊢
          clear hX
          clear hb
          refine wpAnyH_ready (rs := [4]) (by kernel_rfl) (by simp) (AllReadyH.cons rfl (fun KK hK => ?_) AllReadyH.nil)
          go_simp
          refine (list_call (typA 84) _ _ (leaf_is _ _ _ _ _)).mono ?_
          rintro e X25 ⟨gl, _, rfl, hl, hb⟩
          have h26' := stepB h24 hb (Nat.le_refl _)
          have BX := Lib.hid (blkB BX.out hb)
          have HLY := Lib.hid hl
          refine hK.out _ _ h26' (fun h26 => ?_)
          clear hb
          clear hl
          refine wpAnyH_ready (rs := [5]) (by kernel_rfl) (by simp) (AllReadyH.cons rfl (fun KK hK => ?_) AllReadyH.nil)
          go_simp
          obtain ⟨X27, hX⟩ : ∃ X, X25.alloc (.cells #[.int .i64 4, .string (b1 97), .string (b1 84), .int .i64 0, .slice none 0 0, .int .i64 5, .string ⟨#[]⟩, .string ⟨#[]⟩, .int .i64 0, .slice (some ⟨gl, 0, none⟩) 1 1] 34) = X := ⟨_, rfl⟩
          have hr : Blk X27 X25.heap.size 34 #[.int .i64 4, .string (b1 97), .string (b1 84), .int .i64 0, .slice none 0 0, .int .i64 5, .string ⟨#[]⟩, .string ⟨#[]⟩, .int .i64 0, .slice (some ⟨gl, 0, none⟩) 1 1] := by rw [← hX]; exact bkN rfl _ _
          have hb : Below X25.heap.size X25 X27 := by rw [← hX]; exact (Below.refl _ _).alloc (Nat.le_refl _) _
          have h28' := stepB h26 hb (Nat.le_refl _)
          have BX := Lib.hid (blkB BX.out hb)
          have HLY := Lib.hid (HLY.out.below hb)
          have HROW := Lib.hid hr
          refine hK.out _ _ (by rw [hX]; exact h28') (fun h28 => ?_)
          change wpAnyH Try.prog _ _ _ _ _ _ _ (X25.alloc (.cells #[.int .i64 4, .string (b1 97), .string (b1 84), .int .i64 0, .slice none 0 0, .int .i64 5, .string ⟨#[]⟩, .string ⟨#[]⟩, .int .i64 0, .slice (some ⟨gl, 0, none⟩) 1 1] 34))
          rw [hX] at h28 ⊢
          clear hX hr hb
          refine wpAnyH_ready (rs := [6]) (by kernel_rfl) (by simp) (AllReadyH.cons rfl (fun KK hK => ?_) AllReadyH.nil)
          go_simp
          refine (callA1 _ _ _ gl X27 (HSC.out.below h28) (fnA_below HFN.out h28) HROW.out HLY.out).mono ?_
          rintro e X29 ⟨ou, ku, ov, kv, rfl, hb⟩
          have h30' := stepB h28 hb (Nat.le_refl _)
          have BX := Lib.hid (blkB BX.out hb)
          have HLY := Lib.hid (HLY.out.below hb)
          have HROW := Lib.hid (blkB HROW.out hb)
          refine hK.out _ _ h30' (fun h30 => ?_)
          clear hb
          refine wpAnyH_take (i := 7) (v := .tuple #[.agg #[.int .i64 4, .string (b1 97), .string (b1 84), .int .i64 0, .slice ou 0 ku], .slice ov 0 kv]) rfl (by kernel_rfl) (by kernel_rfl) (by kernel_rfl) (fun _ _ _ h => h) (Or.inl ⟨by kernel_rfl, fun w' hw' => ?_⟩) h30 ?_
          · go_simp
          refine wpAnyH_take (i := 9) (v := .slice ov 0 kv) rfl (by kernel_rfl) (by kernel_rfl) (by kernel_rfl) (fun _ _ _ h => h) (Or.inl ⟨by kernel_rfl, fun w' hw' => ?_⟩) h30 ?_
          · go_simp
          refine wpAnyH_ready (rs := [8]) (by kernel_rfl) (by simp) (AllReadyH.cons rfl (fun KK hK => ?_) AllReadyH.nil)
          go_simp
          refine hK.out _ _ h30 (fun h30 => ?_)
          refine wpAnyH_ready (rs := [11]) (by kernel_rfl) (by simp) (AllReadyH.cons rfl (fun KK hK => ?_) AllReadyH.nil)
          refine wp_store_row (P := Try.prog) 34 _ _ rfl X3.heap.size #[.int .i64 4, .string (b1 97), .string (b1 84), .int .i64 0, .slice ou 0 ku] (by kernel_rfl) (by kernel_rfl) 34 #[.int .i64 0, .string ⟨#[]⟩, .string ⟨#[]⟩, .int .i64 0, .slice none 0 0] BX.out (by rw [size5]; rfl) rfl (by simp [Value.oneCell']) ?_
          refine hK.out _ _ (below_setRow h30 hbx _) (fun hz => ?_)
          refine wpAnyH_take (i := 12) (v := .slice ov 0 kv) rfl (by kernel_rfl) (by kernel_rfl) (by kernel_rfl) (fun _ _ _ h => h) (Or.inl ⟨by kernel_rfl, fun w' hw' => ?_⟩) hz ?_
          · go_simp
          refine wpAnyH_done (by kernel_rfl) ?_ _
          go_wp2_with fail
          go_meet
          exact ⟨_, _, _, _, _, rfl, rfl, BX.out.row _, hz⟩
      · go_simp
        refine hK.out _ _ (h2.alloc h2.size _) (fun h32 => ?_)
        obtain ⟨X31, hX⟩ : ∃ X, X1.alloc (.cells #[.int .i64 0, .string ⟨#[]⟩, .string ⟨#[]⟩, .int .i64 0, .slice none 0 0] 34) = X := ⟨_, rfl⟩
        have BX : Hid (Blk X31 X1.heap.size 34 #[.int .i64 0, .string ⟨#[]⟩, .string ⟨#[]⟩, .int .i64 0, .slice none 0 0]) := by rw [← hX]; exact bkN rfl _ _
        have hb : Below X1.heap.size X1 X31 := by rw [← hX]; exact (Below.refl _ _).alloc (Nat.le_refl _) _
        have hbx : V.heap.size ≤ X1.heap.size := h2.size
        change wpAnyH Try.prog _ _ _ _ _ _ _ (X1.alloc (.cells #[.int .i64 0, .string ⟨#[]⟩, .string ⟨#[]⟩, .int .i64 0, .slice none 0 0] 34))
        rw [hX] at h32 ⊢
        clear hX
        clear hb
        refine wpAnyH_ready (rs := [3]) (by kernel_rfl) (by simp) (AllReadyH.cons rfl (fun KK hK => ?_) AllReadyH.nil)
        go_simp
        refine (named_call _ _).mono ?_
        rintro e X33 ⟨rfl, hb⟩
        have h34' := stepB h32 hb (Nat.le_refl _)
        have BX := Lib.hid (blkB BX.out hb)
        refine hK.out _ _ h34' (fun h34 => ?_)
        clear hb
        refine wpAnyH_ready (rs := [4]) (by kernel_rfl) (by simp) (AllReadyH.cons rfl (fun KK hK => ?_) AllReadyH.nil)
        go_simp
        refine (list_call (typA 84) _ _ (leaf_is _ _ _ _ _)).mono ?_
        rintro e X35 ⟨gl, _, rfl, hl, hb⟩
        have h36' := stepB h34 hb (Nat.le_refl _)
        have BX := Lib.hid (blkB BX.out hb)
        have HLY := Lib.hid hl
        refine hK.out _ _ h36' (fun h36 => ?_)
        clear hb
        clear hl
        refine wpAnyH_ready (rs := [5]) (by kernel_rfl) (by simp) (AllReadyH.cons rfl (fun KK hK => ?_) AllReadyH.nil)
        go_simp
        obtain ⟨X37, hX⟩ : ∃ X, X35.alloc (.cells #[.int .i64 4, .string (b1 97), .string (b1 84), .int .i64 0, .slice none 0 0, .int .i64 5, .string ⟨#[]⟩, .string ⟨#[]⟩, .int .i64 0, .slice (some ⟨gl, 0, none⟩) 1 1] 34) = X := ⟨_, rfl⟩
        have hr : Blk X37 X35.heap.size 34 #[.int .i64 4, .string (b1 97), .string (b1 84), .int .i64 0, .slice none 0 0, .int .i64 5, .string ⟨#[]⟩, .string ⟨#[]⟩, .int .i64 0, .slice (some ⟨gl, 0, none⟩) 1 1] := by rw [← hX]; exact bkN rfl _ _
        have hb : Below X35.heap.size X35 X37 := by rw [← hX]; exact (Below.refl _ _).alloc (Nat.le_refl _) _
        have h38' := stepB h36 hb (Nat.le_refl _)
        have BX := Lib.hid (blkB BX.out hb)
        have HLY := Lib.hid (HLY.out.below hb)
        have HROW := Lib.hid hr
        refine hK.out _ _ (by rw [hX]; exact h38') (fun h38 => ?_)
        change wpAnyH Try.prog _ _ _ _ _ _ _ (X35.alloc (.cells #[.int .i64 4, .string (b1 97), .string (b1 84), .int .i64 0, .slice none 0 0, .int .i64 5, .string ⟨#[]⟩, .string ⟨#[]⟩, .int .i64 0, .slice (some ⟨gl, 0, none⟩) 1 1] 34))
        rw [hX] at h38 ⊢
        clear hX hr hb
        refine wpAnyH_ready (rs := [6]) (by kernel_rfl) (by simp) (AllReadyH.cons rfl (fun KK hK => ?_) AllReadyH.nil)
        go_simp
        refine (callA1 _ _ _ gl X37 (HSC.out.below h38) (fnA_below HFN.out h38) HROW.out HLY.out).mono ?_
        rintro e X39 ⟨ou, ku, ov, kv, rfl, hb⟩
        have h40' := stepB h38 hb (Nat.le_refl _)
        have BX := Lib.hid (blkB BX.out hb)
        have HLY := Lib.hid (HLY.out.below hb)
        have HROW := Lib.hid (blkB HROW.out hb)
        refine hK.out _ _ h40' (fun h40 => ?_)
        clear hb
        refine wpAnyH_take (i := 7) (v := .tuple #[.agg #[.int .i64 4, .string (b1 97), .string (b1 84), .int .i64 0, .slice ou 0 ku], .slice ov 0 kv]) rfl (by kernel_rfl) (by kernel_rfl) (by kernel_rfl) (fun _ _ _ h => h) (Or.inl ⟨by kernel_rfl, fun w' hw' => ?_⟩) h40 ?_
        · go_simp
        refine wpAnyH_take (i := 9) (v := .slice ov 0 kv) rfl (by kernel_rfl) (by kernel_rfl) (by kernel_rfl) (fun _ _ _ h => h) (Or.inl ⟨by kernel_rfl, fun w' hw' => ?_⟩) h40 ?_
        · go_simp
        refine wpAnyH_ready (rs := [8]) (by kernel_rfl) (by simp) (AllReadyH.cons rfl (fun KK hK => ?_) AllReadyH.nil)
        go_simp
        refine hK.out _ _ h40 (fun h40 => ?_)
        refine wpAnyH_ready (rs := [11]) (by kernel_rfl) (by simp) (AllReadyH.cons rfl (fun KK hK => ?_) AllReadyH.nil)
        refine wp_store_row (P := Try.prog) 34 _ _ rfl X1.heap.size #[.int .i64 4, .string (b1 97), .string (b1 84), .int .i64 0, .slice ou 0 ku] (by kernel_rfl) (by kernel_rfl) 34 #[.int .i64 0, .string ⟨#[]⟩, .string ⟨#[]⟩, .int .i64 0, .slice none 0 0] BX.out (by rw [size5]; rfl) rfl (by simp [Value.oneCell']) ?_
        refine hK.out _ _ (below_setRow h40 hbx _) (fun hz => ?_)
        refine wpAnyH_take (i := 12) (v := .slice ov 0 kv) rfl (by kernel_rfl) (by kernel_rfl) (by kernel_rfl) (fun _ _ _ h => h) (Or.inl ⟨by kernel_rfl, fun w' hw' => ?_⟩) hz ?_
        · go_simp
        refine wpAnyH_done (by kernel_rfl) ?_ _
        go_wp2_with fail
        go_meet
        exact ⟨_, _, _, _, _, rfl, rfl, BX.out.row _, hz⟩
    · go_simp
      refine hK.out _ _ (hS0.alloc hS0.size _) (fun h42 => ?_)
      obtain ⟨X41, hX⟩ : ∃ X, V0.alloc (.cells #[.int .i64 0, .string ⟨#[]⟩, .string ⟨#[]⟩, .int .i64 0, .slice none 0 0] 34) = X := ⟨_, rfl⟩
      have BX : Hid (Blk X41 V0.heap.size 34 #[.int .i64 0, .string ⟨#[]⟩, .string ⟨#[]⟩, .int .i64 0, .slice none 0 0]) := by rw [← hX]; exact bkN rfl _ _
      have hb : Below V0.heap.size V0 X41 := by rw [← hX]; exact (Below.refl _ _).alloc (Nat.le_refl _) _
      have hbx : V.heap.size ≤ V0.heap.size := hS0.size
      change wpAnyH Try.prog _ _ _ _ _ _ _ (V0.alloc (.cells #[.int .i64 0, .string ⟨#[]⟩, .string ⟨#[]⟩, .int .i64 0, .slice none 0 0] 34))
      rw [hX] at h42 ⊢
      clear hX
      clear hb
      refine wpAnyH_ready (rs := [2]) (by kernel_rfl) (by simp) (AllReadyH.cons rfl (fun KK hK => ?_) AllReadyH.nil)
      go_simp
      refine (named_call _ _).mono ?_
      rintro e X43 ⟨rfl, hb⟩
      have h44' := stepB h42 hb (Nat.le_refl _)
      have BX := Lib.hid (blkB BX.out hb)
      refine hK.out _ _ h44' (fun h44 => ?_)
      clear hb
      refine wpAnyH_ready (rs := [3]) (by kernel_rfl) (by simp) (AllReadyH.cons rfl (fun KK hK => ?_) AllReadyH.nil)
      go_simp
      refine (named_call _ _).mono ?_
      rintro e X45 ⟨rfl, hb⟩
      have h46' := stepB h44 hb (Nat.le_refl _)
      have BX := Lib.hid (blkB BX.out hb)
      refine hK.out _ _ h46' (fun h46 => ?_)
      clear hb
      refine wpAnyH_ready (rs := [4]) (by kernel_rfl) (by simp) (AllReadyH.cons rfl (fun KK hK => ?_) AllReadyH.nil)
      go_simp
      refine (list_call (typA 84) _ _ (leaf_is _ _ _ _ _)).mono ?_
      rintro e X47 ⟨gl, _, rfl, hl, hb⟩
      have h48' := stepB h46 hb (Nat.le_refl _)
      have BX := Lib.hid (blkB BX.out hb)
      have HLY := Lib.hid hl
      refine hK.out _ _ h48' (fun h48 => ?_)
      clear hb
      clear hl
      refine wpAnyH_ready (rs := [5]) (by kernel_rfl) (by simp) (AllReadyH.cons rfl (fun KK hK => ?_) AllReadyH.nil)
      go_simp
      obtain ⟨X49, hX⟩ : ∃ X, X47.alloc (.cells #[.int .i64 4, .string (b1 97), .string (b1 84), .int .i64 0, .slice none 0 0, .int .i64 5, .string ⟨#[]⟩, .string ⟨#[]⟩, .int .i64 0, .slice (some ⟨gl, 0, none⟩) 1 1] 34) = X := ⟨_, rfl⟩
      have hr : Blk X49 X47.heap.size 34 #[.int .i64 4, .string (b1 97), .string (b1 84), .int .i64 0, .slice none 0 0, .int .i64 5, .string ⟨#[]⟩, .string ⟨#[]⟩, .int .i64 0, .slice (some ⟨gl, 0, none⟩) 1 1] := by rw [← hX]; exact bkN rfl _ _
      have hb : Below X47.heap.size X47 X49 := by rw [← hX]; exact (Below.refl _ _).alloc (Nat.le_refl _) _
      have h50' := stepB h48 hb (Nat.le_refl _)
      have BX := Lib.hid (blkB BX.out hb)
      have HLY := Lib.hid (HLY.out.below hb)
      have HROW := Lib.hid hr
      refine hK.out _ _ (by rw [hX]; exact h50') (fun h50 => ?_)
      change wpAnyH Try.prog _ _ _ _ _ _ _ (X47.alloc (.cells #[.int .i64 4, .string (b1 97), .string (b1 84), .int .i64 0, .slice none 0 0, .int .i64 5, .string ⟨#[]⟩, .string ⟨#[]⟩, .int .i64 0, .slice (some ⟨gl, 0, none⟩) 1 1] 34))
      rw [hX] at h50 ⊢
      clear hX hr hb
      refine wpAnyH_ready (rs := [6]) (by kernel_rfl) (by simp) (AllReadyH.cons rfl (fun KK hK => ?_) AllReadyH.nil)
      go_simp
      refine (callA1 _ _ _ gl X49 (HSC.out.below h50) (fnA_below HFN.out h50) HROW.out HLY.out).mono ?_
      rintro e X51 ⟨ou, ku, ov, kv, rfl, hb⟩
      have h52' := stepB h50 hb (Nat.le_refl _)
      have BX := Lib.hid (blkB BX.out hb)
      have HLY := Lib.hid (HLY.out.below hb)
      have HROW := Lib.hid (blkB HROW.out hb)
      refine hK.out _ _ h52' (fun h52 => ?_)
      clear hb
      refine wpAnyH_take (i := 7) (v := .tuple #[.agg #[.int .i64 4, .string (b1 97), .string (b1 84), .int .i64 0, .slice ou 0 ku], .slice ov 0 kv]) rfl (by kernel_rfl) (by kernel_rfl) (by kernel_rfl) (fun _ _ _ h => h) (Or.inl ⟨by kernel_rfl, fun w' hw' => ?_⟩) h52 ?_
      · go_simp
      refine wpAnyH_take (i := 9) (v := .slice ov 0 kv) rfl (by kernel_rfl) (by kernel_rfl) (by kernel_rfl) (fun _ _ _ h => h) (Or.inl ⟨by kernel_rfl, fun w' hw' => ?_⟩) h52 ?_
      · go_simp
      refine wpAnyH_ready (rs := [8]) (by kernel_rfl) (by simp) (AllReadyH.cons rfl (fun KK hK => ?_) AllReadyH.nil)
      go_simp
      refine hK.out _ _ h52 (fun h52 => ?_)
      refine wpAnyH_ready (rs := [11]) (by kernel_rfl) (by simp) (AllReadyH.cons rfl (fun KK hK => ?_) AllReadyH.nil)
      refine wp_store_row (P := Try.prog) 34 _ _ rfl V0.heap.size #[.int .i64 4, .string (b1 97), .string (b1 84), .int .i64 0, .slice ou 0 ku] (by kernel_rfl) (by kernel_rfl) 34 #[.int .i64 0, .string ⟨#[]⟩, .string ⟨#[]⟩, .int .i64 0, .slice none 0 0] BX.out (by rw [size5]; rfl) rfl (by simp [Value.oneCell']) ?_
      refine hK.out _ _ (below_setRow h52 hbx _) (fun hz => ?_)
      refine wpAnyH_take (i := 12) (v := .slice ov 0 kv) rfl (by kernel_rfl) (by kernel_rfl) (by kernel_rfl) (fun _ _ _ h => h) (Or.inl ⟨by kernel_rfl, fun w' hw' => ?_⟩) hz ?_
      · go_simp
      refine wpAnyH_done (by kernel_rfl) ?_ _
      go_wp2_with fail
      go_meet
      exact ⟨_, _, _, _, _, rfl, rfl, BX.out.row _, hz⟩
  case rest =>
    obtain ⟨g5, ou5, ku5, ov5, kv5, rfl, rfl, H5B, H5W⟩ := hcut
    obtain ⟨X, rfl⟩ : ∃ X, X = wc := ⟨wc, rfl⟩
    have HSC2 := Lib.hid (HSC.out.below H5W.out)
    have HBS2 := Lib.hid (blkB HBS.out H5W.out)
    have HFN2 := Lib.hid (fnA_below HFN.out H5W.out)
    have HBF2 := Lib.hid (blkB HBF.out H5W.out)
    have HBN2 := Lib.hid (blkB HBN.out H5W.out)
    have HWX := Lib.hid (stepB HWV.out H5W.out (Nat.le_refl _))
    clear HSC HBS HFN HBF HBN HWV H5W
    go_wp2_with fail
    go_cut [7, 8] from 42 to 51 (fun v7 v8 wx => ∃ (g7 : Nat) (ov : Option Addr) (kv : Nat), v7 = .pointer (some ⟨g7, 0, none⟩) ∧ v8 = .slice ov 1 kv ∧ Hid (IsEs wx [(-1, 15)] (.slice ov 1 kv)) ∧ Hid (Below X.heap.size X wx))
    case first =>
      have hS0 : (fun w' : World => Below X.heap.size X w') X.drew := (Below.refl _ _).drew
      refine wp_region_held_drew (S := (fun w' : World => Below X.heap.size X w')) (by kernel_rfl) hS0 fun hS0 => ?_
      refine wpAnyH_take (i := 0) (v := .agg #[.slice (some ⟨w.heap.size + 1 + 1 + 1 + 1, 0, none⟩) 1 1, .slice none 0 0, .slice none 0 0, .slice none 0 0, .slice none 0 0]) rfl (by kernel_rfl) (by kernel_rfl) (by kernel_rfl) (fun _ _ _ h => h) (Or.inl ⟨by kernel_rfl, fun w' hw' => ?_⟩) hS0 ?_
      · exact run_loadG 32 5 sizeS5 Try.underlying32 _ rfl ⟨w.heap.size + 1 + 1 + 1 + 1 + 1, 0, none⟩ (by kernel_rfl) (cs := [.slice (some ⟨w.heap.size + 1 + 1 + 1 + 1, 0, none⟩) 1 1, .slice none 0 0, .slice none 0 0, .slice none 0 0, .slice none 0 0]) (bk0 (blkB HBS2.out hw')) rfl
      refine wpAnyH_take (i := 1) (v := .agg #[.string ⟨#[]⟩, .slice (some ⟨gB, 0, none⟩) 1 1, .slice (some ⟨gP, 0, none⟩) 2 2, .int .i64 6, .string ⟨#[]⟩, .string (b1 80), .int .i64 0, .slice none 0 0]) rfl (by kernel_rfl) (by kernel_rfl) (by kernel_rfl) (fun _ _ _ h => h) (Or.inl ⟨by kernel_rfl, fun w' hw' => ?_⟩) hS0 ?_
      · exact run_loadG 36 8 sizeF8 Try.underlying36 _ rfl ⟨fb, 0, none⟩ (by kernel_rfl) (cs := [.string ⟨#[]⟩, .slice (some ⟨gB, 0, none⟩) 1 1, .slice (some ⟨gP, 0, none⟩) 2 2, .int .i64 6, .string ⟨#[]⟩, .string (b1 80), .int .i64 0, .slice none 0 0]) (bk0 (blkB HBF2.out hw')) rfl
      refine wpAnyH_take (i := 2) (v := .agg #[.int .i64 1, .string ⟨#[]⟩, .string ⟨#[]⟩, .int .i64 0, .slice none 0 0]) rfl (by kernel_rfl) (by kernel_rfl) (by kernel_rfl) (fun _ _ _ h => h) (Or.inl ⟨by kernel_rfl, fun w' hw' => ?_⟩) hS0 ?_
      · exact run_loadG 34 5 size5 Try.underlying34 _ rfl ⟨(fb + 1), 0, none⟩ (by kernel_rfl) (cs := [.int .i64 1, .string ⟨#[]⟩, .string ⟨#[]⟩, .int .i64 0, .slice none 0 0]) (bk0 (blkB HBN2.out hw')) rfl
      refine wpAnyH_take (i := 3) (v := .agg #[.int .i64 1, .string ⟨#[]⟩, .string ⟨#[]⟩, .int .i64 0, .slice none 0 0]) rfl (by kernel_rfl) (by kernel_rfl) (by kernel_rfl) (fun _ _ _ h => h) (Or.inl ⟨by kernel_rfl, fun w' hw' => ?_⟩) hS0 ?_
      · exact run_loadG 34 5 size5 Try.underlying34 _ rfl ⟨(fb + 1), 0, none⟩ (by kernel_rfl) (cs := [.int .i64 1, .string ⟨#[]⟩, .string ⟨#[]⟩, .int .i64 0, .slice none 0 0]) (bk0 (blkB HBN2.out hw')) rfl
      obtain ⟨V0, hV0⟩ : ∃ V0, X.drew = V0 := ⟨_, rfl⟩
      rw [hV0] at hS0 ⊢
      clear hV0
      refine wpAnyH_ready (rs := [4, 10]) (by kernel_rfl) (by simp) (AllReadyH.cons rfl (fun KK hK => ?_) (AllReadyH.cons rfl (fun KK hK => ?_) AllReadyH.nil))
      · go_simp
        refine (list_call numA _ _ (leaf_is _ _ _ _ _)).mono ?_
        rintro e X1 ⟨gl, _, rfl, hl, hb⟩
        have h2' := stepB hS0 hb (Nat.le_refl _)
        have HLY := Lib.hid hl
        refine hK.out _ _ h2' (fun h2 => ?_)
        clear hb
        clear hl
        refine wpAnyH_ready (rs := [5, 10]) (by kernel_rfl) (by simp) (AllReadyH.cons rfl (fun KK hK => ?_) (AllReadyH.cons rfl (fun KK hK => ?_) AllReadyH.nil))
        · go_simp
          obtain ⟨X3, hX⟩ : ∃ X, X1.alloc (.cells #[.int .i64 1, .string ⟨#[]⟩, .string ⟨#[]⟩, .int .i64 0, .slice none 0 0, .int .i64 5, .string ⟨#[]⟩, .string ⟨#[]⟩, .int .i64 0, .slice (some ⟨gl, 0, none⟩) 1 1] 34) = X := ⟨_, rfl⟩
          have hr : Blk X3 X1.heap.size 34 #[.int .i64 1, .string ⟨#[]⟩, .string ⟨#[]⟩, .int .i64 0, .slice none 0 0, .int .i64 5, .string ⟨#[]⟩, .string ⟨#[]⟩, .int .i64 0, .slice (some ⟨gl, 0, none⟩) 1 1] := by rw [← hX]; exact bkN rfl _ _
          have hb : Below X1.heap.size X1 X3 := by rw [← hX]; exact (Below.refl _ _).alloc (Nat.le_refl _) _
          have h4' := stepB h2 hb (Nat.le_refl _)
          have HLY := Lib.hid (HLY.out.below hb)
          have HROW := Lib.hid hr
          refine hK.out _ _ (by rw [hX]; exact h4') (fun h4 => ?_)
          change wpAnyH Try.prog _ _ _ _ _ _ _ (X1.alloc (.cells #[.int .i64 1, .string ⟨#[]⟩, .string ⟨#[]⟩, .int .i64 0, .slice none 0 0, .int .i64 5, .string ⟨#[]⟩, .string ⟨#[]⟩, .int .i64 0, .slice (some ⟨gl, 0, none⟩) 1 1] 34))
          rw [hX] at h4 ⊢
          clear hX hr hb
          refine wpAnyH_ready (rs := [6, 10]) (by kernel_rfl) (by simp) (AllReadyH.cons rfl (fun KK hK => ?_) (AllReadyH.cons rfl (fun KK hK => ?_) AllReadyH.nil))
          · go_simp
            refine (callA2 _ _ _ gl X3 (HSC2.out.below h4) (fnA_below HFN2.out h4) HROW.out HLY.out).mono ?_
            rintro e X5 ⟨ua, un, up, uq, uo, ue, uk, ov, kv, rfl, hev, hb⟩
            have HEV := Lib.hid hev
            clear hev
            have h6' := stepB h4 hb (Nat.le_refl _)
            have HLY := Lib.hid (HLY.out.below hb)
            have HROW := Lib.hid (blkB HROW.out hb)
            refine hK.out _ _ h6' (fun h6 => ?_)
            clear hb
            refine wpAnyH_take (i := 7) (v := .tuple #[.agg #[.int .i64 ua, .string up, .string uq, .int .i64 un, .slice uo ue uk], .slice ov 1 kv]) rfl (by kernel_rfl) (by kernel_rfl) (by kernel_rfl) (fun _ _ _ h => h) (Or.inl ⟨by kernel_rfl, fun w' hw' => ?_⟩) h6 ?_
            · go_simp
            refine wpAnyH_take (i := 8) (v := .agg #[.int .i64 ua, .string up, .string uq, .int .i64 un, .slice uo ue uk]) rfl (by kernel_rfl) (by kernel_rfl) (by kernel_rfl) (fun _ _ _ h => h) (Or.inl ⟨by kernel_rfl, fun w' hw' => ?_⟩) h6 ?_
            · go_simp
            refine wpAnyH_take (i := 9) (v := .slice ov 1 kv) rfl (by kernel_rfl) (by kernel_rfl) (by kernel_rfl) (fun _ _ _ h => h) (Or.inl ⟨by kernel_rfl, fun w' hw' => ?_⟩) h6 ?_
            · go_simp
            refine wpAnyH_ready (rs := [10]) (by kernel_rfl) (by simp) (AllReadyH.cons rfl (fun KK hK => ?_) AllReadyH.nil)
            go_simp
            refine hK.out _ _ (h6.alloc h6.size _) (fun h8 => ?_)
            obtain ⟨X7, hX⟩ : ∃ X, X5.alloc (.cells #[.int .i64 0, .string ⟨#[]⟩, .string ⟨#[]⟩, .int .i64 0, .slice none 0 0] 34) = X := ⟨_, rfl⟩
            have BX : Hid (Blk X7 X5.heap.size 34 #[.int .i64 0, .string ⟨#[]⟩, .string ⟨#[]⟩, .int .i64 0, .slice none 0 0]) := by rw [← hX]; exact bkN rfl _ _
            have hb : Below X5.heap.size X5 X7 := by rw [← hX]; exact (Below.refl _ _).alloc (Nat.le_refl _) _
            have hbx : X.heap.size ≤ X5.heap.size := h6.size
            change wpAnyH Try.prog _ _ _ _ _ _ _ (X5.alloc (.cells #[.int .i64 0, .string ⟨#[]⟩, .string ⟨#[]⟩, .int .i64 0, .slice none 0 0] 34))
            rw [hX] at h8 ⊢
            clear hX
            have HLY := Lib.hid (HLY.out.below hb)
            have HROW := Lib.hid (blkB HROW.out hb)
            have HEV := Lib.hid (es_below HEV.out hb)
            clear hb
            refine wpAnyH_ready (rs := [11]) (by kernel_rfl) (by simp) (AllReadyH.cons rfl (fun KK hK => ?_) AllReadyH.nil)
            refine wp_store_row (P := Try.prog) 34 _ _ rfl X5.heap.size #[.int .i64 ua, .string up, .string uq, .int .i64 un, .slice uo ue uk] (by kernel_rfl) (by kernel_rfl) 34 #[.int .i64 0, .string ⟨#[]⟩, .string ⟨#[]⟩, .int .i64 0, .slice none 0 0] BX.out (by rw [size5]; rfl) rfl (by simp [Value.oneCell']) ?_
            refine hK.out _ _ (below_setRow h8 hbx _) (fun hz => ?_)
            refine wpAnyH_take (i := 12) (v := .slice ov 1 kv) rfl (by kernel_rfl) (by kernel_rfl) (by kernel_rfl) (fun _ _ _ h => h) (Or.inl ⟨by kernel_rfl, fun w' hw' => ?_⟩) hz ?_
            · go_simp
            refine wpAnyH_done (by kernel_rfl) ?_ _
            go_wp2_with fail
            go_meet
            exact ⟨_, _, _, rfl, rfl, es_row HEV.out (by simp) BX.out _, hz⟩
          · go_simp
            refine hK.out _ _ (h4.alloc h4.size _) (fun h10 => ?_)
            obtain ⟨X9, hX⟩ : ∃ X, X3.alloc (.cells #[.int .i64 0, .string ⟨#[]⟩, .string ⟨#[]⟩, .int .i64 0, .slice none 0 0] 34) = X := ⟨_, rfl⟩
            have BX : Hid (Blk X9 X3.heap.size 34 #[.int .i64 0, .string ⟨#[]⟩, .string ⟨#[]⟩, .int .i64 0, .slice none 0 0]) := by rw [← hX]; exact bkN rfl _ _
            have hb : Below X3.heap.size X3 X9 := by rw [← hX]; exact (Below.refl _ _).alloc (Nat.le_refl _) _
            have hbx : X.heap.size ≤ X3.heap.size := h4.size
            change wpAnyH Try.prog _ _ _ _ _ _ _ (X3.alloc (.cells #[.int .i64 0, .string ⟨#[]⟩, .string ⟨#[]⟩, .int .i64 0, .slice none 0 0] 34))
            rw [hX] at h10 ⊢
            clear hX
            have HLY := Lib.hid (HLY.out.below hb)
            have HROW := Lib.hid (blkB HROW.out hb)
            clear hb
            refine wpAnyH_ready (rs := [6]) (by kernel_rfl) (by simp) (AllReadyH.cons rfl (fun KK hK => ?_) AllReadyH.nil)
            go_simp
            refine (callA2 _ _ _ gl X9 (HSC2.out.below h10) (fnA_below HFN2.out h10) HROW.out HLY.out).mono ?_
            rintro e X11 ⟨ua, un, up, uq, uo, ue, uk, ov, kv, rfl, hev, hb⟩
            have HEV := Lib.hid hev
            clear hev
            have h12' := stepB h10 hb (Nat.le_refl _)
            have HLY := Lib.hid (HLY.out.below hb)
            have HROW := Lib.hid (blkB HROW.out hb)
            have BX := Lib.hid (blkB BX.out hb)
            refine hK.out _ _ h12' (fun h12 => ?_)
            clear hb
            refine wpAnyH_take (i := 7) (v := .tuple #[.agg #[.int .i64 ua, .string up, .string uq, .int .i64 un, .slice uo ue uk], .slice ov 1 kv]) rfl (by kernel_rfl) (by kernel_rfl) (by kernel_rfl) (fun _ _ _ h => h) (Or.inl ⟨by kernel_rfl, fun w' hw' => ?_⟩) h12 ?_
            · go_simp
            refine wpAnyH_take (i := 9) (v := .slice ov 1 kv) rfl (by kernel_rfl) (by kernel_rfl) (by kernel_rfl) (fun _ _ _ h => h) (Or.inl ⟨by kernel_rfl, fun w' hw' => ?_⟩) h12 ?_
            · go_simp
            refine wpAnyH_ready (rs := [8]) (by kernel_rfl) (by simp) (AllReadyH.cons rfl (fun KK hK => ?_) AllReadyH.nil)
            go_simp
            refine hK.out _ _ h12 (fun h12 => ?_)
            refine wpAnyH_ready (rs := [11]) (by kernel_rfl) (by simp) (AllReadyH.cons rfl (fun KK hK => ?_) AllReadyH.nil)
            refine wp_store_row (P := Try.prog) 34 _ _ rfl X3.heap.size #[.int .i64 ua, .string up, .string uq, .int .i64 un, .slice uo ue uk] (by kernel_rfl) (by kernel_rfl) 34 #[.int .i64 0, .string ⟨#[]⟩, .string ⟨#[]⟩, .int .i64 0, .slice none 0 0] BX.out (by rw [size5]; rfl) rfl (by simp [Value.oneCell']) ?_
            refine hK.out _ _ (below_setRow h12 hbx _) (fun hz => ?_)
            refine wpAnyH_take (i := 12) (v := .slice ov 1 kv) rfl (by kernel_rfl) (by kernel_rfl) (by kernel_rfl) (fun _ _ _ h => h) (Or.inl ⟨by kernel_rfl, fun w' hw' => ?_⟩) hz ?_
            · go_simp
            refine wpAnyH_done (by kernel_rfl) ?_ _
            go_wp2_with fail
            go_meet
            exact ⟨_, _, _, rfl, rfl, es_row HEV.out (by simp) BX.out _, hz⟩
        · go_simp
          refine hK.out _ _ (h2.alloc h2.size _) (fun h14 => ?_)
          obtain ⟨X13, hX⟩ : ∃ X, X1.alloc (.cells #[.int .i64 0, .string ⟨#[]⟩, .string ⟨#[]⟩, .int .i64 0, .slice none 0 0] 34) = X := ⟨_, rfl⟩
          have BX : Hid (Blk X13 X1.heap.size 34 #[.int .i64 0, .string ⟨#[]⟩, .string ⟨#[]⟩, .int .i64 0, .slice none 0 0]) := by rw [← hX]; exact bkN rfl _ _
          have hb : Below X1.heap.size X1 X13 := by rw [← hX]; exact (Below.refl _ _).alloc (Nat.le_refl _) _
          have hbx : X.heap.size ≤ X1.heap.size := h2.size
          change wpAnyH Try.prog _ _ _ _ _ _ _ (X1.alloc (.cells #[.int .i64 0, .string ⟨#[]⟩, .string ⟨#[]⟩, .int .i64 0, .slice none 0 0] 34))
          rw [hX] at h14 ⊢
          clear hX
          have HLY := Lib.hid (HLY.out.below hb)
          clear hb
          refine wpAnyH_ready (rs := [5]) (by kernel_rfl) (by simp) (AllReadyH.cons rfl (fun KK hK => ?_) AllReadyH.nil)
          go_simp
          obtain ⟨X15, hX⟩ : ∃ X, X13.alloc (.cells #[.int .i64 1, .string ⟨#[]⟩, .string ⟨#[]⟩, .int .i64 0, .slice none 0 0, .int .i64 5, .string ⟨#[]⟩, .string ⟨#[]⟩, .int .i64 0, .slice (some ⟨gl, 0, none⟩) 1 1] 34) = X := ⟨_, rfl⟩
          have hr : Blk X15 X13.heap.size 34 #[.int .i64 1, .string ⟨#[]⟩, .string ⟨#[]⟩, .int .i64 0, .slice none 0 0, .int .i64 5, .string ⟨#[]⟩, .string ⟨#[]⟩, .int .i64 0, .slice (some ⟨gl, 0, none⟩) 1 1] := by rw [← hX]; exact bkN rfl _ _
          have hb : Below X13.heap.size X13 X15 := by rw [← hX]; exact (Below.refl _ _).alloc (Nat.le_refl _) _
          have h16' := stepB h14 hb (Nat.le_refl _)
          have HLY := Lib.hid (HLY.out.below hb)
          have BX := Lib.hid (blkB BX.out hb)
          have HROW := Lib.hid hr
          refine hK.out _ _ (by rw [hX]; exact h16') (fun h16 => ?_)
          change wpAnyH Try.prog _ _ _ _ _ _ _ (X13.alloc (.cells #[.int .i64 1, .string ⟨#[]⟩, .string ⟨#[]⟩, .int .i64 0, .slice none 0 0, .int .i64 5, .string ⟨#[]⟩, .string ⟨#[]⟩, .int .i64 0, .slice (some ⟨gl, 0, none⟩) 1 1] 34))
          rw [hX] at h16 ⊢
          clear hX hr hb
          refine wpAnyH_ready (rs := [6]) (by kernel_rfl) (by simp) (AllReadyH.cons rfl (fun KK hK => ?_) AllReadyH.nil)
          go_simp
          refine (callA2 _ _ _ gl X15 (HSC2.out.below h16) (fnA_below HFN2.out h16) HROW.out HLY.out).mono ?_
          rintro e X17 ⟨ua, un, up, uq, uo, ue, uk, ov, kv, rfl, hev, hb⟩
          have HEV := Lib.hid hev
          clear hev
          have h18' := stepB h16 hb (Nat.le_refl _)
          have HLY := Lib.hid (HLY.out.below hb)
          have BX := Lib.hid (blkB BX.out hb)
          have HROW := Lib.hid (blkB HROW.out hb)
          refine hK.out _ _ h18' (fun h18 => ?_)
          clear hb
          refine wpAnyH_take (i := 7) (v := .tuple #[.agg #[.int .i64 ua, .string up, .string uq, .int .i64 un, .slice uo ue uk], .slice ov 1 kv]) rfl (by kernel_rfl) (by kernel_rfl) (by kernel_rfl) (fun _ _ _ h => h) (Or.inl ⟨by kernel_rfl, fun w' hw' => ?_⟩) h18 ?_
          · go_simp
          refine wpAnyH_take (i := 9) (v := .slice ov 1 kv) rfl (by kernel_rfl) (by kernel_rfl) (by kernel_rfl) (fun _ _ _ h => h) (Or.inl ⟨by kernel_rfl, fun w' hw' => ?_⟩) h18 ?_
          · go_simp
          refine wpAnyH_ready (rs := [8]) (by kernel_rfl) (by simp) (AllReadyH.cons rfl (fun KK hK => ?_) AllReadyH.nil)
          go_simp
          refine hK.out _ _ h18 (fun h18 => ?_)
          refine wpAnyH_ready (rs := [11]) (by kernel_rfl) (by simp) (AllReadyH.cons rfl (fun KK hK => ?_) AllReadyH.nil)
          refine wp_store_row (P := Try.prog) 34 _ _ rfl X1.heap.size #[.int .i64 ua, .string up, .string uq, .int .i64 un, .slice uo ue uk] (by kernel_rfl) (by kernel_rfl) 34 #[.int .i64 0, .string ⟨#[]⟩, .string ⟨#[]⟩, .int .i64 0, .slice none 0 0] BX.out (by rw [size5]; rfl) rfl (by simp [Value.oneCell']) ?_
          refine hK.out _ _ (below_setRow h18 hbx _) (fun hz => ?_)
          refine wpAnyH_take (i := 12) (v := .slice ov 1 kv) rfl (by kernel_rfl) (by kernel_rfl) (by kernel_rfl) (fun _ _ _ h => h) (Or.inl ⟨by kernel_rfl, fun w' hw' => ?_⟩) hz ?_
          · go_simp
          refine wpAnyH_done (by kernel_rfl) ?_ _
          go_wp2_with fail
          go_meet
          exact ⟨_, _, _, rfl, rfl, es_row HEV.out (by simp) BX.out _, hz⟩
      · go_simp
        refine hK.out _ _ (hS0.alloc hS0.size _) (fun h20 => ?_)
        obtain ⟨X19, hX⟩ : ∃ X, V0.alloc (.cells #[.int .i64 0, .string ⟨#[]⟩, .string ⟨#[]⟩, .int .i64 0, .slice none 0 0] 34) = X := ⟨_, rfl⟩
        have BX : Hid (Blk X19 V0.heap.size 34 #[.int .i64 0, .string ⟨#[]⟩, .string ⟨#[]⟩, .int .i64 0, .slice none 0 0]) := by rw [← hX]; exact bkN rfl _ _
        have hb : Below V0.heap.size V0 X19 := by rw [← hX]; exact (Below.refl _ _).alloc (Nat.le_refl _) _
        have hbx : X.heap.size ≤ V0.heap.size := hS0.size
        change wpAnyH Try.prog _ _ _ _ _ _ _ (V0.alloc (.cells #[.int .i64 0, .string ⟨#[]⟩, .string ⟨#[]⟩, .int .i64 0, .slice none 0 0] 34))
        rw [hX] at h20 ⊢
        clear hX
        clear hb
        refine wpAnyH_ready (rs := [4]) (by kernel_rfl) (by simp) (AllReadyH.cons rfl (fun KK hK => ?_) AllReadyH.nil)
        go_simp
        refine (list_call numA _ _ (leaf_is _ _ _ _ _)).mono ?_
        rintro e X21 ⟨gl, _, rfl, hl, hb⟩
        have h22' := stepB h20 hb (Nat.le_refl _)
        have BX := Lib.hid (blkB BX.out hb)
        have HLY := Lib.hid hl
        refine hK.out _ _ h22' (fun h22 => ?_)
        clear hb
        clear hl
        refine wpAnyH_ready (rs := [5]) (by kernel_rfl) (by simp) (AllReadyH.cons rfl (fun KK hK => ?_) AllReadyH.nil)
        go_simp
        obtain ⟨X23, hX⟩ : ∃ X, X21.alloc (.cells #[.int .i64 1, .string ⟨#[]⟩, .string ⟨#[]⟩, .int .i64 0, .slice none 0 0, .int .i64 5, .string ⟨#[]⟩, .string ⟨#[]⟩, .int .i64 0, .slice (some ⟨gl, 0, none⟩) 1 1] 34) = X := ⟨_, rfl⟩
        have hr : Blk X23 X21.heap.size 34 #[.int .i64 1, .string ⟨#[]⟩, .string ⟨#[]⟩, .int .i64 0, .slice none 0 0, .int .i64 5, .string ⟨#[]⟩, .string ⟨#[]⟩, .int .i64 0, .slice (some ⟨gl, 0, none⟩) 1 1] := by rw [← hX]; exact bkN rfl _ _
        have hb : Below X21.heap.size X21 X23 := by rw [← hX]; exact (Below.refl _ _).alloc (Nat.le_refl _) _
        have h24' := stepB h22 hb (Nat.le_refl _)
        have BX := Lib.hid (blkB BX.out hb)
        have HLY := Lib.hid (HLY.out.below hb)
        have HROW := Lib.hid hr
        refine hK.out _ _ (by rw [hX]; exact h24') (fun h24 => ?_)
        change wpAnyH Try.prog _ _ _ _ _ _ _ (X21.alloc (.cells #[.int .i64 1, .string ⟨#[]⟩, .string ⟨#[]⟩, .int .i64 0, .slice none 0 0, .int .i64 5, .string ⟨#[]⟩, .string ⟨#[]⟩, .int .i64 0, .slice (some ⟨gl, 0, none⟩) 1 1] 34))
        rw [hX] at h24 ⊢
        clear hX hr hb
        refine wpAnyH_ready (rs := [6]) (by kernel_rfl) (by simp) (AllReadyH.cons rfl (fun KK hK => ?_) AllReadyH.nil)
        go_simp
        refine (callA2 _ _ _ gl X23 (HSC2.out.below h24) (fnA_below HFN2.out h24) HROW.out HLY.out).mono ?_
        rintro e X25 ⟨ua, un, up, uq, uo, ue, uk, ov, kv, rfl, hev, hb⟩
        have HEV := Lib.hid hev
        clear hev
        have h26' := stepB h24 hb (Nat.le_refl _)
        have BX := Lib.hid (blkB BX.out hb)
        have HLY := Lib.hid (HLY.out.below hb)
        have HROW := Lib.hid (blkB HROW.out hb)
        refine hK.out _ _ h26' (fun h26 => ?_)
        clear hb
        refine wpAnyH_take (i := 7) (v := .tuple #[.agg #[.int .i64 ua, .string up, .string uq, .int .i64 un, .slice uo ue uk], .slice ov 1 kv]) rfl (by kernel_rfl) (by kernel_rfl) (by kernel_rfl) (fun _ _ _ h => h) (Or.inl ⟨by kernel_rfl, fun w' hw' => ?_⟩) h26 ?_
        · go_simp
        refine wpAnyH_take (i := 9) (v := .slice ov 1 kv) rfl (by kernel_rfl) (by kernel_rfl) (by kernel_rfl) (fun _ _ _ h => h) (Or.inl ⟨by kernel_rfl, fun w' hw' => ?_⟩) h26 ?_
        · go_simp
        refine wpAnyH_ready (rs := [8]) (by kernel_rfl) (by simp) (AllReadyH.cons rfl (fun KK hK => ?_) AllReadyH.nil)
        go_simp
        refine hK.out _ _ h26 (fun h26 => ?_)
        refine wpAnyH_ready (rs := [11]) (by kernel_rfl) (by simp) (AllReadyH.cons rfl (fun KK hK => ?_) AllReadyH.nil)
        refine wp_store_row (P := Try.prog) 34 _ _ rfl V0.heap.size #[.int .i64 ua, .string up, .string uq, .int .i64 un, .slice uo ue uk] (by kernel_rfl) (by kernel_rfl) 34 #[.int .i64 0, .string ⟨#[]⟩, .string ⟨#[]⟩, .int .i64 0, .slice none 0 0] BX.out (by rw [size5]; rfl) rfl (by simp [Value.oneCell']) ?_
        refine hK.out _ _ (below_setRow h26 hbx _) (fun hz => ?_)
        refine wpAnyH_take (i := 12) (v := .slice ov 1 kv) rfl (by kernel_rfl) (by kernel_rfl) (by kernel_rfl) (fun _ _ _ h => h) (Or.inl ⟨by kernel_rfl, fun w' hw' => ?_⟩) hz ?_
        · go_simp
        refine wpAnyH_done (by kernel_rfl) ?_ _
        go_wp2_with fail
        go_meet
        exact ⟨_, _, _, rfl, rfl, es_row HEV.out (by simp) BX.out _, hz⟩
    case rest =>
      obtain ⟨g7, ov7, kv7, rfl, rfl, H7E, H7W⟩ := hcut
      obtain ⟨Y, rfl⟩ : ∃ Y, Y = wc := ⟨wc, rfl⟩
      have HSC3 := Lib.hid (HSC2.out.below H7W.out)
      have HBS3 := Lib.hid (blkB HBS2.out H7W.out)
      have HFN3 := Lib.hid (fnA_below HFN2.out H7W.out)
      have HBF3 := Lib.hid (blkB HBF2.out H7W.out)
      have HBN3 := Lib.hid (blkB HBN2.out H7W.out)
      have HB53 := Lib.hid (blkB H5B.out H7W.out)
      have HWY := Lib.hid (stepB HWX.out H7W.out (Nat.le_refl _))
      clear HSC2 HBS2 HFN2 HBF2 HBN2 HWX H7W H5B
      go_wp2_with fail
      go_cut [9, 10] from 52 to 61 (fun v9 v10 wx => ∃ (g9 : Nat) (ov : Option Addr) (kv : Nat), v9 = .pointer (some ⟨g9, 0, none⟩) ∧ v10 = .slice ov 1 kv ∧ Hid (IsEs wx [(1, 11)] (.slice ov 1 kv)) ∧ Hid (Below Y.heap.size Y wx))
      case first =>
        have hS0 : (fun w' : World => Below Y.heap.size Y w') Y.drew := (Below.refl _ _).drew
        refine wp_region_held_drew (S := (fun w' : World => Below Y.heap.size Y w')) (by kernel_rfl) hS0 fun hS0 => ?_
        refine wpAnyH_take (i := 0) (v := .agg #[.slice (some ⟨w.heap.size + 1 + 1 + 1 + 1, 0, none⟩) 1 1, .slice none 0 0, .slice none 0 0, .slice none 0 0, .slice none 0 0]) rfl (by kernel_rfl) (by kernel_rfl) (by kernel_rfl) (fun _ _ _ h => h) (Or.inl ⟨by kernel_rfl, fun w' hw' => ?_⟩) hS0 ?_
        · exact run_loadG 32 5 sizeS5 Try.underlying32 _ rfl ⟨w.heap.size + 1 + 1 + 1 + 1 + 1, 0, none⟩ (by kernel_rfl) (cs := [.slice (some ⟨w.heap.size + 1 + 1 + 1 + 1, 0, none⟩) 1 1, .slice none 0 0, .slice none 0 0, .slice none 0 0, .slice none 0 0]) (bk0 (blkB HBS3.out hw')) rfl
        refine wpAnyH_take (i := 1) (v := .agg #[.string ⟨#[]⟩, .slice (some ⟨gB, 0, none⟩) 1 1, .slice (some ⟨gP, 0, none⟩) 2 2, .int .i64 6, .string ⟨#[]⟩, .string (b1 80), .int .i64 0, .slice none 0 0]) rfl (by kernel_rfl) (by kernel_rfl) (by kernel_rfl) (fun _ _ _ h => h) (Or.inl ⟨by kernel_rfl, fun w' hw' => ?_⟩) hS0 ?_
        · exact run_loadG 36 8 sizeF8 Try.underlying36 _ rfl ⟨fb, 0, none⟩ (by kernel_rfl) (cs := [.string ⟨#[]⟩, .slice (some ⟨gB, 0, none⟩) 1 1, .slice (some ⟨gP, 0, none⟩) 2 2, .int .i64 6, .string ⟨#[]⟩, .string (b1 80), .int .i64 0, .slice none 0 0]) (bk0 (blkB HBF3.out hw')) rfl
        refine wpAnyH_take (i := 3) (v := .agg #[.int .i64 1, .string ⟨#[]⟩, .string ⟨#[]⟩, .int .i64 0, .slice none 0 0]) rfl (by kernel_rfl) (by kernel_rfl) (by kernel_rfl) (fun _ _ _ h => h) (Or.inl ⟨by kernel_rfl, fun w' hw' => ?_⟩) hS0 ?_
        · exact run_loadG 34 5 size5 Try.underlying34 _ rfl ⟨(fb + 1), 0, none⟩ (by kernel_rfl) (cs := [.int .i64 1, .string ⟨#[]⟩, .string ⟨#[]⟩, .int .i64 0, .slice none 0 0]) (bk0 (blkB HBN3.out hw')) rfl
        obtain ⟨V0, hV0⟩ : ∃ V0, Y.drew = V0 := ⟨_, rfl⟩
        rw [hV0] at hS0 ⊢
        clear hV0
        refine wpAnyH_ready (rs := [2, 10]) (by kernel_rfl) (by simp) (AllReadyH.cons rfl (fun KK hK => ?_) (AllReadyH.cons rfl (fun KK hK => ?_) AllReadyH.nil))
        · go_simp
          refine (named_call _ _).mono ?_
          rintro e X1 ⟨rfl, hb⟩
          have h2' := stepB hS0 hb (Nat.le_refl _)
          refine hK.out _ _ h2' (fun h2 => ?_)
          clear hb
          refine wpAnyH_ready (rs := [4, 10]) (by kernel_rfl) (by simp) (AllReadyH.cons rfl (fun KK hK => ?_) (AllReadyH.cons rfl (fun KK hK => ?_) AllReadyH.nil))
          · go_simp
            refine (list_call numA _ _ (leaf_is _ _ _ _ _)).mono ?_
            rintro e X3 ⟨gl, _, rfl, hl, hb⟩
            have h4' := stepB h2 hb (Nat.le_refl _)
            have HLY := Lib.hid hl
            refine hK.out _ _ h4' (fun h4 => ?_)
            clear hb
            clear hl
            refine wpAnyH_ready (rs := [5, 10]) (by kernel_rfl) (by simp) (AllReadyH.cons rfl (fun KK hK => ?_) (AllReadyH.cons rfl (fun KK hK => ?_) AllReadyH.nil))
            · go_simp
              obtain ⟨X5, hX⟩ : ∃ X, X3.alloc (.cells #[.int .i64 4, .string (b1 97), .string (b1 84), .int .i64 0, .slice none 0 0, .int .i64 5, .string ⟨#[]⟩, .string ⟨#[]⟩, .int .i64 0, .slice (some ⟨gl, 0, none⟩) 1 1] 34) = X := ⟨_, rfl⟩
              have hr : Blk X5 X3.heap.size 34 #[.int .i64 4, .string (b1 97), .string (b1 84), .int .i64 0, .slice none 0 0, .int .i64 5, .string ⟨#[]⟩, .string ⟨#[]⟩, .int .i64 0, .slice (some ⟨gl, 0, none⟩) 1 1] := by rw [← hX]; exact bkN rfl _ _
              have hb : Below X3.heap.size X3 X5 := by rw [← hX]; exact (Below.refl _ _).alloc (Nat.le_refl _) _
              have h6' := stepB h4 hb (Nat.le_refl _)
              have HLY := Lib.hid (HLY.out.below hb)
              have HROW := Lib.hid hr
              refine hK.out _ _ (by rw [hX]; exact h6') (fun h6 => ?_)
              change wpAnyH Try.prog _ _ _ _ _ _ _ (X3.alloc (.cells #[.int .i64 4, .string (b1 97), .string (b1 84), .int .i64 0, .slice none 0 0, .int .i64 5, .string ⟨#[]⟩, .string ⟨#[]⟩, .int .i64 0, .slice (some ⟨gl, 0, none⟩) 1 1] 34))
              rw [hX] at h6 ⊢
              clear hX hr hb
              refine wpAnyH_ready (rs := [6, 10]) (by kernel_rfl) (by simp) (AllReadyH.cons rfl (fun KK hK => ?_) (AllReadyH.cons rfl (fun KK hK => ?_) AllReadyH.nil))
              · go_simp
                refine (callA3 _ _ _ gl X5 (HSC3.out.below h6) (fnA_below HFN3.out h6) HROW.out HLY.out).mono ?_
                rintro e X7 ⟨ua, un, up, uq, uo, ue, uk, ov, kv, rfl, hev, hb⟩
                have HEV := Lib.hid hev
                clear hev
                have h8' := stepB h6 hb (Nat.le_refl _)
                have HLY := Lib.hid (HLY.out.below hb)
                have HROW := Lib.hid (blkB HROW.out hb)
                refine hK.out _ _ h8' (fun h8 => ?_)
                clear hb
                refine wpAnyH_take (i := 7) (v := .tuple #[.agg #[.int .i64 ua, .string up, .string uq, .int .i64 un, .slice uo ue uk], .slice ov 1 kv]) rfl (by kernel_rfl) (by kernel_rfl) (by kernel_rfl) (fun _ _ _ h => h) (Or.inl ⟨by kernel_rfl, fun w' hw' => ?_⟩) h8 ?_
                · go_simp
                refine wpAnyH_take (i := 8) (v := .agg #[.int .i64 ua, .string up, .string uq, .int .i64 un, .slice uo ue uk]) rfl (by kernel_rfl) (by kernel_rfl) (by kernel_rfl) (fun _ _ _ h => h) (Or.inl ⟨by kernel_rfl, fun w' hw' => ?_⟩) h8 ?_
                · go_simp
                refine wpAnyH_take (i := 9) (v := .slice ov 1 kv) rfl (by kernel_rfl) (by kernel_rfl) (by kernel_rfl) (fun _ _ _ h => h) (Or.inl ⟨by kernel_rfl, fun w' hw' => ?_⟩) h8 ?_
                · go_simp
                refine wpAnyH_ready (rs := [10]) (by kernel_rfl) (by simp) (AllReadyH.cons rfl (fun KK hK => ?_) AllReadyH.nil)
                go_simp
                refine hK.out _ _ (h8.alloc h8.size _) (fun h10 => ?_)
                obtain ⟨X9, hX⟩ : ∃ X, X7.alloc (.cells #[.int .i64 0, .string ⟨#[]⟩, .string ⟨#[]⟩, .int .i64 0, .slice none 0 0] 34) = X := ⟨_, rfl⟩
                have BX : Hid (Blk X9 X7.heap.size 34 #[.int .i64 0, .string ⟨#[]⟩, .string ⟨#[]⟩, .int .i64 0, .slice none 0 0]) := by rw [← hX]; exact bkN rfl _ _
                have hb : Below X7.heap.size X7 X9 := by rw [← hX]; exact (Below.refl _ _).alloc (Nat.le_refl _) _
                have hbx : Y.heap.size ≤ X7.heap.size := h8.size
                change wpAnyH Try.prog _ _ _ _ _ _ _ (X7.alloc (.cells #[.int .i64 0, .string ⟨#[]⟩, .string ⟨#[]⟩, .int .i64 0, .slice none 0 0] 34))
                rw [hX] at h10 ⊢
                clear hX
                have HLY := Lib.hid (HLY.out.below hb)
                have HROW := Lib.hid (blkB HROW.out hb)
                have HEV := Lib.hid (es_below HEV.out hb)
                clear hb
                refine wpAnyH_ready (rs := [11]) (by kernel_rfl) (by simp) (AllReadyH.cons rfl (fun KK hK => ?_) AllReadyH.nil)
                refine wp_store_row (P := Try.prog) 34 _ _ rfl X7.heap.size #[.int .i64 ua, .string up, .string uq, .int .i64 un, .slice uo ue uk] (by kernel_rfl) (by kernel_rfl) 34 #[.int .i64 0, .string ⟨#[]⟩, .string ⟨#[]⟩, .int .i64 0, .slice none 0 0] BX.out (by rw [size5]; rfl) rfl (by simp [Value.oneCell']) ?_
                refine hK.out _ _ (below_setRow h10 hbx _) (fun hz => ?_)
                refine wpAnyH_take (i := 12) (v := .slice ov 1 kv) rfl (by kernel_rfl) (by kernel_rfl) (by kernel_rfl) (fun _ _ _ h => h) (Or.inl ⟨by kernel_rfl, fun w' hw' => ?_⟩) hz ?_
                · go_simp
                refine wpAnyH_done (by kernel_rfl) ?_ _
                go_wp2_with fail
                go_meet
                exact ⟨_, _, _, rfl, rfl, es_row HEV.out (by simp) BX.out _, hz⟩
              · go_simp
                refine hK.out _ _ (h6.alloc h6.size _) (fun h12 => ?_)
                obtain ⟨X11, hX⟩ : ∃ X, X5.alloc (.cells #[.int .i64 0, .string ⟨#[]⟩, .string ⟨#[]⟩, .int .i64 0, .slice none 0 0] 34) = X := ⟨_, rfl⟩
                have BX : Hid (Blk X11 X5.heap.size 34 #[.int .i64 0, .string ⟨#[]⟩, .string ⟨#[]⟩, .int .i64 0, .slice none 0 0]) := by rw [← hX]; exact bkN rfl _ _
                have hb : Below X5.heap.size X5 X11 := by rw [← hX]; exact (Below.refl _ _).alloc (Nat.le_refl _) _
                have hbx : Y.heap.size ≤ X5.heap.size := h6.size
                change wpAnyH Try.prog _ _ _ _ _ _ _ (X5.alloc (.cells #[.int .i64 0, .string ⟨#[]⟩, .string ⟨#[]⟩, .int .i64 0, .slice none 0 0] 34))
                rw [hX] at h12 ⊢
                clear hX
                have HLY := Lib.hid (HLY.out.below hb)
                have HROW := Lib.hid (blkB HROW.out hb)
                clear hb
                refine wpAnyH_ready (rs := [6]) (by kernel_rfl) (by simp) (AllReadyH.cons rfl (fun KK hK => ?_) AllReadyH.nil)
                go_simp
                refine (callA3 _ _ _ gl X11 (HSC3.out.below h12) (fnA_below HFN3.out h12) HROW.out HLY.out).mono ?_
                rintro e X13 ⟨ua, un, up, uq, uo, ue, uk, ov, kv, rfl, hev, hb⟩
                have HEV := Lib.hid hev
                clear hev
                have h14' := stepB h12 hb (Nat.le_refl _)
                have HLY := Lib.hid (HLY.out.below hb)
                have HROW := Lib.hid (blkB HROW.out hb)
                have BX := Lib.hid (blkB BX.out hb)
                refine hK.out _ _ h14' (fun h14 => ?_)
                clear hb
                refine wpAnyH_take (i := 7) (v := .tuple #[.agg #[.int .i64 ua, .string up, .string uq, .int .i64 un, .slice uo ue uk], .slice ov 1 kv]) rfl (by kernel_rfl) (by kernel_rfl) (by kernel_rfl) (fun _ _ _ h => h) (Or.inl ⟨by kernel_rfl, fun w' hw' => ?_⟩) h14 ?_
                · go_simp
                refine wpAnyH_take (i := 9) (v := .slice ov 1 kv) rfl (by kernel_rfl) (by kernel_rfl) (by kernel_rfl) (fun _ _ _ h => h) (Or.inl ⟨by kernel_rfl, fun w' hw' => ?_⟩) h14 ?_
                · go_simp
                refine wpAnyH_ready (rs := [8]) (by kernel_rfl) (by simp) (AllReadyH.cons rfl (fun KK hK => ?_) AllReadyH.nil)
                go_simp
                refine hK.out _ _ h14 (fun h14 => ?_)
                refine wpAnyH_ready (rs := [11]) (by kernel_rfl) (by simp) (AllReadyH.cons rfl (fun KK hK => ?_) AllReadyH.nil)
                refine wp_store_row (P := Try.prog) 34 _ _ rfl X5.heap.size #[.int .i64 ua, .string up, .string uq, .int .i64 un, .slice uo ue uk] (by kernel_rfl) (by kernel_rfl) 34 #[.int .i64 0, .string ⟨#[]⟩, .string ⟨#[]⟩, .int .i64 0, .slice none 0 0] BX.out (by rw [size5]; rfl) rfl (by simp [Value.oneCell']) ?_
                refine hK.out _ _ (below_setRow h14 hbx _) (fun hz => ?_)
                refine wpAnyH_take (i := 12) (v := .slice ov 1 kv) rfl (by kernel_rfl) (by kernel_rfl) (by kernel_rfl) (fun _ _ _ h => h) (Or.inl ⟨by kernel_rfl, fun w' hw' => ?_⟩) hz ?_
                · go_simp
                refine wpAnyH_done (by kernel_rfl) ?_ _
                go_wp2_with fail
                go_meet
                exact ⟨_, _, _, rfl, rfl, es_row HEV.out (by simp) BX.out _, hz⟩
            · go_simp
              refine hK.out _ _ (h4.alloc h4.size _) (fun h16 => ?_)
              obtain ⟨X15, hX⟩ : ∃ X, X3.alloc (.cells #[.int .i64 0, .string ⟨#[]⟩, .string ⟨#[]⟩, .int .i64 0, .slice none 0 0] 34) = X := ⟨_, rfl⟩
              have BX : Hid (Blk X15 X3.heap.size 34 #[.int .i64 0, .string ⟨#[]⟩, .string ⟨#[]⟩, .int .i64 0, .slice none 0 0]) := by rw [← hX]; exact bkN rfl _ _
              have hb : Below X3.heap.size X3 X15 := by rw [← hX]; exact (Below.refl _ _).alloc (Nat.le_refl _) _
              have hbx : Y.heap.size ≤ X3.heap.size := h4.size
              change wpAnyH Try.prog _ _ _ _ _ _ _ (X3.alloc (.cells #[.int .i64 0, .string ⟨#[]⟩, .string ⟨#[]⟩, .int .i64 0, .slice none 0 0] 34))
              rw [hX] at h16 ⊢
              clear hX
              have HLY := Lib.hid (HLY.out.below hb)
              clear hb
              refine wpAnyH_ready (rs := [5]) (by kernel_rfl) (by simp) (AllReadyH.cons rfl (fun KK hK => ?_) AllReadyH.nil)
              go_simp
              obtain ⟨X17, hX⟩ : ∃ X, X15.alloc (.cells #[.int .i64 4, .string (b1 97), .string (b1 84), .int .i64 0, .slice none 0 0, .int .i64 5, .string ⟨#[]⟩, .string ⟨#[]⟩, .int .i64 0, .slice (some ⟨gl, 0, none⟩) 1 1] 34) = X := ⟨_, rfl⟩
              have hr : Blk X17 X15.heap.size 34 #[.int .i64 4, .string (b1 97), .string (b1 84), .int .i64 0, .slice none 0 0, .int .i64 5, .string ⟨#[]⟩, .string ⟨#[]⟩, .int .i64 0, .slice (some ⟨gl, 0, none⟩) 1 1] := by rw [← hX]; exact bkN rfl _ _
              have hb : Below X15.heap.size X15 X17 := by rw [← hX]; exact (Below.refl _ _).alloc (Nat.le_refl _) _
              have h18' := stepB h16 hb (Nat.le_refl _)
              have HLY := Lib.hid (HLY.out.below hb)
              have BX := Lib.hid (blkB BX.out hb)
              have HROW := Lib.hid hr
              refine hK.out _ _ (by rw [hX]; exact h18') (fun h18 => ?_)
              change wpAnyH Try.prog _ _ _ _ _ _ _ (X15.alloc (.cells #[.int .i64 4, .string (b1 97), .string (b1 84), .int .i64 0, .slice none 0 0, .int .i64 5, .string ⟨#[]⟩, .string ⟨#[]⟩, .int .i64 0, .slice (some ⟨gl, 0, none⟩) 1 1] 34))
              rw [hX] at h18 ⊢
              clear hX hr hb
              refine wpAnyH_ready (rs := [6]) (by kernel_rfl) (by simp) (AllReadyH.cons rfl (fun KK hK => ?_) AllReadyH.nil)
              go_simp
              refine (callA3 _ _ _ gl X17 (HSC3.out.below h18) (fnA_below HFN3.out h18) HROW.out HLY.out).mono ?_
              rintro e X19 ⟨ua, un, up, uq, uo, ue, uk, ov, kv, rfl, hev, hb⟩
              have HEV := Lib.hid hev
              clear hev
              have h20' := stepB h18 hb (Nat.le_refl _)
              have HLY := Lib.hid (HLY.out.below hb)
              have BX := Lib.hid (blkB BX.out hb)
              have HROW := Lib.hid (blkB HROW.out hb)
              refine hK.out _ _ h20' (fun h20 => ?_)
              clear hb
              refine wpAnyH_take (i := 7) (v := .tuple #[.agg #[.int .i64 ua, .string up, .string uq, .int .i64 un, .slice uo ue uk], .slice ov 1 kv]) rfl (by kernel_rfl) (by kernel_rfl) (by kernel_rfl) (fun _ _ _ h => h) (Or.inl ⟨by kernel_rfl, fun w' hw' => ?_⟩) h20 ?_
              · go_simp
              refine wpAnyH_take (i := 9) (v := .slice ov 1 kv) rfl (by kernel_rfl) (by kernel_rfl) (by kernel_rfl) (fun _ _ _ h => h) (Or.inl ⟨by kernel_rfl, fun w' hw' => ?_⟩) h20 ?_
              · go_simp
              refine wpAnyH_ready (rs := [8]) (by kernel_rfl) (by simp) (AllReadyH.cons rfl (fun KK hK => ?_) AllReadyH.nil)
              go_simp
              refine hK.out _ _ h20 (fun h20 => ?_)
              refine wpAnyH_ready (rs := [11]) (by kernel_rfl) (by simp) (AllReadyH.cons rfl (fun KK hK => ?_) AllReadyH.nil)
              refine wp_store_row (P := Try.prog) 34 _ _ rfl X3.heap.size #[.int .i64 ua, .string up, .string uq, .int .i64 un, .slice uo ue uk] (by kernel_rfl) (by kernel_rfl) 34 #[.int .i64 0, .string ⟨#[]⟩, .string ⟨#[]⟩, .int .i64 0, .slice none 0 0] BX.out (by rw [size5]; rfl) rfl (by simp [Value.oneCell']) ?_
              refine hK.out _ _ (below_setRow h20 hbx _) (fun hz => ?_)
              refine wpAnyH_take (i := 12) (v := .slice ov 1 kv) rfl (by kernel_rfl) (by kernel_rfl) (by kernel_rfl) (fun _ _ _ h => h) (Or.inl ⟨by kernel_rfl, fun w' hw' => ?_⟩) hz ?_
              · go_simp
              refine wpAnyH_done (by kernel_rfl) ?_ _
              go_wp2_with fail
              go_meet
              exact ⟨_, _, _, rfl, rfl, es_row HEV.out (by simp) BX.out _, hz⟩
          · go_simp
            refine hK.out _ _ (h2.alloc h2.size _) (fun h22 => ?_)
            obtain ⟨X21, hX⟩ : ∃ X, X1.alloc (.cells #[.int .i64 0, .string ⟨#[]⟩, .string ⟨#[]⟩, .int .i64 0, .slice none 0 0] 34) = X := ⟨_, rfl⟩
            have BX : Hid (Blk X21 X1.heap.size 34 #[.int .i64 0, .string ⟨#[]⟩, .string ⟨#[]⟩, .int .i64 0, .slice none 0 0]) := by rw [← hX]; exact bkN rfl _ _
            have hb : Below X1.heap.size X1 X21 := by rw [← hX]; exact (Below.refl _ _).alloc (Nat.le_refl _) _
            have hbx : Y.heap.size ≤ X1.heap.size := h2.size
            change wpAnyH Try.prog _ _ _ _ _ _ _ (X1.alloc (.cells #[.int .i64 0, .string ⟨#[]⟩, .string ⟨#[]⟩, .int .i64 0, .slice none 0 0] 34))
            rw [hX] at h22 ⊢
            clear hX
            clear hb
            refine wpAnyH_ready (rs := [4]) (by kernel_rfl) (by simp) (AllReadyH.cons rfl (fun KK hK => ?_) AllReadyH.nil)
            go_simp
            refine (list_call numA _ _ (leaf_is _ _ _ _ _)).mono ?_
            rintro e X23 ⟨gl, _, rfl, hl, hb⟩
            have h24' := stepB h22 hb (Nat.le_refl _)
            have BX := Lib.hid (blkB BX.out hb)
            have HLY := Lib.hid hl
            refine hK.out _ _ h24' (fun h24 => ?_)
            clear hb
            clear hl
            refine wpAnyH_ready (rs := [5]) (by kernel_rfl) (by simp) (AllReadyH.cons rfl (fun KK hK => ?_) AllReadyH.nil)
            go_simp
            obtain ⟨X25, hX⟩ : ∃ X, X23.alloc (.cells #[.int .i64 4, .string (b1 97), .string (b1 84), .int .i64 0, .slice none 0 0, .int .i64 5, .string ⟨#[]⟩, .string ⟨#[]⟩, .int .i64 0, .slice (some ⟨gl, 0, none⟩) 1 1] 34) = X := ⟨_, rfl⟩
            have hr : Blk X25 X23.heap.size 34 #[.int .i64 4, .string (b1 97), .string (b1 84), .int .i64 0, .slice none 0 0, .int .i64 5, .string ⟨#[]⟩, .string ⟨#[]⟩, .int .i64 0, .slice (some ⟨gl, 0, none⟩) 1 1] := by rw [← hX]; exact bkN rfl _ _
            have hb : Below X23.heap.size X23 X25 := by rw [← hX]; exact (Below.refl _ _).alloc (Nat.le_refl _) _
            have h26' := stepB h24 hb (Nat.le_refl _)
            have BX := Lib.hid (blkB BX.out hb)
            have HLY := Lib.hid (HLY.out.below hb)
            have HROW := Lib.hid hr
            refine hK.out _ _ (by rw [hX]; exact h26') (fun h26 => ?_)
            change wpAnyH Try.prog _ _ _ _ _ _ _ (X23.alloc (.cells #[.int .i64 4, .string (b1 97), .string (b1 84), .int .i64 0, .slice none 0 0, .int .i64 5, .string ⟨#[]⟩, .string ⟨#[]⟩, .int .i64 0, .slice (some ⟨gl, 0, none⟩) 1 1] 34))
            rw [hX] at h26 ⊢
            clear hX hr hb
            refine wpAnyH_ready (rs := [6]) (by kernel_rfl) (by simp) (AllReadyH.cons rfl (fun KK hK => ?_) AllReadyH.nil)
            go_simp
            refine (callA3 _ _ _ gl X25 (HSC3.out.below h26) (fnA_below HFN3.out h26) HROW.out HLY.out).mono ?_
            rintro e X27 ⟨ua, un, up, uq, uo, ue, uk, ov, kv, rfl, hev, hb⟩
            have HEV := Lib.hid hev
            clear hev
            have h28' := stepB h26 hb (Nat.le_refl _)
            have BX := Lib.hid (blkB BX.out hb)
            have HLY := Lib.hid (HLY.out.below hb)
            have HROW := Lib.hid (blkB HROW.out hb)
            refine hK.out _ _ h28' (fun h28 => ?_)
            clear hb
            refine wpAnyH_take (i := 7) (v := .tuple #[.agg #[.int .i64 ua, .string up, .string uq, .int .i64 un, .slice uo ue uk], .slice ov 1 kv]) rfl (by kernel_rfl) (by kernel_rfl) (by kernel_rfl) (fun _ _ _ h => h) (Or.inl ⟨by kernel_rfl, fun w' hw' => ?_⟩) h28 ?_
            · go_simp
            refine wpAnyH_take (i := 9) (v := .slice ov 1 kv) rfl (by kernel_rfl) (by kernel_rfl) (by kernel_rfl) (fun _ _ _ h => h) (Or.inl ⟨by kernel_rfl, fun w' hw' => ?_⟩) h28 ?_
            · go_simp
            refine wpAnyH_ready (rs := [8]) (by kernel_rfl) (by simp) (AllReadyH.cons rfl (fun KK hK => ?_) AllReadyH.nil)
            go_simp
            refine hK.out _ _ h28 (fun h28 => ?_)
            refine wpAnyH_ready (rs := [11]) (by kernel_rfl) (by simp) (AllReadyH.cons rfl (fun KK hK => ?_) AllReadyH.nil)
            refine wp_store_row (P := Try.prog) 34 _ _ rfl X1.heap.size #[.int .i64 ua, .string up, .string uq, .int .i64 un, .slice uo ue uk] (by kernel_rfl) (by kernel_rfl) 34 #[.int .i64 0, .string ⟨#[]⟩, .string ⟨#[]⟩, .int .i64 0, .slice none 0 0] BX.out (by rw [size5]; rfl) rfl (by simp [Value.oneCell']) ?_
            refine hK.out _ _ (below_setRow h28 hbx _) (fun hz => ?_)
            refine wpAnyH_take (i := 12) (v := .slice ov 1 kv) rfl (by kernel_rfl) (by kernel_rfl) (by kernel_rfl) (fun _ _ _ h => h) (Or.inl ⟨by kernel_rfl, fun w' hw' => ?_⟩) hz ?_
            · go_simp
            refine wpAnyH_done (by kernel_rfl) ?_ _
            go_wp2_with fail
            go_meet
            exact ⟨_, _, _, rfl, rfl, es_row HEV.out (by simp) BX.out _, hz⟩
        · go_simp
          refine hK.out _ _ (hS0.alloc hS0.size _) (fun h30 => ?_)
          obtain ⟨X29, hX⟩ : ∃ X, V0.alloc (.cells #[.int .i64 0, .string ⟨#[]⟩, .string ⟨#[]⟩, .int .i64 0, .slice none 0 0] 34) = X := ⟨_, rfl⟩
          have BX : Hid (Blk X29 V0.heap.size 34 #[.int .i64 0, .string ⟨#[]⟩, .string ⟨#[]⟩, .int .i64 0, .slice none 0 0]) := by rw [← hX]; exact bkN rfl _ _
          have hb : Below V0.heap.size V0 X29 := by rw [← hX]; exact (Below.refl _ _).alloc (Nat.le_refl _) _
          have hbx : Y.heap.size ≤ V0.heap.size := hS0.size
          change wpAnyH Try.prog _ _ _ _ _ _ _ (V0.alloc (.cells #[.int .i64 0, .string ⟨#[]⟩, .string ⟨#[]⟩, .int .i64 0, .slice none 0 0] 34))
          rw [hX] at h30 ⊢
          clear hX
          clear hb
          refine wpAnyH_ready (rs := [2]) (by kernel_rfl) (by simp) (AllReadyH.cons rfl (fun KK hK => ?_) AllReadyH.nil)
          go_simp
          refine (named_call _ _).mono ?_
          rintro e X31 ⟨rfl, hb⟩
          have h32' := stepB h30 hb (Nat.le_refl _)
          have BX := Lib.hid (blkB BX.out hb)
          refine hK.out _ _ h32' (fun h32 => ?_)
          clear hb
          refine wpAnyH_ready (rs := [4]) (by kernel_rfl) (by simp) (AllReadyH.cons rfl (fun KK hK => ?_) AllReadyH.nil)
          go_simp
          refine (list_call numA _ _ (leaf_is _ _ _ _ _)).mono ?_
          rintro e X33 ⟨gl, _, rfl, hl, hb⟩
          have h34' := stepB h32 hb (Nat.le_refl _)
          have BX := Lib.hid (blkB BX.out hb)
          have HLY := Lib.hid hl
          refine hK.out _ _ h34' (fun h34 => ?_)
          clear hb
          clear hl
          refine wpAnyH_ready (rs := [5]) (by kernel_rfl) (by simp) (AllReadyH.cons rfl (fun KK hK => ?_) AllReadyH.nil)
          go_simp
          obtain ⟨X35, hX⟩ : ∃ X, X33.alloc (.cells #[.int .i64 4, .string (b1 97), .string (b1 84), .int .i64 0, .slice none 0 0, .int .i64 5, .string ⟨#[]⟩, .string ⟨#[]⟩, .int .i64 0, .slice (some ⟨gl, 0, none⟩) 1 1] 34) = X := ⟨_, rfl⟩
          have hr : Blk X35 X33.heap.size 34 #[.int .i64 4, .string (b1 97), .string (b1 84), .int .i64 0, .slice none 0 0, .int .i64 5, .string ⟨#[]⟩, .string ⟨#[]⟩, .int .i64 0, .slice (some ⟨gl, 0, none⟩) 1 1] := by rw [← hX]; exact bkN rfl _ _
          have hb : Below X33.heap.size X33 X35 := by rw [← hX]; exact (Below.refl _ _).alloc (Nat.le_refl _) _
          have h36' := stepB h34 hb (Nat.le_refl _)
          have BX := Lib.hid (blkB BX.out hb)
          have HLY := Lib.hid (HLY.out.below hb)
          have HROW := Lib.hid hr
          refine hK.out _ _ (by rw [hX]; exact h36') (fun h36 => ?_)
          change wpAnyH Try.prog _ _ _ _ _ _ _ (X33.alloc (.cells #[.int .i64 4, .string (b1 97), .string (b1 84), .int .i64 0, .slice none 0 0, .int .i64 5, .string ⟨#[]⟩, .string ⟨#[]⟩, .int .i64 0, .slice (some ⟨gl, 0, none⟩) 1 1] 34))
          rw [hX] at h36 ⊢
          clear hX hr hb
          refine wpAnyH_ready (rs := [6]) (by kernel_rfl) (by simp) (AllReadyH.cons rfl (fun KK hK => ?_) AllReadyH.nil)
          go_simp
          refine (callA3 _ _ _ gl X35 (HSC3.out.below h36) (fnA_below HFN3.out h36) HROW.out HLY.out).mono ?_
          rintro e X37 ⟨ua, un, up, uq, uo, ue, uk, ov, kv, rfl, hev, hb⟩
          have HEV := Lib.hid hev
          clear hev
          have h38' := stepB h36 hb (Nat.le_refl _)
          have BX := Lib.hid (blkB BX.out hb)
          have HLY := Lib.hid (HLY.out.below hb)
          have HROW := Lib.hid (blkB HROW.out hb)
          refine hK.out _ _ h38' (fun h38 => ?_)
          clear hb
          refine wpAnyH_take (i := 7) (v := .tuple #[.agg #[.int .i64 ua, .string up, .string uq, .int .i64 un, .slice uo ue uk], .slice ov 1 kv]) rfl (by kernel_rfl) (by kernel_rfl) (by kernel_rfl) (fun _ _ _ h => h) (Or.inl ⟨by kernel_rfl, fun w' hw' => ?_⟩) h38 ?_
          · go_simp
          refine wpAnyH_take (i := 9) (v := .slice ov 1 kv) rfl (by kernel_rfl) (by kernel_rfl) (by kernel_rfl) (fun _ _ _ h => h) (Or.inl ⟨by kernel_rfl, fun w' hw' => ?_⟩) h38 ?_
          · go_simp
          refine wpAnyH_ready (rs := [8]) (by kernel_rfl) (by simp) (AllReadyH.cons rfl (fun KK hK => ?_) AllReadyH.nil)
          go_simp
          refine hK.out _ _ h38 (fun h38 => ?_)
          refine wpAnyH_ready (rs := [11]) (by kernel_rfl) (by simp) (AllReadyH.cons rfl (fun KK hK => ?_) AllReadyH.nil)
          refine wp_store_row (P := Try.prog) 34 _ _ rfl V0.heap.size #[.int .i64 ua, .string up, .string uq, .int .i64 un, .slice uo ue uk] (by kernel_rfl) (by kernel_rfl) 34 #[.int .i64 0, .string ⟨#[]⟩, .string ⟨#[]⟩, .int .i64 0, .slice none 0 0] BX.out (by rw [size5]; rfl) rfl (by simp [Value.oneCell']) ?_
          refine hK.out _ _ (below_setRow h38 hbx _) (fun hz => ?_)
          refine wpAnyH_take (i := 12) (v := .slice ov 1 kv) rfl (by kernel_rfl) (by kernel_rfl) (by kernel_rfl) (fun _ _ _ h => h) (Or.inl ⟨by kernel_rfl, fun w' hw' => ?_⟩) hz ?_
          · go_simp
          refine wpAnyH_done (by kernel_rfl) ?_ _
          go_wp2_with fail
          go_meet
          exact ⟨_, _, _, rfl, rfl, es_row HEV.out (by simp) BX.out _, hz⟩
      case rest =>
        obtain ⟨g9, ov9, kv9, rfl, rfl, H9E, H9W⟩ := hcut
        have HEW := Lib.hid (es_below H7E.out H9W.out)
        have k5 := blkB HB53.out H9W.out
        have c5 : wc.cell? ⟨g5, 2, none⟩ = some (.string (b1 84)) := k5.cell 2
        have HWZ := Lib.hid (stepB HWY.out H9W.out (Nat.le_refl _))
        obtain ⟨o7, d7, e7, _, _, r7⟩ := HEW.out
        obtain ⟨a7, x7, rfl, _, q7, rfl⟩ := r7 0 _ rfl
        obtain ⟨o9, d9, e9, _, _, r9⟩ := H9E.out
        obtain ⟨a9, x9, rfl, _, q9, rfl⟩ := r9 0 _ rfl
        simp only [Value.slice.injEq] at e7 e9
        obtain ⟨rfl, -, rfl⟩ := e7
        obtain ⟨rfl, -, rfl⟩ := e9
        have u0 : wc.cell? a7 = some (.int .i64 (-1)) := by have := q7 0 _ rfl; rw [Nat.zero_mul] at this; exact at0 (at0 this)
        have u1 : wc.cell? ⟨a7.block, a7.off + 1, none⟩ = some (.int .i64 15) := by have := q7 1 _ rfl; rw [Nat.zero_mul] at this; exact atS (n := 0) (at00 this)
        have v0 : wc.cell? a9 = some (.int .i64 1) := by have := q9 0 _ rfl; rw [Nat.zero_mul] at this; exact at0 (at0 this)
        have v1 : wc.cell? ⟨a9.block, a9.off + 1, none⟩ = some (.int .i64 11) := by have := q9 1 _ rfl; rw [Nat.zero_mul] at this; exact atS (n := 0) (at00 this)
        clear k5 H9W H7E H9E HEW q7 q9 r7 r9 HB53 HSC3 HBS3 HFN3 HBF3 HBN3 HWY
        go_wp2
        go_ret
        exact ⟨rfl, HWZ.out⟩
end Go.Proofs.Ytlakmniaocpaaaa
