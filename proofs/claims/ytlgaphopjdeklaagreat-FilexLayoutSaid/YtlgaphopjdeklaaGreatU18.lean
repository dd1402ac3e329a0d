/-
  An expression ahead of a list of them; steps of a region that draws. Condition: at most 2^47 bytes.
-/
import Derived.Test.YtlgaphopjdeklaaGreatU17
import Derived.Deep.RegionLaw
namespace Go.Proofs.YtlgaphopjdeklaaGreat
open Go.RowKit
open Go.Lib hiding intOf
theorem step_append {P : Program} {ops : Array Oper} {o : Oper} {a : Act} {w : World} {K : Act → World → Prop} {Q : Exit → Act → World → Prop} {E : Prop}
    (hg : o.guard = none) (s x : Operand) (t : TypeId) (hop : o.op = Op.call { callee := Callee.builtin Builtin.append, args := #[s, x], argTypes := #[t, t] }) (v1 v2 : Value) (hs : a.eval s = v1) (hx : a.eval x = v2)
    (v' : Value) (w' : World) (hrun : (Builtin.append_ #[t, t] o.type #[v1, v2]).run P w = .ok v' w') (hK : K (a.put o.dst v') w') :
    if Region.wanted o (yielded ops a.tmps) = true then Oper.wp P o a w K Q else E := by
  have hw : Region.wanted o (yielded ops a.tmps) = true := by simp [Region.wanted, hg]
  rw [if_pos hw]
  unfold Oper.wp
  simp [execOp, hop, resolve, invoke, builtin, hs, hx, hrun, Result.andThen]
  exact hK
theorem lit_row {W : World} {g : Nat} {cs : Array Value} (h : Blk W g 64 cs) (hs : cs.size = 11) : W.ownsRow 0 64 11 (.slice (some ⟨g, 0, none⟩) 1 1) 1 cs.toList :=
  ⟨by simpa using hs, .inr ⟨g, 1, cs, rfl, Nat.zero_le _, h, Nat.le_refl _, by unfold maxLen; omega, by omega, List.take_of_length_le (by rw [Array.length_toList, hs]; exact Nat.le_refl _)⟩⟩
theorem append_list (P : Nat → Prop) (N : Nat) (ty : TypeId) (W : World) (g : Nat) (x : EX) (x0 x1 x2 x3 x4 x5 x6 x7 x8 x9 x10 : Value) (hg : Blk W g 64 #[x0, x1, x2, x3, x4, x5, x6, x7, x8, x9, x10]) (hx : IsEP (fun q => P q ∧ q ≠ g) W x (.agg #[x0, x1, x2, x3, x4, x5, x6, x7, x8, x9, x10])) (hPg : P g) (hPn : P W.heap.size) (hN : N ≤ g)
    (B : Nat) (ys : List EX) (o' : Option Addr) (cap : Nat) (hy : RowE B W (.slice o' ys.length cap) ys) (hB : ∀ q, B ≤ q → P q) (hn : ys.length + 1 ≤ 1073741824) :
    ∃ v' w' o2 c2, (Builtin.append_ #[62, 62] ty #[.slice (some ⟨g, 0, none⟩) 1 1, .slice o' ys.length cap]).run Tryz.prog W = .ok v' w' ∧ v' = .slice o2 (x :: ys).length c2 ∧ IsEPs P w' o2 0 (x :: ys) ∧ Below N W w' := by
  obtain ⟨i0, hi, hi'⟩ := Option.map_eq_some_iff.1 Tryz.infoE
  simp only [Prod.mk.injEq] at hi'
  obtain ⟨hz0, hz1, hz2⟩ := hi'
  have hlit := lit_row hg rfl
  have hgl : g < W.heap.size := hg.lt
  obtain ⟨cs, hown, hch⟩ := hy
  have one : ∀ W' : World, (∀ k, k ≠ g → k < W.heap.size → W'.heap[k]? = W.heap[k]?) → (∀ j u, [x0, x1, x2, x3, x4, x5, x6, x7, x8, x9, x10][j]? = some u → W'.cell? ⟨g, j, none⟩ = some u) → IsEPs P W' (some ⟨g, 0, none⟩) 0 [x] := fun W' hk hc => by
    refine Ch.eps hPg (cs := [[x0, x1, x2, x3, x4, x5, x6, x7, x8, x9, x10]]) ?_ (fun j u hj => by rw [Nat.zero_mul, Nat.zero_add]; exact hc j u (by simpa using hj))
    unfold Ch
    refine ⟨rfl, hx.keep (fun _ _ _ h _ => h.1) fun b i u hp hcc => ?_, by unfold Ch; trivial⟩
    exact (World.cell?_of_block (w := W) (a := ⟨b, i, none⟩) (hk b hp.2 (World.block_lt_of_cell? W ⟨b, i, none⟩ hcc))).trans hcc
  rcases hown.2 with ⟨hv, h0⟩ | ⟨g', cap', cur, hv, hbg, hgg, r⟩
  · have hys : ys = [] := List.length_eq_zero_iff.1 h0
    subst hys
    injection hv with hv1 _ hv2
    subst hv1 hv2
    have hrun := run_append_owned_none (P := Tryz.prog) W 0 62 ty 64 i0 11 Tryz.underlying62 hi _ _ _ hlit
    exact ⟨_, W, some ⟨g, 0, none⟩, 1, hrun, rfl, one W (fun _ _ _ => rfl) (fun j u hj => by rw [hg.cell j]; simpa using hj), Below.refl _ _⟩
  · injection hv with hv1 _ hv2
    subst hv1 hv2
    have hlen := hch.len
    have hcells : ∀ j u, cs.flatten[j]? = some u → W.cell? ((⟨g', 0, none⟩ : Addr).add j) = some u := fun j u hj => by
      rw [add_none', Nat.zero_add, hown.cellAt j (by have := (List.getElem?_eq_some_iff.1 hj).1; omega)]; exact hj
    by_cases hm : ys.length = 0
    · have hys : ys = [] := List.length_eq_zero_iff.1 hm
      subst hys
      have hfl : cs.flatten = [] := List.length_eq_zero_iff.1 (by rw [hlen]; rfl)
      obtain ⟨w', hrun, hown', hgr⟩ := run_append_fits (P := Tryz.prog) W 0 62 ty 64 i0 11 Tryz.underlying62 hi hz1 g 1 1 _ hlit ⟨g', 0, none⟩ 0 cap cs.flatten (by rw [hlen]; rfl) hcells hch.one (by decide)
      refine ⟨_, w', some ⟨g, 0, none⟩, 1, hrun, rfl, one w' (fun k hk hkl => hgr.block k hkl (by simp; exact hk)) (fun j u hj => ?_), (Below.refl _ _).grown hgr (by omega) (fun k e => by cases e; exact hN)⟩
      rw [hfl, List.append_nil] at hown'
      rw [hown'.cellAt j (by have := (List.getElem?_eq_some_iff.1 hj).1; simpa using this)]
      simpa using hj
    · obtain ⟨v', w', hrun, hown', hcase⟩ := run_append_tells (P := Tryz.prog) W 0 62 ty 64 i0 (.agg zeroE) 11 144 Tryz.underlying62 hi hz0 hz1 hz2 rfl (by decide) _ 1 _ hlit ⟨g', 0, none⟩ ys.length cap cs.flatten hlen hcells hch.one (by unfold maxLen; omega) (by omega) (Nat.zero_le _) (by omega)
      rcases hcase with ⟨cap2, rfl, hgr⟩ | ⟨g2, cap2, e1, rfl, hgr⟩
      · refine ⟨_, w', some ⟨W.heap.size, 0, none⟩, cap2, hrun, by rw [List.length_cons, Nat.add_comm], ?_, (Below.refl _ _).grown hgr (by omega) (fun k e => by cases e)⟩
        refine Ch.eps hPn (cs := [x0, x1, x2, x3, x4, x5, x6, x7, x8, x9, x10] :: cs) ?_ (fun j u hj => ?_)
        · unfold Ch
          refine ⟨rfl, ?_, (hch.keep (fun q _ _ h _ => hB q h.1) fun _ _ _ _ h => h).grown hgr (fun k e => by cases e)⟩
          exact hx.keep (fun _ _ _ h _ => h.1) fun b i u hp hcc => (World.cell?_of_block (w := W) (a := ⟨b, i, none⟩) (hgr.block b (World.block_lt_of_cell? W ⟨b, i, none⟩ hcc) (by simp))).trans hcc
        · rw [Nat.zero_mul, Nat.zero_add, hown'.cellAt j (by have h2 := (List.getElem?_eq_some_iff.1 hj).1; rw [List.flatten_cons, List.length_append] at h2; simp only [List.length_cons, List.length_nil] at h2; omega)]
          exact hj
      · injection e1 with _ _ e2
        subst e2
        rcases hown'.2 with ⟨h, _⟩ | ⟨_, _, _, h, _, _, h2, _⟩
        · cases h
        · injection h with _ _ h
          omega
section
variable {l : List TZ} {f d : Nat} {a j : Int} {x : EX}
theorem post_sel (h : isS (tkAt l j) 46 = true) (hk : (tkAt l (j + 1)).kind = 1) : post l (f + 1) d a x j = post l f d a (mkSel (tkAt l a).pos x (tkAt l (j + 1)).text (tkAt l (j + 1)).stop) (j + 2) := by rw [post, if_pos h, if_pos hk]
theorem post_sel_no (h : isS (tkAt l j) 46 = true) (hk : (tkAt l (j + 1)).kind ≠ 1) : post l (f + 1) d a x j = .err (tkAt l (j + 1)).pos 5 := by rw [post, if_pos h, if_neg hk]
theorem post_call (h : isS (tkAt l j) 46 = false) (h2 : isS (tkAt l j) 40 = true) {ys : List EX} {q : Int} (hl : lst l f 41 d j = .ok ys q) : post l (f + 1) d a x j = post l f d a (mkCall (tkAt l a).pos x ys (tkAt l (q - 1)).stop) q := by
  rw [post, if_neg (by rw [h]; decide), if_pos h2, hl]
theorem post_call_no (h : isS (tkAt l j) 46 = false) (h2 : isS (tkAt l j) 40 = true) {p q : Int} (hl : lst l f 41 d j = .err p q) : post l (f + 1) d a x j = .err p q := by
  rw [post, if_neg (by rw [h]; decide), if_pos h2, hl]
theorem post_call_out (h : isS (tkAt l j) 46 = false) (h2 : isS (tkAt l j) 40 = true) (hl : lst l f 41 d j = .out) : post l (f + 1) d a x j = .out := by
  rw [post, if_neg (by rw [h]; decide), if_pos h2, hl]
theorem post_idx (h : isS (tkAt l j) 46 = false) (h2 : isS (tkAt l j) 40 = false) (h3 : isS (tkAt l j) 91 = true) {y : EX} {q : Int} (hl : ins l f 93 d j = .ok y q) : post l (f + 1) d a x j = post l f d a (mkIdx (tkAt l a).pos x y (tkAt l (q - 1)).stop) q := by
  unfold ins at hl
  rw [post, if_neg (by rw [h]; decide), if_neg (by rw [h2]; decide), if_pos h3]
  split at hl
  · cases hl
  · next hd =>
    rw [if_neg hd]
    split at hl
    · next z r hr =>
      rw [hr]
      split at hl
      · next hs =>
        injection hl with e1 e2
        subst e1 e2
        show (if isS (tkAt l r) 93 = true then _ else _) = _
        rw [if_pos hs, show r + 1 - 1 = r by omega]
      · cases hl
    · cases hl
    · cases hl
theorem post_idx_no (h : isS (tkAt l j) 46 = false) (h2 : isS (tkAt l j) 40 = false) (h3 : isS (tkAt l j) 91 = true) {p q : Int} (hl : ins l f 93 d j = .err p q) : post l (f + 1) d a x j = .err p q := by
  unfold ins at hl
  rw [post, if_neg (by rw [h]; decide), if_neg (by rw [h2]; decide), if_pos h3]
  split at hl
  · next hd => rw [if_pos hd]; injection hl with e1 e2; subst e1 e2; rfl
  · next hd =>
    rw [if_neg hd]
    split at hl
    · next z r hr =>
      rw [hr]
      split at hl
      · cases hl
      · next hs =>
        injection hl with e1 e2
        subst e1 e2
        show (if isS (tkAt l r) 93 = true then _ else _) = _
        rw [if_neg hs]
    · next hr => rw [hr]; injection hl with e1 e2; subst e1 e2; rfl
    · cases hl
theorem post_idx_out (h : isS (tkAt l j) 46 = false) (h2 : isS (tkAt l j) 40 = false) (h3 : isS (tkAt l j) 91 = true) (hl : ins l f 93 d j = .out) : post l (f + 1) d a x j = .out := by
  unfold ins at hl
  rw [post, if_neg (by rw [h]; decide), if_neg (by rw [h2]; decide), if_pos h3]
  split at hl
  · cases hl
  · next hd =>
    rw [if_neg hd]
    split at hl
    · split at hl <;> cases hl
    · cases hl
    · next hr => rw [hr]
theorem post_end (h : isS (tkAt l j) 46 = false) (h2 : isS (tkAt l j) 40 = false) (h3 : isS (tkAt l j) 91 = false) : post l (f + 1) d a x j = .ok x j := by
  rw [post, if_neg (by rw [h]; decide), if_neg (by rw [h2]; decide), if_neg (by rw [h3]; decide)]
end
end Go.Proofs.YtlgaphopjdeklaaGreat
