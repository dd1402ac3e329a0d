/-
  The walk of 'closed'. Condition: the type and the offsets lie in memory as said.
-/
import Derived.Test.YtoppknnjnfgbiaaElem
namespace Go.Proofs.Ytoppknnjnfgbiaa
open Go.RowKit
open Go.Lib hiding intOf

/-- A type inside lists, the outermost one first. -/
def nest : List Int → TX → TX
  | [], x => x
  | p :: r, x => .list p (nest r x)

/-- The cells of offsets. -/
def OpensAt (w : World) (g : Nat) (ps : List Int) : Prop := ∀ k p, ps[k]? = some p → w.cell? ⟨g, k, none⟩ = some (.int .i64 p)
theorem OpensAt.below {w w' : World} {g : Nat} {ps : List Int} (h : OpensAt w g ps) (hb : Below w.heap.size w w') : OpensAt w' g ps := fun k p hk => (hb.cell (World.block_lt_of_cell? _ _ (h k p hk))).trans (h k p hk)

/-- What a round of 'closed' keeps. -/
def InvC (P : Nat → Prop) (w : World) (x : TX) (ps : List Int) (k : Nat) (W : World) : Prop :=
  ∃ (q r : Int) (s t : ByteArray) (o : Option Addr) (a : Nat), Blk W w.heap.size 38 #[.int .i64 q, .int .i64 r, .string s, .string t, .slice o a a] ∧ Blk W (w.heap.size + 1) 38 zeroT ∧ IsTP P W (nest (ps.drop k) x) (.agg #[.int .i64 q, .int .i64 r, .string s, .string t, .slice o a a]) ∧ Below w.heap.size w W ∧ w.heap.size + 1 + 1 ≤ W.heap.size

theorem IsTP.drew {P : Nat → Prop} {w : World} {x : TX} {v : Value} (h : IsTP P w x v) : IsTP P w.drew x v := IsTP.keep (w := w) (w' := w.drew) (fun _ _ _ h _ => h) (fun _ _ _ _ h => h) h
theorem Blk.drew {W : World} {k : Nat} {t : TypeId} {cs : Array Value} (h : Blk W k t cs) : Blk W.drew k t cs := h

def set5 (W : World) (b : Nat) (v0 v1 v2 v3 v4 : Value) : World := ((((W.setCell ⟨b, 0, none⟩ v0).setCell ⟨b, 1, none⟩ v1).setCell ⟨b, 2, none⟩ v2).setCell ⟨b, 3, none⟩ v3).setCell ⟨b, 4, none⟩ v4
theorem set5_size (W : World) (b : Nat) (v0 v1 v2 v3 v4 : Value) : (set5 W b v0 v1 v2 v3 v4).heap.size = W.heap.size := by simp [set5, World.setCell]
theorem set5_type {P : Nat → Prop} {W : World} {b : Nat} {x : TX} {v : Value} (h : IsTP P W x v) (hb : ¬ P b) (v0 v1 v2 v3 v4 : Value) : IsTP P (set5 W b v0 v1 v2 v3 v4) x v :=
  ((((h.set_ (p := ⟨b, 0, none⟩) hb _).set_ (p := ⟨b, 1, none⟩) hb _).set_ (p := ⟨b, 2, none⟩) hb _).set_ (p := ⟨b, 3, none⟩) hb _).set_ (p := ⟨b, 4, none⟩) hb _
theorem set5_far {W : World} {b k : Nat} {t : TypeId} {cs : Array Value} (h : Blk W k t cs) (hb : k ≠ b) (v0 v1 v2 v3 v4 : Value) : Blk (set5 W b v0 v1 v2 v3 v4) k t cs :=
  ((((h.far (p := ⟨b, 0, none⟩) hb _).far (p := ⟨b, 1, none⟩) hb _).far (p := ⟨b, 2, none⟩) hb _).far (p := ⟨b, 3, none⟩) hb _).far (p := ⟨b, 4, none⟩) hb _
theorem set5_blk {W : World} {b : Nat} {t : TypeId} {u0 u1 u2 u3 u4 : Value} (h : Blk W b t #[u0, u1, u2, u3, u4]) (v0 v1 v2 v3 v4 : Value) : Blk (set5 W b v0 v1 v2 v3 v4) b t #[v0, v1, v2, v3, v4] :=
  ((((h.set_ 0 v0).set_ 1 v1).set_ 2 v2).set_ 3 v3).set_ 4 v4
theorem set5_below {A : Nat} {w W : World} (h : Below A w W) {b : Nat} (hb : A ≤ b) (v0 v1 v2 v3 v4 : Value) : Below A w (set5 W b v0 v1 v2 v3 v4) :=
  ((((h.setCell (p := ⟨b, 0, none⟩) hb _).setCell (p := ⟨b, 1, none⟩) hb _).setCell (p := ⟨b, 2, none⟩) hb _).setCell (p := ⟨b, 3, none⟩) hb _).setCell (p := ⟨b, 4, none⟩) hb _

/-- A round of 'closed'. -/
theorem inv_step {P : Nat → Prop} {w wr : World} {x : TX} {ps : List Int} {m : Nat} (hm : m < ps.length) {q r : Int} {s t : ByteArray} {o : Option Addr} {a : Nat}
    (hP : ∀ b, w.heap.size + 1 < b → P b) (h0 : ¬ P w.heap.size)
    (hb0 : Blk wr w.heap.size 38 #[.int .i64 q, .int .i64 r, .string s, .string t, .slice o a a]) (hb1 : Blk wr (w.heap.size + 1) 38 zeroT) (hx : IsTP P wr (nest (ps.drop (m + 1)) x) (.agg #[.int .i64 q, .int .i64 r, .string s, .string t, .slice o a a]))
    (hbel : Below w.heap.size w wr) (hz : w.heap.size + 1 + 1 ≤ wr.heap.size) :
    InvC P w x ps m (((set5 wr w.heap.size (.int .i64 5) (.int .i64 ps[m]) (.string ⟨#[]⟩) (.string ⟨#[]⟩) (.slice (some ⟨wr.heap.size, 0, none⟩) 1 1)).alloc (.cells #[.int .i64 q, .int .i64 r, .string s, .string t, .slice o a a] 38)).drew) := by
  obtain ⟨X, hX⟩ : ∃ X, X = set5 wr w.heap.size (.int .i64 5) (.int .i64 ps[m]) (.string ⟨#[]⟩) (.string ⟨#[]⟩) (.slice (some ⟨wr.heap.size, 0, none⟩) 1 1) := ⟨_, rfl⟩
  have k0 : Blk X w.heap.size 38 #[.int .i64 5, .int .i64 ps[m], .string ⟨#[]⟩, .string ⟨#[]⟩, .slice (some ⟨wr.heap.size, 0, none⟩) 1 1] := hX ▸ set5_blk hb0 _ _ _ _ _
  have k1 : Blk X (w.heap.size + 1) 38 zeroT := hX ▸ set5_far hb1 (by omega) _ _ _ _ _
  have kx : IsTP P X (nest (ps.drop (m + 1)) x) (.agg #[.int .i64 q, .int .i64 r, .string s, .string t, .slice o a a]) := hX ▸ set5_type hx h0 _ _ _ _ _
  have kb : Below w.heap.size w X := hX ▸ set5_below hbel (Nat.le_refl _) _ _ _ _ _
  have ks : X.heap.size = wr.heap.size := hX ▸ set5_size _ _ _ _ _ _ _
  rw [← hX]
  clear hX hb0 hb1 hx hbel
  have hal := (Below.refl X.heap.size X).alloc (Nat.le_refl _) (.cells #[.int .i64 q, .int .i64 r, .string s, .string t, .slice o a a] 38)
  have hn := Blk.new X 38 #[.int .i64 q, .int .i64 r, .string s, .string t, .slice o a a]
  rw [ks] at hn
  refine ⟨5, ps[m], ⟨#[]⟩, ⟨#[]⟩, some ⟨wr.heap.size, 0, none⟩, 1, (k0.alloc _).drew, (k1.alloc _).drew, ?_, (kb.alloc (by omega) _).drew, ?_⟩
  · rw [List.drop_eq_getElem_cons hm]
    exact ⟨wr.heap.size, _, _, _, _, _, rfl, hP _ (by omega), hn.cell 0, hn.cell 1, hn.cell 2, hn.cell 3, hn.cell 4, (kx.below hal).drew⟩
  · show _ ≤ (World.alloc _ _).heap.size
    rw [World.size_alloc]; omega

set_option maxRecDepth 20000 in
set_option maxHeartbeats 4000000 in
theorem closed_any (B : Nat) (x : TX) (xv : Value) (g c : Nat) (ps : List Int) (w : World) (hx : IsTX B w x xv) (hB : B ≤ w.heap.size) (hps : OpensAt w g ps) (hn : ps.length ≤ 30) :
    Calls Try.prog 91 #[xv, .slice (some ⟨g, 0, none⟩) ps.length c] w fun e w' => ∃ v, e = .returned v ∧ IsTX B w' (nest ps x) v ∧ Below w.heap.size w w' := by
  obtain ⟨k, p, s, m, o, a, rfl⟩ := hx.parts
  obtain ⟨P, hP⟩ : ∃ P : Nat → Prop, P = fun b => B ≤ b ∧ b ≠ w.heap.size ∧ b ≠ w.heap.size + 1 := ⟨_, rfl⟩
  have S := Lib.hid (show InvC P w x ps ps.length ((w.alloc (.cells #[.int .i64 k, .int .i64 p, .string s, .string m, .slice o a a] 38)).alloc (.cells zeroT 38)) from by
    refine ⟨_, _, _, _, _, _, (Blk.new w 38 _).alloc _, by have := Blk.new (w.alloc (.cells #[.int .i64 k, .int .i64 p, .string s, .string m, .slice o a a] 38)) 38 zeroT; simpa using this, ?_, ((Below.refl _ _).alloc (Nat.le_refl _) _).alloc (by simp) _, by simp⟩
    rw [List.drop_length]
    refine (IsTP.mono (fun b hb h => ?_) hx).below (((Below.refl _ _).alloc (Nat.le_refl _) _).alloc (by simp) _)
    rw [hP]; exact ⟨h, by omega, by omega⟩)
  have HP := Lib.hid hP
  have HO := Lib.hid hps
  have HBB := Lib.hid hB
  clear hx hps hP hB
  go_enter Try.func91, Try.ntmps91
  go_wp2
  go_loopw [5] (fun i wr => ∃ (i' : Int) (k : Nat), i = .int .i64 i' ∧ i' + 1 = (k : Nat) ∧ k ≤ ps.length ∧ Hid (InvC P w x ps k wr)) (fun i _ => (RowKit.intOf i + 1).toNat)
  case atStart => exact ⟨_, ps.length, rfl, by omega, Nat.le_refl _, S⟩
  case round =>
    obtain ⟨i, k, rfl, hik, hk, HI⟩ := hrel
    rcases Nat.eq_zero_or_pos k with rfl | hkp
    · obtain rfl : i = -1 := by omega
      obtain ⟨q, r, s1, s2, o1, a1, hb0, hb1, hx, hbel, hz⟩ := HI.out
      have b0 := hb0.cell
      have b1 := hb1.cell
      have f1 := hb1.frozen
      have HX := Lib.hid hx
      have HBel := Lib.hid hbel
      simp only [zeroT] at b1
      clear hb0 hb1 hx hbel
      go_wp2
      have hP0 : ¬ P (w.heap.size + 1) := by rw [HP.out]; omega
      refine bodyPost_ret (v := .agg #[.int .i64 q, .int .i64 r, .string s1, .string s2, .slice o1 a1 a1]) (by simp [results, Try.results91, go_sem, b1]) rfl ?_
      refine ⟨_, rfl, ?_, set5_below HBel.out (Nat.le_succ _) _ _ _ _ _⟩
      have hx2 := HX.out
      rw [List.drop_zero] at hx2
      exact IsTP.mono (fun b _ h => by rw [HP.out] at h; exact h.1) (set5_type (b := w.heap.size + 1) hx2 hP0 _ _ _ _ _)
    · obtain ⟨m, rfl⟩ : ∃ m, k = m + 1 := ⟨k - 1, by omega⟩
      obtain rfl : i = (m : Nat) := by omega
      have hm : m < ps.length := by omega
      obtain ⟨q, r, s1, s2, o1, a1, hb0, hb1, hx, hbel, hz⟩ := HI.out
      have b0 := hb0.cell
      have f0 := hb0.frozen
      have ho := ((HO.out.below hbel) m _ (List.getElem?_eq_getElem hm))
      have HX := Lib.hid hx
      have HBel := Lib.hid hbel
      have HB0 := Lib.hid hb0
      have HB1 := Lib.hid hb1
      have hz0 : w.heap.size < wr.heap.size := by omega
      have hz1 : w.heap.size + 1 < wr.heap.size := by omega
      have hz2 : g < wr.heap.size := World.block_lt_of_cell? _ _ ho
      have hne : (0 : Int) ≤ (m : Nat) := by omega
      have hml : (m : Int) < (ps.length : Nat) := by omega
      clear hb0 hb1 hx hbel hik
      go_wp2_with fail
      go_region
      go_wp2
      go_roundw
      case rel => exact ⟨_, m, rfl, by omega, by omega, Lib.hid (inv_step hm (fun b hb => by rw [HP.out]; have := HBB.out; exact ⟨by omega, by omega, by omega⟩) (by rw [HP.out]; omega) HB0.out HB1.out HX.out HBel.out hz)⟩
      case measure => simp [RowKit.intOf]

end Go.Proofs.Ytoppknnjnfgbiaa
