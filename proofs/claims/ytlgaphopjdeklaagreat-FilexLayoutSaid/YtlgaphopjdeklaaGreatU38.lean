/-
  The walk of the document's own 'Same' at two rows of statements that are one. Condition: both lie in memory as said.
  Plain: what is read has no more parts than there are tokens. No condition.
-/
import Derived.Test.YtlgaphopjdeklaaGreatU11
import Derived.Test.YtlgaphopjdeklaaGreatU37
import Derived.Test.YtlgaphopjdeklaaGreatU14
namespace Go.Proofs.YtlgaphopjdeklaaGreat
mutual
def slimX (N : Nat) : EX → Prop
  | .mk _ _ _ _ _ _ a => a.length ≤ N ∧ slimXL N a
def slimXL (N : Nat) : List EX → Prop
  | [] => True
  | x :: r => slimX N x ∧ slimXL N r
end
mutual
def slimS (N : Nat) : SX → Prop
  | .mk _ _ _ _ x u v => slimX N x ∧ u.length ≤ N ∧ v.length ≤ N ∧ slimSL N u ∧ slimSL N v
def slimSL (N : Nat) : List SX → Prop
  | [] => True
  | x :: r => slimS N x ∧ slimSL N r
end
theorem slimX_args {N : Nat} {x : EX} (h : slimX N x) : x.args.length ≤ N ∧ slimXL N x.args := by
  cases x; unfold slimX at h; exact h
theorem slimXL_at {N : Nat} : ∀ {l : List EX} {k : Nat} {x : EX}, slimXL N l → l[k]? = some x → slimX N x
  | [], _, _, _, h => by simp at h
  | y :: r, 0, x, h, hx => by
    simp at hx; subst hx
    unfold slimXL at h; exact h.1
  | y :: r, k + 1, x, h, hx => by
    unfold slimXL at h
    exact slimXL_at h.2 (by simpa using hx)
theorem slimSL_at {N : Nat} : ∀ {l : List SX} {k : Nat} {x : SX}, slimSL N l → l[k]? = some x → slimS N x
  | [], _, _, _, h => by simp at h
  | y :: r, 0, x, h, hx => by
    simp at hx; subst hx
    unfold slimSL at h; exact h.1
  | y :: r, k + 1, x, h, hx => by
    unfold slimSL at h
    exact slimSL_at h.2 (by simpa using hx)
theorem slimS_parts {N : Nat} {x : SX} (h : slimS N x) : slimX N x.expr ∧ x.body.length ≤ N ∧ x.other.length ≤ N ∧ slimSL N x.body ∧ slimSL N x.other := by
  cases x; unfold slimS at h; exact h
section
variable {l : List TZ} {N : Nat}
theorem slim_leaf (k p s n : Int) (m : ByteArray) (t : TX) : slimX N (.mk k p s n m t []) := by unfold slimX slimXL; simp
theorem slim_one (hN : 1 ≤ N) (k p s n : Int) (m : ByteArray) (t : TX) {x : EX} (h : slimX N x) : slimX N (.mk k p s n m t [x]) := by
  unfold slimX slimXL slimXL
  exact ⟨by simpa using hN, h, trivial⟩
theorem slim_two (hN : 2 ≤ N) (k p s n : Int) (m : ByteArray) (t : TX) {x y : EX} (h : slimX N x) (h' : slimX N y) : slimX N (.mk k p s n m t [x, y]) := by
  unfold slimX slimXL slimXL slimXL
  exact ⟨by simpa using hN, h, h', trivial⟩
theorem slim_call {k p s n : Int} {m : ByteArray} {t : TX} {x : EX} {ys : List EX} (h : slimX N x) (h' : slimXL N ys) (hl : ys.length + 1 ≤ N) : slimX N (.mk k p s n m t (x :: ys)) := by
  unfold slimX slimXL
  exact ⟨by simpa using hl, h, h'⟩
theorem slim_new {k p s n : Int} {m : ByteArray} {t : TX} {ys : List EX} (h' : slimXL N ys) (hl : ys.length ≤ N) : slimX N (.mk k p s n m t ys) := by
  unfold slimX
  exact ⟨hl, h'⟩
theorem read_slim (hN : l.length + 2 ≤ N) : ∀ f : Nat,
    (∀ k d i x j, k ≠ 0 → ex l f k d i = .ok x j → slimX N x) ∧
    (∀ k d a x i z j, k ≠ 0 → slimX N x → binT l f k d a x i = .ok z j → slimX N z) ∧
    (∀ d i x j, una l f d i = .ok x j → slimX N x) ∧
    (∀ d i x j, prim l f d i = .ok x j → slimX N x) ∧
    (∀ d a x i z j, slimX N x → post l f d a x i = .ok z j → slimX N z) ∧
    (∀ z d (i : Int) ys j, 0 ≤ i → lst l f z d i = .ok ys j → slimXL N ys ∧ (ys.length : Int) < j - i) ∧
    (∀ z d i ys j, items l f z d i = .ok ys j → slimXL N ys ∧ (ys.length : Int) < j - i) := by
  intro f
  induction f with
  | zero =>
    refine ⟨?_, ?_, ?_, ?_, ?_, ?_, ?_⟩ <;> intros <;> simp [ex, binT, una, prim, post, lst, items] at *
  | succ f ih =>
    obtain ⟨iE, iB, iU, iP, iT, iL, iI⟩ := ih
    obtain ⟨rE, rB, rU, rP, rT, rL, rI⟩ := read_rng (l := l) f
    refine ⟨?_, ?_, ?_, ?_, ?_, ?_, ?_⟩
    · intro k d i x j hk h
      unfold ex at h
      split at h
      · exact iU _ _ _ _ h
      · split at h
        · next y q hq => exact iB _ _ _ _ _ _ _ hk (iE _ _ _ _ _ (by omega) hq) h
        · cases h
        · cases h
    · intro k d a x i z j hk hx h
      unfold binT at h
      split at h
      · split at h
        · next y q hq => exact iB _ _ _ _ _ _ _ hk (slim_two (by omega) _ _ _ _ _ _ hx (iE _ _ _ _ _ (by omega) hq)) h
        · cases h
        · cases h
      · injection h with h h'; rw [← h]; exact hx
    · intro d i x j h
      unfold una at h
      split at h
      · split at h
        · cases h
        · split at h
          · next y q hq => injection h with h h'; rw [← h]; exact slim_one (by omega) _ _ _ _ _ _ (iU _ _ _ _ hq)
          · cases h
          · cases h
      · split at h
        · next y q hq => exact iT _ _ _ _ _ _ (iP _ _ _ _ hq) h
        · cases h
        · cases h
    · intro d i x j h
      unfold prim at h
      split at h
      · split at h
        · injection h with h h'; rw [← h]; exact slim_leaf _ _ _ _ _ _
        · cases h
      split at h
      · split at h
        · injection h with h h'; rw [← h]; exact slim_leaf _ _ _ _ _ _
        · cases h
      split at h
      · injection h with h h'; rw [← h]; exact slim_leaf _ _ _ _ _ _
      split at h
      · injection h with h h'; rw [← h]; exact slim_leaf _ _ _ _ _ _
      split at h
      · injection h with h h'; rw [← h]; exact slim_leaf _ _ _ _ _ _
      split at h
      · split at h
        · cases h
        · split at h
          · next y q hq =>
            split at h
            · injection h with h h'; rw [← h]; exact iE _ _ _ _ _ (by omega) hq
            · cases h
          · cases h
          · cases h
      split at h
      · split at h
        · next t q hq =>
          have hp := prs_rng hq
          split at h
          · split at h
            · next ys r hys =>
              have h1 := iL _ _ _ _ _ (by omega) hys
              have h2 := rL _ _ _ _ _ hys
              injection h with h h'; rw [← h]; exact slim_new h1.1 (by omega)
            · cases h
            · cases h
          · cases h
        · cases h
      · cases h
    · intro d a x i z j hx h
      unfold post at h
      split at h
      · split at h
        · exact iT _ _ _ _ _ _ (slim_one (by omega) _ _ _ _ _ _ hx) h
        · cases h
      split at h
      · next hn =>
        have hr := isS_real hn
        split at h
        · next ys q hys =>
          have h1 := iL _ _ _ _ _ hr.1 hys
          have h2 := rL _ _ _ _ _ hys
          exact iT _ _ _ _ _ _ (slim_call hx h1.1 (by omega)) h
        · cases h
        · cases h
      split at h
      · split at h
        · cases h
        · split at h
          · next y q hq =>
            split at h
            · exact iT _ _ _ _ _ _ (slim_two (by omega) _ _ _ _ _ _ hx (iE _ _ _ _ _ (by omega) hq)) h
            · cases h
          · cases h
          · cases h
      · injection h with h h'; rw [← h]; exact hx
    · intro z d i ys j h0 h
      unfold lst at h
      split at h
      · cases h
      split at h
      · injection h with h h'; rw [← h]; exact ⟨by unfold slimXL; trivial, by simp; omega⟩
      · have := iI _ _ _ _ _ h
        exact ⟨this.1, by omega⟩
    · intro z d i ys j h
      unfold items at h
      split at h
      · next y q hq =>
        have h1 := rE _ _ _ _ _ (by omega) hq
        split at h
        · split at h
          · next zs r hzs =>
            have h2 := iI _ _ _ _ _ hzs
            injection h with h h'; rw [← h]
            unfold slimXL
            exact ⟨⟨iE _ _ _ _ _ (by omega) hq, h2.1⟩, by rw [List.length_cons]; omega⟩
          · cases h
          · cases h
        · split at h
          · injection h with h h'; rw [← h]
            unfold slimXL slimXL
            exact ⟨⟨iE _ _ _ _ _ (by omega) hq, trivial⟩, by simp; omega⟩
          · cases h
      · cases h
      · cases h
theorem slim_no : slimX N noEX := slim_leaf _ _ _ _ _ _
theorem slim_stm {k p : Int} {n : ByteArray} {h : Bool} {x : EX} {u v : List SX} (hx : slimX N x) (hu : u.length ≤ N) (hv : v.length ≤ N) (su : slimSL N u) (sv : slimSL N v) : slimS N (.mk k p n h x u v) := by
  unfold slimS; exact ⟨hx, hu, hv, su, sv⟩
theorem slim_bare {k p : Int} {n : ByteArray} {h : Bool} {x : EX} (hx : slimX N x) : slimS N (.mk k p n h x [] []) := slim_stm hx (Nat.zero_le _) (Nat.zero_le _) (by unfold slimSL; trivial) (by unfold slimSL; trivial)
theorem exThen_slim (hN : l.length + 2 ≤ N) {F : Nat} {z : UInt8} {i : Int} {g : EX → SX} {s : SX} {j : Int} (hg : ∀ x, slimX N x → slimS N (g x)) (h : exThen l F z i g = .ok s j) : slimS N s := by
  unfold exThen at h
  split at h
  · next x q hq =>
    split at h
    · injection h with h h'; rw [← h]; exact hg _ ((read_slim hN F).1 _ _ _ _ _ (by decide) hq)
    · cases h
  · cases h
  · cases h
theorem stm_slim (hN : l.length + 2 ≤ N) {F : Nat} : ∀ f : Nat,
    (∀ d i x j, blk l F f d i = .ok x j → slimSL N x ∧ (x.length : Int) < j - i) ∧
    (∀ d i x j, rows l F f d i = .ok x j → slimSL N x ∧ (x.length : Int) < j - i) ∧
    (∀ d i x j, stm l F f d i = .ok x j → slimS N x) := by
  intro f
  induction f with
  | zero =>
    refine ⟨?_, ?_, ?_⟩ <;> intros <;> simp [blk, rows, stm] at *
  | succ f ih =>
    obtain ⟨iB, iR, iS⟩ := ih
    obtain ⟨rB, rR, rS⟩ := stm_rng (l := l) (F := F) f
    refine ⟨?_, ?_, ?_⟩
    · intro d i x j h
      unfold blk at h
      split at h
      · split at h
        · cases h
        · have := iR _ _ _ _ h; exact ⟨this.1, by omega⟩
      · cases h
    · intro d i x j h
      unfold rows at h
      split at h
      · injection h with h h'; rw [← h]; exact ⟨by unfold slimSL; trivial, by simp; omega⟩
      · split at h
        · next t q hq =>
          have h1 := rS _ _ _ _ hq
          split at h
          · next r p hp =>
            have h2 := iR _ _ _ _ hp
            injection h with h h'; rw [← h]
            unfold slimSL
            exact ⟨⟨iS _ _ _ _ hq, h2.1⟩, by rw [List.length_cons]; omega⟩
          · cases h
          · cases h
        · cases h
        · cases h
    · intro d i x j h
      unfold stm at h
      split at h
      · split at h
        · split at h
          · exact exThen_slim hN (fun x hx => slim_bare hx) h
          · cases h
        · cases h
      split at h
      · split at h
        · injection h with h h'; rw [← h]; exact slim_bare slim_no
        · exact exThen_slim hN (fun x hx => slim_bare hx) h
      split at h
      · split at h
        · next y q hq =>
          have hx := (read_slim hN F).1 _ _ _ _ _ (by decide) hq
          split at h
          · next b p hp =>
            have h1 := iB _ _ _ _ hp
            have r1 := rB _ _ _ _ hp
            split at h
            · split at h
              · next c r hc =>
                have h2 := iB _ _ _ _ hc
                have r2 := rB _ _ _ _ hc
                injection h with h h'; rw [← h]; exact slim_stm hx (by omega) (by omega) h1.1 h2.1
              · cases h
              · cases h
            · injection h with h h'; rw [← h]; exact slim_stm hx (by omega) (Nat.zero_le _) h1.1 (by unfold slimSL; trivial)
          · cases h
          · cases h
        · cases h
        · cases h
      split at h
      · split at h
        · next y q hq =>
          have hx := (read_slim hN F).1 _ _ _ _ _ (by decide) hq
          split at h
          · next b p hp =>
            have h1 := iB _ _ _ _ hp
            have r1 := rB _ _ _ _ hp
            injection h with h h'; rw [← h]; exact slim_stm hx (by omega) (Nat.zero_le _) h1.1 (by unfold slimSL; trivial)
          · cases h
          · cases h
        · cases h
        · cases h
      split at h
      · exact exThen_slim hN (fun x hx => slim_bare hx) h
      · exact exThen_slim hN (fun x hx => slim_bare hx) h
end
end Go.Proofs.YtlgaphopjdeklaaGreat
namespace Go.Proofs.YtlgaphopjdeklaaGreat
open Go.RowKit
open Go.Lib hiding intOf
theorem blk_sec5 {w1 w2 : World} {o : Obj} {cs : Array Value} {t : TypeId} (hB : Below ((w1.alloc o).alloc (.cells cs t)).heap.size ((w1.alloc o).alloc (.cells cs t)) w2) : Blk w2 (w1.heap.size + 1) t cs := by
  have h := (Blk.new (w1.alloc o) t cs).below hB
  simpa using h
theorem sameE_all (N : Nat) (hN : (N : Int) ≤ 4611686018427387904) : ∀ (n : Nat) (x : EX), SizeOf.sizeOf x < n → slimX N x → ∀ (P Q : Nat → Prop) (u v : Value) (w : World), IsEP P w x u → IsEP Q w x v →
    Calls Tryz.prog 48 #[u, v] w fun e w' => e = .returned (.bool true) ∧ Below w.heap.size w w'
  | 0, _, h => by omega
  | n + 1, x, h => fun hs P Q u v w hu hv =>
    sameE_one x (by have := (slimX_args hs).1; omega) P Q u v w hu hv fun k y hy u' v' w' hu' hv' =>
      sameE_all N hN n y (by have := args_lt hy; omega) (slimXL_at (slimX_args hs).2 hy) P Q u' v' w' hu' hv'
theorem sameE_any (N : Nat) (hN : (N : Int) ≤ 4611686018427387904) (x : EX) (hs : slimX N x) (P Q : Nat → Prop) (u v : Value) (w : World) (hu : IsEP P w x u) (hv : IsEP Q w x v) :
    Calls Tryz.prog 48 #[u, v] w fun e w' => e = .returned (.bool true) ∧ Below w.heap.size w w' := sameE_all N hN _ x (Nat.lt_succ_self _) hs P Q u v w hu hv
set_option maxRecDepth 20000 in
set_option maxHeartbeats 8000000 in
theorem sameS_one (xs : List SX) (hx : (xs.length : Int) ≤ 4611686018427387904) (P Q : Nat → Prop) (o o' : Option Addr) (c c' : Nat) (w : World) (hu : IsSPs P w o 0 xs) (hv : IsSPs Q w o' 0 xs)
    (hE : ∀ (k : Nat) (y : SX), xs[k]? = some y → ∀ (u v : Value) (w : World), IsEP P w y.expr u → IsEP Q w y.expr v → Calls Tryz.prog 48 #[u, v] w fun e w' => e = .returned (.bool true) ∧ Below w.heap.size w w')
    (hU : ∀ (k : Nat) (y : SX), xs[k]? = some y → ∀ (o o' : Option Addr) (c c' : Nat) (w : World), IsSPs P w o 0 y.body → IsSPs Q w o' 0 y.body → Calls Tryz.prog 30 #[.slice o y.body.length c, .slice o' y.body.length c'] w fun e w' => e = .returned (.bool true) ∧ Below w.heap.size w w')
    (hV : ∀ (k : Nat) (y : SX), xs[k]? = some y → ∀ (o o' : Option Addr) (c c' : Nat) (w : World), IsSPs P w o 0 y.other → IsSPs Q w o' 0 y.other → Calls Tryz.prog 30 #[.slice o y.other.length c, .slice o' y.other.length c'] w fun e w' => e = .returned (.bool true) ∧ Below w.heap.size w w') :
    Calls Tryz.prog 30 #[.slice o xs.length c, .slice o' xs.length c'] w fun e w' => e = .returned (.bool true) ∧ Below w.heap.size w w' := by
  have HA := Lib.hid hu
  have HB := Lib.hid hv
  have HE := Lib.hid hE
  have HU := Lib.hid hU
  have HV := Lib.hid hV
  clear hu hv hE hU hV
  go_enter Tryz.func30, Tryz.ntmps30
  go_wp2_with fail
  go_loopg [5, 6, 7, 8, 9, 10] xs.length (fun g i _ _ _ _ _ wr => ∃ k : Nat, i = .int .i64 (k : Nat) ∧ k + g = xs.length ∧ Hid (Below w.heap.size w wr))
  case atStart => exact ⟨0, rfl, by omega, Lib.hid (Below.refl _ _)⟩
  case round =>
    obtain ⟨k, rfl, hk, hbr⟩ := hrel
    by_cases hlt : k < xs.length
    · obtain ⟨gg, rfl⟩ : ∃ gg, gk = gg + 1 := ⟨gk - 1, by omega⟩
      have hxk := List.getElem?_eq_getElem hlt
      have hat := (HA.out.below hbr.out).at_ k hxk
      have hbt := (HB.out.below hbr.out).at_ k hxk
      rw [Nat.zero_add] at hat hbt
      unfold IsSPs at hat hbt
      obtain ⟨⟨b, c0, c1, c2, c3, c4, c5, c6, c7, c8, c9, c10, c11, c12, c13, c14, c15, c16, rfl, _, h0, h1, h2, h3, h4, h5, h6, h7, h8, h9, h10, h11, h12, h13, h14, h15, h16, hye⟩, _⟩ := hat
      obtain ⟨⟨b', d0, d1, d2, d3, d4, d5, d6, d7, d8, d9, d10, d11, d12, d13, d14, d15, d16, rfl, _, g0, g1, g2, g3, g4, g5, g6, g7, g8, g9, g10, g11, g12, g13, g14, g15, g16, hze⟩, _⟩ := hbt
      obtain ⟨e0, e1, e2, e3, e4, e5, e6, e7, e8, e9, e10, o1, n1, o2, n2, he, hex, hbu, hbv⟩ := hye.parts
      obtain ⟨f0, f1, f2, f3, f4, f5, f6, f7, f8, f9, f10, p1, m1, p2, m2, hf, hfx, hfu, hfv⟩ := hze.parts
      simp only [Value.agg.injEq, Array.mk.injEq, List.cons.injEq, and_true] at he hf
      obtain ⟨rfl, rfl, rfl, rfl, rfl, rfl, rfl, rfl, rfl, rfl, rfl, rfl, rfl, rfl, rfl, rfl, rfl⟩ := he
      obtain ⟨rfl, rfl, rfl, rfl, rfl, rfl, rfl, rfl, rfl, rfl, rfl, rfl, rfl, rfl, rfl, rfl, rfl⟩ := hf
      obtain ⟨tk, tp, tg, tn, tz, ta, oa, ca, et, _, _⟩ := hex.parts3
      obtain ⟨tk', tp', tg', tn', tz', ta', oa', ca', et', _, _⟩ := hfx.parts3
      simp only [Value.agg.injEq, Array.mk.injEq, List.cons.injEq, and_true] at et et'
      obtain ⟨rfl, rfl, rfl, rfl, rfl, rfl, rfl, rfl, rfl, rfl, rfl⟩ := et
      obtain ⟨rfl, rfl, rfl, rfl, rfl, rfl, rfl, rfl, rfl, rfl, rfl⟩ := et'
      have CE := Lib.hid (fun (W : World) (hb : Below wr.heap.size wr W) => HE.out k _ hxk _ _ W (IsEP.below hex hb) (IsEP.below hfx hb))
      have CU := Lib.hid (fun (W : World) (hb : Below wr.heap.size wr W) => HU.out k _ hxk _ _ n1 m1 W (IsSPs.below hbu hb) (IsSPs.below hfu hb))
      have CV := Lib.hid (fun (W : World) (hb : Below wr.heap.size wr W) => HV.out k _ hxk _ _ n2 m2 W (IsSPs.below hbv hb) (IsSPs.below hfv hb))
      have hlt2 : ((k : Nat) : Int) < (xs.length : Nat) := by omega
      have hk0 : (0 : Int) ≤ (k : Nat) := by omega
      clear hye hze hex hfx hbu hbv hfu hfv
      generalize xs[k] = y at *
      clear hxk
      have hbl : b < wr.heap.size := World.block_lt_of_cell? _ _ h0
      have hbl2 : b' < wr.heap.size := World.block_lt_of_cell? _ _ g0
      have hwr := hbr.out.size
      have HCA := Lib.hid (fun (W : World) (hb : Below wr.heap.size wr W) (j : Nat) (v : Value) hv => (hb.cell (p := ⟨b, k * 17 + j, none⟩) hbl).trans (cells17 h0 h1 h2 h3 h4 h5 h6 h7 h8 h9 h10 h11 h12 h13 h14 h15 h16 j v hv))
      have HCB := Lib.hid (fun (W : World) (hb : Below wr.heap.size wr W) (j : Nat) (v : Value) hv => (hb.cell (p := ⟨b', k * 17 + j, none⟩) hbl2).trans (cells17 g0 g1 g2 g3 g4 g5 g6 g7 g8 g9 g10 g11 g12 g13 g14 g15 g16 j v hv))
      clear h0 h1 h2 h3 h4 h5 h6 h7 h8 h9 h10 h11 h12 h13 h14 h15 h16 g0 g1 g2 g3 g4 g5 g6 g7 g8 g9 g10 g11 g12 g13 g14 g15 g16
      go_wp2_with (first | (refine wpLoadAt rfl _ rfl b (k * 17) rfl (HCA.out _ ?_) ?_; (first | exact Below.refl _ _ | exact (Below.refl _ _).alloc (Nat.le_refl _) _)) | (refine wpLoadAt rfl _ rfl b' (k * 17) rfl (HCB.out _ ?_) ?_; (first | exact Below.refl _ _ | exact (Below.refl _ _).alloc (Nat.le_refl _) _)) | (refine wpStoreNew rfl _ _ rfl rfl rfl rfl ?_ ?_; rfl))
      refine (CE.out _ (((Below.refl _ _).alloc (Nat.le_refl _) _).alloc (by simp) _)).mono ?_
      rintro e w2 ⟨rfl, hB⟩
      have X2 := Lib.hid (blk_mid2 hB)
      have Y2 := Lib.hid (blk_sec5 hB)
      have kb : Hid (Below wr.heap.size wr w2) := Lib.hid ((((Below.refl _ _).alloc (Nat.le_refl _) _).alloc (by simp) _).trans (hB.mono (by simp; omega)))
      have x2 := X2.out.cell
      have y2 := Y2.out.cell
      clear hB CE HCA HCB
      go_wp2_with fail
      refine (CU.out _ kb.out).mono ?_
      rintro e w3 ⟨rfl, hB⟩
      have X3 := Lib.hid (X2.out.below hB)
      have Y3 := Lib.hid (Y2.out.below hB)
      have kb3 := Lib.hid (kb.out.trans (hB.mono kb.out.size))
      have x3 := X3.out.cell
      have y3 := Y3.out.cell
      clear hB x2 y2 X2 Y2 kb CU
      go_wp2_with fail
      refine (CV.out _ kb3.out).mono ?_
      rintro e w4 ⟨rfl, hB⟩
      have kb4 := Lib.hid (hbr.out.trans ((kb3.out.trans (hB.mono kb3.out.size)).mono hwr))
      clear hB x3 y3 X3 Y3 kb3 CV
      go_wp2
      go_roundg gg
      case measure => omega
      case rel => exact ⟨k + 1, by go_num, by omega, kb4⟩
    · have hlt2 : ¬ ((k : Nat) : Int) < (xs.length : Nat) := by omega
      go_wp2
      go_ret
      exact ⟨rfl, hbr.out⟩
/-- Rows that are one, all the way down. -/
theorem sameS_all (N : Nat) (hN : (N : Int) ≤ 4611686018427387904) : ∀ (n : Nat) (xs : List SX), SizeOf.sizeOf xs < n → xs.length ≤ N → slimSL N xs → ∀ (P Q : Nat → Prop) (o o' : Option Addr) (c c' : Nat) (w : World), IsSPs P w o 0 xs → IsSPs Q w o' 0 xs →
    Calls Tryz.prog 30 #[.slice o xs.length c, .slice o' xs.length c'] w fun e w' => e = .returned (.bool true) ∧ Below w.heap.size w w'
  | 0, _, h => by omega
  | n + 1, xs, h => fun hl hs P Q o o' c c' w hu hv =>
    sameS_one xs (by omega) P Q o o' c c' w hu hv
      (fun k y hy u v w hu hv => sameE_any N hN y.expr (slimS_parts (slimSL_at hs hy)).1 P Q u v w hu hv)
      (fun k y hy o o' c c' w hu hv => sameS_all N hN n y.body (by have := elem_lt hy; have := body_lt y; omega) (slimS_parts (slimSL_at hs hy)).2.1 (slimS_parts (slimSL_at hs hy)).2.2.2.1 P Q o o' c c' w hu hv)
      (fun k y hy o o' c c' w hu hv => sameS_all N hN n y.other (by have := elem_lt hy; have := other_lt y; omega) (slimS_parts (slimSL_at hs hy)).2.2.1 (slimS_parts (slimSL_at hs hy)).2.2.2.2 P Q o o' c c' w hu hv)
theorem sameS_any (N : Nat) (hN : (N : Int) ≤ 4611686018427387904) (xs : List SX) (hl : xs.length ≤ N) (hs : slimSL N xs) (P Q : Nat → Prop) (o o' : Option Addr) (c c' : Nat) (w : World) (hu : IsSPs P w o 0 xs) (hv : IsSPs Q w o' 0 xs) :
    Calls Tryz.prog 30 #[.slice o xs.length c, .slice o' xs.length c'] w fun e w' => e = .returned (.bool true) ∧ Below w.heap.size w w' := sameS_all N hN _ xs (Nat.lt_succ_self _) hl hs P Q o o' c c' w hu hv
end Go.Proofs.YtlgaphopjdeklaaGreat
