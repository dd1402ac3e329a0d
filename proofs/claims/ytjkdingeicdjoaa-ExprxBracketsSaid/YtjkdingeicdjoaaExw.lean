/-
  The walk of the statements' own 'moved'. Condition: the expressions lie in memory as said.
-/
import Derived.Test.YtjkdingeicdjoaaExa
import Derived.BigQuiet
import Derived.Deep.LoopGhost
import Derived.Deep.DeepCutAuto
namespace Go.Proofs.Ytjkdingeicdjoaa
open Go.RowKit
open Go.Lib hiding intOf

def EX.num : EX → Int
  | .mk _ _ _ n _ _ _ => n
def EX.name : EX → ByteArray
  | .mk _ _ _ _ n _ _ => n

theorem MovL.len {b : Int} : ∀ {us vs : List EX}, MovL b us vs → us.length = vs.length
  | [], [], _ => rfl
  | x :: r, y :: t, h => by unfold MovL at h; rw [List.length_cons, List.length_cons, MovL.len h.2]
  | [], _ :: _, h => by unfold MovL at h; exact h.elim
  | _ :: _, [], h => by unfold MovL at h; exact h.elim
theorem MovL.at_ {b : Int} : ∀ {us vs : List EX} {k : Nat} {x y : EX}, MovL b us vs → us[k]? = some x → vs[k]? = some y → Mov b x y
  | [], [], _, _, _, _, h, _ => by simp at h
  | x :: r, y :: t, 0, _, _, h, hx, hy => by
    simp at hx hy; subst hx hy
    unfold MovL at h; exact h.1
  | x :: r, y :: t, k + 1, _, _, h, hx, hy => by
    unfold MovL at h; exact MovL.at_ h.2 (by simpa using hx) (by simpa using hy)
  | [], _ :: _, _, _, _, h, _, _ => by unfold MovL at h; exact h.elim
  | _ :: _, [], _, _, _, h, _, _ => by unfold MovL at h; exact h.elim

theorem IsEP.parts2 {P : Nat → Prop} {w : World} {x : EX} {v : Value} (h : IsEP P w x v) : ∃ (tk tp : Int) (tg tn : ByteArray) (tz : Option Addr) (ta : Nat) (o : Option Addr) (c : Nat),
    v = .agg #[.int .i64 x.kind, .int .i64 x.pos, .int .i64 x.stop, .string x.name, .int .i64 x.num, .int .i64 tk, .int .i64 tp, .string tg, .string tn, .slice tz ta ta, .slice o x.args.length c] ∧ IsEPs P w o 0 x.args := by
  cases x with
  | mk k p s n nm t args =>
    unfold IsEP at h
    obtain ⟨tk, tp, tg, tn, tz, ta, o, c, hv, ht, ha⟩ := h
    exact ⟨tk, tp, tg, tn, tz, ta, o, c, hv, ha⟩
theorem Mov.parts {b : Int} {x y : EX} (h : Mov b x y) : x.kind = y.kind ∧ x.pos + b = y.pos ∧ x.stop + b = y.stop ∧ x.num = y.num ∧ x.name = y.name ∧ MovL b x.args y.args := by
  cases x; cases y
  unfold Mov at h
  exact ⟨h.1, h.2.1, h.2.2.1, h.2.2.2.1, h.2.2.2.2.1, h.2.2.2.2.2⟩

/-- Places that an int holds, with one to spare, all the way down. -/
def fit (N : Int) (x : EX) : Prop := -1 ≤ x.pos ∧ x.pos ≤ N ∧ -1 ≤ x.stop ∧ x.stop ≤ N ∧ (x.args.length : Int) ≤ N

set_option maxRecDepth 20000 in
set_option maxHeartbeats 8000000 in
theorem moved_one (x y : EX) (hm : Mov 1 x y) (hx : fit 4611686018427387904 x) (P Q : Nat → Prop) (u v : Value) (w : World) (hu : IsEP P w x u) (hv : IsEP Q w y v) (hns : ∀ (k : Nat) (x' y' : EX), x.args[k]? = some x' → y.args[k]? = some y' → ∀ (u v : Value) (w : World), IsEP P w x' u → IsEP Q w y' v → Calls Try.prog 11 #[u, v, .int .i64 1] w fun e w' => e = .returned (.bool true) ∧ Below w.heap.size w w') :
    Calls Try.prog 11 #[u, v, .int .i64 1] w fun e w' => e = .returned (.bool true) ∧ Below w.heap.size w w' := by
  obtain ⟨tk, tp, tg, tn, tz, ta, o, c, rfl, ha⟩ := hu.parts2
  obtain ⟨tk', tp', tg', tn', tz', ta', o', c', rfl, hb⟩ := hv.parts2
  obtain ⟨m1, m2, m3, m4, m5, m6⟩ := hm.parts
  have hlen := m6.len
  obtain ⟨f1, f2, f3, f4, f5⟩ := hx
  have HA := Lib.hid ha
  have HB := Lib.hid hb
  have HN := Lib.hid hns
  rw [← m1, ← m2, ← m3, ← m4, ← m5, ← hlen]
  have ML := Lib.hid m6
  have HL := Lib.hid hlen
  clear hu hv ha hb hns hm m1 m2 m3 m4 m5 m6 hlen
  have HX0 := Lib.hid ((Blk.new w 33 #[.int .i64 x.kind, .int .i64 x.pos, .int .i64 x.stop, .string x.name, .int .i64 x.num, .int .i64 tk, .int .i64 tp, .string tg, .string tn, .slice tz ta ta, .slice o x.args.length c]).alloc (.cells #[.int .i64 x.kind, .int .i64 (x.pos + 1), .int .i64 (x.stop + 1), .string x.name, .int .i64 x.num, .int .i64 tk', .int .i64 tp', .string tg', .string tn', .slice tz' ta' ta', .slice o' x.args.length c'] 33))
  have HY0 : Hid (Blk ((w.alloc (.cells #[.int .i64 x.kind, .int .i64 x.pos, .int .i64 x.stop, .string x.name, .int .i64 x.num, .int .i64 tk, .int .i64 tp, .string tg, .string tn, .slice tz ta ta, .slice o x.args.length c] 33)).alloc (.cells #[.int .i64 x.kind, .int .i64 (x.pos + 1), .int .i64 (x.stop + 1), .string x.name, .int .i64 x.num, .int .i64 tk', .int .i64 tp', .string tg', .string tn', .slice tz' ta' ta', .slice o' x.args.length c'] 33)) (w.heap.size + 1) 33 #[.int .i64 x.kind, .int .i64 (x.pos + 1), .int .i64 (x.stop + 1), .string x.name, .int .i64 x.num, .int .i64 tk', .int .i64 tp', .string tg', .string tn', .slice tz' ta' ta', .slice o' x.args.length c']) := by
    have := Blk.new (w.alloc (.cells #[.int .i64 x.kind, .int .i64 x.pos, .int .i64 x.stop, .string x.name, .int .i64 x.num, .int .i64 tk, .int .i64 tp, .string tg, .string tn, .slice tz ta ta, .slice o x.args.length c] 33)) 33 #[.int .i64 x.kind, .int .i64 (x.pos + 1), .int .i64 (x.stop + 1), .string x.name, .int .i64 x.num, .int .i64 tk', .int .i64 tp', .string tg', .string tn', .slice tz' ta' ta', .slice o' x.args.length c']
    show Blk _ _ _ _
    rwa [World.size_alloc] at this
  have HB0 := Lib.hid (((Below.refl w.heap.size w).alloc (Nat.le_refl _) (.cells #[.int .i64 x.kind, .int .i64 x.pos, .int .i64 x.stop, .string x.name, .int .i64 x.num, .int .i64 tk, .int .i64 tp, .string tg, .string tn, .slice tz ta ta, .slice o x.args.length c] 33)).alloc (by simp) (.cells #[.int .i64 x.kind, .int .i64 (x.pos + 1), .int .i64 (x.stop + 1), .string x.name, .int .i64 x.num, .int .i64 tk', .int .i64 tp', .string tg', .string tn', .slice tz' ta' ta', .slice o' x.args.length c'] 33))
  go_enter Try.func11, Try.ntmps11
  go_wp2_with fail
  generalize (w.alloc (.cells #[.int .i64 x.kind, .int .i64 x.pos, .int .i64 x.stop, .string x.name, .int .i64 x.num, .int .i64 tk, .int .i64 tp, .string tg, .string tn, .slice tz ta ta, .slice o x.args.length c] 33)).alloc (.cells #[.int .i64 x.kind, .int .i64 (x.pos + 1), .int .i64 (x.stop + 1), .string x.name, .int .i64 x.num, .int .i64 tk', .int .i64 tp', .string tg', .string tn', .slice tz' ta' ta', .slice o' x.args.length c'] 33) = w1 at *
  go_loopg [7, 8] x.args.length (fun g i _ wr => ∃ k : Nat, i = .int .i64 (k : Nat) ∧ k + g = x.args.length ∧ Hid (Below w1.heap.size w1 wr))
  case atStart => exact ⟨0, rfl, by omega, Lib.hid (Below.refl _ _)⟩
  case round =>
    obtain ⟨k, rfl, hk, hbr⟩ := hrel
    have hx1 := HX0.out.below hbr.out
    have hy1 := HY0.out.below hbr.out
    have x1 := hx1.cell
    have y1 := hy1.cell
    have B1 := Lib.hid (HB0.out.trans (hbr.out.mono HB0.out.size))
    by_cases hlt : k < x.args.length
    · obtain ⟨gg, rfl⟩ : ∃ gg, gk = gg + 1 := ⟨gk - 1, by omega⟩
      have hxk := List.getElem?_eq_getElem hlt
      have hyk := List.getElem?_eq_getElem (HL.out ▸ hlt)
      have hat := (HA.out.below B1.out).at_ k hxk
      have hbt := (HB.out.below B1.out).at_ k hyk
      rw [Nat.zero_add] at hat hbt
      unfold IsEPs at hat hbt
      obtain ⟨⟨b, c0, c1, c2, c3, c4, c5, c6, c7, c8, c9, c10, rfl, _, h0, h1, h2, h3, h4, h5, h6, h7, h8, h9, h10, hye⟩, _⟩ := hat
      obtain ⟨⟨b', d0, d1, d2, d3, d4, d5, d6, d7, d8, d9, d10, rfl, _, g0, g1, g2, g3, g4, g5, g6, g7, g8, g9, g10, hze⟩, _⟩ := hbt
      have HC := Lib.hid (fun (W : World) (hb : Below wr.heap.size wr W) => HN.out k _ _ hxk hyk _ _ W (IsEP.below hye hb) (IsEP.below hze hb))
      have hlt2 : ((k : Nat) : Int) < (x.args.length : Nat) := by omega
      have hk0 : (0 : Int) ≤ (k : Nat) := by omega
      clear hye hze hxk hyk hx1 hy1
      have hbl : b < wr.heap.size := World.block_lt_of_cell? _ _ h0
      have hbl2 : b' < wr.heap.size := World.block_lt_of_cell? _ _ g0
      have hwr := hbr.out.size
      go_wp2_with fail
      go_cut [8] (fun v wx => v = .bool true ∧ Hid (Below w1.heap.size w1 wx))
      case first =>
        go_region_with (go_at_call 11; refine (HC.out _ (Below.refl _ _).drew).mono ?_; rintro e w2 ⟨rfl, hB⟩; have B2 := Lib.hid (hbr.out.trans (hB.undrew.mono hwr)); clear hB)
        all_goals go_wp2_with fail
        all_goals go_meet
        all_goals exact ⟨rfl, B2⟩
      case rest =>
        obtain ⟨rfl, HBB⟩ := hcut
        clear x1 y1 h0 h1 h2 h3 h4 h5 h6 h7 h8 h9 h10 g0 g1 g2 g3 g4 g5 g6 g7 g8 g9 g10
        go_wp2
        go_roundg gg
        case measure => omega
        case rel => exact ⟨k + 1, by go_num, by omega, HBB⟩
    · have hlt2 : ¬ ((k : Nat) : Int) < (x.args.length : Nat) := by omega
      clear hx1 hy1
      go_wp2
      go_ret
      exact ⟨rfl, B1.out⟩

end Go.Proofs.Ytjkdingeicdjoaa
