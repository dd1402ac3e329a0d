/-
  The walk of the document's own 'Same' at two expressions that are one. Condition: both lie in memory as said.
-/
import Derived.Test.YtlgaphopjdeklaaGreatU36
import Derived.Test.YtlgaphopjdeklaaGreatU11
import Derived.BigQuiet
import Derived.Deep.LoopGhost
import Derived.Deep.DeepCutAuto
namespace Go.Proofs.YtlgaphopjdeklaaGreat
open Go.RowKit
open Go.Lib hiding intOf
def EX.num' : EX → Int
  | .mk _ _ _ n _ _ _ => n
def EX.name' : EX → ByteArray
  | .mk _ _ _ _ n _ _ => n
def EX.typ' : EX → TX
  | .mk _ _ _ _ _ t _ => t
theorem IsEP.parts3 {P : Nat → Prop} {w : World} {x : EX} {v : Value} (h : IsEP P w x v) : ∃ (tk tp : Int) (tg tn : ByteArray) (tz : Option Addr) (ta : Nat) (o : Option Addr) (c : Nat),
    v = .agg #[.int .i64 x.kind, .int .i64 x.pos, .int .i64 x.stop, .string x.name', .int .i64 x.num', .int .i64 tk, .int .i64 tp, .string tg, .string tn, .slice tz ta ta, .slice o x.args.length c] ∧ IsTP P w x.typ' (.agg #[.int .i64 tk, .int .i64 tp, .string tg, .string tn, .slice tz ta ta]) ∧ IsEPs P w o 0 x.args := by
  cases x with
  | mk k p s n nm t args =>
    unfold IsEP at h
    exact h
set_option maxRecDepth 20000 in
set_option maxHeartbeats 8000000 in
theorem sameE_one (x : EX) (hx : (x.args.length : Int) ≤ 4611686018427387904) (P Q : Nat → Prop) (u v : Value) (w : World) (hu : IsEP P w x u) (hv : IsEP Q w x v) (hns : ∀ (k : Nat) (y : EX), x.args[k]? = some y → ∀ (u v : Value) (w : World), IsEP P w y u → IsEP Q w y v → Calls Tryz.prog 48 #[u, v] w fun e w' => e = .returned (.bool true) ∧ Below w.heap.size w w') :
    Calls Tryz.prog 48 #[u, v] w fun e w' => e = .returned (.bool true) ∧ Below w.heap.size w w' := by
  obtain ⟨tk, tp, tg, tn, tz, ta, o, c, rfl, ht, ha⟩ := hu.parts3
  obtain ⟨tk', tp', tg', tn', tz', ta', o', c', rfl, ht', hb⟩ := hv.parts3
  have HA := Lib.hid ha
  have HB := Lib.hid hb
  have HN := Lib.hid hns
  clear hu hv ha hb hns
  have HX0 := Lib.hid ((Blk.new w 64 #[.int .i64 x.kind, .int .i64 x.pos, .int .i64 x.stop, .string x.name', .int .i64 x.num', .int .i64 tk, .int .i64 tp, .string tg, .string tn, .slice tz ta ta, .slice o x.args.length c]).alloc (.cells #[.int .i64 x.kind, .int .i64 x.pos, .int .i64 x.stop, .string x.name', .int .i64 x.num', .int .i64 tk', .int .i64 tp', .string tg', .string tn', .slice tz' ta' ta', .slice o' x.args.length c'] 64))
  have HY0 : Hid (Blk ((w.alloc (.cells #[.int .i64 x.kind, .int .i64 x.pos, .int .i64 x.stop, .string x.name', .int .i64 x.num', .int .i64 tk, .int .i64 tp, .string tg, .string tn, .slice tz ta ta, .slice o x.args.length c] 64)).alloc (.cells #[.int .i64 x.kind, .int .i64 x.pos, .int .i64 x.stop, .string x.name', .int .i64 x.num', .int .i64 tk', .int .i64 tp', .string tg', .string tn', .slice tz' ta' ta', .slice o' x.args.length c'] 64)) (w.heap.size + 1) 64 #[.int .i64 x.kind, .int .i64 x.pos, .int .i64 x.stop, .string x.name', .int .i64 x.num', .int .i64 tk', .int .i64 tp', .string tg', .string tn', .slice tz' ta' ta', .slice o' x.args.length c']) := by
    have := Blk.new (w.alloc (.cells #[.int .i64 x.kind, .int .i64 x.pos, .int .i64 x.stop, .string x.name', .int .i64 x.num', .int .i64 tk, .int .i64 tp, .string tg, .string tn, .slice tz ta ta, .slice o x.args.length c] 64)) 64 #[.int .i64 x.kind, .int .i64 x.pos, .int .i64 x.stop, .string x.name', .int .i64 x.num', .int .i64 tk', .int .i64 tp', .string tg', .string tn', .slice tz' ta' ta', .slice o' x.args.length c']
    show Blk _ _ _ _
    rwa [World.size_alloc] at this
  have HB0 := Lib.hid (((Below.refl w.heap.size w).alloc (Nat.le_refl _) (.cells #[.int .i64 x.kind, .int .i64 x.pos, .int .i64 x.stop, .string x.name', .int .i64 x.num', .int .i64 tk, .int .i64 tp, .string tg, .string tn, .slice tz ta ta, .slice o x.args.length c] 64)).alloc (by simp) (.cells #[.int .i64 x.kind, .int .i64 x.pos, .int .i64 x.stop, .string x.name', .int .i64 x.num', .int .i64 tk', .int .i64 tp', .string tg', .string tn', .slice tz' ta' ta', .slice o' x.args.length c'] 64))
  have HT := Lib.hid (fun (W : World) (hb : Below w.heap.size w W) => sameT_any x.typ' P Q _ _ W (ht.below hb) (ht'.below hb))
  clear ht ht'
  go_enter Tryz.func48, Tryz.ntmps48
  go_wp2_with fail
  refine (HT.out _ HB0.out).mono ?_
  rintro e w1 ⟨rfl, hB⟩
  have X1 := Lib.hid (HX0.out.below hB)
  have Y1 := Lib.hid (HY0.out.below hB)
  have B0 := Lib.hid (HB0.out.trans (hB.mono HB0.out.size))
  have x1 := X1.out.cell
  have y1 := Y1.out.cell
  clear HX0 HY0 HB0 HT hB
  go_wp2
  clear x1 y1
  go_loopg [6, 7] x.args.length (fun g i _ wr => ∃ k : Nat, i = .int .i64 (k : Nat) ∧ k + g = x.args.length ∧ Hid (Below w1.heap.size w1 wr))
  case atStart => exact ⟨0, rfl, by omega, Lib.hid (Below.refl _ _)⟩
  case round =>
    obtain ⟨k, rfl, hk, hbr⟩ := hrel
    have hx1 := X1.out.below hbr.out
    have hy1 := Y1.out.below hbr.out
    have x1 := hx1.cell
    have y1 := hy1.cell
    have B1 := Lib.hid (B0.out.trans (hbr.out.mono B0.out.size))
    by_cases hlt : k < x.args.length
    · obtain ⟨gg, rfl⟩ : ∃ gg, gk = gg + 1 := ⟨gk - 1, by omega⟩
      have hxk := List.getElem?_eq_getElem hlt
      have hat := (HA.out.below B1.out).at_ k hxk
      have hbt := (HB.out.below B1.out).at_ k hxk
      rw [Nat.zero_add] at hat hbt
      unfold IsEPs at hat hbt
      obtain ⟨⟨b, c0, c1, c2, c3, c4, c5, c6, c7, c8, c9, c10, rfl, _, h0, h1, h2, h3, h4, h5, h6, h7, h8, h9, h10, hye⟩, _⟩ := hat
      obtain ⟨⟨b', d0, d1, d2, d3, d4, d5, d6, d7, d8, d9, d10, rfl, _, g0, g1, g2, g3, g4, g5, g6, g7, g8, g9, g10, hze⟩, _⟩ := hbt
      have HC := Lib.hid (fun (W : World) (hb : Below wr.heap.size wr W) => HN.out k _ hxk _ _ W (IsEP.below hye hb) (IsEP.below hze hb))
      have hlt2 : ((k : Nat) : Int) < (x.args.length : Nat) := by omega
      have hk0 : (0 : Int) ≤ (k : Nat) := by omega
      clear hye hze hxk hx1 hy1
      have hbl : b < wr.heap.size := World.block_lt_of_cell? _ _ h0
      have hbl2 : b' < wr.heap.size := World.block_lt_of_cell? _ _ g0
      have hwr := hbr.out.size
      go_wp2_with fail
      go_cut [7] (fun v wx => v = .bool true ∧ Hid (Below w1.heap.size w1 wx))
      case first =>
        go_region_with (go_at_call 48; refine (HC.out _ (Below.refl _ _).drew).mono ?_; rintro e w2 ⟨rfl, hB⟩; have B2 := Lib.hid (hbr.out.trans (hB.undrew.mono hwr)); clear hB)
        all_goals go_wp2_with fail
        all_goals go_meet
        all_goals exact ⟨rfl, B2⟩
      case rest =>
        obtain ⟨rfl, HBB⟩ := hcut
        clear x1 y1 h0 h1 h2 h3 h4 h5 h6 h7 h8 h9 h10 g0 g1 g2 g3 g4 g5 g6 g7 g8 g9 g10
        go_wp2
        go_roundg gg
        case measure => omega
        case rel => exact ⟨k + 1, by go_num, by omega, HBB⟩
    · have hlt2 : ¬ ((k : Nat) : Int) < (x.args.length : Nat) := by omega
      clear hx1 hy1
      go_wp2
      go_ret
      exact ⟨rfl, B1.out⟩
end Go.Proofs.YtlgaphopjdeklaaGreat
