/-
  Parse's contract at the tokens of a text; the walk of the statements' own 'awake': it answers true. No condition.
-/
import Derived.Test.YtjkdingeicdjoaaPsw
import Derived.Test.YtjkdingeicdjoaaPsq
import Derived.Test.YtjkdingeicdjoaaExd
import Derived.Test.YtjkdingeicdjoaaExe
namespace Go.Proofs.Ytjkdingeicdjoaa
open Go.RowKit
open Go.Lib hiding intOf

theorem AtToks.zt {w : World} {o : Option Addr} {ts : List Tok} (h : AtToks w o ts) : ZAt w o (ts.map zTok) := by
  intro k t hk
  rw [List.getElem?_map] at hk
  obtain ⟨x, hx, rfl⟩ := Option.map_eq_some_iff.1 hk
  obtain ⟨g, off, ho, h0⟩ := h (k * 4 + 0) _ ((toksC_at ts k x hx 0 (by omega)).trans rfl)
  refine ⟨⟨g, off, none⟩, ho, fun j u hu => ?_⟩
  have hj : j < 4 := (List.getElem?_eq_some_iff.1 hu).1
  obtain ⟨g', off', ho', h1⟩ := h (k * 4 + j) u ((toksC_at ts k x hx j hj).trans hu)
  rw [ho] at ho'; cases ho'
  rw [add_none']; exact h1
theorem AtToks.old {w : World} {o : Option Addr} {ts : List Tok} (h : AtToks w o ts) (hne : ts ≠ []) : ∀ a, o = some a → a.block < w.heap.size := by
  intro a ha
  obtain ⟨x, r, rfl⟩ := List.exists_cons_of_ne_nil hne
  obtain ⟨g, off, ho, h0⟩ := h (0 * 4 + 0) _ ((toksC_at (x :: r) 0 x rfl 0 (by omega)).trans rfl)
  rw [ha] at ho
  injection ho with ho
  subst ho
  exact World.block_lt_of_cell? _ _ h0

theorem toks_fits {s : List UInt8} (hn : s.length ≤ 281474976710656) : Fits ((toks s).map zTok) := by
  intro t ht
  obtain ⟨x, hx, rfl⟩ := List.mem_map.1 ht
  have := (toks_ok s x hx).2.2.1
  show x.text.toArray.size ≤ _
  simp only [List.size_toArray]
  omega
theorem toks_ne (s : List UInt8) : toks s ≠ [] := by unfold toks; simp
theorem toks_few {s : List UInt8} (h : bad (toks s) 0 = none) : (toks s).length ≤ 4001 := lexed_few (lexed_good' h)

/-- What the chapter says of a text's tokens. -/
def exAll (s : List UInt8) : EO EX := ex ((toks s).map zTok) (fuel ((toks s).map zTok)) 1 0 0
theorem exAll_some (s : List UInt8) : exAll s ≠ .out := (enough _).1 1 0 0 (by decide) (by decide) (by unfold fuel left; omega)

theorem parse_at (s : List UInt8) (h : bad (toks s) 0 = none) (hn : s.length ≤ 281474976710656) (o : Option Addr) (c : Nat) (w : World) (hz : AtToks w o (toks s)) :
    Calls Try.prog 9 #[.slice o (toks s).length c, .int .i64 0] w fun e w' => ∃ v, e = .returned v ∧ ParRes w.heap.size w' (exAll s) v ∧ Below w.heap.size w w' := by
  have hf := toks_fits hn
  have hl : ((toks s).map zTok).length ≤ 1073741824 := by have := toks_few h; rw [List.length_map]; omega
  have := parseE_any (c := c) 0 w hz.zt (hz.old (toks_ne s)) (fuel ((toks s).map zTok)) (fun b m => level_all hl hf _) (exAll_some s)
  rw [List.length_map] at this
  exact this

/-! The texts of 'awake'. -/
def sA : ByteArray := ⟨#[97, 43, 98, 42, 99, 59]⟩
def sB : ByteArray := ⟨#[102, 40, 44, 41]⟩
theorem badA : bad (toks sA.data.toList) 0 = none := by decide +kernel
theorem badB : bad (toks sB.data.toList) 0 = none := by decide +kernel
theorem lenA : (toks sA.data.toList).length = 7 := by decide +kernel
theorem lenB : (toks sB.data.toList).length = 5 := by decide +kernel
theorem exA : exAll sA.data.toList = .ok (.mk 9 0 5 0 ⟨#[43]⟩ noTX [.mk 4 0 1 0 ⟨#[97]⟩ noTX [], .mk 9 2 5 0 ⟨#[42]⟩ noTX [.mk 4 2 3 0 ⟨#[98]⟩ noTX [], .mk 4 4 5 0 ⟨#[99]⟩ noTX []]]) 5 := by kernel_rfl
theorem exB : exAll sB.data.toList = .err 2 5 := by kernel_rfl

theorem allA (w : World) : Calls Try.prog 8 #[.string ⟨#[97, 43, 98, 42, 99, 59]⟩] w fun e w' => ∃ o cap, e = .returned (.tuple #[.slice o 7 cap, .agg #[.int .i64 0, .int .i64 0]]) ∧ AtToks w' o (toks sA.data.toList) ∧ Below w.heap.size w w' :=
  (all_at sA _ 0 0 (lexed_good' badA) w (by decide)).mono fun e w' ⟨o, cap, he, ht, hb, _⟩ => ⟨o, cap, by rw [lenA] at he; exact he, ht, hb⟩
theorem allB (w : World) : Calls Try.prog 8 #[.string ⟨#[102, 40, 44, 41]⟩] w fun e w' => ∃ o cap, e = .returned (.tuple #[.slice o 5 cap, .agg #[.int .i64 0, .int .i64 0]]) ∧ AtToks w' o (toks sB.data.toList) ∧ Below w.heap.size w w' :=
  (all_at sB _ 0 0 (lexed_good' badB) w (by decide)).mono fun e w' ⟨o, cap, he, ht, hb, _⟩ => ⟨o, cap, by rw [lenB] at he; exact he, ht, hb⟩

theorem parseXA (o : Option Addr) (c : Nat) (w : World) (h : AtToks w o (toks sA.data.toList)) : Calls Try.prog 9 #[.slice o 7 c, .int .i64 0] w fun e w' => ∃ (b b2 c1 c2 : Nat) (tk tp : Int) (tg tn : ByteArray) (tz : Option Addr) (ta : Nat),
    e = .returned (.tuple #[.agg #[.int .i64 9, .int .i64 0, .int .i64 5, .string ⟨#[43]⟩, .int .i64 0, .int .i64 tk, .int .i64 tp, .string tg, .string tn, .slice tz ta ta, .slice (some ⟨b, 0, none⟩) 2 c1], .int .i64 5, .agg #[.int .i64 0, .int .i64 0]]) ∧
    w'.cell? ⟨b, 14, none⟩ = some (.string ⟨#[42]⟩) ∧ w'.cell? ⟨b, 21, none⟩ = some (.slice (some ⟨b2, 0, none⟩) 2 c2) ∧ w'.cell? ⟨b2, 3, none⟩ = some (.string ⟨#[98]⟩) ∧ Below w.heap.size w w' := by
  have hp := parse_at sA.data.toList badA (by decide) o c w h
  rw [lenA] at hp
  refine hp.mono fun e w' ⟨v, he, hr, hb⟩ => ?_
  rw [exA] at hr
  obtain ⟨vx, rfl, hx⟩ := hr
  unfold IsEX IsEP at hx
  obtain ⟨tk, tp, tg, tn, tz, ta, o1, c1, rfl, _, ha⟩ := hx
  unfold IsEPs at ha
  obtain ⟨⟨b, _, _, _, _, _, _, _, _, _, _, _, rfl, _⟩, ha⟩ := ha
  unfold IsEPs at ha
  obtain ⟨⟨b', d0, d1, d2, d3, d4, d5, d6, d7, d8, d9, d10, e1, _, _, _, _, h3, _, _, _, _, _, _, h10, hy⟩, _⟩ := ha
  injection e1 with e1
  injection e1 with e1
  subst e1
  unfold IsEP at hy
  obtain ⟨tk', tp', tg', tn', tz', ta', o2, c2, hv, _, ha2⟩ := hy
  simp only [Value.agg.injEq, Array.mk.injEq, List.cons.injEq, and_true] at hv
  obtain ⟨_, _, _, rfl, _, _, _, _, _, _, rfl⟩ := hv
  unfold IsEPs at ha2
  obtain ⟨⟨b2, f0, f1, f2, f3, f4, f5, f6, f7, f8, f9, f10, rfl, _, _, _, _, g3, _, _, _, _, _, _, _, hz⟩, _⟩ := ha2
  unfold IsEP at hz
  obtain ⟨_, _, _, _, _, _, _, _, hv, _, _⟩ := hz
  simp only [Value.agg.injEq, Array.mk.injEq, List.cons.injEq, and_true] at hv
  obtain ⟨_, _, _, rfl, _⟩ := hv
  exact ⟨b, b2, c1, c2, tk, tp, tg, tn, tz, ta, he, h3, h10, g3, hb⟩
theorem parseXB (o : Option Addr) (c : Nat) (w : World) (h : AtToks w o (toks sB.data.toList)) : Calls Try.prog 9 #[.slice o 5 c, .int .i64 0] w fun e w' => e = .returned (.tuple #[.agg zeroE, .int .i64 0, .agg #[.int .i64 2, .int .i64 5]]) ∧ Below w.heap.size w w' := by
  have hp := parse_at sB.data.toList badB (by decide) o c w h
  rw [lenB] at hp
  refine hp.mono fun e w' ⟨v, he, hr, hb⟩ => ?_
  rw [exB] at hr
  exact ⟨by rw [he]; exact congrArg _ hr, hb⟩

set_option maxRecDepth 20000 in
set_option maxHeartbeats 8000000 in
theorem awake_any (w : World) : Calls Try.prog 7 #[] w fun e w' => e = .returned (.bool true) ∧ Below w.heap.size w w' := by
  go_enter Try.func7, Try.ntmps7
  go_wp2_with fail
  refine (allA _).mono ?_
  rintro e w1 ⟨o, cap, rfl, hZ, hB⟩
  have Z1 := Lib.hid (hZ.below ((Below.refl _ _).alloc (Nat.le_refl _) (.cells #[.int .i64 0, .int .i64 0] 25)))
  have B1 := Lib.hid (hB.alloc hB.size (.cells #[.int .i64 0, .int .i64 0] 25))
  clear hZ hB
  go_wp2_with fail
  refine (parseXA o cap _ Z1.out).mono ?_
  rintro e w2 ⟨b, b2, c1, c2, tk, tp, tg, tn, tz, ta, rfl, h14, h21, h3, hB⟩
  have B2 := Lib.hid (B1.out.trans (hB.mono B1.out.size))
  have hbl : b < w2.heap.size := World.block_lt_of_cell? _ _ h14
  have hbl2 : b2 < w2.heap.size := World.block_lt_of_cell? _ _ h3
  clear hB Z1 B1
  go_wp2_with fail
  refine (allB _).mono ?_
  rintro e w3 ⟨o', cap', rfl, hZ, hB⟩
  have X3 := Lib.hid (blk_mid2 hB)
  have Y3 := Lib.hid (blk_sec hB)
  have kb : Below w2.heap.size w2 w3 := (((Below.refl _ _).alloc (Nat.le_refl _) _).alloc (by simp) _).trans (hB.mono (by simp; omega))
  have hz3 : w2.heap.size + 1 < w3.heap.size := mid_size' hB
  have g14 := (kb.cell (p := ⟨b, 14, none⟩) hbl).trans h14
  have g21 := (kb.cell (p := ⟨b, 21, none⟩) hbl).trans h21
  have g3 := (kb.cell (p := ⟨b2, 3, none⟩) hbl2).trans h3
  have Z3 := Lib.hid (hZ.below ((Below.refl _ _).alloc (Nat.le_refl _) (.cells #[.int .i64 0, .int .i64 0] 25)))
  have B3 := Lib.hid (B2.out.trans (kb.mono B2.out.size))
  clear hZ hB h14 h21 h3 kb B2
  go_wp2_with fail
  refine (parseXB o' cap' _ Z3.out).mono ?_
  rintro e w4 ⟨rfl, hB⟩
  have hb3 : Below w3.heap.size w3 w4 := ((Below.refl _ _).alloc (Nat.le_refl _) _).trans (hB.mono (by simp))
  have hx := X3.out.below hb3
  have hy := Y3.out.below hb3
  have x4 := hx.cell
  have y4 := hy.cell
  have i14 := (hb3.cell (p := ⟨b, 14, none⟩) (by simp only; omega)).trans g14
  have i21 := (hb3.cell (p := ⟨b, 21, none⟩) (by simp only; omega)).trans g21
  have i3 := (hb3.cell (p := ⟨b2, 3, none⟩) (by simp only; omega)).trans g3
  have hz4 : w3.heap.size < w4.heap.size := mid_size hB
  have B4 := Lib.hid (B3.out.trans (hb3.mono B3.out.size))
  have hbs := B4.out.size
  have hq1 : b < w4.heap.size := by omega
  have hq2 : b2 < w4.heap.size := by omega
  have hq3 : w2.heap.size < w4.heap.size := by omega
  have hq4 : w2.heap.size + 1 < w4.heap.size := by omega
  clear hB hb3 hx hy g14 g21 g3 B3
  unfold zeroE
  go_wp2
  go_ret
  exact ⟨by simp, (B4.out.alloc hbs _).alloc (by simp; omega) _⟩

end Go.Proofs.Ytjkdingeicdjoaa
