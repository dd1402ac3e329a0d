/-
  The tokens of a text as Parse sees them; the walk of 'awake': it answers true; nothing that was there has turned. No condition.
-/
import Derived.Test.YtdmlelikmikflaaSameT
namespace Go.Proofs.Ytdmlelikmikflaa
open Go.RowKit
open Go.Lib hiding intOf

def zOf (t : Tok) : TZ := ⟨t.kind, (t.pos : Nat), (t.stop : Nat), ⟨t.text.toArray⟩⟩

theorem add_none (g off n : Nat) : (⟨g, off, none⟩ : Addr).add n = ⟨g, off + n, none⟩ := by
  unfold Addr.add
  split
  · next h => rw [h]; rfl
  · rfl

theorem AtToks.z {w : World} {o : Option Addr} {ts : List Tok} (h : AtToks w o ts) : ZAt w o (ts.map zOf) := by
  intro k t hk
  rw [List.getElem?_map] at hk
  obtain ⟨x, hx, rfl⟩ := Option.map_eq_some_iff.1 hk
  obtain ⟨g, off, ho, h0⟩ := h (k * 4 + 0) _ ((toksC_at ts k x hx 0 (by omega)).trans rfl)
  refine ⟨⟨g, off, none⟩, ho, fun j u hu => ?_⟩
  have hj : j < 4 := (List.getElem?_eq_some_iff.1 hu).1
  obtain ⟨g', off', ho', h1⟩ := h (k * 4 + j) u ((toksC_at ts k x hx j hj).trans hu)
  rw [ho] at ho'; cases ho'
  rw [add_none]; exact h1

theorem lexed_ok {l : List UInt8} {ts : List Tok} {a : Nat} {c : Int} (hl : lexed l = (ts, a, c)) : ∀ t ∈ ts, okTok l.length t := by
  unfold lexed at hl
  split at hl
  · injection hl with hl _
    rw [← hl]; exact toks_ok l
  · injection hl with hl _
    rw [← hl]; simp

theorem lexed_fits {l : List UInt8} {ts : List Tok} {a : Nat} {c : Int} (hl : lexed l = (ts, a, c)) (hn : l.length ≤ 281474976710656) : Fits (ts.map zOf) := by
  intro t ht
  obtain ⟨x, hx, rfl⟩ := List.mem_map.1 ht
  have := (lexed_ok hl x hx).2.2.1
  show x.text.toArray.size ≤ _
  simp only [List.size_toArray]
  omega

theorem isKT_eq (t : TZ) (k : Int) (s : ByteArray) : isKT t k s = (decide (t.kind = k) && decide (t.text.data.toList = s.data.toList)) := by
  unfold isKT; rw [ByteArray.toList_eq, ByteArray.toList_eq, beq_list]

/-! The text of 'awake'. -/
def sA : ByteArray := ⟨#[91, 93, 97, 46, 84, 59]⟩
def tsA : List Tok := [⟨4, 0, 1, [91]⟩, ⟨4, 1, 2, [93]⟩, ⟨1, 2, 3, [97]⟩, ⟨4, 3, 4, [46]⟩, ⟨1, 4, 5, [84]⟩, ⟨4, 5, 6, [59]⟩, ⟨0, 6, 6, []⟩]
theorem lexA : lexed sA.data.toList = (tsA, 0, 0) := by decide +kernel

theorem prsA : prs (tsA.map zOf) 30 0 = .ok (.list 0 (.leaf 4 2 ⟨#[97]⟩ ⟨#[84]⟩)) 5 := by
  rw [prs_list _ 29 0 (by rw [isKT_eq]; decide +kernel) (by rw [isKT_eq]; decide +kernel)]
  rw [show (0 : Int) + 2 = 2 from rfl, prs_name _ 29 2 (by decide +kernel), if_pos (by rw [isKT_eq]; decide +kernel), if_pos (by decide +kernel)]
  rfl
theorem prsB : prs (tsA.map zOf) 30 5 = .err 5 5 := by
  rw [prs_other _ 30 5 (by decide +kernel) (by decide +kernel) (by rw [isKT_eq]; decide +kernel)]
  rfl

theorem allA (w : World) : Calls Try.prog 12 #[.string ⟨#[91, 93, 97, 46, 84, 59]⟩] w fun e w' => ∃ o cap, e = .returned (.tuple #[.slice o 7 cap, .agg #[.int .i64 0, .int .i64 0]]) ∧ ZAt w' o (tsA.map zOf) ∧ Below w.heap.size w w' :=
  (all_at sA tsA 0 0 lexA w (by decide)).mono fun e w' ⟨o, cap, he, ht, hb, _⟩ => ⟨o, cap, he, ht.z, hb⟩

theorem fitsA : Fits (tsA.map zOf) := lexed_fits lexA (by decide)

theorem parseA (o : Option Addr) (c : Nat) (w : World) (h : ZAt w o (tsA.map zOf)) : Calls Try.prog 9 #[.slice o 7 c, .int .i64 0] w fun e w' => ∃ b, e = .returned (okV (listV 0 b) 5) ∧ w'.cell? ⟨b, 0, none⟩ = some (.int .i64 4) ∧ w'.cell? ⟨b, 2, none⟩ = some (.string ⟨#[97]⟩) ∧ w'.cell? ⟨b, 3, none⟩ = some (.string ⟨#[84]⟩) ∧ Below w.heap.size w w' :=
  (parse_any o c (tsA.map zOf) 0 w h (by decide) fitsA).mono fun e w' ⟨v, he, hr, hb⟩ => by
    rw [prsA] at hr
    obtain ⟨y, rfl, b, y0, y1, y2, y3, y4, rfl, _, h0, _, h2, h3, _, hx⟩ := hr
    simp only [IsTP, leafV, Value.agg.injEq, Array.mk.injEq, List.cons.injEq, and_true] at hx
    obtain ⟨rfl, rfl, rfl, rfl, rfl⟩ := hx
    exact ⟨b, he, h0, h2, h3, hb⟩
theorem parseB (o : Option Addr) (c : Nat) (w : World) (h : ZAt w o (tsA.map zOf)) : Calls Try.prog 9 #[.slice o 7 c, .int .i64 5] w fun e w' => e = .returned (errV 5 5) ∧ Below w.heap.size w w' :=
  (parse_any o c (tsA.map zOf) 5 w h (by decide) fitsA).mono fun e w' ⟨v, he, hr, hb⟩ => by
    rw [prsB] at hr
    obtain rfl : v = errV 5 5 := hr
    exact ⟨he, hb⟩

theorem blk_sec {w1 w2 : World} {o : Obj} {cs : Array Value} {t : TypeId} (hB : Below ((w1.alloc o).alloc (.cells cs t)).heap.size ((w1.alloc o).alloc (.cells cs t)) w2) : Blk w2 (w1.heap.size + 1) t cs := by
  have h := (Blk.new (w1.alloc o) t cs).below hB
  simpa using h

set_option maxRecDepth 20000 in
set_option maxHeartbeats 4000000 in
theorem awake_any (w : World) : Calls Try.prog 8 #[] w fun e w' => e = .returned (.bool true) ∧ Below w.heap.size w w' := by
  go_enter Try.func8, Try.ntmps8
  go_wp2_with fail
  refine (allA _).mono ?_
  rintro e w1 ⟨o, cap, rfl, hZ, hB⟩
  have Z1 := Lib.hid hZ
  have B1 := Lib.hid hB
  clear hZ hB
  go_wp2_with fail
  refine (parseA o cap _ (Z1.out.below ((Below.refl _ _).alloc (Nat.le_refl _) _))).mono ?_
  rintro e w2 ⟨b, rfl, h0, h2, h3, hB⟩
  have Z2 := Lib.hid ((Z1.out.below ((Below.refl _ _).alloc (Nat.le_refl _) _)).below hB)
  have B2 := Lib.hid ((B1.out.alloc B1.out.size _).trans (hB.mono (by have := B1.out.size; simp; omega)))
  have hbl : b < w2.heap.size := World.block_lt_of_cell? _ _ h0
  clear hB Z1 B1
  unfold okV listV
  go_wp2_with fail
  refine (parseB o cap _ (Z2.out.below (((Below.refl _ _).alloc (Nat.le_refl _) _).alloc (by simp) _))).mono ?_
  rintro e w3 ⟨rfl, hB⟩
  have X3 := blk_mid2 hB
  have Y3 := blk_sec hB
  have hz3 : w2.heap.size + 1 < w3.heap.size := mid_size' hB
  have hz4 : w2.heap.size < w3.heap.size := by omega
  have hz5 : b < w3.heap.size := by omega
  have kb : Below w2.heap.size w2 w3 := (((Below.refl _ _).alloc (Nat.le_refl _) _).alloc (by simp) _).trans (hB.mono (by simp; omega))
  have g0 := (kb.cell (p := ⟨b, 0, none⟩) hbl).trans h0
  have g2 := (kb.cell (p := ⟨b, 2, none⟩) hbl).trans h2
  have g3 := (kb.cell (p := ⟨b, 3, none⟩) hbl).trans h3
  have B3 := Lib.hid (B2.out.trans (kb.mono B2.out.size))
  have x3 := X3.cell
  have y3 := Y3.cell
  have hz6 := B3.out.size
  clear hB kb h0 h2 h3 X3 Y3 B2
  unfold errV noType noText
  go_wp2
  go_ret
  exact ⟨by simp, (B3.out.alloc hz6 _).alloc (by simp; omega) _⟩

end Go.Proofs.Ytdmlelikmikflaa
