/-
  The walk of the packages' own 'awake': it answers true. No condition.
  The walk of the law's own 'named', where the name stands there. Condition: texts of at most 2^48 bytes.
-/
import Derived.Test.YtlgaphopjdeklaaGreatU35
import Derived.Test.YtlgaphopjdeklaaGreatU39
import Derived.Test.YtlgaphopjdeklaaGreatU12
namespace Go.Proofs.YtlgaphopjdeklaaGreat
open Go.RowKit
open Go.Lib hiding intOf
theorem txtA : txtAll fA = .ok ⟨⟨#[97]⟩, 8, [(⟨#[98]⟩, 17)], [⟨3, 28, 47, ⟨#[109]⟩, true, ⟨⟨#[116]⟩, 24, .leaf 4 26 ⟨#[]⟩ ⟨#[84]⟩⟩, [], [], [], true, .leaf 1 31 ⟨#[]⟩ ⟨#[]⟩, [.mk 3 35 ⟨#[]⟩ true (.mk 5 42 45 0 ⟨#[120]⟩ noTX [.mk 4 42 43 0 ⟨#[116]⟩ noTX []]) [] []]⟩]⟩ 23 := by
  have h := txt_good (F := stF fA) (fb := stB fA) (f := stL fA) badA6
  exact h.trans filA
theorem txtB : txtAll fB = .err 7 5 := by
  have h := txt_good (F := stF fB) (fb := stB fB) (f := stL fB) badB6
  exact h.trans filB
theorem textA (w : World) : Calls Tryz.prog 8 #[.string ⟨#[112, 97, 99, 107, 97, 103, 101, 32, 97, 59, 105, 109, 112, 111, 114, 116, 32, 98, 59, 102, 117, 110, 99, 40, 116, 32, 84, 41, 109, 40, 41, 105, 110, 116, 123, 114, 101, 116, 117, 114, 110, 32, 116, 46, 120, 59, 125]⟩] w fun e w' => ∃ (bi bd ci cd : Nat) (v0 v1 v2 v3 v4 v5 v6 v7 v8 v9 : Value) (ob of om os : Option Addr) (cb cf cm cs : Nat),
    e = .returned (.tuple #[.agg #[.string ⟨#[97]⟩, .int .i64 8, .slice (some ⟨bi, 0, none⟩) 1 ci, .slice (some ⟨bd, 0, none⟩) 1 cd], .agg #[.int .i64 0, .int .i64 0]]) ∧ w'.cell? ⟨bi, 0, none⟩ = some (.string ⟨#[98]⟩) ∧
    (∀ (j : Nat) (u : Value), ([.int .i64 3, .int .i64 28, .int .i64 47, .string ⟨#[109]⟩, .bool true, .string ⟨#[116]⟩, .int .i64 24, v0, v1, v2, v3, v4, .slice ob 0 cb, .slice of 0 cf, .slice om 0 cm, .bool true, v5, v6, v7, v8, v9, .slice os 1 cs] : List Value)[j]? = some u → w'.cell? ⟨bd, 0 + j, none⟩ = some u) ∧ ([.int .i64 3, .int .i64 28, .int .i64 47, .string ⟨#[109]⟩, .bool true, .string ⟨#[116]⟩, .int .i64 24, v0, v1, v2, v3, v4, .slice ob 0 cb, .slice of 0 cf, .slice om 0 cm, .bool true, v5, v6, v7, v8, v9, .slice os 1 cs] : List Value).all (·.oneCell') = true ∧ Below w.heap.size w w' := by
  refine (textF_all ⟨#[112, 97, 99, 107, 97, 103, 101, 32, 97, 59, 105, 109, 112, 111, 114, 116, 32, 98, 59, 102, 117, 110, 99, 40, 116, 32, 84, 41, 109, 40, 41, 105, 110, 116, 123, 114, 101, 116, 117, 114, 110, 32, 116, 46, 120, 59, 125]⟩ (by decide) w).mono fun e w' ⟨v, he, hr, hb⟩ => ?_
  rw [show txtAll (⟨#[112, 97, 99, 107, 97, 103, 101, 32, 97, 59, 105, 109, 112, 111, 114, 116, 32, 98, 59, 102, 117, 110, 99, 40, 116, 32, 84, 41, 109, 40, 41, 105, 110, 116, 123, 114, 101, 116, 117, 114, 110, 32, 116, 46, 120, 59, 125]⟩ : ByteArray).data.toList = _ from txtA] at hr
  obtain ⟨vx, hv, ⟨oi, ci, od, cd, rfl, h1, h2⟩, _⟩ := hr
  obtain ⟨⟨bi, cs1, rfl, _, _, hc1, hn⟩, _⟩ := h1
  obtain rfl := aggL (a := #[.string ⟨#[98]⟩, .int .i64 17]) hn
  obtain ⟨⟨bd, cs2, rfl, _, _, hc2, hd⟩, _⟩ := h2
  obtain ⟨rn, rp, rk, rq, rg, rm, rz, ra, ob, cb, of, cf, om, cm, tk, tp, tg, tn, tz, ta, os, cs, he2, hpx, _⟩ := hd
  obtain ⟨_, _, _, _, _, _, hpe, _⟩ := hpx
  simp only [Value.agg.injEq, Array.mk.injEq, List.cons.injEq, Value.string.injEq, Value.int.injEq, true_and, and_true] at hpe
  obtain ⟨rfl, rfl, _⟩ := hpe
  obtain rfl := aggL he2
  exact ⟨bi, bd, ci, cd, _, _, _, _, _, _, _, _, _, _, ob, of, om, os, cb, cf, cm, cs, he.trans (by rw [hv]; rfl), hc1 0 _ rfl, fun j u hu => by have := hc2 j u hu; rwa [Nat.zero_mul] at this, rfl, hb⟩
theorem textB (w : World) : Calls Tryz.prog 8 #[.string ⟨#[112, 97, 99, 107, 97, 103, 101, 59]⟩] w fun e w' => e = .returned (.tuple #[.agg #[.string ⟨#[]⟩, .int .i64 0, .slice none 0 0, .slice none 0 0], .agg #[.int .i64 7, .int .i64 5]]) ∧ Below w.heap.size w w' := by
  refine (textF_all ⟨#[112, 97, 99, 107, 97, 103, 101, 59]⟩ (by decide) w).mono fun e w' ⟨v, he, hr, hb⟩ => ?_
  rw [show txtAll (⟨#[112, 97, 99, 107, 97, 103, 101, 59]⟩ : ByteArray).data.toList = _ from txtB] at hr
  exact ⟨he.trans (by rw [show v = _ from hr]), hb⟩
set_option maxRecDepth 100000 in
set_option maxHeartbeats 8000000 in
theorem awakeF_any (w : World) : Calls Tryz.prog 7 #[] w fun e w' => e = .returned (.bool true) ∧ Below w.heap.size w w' := by
  go_enter Tryz.func7, Tryz.ntmps7
  go_wp2_with fail
  refine (textA _).mono ?_
  rintro e w1 ⟨bi, bd, ci, cd, v0, v1, v2, v3, v4, v5, v6, v7, v8, v9, ob, of, om, os, cb, cf, cm, cs, rfl, hi, hc, h1, hB⟩
  have B1 := Lib.hid hB
  have k1 : Hid (Below w1.heap.size w1 ((w1.alloc (.cells #[.string ⟨#[97]⟩, .int .i64 8, .slice (some ⟨bi, 0, none⟩) 1 ci, .slice (some ⟨bd, 0, none⟩) 1 cd] 26)).alloc (.cells #[.int .i64 0, .int .i64 0] 28))) := ((Below.refl _ _).alloc (Nat.le_refl _) _).alloc (by simp) _
  have X1 : Hid (Blk ((w1.alloc (.cells #[.string ⟨#[97]⟩, .int .i64 8, .slice (some ⟨bi, 0, none⟩) 1 ci, .slice (some ⟨bd, 0, none⟩) 1 cd] 26)).alloc (.cells #[.int .i64 0, .int .i64 0] 28)) w1.heap.size 26 #[.string ⟨#[97]⟩, .int .i64 8, .slice (some ⟨bi, 0, none⟩) 1 ci, .slice (some ⟨bd, 0, none⟩) 1 cd]) := (Blk.new w1 _ _).alloc _
  have G1 : Hid (Blk ((w1.alloc (.cells #[.string ⟨#[97]⟩, .int .i64 8, .slice (some ⟨bi, 0, none⟩) 1 ci, .slice (some ⟨bd, 0, none⟩) 1 cd] 26)).alloc (.cells #[.int .i64 0, .int .i64 0] 28)) (w1.heap.size + 1) 28 #[.int .i64 0, .int .i64 0]) := by
    have := Blk.new (w1.alloc (.cells #[.string ⟨#[97]⟩, .int .i64 8, .slice (some ⟨bi, 0, none⟩) 1 ci, .slice (some ⟨bd, 0, none⟩) 1 cd] 26)) 28 #[.int .i64 0, .int .i64 0]
    show Blk _ _ _ _
    rwa [World.size_alloc] at this
  have hbi : bi < w1.heap.size := World.block_lt_of_cell? _ _ hi
  have hbd : bd < w1.heap.size := World.block_lt_of_cell? _ _ (hc 0 _ rfl)
  have HI := Lib.hid hi
  have HC := Lib.hid hc
  have H1 := Lib.hid h1
  clear hB hi hc h1
  go_wp2_with fail
  refine (textB _).mono ?_
  rintro e w2 ⟨rfl, hB⟩
  have k2 : Hid (Below w2.heap.size w2 ((w2.alloc (.cells #[.string ⟨#[]⟩, .int .i64 0, .slice none 0 0, .slice none 0 0] 26)).alloc (.cells #[.int .i64 7, .int .i64 5] 28))) := ((Below.refl _ _).alloc (Nat.le_refl _) _).alloc (by simp) _
  have kb : Hid (Below w1.heap.size w1 ((w2.alloc (.cells #[.string ⟨#[]⟩, .int .i64 0, .slice none 0 0, .slice none 0 0] 26)).alloc (.cells #[.int .i64 7, .int .i64 5] 28))) := (k1.out.trans ((hB.trans (k2.out.mono hB.size)).mono k1.out.size))
  have x2 := ((X1.out.below hB).below k2.out).cell
  have g2 := ((G1.out.below hB).below k2.out).cell
  have hi := (kb.out.cell (p := ⟨bi, 0, none⟩) hbi).trans HI.out
  have C2 : Hid (∀ (j : Nat) (u : Value), ([.int .i64 3, .int .i64 28, .int .i64 47, .string ⟨#[109]⟩, .bool true, .string ⟨#[116]⟩, .int .i64 24, v0, v1, v2, v3, v4, .slice ob 0 cb, .slice of 0 cf, .slice om 0 cm, .bool true, v5, v6, v7, v8, v9, .slice os 1 cs] : List Value)[j]? = some u → Hid (World.cell? ((w2.alloc (.cells #[.string ⟨#[]⟩, .int .i64 0, .slice none 0 0, .slice none 0 0] 26)).alloc (.cells #[.int .i64 7, .int .i64 5] 28)) ⟨bd, 0 + j, none⟩ = some u)) := fun j u hu => (kb.out.cell (p := ⟨bd, 0 + j, none⟩) hbd).trans (HC.out j u hu)
  have W9 := Lib.hid (B1.out.trans (kb.out.mono B1.out.size))
  have y2 : Hid (Blk ((w2.alloc (.cells #[.string ⟨#[]⟩, .int .i64 0, .slice none 0 0, .slice none 0 0] 26)).alloc (.cells #[.int .i64 7, .int .i64 5] 28)) (w2.heap.size + 1) 28 #[.int .i64 7, .int .i64 5]) := by
    have := Blk.new (w2.alloc (.cells #[.string ⟨#[]⟩, .int .i64 0, .slice none 0 0, .slice none 0 0] 26)) 28 #[.int .i64 7, .int .i64 5]
    show Blk _ _ _ _
    rwa [World.size_alloc] at this
  have q1 : w1.heap.size + 1 < ((w2.alloc (.cells #[.string ⟨#[]⟩, .int .i64 0, .slice none 0 0, .slice none 0 0] 26)).alloc (.cells #[.int .i64 7, .int .i64 5] 28)).heap.size := ((G1.out.below hB).below k2.out).lt
  have q0 : w1.heap.size < ((w2.alloc (.cells #[.string ⟨#[]⟩, .int .i64 0, .slice none 0 0, .slice none 0 0] 26)).alloc (.cells #[.int .i64 7, .int .i64 5] 28)).heap.size := by omega
  have q2 : bi < ((w2.alloc (.cells #[.string ⟨#[]⟩, .int .i64 0, .slice none 0 0, .slice none 0 0] 26)).alloc (.cells #[.int .i64 7, .int .i64 5] 28)).heap.size := by omega
  have q4 : w2.heap.size + 1 < ((w2.alloc (.cells #[.string ⟨#[]⟩, .int .i64 0, .slice none 0 0, .slice none 0 0] 26)).alloc (.cells #[.int .i64 7, .int .i64 5] 28)).heap.size := y2.out.lt
  have z2 := y2.out.cell
  clear hB k1 k2 kb X1 G1 HI HC B1
  go_wp2_with (first | (refine boxLoadAt 43 22 size22 Tryz.underlying43 rfl _ rfl bd 0 rfl (cs := [.int .i64 3, .int .i64 28, .int .i64 47, .string ⟨#[109]⟩, .bool true, .string ⟨#[116]⟩, .int .i64 24, v0, v1, v2, v3, v4, .slice ob 0 cb, .slice of 0 cf, .slice om 0 cm, .bool true, v5, v6, v7, v8, v9, .slice os 1 cs]) C2.out rfl ?_; generalize ((w2.alloc (.cells #[.string ⟨#[]⟩, .int .i64 0, .slice none 0 0, .slice none 0 0] 26)).alloc (.cells #[.int .i64 7, .int .i64 5] 28)) = W at *) | (refine boxNew 43 22 size22 rfl _ _ rfl rfl [.int .i64 3, .int .i64 28, .int .i64 47, .string ⟨#[109]⟩, .bool true, .string ⟨#[116]⟩, .int .i64 24, v0, v1, v2, v3, v4, .slice ob 0 cb, .slice of 0 cf, .slice om 0 cm, .bool true, v5, v6, v7, v8, v9, .slice os 1 cs] rfl rfl rfl H1.out ?_))
  go_ret
  exact ⟨by simp, W9.out.alloc W9.out.size _⟩
end Go.Proofs.YtlgaphopjdeklaaGreat
namespace Go.Proofs.YtlgaphopjdeklaaGreat
open Go.RowKit
open Go.Lib hiding intOf
set_option maxRecDepth 100000 in
set_option maxHeartbeats 4000000 in
theorem namedF (s n : ByteArray) (p : Int) (hs : s.size ≤ 281474976710656) (h : namedL s.data.toList p n) (w : World) :
    Calls Tryz.prog 9 #[.string s, .int .i64 p, .string n] w fun e w' => e = .returned (.bool true) ∧ w' = w := by
  obtain ⟨h1, h2, h3, h4⟩ := h
  have e1 : n.data.toList.length = n.size := by rw [Array.length_toList]; rfl
  have e2 : s.data.toList.length = s.size := by rw [Array.length_toList]; rfl
  rw [e1] at h3 h4
  rw [e2] at h3
  obtain ⟨q, rfl⟩ : ∃ q : Nat, p = q := ⟨p.toNat, by omega⟩
  have hq : q + n.size ≤ s.size := by omega
  rw [Int.toNat_natCast] at h4
  have g1 : ¬ n.toList = [] := by rw [Lib.toList_data]; exact h1
  have g2 : s.extract q (q + n.size) = n := by
    apply ByteArray.ext
    apply Array.toList_inj.1
    rw [ext_take]
    exact h4
  have g3 : (0 : Int) ≤ (q : Nat) := by omega
  have g4 : IntKind.i64.wrap (((s.size : Nat) : Int) - (n.size : Nat)) = (s.size : Nat) - (n.size : Nat) := IntWalk.i64_in _ (by omega)
  have g5 : ((q : Nat) : Int) ≤ (s.size : Nat) - (n.size : Nat) := by omega
  have g6 : IntKind.i64.wrap (((q : Nat) : Int) + (n.size : Nat)) = (q : Nat) + (n.size : Nat) := IntWalk.i64_in _ (by omega)
  clear h1 h4 hs
  go_enter Tryz.func9, Tryz.ntmps9
  go_wp2_with fail
  go_ret
  simp [g1]
end Go.Proofs.YtlgaphopjdeklaaGreat
