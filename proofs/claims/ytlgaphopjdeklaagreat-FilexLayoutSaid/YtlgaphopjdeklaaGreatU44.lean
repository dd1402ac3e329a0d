/-
  The walk of the document's own 'sameMethods' at two lists that are one. Condition: both lie in memory as said.
  The walk of the document's own 'SameDecl' at two declarations that are one. Condition: both lie in memory as said.
  The walk of the document's own 'Same' at two files that are one. Condition: both lie in memory as said.
-/
import Derived.Test.YtlgaphopjdeklaaGreatU39
namespace Go.Proofs.YtlgaphopjdeklaaGreat
open Go.RowKit
open Go.Lib hiding intOf
set_option maxRecDepth 100000 in
set_option maxHeartbeats 8000000 in
theorem sameMs (xs : List MX) (hx : (xs.length : Int) ≤ 4611686018427387904) (hp : ∀ y ∈ xs, (y.params.length : Int) ≤ 4611686018427387904) (P Q : Nat → Prop) (o o' : Option Addr) (c c' : Nat) (w : World) (hu : InRow 9 (IsMX P w) P w o 0 xs) (hv : InRow 9 (IsMX Q w) Q w o' 0 xs) :
    Calls Tryz.prog 28 #[.slice o xs.length c, .slice o' xs.length c'] w fun e w' => e = .returned (.bool true) ∧ Below w.heap.size w w' := by
  have HA := Lib.hid hu
  have HB := Lib.hid hv
  have HM := Lib.hid hp
  clear hu hv hp
  go_enter Tryz.func28, Tryz.ntmps28
  go_wp2_with fail
  go_loopg [5, 6, 7, 8] xs.length (fun g i _ _ _ wr => ∃ k : Nat, i = .int .i64 (k : Nat) ∧ k + g = xs.length ∧ Hid (Below w.heap.size w wr))
  case atStart => exact ⟨0, rfl, by omega, Lib.hid (Below.refl _ _)⟩
  case round =>
    obtain ⟨w0, rfl⟩ : ∃ w0, w0 = wr := ⟨wr, rfl⟩
    obtain ⟨k, rfl, hk, hbr⟩ := hrel
    by_cases hlt : k < xs.length
    · obtain ⟨gg, rfl⟩ : ∃ gg, gk = gg + 1 := ⟨gk - 1, by omega⟩
      have hxk := List.getElem?_eq_getElem hlt
      obtain ⟨b, cs, rfl, _, hl, hc, hy⟩ := (rowBelow (E := eltM) HA.out hbr.out).at_ k hxk
      obtain ⟨b', cs', rfl, _, hl', hc', hy'⟩ := (rowBelow (E := eltM) HB.out hbr.out).at_ k hxk
      obtain ⟨op, cp, tk, tp, tg, tn, tz, ta, hv, hps, ht⟩ := hy
      obtain ⟨op', cp', tk', tp', tg', tn', tz', ta', hv', hps', ht'⟩ := hy'
      obtain rfl := aggL hv
      obtain rfl := aggL hv'
      rw [Nat.zero_add] at hc hc'
      have HT := Lib.hid (fun (W : World) (hb : Below w0.heap.size w0 W) => sameT_any (xs[k]).result P Q _ _ W (ht.below hb) (ht'.below hb))
      have HPA := Lib.hid (fun (W : World) (hb : Below w0.heap.size w0 W) => rowBelow (E := eltT) hps hb)
      have HPB := Lib.hid (fun (W : World) (hb : Below w0.heap.size w0 W) => rowBelow (E := eltT) hps' hb)
      have hm := HM.out _ (List.mem_of_getElem? hxk)
      have c0 : w0.cell? ⟨b, k * 9, none⟩ = some (.string (xs[k]).name) := hc 0 _ rfl
      have c1 : w0.cell? ⟨b, k * 9 + 1, none⟩ = some (.int .i64 (xs[k]).pos) := hc 1 _ rfl
      have c2 : w0.cell? ⟨b, k * 9 + 2, none⟩ = some (.slice op (xs[k]).params.length cp) := hc 2 _ rfl
      have c3 : w0.cell? ⟨b, k * 9 + 3, none⟩ = some (.bool (xs[k]).has) := hc 3 _ rfl
      have d0 : w0.cell? ⟨b', k * 9, none⟩ = some (.string (xs[k]).name) := hc' 0 _ rfl
      have d1 : w0.cell? ⟨b', k * 9 + 1, none⟩ = some (.int .i64 (xs[k]).pos) := hc' 1 _ rfl
      have d2 : w0.cell? ⟨b', k * 9 + 2, none⟩ = some (.slice op' (xs[k]).params.length cp') := hc' 2 _ rfl
      have d3 : w0.cell? ⟨b', k * 9 + 3, none⟩ = some (.bool (xs[k]).has) := hc' 3 _ rfl
      have hlt2 : ((k : Nat) : Int) < (xs.length : Nat) := by omega
      have hk0 : (0 : Int) ≤ (k : Nat) := by omega
      have C1 := Lib.hid (cellsIn hc 4 5)
      have C2 := Lib.hid (cellsIn hc' 4 5)
      have hbl : b < w0.heap.size := World.block_lt_of_cell? _ _ c0
      have hbl2 : b' < w0.heap.size := World.block_lt_of_cell? _ _ d0
      have hwr := hbr.out.size
      clear hc hc' hl hl' ht ht' hv hv' hps hps'
      generalize xs[k] = y at *
      clear hxk
      go_wp2_with fail
      refine wp_region_still_tail 10 (by kernel_rfl) (by kernel_rfl) ?_
      simp only [List.take_succ_cons, List.take_zero, List.drop_succ_cons, List.drop_zero]
      iterate 4 still_step
      refine stillLoadAt 36 5 size5 Tryz.underlying36 rfl _ rfl b (k * 9 + 4) rfl C1.out rfl ?_
      iterate 4 still_step
      refine stillLoadAt 36 5 size5 Tryz.underlying36 rfl _ rfl b' (k * 9 + 4) rfl C2.out rfl ?_
      refine wpStill_nil ?_
      change wpList _ _ _ _ _ w0.drew
      go_wp2_with fail
      refine (HT.out _ (Below.refl _ _).drew).mono ?_
      rintro e w2 ⟨rfl, hB⟩
      have kb := hB.undrew
      have B2 := Lib.hid kb
      have e0 := (kb.cell (p := ⟨b, k * 9, none⟩) hbl).trans c0
      have e1 := (kb.cell (p := ⟨b, k * 9 + 1, none⟩) hbl).trans c1
      have e2 := (kb.cell (p := ⟨b, k * 9 + 2, none⟩) hbl).trans c2
      have e3 := (kb.cell (p := ⟨b, k * 9 + 3, none⟩) hbl).trans c3
      have f0 := (kb.cell (p := ⟨b', k * 9, none⟩) hbl2).trans d0
      have f1 := (kb.cell (p := ⟨b', k * 9 + 1, none⟩) hbl2).trans d1
      have f2 := (kb.cell (p := ⟨b', k * 9 + 2, none⟩) hbl2).trans d2
      have f3 := (kb.cell (p := ⟨b', k * 9 + 3, none⟩) hbl2).trans d3
      clear hB kb c0 c1 c3 d0 d1 d3 C1 C2 HT
      have C2 := Lib.hid c2
      have D2 := Lib.hid d2
      clear c2 d2
      go_wp2_with fail
      go_quiet (fail)
      have B3 := Lib.hid (below_drewN B2.out nq)
      clear e0 e1 e2 e3 f0 f1 f2 f3 B2
      go_wp2_with fail
      go_loopg [7, 8] y.params.length (fun g i _ wi => ∃ m : Nat, i = .int .i64 (m : Nat) ∧ m + g = y.params.length ∧ Hid (Below w0.heap.size w0 wi))
      case atStart => exact ⟨0, rfl, by omega, B3⟩
      case round =>
        obtain ⟨m, rfl, hmk, hbi⟩ := hrel
        have c2 := (hbi.out.cell (p := ⟨b, k * 9 + 2, none⟩) hbl).trans C2.out
        have d2 := (hbi.out.cell (p := ⟨b', k * 9 + 2, none⟩) hbl2).trans D2.out
        by_cases hlm : m < y.params.length
        · obtain ⟨g2, rfl⟩ : ∃ g2, gk = g2 + 1 := ⟨gk - 1, by omega⟩
          have hym := List.getElem?_eq_getElem hlm
          obtain ⟨q, cs, rfl, _, hl, hc, hy⟩ := (HPA.out _ hbi.out).at_ m hym
          obtain ⟨q', cs', rfl, _, hl', hc', hy'⟩ := (HPB.out _ hbi.out).at_ m hym
          have HT := Lib.hid (fun (W : World) (hb : Below wr.heap.size wr W) => sameT_any _ P Q _ _ W (IsTP.below hy hb) (IsTP.below hy' hb))
          rw [Nat.zero_add] at hc hc'
          have C1 := Lib.hid hc
          have D1 := Lib.hid hc'
          have hlm2 : ((m : Nat) : Int) < (y.params.length : Nat) := by omega
          have hm0 : (0 : Int) ≤ (m : Nat) := by omega
          clear hy hy' hym hc hc'
          go_wp2_with fail
          refine wp_region_still_tail 16 (by kernel_rfl) (by kernel_rfl) ?_
          simp only [List.take_succ_cons, List.take_zero, List.drop_succ_cons, List.drop_zero]
          iterate 7 still_step
          refine stillLoadAt 36 5 size5 Tryz.underlying36 rfl _ rfl q (m * 5) rfl C1.out hl ?_
          iterate 7 still_step
          refine stillLoadAt 36 5 size5 Tryz.underlying36 rfl _ rfl q' (m * 5) rfl D1.out hl' ?_
          refine wpStill_nil ?_
          change wpList _ _ _ _ _ wr.drew
          go_wp2_with fail
          refine (HT.out _ (Below.refl _ _).drew).mono ?_
          rintro e w5 ⟨rfl, hB⟩
          have B5 := Lib.hid (hbi.out.trans (hB.undrew.mono hbi.out.size))
          clear hB HT C1 D1 c2 d2
          go_wp2
          go_roundg g2
          case measure => omega
          case rel => exact ⟨m + 1, by go_num, by omega, B5⟩
        · have hlm2 : ¬ ((m : Nat) : Int) < (y.params.length : Nat) := by omega
          have hB2 := Lib.hid (hbr.out.trans (hbi.out.mono hwr))
          go_wp2
          go_roundg gg
          case measure => omega
          case rel => exact ⟨k + 1, by go_num, by omega, hB2⟩
    · have hlt2 : ¬ ((k : Nat) : Int) < (xs.length : Nat) := by omega
      go_wp2
      go_ret
      exact ⟨rfl, hbr.out⟩
end Go.Proofs.YtlgaphopjdeklaaGreat
namespace Go.Proofs.YtlgaphopjdeklaaGreat
open Go.RowKit
open Go.Lib hiding intOf
/-- A declaration of at most N parts of each kind. -/
structure FitD (N : Nat) (x : DX) : Prop where
  bounds : x.bounds.length ≤ N
  fields : x.fields.length ≤ N
  methods : x.methods.length ≤ N
  params : ∀ y ∈ x.methods, y.params.length ≤ N
  body : x.body.length ≤ N
  slim : slimSL N x.body
def Tr : Nat → Prop := fun _ => True
theorem IsPX.tr {P : Nat → Prop} {w w' : World} {x : PX} {v : Value} (h : IsPX P w x v) (hb : Below w.heap.size w w') : IsPX Tr w' x v :=
  h.keep (fun _ _ _ _ _ => trivial) fun _ _ _ _ hc => (hb.cell (World.block_lt_of_cell? _ _ hc)).trans hc
theorem rowOne {α : Type} {E : Elt α} {T : TypeId} {W : World} {g : Nat} {cs : List Value} {y : α} (hg : Blk W g T cs.toArray) (hl : cs.length = E.k) (h1 : E.One Tr W y (.agg cs.toArray)) : InRow E.k (E.One Tr W) Tr W (some ⟨g, 0, none⟩) 0 [y] := by
  refine ⟨⟨g, cs, rfl, trivial, hl, fun j u hu => ?_, h1⟩, trivial⟩
  have h := hg.cell (0 * E.k + j)
  rw [h, Nat.zero_mul, Nat.zero_add]
  simpa using hu
set_option maxRecDepth 100000 in
set_option maxHeartbeats 8000000 in
theorem sameD_any (N : Nat) (hN : (N : Int) ≤ 4611686018427387904) (x : DX) (hz : FitD N x) (P Q : Nat → Prop) (u v : Value) (w : World) (hu : IsDX P w x u) (hv : IsDX Q w x v) :
    Calls Tryz.prog 17 #[u, v] w fun e w' => e = .returned (.bool true) ∧ Below w.heap.size w w' := by
  obtain ⟨rn, rp, rk, rq, rg, rm, rz, ra, ob, cb, of, cf, om, cm, tk, tp, tg, tn, tz, ta, os, cs, rfl, h1, h2, h3, h4, h5, h6⟩ := hu
  obtain ⟨rn', rp', rk', rq', rg', rm', rz', ra', ob', cb', of', cf', om', cm', tk', tp', tg', tn', tz', ta', os', cs', rfl, g1, g2, g3, g4, g5, g6⟩ := hv
  have HR := Lib.hid (fun (W : World) (a b : Nat) (T : TypeId) (hb : Below w.heap.size w W) (ha : Blk W a T [.string rn, .int .i64 rp, .int .i64 rk, .int .i64 rq, .string rg, .string rm, .slice rz ra ra].toArray) (hb' : Blk W b T [.string rn', .int .i64 rp', .int .i64 rk', .int .i64 rq', .string rg', .string rm', .slice rz' ra' ra'].toArray) =>
    samePs [x.recv] (by simp) Tr Tr (some ⟨a, 0, none⟩) (some ⟨b, 0, none⟩) 1 1 W (rowOne (E := eltP) (cs := [.string rn, .int .i64 rp, .int .i64 rk, .int .i64 rq, .string rg, .string rm, .slice rz ra ra]) ha rfl (IsPX.tr h1 hb)) (rowOne (E := eltP) (cs := [.string rn', .int .i64 rp', .int .i64 rk', .int .i64 rq', .string rg', .string rm', .slice rz' ra' ra']) hb' rfl (IsPX.tr g1 hb)))
  have HB2 := Lib.hid (fun (W : World) (hb : Below w.heap.size w W) => samePs x.bounds (by have := hz.bounds; omega) P Q ob ob' cb cb' W (rowBelow (E := eltP) h2 hb) (rowBelow (E := eltP) g2 hb))
  have HF := Lib.hid (fun (W : World) (hb : Below w.heap.size w W) => samePs x.fields (by have := hz.fields; omega) P Q of of' cf cf' W (rowBelow (E := eltP) h3 hb) (rowBelow (E := eltP) g3 hb))
  have HM := Lib.hid (fun (W : World) (hb : Below w.heap.size w W) => sameMs x.methods (by have := hz.methods; omega) (fun y hy => by have := hz.params y hy; omega) P Q om om' cm cm' W (rowBelow (E := eltM) h4 hb) (rowBelow (E := eltM) g4 hb))
  have HT := Lib.hid (fun (W : World) (hb : Below w.heap.size w W) => sameT_any x.result P Q _ _ W (IsTP.below h5 hb) (IsTP.below g5 hb))
  have HS := Lib.hid (fun (W : World) (hb : Below w.heap.size w W) => sameS_any N hN x.body hz.body hz.slim P Q os os' cs cs' W (IsSPs.below h6 hb) (IsSPs.below g6 hb))
  clear h1 h2 h3 h4 h5 h6 g1 g2 g3 g4 g5 g6 hz
  have HX0 : Hid (Blk ((w.alloc (.cells #[.int .i64 x.kind, .int .i64 x.pos, .int .i64 x.stop, .string x.name, .bool x.method, .string rn, .int .i64 rp, .int .i64 rk, .int .i64 rq, .string rg, .string rm, .slice rz ra ra, .slice ob x.bounds.length cb, .slice of x.fields.length cf, .slice om x.methods.length cm, .bool x.has, .int .i64 tk, .int .i64 tp, .string tg, .string tn, .slice tz ta ta, .slice os x.body.length cs] 43)).alloc (.cells #[.int .i64 x.kind, .int .i64 x.pos, .int .i64 x.stop, .string x.name, .bool x.method, .string rn', .int .i64 rp', .int .i64 rk', .int .i64 rq', .string rg', .string rm', .slice rz' ra' ra', .slice ob' x.bounds.length cb', .slice of' x.fields.length cf', .slice om' x.methods.length cm', .bool x.has, .int .i64 tk', .int .i64 tp', .string tg', .string tn', .slice tz' ta' ta', .slice os' x.body.length cs'] 43)) w.heap.size 43 #[.int .i64 x.kind, .int .i64 x.pos, .int .i64 x.stop, .string x.name, .bool x.method, .string rn, .int .i64 rp, .int .i64 rk, .int .i64 rq, .string rg, .string rm, .slice rz ra ra, .slice ob x.bounds.length cb, .slice of x.fields.length cf, .slice om x.methods.length cm, .bool x.has, .int .i64 tk, .int .i64 tp, .string tg, .string tn, .slice tz ta ta, .slice os x.body.length cs]) := (Blk.new w 43 #[.int .i64 x.kind, .int .i64 x.pos, .int .i64 x.stop, .string x.name, .bool x.method, .string rn, .int .i64 rp, .int .i64 rk, .int .i64 rq, .string rg, .string rm, .slice rz ra ra, .slice ob x.bounds.length cb, .slice of x.fields.length cf, .slice om x.methods.length cm, .bool x.has, .int .i64 tk, .int .i64 tp, .string tg, .string tn, .slice tz ta ta, .slice os x.body.length cs]).alloc (.cells #[.int .i64 x.kind, .int .i64 x.pos, .int .i64 x.stop, .string x.name, .bool x.method, .string rn', .int .i64 rp', .int .i64 rk', .int .i64 rq', .string rg', .string rm', .slice rz' ra' ra', .slice ob' x.bounds.length cb', .slice of' x.fields.length cf', .slice om' x.methods.length cm', .bool x.has, .int .i64 tk', .int .i64 tp', .string tg', .string tn', .slice tz' ta' ta', .slice os' x.body.length cs'] 43)
  have HY0 : Hid (Blk ((w.alloc (.cells #[.int .i64 x.kind, .int .i64 x.pos, .int .i64 x.stop, .string x.name, .bool x.method, .string rn, .int .i64 rp, .int .i64 rk, .int .i64 rq, .string rg, .string rm, .slice rz ra ra, .slice ob x.bounds.length cb, .slice of x.fields.length cf, .slice om x.methods.length cm, .bool x.has, .int .i64 tk, .int .i64 tp, .string tg, .string tn, .slice tz ta ta, .slice os x.body.length cs] 43)).alloc (.cells #[.int .i64 x.kind, .int .i64 x.pos, .int .i64 x.stop, .string x.name, .bool x.method, .string rn', .int .i64 rp', .int .i64 rk', .int .i64 rq', .string rg', .string rm', .slice rz' ra' ra', .slice ob' x.bounds.length cb', .slice of' x.fields.length cf', .slice om' x.methods.length cm', .bool x.has, .int .i64 tk', .int .i64 tp', .string tg', .string tn', .slice tz' ta' ta', .slice os' x.body.length cs'] 43)) (w.heap.size + 1) 43 #[.int .i64 x.kind, .int .i64 x.pos, .int .i64 x.stop, .string x.name, .bool x.method, .string rn', .int .i64 rp', .int .i64 rk', .int .i64 rq', .string rg', .string rm', .slice rz' ra' ra', .slice ob' x.bounds.length cb', .slice of' x.fields.length cf', .slice om' x.methods.length cm', .bool x.has, .int .i64 tk', .int .i64 tp', .string tg', .string tn', .slice tz' ta' ta', .slice os' x.body.length cs']) := by
    have := Blk.new (w.alloc (.cells #[.int .i64 x.kind, .int .i64 x.pos, .int .i64 x.stop, .string x.name, .bool x.method, .string rn, .int .i64 rp, .int .i64 rk, .int .i64 rq, .string rg, .string rm, .slice rz ra ra, .slice ob x.bounds.length cb, .slice of x.fields.length cf, .slice om x.methods.length cm, .bool x.has, .int .i64 tk, .int .i64 tp, .string tg, .string tn, .slice tz ta ta, .slice os x.body.length cs] 43)) 43 #[.int .i64 x.kind, .int .i64 x.pos, .int .i64 x.stop, .string x.name, .bool x.method, .string rn', .int .i64 rp', .int .i64 rk', .int .i64 rq', .string rg', .string rm', .slice rz' ra' ra', .slice ob' x.bounds.length cb', .slice of' x.fields.length cf', .slice om' x.methods.length cm', .bool x.has, .int .i64 tk', .int .i64 tp', .string tg', .string tn', .slice tz' ta' ta', .slice os' x.body.length cs']
    show Blk _ _ _ _
    rwa [World.size_alloc] at this
  have HW0 : Hid (Below w.heap.size w ((w.alloc (.cells #[.int .i64 x.kind, .int .i64 x.pos, .int .i64 x.stop, .string x.name, .bool x.method, .string rn, .int .i64 rp, .int .i64 rk, .int .i64 rq, .string rg, .string rm, .slice rz ra ra, .slice ob x.bounds.length cb, .slice of x.fields.length cf, .slice om x.methods.length cm, .bool x.has, .int .i64 tk, .int .i64 tp, .string tg, .string tn, .slice tz ta ta, .slice os x.body.length cs] 43)).alloc (.cells #[.int .i64 x.kind, .int .i64 x.pos, .int .i64 x.stop, .string x.name, .bool x.method, .string rn', .int .i64 rp', .int .i64 rk', .int .i64 rq', .string rg', .string rm', .slice rz' ra' ra', .slice ob' x.bounds.length cb', .slice of' x.fields.length cf', .slice om' x.methods.length cm', .bool x.has, .int .i64 tk', .int .i64 tp', .string tg', .string tn', .slice tz' ta' ta', .slice os' x.body.length cs'] 43))) := ((Below.refl w.heap.size w).alloc (Nat.le_refl _) _).alloc (by simp) _
  go_enter Tryz.func17, Tryz.ntmps17
  go_wp2_with (refine boxRow1 39 38 7 _ Tryz.underlying39 infoP rfl (by decide) rfl _ rfl _ rfl rfl ?_)
  have hz0 : Hid (((w.alloc (.cells #[.int .i64 x.kind, .int .i64 x.pos, .int .i64 x.stop, .string x.name, .bool x.method, .string rn, .int .i64 rp, .int .i64 rk, .int .i64 rq, .string rg, .string rm, .slice rz ra ra, .slice ob x.bounds.length cb, .slice of x.fields.length cf, .slice om x.methods.length cm, .bool x.has, .int .i64 tk, .int .i64 tp, .string tg, .string tn, .slice tz ta ta, .slice os x.body.length cs] 43)).alloc (.cells #[.int .i64 x.kind, .int .i64 x.pos, .int .i64 x.stop, .string x.name, .bool x.method, .string rn', .int .i64 rp', .int .i64 rk', .int .i64 rq', .string rg', .string rm', .slice rz' ra' ra', .slice ob' x.bounds.length cb', .slice of' x.fields.length cf', .slice om' x.methods.length cm', .bool x.has, .int .i64 tk', .int .i64 tp', .string tg', .string tn', .slice tz' ta' ta', .slice os' x.body.length cs'] 43)).heap.size = w.heap.size + 1 + 1) := by show _ = _; rw [World.size_alloc, World.size_alloc]
  generalize (w.alloc (.cells #[.int .i64 x.kind, .int .i64 x.pos, .int .i64 x.stop, .string x.name, .bool x.method, .string rn, .int .i64 rp, .int .i64 rk, .int .i64 rq, .string rg, .string rm, .slice rz ra ra, .slice ob x.bounds.length cb, .slice of x.fields.length cf, .slice om x.methods.length cm, .bool x.has, .int .i64 tk, .int .i64 tp, .string tg, .string tn, .slice tz ta ta, .slice os x.body.length cs] 43)).alloc (.cells #[.int .i64 x.kind, .int .i64 x.pos, .int .i64 x.stop, .string x.name, .bool x.method, .string rn', .int .i64 rp', .int .i64 rk', .int .i64 rq', .string rg', .string rm', .slice rz' ra' ra', .slice ob' x.bounds.length cb', .slice of' x.fields.length cf', .slice om' x.methods.length cm', .bool x.has, .int .i64 tk', .int .i64 tp', .string tg', .string tn', .slice tz' ta' ta', .slice os' x.body.length cs'] 43) = w0 at *
  have P1 : Hid (Blk ((w0.alloc (.cells #[.string rn, .int .i64 rp, .int .i64 rk, .int .i64 rq, .string rg, .string rm, .slice rz ra ra] 38)).alloc (.cells #[.string rn', .int .i64 rp', .int .i64 rk', .int .i64 rq', .string rg', .string rm', .slice rz' ra' ra'] 38)) (w.heap.size + 1 + 1) 38 #[.string rn, .int .i64 rp, .int .i64 rk, .int .i64 rq, .string rg, .string rm, .slice rz ra ra]) := by
    have h := (Blk.new w0 38 #[.string rn, .int .i64 rp, .int .i64 rk, .int .i64 rq, .string rg, .string rm, .slice rz ra ra]).alloc (.cells #[.string rn', .int .i64 rp', .int .i64 rk', .int .i64 rq', .string rg', .string rm', .slice rz' ra' ra'] 38)
    rw [hz0.out] at h
    exact h
  have P2 : Hid (Blk ((w0.alloc (.cells #[.string rn, .int .i64 rp, .int .i64 rk, .int .i64 rq, .string rg, .string rm, .slice rz ra ra] 38)).alloc (.cells #[.string rn', .int .i64 rp', .int .i64 rk', .int .i64 rq', .string rg', .string rm', .slice rz' ra' ra'] 38)) (w.heap.size + 1 + 1 + 1) 38 #[.string rn', .int .i64 rp', .int .i64 rk', .int .i64 rq', .string rg', .string rm', .slice rz' ra' ra']) := by
    have h := Blk.new (w0.alloc (.cells #[.string rn, .int .i64 rp, .int .i64 rk, .int .i64 rq, .string rg, .string rm, .slice rz ra ra] 38)) 38 #[.string rn', .int .i64 rp', .int .i64 rk', .int .i64 rq', .string rg', .string rm', .slice rz' ra' ra']
    rw [World.size_alloc, hz0.out] at h
    exact h
  have hk : Below w0.heap.size w0 ((w0.alloc (.cells #[.string rn, .int .i64 rp, .int .i64 rk, .int .i64 rq, .string rg, .string rm, .slice rz ra ra] 38)).alloc (.cells #[.string rn', .int .i64 rp', .int .i64 rk', .int .i64 rq', .string rg', .string rm', .slice rz' ra' ra'] 38)) := ((Below.refl _ _).alloc (Nat.le_refl _) _).alloc (by simp) _
  have W0 := Lib.hid (HW0.out.trans (hk.mono HW0.out.size))
  have X0 := Lib.hid (HX0.out.below hk)
  have Y0 := Lib.hid (HY0.out.below hk)
  clear hk HW0 HX0 HY0
  refine (HR.out _ _ _ _ W0.out P1.out P2.out).mono ?_
  clear HR P1 P2
  rintro e w1 ⟨rfl, hB⟩
  have W1 := Lib.hid (W0.out.trans (hB.mono W0.out.size))
  have X1 := Lib.hid (X0.out.below hB)
  have Y1 := Lib.hid (Y0.out.below hB)
  have x1 := X1.out.cell
  have y1 := Y1.out.cell
  clear hB X0 Y0 W0
  go_wp2_with fail
  refine (HB2.out _ W1.out).mono ?_
  clear HB2
  rintro e w2 ⟨rfl, hB⟩
  have W2 := Lib.hid (W1.out.trans (hB.mono W1.out.size))
  have X2 := Lib.hid (X1.out.below hB)
  have Y2 := Lib.hid (Y1.out.below hB)
  have x2 := X2.out.cell
  have y2 := Y2.out.cell
  clear hB X1 Y1 W1 x1 y1
  go_wp2_with fail
  refine (HF.out _ W2.out).mono ?_
  clear HF
  rintro e w3 ⟨rfl, hB⟩
  have W3 := Lib.hid (W2.out.trans (hB.mono W2.out.size))
  have X3 := Lib.hid (X2.out.below hB)
  have Y3 := Lib.hid (Y2.out.below hB)
  have x3 := X3.out.cell
  have y3 := Y3.out.cell
  clear hB X2 Y2 W2 x2 y2
  go_wp2_with fail
  refine (HM.out _ W3.out).mono ?_
  clear HM
  rintro e w4 ⟨rfl, hB⟩
  have W4 := Lib.hid (W3.out.trans (hB.mono W3.out.size))
  have X4 := Lib.hid (X3.out.below hB)
  have Y4 := Lib.hid (Y3.out.below hB)
  have x4 := X4.out.cell
  have y4 := Y4.out.cell
  clear hB X3 Y3 W3 x3 y3
  go_wp2_with fail
  refine (HT.out _ W4.out).mono ?_
  clear HT
  rintro e w5 ⟨rfl, hB⟩
  have W5 := Lib.hid (W4.out.trans (hB.mono W4.out.size))
  have X5 := Lib.hid (X4.out.below hB)
  have Y5 := Lib.hid (Y4.out.below hB)
  have x5 := X5.out.cell
  have y5 := Y5.out.cell
  clear hB X4 Y4 W4 x4 y4
  go_wp2_with fail
  refine (HS.out _ W5.out).mono ?_
  clear HS
  rintro e w6 ⟨rfl, hB⟩
  have W6 := Lib.hid (W5.out.trans (hB.mono W5.out.size))
  clear hB X5 Y5 W5 x5 y5
  go_wp2
  go_ret
  exact ⟨rfl, W6.out⟩
end Go.Proofs.YtlgaphopjdeklaaGreat
namespace Go.Proofs.YtlgaphopjdeklaaGreat
open Go.RowKit
open Go.Lib hiding intOf
/-- A file of at most N parts of each kind. -/
structure FitF (N : Nat) (X : FX) : Prop where
  imports : X.imports.length ≤ N
  decls : X.decls.length ≤ N
  each : ∀ x ∈ X.decls, FitD N x
set_option maxRecDepth 100000 in
set_option maxHeartbeats 8000000 in
theorem sameF_any (N : Nat) (hN : (N : Int) ≤ 4611686018427387904) (X : FX) (hz : FitF N X) (P Q : Nat → Prop) (u v : Value) (w : World) (hu : IsFX P w X u) (hv : IsFX Q w X v) :
    Calls Tryz.prog 12 #[u, v] w fun e w' => e = .returned (.bool true) ∧ Below w.heap.size w w' := by
  obtain ⟨oi, ci, od, cd, rfl, h1, h2⟩ := hu
  obtain ⟨oi', ci', od', cd', rfl, g1, g2⟩ := hv
  have hli := hz.imports
  have hld := hz.decls
  have HI := Lib.hid (fun (W : World) (hb : Below w.heap.size w W) => rowBelow (E := eltN) (P := P) h1 hb)
  have HJ := Lib.hid (fun (W : World) (hb : Below w.heap.size w W) => rowBelow (E := eltN) (P := Q) g1 hb)
  have HD := Lib.hid (fun (W : World) (hb : Below w.heap.size w W) => rowBelow (E := eltD) h2 hb)
  have HE := Lib.hid (fun (W : World) (hb : Below w.heap.size w W) => rowBelow (E := eltD) g2 hb)
  have HZ := Lib.hid hz.each
  clear h1 h2 g1 g2 hz
  have HX0 : Hid (Blk ((w.alloc (.cells #[.string X.name, .int .i64 X.pos, .slice oi X.imports.length ci, .slice od X.decls.length cd] 26)).alloc (.cells #[.string X.name, .int .i64 X.pos, .slice oi' X.imports.length ci', .slice od' X.decls.length cd'] 26)) w.heap.size 26 #[.string X.name, .int .i64 X.pos, .slice oi X.imports.length ci, .slice od X.decls.length cd]) := (Blk.new w _ _).alloc _
  have HY0 : Hid (Blk ((w.alloc (.cells #[.string X.name, .int .i64 X.pos, .slice oi X.imports.length ci, .slice od X.decls.length cd] 26)).alloc (.cells #[.string X.name, .int .i64 X.pos, .slice oi' X.imports.length ci', .slice od' X.decls.length cd'] 26)) (w.heap.size + 1) 26 #[.string X.name, .int .i64 X.pos, .slice oi' X.imports.length ci', .slice od' X.decls.length cd']) := by
    have := Blk.new (w.alloc (.cells #[.string X.name, .int .i64 X.pos, .slice oi X.imports.length ci, .slice od X.decls.length cd] 26)) 26 #[.string X.name, .int .i64 X.pos, .slice oi' X.imports.length ci', .slice od' X.decls.length cd']
    show Blk _ _ _ _
    rwa [World.size_alloc] at this
  have HW0 : Hid (Below w.heap.size w ((w.alloc (.cells #[.string X.name, .int .i64 X.pos, .slice oi X.imports.length ci, .slice od X.decls.length cd] 26)).alloc (.cells #[.string X.name, .int .i64 X.pos, .slice oi' X.imports.length ci', .slice od' X.decls.length cd'] 26))) := ((Below.refl w.heap.size w).alloc (Nat.le_refl _) _).alloc (by simp) _
  go_enter Tryz.func12, Tryz.ntmps12
  go_wp2_with fail
  generalize (w.alloc (.cells #[.string X.name, .int .i64 X.pos, .slice oi X.imports.length ci, .slice od X.decls.length cd] 26)).alloc (.cells #[.string X.name, .int .i64 X.pos, .slice oi' X.imports.length ci', .slice od' X.decls.length cd'] 26) = w0 at *
  go_loopg [5] X.imports.length (fun g i wr => ∃ k : Nat, i = .int .i64 (k : Nat) ∧ k + g = X.imports.length ∧ Hid (Below w0.heap.size w0 wr))
  case atStart => exact ⟨0, rfl, by omega, Lib.hid (Below.refl _ _)⟩
  case round =>
    obtain ⟨k, rfl, hk, hbr⟩ := hrel
    have x1 := (HX0.out.below hbr.out).cell
    have y1 := (HY0.out.below hbr.out).cell
    have hwr := Lib.hid (HW0.out.trans (hbr.out.mono HW0.out.size))
    by_cases hlt : k < X.imports.length
    · obtain ⟨gg, rfl⟩ : ∃ gg, gk = gg + 1 := ⟨gk - 1, by omega⟩
      have hxk := List.getElem?_eq_getElem hlt
      obtain ⟨b, cs, rfl, _, hl, hc, hy⟩ := (HI.out _ hwr.out).at_ k hxk
      obtain ⟨b', cs', rfl, _, hl', hc', hy'⟩ := (HJ.out _ hwr.out).at_ k hxk
      obtain rfl := aggL (a := #[.string (X.imports[k]).1, .int .i64 (X.imports[k]).2]) hy
      obtain rfl := aggL (a := #[.string (X.imports[k]).1, .int .i64 (X.imports[k]).2]) hy'
      rw [Nat.zero_add] at hc hc'
      have c0 : wr.cell? ⟨b, k * 2, none⟩ = some (.string (X.imports[k]).1) := hc 0 _ rfl
      have c1 : wr.cell? ⟨b, k * 2 + 1, none⟩ = some (.int .i64 (X.imports[k]).2) := hc 1 _ rfl
      have d0 : wr.cell? ⟨b', k * 2, none⟩ = some (.string (X.imports[k]).1) := hc' 0 _ rfl
      have d1 : wr.cell? ⟨b', k * 2 + 1, none⟩ = some (.int .i64 (X.imports[k]).2) := hc' 1 _ rfl
      have hlt2 : ((k : Nat) : Int) < (X.imports.length : Nat) := by omega
      have hk0 : (0 : Int) ≤ (k : Nat) := by omega
      clear hc hc' hl hl' hy hy' hwr
      generalize X.imports[k] = y at *
      clear hxk
      go_wp2_with fail
      go_quiet (fail)
      have B3 := Lib.hid (below_drewN hbr.out nq)
      clear c0 c1 d0 d1 x1 y1
      go_wp2
      go_roundg gg
      case measure => omega
      case rel => exact ⟨k + 1, by go_num, by omega, B3⟩
    · have hlt2 : ¬ ((k : Nat) : Int) < (X.imports.length : Nat) := by omega
      obtain ⟨w1, rfl⟩ : ∃ w1, w1 = wr := ⟨wr, rfl⟩
      have HX1 := Lib.hid (HX0.out.below hbr.out)
      have HY1 := Lib.hid (HY0.out.below hbr.out)
      clear HX0 HY0 HW0
      go_wp2_with fail
      clear x1 y1
      go_loopg [6, 7] X.decls.length (fun g i _ wr => ∃ k : Nat, i = .int .i64 (k : Nat) ∧ k + g = X.decls.length ∧ Hid (Below w1.heap.size w1 wr))
      case atStart => exact ⟨0, rfl, by omega, Lib.hid (Below.refl _ _)⟩
      case round =>
        obtain ⟨m, rfl, hm, hbi⟩ := hrel
        have x1 := (HX1.out.below hbi.out).cell
        have y1 := (HY1.out.below hbi.out).cell
        have hw2 := Lib.hid (hwr.out.trans (hbi.out.mono hwr.out.size))
        by_cases hlm : m < X.decls.length
        · obtain ⟨g2, rfl⟩ : ∃ g2, gk = g2 + 1 := ⟨gk - 1, by omega⟩
          have hxm := List.getElem?_eq_getElem hlm
          obtain ⟨b, cs, rfl, _, hl, hc, hy⟩ := (HD.out _ hw2.out).at_ m hxm
          obtain ⟨b', cs', rfl, _, hl', hc', hy'⟩ := (HE.out _ hw2.out).at_ m hxm
          have HC := Lib.hid (fun (W : World) (hb : Below wr.heap.size wr W) => sameD_any N hN _ (HZ.out _ (List.mem_of_getElem? hxm)) P Q _ _ W
            (IsDX.keep (fun _ _ _ h _ => h) (fun _ _ _ _ hc => (hb.cell (World.block_lt_of_cell? _ _ hc)).trans hc) hy) (IsDX.keep (fun _ _ _ h _ => h) (fun _ _ _ _ hc => (hb.cell (World.block_lt_of_cell? _ _ hc)).trans hc) hy'))
          rw [Nat.zero_add] at hc hc'
          have C1 := Lib.hid hc
          have D1 := Lib.hid hc'
          have hlm2 : ((m : Nat) : Int) < (X.decls.length : Nat) := by omega
          have hm0 : (0 : Int) ≤ (m : Nat) := by omega
          clear hc hc' hy hy' hxm hw2
          go_wp2_with fail
          refine wp_region_still_tail 10 (by kernel_rfl) (by kernel_rfl) ?_
          simp only [List.take_succ_cons, List.take_zero, List.drop_succ_cons, List.drop_zero]
          iterate 4 still_step
          refine stillLoadAt 43 22 size22 Tryz.underlying43 rfl _ rfl b (m * 22) rfl C1.out hl ?_
          iterate 4 still_step
          refine stillLoadAt 43 22 size22 Tryz.underlying43 rfl _ rfl b' (m * 22) rfl D1.out hl' ?_
          refine wpStill_nil ?_
          change wpList _ _ _ _ _ wr.drew
          go_wp2_with fail
          refine (HC.out _ (Below.refl _ _).drew).mono ?_
          rintro e w5 ⟨rfl, hB⟩
          have B5 := Lib.hid (hbi.out.trans (hB.undrew.mono hbi.out.size))
          clear hB HC C1 D1 x1 y1
          go_wp2
          go_roundg g2
          case measure => omega
          case rel => exact ⟨m + 1, by go_num, by omega, B5⟩
        · have hlm2 : ¬ ((m : Nat) : Int) < (X.decls.length : Nat) := by omega
          go_wp2
          go_ret
          exact ⟨rfl, hw2.out⟩
end Go.Proofs.YtlgaphopjdeklaaGreat
