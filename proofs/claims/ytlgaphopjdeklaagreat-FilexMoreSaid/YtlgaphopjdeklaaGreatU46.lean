/-
  FilexMore's walk. Condition: none beside the form's own reach.
-/
import Derived.Test.YtlgaphopjdeklaaGreatU40
import Derived.Test.YtlgaphopjdeklaaGreatU45
import Derived.ProofKit
import Derived.OpenShut
import Derived.SizedLaws
namespace Go.Proofs.YtlgaphopjdeklaaGreat.filexMore
open Go.ChangeShapes Go.WideShapes Go.ChangeAt Go.RowKit
open Go.ChangeMaps (open_string shut_string)
open Go.Lib hiding intOf
theorem own : ownKnob Tryz.prog.godebug = none := by kernel_rfl
theorem cat_more (s : ByteArray) (z : List UInt8) : s ++ ⟨(10 :: z).toArray⟩ = ⟨(s.data.toList ++ 10 :: z).toArray⟩ := by
  apply ByteArray.ext
  simp [ByteArray.data_append]
theorem rowLt {α : Type} {E : Elt α} {P : Nat → Prop} {w : World} {o : Option Addr} {i : Nat} {xs : List α} (h : InRow E.k (E.One P w) P w o i xs) : InRow E.k (E.One (· < w.heap.size) w) (· < w.heap.size) w o i xs :=
  h.keep (fun b i _ _ hc => World.block_lt_of_cell? w ⟨b, i, none⟩ hc) (fun _ _ _ _ hc => hc) (fun _ _ h => E.keep (fun b i _ _ hc => World.block_lt_of_cell? w ⟨b, i, none⟩ hc) (fun _ _ _ _ hc => hc) h) E.pos
theorem rowN {α : Type} {E : Elt α} {N : Nat} {w w' : World} {o : Option Addr} {i : Nat} {xs : List α} (h : InRow E.k (E.One (· < N) w) (· < N) w o i xs) (hb : Below N w w') : InRow E.k (E.One (· < N) w') (· < N) w' o i xs :=
  h.keep (fun _ _ _ h _ => h) (fun b i _ hq hc => (World.cell?_of_block (w := w) (a := ⟨b, i, none⟩) (hb.block b hq)).trans hc) (fun _ _ h => E.keep (fun _ _ _ h _ => h) (fun b i _ hq hc => (World.cell?_of_block (w := w) (a := ⟨b, i, none⟩) (hb.block b hq)).trans hc) h) E.pos
theorem rowLeft {α : Type} {k : Nat} {one : α → Value → Prop} {P : Nat → Prop} {w : World} {o : Option Addr} {ys : List α} : ∀ {xs : List α} {i : Nat}, InRow k one P w o i (xs ++ ys) → InRow k one P w o i xs
  | [], _, _ => trivial
  | _ :: _, _, h => ⟨h.1, rowLeft h.2⟩
set_option maxRecDepth 100000 in
set_option maxHeartbeats 8000000 in
theorem walk_long (s : ByteArray) (n : Int) (w : World) (hs : 3000 < s.size) (hs2 : s.size ≤ 281474976710656) :
    Calls Tryz.prog 6 #[.string s, .int .i64 n] w fun e w' => e = .returned (.bool true) ∧ Below w.heap.size w w' := by
  have h1 : (3000 : Int) < (s.size : Nat) := by omega
  clear hs
  go_enter Tryz.func6, Tryz.ntmps6
  go_wp2_with (go_at_call 7; refine (awakeF_any _).mono ?_; rintro e w1 ⟨rfl, hB⟩)
  go_ret
  exact ⟨rfl, hB⟩
set_option maxRecDepth 100000 in
set_option maxHeartbeats 8000000 in
theorem walk_badS (s : ByteArray) (n : Int) (w : World) (hs : s.size ≤ 3000) (hn : ¬ n.tmod 2 = 0) (R R' : EO FX) (T1 : TextIs s.data.toList R) (T2 : TextIs (s.data.toList ++ 10 :: zS) R') (p q p' q' : Int) (hR : R = .err p q) (hR' : R' = .err p' q') (hq : q ≠ 0) (hq' : q' ≠ 0) :
    Calls Tryz.prog 6 #[.string s, .int .i64 n] w fun e w' => e = .returned (.bool true) ∧ Below w.heap.size w w' := by
  have g1 : ¬ (3000 : Int) < (s.size : Nat) := by omega
  have e2 : s.data.toList.length = s.size := by rw [Array.length_toList]; rfl
  have gn : (n.tmod 2 == 0) = false := by simpa using hn
  have HT1 : Hid (∀ W : World, Calls Tryz.prog 8 #[.string s] W fun e w' => ∃ v, e = .returned v ∧ FParRes W.heap.size w' R v ∧ Below W.heap.size W w') := fun W => T1 W
  have HT2 : Hid (∀ W : World, Calls Tryz.prog 8 #[.string (s ++ ⟨#[10, 116, 121, 112, 101, 32, 90, 32, 115, 116, 114, 117, 99, 116, 32, 123, 32, 122, 32, 105, 110, 116, 59, 32, 125]⟩)] W fun e w' => ∃ v, e = .returned v ∧ FParRes W.heap.size w' R' v ∧ Below W.heap.size W w') := fun W => by
    have e : s ++ ⟨#[10, 116, 121, 112, 101, 32, 90, 32, 115, 116, 114, 117, 99, 116, 32, 123, 32, 122, 32, 105, 110, 116, 59, 32, 125]⟩ = ⟨(s.data.toList ++ 10 :: zS).toArray⟩ := cat_more s zS
    rw [e]
    exact T2 W
  clear T1 T2 hn
  go_enter Tryz.func6, Tryz.ntmps6
  go_wp2_with fail
  refine (awakeF_any _).mono ?_
  rintro e w1 ⟨rfl, hB⟩
  have B1 := Lib.hid hB
  clear hB
  go_wp2_with fail
  refine (HT1.out _).mono ?_
  rintro e w2 ⟨v, rfl, hr, hB⟩
  subst hR hR'
  obtain rfl : v = .tuple #[.agg #[.string ⟨#[]⟩, .int .i64 0, .slice none 0 0, .slice none 0 0], .agg #[.int .i64 p, .int .i64 q]] := hr
  have k2 : Hid (Below w2.heap.size w2 ((w2.alloc (.cells #[.string ⟨#[]⟩, .int .i64 0, .slice none 0 0, .slice none 0 0] 26)).alloc (.cells #[.int .i64 p, .int .i64 q] 28))) := ((Below.refl _ _).alloc (Nat.le_refl _) _).alloc (by simp) _
  have B2 := Lib.hid (B1.out.trans ((hB.trans (k2.out.mono hB.size)).mono B1.out.size))
  have G2 : Hid (Blk ((w2.alloc (.cells #[.string ⟨#[]⟩, .int .i64 0, .slice none 0 0, .slice none 0 0] 26)).alloc (.cells #[.int .i64 p, .int .i64 q] 28)) (w2.heap.size + 1) 28 #[.int .i64 p, .int .i64 q]) := by
    have := Blk.new (w2.alloc (.cells #[.string ⟨#[]⟩, .int .i64 0, .slice none 0 0, .slice none 0 0] 26)) 28 #[.int .i64 p, .int .i64 q]
    show Blk _ _ _ _
    rwa [World.size_alloc] at this
  have q1 : (q != 0) = true := by simpa using hq
  have q2 : (q' != 0) = true := by simpa using hq'
  clear hB HT1 B1 k2 hq hq'
  go_wp2_with fail
  refine (HT2.out _).mono ?_
  rintro e w3 ⟨v, rfl, hr, hB⟩
  obtain rfl : v = .tuple #[.agg #[.string ⟨#[]⟩, .int .i64 0, .slice none 0 0, .slice none 0 0], .agg #[.int .i64 p', .int .i64 q']] := hr
  have g2 := (G2.out.below hB).cell
  have l2 := (G2.out.below hB).lt
  have l3 : w2.heap.size + 1 < w3.heap.size + 1 := by omega
  have B3 := Lib.hid (B2.out.trans (hB.mono B2.out.size))
  have b3 := B3.out.size
  clear hB HT2 B2 G2
  go_wp2
  go_ret
  exact ⟨by simp, (B3.out.alloc b3 _).alloc (by simp; omega) _⟩
set_option maxRecDepth 100000 in
set_option maxHeartbeats 8000000 in
theorem walk_okS (s : ByteArray) (n : Int) (w : World) (hs : s.size ≤ 3000) (hn : ¬ n.tmod 2 = 0) (R R' : EO FX) (T1 : TextIs s.data.toList R) (T2 : TextIs (s.data.toList ++ 10 :: zS) R') (X : FX) (j : Int) (Z : DX) (r : Int) (hR : R = .ok X j) (hR' : R' = .ok ⟨X.name, X.pos, X.imports, X.decls ++ [Z]⟩ r) (z1 : Z.name = ⟨#[90]⟩) (z2 : Z.fields.length = 1) (z3 : Z.stop = ((s.size : Nat) : Int) + 25) (hfit : FitF 4003 X) :
    Calls Tryz.prog 6 #[.string s, .int .i64 n] w fun e w' => e = .returned (.bool true) ∧ Below w.heap.size w w' := by
  have g1 : ¬ (3000 : Int) < (s.size : Nat) := by omega
  have e2 : s.data.toList.length = s.size := by rw [Array.length_toList]; rfl
  have gn : (n.tmod 2 == 0) = false := by simpa using hn
  have HT1 : Hid (∀ W : World, Calls Tryz.prog 8 #[.string s] W fun e w' => ∃ v, e = .returned v ∧ FParRes W.heap.size w' R v ∧ Below W.heap.size W w') := fun W => T1 W
  have HT2 : Hid (∀ W : World, Calls Tryz.prog 8 #[.string (s ++ ⟨#[10, 116, 121, 112, 101, 32, 90, 32, 115, 116, 114, 117, 99, 116, 32, 123, 32, 122, 32, 105, 110, 116, 59, 32, 125]⟩)] W fun e w' => ∃ v, e = .returned v ∧ FParRes W.heap.size w' R' v ∧ Below W.heap.size W w') := fun W => by
    have e : s ++ ⟨#[10, 116, 121, 112, 101, 32, 90, 32, 115, 116, 114, 117, 99, 116, 32, 123, 32, 122, 32, 105, 110, 116, 59, 32, 125]⟩ = ⟨(s.data.toList ++ 10 :: zS).toArray⟩ := cat_more s zS
    rw [e]
    exact T2 W
  clear T1 T2 hn
  go_enter Tryz.func6, Tryz.ntmps6
  go_wp2_with fail
  refine (awakeF_any _).mono ?_
  rintro e w1 ⟨rfl, hB⟩
  have B1 := Lib.hid hB
  clear hB
  go_wp2_with fail
  refine (HT1.out _).mono ?_
  rintro e w2 ⟨v, rfl, hr, hB⟩
  subst hR hR'
  obtain ⟨vx, rfl, ⟨oi, ci, od, cd, rfl, hri, hrd⟩, _⟩ := hr
  have k2 : Hid (Below w2.heap.size w2 ((w2.alloc (.cells #[.string X.name, .int .i64 X.pos, .slice oi X.imports.length ci, .slice od X.decls.length cd] 26)).alloc (.cells #[.int .i64 0, .int .i64 0] 28))) := ((Below.refl _ _).alloc (Nat.le_refl _) _).alloc (by simp) _
  have B2 := Lib.hid (B1.out.trans ((hB.trans (k2.out.mono hB.size)).mono B1.out.size))
  have X2 : Hid (Blk ((w2.alloc (.cells #[.string X.name, .int .i64 X.pos, .slice oi X.imports.length ci, .slice od X.decls.length cd] 26)).alloc (.cells #[.int .i64 0, .int .i64 0] 28)) w2.heap.size 26 #[.string X.name, .int .i64 X.pos, .slice oi X.imports.length ci, .slice od X.decls.length cd]) := (Blk.new w2 _ _).alloc _
  have G2 : Hid (Blk ((w2.alloc (.cells #[.string X.name, .int .i64 X.pos, .slice oi X.imports.length ci, .slice od X.decls.length cd] 26)).alloc (.cells #[.int .i64 0, .int .i64 0] 28)) (w2.heap.size + 1) 28 #[.int .i64 0, .int .i64 0]) := by
    have := Blk.new (w2.alloc (.cells #[.string X.name, .int .i64 X.pos, .slice oi X.imports.length ci, .slice od X.decls.length cd] 26)) 28 #[.int .i64 0, .int .i64 0]
    show Blk _ _ _ _
    rwa [World.size_alloc] at this
  have HI2 := Lib.hid (rowBelow (E := eltN) (P := fun q => w1.heap.size ≤ q) hri k2.out)
  have HD2 := Lib.hid (rowBelow (E := eltD) (P := fun q => w1.heap.size ≤ q) hrd k2.out)
  clear hB HT1 B1 k2 hri hrd
  go_wp2_with fail
  refine (HT2.out _).mono ?_
  rintro e w3 ⟨v, rfl, hr, hB⟩
  obtain ⟨vx, rfl, ⟨oi', ci', od', cd', rfl, hri, hrd⟩, hroom⟩ := hr
  have HIf := Lib.hid (rowLt (E := eltN) (rowBelow (E := eltN) (P := fun q => w1.heap.size ≤ q) HI2.out hB))
  have HDf := Lib.hid (rowLt (E := eltD) (rowBelow (E := eltD) (P := fun q => w1.heap.size ≤ q) HD2.out hB))
  have HIg := Lib.hid (rowLt (E := eltN) (P := fun q => ((w2.alloc (.cells #[.string X.name, .int .i64 X.pos, .slice oi X.imports.length ci, .slice od X.decls.length cd] 26)).alloc (.cells #[.int .i64 0, .int .i64 0] 28)).heap.size ≤ q) hri)
  have hdg := rowLt (E := eltD) hrd
  obtain ⟨b, cs, rfl, _, hl, hc, hy⟩ := hdg.at_ X.decls.length (y := Z) (by rw [List.getElem?_append_right (Nat.le_refl _), Nat.sub_self]; rfl)
  have HDg := Lib.hid (rowLeft hdg)
  obtain ⟨rn, rp, rk, rq, rg, rm, rz, ra, ob, cb, of, cf, om, cm, tk, tp, tg, tn, tz, ta, os, cs, he, _⟩ := hy
  obtain rfl := aggL he
  rw [Nat.zero_add, z1, z2, z3] at hc
  clear z1 z2 z3
  have hlen : (X.decls ++ [Z]).length = X.decls.length + 1 := by rw [List.length_append]; rfl
  rw [hlen] at hroom ⊢
  have hcap : X.decls.length + 1 ≤ cd' := hroom _ _ _ _ _ _ _ _ rfl
  have k3 : Hid (Below w3.heap.size w3 ((w3.alloc (.cells #[.string X.name, .int .i64 X.pos, .slice oi' X.imports.length ci', .slice (some ⟨b, 0, none⟩) (X.decls.length + 1) cd'] 26)).alloc (.cells #[.int .i64 0, .int .i64 0] 28))) := ((Below.refl _ _).alloc (Nat.le_refl _) _).alloc (by simp) _
  have hbl : b < w3.heap.size := World.block_lt_of_cell? w3 ⟨b, X.decls.length * 22, none⟩ (hc 0 _ rfl)
  have C3 : Hid (∀ (j : Nat) (u : Value), ([.int .i64 Z.kind, .int .i64 Z.pos, .int .i64 (((s.size : Nat) : Int) + 25), .string ⟨#[90]⟩, .bool Z.method, .string rn, .int .i64 rp, .int .i64 rk, .int .i64 rq, .string rg, .string rm, .slice rz ra ra, .slice ob Z.bounds.length cb, .slice of 1 cf, .slice om Z.methods.length cm, .bool Z.has, .int .i64 tk, .int .i64 tp, .string tg, .string tn, .slice tz ta ta, .slice os Z.body.length cs] : List Value)[j]? = some u → World.cell? ((w3.alloc (.cells #[.string X.name, .int .i64 X.pos, .slice oi' X.imports.length ci', .slice (some ⟨b, 0, none⟩) (X.decls.length + 1) cd'] 26)).alloc (.cells #[.int .i64 0, .int .i64 0] 28)) ⟨b, X.decls.length * 22 + j, none⟩ = some u) := fun j u hu => (k3.out.cell (p := ⟨b, X.decls.length * 22 + j, none⟩) hbl).trans (hc j u hu)
  have x3 := ((X2.out.below hB).below k3.out).cell
  have g3 := ((G2.out.below hB).below k3.out).cell
  have Y3 : Hid (Blk ((w3.alloc (.cells #[.string X.name, .int .i64 X.pos, .slice oi' X.imports.length ci', .slice (some ⟨b, 0, none⟩) (X.decls.length + 1) cd'] 26)).alloc (.cells #[.int .i64 0, .int .i64 0] 28)) w3.heap.size 26 #[.string X.name, .int .i64 X.pos, .slice oi' X.imports.length ci', .slice (some ⟨b, 0, none⟩) (X.decls.length + 1) cd']) := (Blk.new w3 _ _).alloc _
  have y3 := Y3.out.cell
  have f3 := Y3.out.frozen
  have H3 : Hid (Blk ((w3.alloc (.cells #[.string X.name, .int .i64 X.pos, .slice oi' X.imports.length ci', .slice (some ⟨b, 0, none⟩) (X.decls.length + 1) cd'] 26)).alloc (.cells #[.int .i64 0, .int .i64 0] 28)) (w3.heap.size + 1) 28 #[.int .i64 0, .int .i64 0]) := by
    have := Blk.new (w3.alloc (.cells #[.string X.name, .int .i64 X.pos, .slice oi' X.imports.length ci', .slice (some ⟨b, 0, none⟩) (X.decls.length + 1) cd'] 26)) 28 #[.int .i64 0, .int .i64 0]
    show Blk _ _ _ _
    rwa [World.size_alloc] at this
  have h3 := H3.out.cell
  have l0 : w2.heap.size + 1 < w3.heap.size := (G2.out.below hB).lt
  have q3 : w3.heap.size + 1 < ((w3.alloc (.cells #[.string X.name, .int .i64 X.pos, .slice oi' X.imports.length ci', .slice (some ⟨b, 0, none⟩) (X.decls.length + 1) cd'] 26)).alloc (.cells #[.int .i64 0, .int .i64 0] 28)).heap.size := H3.out.lt
  have q0 : w2.heap.size < ((w3.alloc (.cells #[.string X.name, .int .i64 X.pos, .slice oi' X.imports.length ci', .slice (some ⟨b, 0, none⟩) (X.decls.length + 1) cd'] 26)).alloc (.cells #[.int .i64 0, .int .i64 0] 28)).heap.size := by omega
  have q1 : w2.heap.size + 1 < ((w3.alloc (.cells #[.string X.name, .int .i64 X.pos, .slice oi' X.imports.length ci', .slice (some ⟨b, 0, none⟩) (X.decls.length + 1) cd'] 26)).alloc (.cells #[.int .i64 0, .int .i64 0] 28)).heap.size := by omega
  have q2 : w3.heap.size < ((w3.alloc (.cells #[.string X.name, .int .i64 X.pos, .slice oi' X.imports.length ci', .slice (some ⟨b, 0, none⟩) (X.decls.length + 1) cd'] 26)).alloc (.cells #[.int .i64 0, .int .i64 0] 28)).heap.size := by omega
  have n1 : w2.heap.size ≠ w3.heap.size := by omega
  have n2 : w3.heap.size ≠ w2.heap.size := by omega
  have B3 := Lib.hid (B2.out.trans (hB.mono B2.out.size))
  have hd1 := hfit.decls
  have hw : IntKind.i64.wrap (((X.decls.length : Nat) : Int) + 1) = ((X.decls.length : Nat) : Int) + 1 := IntWalk.i64_in _ (by omega)
  have hk0 : (0 : Int) ≤ (X.decls.length : Nat) := by omega
  have hk1 : ((X.decls.length : Nat) : Int) < ((X.decls.length : Nat) : Int) + 1 := by omega
  have hk2 : ((X.decls.length : Nat) : Int) ≤ (cd' : Nat) := by omega
  have HFIT := Lib.hid hfit
  have hWs : Hid (((w3.alloc (.cells #[.string X.name, .int .i64 X.pos, .slice oi' X.imports.length ci', .slice (some ⟨b, 0, none⟩) (X.decls.length + 1) cd'] 26)).alloc (.cells #[.int .i64 0, .int .i64 0] 28)).heap.size = w3.heap.size + 1 + 1) := by show _ = _; rw [World.size_alloc, World.size_alloc]
  clear hB HT2 B2 X2 G2 hri hrd hdg hroom hc hl he hlen HI2 HD2 hfit
  go_wp2_with (first | (refine boxLoadAt 43 22 size22 Tryz.underlying43 rfl _ rfl b (X.decls.length * 22) rfl (cs := [.int .i64 Z.kind, .int .i64 Z.pos, .int .i64 (((s.size : Nat) : Int) + 25), .string ⟨#[90]⟩, .bool Z.method, .string rn, .int .i64 rp, .int .i64 rk, .int .i64 rq, .string rg, .string rm, .slice rz ra ra, .slice ob Z.bounds.length cb, .slice of 1 cf, .slice om Z.methods.length cm, .bool Z.has, .int .i64 tk, .int .i64 tp, .string tg, .string tn, .slice tz ta ta, .slice os Z.body.length cs]) C3.out rfl ?_; generalize ((w3.alloc (.cells #[.string X.name, .int .i64 X.pos, .slice oi' X.imports.length ci', .slice (some ⟨b, 0, none⟩) (X.decls.length + 1) cd'] 26)).alloc (.cells #[.int .i64 0, .int .i64 0] 28)) = W at *) | (refine boxNew 43 22 size22 rfl _ _ rfl rfl [.int .i64 Z.kind, .int .i64 Z.pos, .int .i64 (((s.size : Nat) : Int) + 25), .string ⟨#[90]⟩, .bool Z.method, .string rn, .int .i64 rp, .int .i64 rk, .int .i64 rq, .string rg, .string rm, .slice rz ra ra, .slice ob Z.bounds.length cb, .slice of 1 cf, .slice om Z.methods.length cm, .bool Z.has, .int .i64 tk, .int .i64 tp, .string tg, .string tn, .slice tz ta ta, .slice os Z.body.length cs] rfl rfl rfl rfl ?_))
  have hz1 : W.heap.size = w3.heap.size + 1 + 1 := hWs.out
  have k5 : Hid (Below w3.heap.size w3 ((W.setCell ⟨w3.heap.size, 3, none⟩ (.slice (some ⟨b, 0, none⟩) X.decls.length cd')).alloc (.cells #[.int .i64 Z.kind, .int .i64 Z.pos, .int .i64 (((s.size : Nat) : Int) + 25), .string ⟨#[90]⟩, .bool Z.method, .string rn, .int .i64 rp, .int .i64 rk, .int .i64 rq, .string rg, .string rm, .slice rz ra ra, .slice ob Z.bounds.length cb, .slice of 1 cf, .slice om Z.methods.length cm, .bool Z.has, .int .i64 tk, .int .i64 tp, .string tg, .string tn, .slice tz ta ta, .slice os Z.body.length cs] 43))) := ((k3.out.mono (Nat.le_refl _)).setCell (p := ⟨w3.heap.size, 3, none⟩) (Nat.le_refl _) _).alloc (by simp [World.setCell]; omega) _
  have B5 := Lib.hid (B3.out.trans (k5.out.mono B3.out.size))
  clear hz1 x3 g3 y3 f3 h3
  refine (sameF_any 4003 (by decide) X HFIT.out (· < w3.heap.size) (· < w3.heap.size) _ _ _ ⟨oi, ci, od, cd, rfl, rowN (E := eltN) HIf.out k5.out, rowN (E := eltD) HDf.out k5.out⟩ ⟨oi', ci', some ⟨b, 0, none⟩, cd', rfl, rowN (E := eltN) HIg.out k5.out, rowN (E := eltD) HDg.out k5.out⟩).mono ?_
  rintro e w6 ⟨rfl, hB⟩
  have B6 := Lib.hid (B5.out.trans (hB.mono B5.out.size))
  have x6 : Hid (Blk w6 W.heap.size 43 #[.int .i64 Z.kind, .int .i64 Z.pos, .int .i64 (((s.size : Nat) : Int) + 25), .string ⟨#[90]⟩, .bool Z.method, .string rn, .int .i64 rp, .int .i64 rk, .int .i64 rq, .string rg, .string rm, .slice rz ra ra, .slice ob Z.bounds.length cb, .slice of 1 cf, .slice om Z.methods.length cm, .bool Z.has, .int .i64 tk, .int .i64 tp, .string tg, .string tn, .slice tz ta ta, .slice os Z.body.length cs]) := by
    have h := Blk.new (W.setCell ⟨w3.heap.size, 3, none⟩ (.slice (some ⟨b, 0, none⟩) X.decls.length cd')) 43 #[.int .i64 Z.kind, .int .i64 Z.pos, .int .i64 (((s.size : Nat) : Int) + 25), .string ⟨#[90]⟩, .bool Z.method, .string rn, .int .i64 rp, .int .i64 rk, .int .i64 rq, .string rg, .string rm, .slice rz ra ra, .slice ob Z.bounds.length cb, .slice of 1 cf, .slice om Z.methods.length cm, .bool Z.has, .int .i64 tk, .int .i64 tp, .string tg, .string tn, .slice tz ta ta, .slice os Z.body.length cs]
    have h2 := h.below hB
    show Blk _ _ _ _
    simpa [World.setCell] using h2
  have c6 := x6.out.cell
  clear hB B5 k5 B3
  go_wp2
  go_ret
  exact ⟨by simp, B6.out⟩
set_option maxRecDepth 100000 in
set_option maxHeartbeats 8000000 in
theorem walk_badF (s : ByteArray) (n : Int) (w : World) (hs : s.size ≤ 3000) (hn : n.tmod 2 = 0) (R R' : EO FX) (T1 : TextIs s.data.toList R) (T2 : TextIs (s.data.toList ++ 10 :: zF) R') (p q p' q' : Int) (hR : R = .err p q) (hR' : R' = .err p' q') (hq : q ≠ 0) (hq' : q' ≠ 0) :
    Calls Tryz.prog 6 #[.string s, .int .i64 n] w fun e w' => e = .returned (.bool true) ∧ Below w.heap.size w w' := by
  have g1 : ¬ (3000 : Int) < (s.size : Nat) := by omega
  have e2 : s.data.toList.length = s.size := by rw [Array.length_toList]; rfl
  have gn : (n.tmod 2 == 0) = true := by simpa using hn
  have HT1 : Hid (∀ W : World, Calls Tryz.prog 8 #[.string s] W fun e w' => ∃ v, e = .returned v ∧ FParRes W.heap.size w' R v ∧ Below W.heap.size W w') := fun W => T1 W
  have HT2 : Hid (∀ W : World, Calls Tryz.prog 8 #[.string (s ++ ⟨#[10, 102, 117, 110, 99, 32, 90, 40, 122, 32, 105, 110, 116, 41, 32, 123, 32, 122, 59, 32, 125]⟩)] W fun e w' => ∃ v, e = .returned v ∧ FParRes W.heap.size w' R' v ∧ Below W.heap.size W w') := fun W => by
    have e : s ++ ⟨#[10, 102, 117, 110, 99, 32, 90, 40, 122, 32, 105, 110, 116, 41, 32, 123, 32, 122, 59, 32, 125]⟩ = ⟨(s.data.toList ++ 10 :: zF).toArray⟩ := cat_more s zF
    rw [e]
    exact T2 W
  clear T1 T2 hn
  go_enter Tryz.func6, Tryz.ntmps6
  go_wp2_with fail
  refine (awakeF_any _).mono ?_
  rintro e w1 ⟨rfl, hB⟩
  have B1 := Lib.hid hB
  clear hB
  go_wp2_with fail
  refine (HT1.out _).mono ?_
  rintro e w2 ⟨v, rfl, hr, hB⟩
  subst hR hR'
  obtain rfl : v = .tuple #[.agg #[.string ⟨#[]⟩, .int .i64 0, .slice none 0 0, .slice none 0 0], .agg #[.int .i64 p, .int .i64 q]] := hr
  have k2 : Hid (Below w2.heap.size w2 ((w2.alloc (.cells #[.string ⟨#[]⟩, .int .i64 0, .slice none 0 0, .slice none 0 0] 26)).alloc (.cells #[.int .i64 p, .int .i64 q] 28))) := ((Below.refl _ _).alloc (Nat.le_refl _) _).alloc (by simp) _
  have B2 := Lib.hid (B1.out.trans ((hB.trans (k2.out.mono hB.size)).mono B1.out.size))
  have G2 : Hid (Blk ((w2.alloc (.cells #[.string ⟨#[]⟩, .int .i64 0, .slice none 0 0, .slice none 0 0] 26)).alloc (.cells #[.int .i64 p, .int .i64 q] 28)) (w2.heap.size + 1) 28 #[.int .i64 p, .int .i64 q]) := by
    have := Blk.new (w2.alloc (.cells #[.string ⟨#[]⟩, .int .i64 0, .slice none 0 0, .slice none 0 0] 26)) 28 #[.int .i64 p, .int .i64 q]
    show Blk _ _ _ _
    rwa [World.size_alloc] at this
  have q1 : (q != 0) = true := by simpa using hq
  have q2 : (q' != 0) = true := by simpa using hq'
  clear hB HT1 B1 k2 hq hq'
  go_wp2_with fail
  refine (HT2.out _).mono ?_
  rintro e w3 ⟨v, rfl, hr, hB⟩
  obtain rfl : v = .tuple #[.agg #[.string ⟨#[]⟩, .int .i64 0, .slice none 0 0, .slice none 0 0], .agg #[.int .i64 p', .int .i64 q']] := hr
  have g2 := (G2.out.below hB).cell
  have l2 := (G2.out.below hB).lt
  have l3 : w2.heap.size + 1 < w3.heap.size + 1 := by omega
  have B3 := Lib.hid (B2.out.trans (hB.mono B2.out.size))
  have b3 := B3.out.size
  clear hB HT2 B2 G2
  go_wp2
  go_ret
  exact ⟨by simp, (B3.out.alloc b3 _).alloc (by simp; omega) _⟩
set_option maxRecDepth 100000 in
set_option maxHeartbeats 8000000 in
theorem walk_okF (s : ByteArray) (n : Int) (w : World) (hs : s.size ≤ 3000) (hn : n.tmod 2 = 0) (R R' : EO FX) (T1 : TextIs s.data.toList R) (T2 : TextIs (s.data.toList ++ 10 :: zF) R') (X : FX) (j : Int) (Z : DX) (r : Int) (hR : R = .ok X j) (hR' : R' = .ok ⟨X.name, X.pos, X.imports, X.decls ++ [Z]⟩ r) (z1 : Z.name = ⟨#[90]⟩) (z2 : Z.fields.length = 1) (z3 : Z.stop = ((s.size : Nat) : Int) + 21) (hfit : FitF 4003 X) :
    Calls Tryz.prog 6 #[.string s, .int .i64 n] w fun e w' => e = .returned (.bool true) ∧ Below w.heap.size w w' := by
  have g1 : ¬ (3000 : Int) < (s.size : Nat) := by omega
  have e2 : s.data.toList.length = s.size := by rw [Array.length_toList]; rfl
  have gn : (n.tmod 2 == 0) = true := by simpa using hn
  have HT1 : Hid (∀ W : World, Calls Tryz.prog 8 #[.string s] W fun e w' => ∃ v, e = .returned v ∧ FParRes W.heap.size w' R v ∧ Below W.heap.size W w') := fun W => T1 W
  have HT2 : Hid (∀ W : World, Calls Tryz.prog 8 #[.string (s ++ ⟨#[10, 102, 117, 110, 99, 32, 90, 40, 122, 32, 105, 110, 116, 41, 32, 123, 32, 122, 59, 32, 125]⟩)] W fun e w' => ∃ v, e = .returned v ∧ FParRes W.heap.size w' R' v ∧ Below W.heap.size W w') := fun W => by
    have e : s ++ ⟨#[10, 102, 117, 110, 99, 32, 90, 40, 122, 32, 105, 110, 116, 41, 32, 123, 32, 122, 59, 32, 125]⟩ = ⟨(s.data.toList ++ 10 :: zF).toArray⟩ := cat_more s zF
    rw [e]
    exact T2 W
  clear T1 T2 hn
  go_enter Tryz.func6, Tryz.ntmps6
  go_wp2_with fail
  refine (awakeF_any _).mono ?_
  rintro e w1 ⟨rfl, hB⟩
  have B1 := Lib.hid hB
  clear hB
  go_wp2_with fail
  refine (HT1.out _).mono ?_
  rintro e w2 ⟨v, rfl, hr, hB⟩
  subst hR hR'
  obtain ⟨vx, rfl, ⟨oi, ci, od, cd, rfl, hri, hrd⟩, _⟩ := hr
  have k2 : Hid (Below w2.heap.size w2 ((w2.alloc (.cells #[.string X.name, .int .i64 X.pos, .slice oi X.imports.length ci, .slice od X.decls.length cd] 26)).alloc (.cells #[.int .i64 0, .int .i64 0] 28))) := ((Below.refl _ _).alloc (Nat.le_refl _) _).alloc (by simp) _
  have B2 := Lib.hid (B1.out.trans ((hB.trans (k2.out.mono hB.size)).mono B1.out.size))
  have X2 : Hid (Blk ((w2.alloc (.cells #[.string X.name, .int .i64 X.pos, .slice oi X.imports.length ci, .slice od X.decls.length cd] 26)).alloc (.cells #[.int .i64 0, .int .i64 0] 28)) w2.heap.size 26 #[.string X.name, .int .i64 X.pos, .slice oi X.imports.length ci, .slice od X.decls.length cd]) := (Blk.new w2 _ _).alloc _
  have G2 : Hid (Blk ((w2.alloc (.cells #[.string X.name, .int .i64 X.pos, .slice oi X.imports.length ci, .slice od X.decls.length cd] 26)).alloc (.cells #[.int .i64 0, .int .i64 0] 28)) (w2.heap.size + 1) 28 #[.int .i64 0, .int .i64 0]) := by
    have := Blk.new (w2.alloc (.cells #[.string X.name, .int .i64 X.pos, .slice oi X.imports.length ci, .slice od X.decls.length cd] 26)) 28 #[.int .i64 0, .int .i64 0]
    show Blk _ _ _ _
    rwa [World.size_alloc] at this
  have HI2 := Lib.hid (rowBelow (E := eltN) (P := fun q => w1.heap.size ≤ q) hri k2.out)
  have HD2 := Lib.hid (rowBelow (E := eltD) (P := fun q => w1.heap.size ≤ q) hrd k2.out)
  clear hB HT1 B1 k2 hri hrd
  go_wp2_with fail
  refine (HT2.out _).mono ?_
  rintro e w3 ⟨v, rfl, hr, hB⟩
  obtain ⟨vx, rfl, ⟨oi', ci', od', cd', rfl, hri, hrd⟩, hroom⟩ := hr
  have HIf := Lib.hid (rowLt (E := eltN) (rowBelow (E := eltN) (P := fun q => w1.heap.size ≤ q) HI2.out hB))
  have HDf := Lib.hid (rowLt (E := eltD) (rowBelow (E := eltD) (P := fun q => w1.heap.size ≤ q) HD2.out hB))
  have HIg := Lib.hid (rowLt (E := eltN) (P := fun q => ((w2.alloc (.cells #[.string X.name, .int .i64 X.pos, .slice oi X.imports.length ci, .slice od X.decls.length cd] 26)).alloc (.cells #[.int .i64 0, .int .i64 0] 28)).heap.size ≤ q) hri)
  have hdg := rowLt (E := eltD) hrd
  obtain ⟨b, cs, rfl, _, hl, hc, hy⟩ := hdg.at_ X.decls.length (y := Z) (by rw [List.getElem?_append_right (Nat.le_refl _), Nat.sub_self]; rfl)
  have HDg := Lib.hid (rowLeft hdg)
  obtain ⟨rn, rp, rk, rq, rg, rm, rz, ra, ob, cb, of, cf, om, cm, tk, tp, tg, tn, tz, ta, os, cs, he, _⟩ := hy
  obtain rfl := aggL he
  rw [Nat.zero_add, z1, z2, z3] at hc
  clear z1 z2 z3
  have hlen : (X.decls ++ [Z]).length = X.decls.length + 1 := by rw [List.length_append]; rfl
  rw [hlen] at hroom ⊢
  have hcap : X.decls.length + 1 ≤ cd' := hroom _ _ _ _ _ _ _ _ rfl
  have k3 : Hid (Below w3.heap.size w3 ((w3.alloc (.cells #[.string X.name, .int .i64 X.pos, .slice oi' X.imports.length ci', .slice (some ⟨b, 0, none⟩) (X.decls.length + 1) cd'] 26)).alloc (.cells #[.int .i64 0, .int .i64 0] 28))) := ((Below.refl _ _).alloc (Nat.le_refl _) _).alloc (by simp) _
  have hbl : b < w3.heap.size := World.block_lt_of_cell? w3 ⟨b, X.decls.length * 22, none⟩ (hc 0 _ rfl)
  have C3 : Hid (∀ (j : Nat) (u : Value), ([.int .i64 Z.kind, .int .i64 Z.pos, .int .i64 (((s.size : Nat) : Int) + 21), .string ⟨#[90]⟩, .bool Z.method, .string rn, .int .i64 rp, .int .i64 rk, .int .i64 rq, .string rg, .string rm, .slice rz ra ra, .slice ob Z.bounds.length cb, .slice of 1 cf, .slice om Z.methods.length cm, .bool Z.has, .int .i64 tk, .int .i64 tp, .string tg, .string tn, .slice tz ta ta, .slice os Z.body.length cs] : List Value)[j]? = some u → World.cell? ((w3.alloc (.cells #[.string X.name, .int .i64 X.pos, .slice oi' X.imports.length ci', .slice (some ⟨b, 0, none⟩) (X.decls.length + 1) cd'] 26)).alloc (.cells #[.int .i64 0, .int .i64 0] 28)) ⟨b, X.decls.length * 22 + j, none⟩ = some u) := fun j u hu => (k3.out.cell (p := ⟨b, X.decls.length * 22 + j, none⟩) hbl).trans (hc j u hu)
  have x3 := ((X2.out.below hB).below k3.out).cell
  have g3 := ((G2.out.below hB).below k3.out).cell
  have Y3 : Hid (Blk ((w3.alloc (.cells #[.string X.name, .int .i64 X.pos, .slice oi' X.imports.length ci', .slice (some ⟨b, 0, none⟩) (X.decls.length + 1) cd'] 26)).alloc (.cells #[.int .i64 0, .int .i64 0] 28)) w3.heap.size 26 #[.string X.name, .int .i64 X.pos, .slice oi' X.imports.length ci', .slice (some ⟨b, 0, none⟩) (X.decls.length + 1) cd']) := (Blk.new w3 _ _).alloc _
  have y3 := Y3.out.cell
  have f3 := Y3.out.frozen
  have H3 : Hid (Blk ((w3.alloc (.cells #[.string X.name, .int .i64 X.pos, .slice oi' X.imports.length ci', .slice (some ⟨b, 0, none⟩) (X.decls.length + 1) cd'] 26)).alloc (.cells #[.int .i64 0, .int .i64 0] 28)) (w3.heap.size + 1) 28 #[.int .i64 0, .int .i64 0]) := by
    have := Blk.new (w3.alloc (.cells #[.string X.name, .int .i64 X.pos, .slice oi' X.imports.length ci', .slice (some ⟨b, 0, none⟩) (X.decls.length + 1) cd'] 26)) 28 #[.int .i64 0, .int .i64 0]
    show Blk _ _ _ _
    rwa [World.size_alloc] at this
  have h3 := H3.out.cell
  have l0 : w2.heap.size + 1 < w3.heap.size := (G2.out.below hB).lt
  have q3 : w3.heap.size + 1 < ((w3.alloc (.cells #[.string X.name, .int .i64 X.pos, .slice oi' X.imports.length ci', .slice (some ⟨b, 0, none⟩) (X.decls.length + 1) cd'] 26)).alloc (.cells #[.int .i64 0, .int .i64 0] 28)).heap.size := H3.out.lt
  have q0 : w2.heap.size < ((w3.alloc (.cells #[.string X.name, .int .i64 X.pos, .slice oi' X.imports.length ci', .slice (some ⟨b, 0, none⟩) (X.decls.length + 1) cd'] 26)).alloc (.cells #[.int .i64 0, .int .i64 0] 28)).heap.size := by omega
  have q1 : w2.heap.size + 1 < ((w3.alloc (.cells #[.string X.name, .int .i64 X.pos, .slice oi' X.imports.length ci', .slice (some ⟨b, 0, none⟩) (X.decls.length + 1) cd'] 26)).alloc (.cells #[.int .i64 0, .int .i64 0] 28)).heap.size := by omega
  have q2 : w3.heap.size < ((w3.alloc (.cells #[.string X.name, .int .i64 X.pos, .slice oi' X.imports.length ci', .slice (some ⟨b, 0, none⟩) (X.decls.length + 1) cd'] 26)).alloc (.cells #[.int .i64 0, .int .i64 0] 28)).heap.size := by omega
  have n1 : w2.heap.size ≠ w3.heap.size := by omega
  have n2 : w3.heap.size ≠ w2.heap.size := by omega
  have B3 := Lib.hid (B2.out.trans (hB.mono B2.out.size))
  have hd1 := hfit.decls
  have hw : IntKind.i64.wrap (((X.decls.length : Nat) : Int) + 1) = ((X.decls.length : Nat) : Int) + 1 := IntWalk.i64_in _ (by omega)
  have hk0 : (0 : Int) ≤ (X.decls.length : Nat) := by omega
  have hk1 : ((X.decls.length : Nat) : Int) < ((X.decls.length : Nat) : Int) + 1 := by omega
  have hk2 : ((X.decls.length : Nat) : Int) ≤ (cd' : Nat) := by omega
  have HFIT := Lib.hid hfit
  have hWs : Hid (((w3.alloc (.cells #[.string X.name, .int .i64 X.pos, .slice oi' X.imports.length ci', .slice (some ⟨b, 0, none⟩) (X.decls.length + 1) cd'] 26)).alloc (.cells #[.int .i64 0, .int .i64 0] 28)).heap.size = w3.heap.size + 1 + 1) := by show _ = _; rw [World.size_alloc, World.size_alloc]
  clear hB HT2 B2 X2 G2 hri hrd hdg hroom hc hl he hlen HI2 HD2 hfit
  go_wp2_with (first | (refine boxLoadAt 43 22 size22 Tryz.underlying43 rfl _ rfl b (X.decls.length * 22) rfl (cs := [.int .i64 Z.kind, .int .i64 Z.pos, .int .i64 (((s.size : Nat) : Int) + 21), .string ⟨#[90]⟩, .bool Z.method, .string rn, .int .i64 rp, .int .i64 rk, .int .i64 rq, .string rg, .string rm, .slice rz ra ra, .slice ob Z.bounds.length cb, .slice of 1 cf, .slice om Z.methods.length cm, .bool Z.has, .int .i64 tk, .int .i64 tp, .string tg, .string tn, .slice tz ta ta, .slice os Z.body.length cs]) C3.out rfl ?_; generalize ((w3.alloc (.cells #[.string X.name, .int .i64 X.pos, .slice oi' X.imports.length ci', .slice (some ⟨b, 0, none⟩) (X.decls.length + 1) cd'] 26)).alloc (.cells #[.int .i64 0, .int .i64 0] 28)) = W at *) | (refine boxNew 43 22 size22 rfl _ _ rfl rfl [.int .i64 Z.kind, .int .i64 Z.pos, .int .i64 (((s.size : Nat) : Int) + 21), .string ⟨#[90]⟩, .bool Z.method, .string rn, .int .i64 rp, .int .i64 rk, .int .i64 rq, .string rg, .string rm, .slice rz ra ra, .slice ob Z.bounds.length cb, .slice of 1 cf, .slice om Z.methods.length cm, .bool Z.has, .int .i64 tk, .int .i64 tp, .string tg, .string tn, .slice tz ta ta, .slice os Z.body.length cs] rfl rfl rfl rfl ?_))
  have hz1 : W.heap.size = w3.heap.size + 1 + 1 := hWs.out
  have k5 : Hid (Below w3.heap.size w3 ((W.setCell ⟨w3.heap.size, 3, none⟩ (.slice (some ⟨b, 0, none⟩) X.decls.length cd')).alloc (.cells #[.int .i64 Z.kind, .int .i64 Z.pos, .int .i64 (((s.size : Nat) : Int) + 21), .string ⟨#[90]⟩, .bool Z.method, .string rn, .int .i64 rp, .int .i64 rk, .int .i64 rq, .string rg, .string rm, .slice rz ra ra, .slice ob Z.bounds.length cb, .slice of 1 cf, .slice om Z.methods.length cm, .bool Z.has, .int .i64 tk, .int .i64 tp, .string tg, .string tn, .slice tz ta ta, .slice os Z.body.length cs] 43))) := ((k3.out.mono (Nat.le_refl _)).setCell (p := ⟨w3.heap.size, 3, none⟩) (Nat.le_refl _) _).alloc (by simp [World.setCell]; omega) _
  have B5 := Lib.hid (B3.out.trans (k5.out.mono B3.out.size))
  clear hz1 x3 g3 y3 f3 h3
  refine (sameF_any 4003 (by decide) X HFIT.out (· < w3.heap.size) (· < w3.heap.size) _ _ _ ⟨oi, ci, od, cd, rfl, rowN (E := eltN) HIf.out k5.out, rowN (E := eltD) HDf.out k5.out⟩ ⟨oi', ci', some ⟨b, 0, none⟩, cd', rfl, rowN (E := eltN) HIg.out k5.out, rowN (E := eltD) HDg.out k5.out⟩).mono ?_
  rintro e w6 ⟨rfl, hB⟩
  have B6 := Lib.hid (B5.out.trans (hB.mono B5.out.size))
  have x6 : Hid (Blk w6 W.heap.size 43 #[.int .i64 Z.kind, .int .i64 Z.pos, .int .i64 (((s.size : Nat) : Int) + 21), .string ⟨#[90]⟩, .bool Z.method, .string rn, .int .i64 rp, .int .i64 rk, .int .i64 rq, .string rg, .string rm, .slice rz ra ra, .slice ob Z.bounds.length cb, .slice of 1 cf, .slice om Z.methods.length cm, .bool Z.has, .int .i64 tk, .int .i64 tp, .string tg, .string tn, .slice tz ta ta, .slice os Z.body.length cs]) := by
    have h := Blk.new (W.setCell ⟨w3.heap.size, 3, none⟩ (.slice (some ⟨b, 0, none⟩) X.decls.length cd')) 43 #[.int .i64 Z.kind, .int .i64 Z.pos, .int .i64 (((s.size : Nat) : Int) + 21), .string ⟨#[90]⟩, .bool Z.method, .string rn, .int .i64 rp, .int .i64 rk, .int .i64 rq, .string rg, .string rm, .slice rz ra ra, .slice ob Z.bounds.length cb, .slice of 1 cf, .slice om Z.methods.length cm, .bool Z.has, .int .i64 tk, .int .i64 tp, .string tg, .string tn, .slice tz ta ta, .slice os Z.body.length cs]
    have h2 := h.below hB
    show Blk _ _ _ _
    simpa [World.setCell] using h2
  have c6 := x6.out.cell
  clear hB B5 k5 B3
  go_wp2
  go_ret
  exact ⟨by simp, B6.out⟩
end Go.Proofs.YtlgaphopjdeklaaGreat.filexMore
