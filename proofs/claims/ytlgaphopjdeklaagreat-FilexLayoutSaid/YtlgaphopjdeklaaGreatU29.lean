/-
  The walks of the packages' parser's typed and block. Condition: the parser lies in memory as said.
-/
import Derived.Test.YtlgaphopjdeklaaGreatU21
import Derived.Test.YtlgaphopjdeklaaGreatU28
import Derived.Deep.RegionHeld3
namespace Go.Proofs.YtlgaphopjdeklaaGreat
open Go.RowKit
open Go.Lib hiding intOf
def isType (B : Nat) (w : World) (x : TX) (v : Value) : Prop := IsTP (fun q => B ≤ q) w x v
def isStmts (B : Nat) (w : World) (xs : List SX) (v : Value) : Prop := ∃ (o : Option Addr) (c : Nat), v = .slice o xs.length c ∧ IsSPs (fun q => B ≤ q) w o 0 xs
/-- What the statements' parser told, in parts. -/
def BkRes (r : EO (List SX)) (B : Nat) (W : World) (ob : Option Addr) (nb : Nat) (j e1 e2 : Int) : Prop :=
  match r with
  | .ok X q => nb = X.length ∧ j = q ∧ e1 = 0 ∧ e2 = 0 ∧ IsSPs (fun q => B ≤ q) W ob 0 X
  | .err p q => e1 = p ∧ e2 = q
  | .out => True
theorem BkRes.keep {r : EO (List SX)} {B B' : Nat} {W W' : World} {ob : Option Addr} {nb : Nat} {j e1 e2 : Int} (h : BkRes r B W ob nb j e1 e2) (hk : ∀ X, IsSPs (fun q => B ≤ q) W ob 0 X → IsSPs (fun q => B' ≤ q) W' ob 0 X) : BkRes r B' W' ob nb j e1 e2 := by
  cases r with
  | ok t j => exact ⟨h.1, h.2.1, h.2.2.1, h.2.2.2.1, hk _ h.2.2.2.2⟩
  | err p c => exact h
  | out => trivial
theorem SParRes.bk {r : EO (List SX)} {B : Nat} {W : World} {v : Value} (h : SParRes B W r v) (hr : r ≠ .out) : ∃ (ob : Option Addr) (cb nb : Nat) (j e1 e2 : Int), v = .tuple #[.slice ob nb cb, .int .i64 j, .agg #[.int .i64 e1, .int .i64 e2]] ∧ BkRes r B W ob nb j e1 e2 := by
  obtain ⟨o, c, n, j, p, q, hve, hc⟩ := h.parts hr
  subst hve
  refine ⟨o, c, n, j, p, q, rfl, ?_⟩
  clear h
  rcases hc with ⟨X, rfl, rfl, rfl, rfl, hx⟩ | ⟨rfl, rfl, rfl⟩
  · exact ⟨rfl, rfl, rfl, rfl, hx⟩
  · exact ⟨rfl, rfl⟩
/-- Behind it: the box of what is wrong. -/
structure BkRel (r : EO (List SX)) (w1 : World) (B5 : Nat) (ob : Option Addr) (nb : Nat) (j e1 e2 : Int) (wx : World) : Prop where
  b5 : w1.heap.size ≤ B5
  at2 : Blk wx B5 28 #[.int .i64 e1, .int .i64 e2]
  below : Below w1.heap.size w1 wx
  res : BkRes r w1.heap.size wx ob nb j e1 e2
section
variable {r : EO (List SX)} {w1 w2 : World} {ob : Option Addr} {nb : Nat} {j e1 e2 : Int}
theorem isp_alloc {B : Nat} {w : World} {o : Option Addr} {X : List SX} (h : IsSPs (fun q => B ≤ q) w o 0 X) (x : Obj) : IsSPs (fun q => B ≤ q) (w.alloc x) o 0 X := h.below ((Below.refl _ _).alloc (Nat.le_refl _) x)
theorem isp_set2 {B : Nat} {w : World} {o : Option Addr} {X : List SX} (h : IsSPs (fun q => B ≤ q) w o 0 X) {g : Nat} (hg : g < B) (v0 v1 : Value) : IsSPs (fun q => B ≤ q) (set2 w g v0 v1) o 0 X :=
  IsSXs.ab h (((Ab.refl _ _).setCell hg _).setCell hg _)
theorem bkF1 (hB : Below w1.heap.size w1 w2) (hr : BkRes r w1.heap.size w2 ob nb j e1 e2) :
    BkRel r w1 w2.heap.size ob nb j e1 e2 (w2.alloc (.cells #[.int .i64 e1, .int .i64 e2] 28)) :=
  ⟨hB.size, Blk.new _ _ _, hB.alloc hB.size _, hr.keep fun _ h => isp_alloc h _⟩
theorem bkF2 {f0 f1 : Value} (hB : Below w1.heap.size w1 w2) (hX : Blk w2 w1.heap.size 28 #[f0, f1]) (hr : BkRes r (w1.heap.size + 1) w2 ob nb j e1 e2) :
    BkRel r w1 w1.heap.size ob nb j e1 e2 (set2 w2 w1.heap.size (.int .i64 e1) (.int .i64 e2)) :=
  ⟨Nat.le_refl _, blk_set2 hX _ _, set2_below hB (Nat.le_refl _) _ _, hr.keep fun _ h => IsSXs.mono (by omega) (isp_set2 h (Nat.lt_succ_self _) _ _)⟩
end
def zeroTL : List Value := [.int .i64 0, .int .i64 0, .string ⟨#[]⟩, .string ⟨#[]⟩, .slice none 0 0]
section
variable {b c : Nat} {o : Option Addr} {l : List TZ} {i : Int} {w : World}
set_option maxRecDepth 20000 in
set_option maxHeartbeats 16000000 in
theorem blockF (S : FS b o c l i w) (hn : l.length ≤ 1073741824) (hf : Fits l) (F f : Nat) (hF : fuel l ≤ F) (hr : blk l F f 0 i ≠ .out) :
    Calls Tryz.prog 64 #[.pointer (some ⟨b, 0, none⟩)] w (TelF b o c l isStmts w (blk l F f 0 i)) := by
  have hbl := S.lt
  have S0 := Lib.hid S
  have hrng : ∀ X q, blk l F f 0 i = .ok X q → 0 ≤ q := fun X q h => by
    have h1 := (stm_rng (l := l) (F := F) f).1 _ _ _ _ h
    have := S.pos
    omega
  have herr : ∀ p q, blk l F f 0 i = .err p q → q ≠ 0 := fun p q h => ((stm_err (l := l) (F := F) f).1 _ _ _ _ h).2
  have HC := Lib.hid (fun (W : World) (h : FS b o c l i W) => parseS_any (c := c) i W h.toks hn hf F f hF hr)
  have HNE := Lib.hid hr
  have HQ := Lib.hid herr
  have HG := Lib.hid hrng
  clear S hn hf hF hr herr hrng
  generalize blk l F f 0 i = E at *
  obtain ⟨p0, p1, pf⟩ := S0.out.cells
  go_enter Tryz.func64, Tryz.ntmps64
  go_wp2_with fail
  go_cut [3, 4, 5] (fun t3 t4 t5 wx => ∃ (B5 : Nat) (ob : Option Addr) (nb cb : Nat) (j e1 e2 : Int), t3 = .slice ob nb cb ∧ t4 = .int .i64 j ∧ t5 = .pointer (some ⟨B5, 0, none⟩) ∧ Hid (BkRel E w B5 ob nb j e1 e2 wx))
  case first =>
    have n0 : w.heap.size ≠ b := by omega
    clear HQ HG
    go_region_held3 (fun w' => w'.cell? ⟨b, 0, none⟩ = some (.slice o l.length c) ∧ w'.cell? ⟨b, 1, none⟩ = some (.int .i64 i)) (refine ⟨?_, ?_⟩ <;> (first | with_reducible assumption | (simp [q0, q1, n0, World.cell?_alloc_some, World.cell?_setCell_far]; done) | (simp [p0, p1, World.cell?_alloc_some]; done) | (trace_state; fail))) ((go_at_call 70; refine (HC.out _ ?_).mono ?_; (first | exact S0.out.drew | exact (S0.out.alloc _).drew | exact ((S0.out.alloc _).alloc _).drew); rintro e w2 ⟨v, rfl, hres, hB⟩; obtain ⟨ob, cb, nb, j, e1, e2, rfl, hr⟩ := hres.bk HNE.out; (first | (have X := blk_mid3 hB.undrew; have xc := X.cell; have xf := X.frozen; have zz := mid_size hB.undrew; have HB2 := Lib.hid (((Below.refl w.heap.size w).alloc (Nat.le_refl _) _).trans (hB.undrew.mono (by simp))); have HR := Lib.hid (hr.keep (B' := w.heap.size + 1) fun t h => IsSXs.mono (by simp) h); have XX := Lib.hid X; clear X) | (have HB2 := Lib.hid hB.undrew; have HR := Lib.hid (hr.keep (B' := w.heap.size) fun t h => IsSXs.mono (by simp) h))); have q0 : w2.cell? ⟨b, 0, none⟩ = some (.slice o l.length c) := (HB2.out.cell hbl).trans p0; have q1 : w2.cell? ⟨b, 1, none⟩ = some (.int .i64 i) := (HB2.out.cell hbl).trans p1; clear hB hr hres))
    all_goals go_wp2_with fail
    all_goals go_meet
    all_goals
      refine ⟨_, ob, nb, cb, j, e1, e2, rfl, rfl, rfl, Lib.hid ?_⟩
      first
      | (have t := bkF1 HB2.out HR.out; with_reducible exact t)
      | (have t := bkF2 HB2.out XX.out HR.out; simp only [set2] at t; with_reducible exact t)
  case rest =>
    obtain ⟨B5, ob, nb, cb, j, e1, e2, rfl, rfl, rfl, hT⟩ := hcut
    obtain ⟨h5, hD, hB, hR⟩ := hT.out
    have S2 := Lib.hid (S0.out.step hB)
    have K2 := Lib.hid ((Kp.refl b w).then_below hB)
    have d2 := hD.cell
    have f2 := hD.frozen
    have l5 := hD.lt
    have HR := Lib.hid hR
    clear hT hD hB hR p0 p1 pf S0 HC
    cases E with
    | out => exact (HNE.out rfl).elim
    | err P Q =>
      obtain ⟨rfl, rfl⟩ := HR.out
      have HGO := Lib.hid (goOn_no (b := b) wc (.pointer (some ⟨b, 0, none⟩)) (n := j) (p := e1) (HQ.out _ _ rfl))
      clear HQ HG HR S2
      go_wp2_with fail
      refine HGO.out.mono ?_
      rintro e w3 ⟨rfl, hK⟩
      have K3 := Lib.hid (K2.out.trans hK)
      clear hK
      go_wp2
      exact ⟨rfl, rfl, K3.out⟩
    | ok X q =>
      obtain ⟨rfl, rfl, rfl, rfl, hx⟩ := HR.out
      have HGO := Lib.hid (goOn_ok (p := 0) S2.out (HG.out _ _ rfl))
      have HX := Lib.hid hx
      have hwc : w.heap.size ≤ wc.heap.size := K2.out.size
      clear HQ HG HR S2 hx
      go_wp2_with fail
      refine HGO.out.mono ?_
      rintro e w3 ⟨rfl, hS, hK⟩
      have S3 := Lib.hid hS
      have K3 := Lib.hid (K2.out.trans hK)
      have X3 := Lib.hid (IsSXs.ab HX.out ((Ab.refl _ _).kp hK hbl))
      clear hS hK
      go_wp2
      go_ret
      exact ⟨_, rfl, ⟨ob, cb, rfl, X3.out⟩, S3.out, K3.out⟩
set_option maxRecDepth 20000 in
set_option maxHeartbeats 16000000 in
theorem typedF (S : FS b o c l i w) (hn : l.length ≤ 1073741824) (hf : Fits l) :
    Calls Tryz.prog 68 #[.pointer (some ⟨b, 0, none⟩)] w (TelF b o c l isType w (ty l i)) := by
  have hbl := S.lt
  have H := Lib.hid S
  have hrng : ∀ t q, prs l 30 i = .ok t q → 0 ≤ q := fun t q h => by
    have h1 := prs_rng h
    have := S.pos
    omega
  have HG := Lib.hid hrng
  have HC := Lib.hid (fun (W : World) (h : FS b o c l i W) => parse_any o c l i W h.toks (by omega) hf)
  have R0 := Lib.hid (Blk.new w 36 zeroTL.toArray)
  have S0 := Lib.hid (S.alloc (.cells zeroTL.toArray 36))
  have K0 := Lib.hid ((Kp.refl b w).alloc (.cells zeroTL.toArray 36))
  obtain ⟨R, hR⟩ : ∃ R, ty l i = R := ⟨_, rfl⟩
  rw [hR]
  have HR0 := Lib.hid hR
  clear S hn hf hrng hR
  go_enter Tryz.func68, Tryz.ntmps68
  go_wp2_with fail
  change Code.wp _ _ _ _ (w.alloc (.cells zeroTL.toArray 36))
  have hz1 : w.heap.size < (w.alloc (.cells zeroTL.toArray 36)).heap.size := by simp
  generalize w.alloc (.cells zeroTL.toArray 36) = w1 at *
  obtain ⟨p0, p1, pf⟩ := S0.out.cells
  have hb1 : b < w1.heap.size := S0.out.lt
  go_cut [3, 4, 5] (fun t3 t4 t5 wx => ∃ (B4 B6 : Nat) (k p : Int) (g s : ByteArray) (oo : Option Addr) (aa : Nat) (n e1 e2 : Int), t3 = .pointer (some ⟨B4, 0, none⟩) ∧ t4 = .int .i64 n ∧ t5 = .pointer (some ⟨B6, 0, none⟩) ∧ Hid (TyRel (prs l 30 i) w1 B4 B6 (.int .i64 k) (.int .i64 p) (.string g) (.string s) (.slice oo aa aa) n e1 e2 wx))
  case first =>
    clear R0 K0 hbl hz1 HG
    have n0 : w1.heap.size ≠ b := by omega
    have n1 : w1.heap.size + 1 ≠ b := by omega
    go_region_held3 (fun w' => w'.cell? ⟨b, 0, none⟩ = some (.slice o l.length c) ∧ w'.cell? ⟨b, 1, none⟩ = some (.int .i64 i)) (refine ⟨?_, ?_⟩ <;> (first | with_reducible assumption | (simp [q0, q1, n0, n1, World.cell?_alloc_some, World.cell?_setCell_far]; done) | (simp [p0, p1, World.cell?_alloc_some]; done) | (trace_state; fail))) ((go_at_call 73; refine (HC.out _ ?_).mono ?_; (first | exact S0.out.drew | exact (S0.out.alloc _).drew | exact ((S0.out.alloc _).alloc _).drew); rintro e w2 ⟨v, rfl, hres, hB⟩; obtain ⟨k, p, g, s, oo, aa, n, e1, e2, rfl, hr⟩ := hres.ty; (first | (have X := blk_mid2 hB.undrew; have Y := blk_sec hB.undrew; have xc := X.cell; have xf := X.frozen; have yc := Y.cell; have yf := Y.frozen; have zz := mid_size' hB.undrew; have zx := X.lt; have HB2 := Lib.hid ((((Below.refl w1.heap.size w1).alloc (Nat.le_refl _) _).alloc (by simp) _).trans (hB.undrew.mono (by simp; omega))); have HR := Lib.hid (hr.keep (B' := w1.heap.size + 1 + 1 + 2) fun t h => IsTX.mono (by simp) h); have XX := Lib.hid X; have YY := Lib.hid Y; clear X Y) | (have X := blk_mid3 hB.undrew; have xc := X.cell; have xf := X.frozen; have zz := mid_size hB.undrew; have HB2 := Lib.hid (((Below.refl w1.heap.size w1).alloc (Nat.le_refl _) _).trans (hB.undrew.mono (by simp))); have HR := Lib.hid (hr.keep (B' := w1.heap.size + 1 + 2) fun t h => IsTX.mono (by simp) h); have XX := Lib.hid X; clear X) | (have HB2 := Lib.hid hB.undrew; have HR := Lib.hid (hr.keep (B' := w1.heap.size + 2) fun t h => IsTX.mono (by simp) h))); have q0 : w2.cell? ⟨b, 0, none⟩ = some (.slice o l.length c) := (HB2.out.cell hb1).trans p0; have q1 : w2.cell? ⟨b, 1, none⟩ = some (.int .i64 i) := (HB2.out.cell hb1).trans p1; clear hB hr hres))
    all_goals go_wp2_with fail
    all_goals go_meet
    all_goals
      refine ⟨_, _, k, p, g, s, oo, aa, n, e1, e2, rfl, rfl, rfl, Lib.hid ?_⟩
      first
      | (have t := tyF1 HB2.out HR.out; with_reducible exact t)
      | (have t := tyF2 HB2.out HR.out; with_reducible exact t)
      | (have t := tyF5 HB2.out XX.out YY.out HR.out; simp only [st5, set2] at t; with_reducible exact t)
      | (have t := tyF6 HB2.out XX.out YY.out HR.out; simp only [st5, set2] at t; with_reducible exact t)
      | (have t := tyF3 HB2.out XX.out HR.out; simp only [st5] at t; with_reducible exact t)
      | (have t := tyF4 HB2.out XX.out HR.out; simp only [set2] at t; with_reducible exact t)
  case rest =>
    obtain ⟨B4, B6, k, p, g, s, oo, aa, n, e1, e2, rfl, rfl, rfl, hT⟩ := hcut
    obtain ⟨h4, h6, hA5, hA2, hB, hR⟩ := hT.out
    have S2 := Lib.hid (S0.out.step hB)
    have K2 := Lib.hid (K0.out.then_below hB)
    have R2 := Lib.hid (R0.out.below hB)
    obtain ⟨c60, c61⟩ := hA2
    have A5 := Lib.hid hA5
    have HR := Lib.hid hR
    have hz2 : w1.heap.size ≤ wc.heap.size := hB.size
    clear hT hA5 hB hR p0 p1 pf S0 K0 R0 HC
    cases hq : prs l 30 i with
    | err pp cc =>
      have hc0 := (prs_err hq).2
      have HB : Hid (EO.err pp cc = R) := by have h := HR0.out; unfold ty at h; rw [hq] at h; exact h
      have hR := HR.out
      rw [hq] at hR
      obtain ⟨rfl, rfl⟩ := hR
      have HGO := Lib.hid (goOn_no (b := b) wc (.pointer (some ⟨b, 0, none⟩)) (n := n) (p := e1) hc0)
      clear hc0 hq HR S2 A5 R2
      go_wp2_with fail
      refine HGO.out.mono ?_
      rintro e w3 ⟨rfl, hK⟩
      have K3 := Lib.hid (K2.out.trans hK)
      clear hK
      go_wp2
      refine ⟨rfl, ?_⟩
      rw [← HB.out]
      exact ⟨rfl, K3.out⟩
    | ok t j =>
      have HB : Hid (EO.ok t j = R) := by have h := HR0.out; unfold ty at h; rw [hq] at h; exact h
      have hR := HR.out
      rw [hq] at hR
      obtain ⟨rfl, rfl, rfl, hX⟩ := hR
      have HGO := Lib.hid (goOn_ok (p := 0) S2.out (HG.out _ _ hq))
      have HX := Lib.hid hX
      clear hq HR hX S2
      go_wp2_with fail
      refine HGO.out.mono ?_
      rintro e w3 ⟨rfl, hS, hK⟩
      have S3 := Lib.hid hS
      have K3 := Lib.hid (K2.out.trans hK)
      have X3 := Lib.hid (IsTP.kp HX.out hK (by omega))
      obtain ⟨a0, a1, a2, a3, a4⟩ := A5.out.kp hK (by omega)
      have hR3 := R2.out.kp hK (by omega)
      have l3 := hR3.lt
      have R3 := Lib.hid hR3
      clear hS hK c60 c61 A5 R2 hR3
      go_wp2_with (refine boxStore 36 5 (sizeOfI infoT) rfl _ _ rfl w.heap.size rfl _ rfl R3.out rfl rfl rfl ?_)
      refine bodyPost_ret (v := .agg #[.int .i64 k, .int .i64 p, .string g, .string s, .slice oo aa aa]) ?_ ?_ ?_
      · exact boxRes 36 5 (sizeOfI infoT) Tryz.underlying36 Tryz.results68 _ w.heap.size rfl (R3.out.row _) rfl
      · rfl
      rw [← HB.out]
      exact ⟨_, rfl, IsTX.mono (B := w.heap.size + 1) (by omega) (IsTP.keep (P := fun q => w1.heap.size ≤ q) (fun _ _ _ (h : _ ≤ _) _ => by omega) (fun _ _ _ (h : _ ≤ _) hc => ((setRow_ab (Ab.refl (w.heap.size + 1) _) (Nat.lt_succ_self _) _).cell (by omega) hc)) X3.out), S3.out.row (by omega) _, setRow_kp K3.out (.inl (Nat.le_refl _)) _⟩
end
end Go.Proofs.YtlgaphopjdeklaaGreat
