/-
  Rows of any elements; files in memory. Condition: the file lies in memory as said.
-/
import Derived.Test.YtlgaphopjdeklaaGreatU11
namespace Go.Proofs.YtlgaphopjdeklaaGreat
open Go.RowKit
open Go.Lib hiding intOf
/-- A row of elements, k cells each, lies from an address on. -/
def InRow {α : Type} (k : Nat) (one : α → Value → Prop) (P : Nat → Prop) (w : World) (o : Option Addr) : Nat → List α → Prop
  | _, [] => True
  | i, y :: r => (∃ (b : Nat) (cs : List Value), o = some ⟨b, 0, none⟩ ∧ P b ∧ cs.length = k ∧ (∀ (j : Nat) (u : Value), cs[j]? = some u → w.cell? ⟨b, i * k + j, none⟩ = some u) ∧ one y (.agg cs.toArray)) ∧ InRow k one P w o (i + 1) r
theorem InRow.keep {α : Type} {k : Nat} {one one' : α → Value → Prop} {P P' : Nat → Prop} {w w' : World} (hP : ∀ (b i : Nat) (u : Value), P b → w.cell? ⟨b, i, none⟩ = some u → P' b) (hk : ∀ (b i : Nat) (u : Value), P b → w.cell? ⟨b, i, none⟩ = some u → w'.cell? ⟨b, i, none⟩ = some u)
    (h1 : ∀ y v, one y v → one' y v) (h0 : 0 < k) : ∀ {xs : List α} {i : Nat} {o : Option Addr}, InRow k one P w o i xs → InRow k one' P' w' o i xs
  | [], _, _, _ => trivial
  | y :: r, i, o, h => by
    obtain ⟨⟨b, cs, ho, hb, hl, hc, hy⟩, hr⟩ := h
    obtain ⟨c0, hc0⟩ : ∃ c0, cs[0]? = some c0 := ⟨cs[0]'(by omega), List.getElem?_eq_getElem (by omega)⟩
    exact ⟨⟨b, cs, ho, hP b _ _ hb (hc 0 c0 hc0), hl, fun j u hu => hk b _ u hb (hc j u hu), h1 y _ hy⟩, InRow.keep hP hk h1 h0 hr⟩
/-- One element. -/
theorem InRow.at_ {α : Type} {k : Nat} {one : α → Value → Prop} {P : Nat → Prop} {w : World} {o : Option Addr} : ∀ {xs : List α} {i : Nat} (n : Nat) {y : α}, InRow k one P w o i xs → xs[n]? = some y →
    ∃ (b : Nat) (cs : List Value), o = some ⟨b, 0, none⟩ ∧ P b ∧ cs.length = k ∧ (∀ (j : Nat) (u : Value), cs[j]? = some u → w.cell? ⟨b, (i + n) * k + j, none⟩ = some u) ∧ one y (.agg cs.toArray)
  | [], _, _, _, _, h => by simp at h
  | x :: r, i, 0, y, h, hy => by simp at hy; subst hy; exact h.1
  | x :: r, i, n + 1, y, h, hy => by
    have := InRow.at_ (i := i + 1) n h.2 (by simpa using hy)
    rwa [show i + 1 + n = i + (n + 1) by omega] at this
/-- A name with a type: seven cells; a method that is asked for: nine; a declaration: twenty-two; a file: four. -/
def IsPX (P : Nat → Prop) (w : World) (x : PX) (v : Value) : Prop := ∃ (tk tp : Int) (tg tn : ByteArray) (tz : Option Addr) (ta : Nat),
  v = .agg #[.string x.name, .int .i64 x.pos, .int .i64 tk, .int .i64 tp, .string tg, .string tn, .slice tz ta ta] ∧ IsTP P w x.typ (.agg #[.int .i64 tk, .int .i64 tp, .string tg, .string tn, .slice tz ta ta])
def IsMX (P : Nat → Prop) (w : World) (x : MX) (v : Value) : Prop := ∃ (o : Option Addr) (c : Nat) (tk tp : Int) (tg tn : ByteArray) (tz : Option Addr) (ta : Nat),
  v = .agg #[.string x.name, .int .i64 x.pos, .slice o x.params.length c, .bool x.has, .int .i64 tk, .int .i64 tp, .string tg, .string tn, .slice tz ta ta] ∧
  InRow 5 (IsTP P w) P w o 0 x.params ∧ IsTP P w x.result (.agg #[.int .i64 tk, .int .i64 tp, .string tg, .string tn, .slice tz ta ta])
def IsDX (P : Nat → Prop) (w : World) (x : DX) (v : Value) : Prop := ∃ (rn : ByteArray) (rp rk rq : Int) (rg rm : ByteArray) (rz : Option Addr) (ra : Nat) (ob : Option Addr) (cb : Nat) (of : Option Addr) (cf : Nat) (om : Option Addr) (cm : Nat) (tk tp : Int) (tg tn : ByteArray) (tz : Option Addr) (ta : Nat) (os : Option Addr) (cs : Nat),
  v = .agg #[.int .i64 x.kind, .int .i64 x.pos, .int .i64 x.stop, .string x.name, .bool x.method, .string rn, .int .i64 rp, .int .i64 rk, .int .i64 rq, .string rg, .string rm, .slice rz ra ra, .slice ob x.bounds.length cb, .slice of x.fields.length cf, .slice om x.methods.length cm, .bool x.has, .int .i64 tk, .int .i64 tp, .string tg, .string tn, .slice tz ta ta, .slice os x.body.length cs] ∧
  IsPX P w x.recv (.agg #[.string rn, .int .i64 rp, .int .i64 rk, .int .i64 rq, .string rg, .string rm, .slice rz ra ra]) ∧ InRow 7 (IsPX P w) P w ob 0 x.bounds ∧ InRow 7 (IsPX P w) P w of 0 x.fields ∧ InRow 9 (IsMX P w) P w om 0 x.methods ∧
  IsTP P w x.result (.agg #[.int .i64 tk, .int .i64 tp, .string tg, .string tn, .slice tz ta ta]) ∧ IsSPs P w os 0 x.body
def IsNX (n : ByteArray × Int) (v : Value) : Prop := v = .agg #[.string n.1, .int .i64 n.2]
def IsFX (P : Nat → Prop) (w : World) (x : FX) (v : Value) : Prop := ∃ (oi : Option Addr) (ci : Nat) (od : Option Addr) (cd : Nat),
  v = .agg #[.string x.name, .int .i64 x.pos, .slice oi x.imports.length ci, .slice od x.decls.length cd] ∧ InRow 2 IsNX P w oi 0 x.imports ∧ InRow 22 (IsDX P w) P w od 0 x.decls
section
variable {P P' : Nat → Prop} {w w' : World} (hP : ∀ (b i : Nat) (u : Value), P b → w.cell? ⟨b, i, none⟩ = some u → P' b) (hk : ∀ (b i : Nat) (u : Value), P b → w.cell? ⟨b, i, none⟩ = some u → w'.cell? ⟨b, i, none⟩ = some u)
include hP hk
theorem IsPX.keep {x : PX} {v : Value} (h : IsPX P w x v) : IsPX P' w' x v := by
  obtain ⟨tk, tp, tg, tn, tz, ta, hv, ht⟩ := h
  exact ⟨tk, tp, tg, tn, tz, ta, hv, ht.keep hP hk⟩
theorem IsMX.keep {x : MX} {v : Value} (h : IsMX P w x v) : IsMX P' w' x v := by
  obtain ⟨o, c, tk, tp, tg, tn, tz, ta, hv, hp, ht⟩ := h
  exact ⟨o, c, tk, tp, tg, tn, tz, ta, hv, hp.keep hP hk (fun y v h => IsTP.keep hP hk h) (by decide), ht.keep hP hk⟩
theorem IsDX.keep {x : DX} {v : Value} (h : IsDX P w x v) : IsDX P' w' x v := by
  obtain ⟨rn, rp, rk, rq, rg, rm, rz, ra, ob, cb, of, cf, om, cm, tk, tp, tg, tn, tz, ta, os, cs, hv, h1, h2, h3, h4, h5, h6⟩ := h
  exact ⟨rn, rp, rk, rq, rg, rm, rz, ra, ob, cb, of, cf, om, cm, tk, tp, tg, tn, tz, ta, os, cs, hv, h1.keep hP hk, h2.keep hP hk (fun y v h => IsPX.keep hP hk h) (by decide), h3.keep hP hk (fun y v h => IsPX.keep hP hk h) (by decide), h4.keep hP hk (fun y v h => IsMX.keep hP hk h) (by decide), h5.keep hP hk, IsSPs.keep hP hk h6⟩
theorem IsFX.keep {x : FX} {v : Value} (h : IsFX P w x v) : IsFX P' w' x v := by
  obtain ⟨oi, ci, od, cd, hv, h1, h2⟩ := h
  exact ⟨oi, ci, od, cd, hv, h1.keep hP hk (fun _ _ h => h) (by decide), h2.keep hP hk (fun y v h => IsDX.keep hP hk h) (by decide)⟩
end
/-! The texts of 'awake'. -/
def fA : List UInt8 := [112, 97, 99, 107, 97, 103, 101, 32, 97, 59, 105, 109, 112, 111, 114, 116, 32, 98, 59, 102, 117, 110, 99, 40, 116, 32, 84, 41, 109, 40, 41, 105, 110, 116, 123, 114, 101, 116, 117, 114, 110, 32, 116, 46, 120, 59, 125]
def fB : List UInt8 := [112, 97, 99, 107, 97, 103, 101, 59]
def filAll (s : List UInt8) : EO FX := fil ((toks s).map zTok) (fuel ((toks s).map zTok)) (fuelB ((toks s).map zTok)) ((toks s).length + 3)
theorem badA6 : bad (toks fA) 0 = none := by kernel_rfl
theorem badB6 : bad (toks fB) 0 = none := by kernel_rfl
theorem filA : filAll fA = .ok ⟨⟨#[97]⟩, 8, [(⟨#[98]⟩, 17)], [⟨3, 28, 47, ⟨#[109]⟩, true, ⟨⟨#[116]⟩, 24, .leaf 4 26 ⟨#[]⟩ ⟨#[84]⟩⟩, [], [], [], true, .leaf 1 31 ⟨#[]⟩ ⟨#[]⟩, [.mk 3 35 ⟨#[]⟩ true (.mk 5 42 45 0 ⟨#[120]⟩ noTX [.mk 4 42 43 0 ⟨#[116]⟩ noTX []]) [] []]⟩]⟩ 23 := by kernel_rfl
theorem filB : filAll fB = .err 7 5 := by kernel_rfl
end Go.Proofs.YtlgaphopjdeklaaGreat
