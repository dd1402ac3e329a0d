/-
  Plain: packages' texts as trees; what the chapter says that tokens tell. No condition.
  Rows of any elements; files in memory. Condition: the file lies in memory as said.
-/
import Derived.Test.YtlgaphopjdeklaaGreatM12
namespace Go.Proofs.YtlgaphopjdeklaaGreat
/-- A name with a type; a method that is asked for; a declaration; a file. -/
structure PX where
  name : ByteArray
  pos : Int
  typ : TX
structure MX where
  name : ByteArray
  pos : Int
  params : List TX
  has : Bool
  result : TX
structure DX where
  kind : Int
  pos : Int
  stop : Int
  name : ByteArray
  method : Bool
  recv : PX
  bounds : List PX
  fields : List PX
  methods : List MX
  has : Bool
  result : TX
  body : List SX
structure FX where
  name : ByteArray
  pos : Int
  imports : List (ByteArray × Int)
  decls : List DX
def noPX : PX := ⟨⟨#[]⟩, 0, noTX⟩
def wPackage : List UInt8 := [112, 97, 99, 107, 97, 103, 101]
def wImport : List UInt8 := [105, 109, 112, 111, 114, 116]
def wType : List UInt8 := [116, 121, 112, 101]
def wStruct : List UInt8 := [115, 116, 114, 117, 99, 116]
def wInterface : List UInt8 := [105, 110, 116, 101, 114, 102, 97, 99, 101]
def wFunc : List UInt8 := [102, 117, 110, 99]
/-- One reading behind another. -/
def thn {α β : Type} (r : EO α) (f : α → Int → EO β) : EO β :=
  match r with
  | .ok x j => f x j
  | .err p q => .err p q
  | .out => .out
/-- A symbol, a word, a name, a type that must stand here. -/
def sy (l : List TZ) (z : UInt8) (i : Int) : EO Unit := if isS (tkAt l i) z then .ok () (i + 1) else .err (tkAt l i).pos 5
def wo (l : List TZ) (s : List UInt8) (i : Int) : EO Unit := if isW (tkAt l i) s then .ok () (i + 1) else .err (tkAt l i).pos 5
def na (l : List TZ) (i : Int) : EO (ByteArray × Int) := if (tkAt l i).kind = 1 then .ok ((tkAt l i).text, (tkAt l i).pos) (i + 1) else .err (tkAt l i).pos 5
def ty (l : List TZ) (i : Int) : EO TX := match prs l 30 i with
  | .ok t j => .ok t j
  | .err p c => .err p c
def prm (l : List TZ) (i : Int) : EO PX := thn (na l i) fun n j => thn (ty l j) fun t q => .ok ⟨n.1, n.2, t⟩ q
/-- One or more, with commas between, and a symbol behind. -/
def seps {α : Type} (l : List TZ) (one : Int → EO α) (z : UInt8) : Nat → Int → EO (List α)
  | 0, _ => .out
  | f + 1, i => thn (one i) fun x j => if isS (tkAt l j) 44 then thn (seps l one z f (j + 1)) fun xs q => .ok (x :: xs) q else thn (sy l z j) fun _ q => .ok [x] q
/-- None or more, with commas between, and a symbol behind. -/
def sepn {α : Type} (l : List TZ) (one : Int → EO α) (z : UInt8) (f : Nat) (i : Int) : EO (List α) := if isS (tkAt l i) z then .ok [] (i + 1) else seps l one z f i
/-- Any number, up to a bracket, which is passed. -/
def upto {α : Type} (l : List TZ) (one : Int → EO α) : Nat → Int → EO (List α)
  | 0, _ => .out
  | f + 1, i => if isS (tkAt l i) 125 then .ok [] (i + 1) else thn (one i) fun x j => thn (upto l one f j) fun xs q => .ok (x :: xs) q
def fld (l : List TZ) (i : Int) : EO PX := thn (prm l i) fun x j => thn (sy l 59 j) fun _ q => .ok x q
def mth (l : List TZ) (f : Nat) (i : Int) : EO MX := thn (na l i) fun n j => thn (sy l 40 j) fun _ j => thn (sepn l (ty l) 41 f j) fun ts j =>
  if isS (tkAt l j) 59 then .ok ⟨n.1, n.2, ts, false, noTX⟩ (j + 1) else thn (ty l j) fun t j => thn (sy l 59 j) fun _ q => .ok ⟨n.1, n.2, ts, true, t⟩ q
/-- A declaration behind 'type'. -/
def dty (l : List TZ) (f : Nat) (i : Int) : EO DX := thn (na l i) fun n j =>
  if isW (tkAt l j) wInterface then thn (sy l 123 (j + 1)) fun _ j => thn (upto l (mth l f) f j) fun ms q => .ok ⟨2, n.2, (tkAt l (q - 1)).stop, n.1, false, noPX, [], [], ms, false, noTX, []⟩ q
  else thn (wo l wStruct j) fun _ j => thn (sy l 123 j) fun _ j => thn (upto l (fld l) f j) fun fs q => .ok ⟨1, n.2, (tkAt l (q - 1)).stop, n.1, false, noPX, [], fs, [], false, noTX, []⟩ q
/-- A receiver, if there is one; bounds, if there are any; a result, if there is one. -/
def rcv (l : List TZ) (i : Int) : EO (Bool × PX) := if isS (tkAt l i) 40 then thn (prm l (i + 1)) fun x j => thn (sy l 41 j) fun _ q => .ok (true, x) q else .ok (false, noPX) i
def bnds (l : List TZ) (f : Nat) (i : Int) : EO (List PX) := if isS (tkAt l i) 91 then seps l (prm l) 93 f (i + 1) else .ok [] i
def res (l : List TZ) (i : Int) : EO (Bool × TX) := if isS (tkAt l i) 123 then .ok (false, noTX) i else thn (ty l i) fun t q => .ok (true, t) q
/-- A declaration behind 'func'. -/
def dfn (l : List TZ) (F fb f : Nat) (i : Int) : EO DX := thn (rcv l i) fun r j => thn (na l j) fun n j => thn (bnds l f j) fun bs j => thn (sy l 40 j) fun _ j => thn (sepn l (prm l) 41 f j) fun ps j =>
  thn (res l j) fun t j => thn (blk l F fb 0 j) fun b q => .ok ⟨3, n.2, (tkAt l (q - 1)).stop, n.1, r.1, r.2, bs, ps, [], t.1, t.2, b⟩ q
def dcl (l : List TZ) (F fb f : Nat) (i : Int) : EO DX := if isW (tkAt l i) wType then dty l f (i + 1) else thn (wo l wFunc i) fun _ j => dfn l F fb f j
def dcls (l : List TZ) (F fb f : Nat) : Nat → Int → EO (List DX)
  | 0, _ => .out
  | g + 1, i => if (tkAt l i).kind = 0 then .ok [] (i + 1) else thn (dcl l F fb f i) fun x j => thn (dcls l F fb f g j) fun xs q => .ok (x :: xs) q
def imps (l : List TZ) : Nat → Int → EO (List (ByteArray × Int))
  | 0, _ => .out
  | g + 1, i => if isW (tkAt l i) wImport then thn (na l (i + 1)) fun n j => thn (sy l 59 j) fun _ j => thn (imps l g j) fun xs q => .ok (n :: xs) q else .ok [] i
/-- A package's tokens. F, fb: the steps of expressions, of blocks; f: those of lists. -/
def fil (l : List TZ) (F fb f : Nat) : EO FX := thn (wo l wPackage 0) fun _ j => thn (na l j) fun n j => thn (sy l 59 j) fun _ j => thn (imps l f j) fun is j => thn (dcls l F fb f f j) fun ds q => .ok ⟨n.1, n.2, is, ds⟩ q
end Go.Proofs.YtlgaphopjdeklaaGreat
namespace Go.Proofs.YtlgaphopjdeklaaGreat
open Go.RowKit
open Go.Lib hiding intOf
/-- A row of elements, k cells each, lies from an address on. -/
def InRow {α : Type} (k : Nat) (one : α → Value → Prop) (P : Nat → Prop) (w : World) (o : Option Addr) : Nat → List α → Prop
  | _, [] => True
  | i, y :: r => (∃ (b : Nat) (cs : List Value), o = some ⟨b, 0, none⟩ ∧ P b ∧ cs.length = k ∧ (∀ (j : Nat) (u : Value), cs[j]? = some u → w.cell? ⟨b, i * k + j, none⟩ = some u) ∧ one y (.agg cs.toArray)) ∧ InRow k one P w o (i + 1) r
theorem InRow.keep {α : Type} {k : Nat} {one one' : α → Value → Prop} {P P' : Nat → Prop} {w w' : World} (hP : ∀ (b i : Nat) (u : Value), P b → w.cell? ⟨b, i, none⟩ = some u → P' b) (hk : ∀ (b i : Nat) (u : Value), P b → w.cell? ⟨b, i, none⟩ = some u → w'.cell? ⟨b, i, none⟩ = some u)
    (h1 : ∀ y v, one y v → one' y v) (h0 : 0 < k) : ∀ {xs : List α} {i : Nat} {o : Option Addr}, InRow k one P w o i xs → InRow k one' P' w' o i xs
  | [], _, _, _ => trivial
  | y :: r, i, o, h => by
    obtain ⟨⟨b, cs, ho, hb, hl, hc, hy⟩, hr⟩ := h
    obtain ⟨c0, hc0⟩ : ∃ c0, cs[0]? = some c0 := ⟨cs[0]'(by omega), List.getElem?_eq_getElem (by omega)⟩
    exact ⟨⟨b, cs, ho, hP b _ _ hb (hc 0 c0 hc0), hl, fun j u hu => hk b _ u hb (hc j u hu), h1 y _ hy⟩, InRow.keep hP hk h1 h0 hr⟩
/-- One element. -/
theorem InRow.at_ {α : Type} {k : Nat} {one : α → Value → Prop} {P : Nat → Prop} {w : World} {o : Option Addr} : ∀ {xs : List α} {i : Nat} (n : Nat) {y : α}, InRow k one P w o i xs → xs[n]? = some y →
    ∃ (b : Nat) (cs : List Value), o = some ⟨b, 0, none⟩ ∧ P b ∧ cs.length = k ∧ (∀ (j : Nat) (u : Value), cs[j]? = some u → w.cell? ⟨b, (i + n) * k + j, none⟩ = some u) ∧ one y (.agg cs.toArray)
  | [], _, _, _, _, h => by simp at h
  | x :: r, i, 0, y, h, hy => by simp at hy; subst hy; exact h.1
  | x :: r, i, n + 1, y, h, hy => by
    have := InRow.at_ (i := i + 1) n h.2 (by simpa using hy)
    rwa [show i + 1 + n = i + (n + 1) by omega] at this
/-- A name with a type: seven cells; a method that is asked for: nine; a declaration: twenty-two; a file: four. -/
def IsPX (P : Nat → Prop) (w : World) (x : PX) (v : Value) : Prop := ∃ (tk tp : Int) (tg tn : ByteArray) (tz : Option Addr) (ta : Nat),
  v = .agg #[.string x.name, .int .i64 x.pos, .int .i64 tk, .int .i64 tp, .string tg, .string tn, .slice tz ta ta] ∧ IsTP P w x.typ (.agg #[.int .i64 tk, .int .i64 tp, .string tg, .string tn, .slice tz ta ta])
def IsMX (P : Nat → Prop) (w : World) (x : MX) (v : Value) : Prop := ∃ (o : Option Addr) (c : Nat) (tk tp : Int) (tg tn : ByteArray) (tz : Option Addr) (ta : Nat),
  v = .agg #[.string x.name, .int .i64 x.pos, .slice o x.params.length c, .bool x.has, .int .i64 tk, .int .i64 tp, .string tg, .string tn, .slice tz ta ta] ∧
  InRow 5 (IsTP P w) P w o 0 x.params ∧ IsTP P w x.result (.agg #[.int .i64 tk, .int .i64 tp, .string tg, .string tn, .slice tz ta ta])
def IsDX (P : Nat → Prop) (w : World) (x : DX) (v : Value) : Prop := ∃ (rn : ByteArray) (rp rk rq : Int) (rg rm : ByteArray) (rz : Option Addr) (ra : Nat) (ob : Option Addr) (cb : Nat) (of : Option Addr) (cf : Nat) (om : Option Addr) (cm : Nat) (tk tp : Int) (tg tn : ByteArray) (tz : Option Addr) (ta : Nat) (os : Option Addr) (cs : Nat),
  v = .agg #[.int .i64 x.kind, .int .i64 x.pos, .int .i64 x.stop, .string x.name, .bool x.method, .string rn, .int .i64 rp, .int .i64 rk, .int .i64 rq, .string rg, .string rm, .slice rz ra ra, .slice ob x.bounds.length cb, .slice of x.fields.length cf, .slice om x.methods.length cm, .bool x.has, .int .i64 tk, .int .i64 tp, .string tg, .string tn, .slice tz ta ta, .slice os x.body.length cs] ∧
  IsPX P w x.recv (.agg #[.string rn, .int .i64 rp, .int .i64 rk, .int .i64 rq, .string rg, .string rm, .slice rz ra ra]) ∧ InRow 7 (IsPX P w) P w ob 0 x.bounds ∧ InRow 7 (IsPX P w) P w of 0 x.fields ∧ InRow 9 (IsMX P w) P w om 0 x.methods ∧
  IsTP P w x.result (.agg #[.int .i64 tk, .int .i64 tp, .string tg, .string tn, .slice tz ta ta]) ∧ IsSPs P w os 0 x.body
def IsNX (n : ByteArray × Int) (v : Value) : Prop := v = .agg #[.string n.1, .int .i64 n.2]
def IsFX (P : Nat → Prop) (w : World) (x : FX) (v : Value) : Prop := ∃ (oi : Option Addr) (ci : Nat) (od : Option Addr) (cd : Nat),
  v = .agg #[.string x.name, .int .i64 x.pos, .slice oi x.imports.length ci, .slice od x.decls.length cd] ∧ InRow 2 IsNX P w oi 0 x.imports ∧ InRow 22 (IsDX P w) P w od 0 x.decls
section
variable {P P' : Nat → Prop} {w w' : World} (hP : ∀ (b i : Nat) (u : Value), P b → w.cell? ⟨b, i, none⟩ = some u → P' b) (hk : ∀ (b i : Nat) (u : Value), P b → w.cell? ⟨b, i, none⟩ = some u → w'.cell? ⟨b, i, none⟩ = some u)
include hP hk
theorem IsPX.keep {x : PX} {v : Value} (h : IsPX P w x v) : IsPX P' w' x v := by
  obtain ⟨tk, tp, tg, tn, tz, ta, hv, ht⟩ := h
  exact ⟨tk, tp, tg, tn, tz, ta, hv, ht.keep hP hk⟩
theorem IsMX.keep {x : MX} {v : Value} (h : IsMX P w x v) : IsMX P' w' x v := by
  obtain ⟨o, c, tk, tp, tg, tn, tz, ta, hv, hp, ht⟩ := h
  exact ⟨o, c, tk, tp, tg, tn, tz, ta, hv, hp.keep hP hk (fun y v h => IsTP.keep hP hk h) (by decide), ht.keep hP hk⟩
theorem IsDX.keep {x : DX} {v : Value} (h : IsDX P w x v) : IsDX P' w' x v := by
  obtain ⟨rn, rp, rk, rq, rg, rm, rz, ra, ob, cb, of, cf, om, cm, tk, tp, tg, tn, tz, ta, os, cs, hv, h1, h2, h3, h4, h5, h6⟩ := h
  exact ⟨rn, rp, rk, rq, rg, rm, rz, ra, ob, cb, of, cf, om, cm, tk, tp, tg, tn, tz, ta, os, cs, hv, h1.keep hP hk, h2.keep hP hk (fun y v h => IsPX.keep hP hk h) (by decide), h3.keep hP hk (fun y v h => IsPX.keep hP hk h) (by decide), h4.keep hP hk (fun y v h => IsMX.keep hP hk h) (by decide), h5.keep hP hk, IsSPs.keep hP hk h6⟩
theorem IsFX.keep {x : FX} {v : Value} (h : IsFX P w x v) : IsFX P' w' x v := by
  obtain ⟨oi, ci, od, cd, hv, h1, h2⟩ := h
  exact ⟨oi, ci, od, cd, hv, h1.keep hP hk (fun _ _ h => h) (by decide), h2.keep hP hk (fun y v h => IsDX.keep hP hk h) (by decide)⟩
end
/-! The texts of 'awake'. -/
def fA : List UInt8 := [112, 97, 99, 107, 97, 103, 101, 32, 97, 59, 105, 109, 112, 111, 114, 116, 32, 98, 59, 102, 117, 110, 99, 40, 116, 32, 84, 41, 109, 40, 41, 105, 110, 116, 123, 114, 101, 116, 117, 114, 110, 32, 116, 46, 120, 59, 125]
def fB : List UInt8 := [112, 97, 99, 107, 97, 103, 101, 59]
def filAll (s : List UInt8) : EO FX := fil ((toks s).map zTok) (fuel ((toks s).map zTok)) (fuelB ((toks s).map zTok)) ((toks s).length + 3)
theorem badA6 : bad (toks fA) 0 = none := by kernel_rfl
theorem badB6 : bad (toks fB) 0 = none := by kernel_rfl
theorem filA : filAll fA = .ok ⟨⟨#[97]⟩, 8, [(⟨#[98]⟩, 17)], [⟨3, 28, 47, ⟨#[109]⟩, true, ⟨⟨#[116]⟩, 24, .leaf 4 26 ⟨#[]⟩ ⟨#[84]⟩⟩, [], [], [], true, .leaf 1 31 ⟨#[]⟩ ⟨#[]⟩, [.mk 3 35 ⟨#[]⟩ true (.mk 5 42 45 0 ⟨#[120]⟩ noTX [.mk 4 42 43 0 ⟨#[116]⟩ noTX []]) [] []]⟩]⟩ 23 := by kernel_rfl
theorem filB : filAll fB = .err 7 5 := by kernel_rfl
end Go.Proofs.YtlgaphopjdeklaaGreat
