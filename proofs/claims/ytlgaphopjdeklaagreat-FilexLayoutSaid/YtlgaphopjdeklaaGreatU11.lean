/-
  Plain: the tokens of a text stand one behind the other; a text in brackets is its tokens in brackets. No condition.
  Plain: brackets and signs may be thirty within one another. No condition.
  Plain: what is wrong is wrong at a token; an expression in brackets. No condition.
  Expressions in memory. Condition: the expression lies in memory as said.
  What the program's Parse answers in memory. Condition: none.
  Plain: blocks may be thirty within one another. No condition.
  Plain: the tokens of texts in braces; the statements of two texts in one block. No condition.
  Plain: the same tokens elsewhere tell the same statements, moved; two blocks' statements in one; what stands behind a block. No condition.
  Plain: the same tokens elsewhere tell the same expressions, moved. No condition.
  Statements in memory. Condition: the statement lies in memory as said.
  Plain: statements as trees; what the chapter says that tokens tell; how far; steps enough; what is wrong is wrong at a token. No condition.
  Plain: packages' texts as trees; what the chapter says that tokens tell. No condition.
  Plain: the same tokens at other places tell the same expressions, but for places. No condition.
  Plain: the same tokens at other places tell the same expressions, but for places. No condition.
-/
import Derived.Test.YtlgaphopjdeklaaGreatU09
import Derived.Test.YtlgaphopjdeklaaGreatU10
import Derived.Test.YtlgaphopjdeklaaGreatU08
namespace Go.Proofs.YtlgaphopjdeklaaGreat
def zTok (t : Tok) : TZ := ⟨t.kind, (t.pos : Nat), (t.stop : Nat), ⟨t.text.toArray⟩⟩
/-- One behind the other, from a place up to another. -/
def ordT : Nat → Nat → List Tok → Prop
  | a, b, [] => a ≤ b
  | a, b, t :: r => a ≤ t.pos ∧ t.pos < t.stop ∧ t.kind ≠ 0 ∧ ordT t.stop b r
theorem kln_ne {l : List UInt8} (h : l ≠ []) : (kln l).1 ≠ 0 := by
  cases l with
  | nil => exact (h rfl).elim
  | cons c r =>
    rw [kln_cons]
    repeat' split
    all_goals simp
theorem pcs_ord (a : Nat) (l : List UInt8) : ordT a (a + l.length) (pcsAt a l) := by
  refine pcsAt_ind (P := fun a l => ordT a (a + l.length) (pcsAt a l)) (fun a l h => ?_) (fun a l h ih => ?_) a l
  · rw [pcsAt_end a l h]; exact Nat.le_add_right _ _
  · have hp := kln_pos' h
    have hs := skp_le false l
    rw [pcsAt_cons a l h]
    simp only [List.length_drop] at hp ih
    refine ⟨Nat.le_add_right _ _, by simp only; omega, kln_ne h, ?_⟩
    rw [show a + l.length = a + skp false l + (kln (l.drop (skp false l))).2 + (l.length - skp false l - (kln (l.drop (skp false l))).2) by omega]
    exact ih
theorem ord_at {ts : List Tok} {e : Tok} : ∀ {a b : Nat}, ordT a b ts → b ≤ e.pos → e.pos ≤ e.stop → ∀ j : Nat, j < ts.length →
    ∃ t u, (ts ++ [e])[j]? = some t ∧ (ts ++ [e])[j + 1]? = some u ∧ t.pos < t.stop ∧ t.kind ≠ 0 ∧ t.stop ≤ u.pos := by
  induction ts with
  | nil => intro a b _ _ _ j hj; simp at hj
  | cons t r ih =>
    intro a b h hb he j hj
    obtain ⟨h1, h2, h3, h4⟩ := h
    cases j with
    | zero =>
      cases r with
      | nil => exact ⟨t, e, rfl, rfl, h2, h3, Nat.le_trans h4 hb⟩
      | cons u q => exact ⟨t, u, rfl, rfl, h2, h3, h4.1⟩
    | succ j =>
      obtain ⟨x, y, hx, hy, k⟩ := ih h4 hb he j (by simpa using hj)
      exact ⟨x, y, by simpa using hx, by simpa using hy, k⟩
theorem tk_map {ts : List Tok} {j : Nat} {t : Tok} (h : ts[j]? = some t) : tkAt (ts.map zTok) (j : Nat) = zTok t := tkAt_in (by rw [List.getElem?_map, h]; rfl)
/-- The tokens of a text. -/
theorem toks_good (s : List UInt8) : Good ((toks s).map zTok) (pcsAt 0 s).length := by
  have ho := pcs_ord 0 s
  have hl : (toks s).length = (pcsAt 0 s).length + 1 := by unfold toks; simp
  have hend : (toks s)[(pcsAt 0 s).length]? = some (endTok s) := by unfold toks; simp
  have key : ∀ j : Nat, j < (pcsAt 0 s).length → ∃ t u, (toks s)[j]? = some t ∧ (toks s)[j + 1]? = some u ∧ t.pos < t.stop ∧ t.kind ≠ 0 ∧ t.stop ≤ u.pos := fun j hj => ord_at (e := endTok s) ho (by simp [endTok]) (Nat.le_refl _) j hj
  refine ⟨by rw [List.length_map, hl], fun j hj => ?_, ?_, fun j hj => ?_, ?_, fun j hj => ?_⟩
  · obtain ⟨t, u, ht, hu, k1, k2, k3⟩ := key j hj
    rw [tk_map ht]; exact k2
  · rw [tk_map hend]; rfl
  · obtain ⟨t, u, ht, hu, k1, k2, k3⟩ := key j hj
    rw [tk_map ht]
    show (t.pos : Int) < t.stop
    omega
  · rw [tk_map hend]; exact Int.le_refl _
  · obtain ⟨t, u, ht, hu, k1, k2, k3⟩ := key j hj
    rw [tk_map ht, tk_map hu]
    show (t.stop : Int) ≤ u.pos
    omega
end Go.Proofs.YtlgaphopjdeklaaGreat
namespace Go.Proofs.YtlgaphopjdeklaaGreat
/-- Steps enough for so many tokens. -/
def fuel (l : List TZ) : Nat := 8 * l.length + 16
end Go.Proofs.YtlgaphopjdeklaaGreat
namespace Go.Proofs.YtlgaphopjdeklaaGreat
def AtTok (l : List TZ) (p c : Int) : Prop := (∃ q, p = (tkAt l q).pos) ∧ c ≠ 0
theorem elm_err {l : List TZ} {i p c : Int} (h : elm l i = .err p c) : AtTok l p c := by
  unfold elm at h
  split at h
  · split at h
    · split at h
      · cases h
      · injection h with h h'; exact ⟨⟨_, h.symm⟩, by rw [← h']; decide⟩
    · cases h
  · split at h
    · cases h
    · injection h with h h'; exact ⟨⟨_, h.symm⟩, by rw [← h']; decide⟩
theorem prs_err {l : List TZ} : ∀ {k : Nat} {i p c : Int}, prs l k i = .err p c → AtTok l p c
  | 0, i, p, c, h => by
    unfold prs at h
    split at h
    · injection h with h h'; exact ⟨⟨_, h.symm⟩, by rw [← h']; decide⟩
    · exact elm_err h
  | k + 1, i, p, c, h => by
    unfold prs at h
    split at h
    · split at h
      · cases hp : prs l k (i + 2) with
        | ok y n => rw [hp] at h; cases h
        | err q d => rw [hp] at h; injection h with h h'; subst h; subst h'; exact prs_err hp
      · injection h with h h'; exact ⟨⟨_, h.symm⟩, by rw [← h']; decide⟩
    · exact elm_err h
theorem read_err {l : List TZ} : ∀ f : Nat,
    (∀ k d i p c, ex l f k d i = .err p c → AtTok l p c) ∧
    (∀ k d a x i p c, binT l f k d a x i = .err p c → AtTok l p c) ∧
    (∀ d i p c, una l f d i = .err p c → AtTok l p c) ∧
    (∀ d i p c, prim l f d i = .err p c → AtTok l p c) ∧
    (∀ d a x i p c, post l f d a x i = .err p c → AtTok l p c) ∧
    (∀ z d i p c, lst l f z d i = .err p c → AtTok l p c) ∧
    (∀ z d i p c, items l f z d i = .err p c → AtTok l p c) := by
  intro f
  induction f with
  | zero =>
    refine ⟨?_, ?_, ?_, ?_, ?_, ?_, ?_⟩ <;> intros <;> simp [ex, binT, una, prim, post, lst, items] at *
  | succ f ih =>
    obtain ⟨iE, iB, iU, iP, iT, iL, iI⟩ := ih
    have self : ∀ {α : Type} {q : Int} {e : Int} {p c : Int}, e ≠ 0 → (EO.err (α := α) (tkAt l q).pos e) = .err p c → AtTok l p c := fun he h => by
      injection h with h h'; exact ⟨⟨_, h.symm⟩, by rw [← h']; exact he⟩
    refine ⟨?_, ?_, ?_, ?_, ?_, ?_, ?_⟩
    · intro k d i p c h
      unfold ex at h
      split at h
      · exact iU _ _ _ _ h
      · split at h
        · exact iB _ _ _ _ _ _ _ h
        · next hq => injection h with h h'; subst h; subst h'; exact iE _ _ _ _ _ hq
        · cases h
    · intro k d a x i p c h
      unfold binT at h
      split at h
      · split at h
        · exact iB _ _ _ _ _ _ _ h
        · next hq => injection h with h h'; subst h; subst h'; exact iE _ _ _ _ _ hq
        · cases h
      · cases h
    · intro d i p c h
      unfold una at h
      split at h
      · split at h
        · exact self (by decide) h
        · split at h
          · cases h
          · next hq => injection h with h h'; subst h; subst h'; exact iU _ _ _ _ hq
          · cases h
      · split at h
        · exact iT _ _ _ _ _ _ h
        · next hq => injection h with h h'; subst h; subst h'; exact iP _ _ _ _ hq
        · cases h
    · intro d i p c h
      unfold prim at h
      split at h
      · split at h
        · cases h
        · exact self (by decide) h
      split at h
      · split at h
        · cases h
        · exact self (by decide) h
      split at h
      · cases h
      split at h
      · cases h
      split at h
      · cases h
      split at h
      · split at h
        · exact self (by decide) h
        · split at h
          · split at h
            · cases h
            · exact self (by decide) h
          · next hq => injection h with h h'; subst h; subst h'; exact iE _ _ _ _ _ hq
          · cases h
      split at h
      · split at h
        · split at h
          · split at h
            · cases h
            · next hq => injection h with h h'; subst h; subst h'; exact iL _ _ _ _ _ hq
            · cases h
          · exact self (by decide) h
        · next hq => injection h with h h'; subst h; subst h'; exact prs_err hq
      · exact self (by decide) h
    · intro d a x i p c h
      unfold post at h
      split at h
      · split at h
        · exact iT _ _ _ _ _ _ h
        · exact self (by decide) h
      split at h
      · split at h
        · exact iT _ _ _ _ _ _ h
        · next hq => injection h with h h'; subst h; subst h'; exact iL _ _ _ _ _ hq
        · cases h
      split at h
      · split at h
        · exact self (by decide) h
        · split at h
          · split at h
            · exact iT _ _ _ _ _ _ h
            · exact self (by decide) h
          · next hq => injection h with h h'; subst h; subst h'; exact iE _ _ _ _ _ hq
          · cases h
      · cases h
    · intro z d i p c h
      unfold lst at h
      split at h
      · exact self (by decide) h
      split at h
      · cases h
      · exact iI _ _ _ _ _ h
    · intro z d i p c h
      unfold items at h
      split at h
      · split at h
        · split at h
          · cases h
          · next hq => injection h with h h'; subst h; subst h'; exact iI _ _ _ _ _ hq
          · cases h
        · split at h
          · cases h
          · exact self (by decide) h
      · next hq => injection h with h h'; subst h; subst h'; exact iE _ _ _ _ _ hq
      · cases h
end Go.Proofs.YtlgaphopjdeklaaGreat
namespace Go.Proofs.YtlgaphopjdeklaaGreat
open Go.RowKit
open Go.Lib hiding intOf
mutual
/-- A value is such an expression, with its parts in blocks of which P holds. -/
def IsEP (P : Nat → Prop) (w : World) : EX → Value → Prop
  | .mk k p s n nm t args, v => ∃ (tk tp : Int) (tg tn : ByteArray) (tz : Option Addr) (ta : Nat) (o : Option Addr) (c : Nat),
      v = .agg #[.int .i64 k, .int .i64 p, .int .i64 s, .string nm, .int .i64 n, .int .i64 tk, .int .i64 tp, .string tg, .string tn, .slice tz ta ta, .slice o args.length c] ∧
      IsTP P w t (.agg #[.int .i64 tk, .int .i64 tp, .string tg, .string tn, .slice tz ta ta]) ∧ IsEPs P w o 0 args
def IsEPs (P : Nat → Prop) (w : World) (o : Option Addr) : Nat → List EX → Prop
  | _, [] => True
  | i, y :: r => (∃ (b : Nat) (c0 c1 c2 c3 c4 c5 c6 c7 c8 c9 c10 : Value), o = some ⟨b, 0, none⟩ ∧ P b ∧
      w.cell? ⟨b, i * 11, none⟩ = some c0 ∧ w.cell? ⟨b, i * 11 + 1, none⟩ = some c1 ∧ w.cell? ⟨b, i * 11 + 2, none⟩ = some c2 ∧ w.cell? ⟨b, i * 11 + 3, none⟩ = some c3 ∧ w.cell? ⟨b, i * 11 + 4, none⟩ = some c4 ∧ w.cell? ⟨b, i * 11 + 5, none⟩ = some c5 ∧
      w.cell? ⟨b, i * 11 + 6, none⟩ = some c6 ∧ w.cell? ⟨b, i * 11 + 7, none⟩ = some c7 ∧ w.cell? ⟨b, i * 11 + 8, none⟩ = some c8 ∧ w.cell? ⟨b, i * 11 + 9, none⟩ = some c9 ∧ w.cell? ⟨b, i * 11 + 10, none⟩ = some c10 ∧
      IsEP P w y (.agg #[c0, c1, c2, c3, c4, c5, c6, c7, c8, c9, c10])) ∧ IsEPs P w o (i + 1) r
end
mutual
theorem IsEP.keep {P P' : Nat → Prop} {w w' : World} (hP : ∀ (b i : Nat) (u : Value), P b → w.cell? ⟨b, i, none⟩ = some u → P' b) (hk : ∀ (b i : Nat) (u : Value), P b → w.cell? ⟨b, i, none⟩ = some u → w'.cell? ⟨b, i, none⟩ = some u) : ∀ {x : EX} {v : Value}, IsEP P w x v → IsEP P' w' x v
  | .mk .., _, h => by
    unfold IsEP at h ⊢
    obtain ⟨tk, tp, tg, tn, tz, ta, o, c, hv, ht, ha⟩ := h
    exact ⟨tk, tp, tg, tn, tz, ta, o, c, hv, ht.keep hP hk, IsEPs.keep hP hk ha⟩
theorem IsEPs.keep {P P' : Nat → Prop} {w w' : World} (hP : ∀ (b i : Nat) (u : Value), P b → w.cell? ⟨b, i, none⟩ = some u → P' b) (hk : ∀ (b i : Nat) (u : Value), P b → w.cell? ⟨b, i, none⟩ = some u → w'.cell? ⟨b, i, none⟩ = some u) : ∀ {i : Nat} {xs : List EX} {o : Option Addr}, IsEPs P w o i xs → IsEPs P' w' o i xs
  | _, [], _, _ => by unfold IsEPs; trivial
  | i, y :: r, _, h => by
    unfold IsEPs at h ⊢
    obtain ⟨⟨b, c0, c1, c2, c3, c4, c5, c6, c7, c8, c9, c10, ho, hb, h0, h1, h2, h3, h4, h5, h6, h7, h8, h9, h10, hy⟩, hr⟩ := h
    exact ⟨⟨b, c0, c1, c2, c3, c4, c5, c6, c7, c8, c9, c10, ho, hP _ _ _ hb h0, hk _ _ _ hb h0, hk _ _ _ hb h1, hk _ _ _ hb h2, hk _ _ _ hb h3, hk _ _ _ hb h4, hk _ _ _ hb h5, hk _ _ _ hb h6, hk _ _ _ hb h7, hk _ _ _ hb h8, hk _ _ _ hb h9, hk _ _ _ hb h10, IsEP.keep hP hk hy⟩, IsEPs.keep hP hk hr⟩
end
theorem IsEP.below {P : Nat → Prop} {w w' : World} {x : EX} {v : Value} (h : IsEP P w x v) (hb : Below w.heap.size w w') : IsEP P w' x v :=
  h.keep (fun _ _ _ h _ => h) fun _ _ _ _ hc => (hb.cell (World.block_lt_of_cell? _ _ hc)).trans hc
theorem IsEPs.below {P : Nat → Prop} {w w' : World} {o : Option Addr} {i : Nat} {xs : List EX} (h : IsEPs P w o i xs) (hb : Below w.heap.size w w') : IsEPs P w' o i xs :=
  h.keep (fun _ _ _ h _ => h) fun _ _ _ _ hc => (hb.cell (World.block_lt_of_cell? _ _ hc)).trans hc
/-- One element. -/
theorem IsEPs.at_ {P : Nat → Prop} {w : World} {o : Option Addr} : ∀ {xs : List EX} {i : Nat} (k : Nat) {y : EX}, IsEPs P w o i xs → xs[k]? = some y → IsEPs P w o (i + k) [y]
  | [], _, _, _, _, h => by simp at h
  | x :: r, i, 0, y, h, hy => by
    simp at hy; subst hy
    unfold IsEPs at h ⊢
    exact ⟨h.1, by unfold IsEPs; trivial⟩
  | x :: r, i, k + 1, y, h, hy => by
    unfold IsEPs at h
    have := IsEPs.at_ (i := i + 1) k h.2 (by simpa using hy)
    rwa [show i + 1 + k = i + (k + 1) by omega] at this
theorem IsEP.parts {P : Nat → Prop} {w : World} {x : EX} {v : Value} (h : IsEP P w x v) : ∃ (n : Int) (nm : ByteArray) (tk tp : Int) (tg tn : ByteArray) (tz : Option Addr) (ta : Nat) (o : Option Addr) (c : Nat),
    v = .agg #[.int .i64 x.kind, .int .i64 x.pos, .int .i64 x.stop, .string nm, .int .i64 n, .int .i64 tk, .int .i64 tp, .string tg, .string tn, .slice tz ta ta, .slice o x.args.length c] ∧ IsEPs P w o 0 x.args := by
  cases x with
  | mk k p s n nm t args =>
    unfold IsEP at h
    obtain ⟨tk, tp, tg, tn, tz, ta, o, c, hv, ht, ha⟩ := h
    exact ⟨n, nm, tk, tp, tg, tn, tz, ta, o, c, hv, ha⟩
theorem args_lt {x y : EX} {k : Nat} (h : x.args[k]? = some y) : SizeOf.sizeOf y < SizeOf.sizeOf x := by
  cases x with
  | mk a b c d e f g =>
    have hm : y ∈ g := List.mem_of_getElem? h
    have := List.sizeOf_lt_of_mem hm
    simp only [EX.mk.sizeOf_spec]
    omega
end Go.Proofs.YtlgaphopjdeklaaGreat
namespace Go.Proofs.YtlgaphopjdeklaaGreat
/-- A statement as a plain tree. -/
inductive SX where
  | mk (kind pos : Int) (name : ByteArray) (has : Bool) (x : EX) (body other : List SX)
def SX.kind : SX → Int
  | .mk k _ _ _ _ _ _ => k
def SX.pos : SX → Int
  | .mk _ p _ _ _ _ _ => p
def SX.name : SX → ByteArray
  | .mk _ _ n _ _ _ _ => n
def SX.has : SX → Bool
  | .mk _ _ _ h _ _ _ => h
def SX.expr : SX → EX
  | .mk _ _ _ _ x _ _ => x
def SX.body : SX → List SX
  | .mk _ _ _ _ _ b _ => b
def SX.other : SX → List SX
  | .mk _ _ _ _ _ _ c => c
def noEX : EX := .mk 0 0 0 0 ⟨#[]⟩ noTX []
def wLet : List UInt8 := [108, 101, 116]
def wReturn : List UInt8 := [114, 101, 116, 117, 114, 110]
def wIf : List UInt8 := [105, 102]
def wFor : List UInt8 := [102, 111, 114]
def wElse : List UInt8 := [101, 108, 115, 101]
/-- A name, and = behind it. -/
def isSet (l : List TZ) (i : Int) : Bool := decide ((tkAt l i).kind = 1) && isS (tkAt l (i + 1)) 61
/-- An expression and then a symbol, out of which a statement is made. -/
def exThen (l : List TZ) (F : Nat) (z : UInt8) (i : Int) (g : EX → SX) : EO SX :=
  match ex l F 1 0 i with
  | .ok x j => if isS (tkAt l j) z then .ok (g x) (j + 1) else .err (tkAt l j).pos 5
  | .err p c => .err p c
  | .out => .out
mutual
/-- A block within so many; F: the steps of each expression; the first number is how many steps there may be. -/
def blk (l : List TZ) (F : Nat) : Nat → Nat → Int → EO (List SX)
  | 0, _, _ => .out
  | f + 1, d, i => if isS (tkAt l i) 123 then (if 30 ≤ d then .err (tkAt l i).pos 6 else rows l F f d (i + 1)) else .err (tkAt l i).pos 5
def rows (l : List TZ) (F : Nat) : Nat → Nat → Int → EO (List SX)
  | 0, _, _ => .out
  | f + 1, d, i => if isS (tkAt l i) 125 then .ok [] (i + 1) else
    match stm l F f d i with
    | .ok s j =>
      match rows l F f d j with
      | .ok r q => .ok (s :: r) q
      | .err p c => .err p c
      | .out => .out
    | .err p c => .err p c
    | .out => .out
def stm (l : List TZ) (F : Nat) : Nat → Nat → Int → EO SX
  | 0, _, _ => .out
  | f + 1, d, i =>
    if isW (tkAt l i) wLet then
      if (tkAt l (i + 1)).kind = 1 then
        if isS (tkAt l (i + 2)) 61 then exThen l F 59 (i + 3) (fun x => .mk 1 (tkAt l i).pos (tkAt l (i + 1)).text false x [] [])
        else .err (tkAt l (i + 2)).pos 5
      else .err (tkAt l (i + 1)).pos 5
    else if isW (tkAt l i) wReturn then
      if isS (tkAt l (i + 1)) 59 then .ok (.mk 3 (tkAt l i).pos ⟨#[]⟩ false noEX [] []) (i + 2)
      else exThen l F 59 (i + 1) (fun x => .mk 3 (tkAt l i).pos ⟨#[]⟩ true x [] [])
    else if isW (tkAt l i) wIf then
      match ex l F 1 0 (i + 1) with
      | .ok x j =>
        match blk l F f (d + 1) j with
        | .ok b q => if isW (tkAt l q) wElse then
            match blk l F f (d + 1) (q + 1) with
            | .ok c r => .ok (.mk 4 (tkAt l i).pos ⟨#[]⟩ true x b c) r
            | .err p c => .err p c
            | .out => .out
          else .ok (.mk 4 (tkAt l i).pos ⟨#[]⟩ false x b []) q
        | .err p c => .err p c
        | .out => .out
      | .err p c => .err p c
      | .out => .out
    else if isW (tkAt l i) wFor then
      match ex l F 1 0 (i + 1) with
      | .ok x j =>
        match blk l F f (d + 1) j with
        | .ok b q => .ok (.mk 5 (tkAt l i).pos ⟨#[]⟩ false x b []) q
        | .err p c => .err p c
        | .out => .out
      | .err p c => .err p c
      | .out => .out
    else if isSet l i then exThen l F 59 (i + 2) (fun x => .mk 2 (tkAt l i).pos (tkAt l i).text false x [] [])
    else exThen l F 59 i (fun x => .mk 6 (tkAt l i).pos ⟨#[]⟩ false x [] [])
end
theorem exThen_rng {l : List TZ} {F : Nat} {z : UInt8} {i : Int} {g : EX → SX} {s : SX} {j : Int} (h : exThen l F z i g = .ok s j) : 0 ≤ i ∧ i + 1 < j ∧ j ≤ l.length := by
  unfold exThen at h
  split at h
  · next x q hq =>
    have h1 := (read_rng F).1 _ _ _ _ _ (by decide) hq
    split at h
    · next hc =>
      have hr := isS_real hc
      injection h with h h'; omega
    · cases h
  · cases h
  · cases h
/-- What is read is behind where it began, and not behind the last token. -/
theorem stm_rng {l : List TZ} {F : Nat} : ∀ f : Nat,
    (∀ d i x j, blk l F f d i = .ok x j → 0 ≤ i ∧ i + 1 < j ∧ j ≤ l.length) ∧
    (∀ d i x j, rows l F f d i = .ok x j → 0 ≤ i ∧ i < j ∧ j ≤ l.length) ∧
    (∀ d i x j, stm l F f d i = .ok x j → 0 ≤ i ∧ i < j ∧ j ≤ l.length) := by
  intro f
  induction f with
  | zero =>
    refine ⟨?_, ?_, ?_⟩ <;> intros <;> simp [blk, rows, stm] at *
  | succ f ih =>
    obtain ⟨iB, iR, iS⟩ := ih
    refine ⟨?_, ?_, ?_⟩
    · intro d i x j h
      unfold blk at h
      split at h
      · next hn =>
        have hr := isS_real hn
        split at h
        · cases h
        · have := iR _ _ _ _ h; omega
      · cases h
    · intro d i x j h
      unfold rows at h
      split at h
      · next hn => have hr := isS_real hn; injection h with h h'; omega
      · split at h
        · next s q hq =>
          have h1 := iS _ _ _ _ hq
          split at h
          · next r p hr =>
            have h2 := iR _ _ _ _ hr
            injection h with h h'; omega
          · cases h
          · cases h
        · cases h
        · cases h
    · intro d i x j h
      unfold stm at h
      split at h
      · next hn =>
        have hr := isW_real hn
        split at h
        · split at h
          · have := exThen_rng h; omega
          · cases h
        · cases h
      split at h
      · next hn =>
        have hr := isW_real hn
        split at h
        · next hs => have hr2 := isS_real hs; injection h with h h'; omega
        · have := exThen_rng h; omega
      split at h
      · next hn =>
        have hr := isW_real hn
        split at h
        · next y q hq =>
          have h1 := (read_rng F).1 _ _ _ _ _ (by decide) hq
          split at h
          · next b p hp =>
            have h2 := iB _ _ _ _ hp
            split at h
            · split at h
              · next c r hc => have h3 := iB _ _ _ _ hc; injection h with h h'; omega
              · cases h
              · cases h
            · injection h with h h'; omega
          · cases h
          · cases h
        · cases h
        · cases h
      split at h
      · next hn =>
        have hr := isW_real hn
        split at h
        · next y q hq =>
          have h1 := (read_rng F).1 _ _ _ _ _ (by decide) hq
          split at h
          · next b p hp => have h2 := iB _ _ _ _ hp; injection h with h h'; omega
          · cases h
          · cases h
        · cases h
        · cases h
      split at h
      · next hn =>
        unfold isSet at hn
        simp only [Bool.and_eq_true, decide_eq_true_eq] at hn
        have hr := tkAt_real (l := l) (i := i) (by rw [hn.1]; decide)
        have := exThen_rng h; omega
      · have := exThen_rng h; omega
theorem exThen_some {l : List TZ} {F : Nat} (hF : fuel l ≤ F) {z : UInt8} {i : Int} (h0 : 0 ≤ i) {g : EX → SX} : exThen l F z i g ≠ .out := by
  unfold exThen
  split
  · split <;> (intro h; cases h)
  · intro h; cases h
  · next hq => exact ((enough F).1 1 0 i (by decide) (by decide) (by unfold fuel left at *; omega) hq).elim
/-- So many steps are enough. -/
theorem stm_some {l : List TZ} {F : Nat} (hF : fuel l ≤ F) : ∀ f : Nat,
    (∀ d (i : Int), 0 ≤ i → 4 * left l i + 4 ≤ f → blk l F f d i ≠ .out) ∧
    (∀ d (i : Int), 0 ≤ i → 4 * left l i + 3 ≤ f → rows l F f d i ≠ .out) ∧
    (∀ d (i : Int), 0 ≤ i → 4 * left l i + 2 ≤ f → stm l F f d i ≠ .out) := by
  intro f
  induction f with
  | zero =>
    refine ⟨?_, ?_, ?_⟩ <;> intros <;> omega
  | succ f ih =>
    obtain ⟨iB, iR, iS⟩ := ih
    obtain ⟨rB, rR, rS⟩ := stm_rng (l := l) (F := F) f
    refine ⟨?_, ?_, ?_⟩
    · intro d i h0 hf
      unfold blk
      split
      · next hn =>
        have hr := isS_real hn
        split
        · intro h; cases h
        · exact iR _ _ (by omega) (by unfold left at *; omega)
      · intro h; cases h
    · intro d i h0 hf
      unfold rows
      split
      · intro h; cases h
      · split
        · next s q hq =>
          have h1 := rS _ _ _ _ hq
          split
          · intro h; cases h
          · intro h; cases h
          · next hr => exact (iR _ _ (by omega) (by unfold left at *; omega) hr).elim
        · intro h; cases h
        · next hq => exact (iS _ _ h0 (by omega) hq).elim
    · intro d i h0 hf
      unfold stm
      split
      · split
        · split
          · exact exThen_some hF (by omega)
          · intro h; cases h
        · intro h; cases h
      split
      · split
        · intro h; cases h
        · exact exThen_some hF (by omega)
      split
      · next hn =>
        have hr := isW_real hn
        split
        · next y q hq =>
          have h1 := (read_rng F).1 _ _ _ _ _ (by decide) hq
          split
          · next b p hp =>
            have h2 := rB _ _ _ _ hp
            split
            · split
              · intro h; cases h
              · intro h; cases h
              · next hc => exact (iB _ _ (by omega) (by unfold left at *; omega) hc).elim
            · intro h; cases h
          · intro h; cases h
          · next hc => exact (iB _ _ (by omega) (by unfold left at *; omega) hc).elim
        · intro h; cases h
        · next hq => exact ((enough F).1 1 0 _ (by decide) (by decide) (by unfold fuel left at *; omega) hq).elim
      split
      · next hn =>
        have hr := isW_real hn
        split
        · next y q hq =>
          have h1 := (read_rng F).1 _ _ _ _ _ (by decide) hq
          split
          · intro h; cases h
          · intro h; cases h
          · next hc => exact (iB _ _ (by omega) (by unfold left at *; omega) hc).elim
        · intro h; cases h
        · next hq => exact ((enough F).1 1 0 _ (by decide) (by decide) (by unfold fuel left at *; omega) hq).elim
      split
      · exact exThen_some hF (by omega)
      · exact exThen_some hF h0
theorem exThen_err {l : List TZ} {F : Nat} {z : UInt8} {i : Int} {g : EX → SX} {p c : Int} (h : exThen l F z i g = .err p c) : AtTok l p c := by
  unfold exThen at h
  split at h
  · split at h
    · cases h
    · injection h with h h'; exact ⟨⟨_, h.symm⟩, by rw [← h']; decide⟩
  · next hq => injection h with h h'; subst h; subst h'; exact (read_err F).1 _ _ _ _ _ hq
  · cases h
theorem stm_err {l : List TZ} {F : Nat} : ∀ f : Nat,
    (∀ d i p c, blk l F f d i = .err p c → AtTok l p c) ∧
    (∀ d i p c, rows l F f d i = .err p c → AtTok l p c) ∧
    (∀ d i p c, stm l F f d i = .err p c → AtTok l p c) := by
  intro f
  induction f with
  | zero =>
    refine ⟨?_, ?_, ?_⟩ <;> intros <;> simp [blk, rows, stm] at *
  | succ f ih =>
    obtain ⟨iB, iR, iS⟩ := ih
    have self : ∀ {α : Type} {q : Int} {e : Int} {p c : Int}, e ≠ 0 → (EO.err (α := α) (tkAt l q).pos e) = .err p c → AtTok l p c := fun he h => by
      injection h with h h'; exact ⟨⟨_, h.symm⟩, by rw [← h']; exact he⟩
    refine ⟨?_, ?_, ?_⟩
    · intro d i p c h
      unfold blk at h
      split at h
      · split at h
        · exact self (by decide) h
        · exact iR _ _ _ _ h
      · exact self (by decide) h
    · intro d i p c h
      unfold rows at h
      split at h
      · cases h
      · split at h
        · split at h
          · cases h
          · next hr => injection h with h h'; subst h; subst h'; exact iR _ _ _ _ hr
          · cases h
        · next hr => injection h with h h'; subst h; subst h'; exact iS _ _ _ _ hr
        · cases h
    · intro d i p c h
      unfold stm at h
      split at h
      · split at h
        · split at h
          · exact exThen_err h
          · exact self (by decide) h
        · exact self (by decide) h
      split at h
      · split at h
        · cases h
        · exact exThen_err h
      split at h
      · split at h
        · split at h
          · split at h
            · split at h
              · cases h
              · next hr => injection h with h h'; subst h; subst h'; exact iB _ _ _ _ hr
              · cases h
            · cases h
          · next hr => injection h with h h'; subst h; subst h'; exact iB _ _ _ _ hr
          · cases h
        · next hq => injection h with h h'; subst h; subst h'; exact (read_err F).1 _ _ _ _ _ hq
        · cases h
      split at h
      · split at h
        · split at h
          · cases h
          · next hr => injection h with h h'; subst h; subst h'; exact iB _ _ _ _ hr
          · cases h
        · next hq => injection h with h h'; subst h; subst h'; exact (read_err F).1 _ _ _ _ _ hq
        · cases h
      split at h
      · exact exThen_err h
      · exact exThen_err h
end Go.Proofs.YtlgaphopjdeklaaGreat
namespace Go.Proofs.YtlgaphopjdeklaaGreat
open Go.RowKit
open Go.Lib hiding intOf
mutual
/-- A value is such a statement, with its parts in blocks of which P holds. -/
def IsSP (P : Nat → Prop) (w : World) : SX → Value → Prop
  | .mk k p nm h x u v, V => ∃ (e0 e1 e2 e3 e4 e5 e6 e7 e8 e9 e10 : Value) (o : Option Addr) (c : Nat) (o' : Option Addr) (c' : Nat),
      V = .agg #[.int .i64 k, .int .i64 p, .string nm, .bool h, e0, e1, e2, e3, e4, e5, e6, e7, e8, e9, e10, .slice o u.length c, .slice o' v.length c'] ∧
      IsEP P w x (.agg #[e0, e1, e2, e3, e4, e5, e6, e7, e8, e9, e10]) ∧ IsSPs P w o 0 u ∧ IsSPs P w o' 0 v
/-- A row of statements lies from an address on. -/
def IsSPs (P : Nat → Prop) (w : World) (o : Option Addr) : Nat → List SX → Prop
  | _, [] => True
  | i, y :: r => (∃ (b : Nat) (c0 c1 c2 c3 c4 c5 c6 c7 c8 c9 c10 c11 c12 c13 c14 c15 c16 : Value), o = some ⟨b, 0, none⟩ ∧ P b ∧
      w.cell? ⟨b, i * 17, none⟩ = some c0 ∧ w.cell? ⟨b, i * 17 + 1, none⟩ = some c1 ∧ w.cell? ⟨b, i * 17 + 2, none⟩ = some c2 ∧ w.cell? ⟨b, i * 17 + 3, none⟩ = some c3 ∧ w.cell? ⟨b, i * 17 + 4, none⟩ = some c4 ∧ w.cell? ⟨b, i * 17 + 5, none⟩ = some c5 ∧
      w.cell? ⟨b, i * 17 + 6, none⟩ = some c6 ∧ w.cell? ⟨b, i * 17 + 7, none⟩ = some c7 ∧ w.cell? ⟨b, i * 17 + 8, none⟩ = some c8 ∧ w.cell? ⟨b, i * 17 + 9, none⟩ = some c9 ∧ w.cell? ⟨b, i * 17 + 10, none⟩ = some c10 ∧ w.cell? ⟨b, i * 17 + 11, none⟩ = some c11 ∧
      w.cell? ⟨b, i * 17 + 12, none⟩ = some c12 ∧ w.cell? ⟨b, i * 17 + 13, none⟩ = some c13 ∧ w.cell? ⟨b, i * 17 + 14, none⟩ = some c14 ∧ w.cell? ⟨b, i * 17 + 15, none⟩ = some c15 ∧ w.cell? ⟨b, i * 17 + 16, none⟩ = some c16 ∧
      IsSP P w y (.agg #[c0, c1, c2, c3, c4, c5, c6, c7, c8, c9, c10, c11, c12, c13, c14, c15, c16])) ∧ IsSPs P w o (i + 1) r
end
mutual
theorem IsSP.keep {P P' : Nat → Prop} {w w' : World} (hP : ∀ (b i : Nat) (u : Value), P b → w.cell? ⟨b, i, none⟩ = some u → P' b) (hk : ∀ (b i : Nat) (u : Value), P b → w.cell? ⟨b, i, none⟩ = some u → w'.cell? ⟨b, i, none⟩ = some u) : ∀ {x : SX} {v : Value}, IsSP P w x v → IsSP P' w' x v
  | .mk .., _, h => by
    unfold IsSP at h ⊢
    obtain ⟨e0, e1, e2, e3, e4, e5, e6, e7, e8, e9, e10, o, c, o', c', hv, hx, hu, hw⟩ := h
    exact ⟨e0, e1, e2, e3, e4, e5, e6, e7, e8, e9, e10, o, c, o', c', hv, hx.keep hP hk, IsSPs.keep hP hk hu, IsSPs.keep hP hk hw⟩
theorem IsSPs.keep {P P' : Nat → Prop} {w w' : World} (hP : ∀ (b i : Nat) (u : Value), P b → w.cell? ⟨b, i, none⟩ = some u → P' b) (hk : ∀ (b i : Nat) (u : Value), P b → w.cell? ⟨b, i, none⟩ = some u → w'.cell? ⟨b, i, none⟩ = some u) : ∀ {i : Nat} {xs : List SX} {o : Option Addr}, IsSPs P w o i xs → IsSPs P' w' o i xs
  | _, [], _, _ => by unfold IsSPs; trivial
  | i, y :: r, _, h => by
    unfold IsSPs at h ⊢
    obtain ⟨⟨b, c0, c1, c2, c3, c4, c5, c6, c7, c8, c9, c10, c11, c12, c13, c14, c15, c16, ho, hb, h0, h1, h2, h3, h4, h5, h6, h7, h8, h9, h10, h11, h12, h13, h14, h15, h16, hy⟩, hr⟩ := h
    exact ⟨⟨b, c0, c1, c2, c3, c4, c5, c6, c7, c8, c9, c10, c11, c12, c13, c14, c15, c16, ho, hP _ _ _ hb h0, hk _ _ _ hb h0, hk _ _ _ hb h1, hk _ _ _ hb h2, hk _ _ _ hb h3, hk _ _ _ hb h4, hk _ _ _ hb h5, hk _ _ _ hb h6, hk _ _ _ hb h7, hk _ _ _ hb h8, hk _ _ _ hb h9, hk _ _ _ hb h10, hk _ _ _ hb h11, hk _ _ _ hb h12, hk _ _ _ hb h13, hk _ _ _ hb h14, hk _ _ _ hb h15, hk _ _ _ hb h16, IsSP.keep hP hk hy⟩, IsSPs.keep hP hk hr⟩
end
theorem IsSP.below {P : Nat → Prop} {w w' : World} {x : SX} {v : Value} (h : IsSP P w x v) (hb : Below w.heap.size w w') : IsSP P w' x v :=
  h.keep (fun _ _ _ h _ => h) fun _ _ _ _ hc => (hb.cell (World.block_lt_of_cell? _ _ hc)).trans hc
theorem IsSPs.below {P : Nat → Prop} {w w' : World} {o : Option Addr} {i : Nat} {xs : List SX} (h : IsSPs P w o i xs) (hb : Below w.heap.size w w') : IsSPs P w' o i xs :=
  h.keep (fun _ _ _ h _ => h) fun _ _ _ _ hc => (hb.cell (World.block_lt_of_cell? _ _ hc)).trans hc
/-- One element. -/
theorem IsSPs.at_ {P : Nat → Prop} {w : World} {o : Option Addr} : ∀ {xs : List SX} {i : Nat} (k : Nat) {y : SX}, IsSPs P w o i xs → xs[k]? = some y → IsSPs P w o (i + k) [y]
  | [], _, _, _, _, h => by simp at h
  | x :: r, i, 0, y, h, hy => by
    simp at hy; subst hy
    unfold IsSPs at h ⊢
    exact ⟨h.1, by unfold IsSPs; trivial⟩
  | x :: r, i, k + 1, y, h, hy => by
    unfold IsSPs at h
    have := IsSPs.at_ (i := i + 1) k h.2 (by simpa using hy)
    rwa [show i + 1 + k = i + (k + 1) by omega] at this
theorem IsSP.parts {P : Nat → Prop} {w : World} {x : SX} {v : Value} (h : IsSP P w x v) : ∃ (e0 e1 e2 e3 e4 e5 e6 e7 e8 e9 e10 : Value) (o : Option Addr) (c : Nat) (o' : Option Addr) (c' : Nat),
    v = .agg #[.int .i64 x.kind, .int .i64 x.pos, .string x.name, .bool x.has, e0, e1, e2, e3, e4, e5, e6, e7, e8, e9, e10, .slice o x.body.length c, .slice o' x.other.length c'] ∧ IsEP P w x.expr (.agg #[e0, e1, e2, e3, e4, e5, e6, e7, e8, e9, e10]) ∧ IsSPs P w o 0 x.body ∧ IsSPs P w o' 0 x.other := by
  cases x with
  | mk k p nm h x u v =>
    unfold IsSP at h
    exact h
theorem body_lt (x : SX) : SizeOf.sizeOf x.body < SizeOf.sizeOf x := by
  cases x with
  | mk k p nm h x u v => simp only [SX.mk.sizeOf_spec, SX.body]; omega
theorem other_lt (x : SX) : SizeOf.sizeOf x.other < SizeOf.sizeOf x := by
  cases x with
  | mk k p nm h x u v => simp only [SX.mk.sizeOf_spec, SX.other]; omega
theorem elem_lt {l : List SX} {k : Nat} {x : SX} (h : l[k]? = some x) : SizeOf.sizeOf x < SizeOf.sizeOf l := List.sizeOf_lt_of_mem (List.mem_of_getElem? h)
end Go.Proofs.YtlgaphopjdeklaaGreat
namespace Go.Proofs.YtlgaphopjdeklaaGreat
def shZ (b : Int) (t : TZ) : TZ := ⟨t.kind, t.pos + b, t.stop + b, t.text⟩
def shT (b : Int) : TX → TX
  | .leaf k p g n => .leaf k (p + b) g n
  | .list p x => .list (p + b) (shT b x)
mutual
def shX (b : Int) : EX → EX
  | .mk k p s n m t a => .mk k (p + b) (s + b) n m (if k = 8 then shT b t else t) (shXL b a)
def shXL (b : Int) : List EX → List EX
  | [] => []
  | x :: r => shX b x :: shXL b r
end
/-- The tokens of l from a on, up to e, stand in m, s places and b bytes behind. -/
structure Shf (l m : List TZ) (s b a e : Int) : Prop where
  tok : ∀ j : Int, a ≤ j → j < e → tkAt m (j + s) = shZ b (tkAt l j)
section
variable {l m : List TZ} {s b a e : Int}
theorem Shf.kind (S : Shf l m s b a e) {j : Int} (h0 : a ≤ j) (h1 : j < e) : (tkAt m (j + s)).kind = (tkAt l j).kind := by rw [S.tok j h0 h1]; rfl
theorem Shf.text (S : Shf l m s b a e) {j : Int} (h0 : a ≤ j) (h1 : j < e) : (tkAt m (j + s)).text = (tkAt l j).text := by rw [S.tok j h0 h1]; rfl
theorem Shf.pos (S : Shf l m s b a e) {j : Int} (h0 : a ≤ j) (h1 : j < e) : (tkAt m (j + s)).pos = (tkAt l j).pos + b := by rw [S.tok j h0 h1]; rfl
theorem Shf.stop (S : Shf l m s b a e) {j : Int} (h0 : a ≤ j) (h1 : j < e) : (tkAt m (j + s)).stop = (tkAt l j).stop + b := by rw [S.tok j h0 h1]; rfl
theorem Shf.sym (S : Shf l m s b a e) {j : Int} (h0 : a ≤ j) (h1 : j < e) (c : UInt8) : isS (tkAt m (j + s)) c = isS (tkAt l j) c := by rw [S.tok j h0 h1]; rfl
theorem Shf.word (S : Shf l m s b a e) {j : Int} (h0 : a ≤ j) (h1 : j < e) (c : List UInt8) : isW (tkAt m (j + s)) c = isW (tkAt l j) c := by rw [S.tok j h0 h1]; rfl
theorem Shf.lvl (S : Shf l m s b a e) {j : Int} (h0 : a ≤ j) (h1 : j < e) : lvlOf (tkAt m (j + s)) = lvlOf (tkAt l j) := by rw [S.tok j h0 h1]; rfl
theorem Shf.kt (S : Shf l m s b a e) {j : Int} (h0 : a ≤ j) (h1 : j < e) (k : Int) (c : ByteArray) : isKT (tkAt m (j + s)) k c = isKT (tkAt l j) k c := by rw [S.tok j h0 h1]; rfl
theorem Shf.elm (S : Shf l m s b a e) {i : Int} {t : TX} {j : Int} (h0 : a ≤ i) (hj : j < e) (h : elm l i = .ok t j) : elm m (i + s) = .ok (shT b t) (j + s) := by
  have hr := elm_rng h
  unfold Go.Proofs.YtlgaphopjdeklaaGreat.elm at h ⊢
  have k0 := S.kind h0 (show i < e by omega)
  have x0 := S.text h0 (show i < e by omega)
  have p0 := S.pos h0 (show i < e by omega)
  rw [k0, x0, p0]
  split at h
  · next h1 =>
    rw [if_pos h1]
    split at h
    · next h2 =>
      split at h
      · next h3 =>
        injection h with h h'
        have s1 := S.kt (j := i + 1) (by omega) (by omega) 4 ⟨#[46]⟩
        have k2 := S.kind (j := i + 2) (by omega) (by omega)
        have x2 := S.text (j := i + 2) (by omega) (by omega)
        rw [show i + s + 1 = i + 1 + s by omega, show i + s + 2 = i + 2 + s by omega, s1, h2, if_pos rfl, k2, if_pos h3, x2, ← h]
        unfold shT
        rw [show j + s = i + s + 3 by omega]
      · cases h
    · next h2 =>
      injection h with h h'
      have s1 := S.kt (j := i + 1) (by omega) (by omega) 4 ⟨#[46]⟩
      rw [show i + s + 1 = i + 1 + s by omega, s1, if_neg h2, ← h]
      unfold shT
      rw [show j + s = i + 1 + s by omega]
  · next h1 =>
    rw [if_neg h1]
    split at h
    · next h5 =>
      rw [if_pos h5]
      injection h with h h'
      rw [← h]
      unfold shT
      rw [show j + s = i + s + 1 by omega]
    · cases h
theorem Shf.prs (S : Shf l m s b a e) : ∀ (k : Nat) {i : Int} {t : TX} {j : Int}, a ≤ i → j < e → prs l k i = .ok t j → prs m k (i + s) = .ok (shT b t) (j + s)
  | 0, i, t, j, h0, hj, h => by
    have hr := prs_rng h
    unfold Go.Proofs.YtlgaphopjdeklaaGreat.prs at h ⊢
    rw [S.kt h0 (by omega)]
    split at h
    · cases h
    · next h1 => rw [if_neg h1]; exact S.elm h0 hj h
  | k + 1, i, t, j, h0, hj, h => by
    have hr := prs_rng h
    unfold Go.Proofs.YtlgaphopjdeklaaGreat.prs at h ⊢
    rw [S.kt h0 (by omega)]
    split at h
    · next h1 =>
      rw [if_pos h1]
      split at h
      · next h2 =>
        cases hp : Go.Proofs.YtlgaphopjdeklaaGreat.prs l k (i + 2) with
        | ok y n =>
          rw [hp] at h
          have hq := prs_rng hp
          injection h with h h'
          rw [show i + s + 1 = i + 1 + s by omega, S.kt (by omega) (by omega), if_pos h2, show i + s + 2 = i + 2 + s by omega, S.prs k (by omega) (by omega) hp, S.pos h0 (by omega), ← h, ← h']
          rfl
        | err q d => rw [hp] at h; cases h
      · cases h
    · next h1 => rw [if_neg h1]; exact S.elm h0 hj h
theorem shX_bin (b p q : Int) (op : ByteArray) (x y : EX) : shX b (mkBin p q op x y) = mkBin (p + b) (q + b) op (shX b x) (shX b y) := by
  unfold mkBin; simp [shX, shXL]
theorem shX_not (b p q : Int) (x : EX) : shX b (mkNot p q x) = mkNot (p + b) (q + b) (shX b x) := by
  unfold mkNot; simp [shX, shXL]
theorem shX_sel (b p q : Int) (n : ByteArray) (x : EX) : shX b (mkSel p x n q) = mkSel (p + b) (shX b x) n (q + b) := by
  unfold mkSel; simp [shX, shXL]
theorem shX_call (b p q : Int) (x : EX) (ys : List EX) : shX b (mkCall p x ys q) = mkCall (p + b) (shX b x) (shXL b ys) (q + b) := by
  unfold mkCall; simp [shX, shXL]
theorem shX_idx (b p q : Int) (x y : EX) : shX b (mkIdx p x y q) = mkIdx (p + b) (shX b x) (shX b y) (q + b) := by
  unfold mkIdx; simp [shX, shXL]
theorem shX_leaf (b k p q n : Int) (nm : ByteArray) (hk : k ≠ 8) : shX b (.mk k p q n nm noTX []) = .mk k (p + b) (q + b) n nm noTX [] := by
  unfold shX shXL; rw [if_neg hk]
theorem read_shf (S : Shf l m s b a e) : ∀ f : Nat,
    (∀ k d i x j, k ≠ 0 → a ≤ i → j < e → ex l f k d i = .ok x j → ex m f k d (i + s) = .ok (shX b x) (j + s)) ∧
    (∀ k d c x i z j, k ≠ 0 → a ≤ i → a ≤ c → c < e → j < e → binT l f k d c x i = .ok z j → binT m f k d (c + s) (shX b x) (i + s) = .ok (shX b z) (j + s)) ∧
    (∀ d i x j, a ≤ i → j < e → una l f d i = .ok x j → una m f d (i + s) = .ok (shX b x) (j + s)) ∧
    (∀ d i x j, a ≤ i → j < e → prim l f d i = .ok x j → prim m f d (i + s) = .ok (shX b x) (j + s)) ∧
    (∀ d c x i z j, a ≤ i → a ≤ c → c < e → j < e → post l f d c x i = .ok z j → post m f d (c + s) (shX b x) (i + s) = .ok (shX b z) (j + s)) ∧
    (∀ z d i ys j, a ≤ i → j < e → lst l f z d i = .ok ys j → lst m f z d (i + s) = .ok (shXL b ys) (j + s)) ∧
    (∀ z d i ys j, a ≤ i → j < e → items l f z d i = .ok ys j → items m f z d (i + s) = .ok (shXL b ys) (j + s)) := by
  intro f
  induction f with
  | zero =>
    refine ⟨?_, ?_, ?_, ?_, ?_, ?_, ?_⟩ <;> intros <;> simp [ex, binT, una, prim, post, lst, items] at *
  | succ f ih =>
    obtain ⟨iE, iB, iU, iP, iT, iL, iI⟩ := ih
    obtain ⟨rE, rB, rU, rP, rT, rL, rI⟩ := read_rng (l := l) f
    refine ⟨?_, ?_, ?_, ?_, ?_, ?_, ?_⟩
    · intro k d i x j hk h0 hj h
      unfold ex at h ⊢
      split at h
      · next h5 => rw [if_pos h5]; exact iU _ _ _ _ h0 hj h
      · next h5 =>
        rw [if_neg h5]
        split at h
        · next y q hq =>
          have h1 := rE _ _ _ _ _ (by omega) hq
          have h2 := rB _ _ _ _ _ _ _ hk h
          simp only [iE _ _ _ _ _ (by omega) h0 (by omega) hq]
          exact iB _ _ _ _ _ _ _ hk (by omega) h0 (by omega) hj h
        · cases h
        · cases h
    · intro k d c x i z j hk h0 hc0 hc1 hj h
      have hr := (read_rng (l := l) (f + 1)).2.1 _ _ _ _ _ _ _ hk h
      unfold binT at h ⊢
      rw [S.lvl h0 (by omega)]
      split at h
      · next hl =>
        rw [if_pos hl]
        split at h
        · next y q hq =>
          have h1 := rE _ _ _ _ _ (by omega) hq
          have h2 := rB _ _ _ _ _ _ _ hk h
          rw [show i + s + 1 = i + 1 + s by omega]
          simp only [iE _ _ _ _ _ (by omega) (by omega) (by omega) hq]
          rw [show q + s - 1 = q - 1 + s by omega, S.pos hc0 hc1, S.stop (by omega) (by omega), S.text h0 (by omega), ← shX_bin]
          exact iB _ _ _ _ _ _ _ hk (by omega) hc0 hc1 hj h
        · cases h
        · cases h
      · next hl =>
        rw [if_neg hl]
        injection h with h h'
        rw [h, h']
    · intro d i x j h0 hj h
      have hr := (read_rng (l := l) (f + 1)).2.2.1 _ _ _ _ h
      unfold una at h ⊢
      rw [S.sym h0 (by omega)]
      split at h
      · next hn =>
        rw [if_pos hn]
        split at h
        · cases h
        · next hd =>
          rw [if_neg hd]
          split at h
          · next y q hq =>
            have h1 := rU _ _ _ _ hq
            injection h with h h'
            rw [show i + s + 1 = i + 1 + s by omega]
            simp only [iU _ _ _ _ (by omega) (by omega) hq]
            rw [show q + s - 1 = q - 1 + s by omega, S.pos h0 (by omega), S.stop (by omega) (by omega), ← shX_not, h, h']
          · cases h
          · cases h
      · next hn =>
        rw [if_neg hn]
        split at h
        · next y q hq =>
          have h1 := rP _ _ _ _ hq
          have h2 := rT _ _ _ _ _ _ h
          simp only [iP _ _ _ _ h0 (by omega) hq]
          exact iT _ _ _ _ _ _ (by omega) h0 (by omega) hj h
        · cases h
        · cases h
    · intro d i x j h0 hj h
      have hr := (read_rng (l := l) (f + 1)).2.2.2.1 _ _ _ _ h
      have hi : i < e := by omega
      unfold prim at h ⊢
      rw [S.kind h0 hi, S.text h0 hi, S.pos h0 hi, S.stop h0 hi, S.word h0 hi, S.word h0 hi, S.word h0 hi, S.sym h0 hi]
      split at h
      · next hk =>
        rw [if_pos hk]
        split at h
        · next n hn => injection h with h h'; rw [← h, ← h', shX_leaf _ _ _ _ _ _ (by decide), show i + s + 1 = i + 1 + s by omega]
        · cases h
      next hk2 =>
      rw [if_neg hk2]
      split at h
      · next hk =>
        rw [if_pos hk]
        split at h
        · next hq => injection h with h h'; rw [if_pos hq, ← h, ← h', shX_leaf _ _ _ _ _ _ (by decide), show i + s + 1 = i + 1 + s by omega]
        · cases h
      next hk3 =>
      rw [if_neg hk3]
      split at h
      · next hk => injection h with h h'; rw [if_pos hk, ← h, ← h', shX_leaf _ _ _ _ _ _ (by decide), show i + s + 1 = i + 1 + s by omega]
      next hk4 =>
      rw [if_neg hk4]
      split at h
      · next hk => injection h with h h'; rw [if_pos hk, ← h, ← h', shX_leaf _ _ _ _ _ _ (by decide), show i + s + 1 = i + 1 + s by omega]
      next hk5 =>
      rw [if_neg hk5]
      split at h
      · next hk => injection h with h h'; rw [if_pos hk, ← h, ← h', shX_leaf _ _ _ _ _ _ (by decide), show i + s + 1 = i + 1 + s by omega]
      next hk6 =>
      rw [if_neg hk6]
      split at h
      · next hk =>
        rw [if_pos hk]
        split at h
        · cases h
        · next hd =>
          rw [if_neg hd]
          split at h
          · next y q hq =>
            have h1 := rE _ _ _ _ _ (by omega) hq
            split at h
            · next hc =>
              injection h with h h'
              rw [show i + s + 1 = i + 1 + s by omega]
              simp only [iE _ _ _ _ _ (by omega) (by omega) (by omega) hq]
              rw [S.sym (by omega) (by omega), if_pos hc, h, ← h', show q + s + 1 = q + 1 + s by omega]
            · cases h
          · cases h
          · cases h
      next hk7 =>
      rw [if_neg hk7]
      split at h
      · next hk =>
        rw [if_pos hk]
        split at h
        · next t q hq =>
          have hp := prs_rng hq
          split at h
          · next hc =>
            split at h
            · next ys r hys =>
              have h2 := rL _ _ _ _ _ hys
              injection h with h h'
              rw [show i + s + 1 = i + 1 + s by omega]
              simp only [S.prs 30 (show a ≤ i + 1 by omega) (show q < e by omega) hq]
              rw [S.sym (by omega) (by omega), if_pos hc]
              simp only [iL _ _ _ _ _ (show a ≤ q by omega) (show r < e by omega) hys]
              rw [show r + s - 1 = r - 1 + s by omega, S.stop (by omega) (by omega), ← h, ← h']
              simp [shX]
            · cases h
            · cases h
          · cases h
        · cases h
      · cases h
    · intro d c x i z j h0 hc0 hc1 hj h
      have hr := (read_rng (l := l) (f + 1)).2.2.2.2.1 _ _ _ _ _ _ h
      have hi : i < e := by omega
      unfold post at h ⊢
      rw [S.sym h0 hi, S.sym h0 hi, S.sym h0 hi, S.pos hc0 hc1]
      split at h
      · next hn =>
        rw [if_pos hn]
        split at h
        · next hk =>
          have h2 := rT _ _ _ _ _ _ h
          rw [show i + s + 1 = i + 1 + s by omega, S.kind (by omega) (by omega), if_pos hk, S.text (by omega) (by omega), S.stop (by omega) (by omega), ← shX_sel, show i + s + 2 = i + 2 + s by omega]
          exact iT _ _ _ _ _ _ (by omega) hc0 hc1 hj h
        · cases h
      next hn1 =>
      rw [if_neg hn1]
      split at h
      · next hn =>
        rw [if_pos hn]
        split at h
        · next ys q hys =>
          have h1 := rL _ _ _ _ _ hys
          have h2 := rT _ _ _ _ _ _ h
          simp only [iL _ _ _ _ _ h0 (show q < e by omega) hys]
          rw [show q + s - 1 = q - 1 + s by omega, S.stop (by omega) (by omega), ← shX_call]
          exact iT _ _ _ _ _ _ (by omega) hc0 hc1 hj h
        · cases h
        · cases h
      next hn2 =>
      rw [if_neg hn2]
      split at h
      · next hn =>
        rw [if_pos hn]
        split at h
        · cases h
        · next hd =>
          rw [if_neg hd]
          split at h
          · next y q hq =>
            have h1 := rE _ _ _ _ _ (by omega) hq
            split at h
            · next hc =>
              have h2 := rT _ _ _ _ _ _ h
              rw [show i + s + 1 = i + 1 + s by omega]
              simp only [iE _ _ _ _ _ (by omega) (show a ≤ i + 1 by omega) (show q < e by omega) hq]
              rw [S.sym (by omega) (by omega), if_pos hc, S.stop (by omega) (by omega), ← shX_idx, show q + s + 1 = q + 1 + s by omega]
              exact iT _ _ _ _ _ _ (by omega) hc0 hc1 hj h
            · cases h
          · cases h
          · cases h
      next hn3 =>
      rw [if_neg hn3]
      injection h with h h'
      rw [h, h']
    · intro z d i ys j h0 hj h
      have hr := (read_rng (l := l) (f + 1)).2.2.2.2.2.1 _ _ _ _ _ h
      unfold lst at h ⊢
      split at h
      · cases h
      next hd =>
      rw [if_neg hd]
      split at h
      · next hn =>
        injection h with h h'
        rw [show i + s + 1 = i + 1 + s by omega, S.sym (by omega) (by omega), if_pos hn, ← h, ← h', show i + s + 2 = i + 2 + s by omega]
        unfold shXL
        rfl
      · next hn =>
        have h1 := rI _ _ _ _ _ h
        rw [show i + s + 1 = i + 1 + s by omega, S.sym (by omega) (by omega), if_neg hn]
        exact iI _ _ _ _ _ (by omega) hj h
    · intro z d i ys j h0 hj h
      unfold items at h ⊢
      split at h
      · next y q hq =>
        have h1 := rE _ _ _ _ _ (by omega) hq
        split at h
        · next hc =>
          split at h
          · next zs r hzs =>
            have h2 := rI _ _ _ _ _ hzs
            injection h with h h'
            simp only [iE _ _ _ _ _ (by omega) h0 (show q < e by omega) hq]
            rw [S.sym (by omega) (by omega), if_pos hc, show q + s + 1 = q + 1 + s by omega]
            simp only [iI _ _ _ _ _ (show a ≤ q + 1 by omega) (show r < e by omega) hzs]
            rw [← h, ← h']
            simp [shXL]
          · cases h
          · cases h
        · next hc =>
          split at h
          · next hz =>
            injection h with h h'
            simp only [iE _ _ _ _ _ (by omega) h0 (show q < e by omega) hq]
            rw [S.sym (by omega) (by omega), S.sym (by omega) (by omega), if_neg hc, if_pos hz, ← h, ← h', show q + s + 1 = q + 1 + s by omega]
            simp [shXL]
          · cases h
      · cases h
      · cases h
end
end Go.Proofs.YtlgaphopjdeklaaGreat
namespace Go.Proofs.YtlgaphopjdeklaaGreat
mutual
def shS (b : Int) : SX → SX
  | .mk k p n h x u v => .mk k (p + b) n h (if k = 3 ∧ h = false then x else shX b x) (shSL b u) (shSL b v)
def shSL (b : Int) : List SX → List SX
  | [] => []
  | x :: r => shS b x :: shSL b r
end
section
variable {l m : List TZ} {s b a e : Int}
theorem Shf.exThen (S : Shf l m s b a e) {F : Nat} {z : UInt8} {i : Int} {g g' : EX → SX} {t : SX} {j : Int} (hg : ∀ x, g' (shX b x) = shS b (g x)) (h0 : a ≤ i) (hj : j ≤ e) (h : exThen l F z i g = .ok t j) : exThen m F z (i + s) g' = .ok (shS b t) (j + s) := by
  have hr := exThen_rng h
  unfold Go.Proofs.YtlgaphopjdeklaaGreat.exThen at h ⊢
  split at h
  · next x q hq =>
    have h1 := (read_rng F).1 _ _ _ _ _ (by decide) hq
    split at h
    · next hc =>
      injection h with h h'
      simp only [(read_shf S F).1 1 0 i x q (by decide) h0 (by omega) hq]
      rw [S.sym (by omega) (by omega), if_pos hc, hg, h, ← h', show q + s + 1 = q + 1 + s by omega]
    · cases h
  · cases h
  · cases h
end
end Go.Proofs.YtlgaphopjdeklaaGreat
namespace Go.Proofs.YtlgaphopjdeklaaGreat
theorem run_all {p : UInt8 → Bool} : ∀ {l : List UInt8}, run p l = l.length → ∀ c ∈ l, p c = true
  | [], _, c, hc => by cases hc
  | c :: r, h, x, hx => by
    by_cases hc : p c = true
    · rw [run_hit r hc, List.length_cons] at h
      rcases List.mem_cons.1 hx with rfl | hx
      · exact hc
      · exact run_all (by omega) x hx
    · rw [run_miss r (by simpa using hc)] at h; simp at h
theorem quo_no10 {c : UInt8} {q : List UInt8} (h : quo (c :: q) = true) : (10 : UInt8) ∉ q := by
  intro hm
  unfold quo at h
  simp only [Bool.and_eq_true, decide_eq_true_eq] at h
  obtain ⟨⟨h1, _⟩, h3⟩ := h
  have hne : q ≠ [] := fun e => by rw [e] at hm; cases hm
  have hl : q.dropLast ++ [34] = q := by
    have := List.dropLast_concat_getLast hne
    rw [List.getLast?_eq_some_getLast hne] at h1
    injection h1 with h1
    rw [h1] at this; exact this
  rw [← hl] at hm
  rcases List.mem_append.1 hm with h5 | h5
  · have := run_all h3 10 h5
    revert this; decide
  · simp at h5
theorem shut_cut {d m : List UInt8} {n : Nat} (hd : d ≠ []) (h : flt (kln (d ++ 10 :: m)).1 ((d ++ 10 :: m).take (kln (d ++ 10 :: m)).2) n = 0) : shut d := by
  cases d with
  | nil => exact (hd rfl).elim
  | cons c r =>
    intro hc
    subst hc
    refine Classical.byContradiction fun hn => ?_
    have hr : run ne34 r = r.length := by have := run_le ne34 r; omega
    have hrun : run ne34 (r ++ 10 :: m) = r.length + (run ne34 m + 1) := by rw [run_append _ _ _ hr, run_hit m (by decide)]
    have hk := kln_cons 34 (r ++ 10 :: m)
    rw [if_neg (by decide), if_neg (by decide), if_pos rfl, hrun] at hk
    rw [List.cons_append, hk] at h
    have key : ∀ k, r.length + 1 ≤ k → (10 : UInt8) ∈ (r ++ 10 :: m).take k := fun k hk => by
      rw [List.take_append]
      refine List.mem_append.2 (.inr ?_)
      obtain ⟨j, hj⟩ : ∃ j, k - r.length = j + 1 := ⟨k - r.length - 1, by omega⟩
      rw [hj, List.take_succ_cons]
      exact List.mem_cons_self
    have fin : ∀ k, r.length + 1 ≤ k → flt 3 ((34 :: (r ++ 10 :: m)).take (k + 1)) n ≠ 0 := fun k hk h0 => by
      rw [List.take_succ_cons] at h0
      have hq : quo (34 :: (r ++ 10 :: m).take k) = false := by
        refine Classical.byContradiction fun hc => ?_
        exact quo_no10 (by simpa using hc) (key k hk)
      unfold flt at h0
      rw [if_neg (by decide)] at h0
      split at h0
      · exact absurd h0 (by decide)
      · rw [if_neg (by decide), if_neg (by simp), if_pos ⟨rfl, hq⟩] at h0
        exact absurd h0 (by decide)
    by_cases hlt : r.length + (run ne34 m + 1) < (r ++ 10 :: m).length
    · simp only [if_pos hlt] at h
      exact fin (r.length + (run ne34 m + 1) + 1) (by omega) h
    · simp only [if_neg hlt] at h
      exact fin ((r ++ 10 :: m).length) (by simp) h
/-- What is right with a line and more behind it is right without the more. -/
theorem cut_pcs (a : Nat) (l m : List UInt8) : ∀ n, bad (pcsAt a (l ++ 10 :: m)) n = none → bad (pcsAt a l) n = none := by
  refine pcsAt_ind (P := fun a l => ∀ n, bad (pcsAt a (l ++ 10 :: m)) n = none → bad (pcsAt a l) n = none) (fun a l h n _ => ?_) (fun a l h ih n hb => ?_) a l
  · rw [pcsAt_end a l h]; rfl
  · have hlt : skp false l < l.length := by
      have := skp_le false l
      rcases Nat.lt_or_ge (skp false l) l.length with h2 | h2
      · exact h2
      · exact absurd (List.drop_eq_nil_of_le h2) h
    have hs := skp_app_lt false l m 10 (by decide) hlt
    have hd : (l ++ 10 :: m).drop (skp false l) = l.drop (skp false l) ++ 10 :: m := List.drop_append_of_le_length (Nat.le_of_lt hlt)
    rw [pcsAt_cons a (l ++ 10 :: m) (by rw [hs, hd]; simp), hs, hd] at hb
    obtain ⟨hf, hb⟩ := bad_cons hb
    have hsh := shut_cut h hf
    have hk := kln_app (l.drop (skp false l)) m 10 ⟨by decide, by decide, by decide, by decide⟩ h hsh
    have hp := kln_pos' h
    rw [hk] at hf hb
    rw [List.take_append_of_le_length hp.2] at hf
    rw [List.drop_append_of_le_length hp.2] at hb
    rw [pcsAt_cons a l h, bad, if_pos hf]
    exact ih _ hb
theorem cut_toks {l m : List UInt8} (h : bad (toks (l ++ 10 :: m)) 0 = none) : bad (toks l) 0 = none := by
  rw [bad_toks] at h ⊢
  exact cut_pcs 0 l m 0 h
section
variable {s t : List UInt8}
end
end Go.Proofs.YtlgaphopjdeklaaGreat
namespace Go.Proofs.YtlgaphopjdeklaaGreat
/-- Steps enough for a block. -/
def fuelB (l : List TZ) : Nat := 4 * l.length + 8
end Go.Proofs.YtlgaphopjdeklaaGreat
namespace Go.Proofs.YtlgaphopjdeklaaGreat
open Go.RowKit
open Go.Lib hiding intOf
/-- What 'Parse' answers. -/
def SParRes (B : Nat) (W : World) (r : EO (List SX)) (v : Value) : Prop :=
  match r with
  | .ok X j => ∃ (o : Option Addr) (c : Nat), v = .tuple #[.slice o X.length c, .int .i64 j, .agg #[.int .i64 0, .int .i64 0]] ∧ IsSPs (fun q => B ≤ q) W o 0 X
  | .err p q => ∃ (o : Option Addr) (c : Nat), v = .tuple #[.slice o 0 c, .int .i64 0, .agg #[.int .i64 p, .int .i64 q]]
  | .out => True
theorem SParRes.parts {B : Nat} {W : World} {r : EO (List SX)} {v : Value} (h : SParRes B W r v) (hr : r ≠ .out) :
    ∃ (o : Option Addr) (c n : Nat) (j p q : Int), v = .tuple #[.slice o n c, .int .i64 j, .agg #[.int .i64 p, .int .i64 q]] ∧
      ((∃ X, r = .ok X j ∧ n = X.length ∧ p = 0 ∧ q = 0 ∧ IsSPs (fun q => B ≤ q) W o 0 X) ∨ (r = .err p q ∧ n = 0 ∧ j = 0)) := by
  cases r with
  | out => exact (hr rfl).elim
  | ok X j => obtain ⟨o, c, rfl, hx⟩ := h; exact ⟨o, c, _, _, _, _, rfl, .inl ⟨X, rfl, rfl, rfl, rfl, hx⟩⟩
  | err p q => obtain ⟨o, c, rfl⟩ := h; exact ⟨o, c, _, _, _, _, rfl, .inr ⟨rfl, rfl, rfl⟩⟩
end Go.Proofs.YtlgaphopjdeklaaGreat
namespace Go.Proofs.YtlgaphopjdeklaaGreat
/-- A name with a type; a method that is asked for; a declaration; a file. -/
structure PX where
  name : ByteArray
  pos : Int
  typ : TX
structure MX where
  name : ByteArray
  pos : Int
  params : List TX
  has : Bool
  result : TX
structure DX where
  kind : Int
  pos : Int
  stop : Int
  name : ByteArray
  method : Bool
  recv : PX
  bounds : List PX
  fields : List PX
  methods : List MX
  has : Bool
  result : TX
  body : List SX
structure FX where
  name : ByteArray
  pos : Int
  imports : List (ByteArray × Int)
  decls : List DX
def noPX : PX := ⟨⟨#[]⟩, 0, noTX⟩
def wPackage : List UInt8 := [112, 97, 99, 107, 97, 103, 101]
def wImport : List UInt8 := [105, 109, 112, 111, 114, 116]
def wType : List UInt8 := [116, 121, 112, 101]
def wStruct : List UInt8 := [115, 116, 114, 117, 99, 116]
def wInterface : List UInt8 := [105, 110, 116, 101, 114, 102, 97, 99, 101]
def wFunc : List UInt8 := [102, 117, 110, 99]
/-- One reading behind another. -/
def thn {α β : Type} (r : EO α) (f : α → Int → EO β) : EO β :=
  match r with
  | .ok x j => f x j
  | .err p q => .err p q
  | .out => .out
/-- A symbol, a word, a name, a type that must stand here. -/
def sy (l : List TZ) (z : UInt8) (i : Int) : EO Unit := if isS (tkAt l i) z then .ok () (i + 1) else .err (tkAt l i).pos 5
def wo (l : List TZ) (s : List UInt8) (i : Int) : EO Unit := if isW (tkAt l i) s then .ok () (i + 1) else .err (tkAt l i).pos 5
def na (l : List TZ) (i : Int) : EO (ByteArray × Int) := if (tkAt l i).kind = 1 then .ok ((tkAt l i).text, (tkAt l i).pos) (i + 1) else .err (tkAt l i).pos 5
def ty (l : List TZ) (i : Int) : EO TX := match prs l 30 i with
  | .ok t j => .ok t j
  | .err p c => .err p c
def prm (l : List TZ) (i : Int) : EO PX := thn (na l i) fun n j => thn (ty l j) fun t q => .ok ⟨n.1, n.2, t⟩ q
/-- One or more, with commas between, and a symbol behind. -/
def seps {α : Type} (l : List TZ) (one : Int → EO α) (z : UInt8) : Nat → Int → EO (List α)
  | 0, _ => .out
  | f + 1, i => thn (one i) fun x j => if isS (tkAt l j) 44 then thn (seps l one z f (j + 1)) fun xs q => .ok (x :: xs) q else thn (sy l z j) fun _ q => .ok [x] q
/-- None or more, with commas between, and a symbol behind. -/
def sepn {α : Type} (l : List TZ) (one : Int → EO α) (z : UInt8) (f : Nat) (i : Int) : EO (List α) := if isS (tkAt l i) z then .ok [] (i + 1) else seps l one z f i
/-- Any number, up to a bracket, which is passed. -/
def upto {α : Type} (l : List TZ) (one : Int → EO α) : Nat → Int → EO (List α)
  | 0, _ => .out
  | f + 1, i => if isS (tkAt l i) 125 then .ok [] (i + 1) else thn (one i) fun x j => thn (upto l one f j) fun xs q => .ok (x :: xs) q
def fld (l : List TZ) (i : Int) : EO PX := thn (prm l i) fun x j => thn (sy l 59 j) fun _ q => .ok x q
def mth (l : List TZ) (f : Nat) (i : Int) : EO MX := thn (na l i) fun n j => thn (sy l 40 j) fun _ j => thn (sepn l (ty l) 41 f j) fun ts j =>
  if isS (tkAt l j) 59 then .ok ⟨n.1, n.2, ts, false, noTX⟩ (j + 1) else thn (ty l j) fun t j => thn (sy l 59 j) fun _ q => .ok ⟨n.1, n.2, ts, true, t⟩ q
/-- A declaration behind 'type'. -/
def dty (l : List TZ) (f : Nat) (i : Int) : EO DX := thn (na l i) fun n j =>
  if isW (tkAt l j) wInterface then thn (sy l 123 (j + 1)) fun _ j => thn (upto l (mth l f) f j) fun ms q => .ok ⟨2, n.2, (tkAt l (q - 1)).stop, n.1, false, noPX, [], [], ms, false, noTX, []⟩ q
  else thn (wo l wStruct j) fun _ j => thn (sy l 123 j) fun _ j => thn (upto l (fld l) f j) fun fs q => .ok ⟨1, n.2, (tkAt l (q - 1)).stop, n.1, false, noPX, [], fs, [], false, noTX, []⟩ q
/-- A receiver, if there is one; bounds, if there are any; a result, if there is one. -/
def rcv (l : List TZ) (i : Int) : EO (Bool × PX) := if isS (tkAt l i) 40 then thn (prm l (i + 1)) fun x j => thn (sy l 41 j) fun _ q => .ok (true, x) q else .ok (false, noPX) i
def bnds (l : List TZ) (f : Nat) (i : Int) : EO (List PX) := if isS (tkAt l i) 91 then seps l (prm l) 93 f (i + 1) else .ok [] i
def res (l : List TZ) (i : Int) : EO (Bool × TX) := if isS (tkAt l i) 123 then .ok (false, noTX) i else thn (ty l i) fun t q => .ok (true, t) q
/-- A declaration behind 'func'. -/
def dfn (l : List TZ) (F fb f : Nat) (i : Int) : EO DX := thn (rcv l i) fun r j => thn (na l j) fun n j => thn (bnds l f j) fun bs j => thn (sy l 40 j) fun _ j => thn (sepn l (prm l) 41 f j) fun ps j =>
  thn (res l j) fun t j => thn (blk l F fb 0 j) fun b q => .ok ⟨3, n.2, (tkAt l (q - 1)).stop, n.1, r.1, r.2, bs, ps, [], t.1, t.2, b⟩ q
def dcl (l : List TZ) (F fb f : Nat) (i : Int) : EO DX := if isW (tkAt l i) wType then dty l f (i + 1) else thn (wo l wFunc i) fun _ j => dfn l F fb f j
def dcls (l : List TZ) (F fb f : Nat) : Nat → Int → EO (List DX)
  | 0, _ => .out
  | g + 1, i => if (tkAt l i).kind = 0 then .ok [] (i + 1) else thn (dcl l F fb f i) fun x j => thn (dcls l F fb f g j) fun xs q => .ok (x :: xs) q
def imps (l : List TZ) : Nat → Int → EO (List (ByteArray × Int))
  | 0, _ => .out
  | g + 1, i => if isW (tkAt l i) wImport then thn (na l (i + 1)) fun n j => thn (sy l 59 j) fun _ j => thn (imps l g j) fun xs q => .ok (n :: xs) q else .ok [] i
/-- A package's tokens. F, fb: the steps of expressions, of blocks; f: those of lists. -/
def fil (l : List TZ) (F fb f : Nat) : EO FX := thn (wo l wPackage 0) fun _ j => thn (na l j) fun n j => thn (sy l 59 j) fun _ j => thn (imps l f j) fun is j => thn (dcls l F fb f f j) fun ds q => .ok ⟨n.1, n.2, is, ds⟩ q
end Go.Proofs.YtlgaphopjdeklaaGreat
namespace Go.Proofs.YtlgaphopjdeklaaGreat
/-- A token with which nothing goes on. -/
def dead (t : TZ) : Prop := t.kind = 0 ∨ (t.kind = 5 ∧ (t.text.data.toList = wType ∨ t.text.data.toList = wFunc))
/-- The same tokens up to one with which nothing goes on; their places are the same under g. -/
structure Alk (g : Int → Int) (l m : List TZ) (e : Int) : Prop where
  kind : ∀ j : Int, j < e → (tkAt m j).kind = (tkAt l j).kind
  text : ∀ j : Int, j < e → (tkAt m j).text = (tkAt l j).text
  pos : ∀ j : Int, 0 ≤ j → j < e → g (tkAt m j).pos = g (tkAt l j).pos
  stop : ∀ j : Int, 0 ≤ j → j < e → g (tkAt m j).stop = g (tkAt l j).stop
  dl : dead (tkAt l e)
  dm : dead (tkAt m e)
def erT (g : Int → Int) : TX → TX
  | .leaf k p q n => .leaf k (g p) q n
  | .list p x => .list (g p) (erT g x)
mutual
def erX (g : Int → Int) : EX → EX
  | .mk k p s n nm t a => .mk k (g p) (g s) n nm (if k = 8 then erT g t else t) (erXL g a)
def erXL (g : Int → Int) : List EX → List EX
  | [] => []
  | x :: r => erX g x :: erXL g r
end
/-- Two readings that come to the same, but for places. -/
def Lo {α β : Type} (er : α → β) (l m : List TZ) (e : Int) : EO α → EO α → Prop
  | .ok x j, .ok y j' => er x = er y ∧ j = j' ∧ j ≤ e
  | .err p c, .err p' c' => c = c' ∧ ∃ q, q ≤ e ∧ p = (tkAt l q).pos ∧ p' = (tkAt m q).pos
  | .out, .out => True
  | _, _ => False
theorem dead_kind {t : TZ} (h : dead t) {k : Int} (h0 : k ≠ 0) (h5 : k ≠ 5) : t.kind ≠ k := by
  rcases h with h | h
  · omega
  · have := h.1; omega
theorem dead_sym {t : TZ} (h : dead t) (c : UInt8) : isS t c = false := by
  unfold isS
  rw [show decide (t.kind = 4) = false by simpa using dead_kind h (k := 4) (by decide) (by decide), Bool.false_and]
theorem dead_kt {t : TZ} (h : dead t) (c : ByteArray) : isKT t 4 c = false := by
  unfold isKT
  rw [show decide (t.kind = 4) = false by simpa using dead_kind h (k := 4) (by decide) (by decide), Bool.false_and]
theorem dead_word {t : TZ} (h : dead t) {w : List UInt8} (h1 : w ≠ wType) (h2 : w ≠ wFunc) : isW t w = false := by
  unfold isW
  rcases h with h | h
  · rw [show decide (t.kind = 5) = false by simp [h], Bool.false_and]
  · rw [show decide (t.text.data.toList = w) = false by
      rcases h.2 with e | e
      · rw [e]; simpa using fun e => h1 e.symm
      · rw [e]; simpa using fun e => h2 e.symm, Bool.and_false]
theorem dead_lvl {t : TZ} (h : dead t) : lvlOf t = 0 := by
  unfold lvlOf
  rw [if_pos (dead_kind h (by decide) (by decide))]
theorem dead_type {t : TZ} (h : dead t) : ¬ (t.kind = 5 ∧ kindOf t.text.data.toList ≠ 0) := by
  rintro ⟨h5, hk⟩
  rcases h with h | h
  · omega
  · rcases h.2 with e | e <;> exact hk (by rw [e]; rfl)
section
variable {g : Int → Int} {l m : List TZ} {e : Int}
theorem Alk.kindE (A : Alk g l m e) {j : Int} (hj : j ≤ e) {k : Int} (h0 : k ≠ 0) (h5 : k ≠ 5) : (tkAt l j).kind = k ↔ (tkAt m j).kind = k := by
  by_cases h : j < e
  · rw [A.kind j h]
  · obtain rfl : j = e := by omega
    exact ⟨fun h => (dead_kind A.dl h0 h5 h).elim, fun h => (dead_kind A.dm h0 h5 h).elim⟩
theorem Alk.sym (A : Alk g l m e) {j : Int} (hj : j ≤ e) (c : UInt8) : isS (tkAt m j) c = isS (tkAt l j) c := by
  by_cases h : j < e
  · unfold isS; rw [A.kind j h, A.text j h]
  · obtain rfl : j = e := by omega
    rw [dead_sym A.dl, dead_sym A.dm]
theorem Alk.word (A : Alk g l m e) {j : Int} (hj : j ≤ e) {w : List UInt8} (h1 : w ≠ wType) (h2 : w ≠ wFunc) : isW (tkAt m j) w = isW (tkAt l j) w := by
  by_cases h : j < e
  · unfold isW; rw [A.kind j h, A.text j h]
  · obtain rfl : j = e := by omega
    rw [dead_word A.dl h1 h2, dead_word A.dm h1 h2]
theorem Alk.kt (A : Alk g l m e) {j : Int} (hj : j ≤ e) (c : ByteArray) : isKT (tkAt m j) 4 c = isKT (tkAt l j) 4 c := by
  by_cases h : j < e
  · unfold isKT; rw [A.kind j h, A.text j h]
  · obtain rfl : j = e := by omega
    rw [dead_kt A.dl, dead_kt A.dm]
theorem Alk.lvl (A : Alk g l m e) {j : Int} (hj : j ≤ e) : lvlOf (tkAt m j) = lvlOf (tkAt l j) := by
  by_cases h : j < e
  · unfold lvlOf; rw [A.kind j h, A.text j h]
  · obtain rfl : j = e := by omega
    rw [dead_lvl A.dl, dead_lvl A.dm]
/-- A token that is there. -/
theorem Alk.symL (A : Alk g l m e) {j : Int} (hj : j ≤ e) {c : UInt8} (h : isS (tkAt l j) c = true) : j < e := by
  refine Classical.byContradiction fun hc => ?_
  obtain rfl : j = e := by omega
  rw [dead_sym A.dl] at h; cases h
theorem Alk.wordL (A : Alk g l m e) {j : Int} (hj : j ≤ e) {w : List UInt8} (h1 : w ≠ wType) (h2 : w ≠ wFunc) (h : isW (tkAt l j) w = true) : j < e := by
  refine Classical.byContradiction fun hc => ?_
  obtain rfl : j = e := by omega
  rw [dead_word A.dl h1 h2] at h; cases h
theorem Alk.ktL (A : Alk g l m e) {j : Int} (hj : j ≤ e) {c : ByteArray} (h : isKT (tkAt l j) 4 c = true) : j < e := by
  refine Classical.byContradiction fun hc => ?_
  obtain rfl : j = e := by omega
  rw [dead_kt A.dl] at h; cases h
theorem Alk.kindL (A : Alk g l m e) {j : Int} (hj : j ≤ e) {k : Int} (h0 : k ≠ 0) (h5 : k ≠ 5) (h : (tkAt l j).kind = k) : j < e := by
  refine Classical.byContradiction fun hc => ?_
  obtain rfl : j = e := by omega
  exact dead_kind A.dl h0 h5 h
theorem Alk.lvlL (A : Alk g l m e) {j : Int} (hj : j ≤ e) (h : lvlOf (tkAt l j) ≠ 0) : j < e := by
  refine Classical.byContradiction fun hc => ?_
  obtain rfl : j = e := by omega
  exact h (dead_lvl A.dl)
theorem Lo.ok {α β : Type} {er : α → β} {x y : α} {j : Int} (h : er x = er y) (hj : j ≤ e) : Lo er l m e (.ok x j) (.ok y j) := ⟨h, rfl, hj⟩
theorem Lo.err {α β : Type} {er : α → β} {q : Int} (hq : q ≤ e) (c : Int) : Lo (α := α) er l m e (.err (tkAt l q).pos c) (.err (tkAt m q).pos c) := ⟨rfl, q, hq, rfl, rfl⟩
theorem Lo.thn {α β γ δ : Type} {er1 : α → β} {er2 : γ → δ} {r r' : EO α} {f f' : α → Int → EO γ} (h : Lo er1 l m e r r') (hf : ∀ x y j, r = .ok x j → er1 x = er1 y → j ≤ e → Lo er2 l m e (f x j) (f' y j)) : Lo er2 l m e (Go.Proofs.YtlgaphopjdeklaaGreat.thn r f) (Go.Proofs.YtlgaphopjdeklaaGreat.thn r' f') := by
  cases r with
  | ok x j =>
    cases r' with
    | ok y j' => obtain ⟨h1, rfl, h3⟩ := h; exact hf x y j rfl h1 h3
    | err p q => exact h.elim
    | out => exact h.elim
  | err p q =>
    cases r' with
    | ok y j' => exact h.elim
    | err p' q' => exact h
    | out => exact h.elim
  | out =>
    cases r' with
    | ok y j' => exact h.elim
    | err p' q' => exact h.elim
    | out => trivial
/-! Types. -/
def toEO : Res → EO TX
  | .ok t j => .ok t j
  | .err p c => .err p c
theorem ty_eq (l : List TZ) (i : Int) : ty l i = toEO (prs l 30 i) := by unfold ty toEO; cases prs l 30 i <;> rfl
theorem elm_lay (A : Alk g l m e) {i : Int} (hi : i ≤ e) : Lo (erT g) l m e (toEO (elm l i)) (toEO (elm m i)) := by
  unfold elm
  by_cases h1 : (tkAt l i).kind = 1
  · have hi1 := A.kindL hi (by decide) (by decide) h1
    have hz := tkAt_real (l := l) (i := i) (by rw [h1]; decide)
    rw [if_pos h1, if_pos ((A.kindE hi (by decide) (by decide)).1 h1), A.kt (j := i + 1) (by omega)]
    cases h46 : isKT (tkAt l (i + 1)) 4 ⟨#[46]⟩
    · refine .ok ?_ (by omega)
      show TX.leaf 4 (g _) _ _ = TX.leaf 4 (g _) _ _
      rw [A.pos i hz.1 hi1, A.text i hi1]
    · have hi2 := A.ktL (j := i + 1) (by omega) h46
      simp only [if_true]
      by_cases h2 : (tkAt l (i + 2)).kind = 1
      · have hi3 := A.kindL (j := i + 2) (by omega) (by decide) (by decide) h2
        rw [if_pos h2, if_pos ((A.kindE (j := i + 2) (by omega) (by decide) (by decide)).1 h2)]
        refine .ok ?_ (by omega)
        show TX.leaf 4 (g _) _ _ = TX.leaf 4 (g _) _ _
        rw [A.pos i hz.1 hi1, A.text i hi1, A.text (i + 2) hi3]
      · rw [if_neg h2, if_neg (fun h => h2 ((A.kindE (j := i + 2) (by omega) (by decide) (by decide)).2 h))]
        exact .err (by omega) _
  · rw [if_neg h1, if_neg (fun h => h1 ((A.kindE hi (by decide) (by decide)).2 h))]
    by_cases hlt : i < e
    · rw [A.kind i hlt, A.text i hlt]
      by_cases h3 : (tkAt l i).kind = 5 ∧ kindOf (tkAt l i).text.data.toList ≠ 0
      · have hz := tkAt_real (l := l) (i := i) (by rw [h3.1]; decide)
        rw [if_pos h3, if_pos h3]
        refine .ok ?_ (by omega)
        show TX.leaf _ (g _) _ _ = TX.leaf _ (g _) _ _
        rw [A.pos i hz.1 hlt]
      · rw [if_neg h3, if_neg h3]; exact .err hi _
    · obtain rfl : i = e := by omega
      rw [if_neg (dead_type A.dl), if_neg (dead_type A.dm)]
      exact .err hi _
theorem wrap_lay {p p' : Int} {r r' : Res} (hp : g p = g p') (h : Lo (erT g) l m e (toEO r) (toEO r')) : Lo (erT g) l m e (toEO (r.wrap p)) (toEO (r'.wrap p')) := by
  cases r with
  | ok t j =>
    cases r' with
    | ok t' j' => obtain ⟨h1, rfl, h3⟩ := h; exact .ok (by show TX.list (g p) (erT g t) = TX.list (g p') (erT g t'); rw [h1, hp]) h3
    | err q c => exact h.elim
  | err q c =>
    cases r' with
    | ok t' j' => exact h.elim
    | err q' c' => exact h
theorem prs_lay (A : Alk g l m e) : ∀ (k : Nat) (i : Int), i ≤ e → Lo (erT g) l m e (toEO (prs l k i)) (toEO (prs m k i))
  | 0, i, hi => by
    rw [prs, prs, A.kt hi]
    cases isKT (tkAt l i) 4 ⟨#[91]⟩
    · exact elm_lay A hi
    · exact .err hi _
  | k + 1, i, hi => by
    rw [prs, prs, A.kt hi]
    cases h1 : isKT (tkAt l i) 4 ⟨#[91]⟩
    · exact elm_lay A hi
    · have hi1 := A.ktL hi h1
      rw [A.kt (j := i + 1) (by omega)]
      simp only [if_true]
      cases h2 : isKT (tkAt l (i + 1)) 4 ⟨#[93]⟩
      · exact .err (by omega) _
      · have hi2 := A.ktL (j := i + 1) (by omega) h2
        exact wrap_lay (A.pos i (isKT_real (by decide) h1).1 hi1).symm (prs_lay A k (i + 2) (by omega))
theorem ty_lay (A : Alk g l m e) {i : Int} (hi : i ≤ e) : Lo (erT g) l m e (ty l i) (ty m i) := by rw [ty_eq, ty_eq]; exact prs_lay A 30 i hi
/-! Expressions, one behind the other. -/
section
variable {f k d : Nat} {a i : Int} {x : EX} {z : UInt8}
theorem ex_thn : ex l (f + 1) k d i = if k = 5 then una l f d i else thn (ex l f (k + 1) d i) fun x j => binT l f k d i x j := by
  rw [ex]; unfold thn; split
  · rfl
  · cases ex l f (k + 1) d i <;> rfl
theorem binT_thn : binT l (f + 1) k d a x i = if lvlOf (tkAt l i) = k then thn (ex l f (k + 1) d (i + 1)) fun y j => binT l f k d a (mkBin (tkAt l a).pos (tkAt l (j - 1)).stop (tkAt l i).text x y) j else .ok x i := by
  rw [binT]; unfold thn; split
  · cases ex l f (k + 1) d (i + 1) <;> rfl
  · rfl
theorem una_thn : una l (f + 1) d i = if isS (tkAt l i) 33 then (if 30 ≤ d then .err (tkAt l i).pos 6 else thn (una l f (d + 1) (i + 1)) fun x j => .ok (mkNot (tkAt l i).pos (tkAt l (j - 1)).stop x) j) else thn (prim l f d i) fun x j => post l f d i x j := by
  rw [una]; unfold thn; split
  · split
    · rfl
    · cases una l f (d + 1) (i + 1) <;> rfl
  · cases prim l f d i <;> rfl
theorem lst_thn : lst l (f + 1) z d i = if 30 ≤ d then .err (tkAt l i).pos 6 else if isS (tkAt l (i + 1)) z then .ok [] (i + 2) else items l f z d (i + 1) := by rw [lst]
theorem items_thn : items l (f + 1) z d i = thn (ex l f 1 (d + 1) i) fun y j => if isS (tkAt l j) 44 then thn (items l f z d (j + 1)) fun ys q => .ok (y :: ys) q else if isS (tkAt l j) z then .ok [y] (j + 1) else .err (tkAt l j).pos 5 := by
  rw [items]; unfold thn
  cases ex l f 1 (d + 1) i with
  | ok y j => simp only; split
              · cases items l f z d (j + 1) <;> rfl
              · rfl
  | err p c => rfl
  | out => rfl
theorem post_thn : post l (f + 1) d a x i = if isS (tkAt l i) 46 then (if (tkAt l (i + 1)).kind = 1 then post l f d a (mkSel (tkAt l a).pos x (tkAt l (i + 1)).text (tkAt l (i + 1)).stop) (i + 2) else .err (tkAt l (i + 1)).pos 5)
    else if isS (tkAt l i) 40 then thn (lst l f 41 d i) fun ys q => post l f d a (mkCall (tkAt l a).pos x ys (tkAt l (q - 1)).stop) q
    else if isS (tkAt l i) 91 then (if 30 ≤ d then .err (tkAt l i).pos 6 else thn (ex l f 1 (d + 1) (i + 1)) fun y j => if isS (tkAt l j) 93 then post l f d a (mkIdx (tkAt l a).pos x y (tkAt l j).stop) (j + 1) else .err (tkAt l j).pos 5)
    else .ok x i := by
  rw [post]; unfold thn
  split
  · rfl
  · split
    · cases lst l f 41 d i <;> rfl
    · split
      · split
        · rfl
        · cases ex l f 1 (d + 1) (i + 1) <;> rfl
      · rfl
end
end
end Go.Proofs.YtlgaphopjdeklaaGreat
namespace Go.Proofs.YtlgaphopjdeklaaGreat
section
variable {g : Int → Int} {l m : List TZ} {e : Int}
theorem prim_thn {f d : Nat} {i : Int} : prim l (f + 1) d i =
    if (tkAt l i).kind = 2 then
      match numOf (tkAt l i).text.data.toList with
      | some n => .ok (.mk 1 (tkAt l i).pos (tkAt l i).stop n ⟨#[]⟩ noTX []) (i + 1)
      | none => .err (tkAt l i).pos 2
    else if (tkAt l i).kind = 3 then
      if quoted (tkAt l i).text.data.toList then .ok (.mk 2 (tkAt l i).pos (tkAt l i).stop 0 ⟨(unquote (tkAt l i).text.data.toList).toArray⟩ noTX []) (i + 1) else .err (tkAt l i).pos 3
    else if isW (tkAt l i) [116, 114, 117, 101] then .ok (.mk 3 (tkAt l i).pos (tkAt l i).stop 1 ⟨#[]⟩ noTX []) (i + 1)
    else if isW (tkAt l i) [102, 97, 108, 115, 101] then .ok (.mk 3 (tkAt l i).pos (tkAt l i).stop 0 ⟨#[]⟩ noTX []) (i + 1)
    else if (tkAt l i).kind = 1 then .ok (.mk 4 (tkAt l i).pos (tkAt l i).stop 0 (tkAt l i).text noTX []) (i + 1)
    else if isS (tkAt l i) 40 then
      if 30 ≤ d then .err (tkAt l i).pos 6 else thn (ex l f 1 (d + 1) (i + 1)) fun y j => if isS (tkAt l j) 41 then .ok y (j + 1) else .err (tkAt l j).pos 5
    else if isW (tkAt l i) [110, 101, 119] then
      thn (ty l (i + 1)) fun t j => if isS (tkAt l j) 123 then thn (lst l f 125 d j) fun ys q => .ok (.mk 8 (tkAt l i).pos (tkAt l (q - 1)).stop 0 ⟨#[]⟩ t ys) q else .err (tkAt l j).pos 5
    else .err (tkAt l i).pos 5 := by
  rw [prim]; unfold thn ty
  split
  · rfl
  · split
    · rfl
    · split
      · rfl
      · split
        · rfl
        · split
          · rfl
          · split
            · split
              · rfl
              · cases ex l f 1 (d + 1) (i + 1) <;> rfl
            · split
              · cases prs l 30 (i + 1) with
                | ok t j => simp only; split
                            · cases lst l f 125 d j <;> rfl
                            · rfl
                | err p c => rfl
              · rfl
theorem bool_ite {α β : Type} {er : α → β} {b b' : Bool} {x y x' y' : EO α} (hb : b' = b) (h1 : b = true → Lo er l m e x x') (h2 : b = false → Lo er l m e y y') : Lo er l m e (if b then x else y) (if b' then x' else y') := by
  subst hb
  cases b'
  · exact h2 rfl
  · exact h1 rfl
theorem prop_ite {α β : Type} {er : α → β} {c c' : Prop} [Decidable c] [Decidable c'] {x y x' y' : EO α} (hc : c ↔ c') (h1 : c → Lo er l m e x x') (h2 : ¬ c → Lo er l m e y y') : Lo er l m e (if c then x else y) (if c' then x' else y') := by
  by_cases h : c
  · rw [if_pos h, if_pos (hc.1 h)]; exact h1 h
  · rw [if_neg h, if_neg (fun e => h (hc.2 e))]; exact h2 h
theorem read_lay (A : Alk g l m e) : ∀ f : Nat,
    (∀ k d i, k ≠ 0 → i ≤ e → Lo (erX g) l m e (ex l f k d i) (ex m f k d i)) ∧
    (∀ k d a x y i, k ≠ 0 → 0 ≤ a → a < e → i ≤ e → erX g x = erX g y → Lo (erX g) l m e (binT l f k d a x i) (binT m f k d a y i)) ∧
    (∀ d i, i ≤ e → Lo (erX g) l m e (una l f d i) (una m f d i)) ∧
    (∀ d i, i ≤ e → Lo (erX g) l m e (prim l f d i) (prim m f d i)) ∧
    (∀ d a x y i, 0 ≤ a → a < e → i ≤ e → erX g x = erX g y → Lo (erX g) l m e (post l f d a x i) (post m f d a y i)) ∧
    (∀ z d i, i < e → Lo (erXL g) l m e (lst l f z d i) (lst m f z d i)) ∧
    (∀ z d i, i ≤ e → Lo (erXL g) l m e (items l f z d i) (items m f z d i)) := by
  intro f
  induction f with
  | zero =>
    refine ⟨?_, ?_, ?_, ?_, ?_, ?_, ?_⟩
    · intro k d i _ _; rw [ex, ex]; trivial
    · intro k d a x y i _ _ _ _ _; rw [binT, binT]; trivial
    · intro d i _; rw [una, una]; trivial
    · intro d i _; rw [prim, prim]; trivial
    · intro d a x y i _ _ _ _; rw [post, post]; trivial
    · intro z d i _; rw [lst, lst]; trivial
    · intro z d i _; rw [items, items]; trivial
  | succ f ih =>
    obtain ⟨iE, iB, iU, iP, iF, iL, iI⟩ := ih
    have R := read_rng (l := l) f
    refine ⟨?_, ?_, ?_, ?_, ?_, ?_, ?_⟩
    · intro k d i hk hi
      rw [ex_thn, ex_thn]
      by_cases h5 : k = 5
      · rw [if_pos h5, if_pos h5]; exact iU d i hi
      · rw [if_neg h5, if_neg h5]
        refine (iE (k + 1) d i (by omega) hi).thn fun x y j hq hxy hj => ?_
        have hr := R.1 _ _ _ _ _ (by omega) hq
        exact iB k d i x y j hk (by omega) (by omega) hj hxy
    · intro k d a x y i hk ha0 ha hi hxy
      rw [binT_thn, binT_thn]
      by_cases hl : lvlOf (tkAt l i) = k
      · have hi1 := A.lvlL hi (by omega)
        rw [if_pos hl, if_pos (by rw [A.lvl hi]; exact hl)]
        refine (iE (k + 1) d (i + 1) (by omega) (by omega)).thn fun u v j hq huv hj => ?_
        have hr := R.1 _ _ _ _ _ (by omega) hq
        refine iB k d a _ _ j hk ha0 ha hj ?_
        unfold mkBin
        simp only [erX, erXL, huv, hxy, A.pos a ha0 ha, A.stop (j - 1) (by omega) (by omega), A.text i hi1]
      · rw [if_neg hl, if_neg (by rw [A.lvl hi]; exact hl)]
        exact .ok hxy hi
    · intro d i hi
      rw [una_thn, una_thn]
      refine bool_ite (A.sym hi 33) (fun h => ?_) (fun h => ?_)
      · have hi1 := A.symL hi h
        have hz := isS_real h
        refine prop_ite Iff.rfl (fun _ => .err hi _) fun _ => ?_
        refine (iU (d + 1) (i + 1) (by omega)).thn fun u v j hq huv hj => ?_
        have hr := R.2.2.1 _ _ _ _ hq
        refine .ok ?_ hj
        unfold mkNot
        simp only [erX, erXL, huv, A.pos i (by omega) hi1, A.stop (j - 1) (by omega) (by omega)]
      · refine (iP d i hi).thn fun u v j hq huv hj => ?_
        have hr := R.2.2.2.1 _ _ _ _ hq
        exact iF d i u v j (by omega) (by omega) hj huv
    · intro d i hi
      rw [prim_thn, prim_thn]
      refine prop_ite (A.kindE hi (by decide) (by decide)) (fun h => ?_) fun _ => ?_
      · have hi1 := A.kindL hi (by decide) (by decide) h
        have hz := tkAt_real (l := l) (i := i) (by rw [h]; decide)
        rw [A.text i hi1]
        cases numOf (tkAt l i).text.data.toList with
        | some n => exact .ok (by simp only [erX, erXL, A.pos i (by omega) hi1, A.stop i (by omega) hi1]) (by omega)
        | none => exact .err hi _
      refine prop_ite (A.kindE hi (by decide) (by decide)) (fun h => ?_) fun _ => ?_
      · have hi1 := A.kindL hi (by decide) (by decide) h
        have hz := tkAt_real (l := l) (i := i) (by rw [h]; decide)
        rw [A.text i hi1]
        refine bool_ite rfl (fun _ => ?_) fun _ => .err hi _
        exact .ok (by simp only [erX, erXL, A.pos i (by omega) hi1, A.stop i (by omega) hi1]) (by omega)
      refine bool_ite (A.word hi (by decide) (by decide)) (fun h => ?_) fun _ => ?_
      · have hi1 := A.wordL hi (by decide) (by decide) h
        have hz := isW_real h
        exact .ok (by simp only [erX, erXL, A.pos i (by omega) hi1, A.stop i (by omega) hi1]) (by omega)
      refine bool_ite (A.word hi (by decide) (by decide)) (fun h => ?_) fun _ => ?_
      · have hi1 := A.wordL hi (by decide) (by decide) h
        have hz := isW_real h
        exact .ok (by simp only [erX, erXL, A.pos i (by omega) hi1, A.stop i (by omega) hi1]) (by omega)
      refine prop_ite (A.kindE hi (by decide) (by decide)) (fun h => ?_) fun _ => ?_
      · have hi1 := A.kindL hi (by decide) (by decide) h
        have hz := tkAt_real (l := l) (i := i) (by rw [h]; decide)
        exact .ok (by simp only [erX, erXL, A.pos i (by omega) hi1, A.stop i (by omega) hi1, A.text i hi1]) (by omega)
      refine bool_ite (A.sym hi 40) (fun h => ?_) fun _ => ?_
      · have hi1 := A.symL hi h
        have hz := isS_real h
        refine prop_ite Iff.rfl (fun _ => .err hi _) fun _ => ?_
        refine (iE 1 (d + 1) (i + 1) (by decide) (by omega)).thn fun u v j hq huv hj => ?_
        refine bool_ite (A.sym hj 41) (fun h => ?_) fun _ => .err hj _
        have hj1 := A.symL hj h
        have hz2 := isS_real h
        exact .ok huv (by omega)
      refine bool_ite (A.word hi (by decide) (by decide)) (fun h => ?_) fun _ => .err hi _
      have hi1 := A.wordL hi (by decide) (by decide) h
      have hz := isW_real h
      refine (ty_lay A (i := i + 1) (by omega)).thn fun t t' j _ ht hj => ?_
      refine bool_ite (A.sym hj 123) (fun h => ?_) fun _ => .err hj _
      have hj1 := A.symL hj h
      have hz2 := isS_real h
      refine (iL 125 d j hj1).thn fun u v q hq huv hq2 => ?_
      have hr := R.2.2.2.2.2.1 _ _ _ _ _ hq
      refine .ok ?_ hq2
      simp only [erX, huv, A.pos i (by omega) hi1, A.stop (q - 1) (by omega) (by omega), ht, if_true]
    · intro d a x y i ha0 ha hi hxy
      rw [post_thn, post_thn]
      refine bool_ite (A.sym hi 46) (fun h => ?_) fun _ => ?_
      · have hi1 := A.symL hi h
        have hz := isS_real h
        refine prop_ite (A.kindE (j := i + 1) (by omega) (by decide) (by decide)) (fun h2 => ?_) fun _ => .err (by omega) _
        have hi2 := A.kindL (j := i + 1) (by omega) (by decide) (by decide) h2
        refine iF d a _ _ (i + 2) ha0 ha (by omega) ?_
        unfold mkSel
        simp only [erX, erXL, hxy, A.pos a ha0 ha, A.stop (i + 1) (by omega) hi2, A.text (i + 1) hi2]
      refine bool_ite (A.sym hi 40) (fun h => ?_) fun _ => ?_
      · have hi1 := A.symL hi h
        have hz := isS_real h
        refine (iL 41 d i hi1).thn fun u v q hq huv hq2 => ?_
        have hr := R.2.2.2.2.2.1 _ _ _ _ _ hq
        refine iF d a _ _ q ha0 ha hq2 ?_
        unfold mkCall
        simp only [erX, erXL, hxy, huv, A.pos a ha0 ha, A.stop (q - 1) (by omega) (by omega)]
      refine bool_ite (A.sym hi 91) (fun h => ?_) fun _ => .ok hxy hi
      have hi1 := A.symL hi h
      have hz := isS_real h
      refine prop_ite Iff.rfl (fun _ => .err hi _) fun _ => ?_
      refine (iE 1 (d + 1) (i + 1) (by decide) (by omega)).thn fun u v j hq huv hj => ?_
      refine bool_ite (A.sym hj 93) (fun h => ?_) fun _ => .err hj _
      have hj1 := A.symL hj h
      have hz2 := isS_real h
      refine iF d a _ _ (j + 1) ha0 ha (by omega) ?_
      unfold mkIdx
      simp only [erX, erXL, hxy, huv, A.pos a ha0 ha, A.stop j (by omega) hj1]
    · intro z d i hi
      rw [lst_thn, lst_thn]
      refine prop_ite Iff.rfl (fun _ => .err (by omega) _) fun _ => ?_
      refine bool_ite (A.sym (j := i + 1) (by omega) z) (fun h => ?_) fun _ => iI z d (i + 1) (by omega)
      have hi1 := A.symL (j := i + 1) (by omega) h
      exact .ok rfl (by omega)
    · intro z d i hi
      rw [items_thn, items_thn]
      refine (iE 1 (d + 1) i (by decide) hi).thn fun u v j hq huv hj => ?_
      refine bool_ite (A.sym hj 44) (fun h => ?_) fun _ => ?_
      · have hj1 := A.symL hj h
        have hz2 := isS_real h
        refine (iI z d (j + 1) (by omega)).thn fun us vs q _ hus hq2 => ?_
        exact .ok (by simp only [erXL, huv, hus]) hq2
      · refine bool_ite (A.sym hj z) (fun h => ?_) fun _ => .err hj _
        have hj1 := A.symL hj h
        have hz2 := isS_real h
        exact .ok (by simp only [erXL, huv]) (by omega)
end
end Go.Proofs.YtlgaphopjdeklaaGreat
