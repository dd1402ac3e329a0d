/-
  Plain: the tokens of a text stand one behind the other; a text in brackets is its tokens in brackets. No condition.
  Plain: brackets and signs may be thirty within one another. No condition.
  Plain: what is wrong is wrong at a token; an expression in brackets. No condition.
  What the program's Parse answers in memory. Condition: none.
  Plain: blocks may be thirty within one another. No condition.
  Plain: the tokens of texts in braces; the statements of two texts in one block. No condition.
  Plain: the same tokens elsewhere tell the same statements, moved; two blocks' statements in one; what stands behind a block. No condition.
  Plain: the same tokens elsewhere tell the same expressions, moved. No condition.
  Statements in memory. Condition: the statement lies in memory as said.
  Plain: statements as trees; what the chapter says that tokens tell; how far; steps enough; what is wrong is wrong at a token. No condition.
-/
import Derived.Test.YtlgaphopjdeklaaGreatM10
import Derived.Test.YtlgaphopjdeklaaGreatM11
import Derived.Test.YtlgaphopjdeklaaGreatM09
import Derived.Test.YtlgaphopjdeklaaGreatM08
namespace Go.Proofs.YtlgaphopjdeklaaGreat
def zTok (t : Tok) : TZ := ⟨t.kind, (t.pos : Nat), (t.stop : Nat), ⟨t.text.toArray⟩⟩
end Go.Proofs.YtlgaphopjdeklaaGreat
namespace Go.Proofs.YtlgaphopjdeklaaGreat
/-- Steps enough for so many tokens. -/
def fuel (l : List TZ) : Nat := 8 * l.length + 16
end Go.Proofs.YtlgaphopjdeklaaGreat
namespace Go.Proofs.YtlgaphopjdeklaaGreat
def AtTok (l : List TZ) (p c : Int) : Prop := (∃ q, p = (tkAt l q).pos) ∧ c ≠ 0
theorem elm_err {l : List TZ} {i p c : Int} (h : elm l i = .err p c) : AtTok l p c := by
  unfold elm at h
  split at h
  · split at h
    · split at h
      · cases h
      · injection h with h h'; exact ⟨⟨_, h.symm⟩, by rw [← h']; decide⟩
    · cases h
  · split at h
    · cases h
    · injection h with h h'; exact ⟨⟨_, h.symm⟩, by rw [← h']; decide⟩
theorem prs_err {l : List TZ} : ∀ {k : Nat} {i p c : Int}, prs l k i = .err p c → AtTok l p c
  | 0, i, p, c, h => by
    unfold prs at h
    split at h
    · injection h with h h'; exact ⟨⟨_, h.symm⟩, by rw [← h']; decide⟩
    · exact elm_err h
  | k + 1, i, p, c, h => by
    unfold prs at h
    split at h
    · split at h
      · cases hp : prs l k (i + 2) with
        | ok y n => rw [hp] at h; cases h
        | err q d => rw [hp] at h; injection h with h h'; subst h; subst h'; exact prs_err hp
      · injection h with h h'; exact ⟨⟨_, h.symm⟩, by rw [← h']; decide⟩
    · exact elm_err h
theorem read_err {l : List TZ} : ∀ f : Nat,
    (∀ k d i p c, ex l f k d i = .err p c → AtTok l p c) ∧
    (∀ k d a x i p c, binT l f k d a x i = .err p c → AtTok l p c) ∧
    (∀ d i p c, una l f d i = .err p c → AtTok l p c) ∧
    (∀ d i p c, prim l f d i = .err p c → AtTok l p c) ∧
    (∀ d a x i p c, post l f d a x i = .err p c → AtTok l p c) ∧
    (∀ z d i p c, lst l f z d i = .err p c → AtTok l p c) ∧
    (∀ z d i p c, items l f z d i = .err p c → AtTok l p c) := by
  intro f
  induction f with
  | zero =>
    refine ⟨?_, ?_, ?_, ?_, ?_, ?_, ?_⟩ <;> intros <;> simp [ex, binT, una, prim, post, lst, items] at *
  | succ f ih =>
    obtain ⟨iE, iB, iU, iP, iT, iL, iI⟩ := ih
    have self : ∀ {α : Type} {q : Int} {e : Int} {p c : Int}, e ≠ 0 → (EO.err (α := α) (tkAt l q).pos e) = .err p c → AtTok l p c := fun he h => by
      injection h with h h'; exact ⟨⟨_, h.symm⟩, by rw [← h']; exact he⟩
    refine ⟨?_, ?_, ?_, ?_, ?_, ?_, ?_⟩
    · intro k d i p c h
      unfold ex at h
      split at h
      · exact iU _ _ _ _ h
      · split at h
        · exact iB _ _ _ _ _ _ _ h
        · next hq => injection h with h h'; subst h; subst h'; exact iE _ _ _ _ _ hq
        · cases h
    · intro k d a x i p c h
      unfold binT at h
      split at h
      · split at h
        · exact iB _ _ _ _ _ _ _ h
        · next hq => injection h with h h'; subst h; subst h'; exact iE _ _ _ _ _ hq
        · cases h
      · cases h
    · intro d i p c h
      unfold una at h
      split at h
      · split at h
        · exact self (by decide) h
        · split at h
          · cases h
          · next hq => injection h with h h'; subst h; subst h'; exact iU _ _ _ _ hq
          · cases h
      · split at h
        · exact iT _ _ _ _ _ _ h
        · next hq => injection h with h h'; subst h; subst h'; exact iP _ _ _ _ hq
        · cases h
    · intro d i p c h
      unfold prim at h
      split at h
      · split at h
        · cases h
        · exact self (by decide) h
      split at h
      · split at h
        · cases h
        · exact self (by decide) h
      split at h
      · cases h
      split at h
      · cases h
      split at h
      · cases h
      split at h
      · split at h
        · exact self (by decide) h
        · split at h
          · split at h
            · cases h
            · exact self (by decide) h
          · next hq => injection h with h h'; subst h; subst h'; exact iE _ _ _ _ _ hq
          · cases h
      split at h
      · split at h
        · split at h
          · split at h
            · cases h
            · next hq => injection h with h h'; subst h; subst h'; exact iL _ _ _ _ _ hq
            · cases h
          · exact self (by decide) h
        · next hq => injection h with h h'; subst h; subst h'; exact prs_err hq
      · exact self (by decide) h
    · intro d a x i p c h
      unfold post at h
      split at h
      · split at h
        · exact iT _ _ _ _ _ _ h
        · exact self (by decide) h
      split at h
      · split at h
        · exact iT _ _ _ _ _ _ h
        · next hq => injection h with h h'; subst h; subst h'; exact iL _ _ _ _ _ hq
        · cases h
      split at h
      · split at h
        · exact self (by decide) h
        · split at h
          · split at h
            · exact iT _ _ _ _ _ _ h
            · exact self (by decide) h
          · next hq => injection h with h h'; subst h; subst h'; exact iE _ _ _ _ _ hq
          · cases h
      · cases h
    · intro z d i p c h
      unfold lst at h
      split at h
      · exact self (by decide) h
      split at h
      · cases h
      · exact iI _ _ _ _ _ h
    · intro z d i p c h
      unfold items at h
      split at h
      · split at h
        · split at h
          · cases h
          · next hq => injection h with h h'; subst h; subst h'; exact iI _ _ _ _ _ hq
          · cases h
        · split at h
          · cases h
          · exact self (by decide) h
      · next hq => injection h with h h'; subst h; subst h'; exact iE _ _ _ _ _ hq
      · cases h
end Go.Proofs.YtlgaphopjdeklaaGreat
namespace Go.Proofs.YtlgaphopjdeklaaGreat
/-- A statement as a plain tree. -/
inductive SX where
  | mk (kind pos : Int) (name : ByteArray) (has : Bool) (x : EX) (body other : List SX)
def SX.kind : SX → Int
  | .mk k _ _ _ _ _ _ => k
def SX.pos : SX → Int
  | .mk _ p _ _ _ _ _ => p
def SX.name : SX → ByteArray
  | .mk _ _ n _ _ _ _ => n
def SX.has : SX → Bool
  | .mk _ _ _ h _ _ _ => h
def SX.expr : SX → EX
  | .mk _ _ _ _ x _ _ => x
def SX.body : SX → List SX
  | .mk _ _ _ _ _ b _ => b
def SX.other : SX → List SX
  | .mk _ _ _ _ _ _ c => c
def noEX : EX := .mk 0 0 0 0 ⟨#[]⟩ noTX []
def wLet : List UInt8 := [108, 101, 116]
def wReturn : List UInt8 := [114, 101, 116, 117, 114, 110]
def wIf : List UInt8 := [105, 102]
def wFor : List UInt8 := [102, 111, 114]
def wElse : List UInt8 := [101, 108, 115, 101]
/-- A name, and = behind it. -/
def isSet (l : List TZ) (i : Int) : Bool := decide ((tkAt l i).kind = 1) && isS (tkAt l (i + 1)) 61
/-- An expression and then a symbol, out of which a statement is made. -/
def exThen (l : List TZ) (F : Nat) (z : UInt8) (i : Int) (g : EX → SX) : EO SX :=
  match ex l F 1 0 i with
  | .ok x j => if isS (tkAt l j) z then .ok (g x) (j + 1) else .err (tkAt l j).pos 5
  | .err p c => .err p c
  | .out => .out
mutual
/-- A block within so many; F: the steps of each expression; the first number is how many steps there may be. -/
def blk (l : List TZ) (F : Nat) : Nat → Nat → Int → EO (List SX)
  | 0, _, _ => .out
  | f + 1, d, i => if isS (tkAt l i) 123 then (if 30 ≤ d then .err (tkAt l i).pos 6 else rows l F f d (i + 1)) else .err (tkAt l i).pos 5
def rows (l : List TZ) (F : Nat) : Nat → Nat → Int → EO (List SX)
  | 0, _, _ => .out
  | f + 1, d, i => if isS (tkAt l i) 125 then .ok [] (i + 1) else
    match stm l F f d i with
    | .ok s j =>
      match rows l F f d j with
      | .ok r q => .ok (s :: r) q
      | .err p c => .err p c
      | .out => .out
    | .err p c => .err p c
    | .out => .out
def stm (l : List TZ) (F : Nat) : Nat → Nat → Int → EO SX
  | 0, _, _ => .out
  | f + 1, d, i =>
    if isW (tkAt l i) wLet then
      if (tkAt l (i + 1)).kind = 1 then
        if isS (tkAt l (i + 2)) 61 then exThen l F 59 (i + 3) (fun x => .mk 1 (tkAt l i).pos (tkAt l (i + 1)).text false x [] [])
        else .err (tkAt l (i + 2)).pos 5
      else .err (tkAt l (i + 1)).pos 5
    else if isW (tkAt l i) wReturn then
      if isS (tkAt l (i + 1)) 59 then .ok (.mk 3 (tkAt l i).pos ⟨#[]⟩ false noEX [] []) (i + 2)
      else exThen l F 59 (i + 1) (fun x => .mk 3 (tkAt l i).pos ⟨#[]⟩ true x [] [])
    else if isW (tkAt l i) wIf then
      match ex l F 1 0 (i + 1) with
      | .ok x j =>
        match blk l F f (d + 1) j with
        | .ok b q => if isW (tkAt l q) wElse then
            match blk l F f (d + 1) (q + 1) with
            | .ok c r => .ok (.mk 4 (tkAt l i).pos ⟨#[]⟩ true x b c) r
            | .err p c => .err p c
            | .out => .out
          else .ok (.mk 4 (tkAt l i).pos ⟨#[]⟩ false x b []) q
        | .err p c => .err p c
        | .out => .out
      | .err p c => .err p c
      | .out => .out
    else if isW (tkAt l i) wFor then
      match ex l F 1 0 (i + 1) with
      | .ok x j =>
        match blk l F f (d + 1) j with
        | .ok b q => .ok (.mk 5 (tkAt l i).pos ⟨#[]⟩ false x b []) q
        | .err p c => .err p c
        | .out => .out
      | .err p c => .err p c
      | .out => .out
    else if isSet l i then exThen l F 59 (i + 2) (fun x => .mk 2 (tkAt l i).pos (tkAt l i).text false x [] [])
    else exThen l F 59 i (fun x => .mk 6 (tkAt l i).pos ⟨#[]⟩ false x [] [])
end
theorem exThen_rng {l : List TZ} {F : Nat} {z : UInt8} {i : Int} {g : EX → SX} {s : SX} {j : Int} (h : exThen l F z i g = .ok s j) : 0 ≤ i ∧ i + 1 < j ∧ j ≤ l.length := by
  unfold exThen at h
  split at h
  · next x q hq =>
    have h1 := (read_rng F).1 _ _ _ _ _ (by decide) hq
    split at h
    · next hc =>
      have hr := isS_real hc
      injection h with h h'; omega
    · cases h
  · cases h
  · cases h
/-- What is read is behind where it began, and not behind the last token. -/
theorem stm_rng {l : List TZ} {F : Nat} : ∀ f : Nat,
    (∀ d i x j, blk l F f d i = .ok x j → 0 ≤ i ∧ i + 1 < j ∧ j ≤ l.length) ∧
    (∀ d i x j, rows l F f d i = .ok x j → 0 ≤ i ∧ i < j ∧ j ≤ l.length) ∧
    (∀ d i x j, stm l F f d i = .ok x j → 0 ≤ i ∧ i < j ∧ j ≤ l.length) := by
  intro f
  induction f with
  | zero =>
    refine ⟨?_, ?_, ?_⟩ <;> intros <;> simp [blk, rows, stm] at *
  | succ f ih =>
    obtain ⟨iB, iR, iS⟩ := ih
    refine ⟨?_, ?_, ?_⟩
    · intro d i x j h
      unfold blk at h
      split at h
      · next hn =>
        have hr := isS_real hn
        split at h
        · cases h
        · have := iR _ _ _ _ h; omega
      · cases h
    · intro d i x j h
      unfold rows at h
      split at h
      · next hn => have hr := isS_real hn; injection h with h h'; omega
      · split at h
        · next s q hq =>
          have h1 := iS _ _ _ _ hq
          split at h
          · next r p hr =>
            have h2 := iR _ _ _ _ hr
            injection h with h h'; omega
          · cases h
          · cases h
        · cases h
        · cases h
    · intro d i x j h
      unfold stm at h
      split at h
      · next hn =>
        have hr := isW_real hn
        split at h
        · split at h
          · have := exThen_rng h; omega
          · cases h
        · cases h
      split at h
      · next hn =>
        have hr := isW_real hn
        split at h
        · next hs => have hr2 := isS_real hs; injection h with h h'; omega
        · have := exThen_rng h; omega
      split at h
      · next hn =>
        have hr := isW_real hn
        split at h
        · next y q hq =>
          have h1 := (read_rng F).1 _ _ _ _ _ (by decide) hq
          split at h
          · next b p hp =>
            have h2 := iB _ _ _ _ hp
            split at h
            · split at h
              · next c r hc => have h3 := iB _ _ _ _ hc; injection h with h h'; omega
              · cases h
              · cases h
            · injection h with h h'; omega
          · cases h
          · cases h
        · cases h
        · cases h
      split at h
      · next hn =>
        have hr := isW_real hn
        split at h
        · next y q hq =>
          have h1 := (read_rng F).1 _ _ _ _ _ (by decide) hq
          split at h
          · next b p hp => have h2 := iB _ _ _ _ hp; injection h with h h'; omega
          · cases h
          · cases h
        · cases h
        · cases h
      split at h
      · next hn =>
        unfold isSet at hn
        simp only [Bool.and_eq_true, decide_eq_true_eq] at hn
        have hr := tkAt_real (l := l) (i := i) (by rw [hn.1]; decide)
        have := exThen_rng h; omega
      · have := exThen_rng h; omega
theorem exThen_some {l : List TZ} {F : Nat} (hF : fuel l ≤ F) {z : UInt8} {i : Int} (h0 : 0 ≤ i) {g : EX → SX} : exThen l F z i g ≠ .out := by
  unfold exThen
  split
  · split <;> (intro h; cases h)
  · intro h; cases h
  · next hq => exact ((enough F).1 1 0 i (by decide) (by decide) (by unfold fuel left at *; omega) hq).elim
/-- So many steps are enough. -/
theorem stm_some {l : List TZ} {F : Nat} (hF : fuel l ≤ F) : ∀ f : Nat,
    (∀ d (i : Int), 0 ≤ i → 4 * left l i + 4 ≤ f → blk l F f d i ≠ .out) ∧
    (∀ d (i : Int), 0 ≤ i → 4 * left l i + 3 ≤ f → rows l F f d i ≠ .out) ∧
    (∀ d (i : Int), 0 ≤ i → 4 * left l i + 2 ≤ f → stm l F f d i ≠ .out) := by
  intro f
  induction f with
  | zero =>
    refine ⟨?_, ?_, ?_⟩ <;> intros <;> omega
  | succ f ih =>
    obtain ⟨iB, iR, iS⟩ := ih
    obtain ⟨rB, rR, rS⟩ := stm_rng (l := l) (F := F) f
    refine ⟨?_, ?_, ?_⟩
    · intro d i h0 hf
      unfold blk
      split
      · next hn =>
        have hr := isS_real hn
        split
        · intro h; cases h
        · exact iR _ _ (by omega) (by unfold left at *; omega)
      · intro h; cases h
    · intro d i h0 hf
      unfold rows
      split
      · intro h; cases h
      · split
        · next s q hq =>
          have h1 := rS _ _ _ _ hq
          split
          · intro h; cases h
          · intro h; cases h
          · next hr => exact (iR _ _ (by omega) (by unfold left at *; omega) hr).elim
        · intro h; cases h
        · next hq => exact (iS _ _ h0 (by omega) hq).elim
    · intro d i h0 hf
      unfold stm
      split
      · split
        · split
          · exact exThen_some hF (by omega)
          · intro h; cases h
        · intro h; cases h
      split
      · split
        · intro h; cases h
        · exact exThen_some hF (by omega)
      split
      · next hn =>
        have hr := isW_real hn
        split
        · next y q hq =>
          have h1 := (read_rng F).1 _ _ _ _ _ (by decide) hq
          split
          · next b p hp =>
            have h2 := rB _ _ _ _ hp
            split
            · split
              · intro h; cases h
              · intro h; cases h
              · next hc => exact (iB _ _ (by omega) (by unfold left at *; omega) hc).elim
            · intro h; cases h
          · intro h; cases h
          · next hc => exact (iB _ _ (by omega) (by unfold left at *; omega) hc).elim
        · intro h; cases h
        · next hq => exact ((enough F).1 1 0 _ (by decide) (by decide) (by unfold fuel left at *; omega) hq).elim
      split
      · next hn =>
        have hr := isW_real hn
        split
        · next y q hq =>
          have h1 := (read_rng F).1 _ _ _ _ _ (by decide) hq
          split
          · intro h; cases h
          · intro h; cases h
          · next hc => exact (iB _ _ (by omega) (by unfold left at *; omega) hc).elim
        · intro h; cases h
        · next hq => exact ((enough F).1 1 0 _ (by decide) (by decide) (by unfold fuel left at *; omega) hq).elim
      split
      · exact exThen_some hF (by omega)
      · exact exThen_some hF h0
theorem exThen_err {l : List TZ} {F : Nat} {z : UInt8} {i : Int} {g : EX → SX} {p c : Int} (h : exThen l F z i g = .err p c) : AtTok l p c := by
  unfold exThen at h
  split at h
  · split at h
    · cases h
    · injection h with h h'; exact ⟨⟨_, h.symm⟩, by rw [← h']; decide⟩
  · next hq => injection h with h h'; subst h; subst h'; exact (read_err F).1 _ _ _ _ _ hq
  · cases h
theorem stm_err {l : List TZ} {F : Nat} : ∀ f : Nat,
    (∀ d i p c, blk l F f d i = .err p c → AtTok l p c) ∧
    (∀ d i p c, rows l F f d i = .err p c → AtTok l p c) ∧
    (∀ d i p c, stm l F f d i = .err p c → AtTok l p c) := by
  intro f
  induction f with
  | zero =>
    refine ⟨?_, ?_, ?_⟩ <;> intros <;> simp [blk, rows, stm] at *
  | succ f ih =>
    obtain ⟨iB, iR, iS⟩ := ih
    have self : ∀ {α : Type} {q : Int} {e : Int} {p c : Int}, e ≠ 0 → (EO.err (α := α) (tkAt l q).pos e) = .err p c → AtTok l p c := fun he h => by
      injection h with h h'; exact ⟨⟨_, h.symm⟩, by rw [← h']; exact he⟩
    refine ⟨?_, ?_, ?_⟩
    · intro d i p c h
      unfold blk at h
      split at h
      · split at h
        · exact self (by decide) h
        · exact iR _ _ _ _ h
      · exact self (by decide) h
    · intro d i p c h
      unfold rows at h
      split at h
      · cases h
      · split at h
        · split at h
          · cases h
          · next hr => injection h with h h'; subst h; subst h'; exact iR _ _ _ _ hr
          · cases h
        · next hr => injection h with h h'; subst h; subst h'; exact iS _ _ _ _ hr
        · cases h
    · intro d i p c h
      unfold stm at h
      split at h
      · split at h
        · split at h
          · exact exThen_err h
          · exact self (by decide) h
        · exact self (by decide) h
      split at h
      · split at h
        · cases h
        · exact exThen_err h
      split at h
      · split at h
        · split at h
          · split at h
            · split at h
              · cases h
              · next hr => injection h with h h'; subst h; subst h'; exact iB _ _ _ _ hr
              · cases h
            · cases h
          · next hr => injection h with h h'; subst h; subst h'; exact iB _ _ _ _ hr
          · cases h
        · next hq => injection h with h h'; subst h; subst h'; exact (read_err F).1 _ _ _ _ _ hq
        · cases h
      split at h
      · split at h
        · split at h
          · cases h
          · next hr => injection h with h h'; subst h; subst h'; exact iB _ _ _ _ hr
          · cases h
        · next hq => injection h with h h'; subst h; subst h'; exact (read_err F).1 _ _ _ _ _ hq
        · cases h
      split at h
      · exact exThen_err h
      · exact exThen_err h
end Go.Proofs.YtlgaphopjdeklaaGreat
namespace Go.Proofs.YtlgaphopjdeklaaGreat
open Go.RowKit
open Go.Lib hiding intOf
mutual
/-- A value is such a statement, with its parts in blocks of which P holds. -/
def IsSP (P : Nat → Prop) (w : World) : SX → Value → Prop
  | .mk k p nm h x u v, V => ∃ (e0 e1 e2 e3 e4 e5 e6 e7 e8 e9 e10 : Value) (o : Option Addr) (c : Nat) (o' : Option Addr) (c' : Nat),
      V = .agg #[.int .i64 k, .int .i64 p, .string nm, .bool h, e0, e1, e2, e3, e4, e5, e6, e7, e8, e9, e10, .slice o u.length c, .slice o' v.length c'] ∧
      IsEP P w x (.agg #[e0, e1, e2, e3, e4, e5, e6, e7, e8, e9, e10]) ∧ IsSPs P w o 0 u ∧ IsSPs P w o' 0 v
/-- A row of statements lies from an address on. -/
def IsSPs (P : Nat → Prop) (w : World) (o : Option Addr) : Nat → List SX → Prop
  | _, [] => True
  | i, y :: r => (∃ (b : Nat) (c0 c1 c2 c3 c4 c5 c6 c7 c8 c9 c10 c11 c12 c13 c14 c15 c16 : Value), o = some ⟨b, 0, none⟩ ∧ P b ∧
      w.cell? ⟨b, i * 17, none⟩ = some c0 ∧ w.cell? ⟨b, i * 17 + 1, none⟩ = some c1 ∧ w.cell? ⟨b, i * 17 + 2, none⟩ = some c2 ∧ w.cell? ⟨b, i * 17 + 3, none⟩ = some c3 ∧ w.cell? ⟨b, i * 17 + 4, none⟩ = some c4 ∧ w.cell? ⟨b, i * 17 + 5, none⟩ = some c5 ∧
      w.cell? ⟨b, i * 17 + 6, none⟩ = some c6 ∧ w.cell? ⟨b, i * 17 + 7, none⟩ = some c7 ∧ w.cell? ⟨b, i * 17 + 8, none⟩ = some c8 ∧ w.cell? ⟨b, i * 17 + 9, none⟩ = some c9 ∧ w.cell? ⟨b, i * 17 + 10, none⟩ = some c10 ∧ w.cell? ⟨b, i * 17 + 11, none⟩ = some c11 ∧
      w.cell? ⟨b, i * 17 + 12, none⟩ = some c12 ∧ w.cell? ⟨b, i * 17 + 13, none⟩ = some c13 ∧ w.cell? ⟨b, i * 17 + 14, none⟩ = some c14 ∧ w.cell? ⟨b, i * 17 + 15, none⟩ = some c15 ∧ w.cell? ⟨b, i * 17 + 16, none⟩ = some c16 ∧
      IsSP P w y (.agg #[c0, c1, c2, c3, c4, c5, c6, c7, c8, c9, c10, c11, c12, c13, c14, c15, c16])) ∧ IsSPs P w o (i + 1) r
end
mutual
theorem IsSP.keep {P P' : Nat → Prop} {w w' : World} (hP : ∀ (b i : Nat) (u : Value), P b → w.cell? ⟨b, i, none⟩ = some u → P' b) (hk : ∀ (b i : Nat) (u : Value), P b → w.cell? ⟨b, i, none⟩ = some u → w'.cell? ⟨b, i, none⟩ = some u) : ∀ {x : SX} {v : Value}, IsSP P w x v → IsSP P' w' x v
  | .mk .., _, h => by
    unfold IsSP at h ⊢
    obtain ⟨e0, e1, e2, e3, e4, e5, e6, e7, e8, e9, e10, o, c, o', c', hv, hx, hu, hw⟩ := h
    exact ⟨e0, e1, e2, e3, e4, e5, e6, e7, e8, e9, e10, o, c, o', c', hv, hx.keep hP hk, IsSPs.keep hP hk hu, IsSPs.keep hP hk hw⟩
theorem IsSPs.keep {P P' : Nat → Prop} {w w' : World} (hP : ∀ (b i : Nat) (u : Value), P b → w.cell? ⟨b, i, none⟩ = some u → P' b) (hk : ∀ (b i : Nat) (u : Value), P b → w.cell? ⟨b, i, none⟩ = some u → w'.cell? ⟨b, i, none⟩ = some u) : ∀ {i : Nat} {xs : List SX} {o : Option Addr}, IsSPs P w o i xs → IsSPs P' w' o i xs
  | _, [], _, _ => by unfold IsSPs; trivial
  | i, y :: r, _, h => by
    unfold IsSPs at h ⊢
    obtain ⟨⟨b, c0, c1, c2, c3, c4, c5, c6, c7, c8, c9, c10, c11, c12, c13, c14, c15, c16, ho, hb, h0, h1, h2, h3, h4, h5, h6, h7, h8, h9, h10, h11, h12, h13, h14, h15, h16, hy⟩, hr⟩ := h
    exact ⟨⟨b, c0, c1, c2, c3, c4, c5, c6, c7, c8, c9, c10, c11, c12, c13, c14, c15, c16, ho, hP _ _ _ hb h0, hk _ _ _ hb h0, hk _ _ _ hb h1, hk _ _ _ hb h2, hk _ _ _ hb h3, hk _ _ _ hb h4, hk _ _ _ hb h5, hk _ _ _ hb h6, hk _ _ _ hb h7, hk _ _ _ hb h8, hk _ _ _ hb h9, hk _ _ _ hb h10, hk _ _ _ hb h11, hk _ _ _ hb h12, hk _ _ _ hb h13, hk _ _ _ hb h14, hk _ _ _ hb h15, hk _ _ _ hb h16, IsSP.keep hP hk hy⟩, IsSPs.keep hP hk hr⟩
end
theorem IsSP.below {P : Nat → Prop} {w w' : World} {x : SX} {v : Value} (h : IsSP P w x v) (hb : Below w.heap.size w w') : IsSP P w' x v :=
  h.keep (fun _ _ _ h _ => h) fun _ _ _ _ hc => (hb.cell (World.block_lt_of_cell? _ _ hc)).trans hc
theorem IsSPs.below {P : Nat → Prop} {w w' : World} {o : Option Addr} {i : Nat} {xs : List SX} (h : IsSPs P w o i xs) (hb : Below w.heap.size w w') : IsSPs P w' o i xs :=
  h.keep (fun _ _ _ h _ => h) fun _ _ _ _ hc => (hb.cell (World.block_lt_of_cell? _ _ hc)).trans hc
/-- One element. -/
theorem IsSPs.at_ {P : Nat → Prop} {w : World} {o : Option Addr} : ∀ {xs : List SX} {i : Nat} (k : Nat) {y : SX}, IsSPs P w o i xs → xs[k]? = some y → IsSPs P w o (i + k) [y]
  | [], _, _, _, _, h => by simp at h
  | x :: r, i, 0, y, h, hy => by
    simp at hy; subst hy
    unfold IsSPs at h ⊢
    exact ⟨h.1, by unfold IsSPs; trivial⟩
  | x :: r, i, k + 1, y, h, hy => by
    unfold IsSPs at h
    have := IsSPs.at_ (i := i + 1) k h.2 (by simpa using hy)
    rwa [show i + 1 + k = i + (k + 1) by omega] at this
theorem IsSP.parts {P : Nat → Prop} {w : World} {x : SX} {v : Value} (h : IsSP P w x v) : ∃ (e0 e1 e2 e3 e4 e5 e6 e7 e8 e9 e10 : Value) (o : Option Addr) (c : Nat) (o' : Option Addr) (c' : Nat),
    v = .agg #[.int .i64 x.kind, .int .i64 x.pos, .string x.name, .bool x.has, e0, e1, e2, e3, e4, e5, e6, e7, e8, e9, e10, .slice o x.body.length c, .slice o' x.other.length c'] ∧ IsEP P w x.expr (.agg #[e0, e1, e2, e3, e4, e5, e6, e7, e8, e9, e10]) ∧ IsSPs P w o 0 x.body ∧ IsSPs P w o' 0 x.other := by
  cases x with
  | mk k p nm h x u v =>
    unfold IsSP at h
    exact h
end Go.Proofs.YtlgaphopjdeklaaGreat
namespace Go.Proofs.YtlgaphopjdeklaaGreat
def shZ (b : Int) (t : TZ) : TZ := ⟨t.kind, t.pos + b, t.stop + b, t.text⟩
def shT (b : Int) : TX → TX
  | .leaf k p g n => .leaf k (p + b) g n
  | .list p x => .list (p + b) (shT b x)
mutual
def shX (b : Int) : EX → EX
  | .mk k p s n m t a => .mk k (p + b) (s + b) n m (if k = 8 then shT b t else t) (shXL b a)
def shXL (b : Int) : List EX → List EX
  | [] => []
  | x :: r => shX b x :: shXL b r
end
/-- The tokens of l from a on, up to e, stand in m, s places and b bytes behind. -/
structure Shf (l m : List TZ) (s b a e : Int) : Prop where
  tok : ∀ j : Int, a ≤ j → j < e → tkAt m (j + s) = shZ b (tkAt l j)
section
variable {l m : List TZ} {s b a e : Int}
theorem Shf.kind (S : Shf l m s b a e) {j : Int} (h0 : a ≤ j) (h1 : j < e) : (tkAt m (j + s)).kind = (tkAt l j).kind := by rw [S.tok j h0 h1]; rfl
theorem Shf.text (S : Shf l m s b a e) {j : Int} (h0 : a ≤ j) (h1 : j < e) : (tkAt m (j + s)).text = (tkAt l j).text := by rw [S.tok j h0 h1]; rfl
theorem Shf.pos (S : Shf l m s b a e) {j : Int} (h0 : a ≤ j) (h1 : j < e) : (tkAt m (j + s)).pos = (tkAt l j).pos + b := by rw [S.tok j h0 h1]; rfl
theorem Shf.stop (S : Shf l m s b a e) {j : Int} (h0 : a ≤ j) (h1 : j < e) : (tkAt m (j + s)).stop = (tkAt l j).stop + b := by rw [S.tok j h0 h1]; rfl
theorem Shf.sym (S : Shf l m s b a e) {j : Int} (h0 : a ≤ j) (h1 : j < e) (c : UInt8) : isS (tkAt m (j + s)) c = isS (tkAt l j) c := by rw [S.tok j h0 h1]; rfl
theorem Shf.word (S : Shf l m s b a e) {j : Int} (h0 : a ≤ j) (h1 : j < e) (c : List UInt8) : isW (tkAt m (j + s)) c = isW (tkAt l j) c := by rw [S.tok j h0 h1]; rfl
theorem Shf.lvl (S : Shf l m s b a e) {j : Int} (h0 : a ≤ j) (h1 : j < e) : lvlOf (tkAt m (j + s)) = lvlOf (tkAt l j) := by rw [S.tok j h0 h1]; rfl
theorem Shf.kt (S : Shf l m s b a e) {j : Int} (h0 : a ≤ j) (h1 : j < e) (k : Int) (c : ByteArray) : isKT (tkAt m (j + s)) k c = isKT (tkAt l j) k c := by rw [S.tok j h0 h1]; rfl
theorem Shf.elm (S : Shf l m s b a e) {i : Int} {t : TX} {j : Int} (h0 : a ≤ i) (hj : j < e) (h : elm l i = .ok t j) : elm m (i + s) = .ok (shT b t) (j + s) := by
  have hr := elm_rng h
  unfold Go.Proofs.YtlgaphopjdeklaaGreat.elm at h ⊢
  have k0 := S.kind h0 (show i < e by omega)
  have x0 := S.text h0 (show i < e by omega)
  have p0 := S.pos h0 (show i < e by omega)
  rw [k0, x0, p0]
  split at h
  · next h1 =>
    rw [if_pos h1]
    split at h
    · next h2 =>
      split at h
      · next h3 =>
        injection h with h h'
        have s1 := S.kt (j := i + 1) (by omega) (by omega) 4 ⟨#[46]⟩
        have k2 := S.kind (j := i + 2) (by omega) (by omega)
        have x2 := S.text (j := i + 2) (by omega) (by omega)
        rw [show i + s + 1 = i + 1 + s by omega, show i + s + 2 = i + 2 + s by omega, s1, h2, if_pos rfl, k2, if_pos h3, x2, ← h]
        unfold shT
        rw [show j + s = i + s + 3 by omega]
      · cases h
    · next h2 =>
      injection h with h h'
      have s1 := S.kt (j := i + 1) (by omega) (by omega) 4 ⟨#[46]⟩
      rw [show i + s + 1 = i + 1 + s by omega, s1, if_neg h2, ← h]
      unfold shT
      rw [show j + s = i + 1 + s by omega]
  · next h1 =>
    rw [if_neg h1]
    split at h
    · next h5 =>
      rw [if_pos h5]
      injection h with h h'
      rw [← h]
      unfold shT
      rw [show j + s = i + s + 1 by omega]
    · cases h
theorem Shf.prs (S : Shf l m s b a e) : ∀ (k : Nat) {i : Int} {t : TX} {j : Int}, a ≤ i → j < e → prs l k i = .ok t j → prs m k (i + s) = .ok (shT b t) (j + s)
  | 0, i, t, j, h0, hj, h => by
    have hr := prs_rng h
    unfold Go.Proofs.YtlgaphopjdeklaaGreat.prs at h ⊢
    rw [S.kt h0 (by omega)]
    split at h
    · cases h
    · next h1 => rw [if_neg h1]; exact S.elm h0 hj h
  | k + 1, i, t, j, h0, hj, h => by
    have hr := prs_rng h
    unfold Go.Proofs.YtlgaphopjdeklaaGreat.prs at h ⊢
    rw [S.kt h0 (by omega)]
    split at h
    · next h1 =>
      rw [if_pos h1]
      split at h
      · next h2 =>
        cases hp : Go.Proofs.YtlgaphopjdeklaaGreat.prs l k (i + 2) with
        | ok y n =>
          rw [hp] at h
          have hq := prs_rng hp
          injection h with h h'
          rw [show i + s + 1 = i + 1 + s by omega, S.kt (by omega) (by omega), if_pos h2, show i + s + 2 = i + 2 + s by omega, S.prs k (by omega) (by omega) hp, S.pos h0 (by omega), ← h, ← h']
          rfl
        | err q d => rw [hp] at h; cases h
      · cases h
    · next h1 => rw [if_neg h1]; exact S.elm h0 hj h
theorem shX_bin (b p q : Int) (op : ByteArray) (x y : EX) : shX b (mkBin p q op x y) = mkBin (p + b) (q + b) op (shX b x) (shX b y) := by
  unfold mkBin; simp [shX, shXL]
theorem shX_not (b p q : Int) (x : EX) : shX b (mkNot p q x) = mkNot (p + b) (q + b) (shX b x) := by
  unfold mkNot; simp [shX, shXL]
theorem shX_sel (b p q : Int) (n : ByteArray) (x : EX) : shX b (mkSel p x n q) = mkSel (p + b) (shX b x) n (q + b) := by
  unfold mkSel; simp [shX, shXL]
theorem shX_call (b p q : Int) (x : EX) (ys : List EX) : shX b (mkCall p x ys q) = mkCall (p + b) (shX b x) (shXL b ys) (q + b) := by
  unfold mkCall; simp [shX, shXL]
theorem shX_idx (b p q : Int) (x y : EX) : shX b (mkIdx p x y q) = mkIdx (p + b) (shX b x) (shX b y) (q + b) := by
  unfold mkIdx; simp [shX, shXL]
theorem shX_leaf (b k p q n : Int) (nm : ByteArray) (hk : k ≠ 8) : shX b (.mk k p q n nm noTX []) = .mk k (p + b) (q + b) n nm noTX [] := by
  unfold shX shXL; rw [if_neg hk]
theorem read_shf (S : Shf l m s b a e) : ∀ f : Nat,
    (∀ k d i x j, k ≠ 0 → a ≤ i → j < e → ex l f k d i = .ok x j → ex m f k d (i + s) = .ok (shX b x) (j + s)) ∧
    (∀ k d c x i z j, k ≠ 0 → a ≤ i → a ≤ c → c < e → j < e → binT l f k d c x i = .ok z j → binT m f k d (c + s) (shX b x) (i + s) = .ok (shX b z) (j + s)) ∧
    (∀ d i x j, a ≤ i → j < e → una l f d i = .ok x j → una m f d (i + s) = .ok (shX b x) (j + s)) ∧
    (∀ d i x j, a ≤ i → j < e → prim l f d i = .ok x j → prim m f d (i + s) = .ok (shX b x) (j + s)) ∧
    (∀ d c x i z j, a ≤ i → a ≤ c → c < e → j < e → post l f d c x i = .ok z j → post m f d (c + s) (shX b x) (i + s) = .ok (shX b z) (j + s)) ∧
    (∀ z d i ys j, a ≤ i → j < e → lst l f z d i = .ok ys j → lst m f z d (i + s) = .ok (shXL b ys) (j + s)) ∧
    (∀ z d i ys j, a ≤ i → j < e → items l f z d i = .ok ys j → items m f z d (i + s) = .ok (shXL b ys) (j + s)) := by
  intro f
  induction f with
  | zero =>
    refine ⟨?_, ?_, ?_, ?_, ?_, ?_, ?_⟩ <;> intros <;> simp [ex, binT, una, prim, post, lst, items] at *
  | succ f ih =>
    obtain ⟨iE, iB, iU, iP, iT, iL, iI⟩ := ih
    obtain ⟨rE, rB, rU, rP, rT, rL, rI⟩ := read_rng (l := l) f
    refine ⟨?_, ?_, ?_, ?_, ?_, ?_, ?_⟩
    · intro k d i x j hk h0 hj h
      unfold ex at h ⊢
      split at h
      · next h5 => rw [if_pos h5]; exact iU _ _ _ _ h0 hj h
      · next h5 =>
        rw [if_neg h5]
        split at h
        · next y q hq =>
          have h1 := rE _ _ _ _ _ (by omega) hq
          have h2 := rB _ _ _ _ _ _ _ hk h
          simp only [iE _ _ _ _ _ (by omega) h0 (by omega) hq]
          exact iB _ _ _ _ _ _ _ hk (by omega) h0 (by omega) hj h
        · cases h
        · cases h
    · intro k d c x i z j hk h0 hc0 hc1 hj h
      have hr := (read_rng (l := l) (f + 1)).2.1 _ _ _ _ _ _ _ hk h
      unfold binT at h ⊢
      rw [S.lvl h0 (by omega)]
      split at h
      · next hl =>
        rw [if_pos hl]
        split at h
        · next y q hq =>
          have h1 := rE _ _ _ _ _ (by omega) hq
          have h2 := rB _ _ _ _ _ _ _ hk h
          rw [show i + s + 1 = i + 1 + s by omega]
          simp only [iE _ _ _ _ _ (by omega) (by omega) (by omega) hq]
          rw [show q + s - 1 = q - 1 + s by omega, S.pos hc0 hc1, S.stop (by omega) (by omega), S.text h0 (by omega), ← shX_bin]
          exact iB _ _ _ _ _ _ _ hk (by omega) hc0 hc1 hj h
        · cases h
        · cases h
      · next hl =>
        rw [if_neg hl]
        injection h with h h'
        rw [h, h']
    · intro d i x j h0 hj h
      have hr := (read_rng (l := l) (f + 1)).2.2.1 _ _ _ _ h
      unfold una at h ⊢
      rw [S.sym h0 (by omega)]
      split at h
      · next hn =>
        rw [if_pos hn]
        split at h
        · cases h
        · next hd =>
          rw [if_neg hd]
          split at h
          · next y q hq =>
            have h1 := rU _ _ _ _ hq
            injection h with h h'
            rw [show i + s + 1 = i + 1 + s by omega]
            simp only [iU _ _ _ _ (by omega) (by omega) hq]
            rw [show q + s - 1 = q - 1 + s by omega, S.pos h0 (by omega), S.stop (by omega) (by omega), ← shX_not, h, h']
          · cases h
          · cases h
      · next hn =>
        rw [if_neg hn]
        split at h
        · next y q hq =>
          have h1 := rP _ _ _ _ hq
          have h2 := rT _ _ _ _ _ _ h
          simp only [iP _ _ _ _ h0 (by omega) hq]
          exact iT _ _ _ _ _ _ (by omega) h0 (by omega) hj h
        · cases h
        · cases h
    · intro d i x j h0 hj h
      have hr := (read_rng (l := l) (f + 1)).2.2.2.1 _ _ _ _ h
      have hi : i < e := by omega
      unfold prim at h ⊢
      rw [S.kind h0 hi, S.text h0 hi, S.pos h0 hi, S.stop h0 hi, S.word h0 hi, S.word h0 hi, S.word h0 hi, S.sym h0 hi]
      split at h
      · next hk =>
        rw [if_pos hk]
        split at h
        · next n hn => injection h with h h'; rw [← h, ← h', shX_leaf _ _ _ _ _ _ (by decide), show i + s + 1 = i + 1 + s by omega]
        · cases h
      next hk2 =>
      rw [if_neg hk2]
      split at h
      · next hk =>
        rw [if_pos hk]
        split at h
        · next hq => injection h with h h'; rw [if_pos hq, ← h, ← h', shX_leaf _ _ _ _ _ _ (by decide), show i + s + 1 = i + 1 + s by omega]
        · cases h
      next hk3 =>
      rw [if_neg hk3]
      split at h
      · next hk => injection h with h h'; rw [if_pos hk, ← h, ← h', shX_leaf _ _ _ _ _ _ (by decide), show i + s + 1 = i + 1 + s by omega]
      next hk4 =>
      rw [if_neg hk4]
      split at h
      · next hk => injection h with h h'; rw [if_pos hk, ← h, ← h', shX_leaf _ _ _ _ _ _ (by decide), show i + s + 1 = i + 1 + s by omega]
      next hk5 =>
      rw [if_neg hk5]
      split at h
      · next hk => injection h with h h'; rw [if_pos hk, ← h, ← h', shX_leaf _ _ _ _ _ _ (by decide), show i + s + 1 = i + 1 + s by omega]
      next hk6 =>
      rw [if_neg hk6]
      split at h
      · next hk =>
        rw [if_pos hk]
        split at h
        · cases h
        · next hd =>
          rw [if_neg hd]
          split at h
          · next y q hq =>
            have h1 := rE _ _ _ _ _ (by omega) hq
            split at h
            · next hc =>
              injection h with h h'
              rw [show i + s + 1 = i + 1 + s by omega]
              simp only [iE _ _ _ _ _ (by omega) (by omega) (by omega) hq]
              rw [S.sym (by omega) (by omega), if_pos hc, h, ← h', show q + s + 1 = q + 1 + s by omega]
            · cases h
          · cases h
          · cases h
      next hk7 =>
      rw [if_neg hk7]
      split at h
      · next hk =>
        rw [if_pos hk]
        split at h
        · next t q hq =>
          have hp := prs_rng hq
          split at h
          · next hc =>
            split at h
            · next ys r hys =>
              have h2 := rL _ _ _ _ _ hys
              injection h with h h'
              rw [show i + s + 1 = i + 1 + s by omega]
              simp only [S.prs 30 (show a ≤ i + 1 by omega) (show q < e by omega) hq]
              rw [S.sym (by omega) (by omega), if_pos hc]
              simp only [iL _ _ _ _ _ (show a ≤ q by omega) (show r < e by omega) hys]
              rw [show r + s - 1 = r - 1 + s by omega, S.stop (by omega) (by omega), ← h, ← h']
              simp [shX]
            · cases h
            · cases h
          · cases h
        · cases h
      · cases h
    · intro d c x i z j h0 hc0 hc1 hj h
      have hr := (read_rng (l := l) (f + 1)).2.2.2.2.1 _ _ _ _ _ _ h
      have hi : i < e := by omega
      unfold post at h ⊢
      rw [S.sym h0 hi, S.sym h0 hi, S.sym h0 hi, S.pos hc0 hc1]
      split at h
      · next hn =>
        rw [if_pos hn]
        split at h
        · next hk =>
          have h2 := rT _ _ _ _ _ _ h
          rw [show i + s + 1 = i + 1 + s by omega, S.kind (by omega) (by omega), if_pos hk, S.text (by omega) (by omega), S.stop (by omega) (by omega), ← shX_sel, show i + s + 2 = i + 2 + s by omega]
          exact iT _ _ _ _ _ _ (by omega) hc0 hc1 hj h
        · cases h
      next hn1 =>
      rw [if_neg hn1]
      split at h
      · next hn =>
        rw [if_pos hn]
        split at h
        · next ys q hys =>
          have h1 := rL _ _ _ _ _ hys
          have h2 := rT _ _ _ _ _ _ h
          simp only [iL _ _ _ _ _ h0 (show q < e by omega) hys]
          rw [show q + s - 1 = q - 1 + s by omega, S.stop (by omega) (by omega), ← shX_call]
          exact iT _ _ _ _ _ _ (by omega) hc0 hc1 hj h
        · cases h
        · cases h
      next hn2 =>
      rw [if_neg hn2]
      split at h
      · next hn =>
        rw [if_pos hn]
        split at h
        · cases h
        · next hd =>
          rw [if_neg hd]
          split at h
          · next y q hq =>
            have h1 := rE _ _ _ _ _ (by omega) hq
            split at h
            · next hc =>
              have h2 := rT _ _ _ _ _ _ h
              rw [show i + s + 1 = i + 1 + s by omega]
              simp only [iE _ _ _ _ _ (by omega) (show a ≤ i + 1 by omega) (show q < e by omega) hq]
              rw [S.sym (by omega) (by omega), if_pos hc, S.stop (by omega) (by omega), ← shX_idx, show q + s + 1 = q + 1 + s by omega]
              exact iT _ _ _ _ _ _ (by omega) hc0 hc1 hj h
            · cases h
          · cases h
          · cases h
      next hn3 =>
      rw [if_neg hn3]
      injection h with h h'
      rw [h, h']
    · intro z d i ys j h0 hj h
      have hr := (read_rng (l := l) (f + 1)).2.2.2.2.2.1 _ _ _ _ _ h
      unfold lst at h ⊢
      split at h
      · cases h
      next hd =>
      rw [if_neg hd]
      split at h
      · next hn =>
        injection h with h h'
        rw [show i + s + 1 = i + 1 + s by omega, S.sym (by omega) (by omega), if_pos hn, ← h, ← h', show i + s + 2 = i + 2 + s by omega]
        unfold shXL
        rfl
      · next hn =>
        have h1 := rI _ _ _ _ _ h
        rw [show i + s + 1 = i + 1 + s by omega, S.sym (by omega) (by omega), if_neg hn]
        exact iI _ _ _ _ _ (by omega) hj h
    · intro z d i ys j h0 hj h
      unfold items at h ⊢
      split at h
      · next y q hq =>
        have h1 := rE _ _ _ _ _ (by omega) hq
        split at h
        · next hc =>
          split at h
          · next zs r hzs =>
            have h2 := rI _ _ _ _ _ hzs
            injection h with h h'
            simp only [iE _ _ _ _ _ (by omega) h0 (show q < e by omega) hq]
            rw [S.sym (by omega) (by omega), if_pos hc, show q + s + 1 = q + 1 + s by omega]
            simp only [iI _ _ _ _ _ (show a ≤ q + 1 by omega) (show r < e by omega) hzs]
            rw [← h, ← h']
            simp [shXL]
          · cases h
          · cases h
        · next hc =>
          split at h
          · next hz =>
            injection h with h h'
            simp only [iE _ _ _ _ _ (by omega) h0 (show q < e by omega) hq]
            rw [S.sym (by omega) (by omega), S.sym (by omega) (by omega), if_neg hc, if_pos hz, ← h, ← h', show q + s + 1 = q + 1 + s by omega]
            simp [shXL]
          · cases h
      · cases h
      · cases h
end
end Go.Proofs.YtlgaphopjdeklaaGreat
namespace Go.Proofs.YtlgaphopjdeklaaGreat
mutual
def shS (b : Int) : SX → SX
  | .mk k p n h x u v => .mk k (p + b) n h (if k = 3 ∧ h = false then x else shX b x) (shSL b u) (shSL b v)
def shSL (b : Int) : List SX → List SX
  | [] => []
  | x :: r => shS b x :: shSL b r
end
section
variable {l m : List TZ} {s b a e : Int}
theorem Shf.exThen (S : Shf l m s b a e) {F : Nat} {z : UInt8} {i : Int} {g g' : EX → SX} {t : SX} {j : Int} (hg : ∀ x, g' (shX b x) = shS b (g x)) (h0 : a ≤ i) (hj : j ≤ e) (h : exThen l F z i g = .ok t j) : exThen m F z (i + s) g' = .ok (shS b t) (j + s) := by
  have hr := exThen_rng h
  unfold Go.Proofs.YtlgaphopjdeklaaGreat.exThen at h ⊢
  split at h
  · next x q hq =>
    have h1 := (read_rng F).1 _ _ _ _ _ (by decide) hq
    split at h
    · next hc =>
      injection h with h h'
      simp only [(read_shf S F).1 1 0 i x q (by decide) h0 (by omega) hq]
      rw [S.sym (by omega) (by omega), if_pos hc, hg, h, ← h', show q + s + 1 = q + 1 + s by omega]
    · cases h
  · cases h
  · cases h
end
end Go.Proofs.YtlgaphopjdeklaaGreat
namespace Go.Proofs.YtlgaphopjdeklaaGreat
section
variable {s t : List UInt8}
end
end Go.Proofs.YtlgaphopjdeklaaGreat
namespace Go.Proofs.YtlgaphopjdeklaaGreat
/-- Steps enough for a block. -/
def fuelB (l : List TZ) : Nat := 4 * l.length + 8
end Go.Proofs.YtlgaphopjdeklaaGreat
namespace Go.Proofs.YtlgaphopjdeklaaGreat
open Go.RowKit
open Go.Lib hiding intOf
/-- What 'Parse' answers. -/
def SParRes (B : Nat) (W : World) (r : EO (List SX)) (v : Value) : Prop :=
  match r with
  | .ok X j => ∃ (o : Option Addr) (c : Nat), v = .tuple #[.slice o X.length c, .int .i64 j, .agg #[.int .i64 0, .int .i64 0]] ∧ IsSPs (fun q => B ≤ q) W o 0 X
  | .err p q => ∃ (o : Option Addr) (c : Nat), v = .tuple #[.slice o 0 c, .int .i64 0, .agg #[.int .i64 p, .int .i64 q]]
  | .out => True
theorem SParRes.parts {B : Nat} {W : World} {r : EO (List SX)} {v : Value} (h : SParRes B W r v) (hr : r ≠ .out) :
    ∃ (o : Option Addr) (c n : Nat) (j p q : Int), v = .tuple #[.slice o n c, .int .i64 j, .agg #[.int .i64 p, .int .i64 q]] ∧
      ((∃ X, r = .ok X j ∧ n = X.length ∧ p = 0 ∧ q = 0 ∧ IsSPs (fun q => B ≤ q) W o 0 X) ∨ (r = .err p q ∧ n = 0 ∧ j = 0)) := by
  cases r with
  | out => exact (hr rfl).elim
  | ok X j => obtain ⟨o, c, rfl, hx⟩ := h; exact ⟨o, c, _, _, _, _, rfl, .inl ⟨X, rfl, rfl, rfl, rfl, hx⟩⟩
  | err p q => obtain ⟨o, c, rfl⟩ := h; exact ⟨o, c, _, _, _, _, rfl, .inr ⟨rfl, rfl, rfl⟩⟩
end Go.Proofs.YtlgaphopjdeklaaGreat
