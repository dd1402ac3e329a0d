/-
  What the program's Parse answers in memory. Condition: none.
  Plain: blocks may be thirty within one another. No condition.
  Plain: the tokens of texts in braces; the statements of two texts in one block. No condition.
  Plain: the same tokens elsewhere tell the same statements, moved; two blocks' statements in one; what stands behind a block. No condition.
  Plain: the same tokens elsewhere tell the same expressions, moved. No condition.
  Statements in memory. Condition: the statement lies in memory as said.
  Plain: statements as trees; what the chapter says that tokens tell; how far; steps enough; what is wrong is wrong at a token. No condition.
-/
import Derived.Test.YtoppknnjnfgbiaaExd
import Derived.Test.YtoppknnjnfgbiaaExe
import Derived.Test.YtoppknnjnfgbiaaExv0
import Derived.Test.YtoppknnjnfgbiaaExt
import Derived.Test.YtoppknnjnfgbiaaEnds
namespace Go.Proofs.Ytoppknnjnfgbiaa

/-- A statement as a plain tree. -/
inductive SX where
  | mk (kind pos : Int) (name : ByteArray) (has : Bool) (x : EX) (body other : List SX)

def SX.kind : SX → Int
  | .mk k _ _ _ _ _ _ => k
def SX.pos : SX → Int
  | .mk _ p _ _ _ _ _ => p
def SX.name : SX → ByteArray
  | .mk _ _ n _ _ _ _ => n
def SX.has : SX → Bool
  | .mk _ _ _ h _ _ _ => h
def SX.expr : SX → EX
  | .mk _ _ _ _ x _ _ => x
def SX.body : SX → List SX
  | .mk _ _ _ _ _ b _ => b
def SX.other : SX → List SX
  | .mk _ _ _ _ _ _ c => c

def noEX : EX := .mk 0 0 0 0 ⟨#[]⟩ noTX []

def wLet : List UInt8 := [108, 101, 116]
def wReturn : List UInt8 := [114, 101, 116, 117, 114, 110]
def wIf : List UInt8 := [105, 102]
def wFor : List UInt8 := [102, 111, 114]
def wElse : List UInt8 := [101, 108, 115, 101]

/-- A name, and = behind it. -/
def isSet (l : List TZ) (i : Int) : Bool := decide ((tkAt l i).kind = 1) && isS (tkAt l (i + 1)) 61

/-- An expression and then a symbol, out of which a statement is made. -/
def exThen (l : List TZ) (F : Nat) (z : UInt8) (i : Int) (g : EX → SX) : EO SX :=
  match ex l F 1 0 i with
  | .ok x j => if isS (tkAt l j) z then .ok (g x) (j + 1) else .err (tkAt l j).pos 5
  | .err p c => .err p c
  | .out => .out

mutual
/-- A block within so many; F: the steps of each expression; the first number is how many steps there may be. -/
def blk (l : List TZ) (F : Nat) : Nat → Nat → Int → EO (List SX)
  | 0, _, _ => .out
  | f + 1, d, i => if isS (tkAt l i) 123 then (if 30 ≤ d then .err (tkAt l i).pos 6 else rows l F f d (i + 1)) else .err (tkAt l i).pos 5
def rows (l : List TZ) (F : Nat) : Nat → Nat → Int → EO (List SX)
  | 0, _, _ => .out
  | f + 1, d, i => if isS (tkAt l i) 125 then .ok [] (i + 1) else
    match stm l F f d i with
    | .ok s j =>
      match rows l F f d j with
      | .ok r q => .ok (s :: r) q
      | .err p c => .err p c
      | .out => .out
    | .err p c => .err p c
    | .out => .out
def stm (l : List TZ) (F : Nat) : Nat → Nat → Int → EO SX
  | 0, _, _ => .out
  | f + 1, d, i =>
    if isW (tkAt l i) wLet then
      if (tkAt l (i + 1)).kind = 1 then
        if isS (tkAt l (i + 2)) 61 then exThen l F 59 (i + 3) (fun x => .mk 1 (tkAt l i).pos (tkAt l (i + 1)).text false x [] [])
        else .err (tkAt l (i + 2)).pos 5
      else .err (tkAt l (i + 1)).pos 5
    else if isW (tkAt l i) wReturn then
      if isS (tkAt l (i + 1)) 59 then .ok (.mk 3 (tkAt l i).pos ⟨#[]⟩ false noEX [] []) (i + 2)
      else exThen l F 59 (i + 1) (fun x => .mk 3 (tkAt l i).pos ⟨#[]⟩ true x [] [])
    else if isW (tkAt l i) wIf then
      match ex l F 1 0 (i + 1) with
      | .ok x j =>
        match blk l F f (d + 1) j with
        | .ok b q => if isW (tkAt l q) wElse then
            match blk l F f (d + 1) (q + 1) with
            | .ok c r => .ok (.mk 4 (tkAt l i).pos ⟨#[]⟩ true x b c) r
            | .err p c => .err p c
            | .out => .out
          else .ok (.mk 4 (tkAt l i).pos ⟨#[]⟩ false x b []) q
        | .err p c => .err p c
        | .out => .out
      | .err p c => .err p c
      | .out => .out
    else if isW (tkAt l i) wFor then
      match ex l F 1 0 (i + 1) with
      | .ok x j =>
        match blk l F f (d + 1) j with
        | .ok b q => .ok (.mk 5 (tkAt l i).pos ⟨#[]⟩ false x b []) q
        | .err p c => .err p c
        | .out => .out
      | .err p c => .err p c
      | .out => .out
    else if isSet l i then exThen l F 59 (i + 2) (fun x => .mk 2 (tkAt l i).pos (tkAt l i).text false x [] [])
    else exThen l F 59 i (fun x => .mk 6 (tkAt l i).pos ⟨#[]⟩ false x [] [])
end

theorem exThen_rng {l : List TZ} {F : Nat} {z : UInt8} {i : Int} {g : EX → SX} {s : SX} {j : Int} (h : exThen l F z i g = .ok s j) : 0 ≤ i ∧ i + 1 < j ∧ j ≤ l.length := by
  unfold exThen at h
  split at h
  · next x q hq =>
    have h1 := (read_rng F).1 _ _ _ _ _ (by decide) hq
    split at h
    · next hc =>
      have hr := isS_real hc
      injection h with h h'; omega
    · cases h
  · cases h
  · cases h

/-- What is read is behind where it began, and not behind the last token. -/
theorem stm_rng {l : List TZ} {F : Nat} : ∀ f : Nat,
    (∀ d i x j, blk l F f d i = .ok x j → 0 ≤ i ∧ i + 1 < j ∧ j ≤ l.length) ∧
    (∀ d i x j, rows l F f d i = .ok x j → 0 ≤ i ∧ i < j ∧ j ≤ l.length) ∧
    (∀ d i x j, stm l F f d i = .ok x j → 0 ≤ i ∧ i < j ∧ j ≤ l.length) := by
  intro f
  induction f with
  | zero =>
    refine ⟨?_, ?_, ?_⟩ <;> intros <;> simp [blk, rows, stm] at *
  | succ f ih =>
    obtain ⟨iB, iR, iS⟩ := ih
    refine ⟨?_, ?_, ?_⟩
    · intro d i x j h
      unfold blk at h
      split at h
      · next hn =>
        have hr := isS_real hn
        split at h
        · cases h
        · have := iR _ _ _ _ h; omega
      · cases h
    · intro d i x j h
      unfold rows at h
      split at h
      · next hn => have hr := isS_real hn; injection h with h h'; omega
      · split at h
        · next s q hq =>
          have h1 := iS _ _ _ _ hq
          split at h
          · next r p hr =>
            have h2 := iR _ _ _ _ hr
            injection h with h h'; omega
          · cases h
          · cases h
        · cases h
        · cases h
    · intro d i x j h
      unfold stm at h
      split at h
      · next hn =>
        have hr := isW_real hn
        split at h
        · split at h
          · have := exThen_rng h; omega
          · cases h
        · cases h
      split at h
      · next hn =>
        have hr := isW_real hn
        split at h
        · next hs => have hr2 := isS_real hs; injection h with h h'; omega
        · have := exThen_rng h; omega
      split at h
      · next hn =>
        have hr := isW_real hn
        split at h
        · next y q hq =>
          have h1 := (read_rng F).1 _ _ _ _ _ (by decide) hq
          split at h
          · next b p hp =>
            have h2 := iB _ _ _ _ hp
            split at h
            · split at h
              · next c r hc => have h3 := iB _ _ _ _ hc; injection h with h h'; omega
              · cases h
              · cases h
            · injection h with h h'; omega
          · cases h
          · cases h
        · cases h
        · cases h
      split at h
      · next hn =>
        have hr := isW_real hn
        split at h
        · next y q hq =>
          have h1 := (read_rng F).1 _ _ _ _ _ (by decide) hq
          split at h
          · next b p hp => have h2 := iB _ _ _ _ hp; injection h with h h'; omega
          · cases h
          · cases h
        · cases h
        · cases h
      split at h
      · next hn =>
        unfold isSet at hn
        simp only [Bool.and_eq_true, decide_eq_true_eq] at hn
        have hr := tkAt_real (l := l) (i := i) (by rw [hn.1]; decide)
        have := exThen_rng h; omega
      · have := exThen_rng h; omega

theorem exThen_some {l : List TZ} {F : Nat} (hF : fuel l ≤ F) {z : UInt8} {i : Int} (h0 : 0 ≤ i) {g : EX → SX} : exThen l F z i g ≠ .out := by
  unfold exThen
  split
  · split <;> (intro h; cases h)
  · intro h; cases h
  · next hq => exact ((enough F).1 1 0 i (by decide) (by decide) (by unfold fuel left at *; omega) hq).elim

/-- So many steps are enough. -/
theorem stm_some {l : List TZ} {F : Nat} (hF : fuel l ≤ F) : ∀ f : Nat,
    (∀ d (i : Int), 0 ≤ i → 4 * left l i + 4 ≤ f → blk l F f d i ≠ .out) ∧
    (∀ d (i : Int), 0 ≤ i → 4 * left l i + 3 ≤ f → rows l F f d i ≠ .out) ∧
    (∀ d (i : Int), 0 ≤ i → 4 * left l i + 2 ≤ f → stm l F f d i ≠ .out) := by
  intro f
  induction f with
  | zero =>
    refine ⟨?_, ?_, ?_⟩ <;> intros <;> omega
  | succ f ih =>
    obtain ⟨iB, iR, iS⟩ := ih
    obtain ⟨rB, rR, rS⟩ := stm_rng (l := l) (F := F) f
    refine ⟨?_, ?_, ?_⟩
    · intro d i h0 hf
      unfold blk
      split
      · next hn =>
        have hr := isS_real hn
        split
        · intro h; cases h
        · exact iR _ _ (by omega) (by unfold left at *; omega)
      · intro h; cases h
    · intro d i h0 hf
      unfold rows
      split
      · intro h; cases h
      · split
        · next s q hq =>
          have h1 := rS _ _ _ _ hq
          split
          · intro h; cases h
          · intro h; cases h
          · next hr => exact (iR _ _ (by omega) (by unfold left at *; omega) hr).elim
        · intro h; cases h
        · next hq => exact (iS _ _ h0 (by omega) hq).elim
    · intro d i h0 hf
      unfold stm
      split
      · split
        · split
          · exact exThen_some hF (by omega)
          · intro h; cases h
        · intro h; cases h
      split
      · split
        · intro h; cases h
        · exact exThen_some hF (by omega)
      split
      · next hn =>
        have hr := isW_real hn
        split
        · next y q hq =>
          have h1 := (read_rng F).1 _ _ _ _ _ (by decide) hq
          split
          · next b p hp =>
            have h2 := rB _ _ _ _ hp
            split
            · split
              · intro h; cases h
              · intro h; cases h
              · next hc => exact (iB _ _ (by omega) (by unfold left at *; omega) hc).elim
            · intro h; cases h
          · intro h; cases h
          · next hc => exact (iB _ _ (by omega) (by unfold left at *; omega) hc).elim
        · intro h; cases h
        · next hq => exact ((enough F).1 1 0 _ (by decide) (by decide) (by unfold fuel left at *; omega) hq).elim
      split
      · next hn =>
        have hr := isW_real hn
        split
        · next y q hq =>
          have h1 := (read_rng F).1 _ _ _ _ _ (by decide) hq
          split
          · intro h; cases h
          · intro h; cases h
          · next hc => exact (iB _ _ (by omega) (by unfold left at *; omega) hc).elim
        · intro h; cases h
        · next hq => exact ((enough F).1 1 0 _ (by decide) (by decide) (by unfold fuel left at *; omega) hq).elim
      split
      · exact exThen_some hF (by omega)
      · exact exThen_some hF h0

theorem exThen_err {l : List TZ} {F : Nat} {z : UInt8} {i : Int} {g : EX → SX} {p c : Int} (h : exThen l F z i g = .err p c) : AtTok l p c := by
  unfold exThen at h
  split at h
  · split at h
    · cases h
    · injection h with h h'; exact ⟨⟨_, h.symm⟩, by rw [← h']; decide⟩
  · next hq => injection h with h h'; subst h; subst h'; exact (read_err F).1 _ _ _ _ _ hq
  · cases h

theorem stm_err {l : List TZ} {F : Nat} : ∀ f : Nat,
    (∀ d i p c, blk l F f d i = .err p c → AtTok l p c) ∧
    (∀ d i p c, rows l F f d i = .err p c → AtTok l p c) ∧
    (∀ d i p c, stm l F f d i = .err p c → AtTok l p c) := by
  intro f
  induction f with
  | zero =>
    refine ⟨?_, ?_, ?_⟩ <;> intros <;> simp [blk, rows, stm] at *
  | succ f ih =>
    obtain ⟨iB, iR, iS⟩ := ih
    have self : ∀ {α : Type} {q : Int} {e : Int} {p c : Int}, e ≠ 0 → (EO.err (α := α) (tkAt l q).pos e) = .err p c → AtTok l p c := fun he h => by
      injection h with h h'; exact ⟨⟨_, h.symm⟩, by rw [← h']; exact he⟩
    refine ⟨?_, ?_, ?_⟩
    · intro d i p c h
      unfold blk at h
      split at h
      · split at h
        · exact self (by decide) h
        · exact iR _ _ _ _ h
      · exact self (by decide) h
    · intro d i p c h
      unfold rows at h
      split at h
      · cases h
      · split at h
        · split at h
          · cases h
          · next hr => injection h with h h'; subst h; subst h'; exact iR _ _ _ _ hr
          · cases h
        · next hr => injection h with h h'; subst h; subst h'; exact iS _ _ _ _ hr
        · cases h
    · intro d i p c h
      unfold stm at h
      split at h
      · split at h
        · split at h
          · exact exThen_err h
          · exact self (by decide) h
        · exact self (by decide) h
      split at h
      · split at h
        · cases h
        · exact exThen_err h
      split at h
      · split at h
        · split at h
          · split at h
            · split at h
              · cases h
              · next hr => injection h with h h'; subst h; subst h'; exact iB _ _ _ _ hr
              · cases h
            · cases h
          · next hr => injection h with h h'; subst h; subst h'; exact iB _ _ _ _ hr
          · cases h
        · next hq => injection h with h h'; subst h; subst h'; exact (read_err F).1 _ _ _ _ _ hq
        · cases h
      split at h
      · split at h
        · split at h
          · cases h
          · next hr => injection h with h h'; subst h; subst h'; exact iB _ _ _ _ hr
          · cases h
        · next hq => injection h with h h'; subst h; subst h'; exact (read_err F).1 _ _ _ _ _ hq
        · cases h
      split at h
      · exact exThen_err h
      · exact exThen_err h

/-- More steps do no harm. -/
theorem stm_up {l : List TZ} {F : Nat} : ∀ f : Nat,
    (∀ d i x j g, f ≤ g → blk l F f d i = .ok x j → blk l F g d i = .ok x j) ∧
    (∀ d i x j g, f ≤ g → rows l F f d i = .ok x j → rows l F g d i = .ok x j) ∧
    (∀ d i x j g, f ≤ g → stm l F f d i = .ok x j → stm l F g d i = .ok x j) := by
  intro f
  induction f with
  | zero =>
    refine ⟨?_, ?_, ?_⟩ <;> intros <;> simp [blk, rows, stm] at *
  | succ f ih =>
    obtain ⟨iB, iR, iS⟩ := ih
    refine ⟨?_, ?_, ?_⟩
    · intro d i x j g hg h
      obtain ⟨g, rfl⟩ : ∃ k, g = k + 1 := ⟨g - 1, by omega⟩
      unfold blk at h ⊢
      split at h
      · next hn =>
        rw [if_pos hn]
        split at h
        · cases h
        · next hd => rw [if_neg hd]; exact iR _ _ _ _ _ (by omega) h
      · cases h
    · intro d i x j g hg h
      obtain ⟨g, rfl⟩ : ∃ k, g = k + 1 := ⟨g - 1, by omega⟩
      unfold rows at h ⊢
      split at h
      · next hn => rw [if_pos hn]; exact h
      · next hn =>
        rw [if_neg hn]
        split at h
        · next s q hq =>
          rw [iS _ _ _ _ g (by omega) hq]
          split at h
          · next r p hr =>
            simp only [iR _ _ _ _ g (by omega) hr]
            exact h
          · cases h
          · cases h
        · cases h
        · cases h
    · intro d i x j g hg h
      obtain ⟨g, rfl⟩ : ∃ k, g = k + 1 := ⟨g - 1, by omega⟩
      unfold stm at h ⊢
      split at h
      · next hn => rw [if_pos hn]; exact h
      next hn1 =>
      rw [if_neg hn1]
      split at h
      · next hn => rw [if_pos hn]; exact h
      next hn2 =>
      rw [if_neg hn2]
      split at h
      · next hn =>
        rw [if_pos hn]
        split at h
        · next y q hq =>
          split at h
          · next b p hp =>
            simp only [iB _ _ _ _ g (by omega) hp]
            split at h
            · next he =>
              rw [if_pos he]
              split at h
              · next c r hc =>
                simp only [iB _ _ _ _ g (by omega) hc]
                exact h
              · cases h
              · cases h
            · next he => rw [if_neg he]; exact h
          · cases h
          · cases h
        · cases h
        · cases h
      next hn3 =>
      rw [if_neg hn3]
      split at h
      · next hn =>
        rw [if_pos hn]
        split at h
        · next y q hq =>
          split at h
          · next b p hp =>
            simp only [iB _ _ _ _ g (by omega) hp]
            exact h
          · cases h
          · cases h
        · cases h
        · cases h
      next hn4 =>
      rw [if_neg hn4]
      exact h

end Go.Proofs.Ytoppknnjnfgbiaa

namespace Go.Proofs.Ytoppknnjnfgbiaa
open Go.RowKit
open Go.Lib hiding intOf

mutual
/-- A value is such a statement, with its parts in blocks of which P holds. -/
def IsSP (P : Nat → Prop) (w : World) : SX → Value → Prop
  | .mk k p nm h x u v, V => ∃ (e0 e1 e2 e3 e4 e5 e6 e7 e8 e9 e10 : Value) (o : Option Addr) (c : Nat) (o' : Option Addr) (c' : Nat),
      V = .agg #[.int .i64 k, .int .i64 p, .string nm, .bool h, e0, e1, e2, e3, e4, e5, e6, e7, e8, e9, e10, .slice o u.length c, .slice o' v.length c'] ∧
      IsEP P w x (.agg #[e0, e1, e2, e3, e4, e5, e6, e7, e8, e9, e10]) ∧ IsSPs P w o 0 u ∧ IsSPs P w o' 0 v
/-- A row of statements lies from an address on. -/
def IsSPs (P : Nat → Prop) (w : World) (o : Option Addr) : Nat → List SX → Prop
  | _, [] => True
  | i, y :: r => (∃ (b : Nat) (c0 c1 c2 c3 c4 c5 c6 c7 c8 c9 c10 c11 c12 c13 c14 c15 c16 : Value), o = some ⟨b, 0, none⟩ ∧ P b ∧
      w.cell? ⟨b, i * 17, none⟩ = some c0 ∧ w.cell? ⟨b, i * 17 + 1, none⟩ = some c1 ∧ w.cell? ⟨b, i * 17 + 2, none⟩ = some c2 ∧ w.cell? ⟨b, i * 17 + 3, none⟩ = some c3 ∧ w.cell? ⟨b, i * 17 + 4, none⟩ = some c4 ∧ w.cell? ⟨b, i * 17 + 5, none⟩ = some c5 ∧
      w.cell? ⟨b, i * 17 + 6, none⟩ = some c6 ∧ w.cell? ⟨b, i * 17 + 7, none⟩ = some c7 ∧ w.cell? ⟨b, i * 17 + 8, none⟩ = some c8 ∧ w.cell? ⟨b, i * 17 + 9, none⟩ = some c9 ∧ w.cell? ⟨b, i * 17 + 10, none⟩ = some c10 ∧ w.cell? ⟨b, i * 17 + 11, none⟩ = some c11 ∧
      w.cell? ⟨b, i * 17 + 12, none⟩ = some c12 ∧ w.cell? ⟨b, i * 17 + 13, none⟩ = some c13 ∧ w.cell? ⟨b, i * 17 + 14, none⟩ = some c14 ∧ w.cell? ⟨b, i * 17 + 15, none⟩ = some c15 ∧ w.cell? ⟨b, i * 17 + 16, none⟩ = some c16 ∧
      IsSP P w y (.agg #[c0, c1, c2, c3, c4, c5, c6, c7, c8, c9, c10, c11, c12, c13, c14, c15, c16])) ∧ IsSPs P w o (i + 1) r
end

mutual
theorem IsSP.keep {P P' : Nat → Prop} {w w' : World} (hP : ∀ (b i : Nat) (u : Value), P b → w.cell? ⟨b, i, none⟩ = some u → P' b) (hk : ∀ (b i : Nat) (u : Value), P b → w.cell? ⟨b, i, none⟩ = some u → w'.cell? ⟨b, i, none⟩ = some u) : ∀ {x : SX} {v : Value}, IsSP P w x v → IsSP P' w' x v
  | .mk .., _, h => by
    unfold IsSP at h ⊢
    obtain ⟨e0, e1, e2, e3, e4, e5, e6, e7, e8, e9, e10, o, c, o', c', hv, hx, hu, hw⟩ := h
    exact ⟨e0, e1, e2, e3, e4, e5, e6, e7, e8, e9, e10, o, c, o', c', hv, hx.keep hP hk, IsSPs.keep hP hk hu, IsSPs.keep hP hk hw⟩
theorem IsSPs.keep {P P' : Nat → Prop} {w w' : World} (hP : ∀ (b i : Nat) (u : Value), P b → w.cell? ⟨b, i, none⟩ = some u → P' b) (hk : ∀ (b i : Nat) (u : Value), P b → w.cell? ⟨b, i, none⟩ = some u → w'.cell? ⟨b, i, none⟩ = some u) : ∀ {i : Nat} {xs : List SX} {o : Option Addr}, IsSPs P w o i xs → IsSPs P' w' o i xs
  | _, [], _, _ => by unfold IsSPs; trivial
  | i, y :: r, _, h => by
    unfold IsSPs at h ⊢
    obtain ⟨⟨b, c0, c1, c2, c3, c4, c5, c6, c7, c8, c9, c10, c11, c12, c13, c14, c15, c16, ho, hb, h0, h1, h2, h3, h4, h5, h6, h7, h8, h9, h10, h11, h12, h13, h14, h15, h16, hy⟩, hr⟩ := h
    exact ⟨⟨b, c0, c1, c2, c3, c4, c5, c6, c7, c8, c9, c10, c11, c12, c13, c14, c15, c16, ho, hP _ _ _ hb h0, hk _ _ _ hb h0, hk _ _ _ hb h1, hk _ _ _ hb h2, hk _ _ _ hb h3, hk _ _ _ hb h4, hk _ _ _ hb h5, hk _ _ _ hb h6, hk _ _ _ hb h7, hk _ _ _ hb h8, hk _ _ _ hb h9, hk _ _ _ hb h10, hk _ _ _ hb h11, hk _ _ _ hb h12, hk _ _ _ hb h13, hk _ _ _ hb h14, hk _ _ _ hb h15, hk _ _ _ hb h16, IsSP.keep hP hk hy⟩, IsSPs.keep hP hk hr⟩
end
theorem IsSP.below {P : Nat → Prop} {w w' : World} {x : SX} {v : Value} (h : IsSP P w x v) (hb : Below w.heap.size w w') : IsSP P w' x v :=
  h.keep (fun _ _ _ h _ => h) fun _ _ _ _ hc => (hb.cell (World.block_lt_of_cell? _ _ hc)).trans hc
theorem IsSPs.below {P : Nat → Prop} {w w' : World} {o : Option Addr} {i : Nat} {xs : List SX} (h : IsSPs P w o i xs) (hb : Below w.heap.size w w') : IsSPs P w' o i xs :=
  h.keep (fun _ _ _ h _ => h) fun _ _ _ _ hc => (hb.cell (World.block_lt_of_cell? _ _ hc)).trans hc

/-- One element. -/
theorem IsSPs.at_ {P : Nat → Prop} {w : World} {o : Option Addr} : ∀ {xs : List SX} {i : Nat} (k : Nat) {y : SX}, IsSPs P w o i xs → xs[k]? = some y → IsSPs P w o (i + k) [y]
  | [], _, _, _, _, h => by simp at h
  | x :: r, i, 0, y, h, hy => by
    simp at hy; subst hy
    unfold IsSPs at h ⊢
    exact ⟨h.1, by unfold IsSPs; trivial⟩
  | x :: r, i, k + 1, y, h, hy => by
    unfold IsSPs at h
    have := IsSPs.at_ (i := i + 1) k h.2 (by simpa using hy)
    rwa [show i + 1 + k = i + (k + 1) by omega] at this

theorem IsSP.parts {P : Nat → Prop} {w : World} {x : SX} {v : Value} (h : IsSP P w x v) : ∃ (e0 e1 e2 e3 e4 e5 e6 e7 e8 e9 e10 : Value) (o : Option Addr) (c : Nat) (o' : Option Addr) (c' : Nat),
    v = .agg #[.int .i64 x.kind, .int .i64 x.pos, .string x.name, .bool x.has, e0, e1, e2, e3, e4, e5, e6, e7, e8, e9, e10, .slice o x.body.length c, .slice o' x.other.length c'] ∧ IsEP P w x.expr (.agg #[e0, e1, e2, e3, e4, e5, e6, e7, e8, e9, e10]) ∧ IsSPs P w o 0 x.body ∧ IsSPs P w o' 0 x.other := by
  cases x with
  | mk k p nm h x u v =>
    unfold IsSP at h
    exact h

theorem body_lt (x : SX) : SizeOf.sizeOf x.body < SizeOf.sizeOf x := by
  cases x with
  | mk k p nm h x u v => simp only [SX.mk.sizeOf_spec, SX.body]; omega
theorem other_lt (x : SX) : SizeOf.sizeOf x.other < SizeOf.sizeOf x := by
  cases x with
  | mk k p nm h x u v => simp only [SX.mk.sizeOf_spec, SX.other]; omega
theorem elem_lt {l : List SX} {k : Nat} {x : SX} (h : l[k]? = some x) : SizeOf.sizeOf x < SizeOf.sizeOf l := List.sizeOf_lt_of_mem (List.mem_of_getElem? h)

end Go.Proofs.Ytoppknnjnfgbiaa

namespace Go.Proofs.Ytoppknnjnfgbiaa

def shZ (b : Int) (t : TZ) : TZ := ⟨t.kind, t.pos + b, t.stop + b, t.text⟩
def shT (b : Int) : TX → TX
  | .leaf k p g n => .leaf k (p + b) g n
  | .list p x => .list (p + b) (shT b x)
mutual
def shX (b : Int) : EX → EX
  | .mk k p s n m t a => .mk k (p + b) (s + b) n m (if k = 8 then shT b t else t) (shXL b a)
def shXL (b : Int) : List EX → List EX
  | [] => []
  | x :: r => shX b x :: shXL b r
end
theorem shT_zero : ∀ t : TX, shT 0 t = t
  | .leaf k p g n => by unfold shT; rw [Int.add_zero]
  | .list p x => by unfold shT; rw [Int.add_zero, shT_zero x]
mutual
theorem shX_zero : ∀ x : EX, shX 0 x = x
  | .mk k p s n m t a => by
    unfold shX
    rw [Int.add_zero, Int.add_zero, shXL_zero a, shT_zero, ite_self]
theorem shXL_zero : ∀ l : List EX, shXL 0 l = l
  | [] => by unfold shXL; rfl
  | x :: r => by unfold shXL; rw [shX_zero x, shXL_zero r]
end

/-- The tokens of l from a on, up to e, stand in m, s places and b bytes behind. -/
structure Shf (l m : List TZ) (s b a e : Int) : Prop where
  tok : ∀ j : Int, a ≤ j → j < e → tkAt m (j + s) = shZ b (tkAt l j)

section
variable {l m : List TZ} {s b a e : Int}

theorem Shf.kind (S : Shf l m s b a e) {j : Int} (h0 : a ≤ j) (h1 : j < e) : (tkAt m (j + s)).kind = (tkAt l j).kind := by rw [S.tok j h0 h1]; rfl
theorem Shf.text (S : Shf l m s b a e) {j : Int} (h0 : a ≤ j) (h1 : j < e) : (tkAt m (j + s)).text = (tkAt l j).text := by rw [S.tok j h0 h1]; rfl
theorem Shf.pos (S : Shf l m s b a e) {j : Int} (h0 : a ≤ j) (h1 : j < e) : (tkAt m (j + s)).pos = (tkAt l j).pos + b := by rw [S.tok j h0 h1]; rfl
theorem Shf.stop (S : Shf l m s b a e) {j : Int} (h0 : a ≤ j) (h1 : j < e) : (tkAt m (j + s)).stop = (tkAt l j).stop + b := by rw [S.tok j h0 h1]; rfl
theorem Shf.sym (S : Shf l m s b a e) {j : Int} (h0 : a ≤ j) (h1 : j < e) (c : UInt8) : isS (tkAt m (j + s)) c = isS (tkAt l j) c := by rw [S.tok j h0 h1]; rfl
theorem Shf.word (S : Shf l m s b a e) {j : Int} (h0 : a ≤ j) (h1 : j < e) (c : List UInt8) : isW (tkAt m (j + s)) c = isW (tkAt l j) c := by rw [S.tok j h0 h1]; rfl
theorem Shf.lvl (S : Shf l m s b a e) {j : Int} (h0 : a ≤ j) (h1 : j < e) : lvlOf (tkAt m (j + s)) = lvlOf (tkAt l j) := by rw [S.tok j h0 h1]; rfl
theorem Shf.kt (S : Shf l m s b a e) {j : Int} (h0 : a ≤ j) (h1 : j < e) (k : Int) (c : ByteArray) : isKT (tkAt m (j + s)) k c = isKT (tkAt l j) k c := by rw [S.tok j h0 h1]; rfl

theorem Shf.elm (S : Shf l m s b a e) {i : Int} {t : TX} {j : Int} (h0 : a ≤ i) (hj : j < e) (h : elm l i = .ok t j) : elm m (i + s) = .ok (shT b t) (j + s) := by
  have hr := elm_rng h
  unfold Go.Proofs.Ytoppknnjnfgbiaa.elm at h ⊢
  have k0 := S.kind h0 (show i < e by omega)
  have x0 := S.text h0 (show i < e by omega)
  have p0 := S.pos h0 (show i < e by omega)
  rw [k0, x0, p0]
  split at h
  · next h1 =>
    rw [if_pos h1]
    split at h
    · next h2 =>
      split at h
      · next h3 =>
        injection h with h h'
        have s1 := S.kt (j := i + 1) (by omega) (by omega) 4 ⟨#[46]⟩
        have k2 := S.kind (j := i + 2) (by omega) (by omega)
        have x2 := S.text (j := i + 2) (by omega) (by omega)
        rw [show i + s + 1 = i + 1 + s by omega, show i + s + 2 = i + 2 + s by omega, s1, h2, if_pos rfl, k2, if_pos h3, x2, ← h]
        unfold shT
        rw [show j + s = i + s + 3 by omega]
      · cases h
    · next h2 =>
      injection h with h h'
      have s1 := S.kt (j := i + 1) (by omega) (by omega) 4 ⟨#[46]⟩
      rw [show i + s + 1 = i + 1 + s by omega, s1, if_neg h2, ← h]
      unfold shT
      rw [show j + s = i + 1 + s by omega]
  · next h1 =>
    rw [if_neg h1]
    split at h
    · next h5 =>
      rw [if_pos h5]
      injection h with h h'
      rw [← h]
      unfold shT
      rw [show j + s = i + s + 1 by omega]
    · cases h

theorem Shf.prs (S : Shf l m s b a e) : ∀ (k : Nat) {i : Int} {t : TX} {j : Int}, a ≤ i → j < e → prs l k i = .ok t j → prs m k (i + s) = .ok (shT b t) (j + s)
  | 0, i, t, j, h0, hj, h => by
    have hr := prs_rng h
    unfold Go.Proofs.Ytoppknnjnfgbiaa.prs at h ⊢
    rw [S.kt h0 (by omega)]
    split at h
    · cases h
    · next h1 => rw [if_neg h1]; exact S.elm h0 hj h
  | k + 1, i, t, j, h0, hj, h => by
    have hr := prs_rng h
    unfold Go.Proofs.Ytoppknnjnfgbiaa.prs at h ⊢
    rw [S.kt h0 (by omega)]
    split at h
    · next h1 =>
      rw [if_pos h1]
      split at h
      · next h2 =>
        cases hp : Go.Proofs.Ytoppknnjnfgbiaa.prs l k (i + 2) with
        | ok y n =>
          rw [hp] at h
          have hq := prs_rng hp
          injection h with h h'
          rw [show i + s + 1 = i + 1 + s by omega, S.kt (by omega) (by omega), if_pos h2, show i + s + 2 = i + 2 + s by omega, S.prs k (by omega) (by omega) hp, S.pos h0 (by omega), ← h, ← h']
          rfl
        | err q d => rw [hp] at h; cases h
      · cases h
    · next h1 => rw [if_neg h1]; exact S.elm h0 hj h

theorem shX_bin (b p q : Int) (op : ByteArray) (x y : EX) : shX b (mkBin p q op x y) = mkBin (p + b) (q + b) op (shX b x) (shX b y) := by
  unfold mkBin; simp [shX, shXL]
theorem shX_not (b p q : Int) (x : EX) : shX b (mkNot p q x) = mkNot (p + b) (q + b) (shX b x) := by
  unfold mkNot; simp [shX, shXL]
theorem shX_sel (b p q : Int) (n : ByteArray) (x : EX) : shX b (mkSel p x n q) = mkSel (p + b) (shX b x) n (q + b) := by
  unfold mkSel; simp [shX, shXL]
theorem shX_call (b p q : Int) (x : EX) (ys : List EX) : shX b (mkCall p x ys q) = mkCall (p + b) (shX b x) (shXL b ys) (q + b) := by
  unfold mkCall; simp [shX, shXL]
theorem shX_idx (b p q : Int) (x y : EX) : shX b (mkIdx p x y q) = mkIdx (p + b) (shX b x) (shX b y) (q + b) := by
  unfold mkIdx; simp [shX, shXL]
theorem shX_leaf (b k p q n : Int) (nm : ByteArray) (hk : k ≠ 8) : shX b (.mk k p q n nm noTX []) = .mk k (p + b) (q + b) n nm noTX [] := by
  unfold shX shXL; rw [if_neg hk]

theorem read_shf (S : Shf l m s b a e) : ∀ f : Nat,
    (∀ k d i x j, k ≠ 0 → a ≤ i → j < e → ex l f k d i = .ok x j → ex m f k d (i + s) = .ok (shX b x) (j + s)) ∧
    (∀ k d c x i z j, k ≠ 0 → a ≤ i → a ≤ c → c < e → j < e → binT l f k d c x i = .ok z j → binT m f k d (c + s) (shX b x) (i + s) = .ok (shX b z) (j + s)) ∧
    (∀ d i x j, a ≤ i → j < e → una l f d i = .ok x j → una m f d (i + s) = .ok (shX b x) (j + s)) ∧
    (∀ d i x j, a ≤ i → j < e → prim l f d i = .ok x j → prim m f d (i + s) = .ok (shX b x) (j + s)) ∧
    (∀ d c x i z j, a ≤ i → a ≤ c → c < e → j < e → post l f d c x i = .ok z j → post m f d (c + s) (shX b x) (i + s) = .ok (shX b z) (j + s)) ∧
    (∀ z d i ys j, a ≤ i → j < e → lst l f z d i = .ok ys j → lst m f z d (i + s) = .ok (shXL b ys) (j + s)) ∧
    (∀ z d i ys j, a ≤ i → j < e → items l f z d i = .ok ys j → items m f z d (i + s) = .ok (shXL b ys) (j + s)) := by
  intro f
  induction f with
  | zero =>
    refine ⟨?_, ?_, ?_, ?_, ?_, ?_, ?_⟩ <;> intros <;> simp [ex, binT, una, prim, post, lst, items] at *
  | succ f ih =>
    obtain ⟨iE, iB, iU, iP, iT, iL, iI⟩ := ih
    obtain ⟨rE, rB, rU, rP, rT, rL, rI⟩ := read_rng (l := l) f
    refine ⟨?_, ?_, ?_, ?_, ?_, ?_, ?_⟩
    · intro k d i x j hk h0 hj h
      unfold ex at h ⊢
      split at h
      · next h5 => rw [if_pos h5]; exact iU _ _ _ _ h0 hj h
      · next h5 =>
        rw [if_neg h5]
        split at h
        · next y q hq =>
          have h1 := rE _ _ _ _ _ (by omega) hq
          have h2 := rB _ _ _ _ _ _ _ hk h
          simp only [iE _ _ _ _ _ (by omega) h0 (by omega) hq]
          exact iB _ _ _ _ _ _ _ hk (by omega) h0 (by omega) hj h
        · cases h
        · cases h
    · intro k d c x i z j hk h0 hc0 hc1 hj h
      have hr := (read_rng (l := l) (f + 1)).2.1 _ _ _ _ _ _ _ hk h
      unfold binT at h ⊢
      rw [S.lvl h0 (by omega)]
      split at h
      · next hl =>
        rw [if_pos hl]
        split at h
        · next y q hq =>
          have h1 := rE _ _ _ _ _ (by omega) hq
          have h2 := rB _ _ _ _ _ _ _ hk h
          rw [show i + s + 1 = i + 1 + s by omega]
          simp only [iE _ _ _ _ _ (by omega) (by omega) (by omega) hq]
          rw [show q + s - 1 = q - 1 + s by omega, S.pos hc0 hc1, S.stop (by omega) (by omega), S.text h0 (by omega), ← shX_bin]
          exact iB _ _ _ _ _ _ _ hk (by omega) hc0 hc1 hj h
        · cases h
        · cases h
      · next hl =>
        rw [if_neg hl]
        injection h with h h'
        rw [h, h']
    · intro d i x j h0 hj h
      have hr := (read_rng (l := l) (f + 1)).2.2.1 _ _ _ _ h
      unfold una at h ⊢
      rw [S.sym h0 (by omega)]
      split at h
      · next hn =>
        rw [if_pos hn]
        split at h
        · cases h
        · next hd =>
          rw [if_neg hd]
          split at h
          · next y q hq =>
            have h1 := rU _ _ _ _ hq
            injection h with h h'
            rw [show i + s + 1 = i + 1 + s by omega]
            simp only [iU _ _ _ _ (by omega) (by omega) hq]
            rw [show q + s - 1 = q - 1 + s by omega, S.pos h0 (by omega), S.stop (by omega) (by omega), ← shX_not, h, h']
          · cases h
          · cases h
      · next hn =>
        rw [if_neg hn]
        split at h
        · next y q hq =>
          have h1 := rP _ _ _ _ hq
          have h2 := rT _ _ _ _ _ _ h
          simp only [iP _ _ _ _ h0 (by omega) hq]
          exact iT _ _ _ _ _ _ (by omega) h0 (by omega) hj h
        · cases h
        · cases h
    · intro d i x j h0 hj h
      have hr := (read_rng (l := l) (f + 1)).2.2.2.1 _ _ _ _ h
      have hi : i < e := by omega
      unfold prim at h ⊢
      rw [S.kind h0 hi, S.text h0 hi, S.pos h0 hi, S.stop h0 hi, S.word h0 hi, S.word h0 hi, S.word h0 hi, S.sym h0 hi]
      split at h
      · next hk =>
        rw [if_pos hk]
        split at h
        · next n hn => injection h with h h'; rw [← h, ← h', shX_leaf _ _ _ _ _ _ (by decide), show i + s + 1 = i + 1 + s by omega]
        · cases h
      next hk2 =>
      rw [if_neg hk2]
      split at h
      · next hk =>
        rw [if_pos hk]
        split at h
        · next hq => injection h with h h'; rw [if_pos hq, ← h, ← h', shX_leaf _ _ _ _ _ _ (by decide), show i + s + 1 = i + 1 + s by omega]
        · cases h
      next hk3 =>
      rw [if_neg hk3]
      split at h
      · next hk => injection h with h h'; rw [if_pos hk, ← h, ← h', shX_leaf _ _ _ _ _ _ (by decide), show i + s + 1 = i + 1 + s by omega]
      next hk4 =>
      rw [if_neg hk4]
      split at h
      · next hk => injection h with h h'; rw [if_pos hk, ← h, ← h', shX_leaf _ _ _ _ _ _ (by decide), show i + s + 1 = i + 1 + s by omega]
      next hk5 =>
      rw [if_neg hk5]
      split at h
      · next hk => injection h with h h'; rw [if_pos hk, ← h, ← h', shX_leaf _ _ _ _ _ _ (by decide), show i + s + 1 = i + 1 + s by omega]
      next hk6 =>
      rw [if_neg hk6]
      split at h
      · next hk =>
        rw [if_pos hk]
        split at h
        · cases h
        · next hd =>
          rw [if_neg hd]
          split at h
          · next y q hq =>
            have h1 := rE _ _ _ _ _ (by omega) hq
            split at h
            · next hc =>
              injection h with h h'
              rw [show i + s + 1 = i + 1 + s by omega]
              simp only [iE _ _ _ _ _ (by omega) (by omega) (by omega) hq]
              rw [S.sym (by omega) (by omega), if_pos hc, h, ← h', show q + s + 1 = q + 1 + s by omega]
            · cases h
          · cases h
          · cases h
      next hk7 =>
      rw [if_neg hk7]
      split at h
      · next hk =>
        rw [if_pos hk]
        split at h
        · next t q hq =>
          have hp := prs_rng hq
          split at h
          · next hc =>
            split at h
            · next ys r hys =>
              have h2 := rL _ _ _ _ _ hys
              injection h with h h'
              rw [show i + s + 1 = i + 1 + s by omega]
              simp only [S.prs 30 (show a ≤ i + 1 by omega) (show q < e by omega) hq]
              rw [S.sym (by omega) (by omega), if_pos hc]
              simp only [iL _ _ _ _ _ (show a ≤ q by omega) (show r < e by omega) hys]
              rw [show r + s - 1 = r - 1 + s by omega, S.stop (by omega) (by omega), ← h, ← h']
              simp [shX]
            · cases h
            · cases h
          · cases h
        · cases h
      · cases h
    · intro d c x i z j h0 hc0 hc1 hj h
      have hr := (read_rng (l := l) (f + 1)).2.2.2.2.1 _ _ _ _ _ _ h
      have hi : i < e := by omega
      unfold post at h ⊢
      rw [S.sym h0 hi, S.sym h0 hi, S.sym h0 hi, S.pos hc0 hc1]
      split at h
      · next hn =>
        rw [if_pos hn]
        split at h
        · next hk =>
          have h2 := rT _ _ _ _ _ _ h
          rw [show i + s + 1 = i + 1 + s by omega, S.kind (by omega) (by omega), if_pos hk, S.text (by omega) (by omega), S.stop (by omega) (by omega), ← shX_sel, show i + s + 2 = i + 2 + s by omega]
          exact iT _ _ _ _ _ _ (by omega) hc0 hc1 hj h
        · cases h
      next hn1 =>
      rw [if_neg hn1]
      split at h
      · next hn =>
        rw [if_pos hn]
        split at h
        · next ys q hys =>
          have h1 := rL _ _ _ _ _ hys
          have h2 := rT _ _ _ _ _ _ h
          simp only [iL _ _ _ _ _ h0 (show q < e by omega) hys]
          rw [show q + s - 1 = q - 1 + s by omega, S.stop (by omega) (by omega), ← shX_call]
          exact iT _ _ _ _ _ _ (by omega) hc0 hc1 hj h
        · cases h
        · cases h
      next hn2 =>
      rw [if_neg hn2]
      split at h
      · next hn =>
        rw [if_pos hn]
        split at h
        · cases h
        · next hd =>
          rw [if_neg hd]
          split at h
          · next y q hq =>
            have h1 := rE _ _ _ _ _ (by omega) hq
            split at h
            · next hc =>
              have h2 := rT _ _ _ _ _ _ h
              rw [show i + s + 1 = i + 1 + s by omega]
              simp only [iE _ _ _ _ _ (by omega) (show a ≤ i + 1 by omega) (show q < e by omega) hq]
              rw [S.sym (by omega) (by omega), if_pos hc, S.stop (by omega) (by omega), ← shX_idx, show q + s + 1 = q + 1 + s by omega]
              exact iT _ _ _ _ _ _ (by omega) hc0 hc1 hj h
            · cases h
          · cases h
          · cases h
      next hn3 =>
      rw [if_neg hn3]
      injection h with h h'
      rw [h, h']
    · intro z d i ys j h0 hj h
      have hr := (read_rng (l := l) (f + 1)).2.2.2.2.2.1 _ _ _ _ _ h
      unfold lst at h ⊢
      split at h
      · cases h
      next hd =>
      rw [if_neg hd]
      split at h
      · next hn =>
        injection h with h h'
        rw [show i + s + 1 = i + 1 + s by omega, S.sym (by omega) (by omega), if_pos hn, ← h, ← h', show i + s + 2 = i + 2 + s by omega]
        unfold shXL
        rfl
      · next hn =>
        have h1 := rI _ _ _ _ _ h
        rw [show i + s + 1 = i + 1 + s by omega, S.sym (by omega) (by omega), if_neg hn]
        exact iI _ _ _ _ _ (by omega) hj h
    · intro z d i ys j h0 hj h
      unfold items at h ⊢
      split at h
      · next y q hq =>
        have h1 := rE _ _ _ _ _ (by omega) hq
        split at h
        · next hc =>
          split at h
          · next zs r hzs =>
            have h2 := rI _ _ _ _ _ hzs
            injection h with h h'
            simp only [iE _ _ _ _ _ (by omega) h0 (show q < e by omega) hq]
            rw [S.sym (by omega) (by omega), if_pos hc, show q + s + 1 = q + 1 + s by omega]
            simp only [iI _ _ _ _ _ (show a ≤ q + 1 by omega) (show r < e by omega) hzs]
            rw [← h, ← h']
            simp [shXL]
          · cases h
          · cases h
        · next hc =>
          split at h
          · next hz =>
            injection h with h h'
            simp only [iE _ _ _ _ _ (by omega) h0 (show q < e by omega) hq]
            rw [S.sym (by omega) (by omega), S.sym (by omega) (by omega), if_neg hc, if_pos hz, ← h, ← h', show q + s + 1 = q + 1 + s by omega]
            simp [shXL]
          · cases h
      · cases h
      · cases h

end

end Go.Proofs.Ytoppknnjnfgbiaa

namespace Go.Proofs.Ytoppknnjnfgbiaa

mutual
def shS (b : Int) : SX → SX
  | .mk k p n h x u v => .mk k (p + b) n h (if k = 3 ∧ h = false then x else shX b x) (shSL b u) (shSL b v)
def shSL (b : Int) : List SX → List SX
  | [] => []
  | x :: r => shS b x :: shSL b r
end
mutual
theorem shS_zero : ∀ x : SX, shS 0 x = x
  | .mk k p n h x u v => by
    unfold shS
    rw [Int.add_zero, shX_zero, ite_self, shSL_zero u, shSL_zero v]
theorem shSL_zero : ∀ l : List SX, shSL 0 l = l
  | [] => by unfold shSL; rfl
  | x :: r => by unfold shSL; rw [shS_zero x, shSL_zero r]
end

section
variable {l m : List TZ} {s b a e : Int}

theorem Shf.exThen (S : Shf l m s b a e) {F : Nat} {z : UInt8} {i : Int} {g g' : EX → SX} {t : SX} {j : Int} (hg : ∀ x, g' (shX b x) = shS b (g x)) (h0 : a ≤ i) (hj : j ≤ e) (h : exThen l F z i g = .ok t j) : exThen m F z (i + s) g' = .ok (shS b t) (j + s) := by
  have hr := exThen_rng h
  unfold Go.Proofs.Ytoppknnjnfgbiaa.exThen at h ⊢
  split at h
  · next x q hq =>
    have h1 := (read_rng F).1 _ _ _ _ _ (by decide) hq
    split at h
    · next hc =>
      injection h with h h'
      simp only [(read_shf S F).1 1 0 i x q (by decide) h0 (by omega) hq]
      rw [S.sym (by omega) (by omega), if_pos hc, hg, h, ← h', show q + s + 1 = q + 1 + s by omega]
    · cases h
  · cases h
  · cases h

theorem stm_shf (S : Shf l m s b a e) {F : Nat} : ∀ f : Nat,
    (∀ d i x j, a ≤ i → j ≤ e → blk l F f d i = .ok x j → blk m F f d (i + s) = .ok (shSL b x) (j + s)) ∧
    (∀ d i x j, a ≤ i → j ≤ e → rows l F f d i = .ok x j → rows m F f d (i + s) = .ok (shSL b x) (j + s)) ∧
    (∀ d i x j, a ≤ i → j ≤ e → isW (tkAt m (j + s)) wElse = isW (tkAt l j) wElse → stm l F f d i = .ok x j → stm m F f d (i + s) = .ok (shS b x) (j + s)) := by
  intro f
  induction f with
  | zero =>
    refine ⟨?_, ?_, ?_⟩ <;> intros <;> simp [blk, rows, stm] at *
  | succ f ih =>
    obtain ⟨iB, iR, iS⟩ := ih
    obtain ⟨rB, rR, rS⟩ := stm_rng (l := l) (F := F) f
    refine ⟨?_, ?_, ?_⟩
    · intro d i x j h0 hj h
      have hr := (stm_rng (l := l) (F := F) (f + 1)).1 _ _ _ _ h
      unfold blk at h ⊢
      rw [S.sym h0 (by omega)]
      split at h
      · next hn =>
        rw [if_pos hn]
        split at h
        · cases h
        · next hd =>
          rw [if_neg hd, show i + s + 1 = i + 1 + s by omega]
          exact iR _ _ _ _ (by omega) hj h
      · cases h
    · intro d i x j h0 hj h
      have hr := (stm_rng (l := l) (F := F) (f + 1)).2.1 _ _ _ _ h
      unfold rows at h ⊢
      rw [S.sym h0 (by omega)]
      split at h
      · next hn =>
        injection h with h h'
        rw [if_pos hn, ← h, ← h', show i + s + 1 = i + 1 + s by omega]
        unfold shSL
        rfl
      · next hn =>
        rw [if_neg hn]
        split at h
        · next t q hq =>
          have h1 := rS _ _ _ _ hq
          split at h
          · next r p hp =>
            have h2 := rR _ _ _ _ hp
            injection h with h h'
            simp only [iS _ _ _ _ h0 (show q ≤ e by omega) (S.word (by omega) (by omega) _) hq, iR _ _ _ _ (show a ≤ q by omega) (show p ≤ e by omega) hp]
            rw [← h, ← h']
            simp [shSL]
          · cases h
          · cases h
        · cases h
        · cases h
    · intro d i x j h0 hj hw h
      have hr := (stm_rng (l := l) (F := F) (f + 1)).2.2 _ _ _ _ h
      have hi : i < e := by omega
      unfold stm at h ⊢
      rw [S.word h0 hi, S.word h0 hi, S.word h0 hi, S.word h0 hi, S.pos h0 hi, S.text h0 hi]
      split at h
      · next hn =>
        rw [if_pos hn]
        split at h
        · next hk =>
          split at h
          · next hq =>
            have h1 := exThen_rng h
            rw [show i + s + 1 = i + 1 + s by omega, show i + s + 2 = i + 2 + s by omega, show i + s + 3 = i + 3 + s by omega, S.kind (by omega) (by omega), if_pos hk, S.sym (by omega) (by omega), if_pos hq, S.text (by omega) (by omega)]
            exact S.exThen (fun y => by simp [shS, shSL]) (by omega) hj h
          · cases h
        · cases h
      next hn1 =>
      rw [if_neg hn1]
      split at h
      · next hn =>
        rw [if_pos hn, show i + s + 1 = i + 1 + s by omega]
        split at h
        · next hs =>
          injection h with h h'
          rw [S.sym (by omega) (by omega), if_pos hs, ← h, ← h', show i + s + 2 = i + 2 + s by omega]
          simp [shS, shSL]
        · next hs =>
          have h1 := exThen_rng h
          rw [S.sym (by omega) (by omega), if_neg hs]
          exact S.exThen (fun y => by simp [shS, shSL]) (by omega) hj h
      next hn2 =>
      rw [if_neg hn2]
      split at h
      · next hn =>
        rw [if_pos hn, show i + s + 1 = i + 1 + s by omega]
        split at h
        · next y q hq =>
          have h1 := (read_rng F).1 _ _ _ _ _ (by decide) hq
          split at h
          · next u p hp =>
            have h2 := rB _ _ _ _ hp
            split at h
            · next he =>
              split at h
              · next v r hv =>
                have h3 := rB _ _ _ _ hv
                injection h with h h'
                simp only [(read_shf S F).1 1 0 _ _ _ (by decide) (show a ≤ i + 1 by omega) (show q < e by omega) hq, iB _ _ _ _ (show a ≤ q by omega) (show p ≤ e by omega) hp]
                rw [S.word (by omega) (by omega), if_pos he, show p + s + 1 = p + 1 + s by omega]
                simp only [iB _ _ _ _ (show a ≤ p + 1 by omega) (show r ≤ e by omega) hv]
                rw [← h, ← h']
                simp [shS]
              · cases h
              · cases h
            · next he =>
              injection h with h h'
              subst h'
              simp only [(read_shf S F).1 1 0 _ _ _ (by decide) (show a ≤ i + 1 by omega) (show q < e by omega) hq, iB _ _ _ _ (show a ≤ q by omega) (show p ≤ e by omega) hp]
              rw [hw, if_neg he, ← h]
              simp [shS, shSL]
          · cases h
          · cases h
        · cases h
        · cases h
      next hn3 =>
      rw [if_neg hn3]
      split at h
      · next hn =>
        rw [if_pos hn, show i + s + 1 = i + 1 + s by omega]
        split at h
        · next y q hq =>
          have h1 := (read_rng F).1 _ _ _ _ _ (by decide) hq
          split at h
          · next u p hp =>
            have h2 := rB _ _ _ _ hp
            injection h with h h'
            simp only [(read_shf S F).1 1 0 _ _ _ (by decide) (show a ≤ i + 1 by omega) (show q < e by omega) hq, iB _ _ _ _ (show a ≤ q by omega) (show p ≤ e by omega) hp]
            rw [← h, ← h']
            simp [shS, shSL]
          · cases h
          · cases h
        · cases h
        · cases h
      next hn4 =>
      rw [if_neg hn4]
      have hset : i + 1 < e → isSet m (i + s) = isSet l i := fun h1 => by
        unfold isSet
        rw [S.kind h0 hi, show i + s + 1 = i + 1 + s by omega, S.sym (by omega) h1]
      split at h
      · next hs =>
        have h1 := exThen_rng h
        rw [hset (by omega), if_pos hs, show i + s + 2 = i + 2 + s by omega]
        exact S.exThen (fun y => by simp [shS, shSL]) (by omega) hj h
      · next hs =>
        have h1 := exThen_rng h
        rw [hset (by omega), if_neg hs]
        exact S.exThen (fun y => by simp [shS, shSL]) h0 hj h

end

/-- What stands behind a block does not matter. -/
theorem blk_behind {l more : List TZ} {F f d n : Nat} {x : List SX} (h : blk l F f d 0 = .ok x (n : Nat)) : blk (l.take n ++ more) F f d 0 = .ok x (n : Nat) := by
  have hr := (stm_rng (l := l) (F := F) f).1 _ _ _ _ h
  have S : Shf l (l.take n ++ more) 0 0 0 (n : Nat) := ⟨fun j h0 h1 => by
    obtain ⟨k, rfl⟩ : ∃ k : Nat, j = k := ⟨j.toNat, by omega⟩
    rw [Int.add_zero]
    have hk : k < l.length := by omega
    have e1 : tkAt l (k : Nat) = l[k] := tkAt_in (List.getElem?_eq_getElem hk)
    have e2 : tkAt (l.take n ++ more) (k : Nat) = l[k] := tkAt_in (by
      rw [List.getElem?_append_left (by rw [List.length_take]; omega), List.getElem?_take_of_lt (by omega), List.getElem?_eq_getElem hk])
    rw [e1, e2]
    unfold shZ
    rw [Int.add_zero, Int.add_zero]⟩
  have := (stm_shf S f).1 _ _ _ _ (Int.le_refl _) (Int.le_refl _) h
  rw [shSL_zero, Int.add_zero, Int.add_zero] at this
  exact this

theorem isS_not_word {t : TZ} {c : UInt8} {w : List UInt8} (h : isS t c = true) : isW t w = false := by
  unfold isW; rw [isS_kind h]; rfl

/-- A row of statements up to its end, and another one behind it in place of the end. -/
theorem rows_app {l m : List TZ} {a e : Int} (S : Shf l m 0 0 a e) {F : Nat} (he : isS (tkAt l e) 125 = true) (hw : isW (tkAt m e) wElse = false) {g d : Nat} {Y : List SX} {q : Int} (hY : rows m F g d e = .ok Y q) :
    ∀ (f : Nat) (i : Int) (X : List SX), a ≤ i → rows l F f d i = .ok X (e + 1) → rows m F (f + g) d i = .ok (X ++ Y) q
  | 0, i, X, _, h => by simp [rows] at h
  | f + 1, i, X, h0, h => by
    have hr := (stm_rng (l := l) (F := F) (f + 1)).2.1 _ _ _ _ h
    rw [rows] at h
    split at h
    · next hn =>
      injection h with h h'
      rw [show i = e by omega, ← h, List.nil_append]
      exact (stm_up g).2.1 _ _ _ _ _ (by omega) hY
    · next hn =>
      split at h
      · next t p hp =>
        have h1 := (stm_rng (l := l) (F := F) f).2.2 _ _ _ _ hp
        split at h
        · next r u hu =>
          have h2 := (stm_rng (l := l) (F := F) f).2.1 _ _ _ _ hu
          injection h with h h'
          subst h'
          have hs : stm m F f d i = .ok t p := by
            have := (stm_shf S f).2.2 d i t p h0 (by omega) (by
              rw [Int.add_zero]
              by_cases hpe : p < e
              · have := S.word (j := p) (by omega) hpe wElse
                rw [Int.add_zero] at this; exact this
              · rw [show p = e by omega, hw, isS_not_word he]) hp
            rw [shS_zero, Int.add_zero, Int.add_zero] at this
            exact this
          have hR := rows_app S he hw hY f p r (by omega) hu
          have hsym := S.sym (j := i) h0 (by omega) 125
          rw [Int.add_zero] at hsym
          rw [show f + 1 + g = (f + g) + 1 by omega, rows, hsym, if_neg hn]
          simp only [(stm_up f).2.2 _ _ _ _ (f + g) (by omega) hs, hR]
          rw [← h, List.cons_append]
        · cases h
        · cases h
      · cases h
      · cases h

/-- A word that begins no statement. -/
theorem rows_no_else {l : List TZ} {F f d : Nat} {i : Int} {x : List SX} {j : Int} (h : rows l F f d i = .ok x j) : isW (tkAt l i) wElse = false := by
  refine Classical.byContradiction fun hc => ?_
  have hw : isW (tkAt l i) wElse = true := by simpa using hc
  have hk : (tkAt l i).kind = 5 := isW_kind hw
  have ht : (tkAt l i).text.data.toList = wElse := by
    unfold isW at hw
    simp only [Bool.and_eq_true, decide_eq_true_eq] at hw
    exact hw.2
  have nS : ∀ c, isS (tkAt l i) c = false := fun c => by unfold isS; rw [hk]; rfl
  have nW : ∀ w, w ≠ wElse → isW (tkAt l i) w = false := fun w hn => by
    unfold isW; rw [ht, decide_eq_false (p := wElse = w) (fun q => hn q.symm), Bool.and_false]
  have nE : ∀ F k d x j, k ≠ 0 → ex l F k d i ≠ .ok x j := by
    have nP : ∀ F d x j, prim l F d i ≠ .ok x j := by
      intro F d x j h
      cases F with
      | zero => simp [prim] at h
      | succ F =>
        rw [prim, if_neg (by rw [hk]; decide), if_neg (by rw [hk]; decide), if_neg (by rw [nW _ (by decide)]; decide), if_neg (by rw [nW _ (by decide)]; decide), if_neg (by rw [hk]; decide), if_neg (by rw [nS]; decide), if_neg (by rw [nW _ (by decide)]; decide)] at h
        cases h
    have nU : ∀ F d x j, una l F d i ≠ .ok x j := by
      intro F d x j h
      cases F with
      | zero => simp [una] at h
      | succ F =>
        rw [una, if_neg (by rw [nS]; decide)] at h
        split at h
        · next hq => exact nP _ _ _ _ hq
        · cases h
        · cases h
    intro F
    induction F with
    | zero => intro k d x j _ h; simp [ex] at h
    | succ F ih =>
      intro k d x j hk h
      rw [ex] at h
      split at h
      · exact nU _ _ _ _ h
      · split at h
        · next hq => exact ih _ _ _ _ (by omega) hq
        · cases h
        · cases h
  have nT : ∀ F z g s j, exThen l F z i g ≠ .ok s j := by
    intro F z g s j h
    unfold exThen at h
    split at h
    · next hq => exact nE _ _ _ _ _ (by decide) hq
    · cases h
    · cases h
  cases f with
  | zero => simp [rows] at h
  | succ f =>
    rw [rows, if_neg (by rw [nS]; decide)] at h
    split at h
    · next s p hp =>
      cases f with
      | zero => simp [stm] at hp
      | succ f =>
        rw [stm, if_neg (by rw [nW _ (by decide)]; decide), if_neg (by rw [nW _ (by decide)]; decide), if_neg (by rw [nW _ (by decide)]; decide), if_neg (by rw [nW _ (by decide)]; decide), if_neg (by unfold isSet; rw [hk]; simp)] at hp
        exact nT _ _ _ _ _ hp
    · cases h
    · cases h

/-- Two blocks in one. -/
theorem blk_join {k l m : List TZ} {na nb : Nat} {b : Int} (SK : Shf k m 0 0 0 (na + 1 : Nat)) (SL : Shf l m (na : Nat) b 1 (nb + 2 : Nat)) (hk : isS (tkAt k ((na + 1 : Nat) : Int)) 125 = true) {F f g : Nat} {X Y : List SX}
    (hX : blk k F (f + 1) 0 0 = .ok X ((na + 2 : Nat) : Int)) (hY : blk l F (g + 1) 0 0 = .ok Y ((nb + 2 : Nat) : Int)) : blk m F (f + g + 1) 0 0 = .ok (X ++ shSL b Y) ((na + nb + 2 : Nat) : Int) := by
  rw [blk] at hX hY
  split at hX
  · next hb =>
    rw [if_neg (by decide)] at hX
    split at hY
    · rw [if_neg (by decide)] at hY
      rw [show (0 : Int) + 1 = 1 by rfl] at hX hY
      have hYm := (stm_shf SL g).2.1 _ _ _ _ (Int.le_refl _) (Int.le_refl _) hY
      rw [show (1 : Int) + (na : Nat) = ((na + 1 : Nat) : Int) by omega] at hYm
      have hw := rows_no_else hYm
      have S1 : Shf k m 0 0 1 (na + 1 : Nat) := ⟨fun j h1 h2 => SK.tok j (by omega) h2⟩
      have := rows_app S1 hk hw hYm f 1 X (Int.le_refl _) (by rw [show ((na + 1 : Nat) : Int) + 1 = (na + 2 : Nat) by omega]; exact hX)
      have hs := SK.sym (j := 0) (Int.le_refl _) (by omega) 123
      rw [Int.add_zero] at hs
      rw [blk, hs, if_pos hb, if_neg (by decide), show (0 : Int) + 1 = 1 by rfl, this]
      rw [show ((nb + 2 : Nat) : Int) + (na : Nat) = ((na + nb + 2 : Nat) : Int) by omega]
    · cases hY
  · cases hX

end Go.Proofs.Ytoppknnjnfgbiaa

namespace Go.Proofs.Ytoppknnjnfgbiaa

theorem run_all {p : UInt8 → Bool} : ∀ {l : List UInt8}, run p l = l.length → ∀ c ∈ l, p c = true
  | [], _, c, hc => by cases hc
  | c :: r, h, x, hx => by
    by_cases hc : p c = true
    · rw [run_hit r hc, List.length_cons] at h
      rcases List.mem_cons.1 hx with rfl | hx
      · exact hc
      · exact run_all (by omega) x hx
    · rw [run_miss r (by simpa using hc)] at h; simp at h

theorem quo_no10 {c : UInt8} {q : List UInt8} (h : quo (c :: q) = true) : (10 : UInt8) ∉ q := by
  intro hm
  unfold quo at h
  simp only [Bool.and_eq_true, decide_eq_true_eq] at h
  obtain ⟨⟨h1, _⟩, h3⟩ := h
  have hne : q ≠ [] := fun e => by rw [e] at hm; cases hm
  have hl : q.dropLast ++ [34] = q := by
    have := List.dropLast_concat_getLast hne
    rw [List.getLast?_eq_some_getLast hne] at h1
    injection h1 with h1
    rw [h1] at this; exact this
  rw [← hl] at hm
  rcases List.mem_append.1 hm with h5 | h5
  · have := run_all h3 10 h5
    revert this; decide
  · simp at h5

theorem shut_cut {d m : List UInt8} {n : Nat} (hd : d ≠ []) (h : flt (kln (d ++ 10 :: m)).1 ((d ++ 10 :: m).take (kln (d ++ 10 :: m)).2) n = 0) : shut d := by
  cases d with
  | nil => exact (hd rfl).elim
  | cons c r =>
    intro hc
    subst hc
    refine Classical.byContradiction fun hn => ?_
    have hr : run ne34 r = r.length := by have := run_le ne34 r; omega
    have hrun : run ne34 (r ++ 10 :: m) = r.length + (run ne34 m + 1) := by rw [run_append _ _ _ hr, run_hit m (by decide)]
    have hk := kln_cons 34 (r ++ 10 :: m)
    rw [if_neg (by decide), if_neg (by decide), if_pos rfl, hrun] at hk
    rw [List.cons_append, hk] at h
    have key : ∀ k, r.length + 1 ≤ k → (10 : UInt8) ∈ (r ++ 10 :: m).take k := fun k hk => by
      rw [List.take_append]
      refine List.mem_append.2 (.inr ?_)
      obtain ⟨j, hj⟩ : ∃ j, k - r.length = j + 1 := ⟨k - r.length - 1, by omega⟩
      rw [hj, List.take_succ_cons]
      exact List.mem_cons_self
    have fin : ∀ k, r.length + 1 ≤ k → flt 3 ((34 :: (r ++ 10 :: m)).take (k + 1)) n ≠ 0 := fun k hk h0 => by
      rw [List.take_succ_cons] at h0
      have hq : quo (34 :: (r ++ 10 :: m).take k) = false := by
        refine Classical.byContradiction fun hc => ?_
        exact quo_no10 (by simpa using hc) (key k hk)
      unfold flt at h0
      rw [if_neg (by decide)] at h0
      split at h0
      · exact absurd h0 (by decide)
      · rw [if_neg (by decide), if_neg (by simp), if_pos ⟨rfl, hq⟩] at h0
        exact absurd h0 (by decide)
    by_cases hlt : r.length + (run ne34 m + 1) < (r ++ 10 :: m).length
    · simp only [if_pos hlt] at h
      exact fin (r.length + (run ne34 m + 1) + 1) (by omega) h
    · simp only [if_neg hlt] at h
      exact fin ((r ++ 10 :: m).length) (by simp) h

/-- What is right with a line and more behind it is right without the more. -/
theorem cut_pcs (a : Nat) (l m : List UInt8) : ∀ n, bad (pcsAt a (l ++ 10 :: m)) n = none → bad (pcsAt a l) n = none := by
  refine pcsAt_ind (P := fun a l => ∀ n, bad (pcsAt a (l ++ 10 :: m)) n = none → bad (pcsAt a l) n = none) (fun a l h n _ => ?_) (fun a l h ih n hb => ?_) a l
  · rw [pcsAt_end a l h]; rfl
  · have hlt : skp false l < l.length := by
      have := skp_le false l
      rcases Nat.lt_or_ge (skp false l) l.length with h2 | h2
      · exact h2
      · exact absurd (List.drop_eq_nil_of_le h2) h
    have hs := skp_app_lt false l m 10 (by decide) hlt
    have hd : (l ++ 10 :: m).drop (skp false l) = l.drop (skp false l) ++ 10 :: m := List.drop_append_of_le_length (Nat.le_of_lt hlt)
    rw [pcsAt_cons a (l ++ 10 :: m) (by rw [hs, hd]; simp), hs, hd] at hb
    obtain ⟨hf, hb⟩ := bad_cons hb
    have hsh := shut_cut h hf
    have hk := kln_app (l.drop (skp false l)) m 10 ⟨by decide, by decide, by decide, by decide⟩ h hsh
    have hp := kln_pos' h
    rw [hk] at hf hb
    rw [List.take_append_of_le_length hp.2] at hf
    rw [List.drop_append_of_le_length hp.2] at hb
    rw [pcsAt_cons a l h, bad, if_pos hf]
    exact ih _ hb

theorem cut_toks {l m : List UInt8} (h : bad (toks (l ++ 10 :: m)) 0 = none) : bad (toks l) 0 = none := by
  rw [bad_toks] at h ⊢
  exact cut_pcs 0 l m 0 h

def tkO : Tok := ⟨4, 0, 1, [123]⟩
theorem pcs_open (t : List UInt8) : pcsAt 0 (123 :: t) = tkO :: (pcsAt 0 t).map (sh 1) := by
  have hz : skp false (123 :: t) = 0 := skp_stop 123 _ (by decide) (fun h => absurd h.1 (by decide))
  have hk : kln (123 :: t) = (4, 1) := by
    rw [kln_cons, if_neg (by decide), if_neg (by decide), if_neg (by decide), if_neg (by simp), if_pos (by decide)]
  rw [pcsAt_cons 0 (123 :: t) (by rw [hz]; simp), hz, List.drop_zero, hk, ← pcsAt_shift 0 1 t]
  rfl
theorem toks_open (t : List UInt8) : toks (123 :: t) = tkO :: (toks t).map (sh 1) := by
  unfold toks
  rw [pcs_open]
  simp [endTok, sh]

/-- A text in braces; two. -/
def inB (s : List UInt8) : List UInt8 := 123 :: (s ++ [10, 125])
def inB2 (s t : List UInt8) : List UInt8 := 123 :: (s ++ 10 :: (t ++ [10, 125]))
def shutT : List Tok := [⟨4, 0, 1, [125]⟩, ⟨0, 1, 1, []⟩]
theorem toks_shut : toks [125] = shutT := by
  have hz : skp false [(125 : UInt8)] = 0 := by decide
  have hk : kln [(125 : UInt8)] = (4, 1) := by decide
  unfold toks
  rw [pcsAt_cons _ [125] (by rw [hz]; simp), hz, List.drop_zero, hk]
  simp only [List.drop_succ_cons, List.drop_nil]
  rw [pcsAt_end _ [] rfl]
  rfl

section
variable {s t : List UInt8}
theorem inB_good (h : bad (toks (inB s)) 0 = none) : bad (toks (123 :: s)) 0 = none := cut_toks (l := 123 :: s) (m := [125]) h
theorem toks_inB (h : bad (toks (inB s)) 0 = none) : toks (inB s) = pcsAt 0 (123 :: s) ++ shutT.map (sh (s.length + 2)) := by
  rw [← toks_shut]
  exact toks_app (123 :: s) [125] (inB_good h)
theorem toks_inB2 (h : bad (toks (inB s)) 0 = none) : toks (inB2 s t) = pcsAt 0 (123 :: s) ++ (toks (t ++ [10, 125])).map (sh (s.length + 2)) :=
  toks_app (123 :: s) (t ++ [10, 125]) (inB_good h)
theorem toks_inB' : toks (inB t) = tkO :: (toks (t ++ [10, 125])).map (sh 1) := toks_open _

theorem len_inB (h : bad (toks (inB s)) 0 = none) : (toks (inB s)).length = (pcsAt 0 s).length + 3 := by
  rw [toks_inB h, pcs_open]; simp [shutT]
theorem len_in (h : bad (toks (inB t)) 0 = none) : (toks (t ++ [10, 125])).length = (pcsAt 0 t).length + 2 := by
  have := len_inB h
  rw [toks_inB'] at this
  simpa using this
theorem len_inB2 (h : bad (toks (inB s)) 0 = none) (h' : bad (toks (inB t)) 0 = none) : (toks (inB2 s t)).length = (pcsAt 0 s).length + (pcsAt 0 t).length + 3 := by
  rw [toks_inB2 h, pcs_open]
  simp [len_in h']
  omega

theorem zt_shift (n : Nat) (x : Tok) : zTok (sh n x) = shZ (n : Nat) (zTok x) := rfl

/-- The statements of two blocks in one. -/
theorem join_all (h : bad (toks (inB s)) 0 = none) (h' : bad (toks (inB t)) 0 = none) {F f g : Nat} {X Y : List SX}
    (hX : blk ((toks (inB s)).map zTok) F (f + 1) 0 0 = .ok X (((toks (inB s)).length : Nat) - 1 : Int)) (hY : blk ((toks (inB t)).map zTok) F (g + 1) 0 0 = .ok Y (((toks (inB t)).length : Nat) - 1 : Int)) :
    blk ((toks (inB2 s t)).map zTok) F (f + g + 1) 0 0 = .ok (X ++ shSL ((s.length : Nat) + 1 : Int) Y) (((toks (inB2 s t)).length : Nat) - 1 : Int) := by
  have hl1 := len_inB h
  have hl2 := len_inB h'
  have hl3 := len_inB2 h h'
  have hA : (pcsAt 0 (123 :: s)).length = (pcsAt 0 s).length + 1 := by rw [pcs_open]; simp
  have e1 : (((toks (inB s)).length : Nat) - 1 : Int) = (((pcsAt 0 s).length + 2 : Nat) : Int) := by omega
  have e2 : (((toks (inB t)).length : Nat) - 1 : Int) = (((pcsAt 0 t).length + 2 : Nat) : Int) := by omega
  have e3 : (((toks (inB2 s t)).length : Nat) - 1 : Int) = (((pcsAt 0 s).length + (pcsAt 0 t).length + 2 : Nat) : Int) := by omega
  rw [e1] at hX
  rw [e2] at hY
  rw [e3]
  refine blk_join (na := (pcsAt 0 s).length) (nb := (pcsAt 0 t).length) ⟨fun j h0 h1 => ?_⟩ ⟨fun j h0 h1 => ?_⟩ ?_ hX hY
  · obtain ⟨k, rfl⟩ : ∃ k : Nat, j = k := ⟨j.toNat, by omega⟩
    have hk : k < (pcsAt 0 (123 :: s)).length := by omega
    have a1 : (toks (inB s))[k]? = some (pcsAt 0 (123 :: s))[k] := by rw [toks_inB h, List.getElem?_append_left hk, List.getElem?_eq_getElem hk]
    have a2 : (toks (inB2 s t))[k]? = some (pcsAt 0 (123 :: s))[k] := by rw [toks_inB2 h, List.getElem?_append_left hk, List.getElem?_eq_getElem hk]
    rw [Int.add_zero, tk_map a1, tk_map a2]
    unfold shZ
    rw [Int.add_zero, Int.add_zero]
  · obtain ⟨k, rfl⟩ : ∃ k : Nat, j = (k + 1 : Nat) := ⟨j.toNat - 1, by omega⟩
    have hlin := len_in h'
    have hk : k < (toks (t ++ [10, 125])).length := by omega
    have a1 : (toks (inB t))[k + 1]? = some (sh 1 (toks (t ++ [10, 125]))[k]) := by rw [toks_inB', List.getElem?_cons_succ, List.getElem?_map, List.getElem?_eq_getElem hk]; rfl
    have a2 : (toks (inB2 s t))[k + 1 + (pcsAt 0 s).length]? = some (sh (s.length + 2) (toks (t ++ [10, 125]))[k]) := by
      rw [toks_inB2 h, List.getElem?_append_right (by omega), show k + 1 + (pcsAt 0 s).length - (pcsAt 0 (123 :: s)).length = k by omega, List.getElem?_map, List.getElem?_eq_getElem hk]; rfl
    rw [show ((k + 1 : Nat) : Int) + ((pcsAt 0 s).length : Nat) = ((k + 1 + (pcsAt 0 s).length : Nat) : Int) by omega, tk_map a1, tk_map a2, zt_shift, zt_shift]
    unfold shZ
    simp only [TZ.mk.injEq, true_and, and_true]
    constructor <;> omega
  · have a1 : (toks (inB s))[(pcsAt 0 s).length + 1]? = some (sh (s.length + 2) ⟨4, 0, 1, [125]⟩) := by
      rw [toks_inB h, List.getElem?_append_right (by omega), show (pcsAt 0 s).length + 1 - (pcsAt 0 (123 :: s)).length = 0 by omega]
      rfl
    rw [tk_map a1]
    rfl
end

end Go.Proofs.Ytoppknnjnfgbiaa

namespace Go.Proofs.Ytoppknnjnfgbiaa

/-- Steps enough for a block. -/
def fuelB (l : List TZ) : Nat := 4 * l.length + 8

def txL : Nat → List UInt8
  | 0 => [123, 125]
  | n + 1 => [123, 102, 111, 114, 32, 97] ++ txL n ++ [125]
def txE : Nat → List UInt8
  | 0 => [123, 125]
  | n + 1 => [123, 105, 102, 32, 97, 123, 125, 101, 108, 115, 101] ++ txE n ++ [125]

def deepS (l : List TZ) (n : Nat) : Bool := match blk l (fuel l) (fuelB l) 0 0 with
  | .ok _ j => decide (n < 30) && decide (j + 1 = l.length)
  | .err _ c => decide (30 ≤ n) && decide (c = 6)
  | .out => false


theorem lexL_all : ∀ n < 70, bad (toks (txL n)) 0 = none := by decide +kernel
theorem lexE_all : ∀ n < 70, bad (toks (txE n)) 0 = none := by decide +kernel

end Go.Proofs.Ytoppknnjnfgbiaa

namespace Go.Proofs.Ytoppknnjnfgbiaa
open Go.RowKit
open Go.Lib hiding intOf

/-- What 'Parse' answers. -/
def SParRes (B : Nat) (W : World) (r : EO (List SX)) (v : Value) : Prop :=
  match r with
  | .ok X j => ∃ (o : Option Addr) (c : Nat), v = .tuple #[.slice o X.length c, .int .i64 j, .agg #[.int .i64 0, .int .i64 0]] ∧ IsSPs (fun q => B ≤ q) W o 0 X
  | .err p q => ∃ (o : Option Addr) (c : Nat), v = .tuple #[.slice o 0 c, .int .i64 0, .agg #[.int .i64 p, .int .i64 q]]
  | .out => True

theorem SParRes.parts {B : Nat} {W : World} {r : EO (List SX)} {v : Value} (h : SParRes B W r v) (hr : r ≠ .out) :
    ∃ (o : Option Addr) (c n : Nat) (j p q : Int), v = .tuple #[.slice o n c, .int .i64 j, .agg #[.int .i64 p, .int .i64 q]] ∧
      ((∃ X, r = .ok X j ∧ n = X.length ∧ p = 0 ∧ q = 0 ∧ IsSPs (fun q => B ≤ q) W o 0 X) ∨ (r = .err p q ∧ n = 0 ∧ j = 0)) := by
  cases r with
  | out => exact (hr rfl).elim
  | ok X j => obtain ⟨o, c, rfl, hx⟩ := h; exact ⟨o, c, _, _, _, _, rfl, .inl ⟨X, rfl, rfl, rfl, rfl, hx⟩⟩
  | err p q => obtain ⟨o, c, rfl⟩ := h; exact ⟨o, c, _, _, _, _, rfl, .inr ⟨rfl, rfl, rfl⟩⟩

end Go.Proofs.Ytoppknnjnfgbiaa
