/-
  Plain: the tokens of so many brackets ahead of int, and the type that they are. No condition.
-/
import Derived.Test.YtdmlelikmikflaaRow
namespace Go.Proofs.Ytdmlelikmikflaa
open Go.RowKit
open Go.Lib hiding intOf

def brs (n : Nat) : List UInt8 := (List.range (2 * n)).map fun i => if i % 2 = 0 then 91 else 93
theorem brs_succ (n : Nat) : brs (n + 1) = brs n ++ [91, 93] := by
  unfold brs
  rw [show 2 * (n + 1) = 2 * n + 1 + 1 by omega, List.range_succ, List.range_succ]
  simp
theorem brs_len (n : Nat) : (brs n).length = 2 * n := by simp [brs]
def brT (n : Nat) : List Tok := ((List.range (2 * n)).map fun i => (⟨4, i, i + 1, [if i % 2 = 0 then 91 else 93]⟩ : Tok)) ++ [⟨5, 2 * n, 2 * n + 3, [105, 110, 116]⟩, ⟨0, 2 * n + 3, 2 * n + 3, []⟩]

theorem brs_lexed : ∀ n < 70, lexed (brs n ++ [105, 110, 116]) = (brT n, 0, 0) := by decide +kernel

theorem brT_len (n : Nat) : (brT n).length = 2 * n + 2 := by simp [brT]
theorem brT_at (n i : Nat) (h : i < 2 * n) : tkAt ((brT n).map zOf) (i : Nat) = zOf ⟨4, i, i + 1, [if i % 2 = 0 then 91 else 93]⟩ := by
  refine tkAt_in ?_
  rw [List.getElem?_map]
  unfold brT
  rw [List.getElem?_append_left (by simpa using h), List.getElem?_map, List.getElem?_range h]
  rfl
theorem brT_end (n : Nat) : tkAt ((brT n).map zOf) ((2 * n : Nat) : Int) = zOf ⟨5, 2 * n, 2 * n + 3, [105, 110, 116]⟩ := by
  refine tkAt_in ?_
  rw [List.getElem?_map]
  unfold brT
  rw [List.getElem?_append_right (by simp)]
  simp

def dnest : Nat → Nat → TX
  | 0, j => .leaf 1 ((2 * j : Nat) : Int) ⟨#[]⟩ ⟨#[]⟩
  | c + 1, j => .list ((2 * j : Nat) : Int) (dnest c (j + 1))

theorem brT_prs (n : Nat) : ∀ (c j k : Nat), c + j = n → prs ((brT n).map zOf) k ((2 * j : Nat) : Int) = if c ≤ k then .ok (dnest c j) ((2 * n + 1 : Nat) : Int) else .err ((2 * (j + k) : Nat) : Int) 6 := by
  intro c
  induction c with
  | zero =>
    intro j k hj
    obtain rfl : j = n := by omega
    rw [prs_word _ _ _ (by rw [brT_end]; rfl), brT_end, if_pos (Nat.zero_le _)]
    rfl
  | succ c ih =>
    intro j k hj
    have h0 := brT_at n (2 * j) (by omega)
    have h1 := brT_at n (2 * j + 1) (by omega)
    rw [if_pos (by omega)] at h0
    rw [if_neg (by omega)] at h1
    have e0 : isKT (tkAt ((brT n).map zOf) ((2 * j : Nat) : Int)) 4 ⟨#[91]⟩ = true := by rw [h0, isKT_eq]; rfl
    have e1 : isKT (tkAt ((brT n).map zOf) (((2 * j : Nat) : Int) + 1)) 4 ⟨#[93]⟩ = true := by
      rw [show ((2 * j : Nat) : Int) + 1 = ((2 * j + 1 : Nat) : Int) by omega, h1, isKT_eq]; rfl
    cases k with
    | zero =>
      rw [prs_deep _ _ e0, h0, if_neg (by omega)]
      rfl
    | succ k =>
      rw [prs_list _ _ _ e0 e1, h0, show ((2 * j : Nat) : Int) + 2 = ((2 * (j + 1) : Nat) : Int) by omega, ih (j + 1) k (by omega)]
      by_cases hc : c ≤ k
      · rw [if_pos hc, if_pos (by omega)]; rfl
      · rw [if_neg hc, if_neg (by omega), show j + 1 + k = j + (k + 1) by omega]; rfl

end Go.Proofs.Ytdmlelikmikflaa
