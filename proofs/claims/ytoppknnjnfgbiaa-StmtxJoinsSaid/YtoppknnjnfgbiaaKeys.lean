/-
  The walks of 'keywords' and 'Word': the map of the language's words. No condition beyond the text's size (at most 2^48 bytes).
-/
import Derived.Test.YtoppknnjnfgbiaaBytes
import Derived.Maps.OwnOps
import Derived.Maps.Views
import Derived.StringKeys
namespace Go.Proofs.Ytoppknnjnfgbiaa
open Go.RowKit
open Go.Lib hiding intOf
open Go.Maps (Keyed)

/-- 'm[k] = v' in a literal. -/
theorem wpList_insert_own {H : Type} {P : Program} (w : World) {ops : Array Oper} {rest : List Oper} {o : Oper} {a : Act} {Q : Exit → Act → World → Prop}
    (hg : o.guard = none) (m x v : Operand) (t : TypeId) (hop : o.op = Op.insert t m x v)
    (k e : TypeId) (K : Keyed P k) (ht : P.underlying t = some (.map k e)) (R : Value → Option (DataW H × List MemPlace)) (b n : Nat) (D : DataW H)
    (hm : a.eval m = .map (some b)) (hown : w.ownsMap P k R b n D) (hn : n < maxLen) (key val : Value) (kl : Lit) (hx : a.eval x = key) (hv : a.eval v = val) (hkey : keyOf P k key = some kl)
    (d : DataW H) (ps : List MemPlace) (hval : R val = some (d, ps))
    (hK : ∀ w', w'.ownsMap P k R b (n + 1) (D.put kl d) → w.grownBy w' (some b) → wpList P ops Q rest (a.put o.dst undef) w') :
    wpList P ops Q (o :: rest) a w := by
  refine wpList_plain hg fun K' hK' => ?_
  obtain ⟨w', hrun, r1, r2⟩ := hown.update K ht hn hkey hval
  unfold Oper.wp
  simp [execOp, hop, hm, hx, hv, hrun, Result.andThen]
  exact hK' _ _ (hK w' r1 r2)

/-- What the map reads as, when some words have been put in. -/
def wordsD (ks : List (List UInt8)) : DataW Unit := ks.foldl (fun D k => D.put (.string k) (.lit (.int .i64 5))) (.map [])

theorem wordsD_isMap (ks : List (List UInt8)) (D : DataW Unit) (h : Maps.IsMap D) : Maps.IsMap (ks.foldl (fun D k => D.put (.string k) (.lit (.int .i64 5))) D) := by
  induction ks generalizing D with
  | nil => exact h
  | cons k r ih => exact ih _ (h.put _ _)

theorem wordsD_map (ks : List (List UInt8)) : Maps.IsMap (wordsD ks) := wordsD_isMap ks _ Maps.isMap_empty

theorem wordsD_snoc (ks : List (List UInt8)) (k : List UInt8) : wordsD (ks ++ [k]) = (wordsD ks).put (.string k) (.lit (.int .i64 5)) := by
  unfold wordsD; rw [List.foldl_append]; rfl

theorem wordsD_at (ks : List (List UInt8)) (l : List UInt8) : (wordsD ks).atKey (.string l) (.lit (.int .i64 0)) = .lit (.int .i64 (if l ∈ ks then 5 else 0)) := by
  suffices h : ∀ r : List (List UInt8), (wordsD r.reverse).atKey (.string l) (.lit (.int .i64 0)) = .lit (.int .i64 (if l ∈ r then 5 else 0)) by
    have := h ks.reverse
    rw [List.reverse_reverse] at this
    rw [this]; simp
  intro r
  induction r with
  | nil => rfl
  | cons k r ih =>
    rw [List.reverse_cons, wordsD_snoc]
    by_cases h : l = k
    · subst h
      rw [Maps.atKey_put_same (wordsD_map _) (by trivial)]
      simp
    · rw [Maps.atKey_put_other (by intro e; injection e with e; exact h e), ih]
      simp [h]

/-- The map of the words lies in a block. -/
def WordsAt (w : World) (b : Nat) : Prop := w.ownsMap Try.prog 9 (plainElem (H := Unit) Try.prog 3) b 17 (wordsD kws)

def KS (w0 w : World) (n : Nat) (D : DataW Unit) : Prop := w.ownsMap Try.prog 9 (plainElem (H := Unit) Try.prog 3) w0.heap.size n D ∧ Below w0.heap.size w0 w

theorem KS.next {w0 w w1 : World} {n n' : Nat} {D D' : DataW Unit} (h : KS w0 w n D) (ho : w1.ownsMap Try.prog 9 (plainElem (H := Unit) Try.prog 3) w0.heap.size n' D') (hg : w.grownBy w1 (some w0.heap.size)) : KS w0 w1 n' D' :=
  ⟨ho, h.2.grown hg h.2.size (fun k e => by cases e; exact Nat.le_refl _)⟩

theorem KS.start (w : World) : KS w (w.alloc (.map #[] 0)) 0 (.map []) := ⟨World.ownsMap_made w _ _ _, (Below.refl _ w).alloc (Nat.le_refl _) _⟩

theorem five : plainElem (H := Unit) Try.prog 3 (.int .i64 5) = some (.lit (.int .i64 5), []) := plainElem_int Try.underlying3 (by decide)

set_option maxHeartbeats 2000000 in
theorem keywords_any (w : World) : Calls Try.prog 25 #[] w fun e w' => e = .returned (.map (some w.heap.size)) ∧ WordsAt w' w.heap.size ∧ Below w.heap.size w w' := by
  have hmm := @run_makeMap Try.prog
  have S := KS.start w
  go_enter Try.func25, Try.ntmps25
  go_wp2_with (refine wpList_insert_own _ rfl _ _ _ 62 rfl 9 3 (Maps.string_keyed Try.underlying9) Try.underlying62 _ _ _ _ rfl S.1 (by decide) _ _ _ rfl rfl (WideMaps.keyOf_string_mk Try.underlying9 (by decide)) _ [] five ?_; intro w1 ho hg; replace S := S.next ho hg; clear ho hg)
  go_ret
  exact ⟨rfl, S.1, S.2⟩

theorem lookup_word {w : World} {b : Nat} (h : WordsAt w b) (t : ByteArray) (ht : t.size ≤ 9223372036854775807) :
    (Instr.lookup 62 (.map (some b)) (.string t) false).run Try.prog w = .ok (.int .i64 (if kw t.data.toList then 5 else 0)) w := by
  obtain ⟨c, hrun, hat, _⟩ := World.ownsMap.lookup_int h (Maps.string_keyed Try.underlying9) Try.underlying62 Try.underlying3 (Try.zeroValue3 _) (WideMaps.keyOf_string_mk Try.underlying9 (s := t) (by unfold maxLen; omega))
  rw [wordsD_at] at hat
  injection hat with hat
  injection hat with _ hat
  rw [hrun, ← hat]
  unfold kw
  by_cases hm : t.data.toList ∈ kws <;> simp [hm]

end Go.Proofs.Ytoppknnjnfgbiaa
