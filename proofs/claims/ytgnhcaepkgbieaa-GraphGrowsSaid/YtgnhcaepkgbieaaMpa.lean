/-
  What a call turns and what it leaves; a map from names to numbers in memory: made, looked into, stored to, struck from, ranged over. Condition: names of a length that the model's reader reads.
-/
import Derived.Test.YtgnhcaepkgbieaaNmg
import Derived.Maps.OwnSet
import Derived.Maps.RangeWalk
import Derived.Sort.KeysCollected
namespace Go.Proofs.Ytgnhcaepkgbieaa
open Go.RowKit Go.Maps

/-- Nothing that was there has turned but what is in S. -/
structure Turn (S : Nat → Prop) (w w' : World) : Prop where
  os : w'.os = w.os
  tape : w'.tape = w.tape
  output : w'.output = w.output
  size : w.heap.size ≤ w'.heap.size
  block : ∀ k, k < w.heap.size → ¬ S k → w'.heap[k]? = w.heap[k]?
theorem Turn.refl (S : Nat → Prop) (w : World) : Turn S w w := ⟨rfl, rfl, rfl, Nat.le_refl _, fun _ _ _ => rfl⟩
theorem Turn.trans {S : Nat → Prop} {a b c : World} (h : Turn S a b) (k : Turn S b c) : Turn S a c :=
  ⟨k.os.trans h.os, k.tape.trans h.tape, k.output.trans h.output, Nat.le_trans h.size k.size, fun i hi hn => (k.block i (Nat.lt_of_lt_of_le hi h.size) hn).trans (h.block i hi hn)⟩
theorem Turn.mono {S S' : Nat → Prop} {a b : World} (h : Turn S a b) (hs : ∀ k, k < a.heap.size → S k → S' k) : Turn S' a b :=
  ⟨h.os, h.tape, h.output, h.size, fun k hk hn => h.block k hk fun hk2 => hn (hs k hk hk2)⟩
theorem Turn.of_grown {w w' : World} {row : Option Nat} (h : w.grownBy w' row) : Turn (fun k => some k = row) w w' := ⟨h.os, h.tape, h.output, h.size, fun k hk hn => h.block k hk hn⟩
theorem Turn.of_below {w w' : World} {B : Nat} (h : Below B w w') : Turn (fun k => B ≤ k) w w' := ⟨h.os, h.tape, h.output, h.size, fun k _ hn => h.block k (by omega)⟩
theorem Turn.below {S : Nat → Prop} {w w' : World} {B : Nat} (h : Turn S w w') (hB : B ≤ w.heap.size) (hs : ∀ k, S k → B ≤ k) : Below B w w' :=
  ⟨h.os, h.tape, h.output, h.size, fun k hk => h.block k (by omega) fun hk2 => by have := hs k hk2; omega⟩
theorem Turn.drew {S : Nat → Prop} {a w : World} (h : Turn S a w) : Turn S a w.drew := ⟨h.os, h.tape, h.output, h.size, h.block⟩
theorem Turn.alloc {S : Nat → Prop} {a w : World} (h : Turn S a w) (o : Obj) : Turn S a (w.alloc o) :=
  h.trans (Turn.of_grown (World.grownBy_alloc w o none) |>.mono fun k _ hk => by cases hk)
theorem Turn.setCell {S : Nat → Prop} {a w : World} (h : Turn S a w) {p : Addr} (hp : p.block < a.heap.size → S p.block) (u : Value) : Turn S a (w.setCell p u) := by
  refine ⟨h.os, h.tape, h.output, by have := h.size; simpa using this, fun k hk hn => ?_⟩
  have hne : k ≠ p.block := fun e => hn (e ▸ hp (e ▸ hk))
  exact (Below.heap_setCell w p u k hne).trans (h.block k hk hn)
theorem Turn.cell {S : Nat → Prop} {w w' : World} (h : Turn S w w') {p : Addr} {u : Value} (hc : w.cell? p = some u) (hn : ¬ S p.block) : w'.cell? p = some u :=
  (World.cell?_of_block (h.block p.block (World.block_lt_of_cell? _ _ hc) hn)).trans hc
theorem Turn.row {S : Nat → Prop} {w w' : World} (h : Turn S w w') {base size n : Nat} {e : TypeId} {v : Value} {xs : List Value} (hr : w.ownsRow base e size v n xs) (hn : ∀ k, v.ownBlock = some k → ¬ S k) : w'.ownsRow base e size v n xs := by
  obtain ⟨h0, h1 | ⟨g, cap, cur, rfl, hb, hg, h2⟩⟩ := hr
  · exact ⟨h0, .inl h1⟩
  · exact ⟨h0, .inr ⟨g, cap, cur, rfl, hb, (h.block g (Array.getElem?_eq_some_iff.1 hg).1 (hn g rfl)).trans hg, h2⟩⟩

theorem below_row {w w' : World} (h : Below w.heap.size w w') {base size n : Nat} {e : TypeId} {v : Value} {xs : List Value} (hr : w.ownsRow base e size v n xs) : w'.ownsRow base e size v n xs :=
  (Turn.of_below h).row hr fun k hk => by have := (hr.lt k hk).2; omega
/-! ### a map from names to numbers -/
abbrev DM := DataW Unit
structure ViewM (D : DM) (F : Nm → Option Nat) : Prop where
  map : IsMap D
  has : ∀ x, Maps.has D (.string x) = (F x).isSome
  at_ : ∀ x j, F x = some j → ∀ zd, D.atKey (.string x) zd = .lit (.int .i64 (j : Int))
/-- A map from names to numbers lies there, of at most n entries. -/
def IsM (w : World) (b n : Nat) (F : Nm → Option Nat) : Prop := ∃ D : DM, w.ownsMap Try.prog 9 (plainElem Try.prog 3) b n D ∧ ViewM D F
theorem law9 : Keyed Try.prog 9 := string_keyed Try.underlying9
theorem zero3 (w : World) : (zeroValue 3).run Try.prog w = .ok (.int .i64 0) w := by kernel_rfl
theorem key9 {s : ByteArray} (hs : s.size ≤ maxLen) : keyOf Try.prog 9 (.string s) = some (.string (nm s)) := Go.WideMaps.keyOf_string_mk Try.underlying9 hs
theorem keyLit (x : Nm) : WideAt.IsKeyLit (.string x) := trivial
theorem Turn.isM {S : Nat → Prop} {w w' : World} (h : Turn S w w') {b n : Nat} {F : Nm → Option Nat} (hm : IsM w b n F) (hn : ¬ S b) : IsM w' b n F := by
  obtain ⟨D, ⟨es, clock, hb, hf⟩, hv⟩ := hm
  exact ⟨D, ⟨es, clock, (h.block b (Array.getElem?_eq_some_iff.1 hb).1 hn).trans hb, hf⟩, hv⟩
theorem IsM.lt {w : World} {b n : Nat} {F : Nm → Option Nat} (h : IsM w b n F) : b < w.heap.size := by
  obtain ⟨D, h, _⟩ := h
  exact h.lt
theorem IsM.mono {w : World} {b n n' : Nat} {F : Nm → Option Nat} (h : IsM w b n F) (hn : n ≤ n') : IsM w b n' F := by
  obtain ⟨D, h, hv⟩ := h
  exact ⟨D, h.mono hn, hv⟩
theorem IsM.made (w : World) : IsM (w.alloc (.map #[] 0)) w.heap.size 0 (fun _ => none) :=
  ⟨.map [], World.ownsMap_made w _ _ _, ⟨isMap_empty, fun x => rfl, fun x j h => by cases h⟩⟩
theorem below_isM {w w' : World} {B : Nat} (h : Below B w w') {b n : Nat} {F : Nm → Option Nat} (hm : IsM w b n F) (hb : b < B) : IsM w' b n F := (Turn.of_below h).isM hm (by omega)
def putF (F : Nm → Option Nat) (a : Nm) (j : Nat) : Nm → Option Nat := fun x => if x = a then some j else F x
def delF (F : Nm → Option Nat) (a : Nm) : Nm → Option Nat := fun x => if x = a then none else F x
theorem strKey_ne {x a : Nm} (h : x ≠ a) : Lit.string x ≠ Lit.string a := fun e => h (by injection e)
theorem ViewM.put {D : DM} {F : Nm → Option Nat} (h : ViewM D F) (a : Nm) (j : Nat) : ViewM (D.put (.string a) (.lit (.int .i64 (j : Int)))) (putF F a j) := by
  refine ⟨h.map.put _ _, fun x => ?_, fun x k hk zd => ?_⟩
  · unfold putF
    by_cases hx : x = a
    · subst hx; rw [if_pos rfl, has_put_same h.map (keyLit x)]; rfl
    · rw [if_neg hx, has_put_other (strKey_ne hx), h.has]
  · unfold putF at hk
    by_cases hx : x = a
    · subst hx
      rw [if_pos rfl] at hk
      injection hk with hk
      subst hk
      exact atKey_put_same h.map (keyLit x) _ _
    · rw [if_neg hx] at hk
      rw [atKey_put_other (strKey_ne hx)]
      exact h.at_ x k hk zd
theorem ViewM.del {D : DM} {F : Nm → Option Nat} (h : ViewM D F) (a : Nm) : ViewM (D.del (.string a)) (delF F a) := by
  refine ⟨h.map.del _, fun x => ?_, fun x k hk zd => ?_⟩
  · unfold delF
    by_cases hx : x = a
    · subst hx; rw [if_pos rfl, has_del_same]; rfl
    · rw [if_neg hx, has_del_other (strKey_ne hx), h.has]
  · unfold delF at hk
    by_cases hx : x = a
    · rw [if_pos hx] at hk; cases hk
    · rw [if_neg hx] at hk
      rw [atKey_del_other (strKey_ne hx)]
      exact h.at_ x k hk zd
section
variable (w : World) {ops : Array Oper} {rest : List Oper} {o : Oper} {a : Act} {Q : Exit → Act → World → Prop}
/-- Looked up, with 'ok'. -/
theorem wpList_look_ok (hg : o.guard = none) (m x : Operand) (hop : o.op = Op.lookup 57 m x true) (b n : Nat) (F : Nm → Option Nat) (hm : a.eval m = .map (some b)) (h : IsM w b n F) (s : ByteArray) (hx : a.eval x = .string s) (hs : s.size ≤ maxLen)
    (hK : ∀ c : Int, (∀ j, F (nm s) = some j → c = (j : Int)) → wpList Try.prog ops Q rest (a.put o.dst (.tuple #[.int .i64 c, .bool (F (nm s)).isSome])) w) : wpList Try.prog ops Q (o :: rest) a w := by
  obtain ⟨D, hown, hv⟩ := h
  refine wpList_lookup_own_ok_int w hg m x 57 hop 9 3 .i64 law9 Try.underlying57 Try.underlying3 (zero3 w) b n D hm hown _ _ hx (key9 hs) fun c hat _ => ?_
  rw [hv.has]
  refine hK c fun j hj => ?_
  rw [hv.at_ _ j hj] at hat
  injection hat with h1
  injection h1 with _ h2
  exact h2.symm
/-- Looked up. -/
theorem wpList_look (hg : o.guard = none) (m x : Operand) (hop : o.op = Op.lookup 57 m x false) (b n : Nat) (F : Nm → Option Nat) (hm : a.eval m = .map (some b)) (h : IsM w b n F) (s : ByteArray) (hx : a.eval x = .string s) (hs : s.size ≤ maxLen) (j : Nat) (hj : F (nm s) = some j)
    (hK : wpList Try.prog ops Q rest (a.put o.dst (.int .i64 (j : Int))) w) : wpList Try.prog ops Q (o :: rest) a w := by
  obtain ⟨D, hown, hv⟩ := h
  refine wpList_lookup_own_int w hg m x 57 hop 9 3 .i64 law9 Try.underlying57 Try.underlying3 (zero3 w) b n D hm hown _ _ hx (key9 hs) fun c hat _ => ?_
  rw [hv.at_ _ j hj] at hat
  injection hat with h1
  injection h1 with _ h2
  rw [← h2]
  exact hK
/-- Stored. -/
theorem wpList_put (hg : o.guard = none) (m x v : Operand) (hop : o.op = Op.mapUpdate 57 m x v) (b n : Nat) (F : Nm → Option Nat) (hm : a.eval m = .map (some b)) (h : IsM w b n F) (hn : n < maxLen) (s : ByteArray) (hx : a.eval x = .string s) (hs : s.size ≤ maxLen)
    (j : Nat) (hv : a.eval v = .int .i64 (j : Int)) (hj : j ≤ 9223372036854775807)
    (hK : ∀ w', IsM w' b (n + 1) (putF F (nm s) j) → w.grownBy w' (some b) → wpList Try.prog ops Q rest (a.put o.dst undef) w') : wpList Try.prog ops Q (o :: rest) a w := by
  obtain ⟨D, hown, hD⟩ := h
  refine wpList_mapUpdate_own w hg m x v 57 hop 9 3 law9 Try.underlying57 _ b n D hm hown hn _ _ _ hx hv (key9 hs) _ [] (plainElem_int Try.underlying3 (WalkArith.wf_i64 ⟨by omega, by omega⟩)) fun w' h1 h2 => ?_
  exact hK w' ⟨_, h1, hD.put _ _⟩ h2
/-- Struck. -/
theorem wpList_del (hg : o.guard = none) (m x : Operand) (hop : o.op = Op.call { callee := Callee.builtin Builtin.delete, args := #[m, x], argTypes := #[57, 9] }) (b n : Nat) (F : Nm → Option Nat) (hm : a.eval m = .map (some b)) (h : IsM w b n F) (s : ByteArray) (hx : a.eval x = .string s) (hs : s.size ≤ maxLen)
    (hK : ∀ w', IsM w' b n (delF F (nm s)) → w.grownBy w' (some b) → wpList Try.prog ops Q rest (a.put o.dst (.tuple #[])) w') : wpList Try.prog ops Q (o :: rest) a w := by
  obtain ⟨D, hown, hD⟩ := h
  refine wpList_delete_own w hg m x 57 9 hop 3 law9 Try.underlying57 _ b n D hm hown _ _ hx (key9 hs) fun w' h1 h2 => ?_
  exact hK w' ⟨_, h1, hD.del _⟩ h2.grown
/-- Ranged over: what has come. -/
structure RgM (w : World) (b r n : Nat) (F : Nm → Option Nat) (ss : List Nm) : Prop where
  ex : ∃ (D : DM) (left : Lit → Bool) (cnt : Nat), w.ranges Try.prog 9 (plainElem Try.prog 3) b r n D left cnt ∧ ViewM D F ∧ Collected D left ss ∧ ss.length + cnt ≤ n
theorem RgM.isM {w : World} {b r n : Nat} {F : Nm → Option Nat} {ss : List Nm} (h : RgM w b r n F ss) : IsM w b n F := by
  obtain ⟨D, left, cnt, h1, h2, _⟩ := h.ex
  exact ⟨D, h1.owns, h2⟩
theorem RgM.few {w : World} {b r n : Nat} {F : Nm → Option Nat} {ss : List Nm} (h : RgM w b r n F ss) : ss.length ≤ n := by
  obtain ⟨D, left, cnt, h1, h2, h3, h4⟩ := h.ex
  omega
theorem RgM.ne {w : World} {b r n : Nat} {F : Nm → Option Nat} {ss : List Nm} (h : RgM w b r n F ss) : r ≠ b ∧ r < w.heap.size ∧ b < w.heap.size := by
  obtain ⟨D, left, cnt, h1, _⟩ := h.ex
  exact ⟨h1.ne, h1.lt, h1.owns.lt⟩
theorem Turn.rg {S : Nat → Prop} {w w' : World} (h : Turn S w w') {b r n : Nat} {F : Nm → Option Nat} {ss : List Nm} (hm : RgM w b r n F ss) (hb : ¬ S b) (hr : ¬ S r) : RgM w' b r n F ss := by
  obtain ⟨D, left, cnt, ⟨es, clock, since, seen, c0, g1, g2, g3, g4, g5, g6⟩, h2⟩ := hm.ex
  exact ⟨D, left, cnt, ⟨es, clock, since, seen, c0, (h.block b (Array.getElem?_eq_some_iff.1 g1).1 hb).trans g1, g2, g3, g4, (h.block r (Array.getElem?_eq_some_iff.1 g5).1 hr).trans g5, g6⟩, h2⟩
theorem below_rg {w w' : World} {B : Nat} (h : Below B w w') {b r n : Nat} {F : Nm → Option Nat} {ss : List Nm} (hm : RgM w b r n F ss) (hb : b < B) (hr : r < B) : RgM w' b r n F ss ∧ w'.rangeLeft b r = w.rangeLeft b r :=
  ⟨(Turn.of_below h).rg hm (by omega) (by omega), by
    obtain ⟨h1, h2, h3⟩ := hm.ne
    unfold World.rangeLeft
    rw [h.block b hb, h.block r hr]⟩
theorem Turn.left {S : Nat → Prop} {w w' : World} (h : Turn S w w') {b r n : Nat} {F : Nm → Option Nat} {ss : List Nm} (hm : RgM w b r n F ss) (hb : ¬ S b) (hr : ¬ S r) : w'.rangeLeft b r = w.rangeLeft b r := by
  obtain ⟨h1, h2, h3⟩ := hm.ne
  unfold World.rangeLeft
  rw [h.block b h3 hb, h.block r h2 hr]
theorem wpList_range_M (hg : o.guard = none) (m : Operand) (hop : o.op = Op.range 57 m) (b n : Nat) (F : Nm → Option Nat) (hm : a.eval m = .map (some b)) (h : IsM w b n F)
    (hK : ∀ w', RgM w' b w.heap.size n F [] → w.grownBy w' none → wpList Try.prog ops Q rest (a.put o.dst (.pointer (some ⟨w.heap.size, 0, none⟩))) w') : wpList Try.prog ops Q (o :: rest) a w := by
  obtain ⟨D, hown, hD⟩ := h
  refine wpList_range_own w hg m 57 hop 9 3 law9 Try.underlying57 _ b n D hm hown fun w' h1 h2 _ => ?_
  exact hK w' ⟨D, _, _, h1, hD, Collected.start D, by have := h1.owns.size_le; simpa using this⟩ h2
/-- The step: all have come, or one more. -/
theorem wpList_next_M (hg : o.guard = none) (it : Operand) (hop : o.op = Op.next it false) (b r n : Nat) (F : Nm → Option Nat) (ss : List Nm) (hit : a.eval it = .pointer (some ⟨r, 0, none⟩)) (h : RgM w b r n F ss)
    (hDone : ss.Nodup → (∀ x, x ∈ ss ↔ (F x).isSome = true) → wpList Try.prog ops Q rest (a.put o.dst (.tuple #[.bool false])) w)
    (hMore : ∀ (s : ByteArray) (j : Nat) (w' : World), F (nm s) = some j → s.size ≤ maxLen → nm s ∉ ss → RgM w' b r n F (ss ++ [nm s]) → w'.rangeLeft b r < w.rangeLeft b r → w.grownBy w' (some r) →
      (Instr.entry (.pointer (some ⟨r, 0, none⟩))).run Try.prog w' = .ok (.tuple #[.string s, .int .i64 (j : Int)]) w' → wpList Try.prog ops Q rest (a.put o.dst (.tuple #[.bool true, .string s, .int .i64 (j : Int)])) w') : wpList Try.prog ops Q (o :: rest) a w := by
  obtain ⟨D, left, cnt, h1, h2, h3, h4⟩ := h.ex
  refine wpList_next_ranges w hg it hop 9 law9 (plainElem Try.prog 3) Value.string (Value.int .i64) (fun key kl hk => by obtain ⟨x, hx, _⟩ := Maps.keyOf_str Try.underlying9 hk; exact ⟨⟨x.toArray⟩, hx⟩) (fun v y hv => by obtain ⟨c, rfl, _⟩ := plainElem_int_inv Try.underlying3 hv; exact ⟨c, rfl⟩) b r n D left cnt hit h1 (fun h0 hl => ?_) fun s c kl y w' cnt' hkey hlk hv hat hrg hlt hgr hsz hen => ?_
  · refine hDone h3.1 fun x => ?_
    rw [h3.2, hl, h2.has]
    simp
  · have hks : s.size ≤ maxLen := by
      obtain ⟨x, hx, _, hl⟩ := Maps.keyOf_str Try.underlying9 hkey
      have hsx : s = ⟨x.toArray⟩ := Value.string.inj hx
      subst hsx
      exact hl
    obtain rfl : kl = .string (nm s) := (Option.some.inj ((key9 hks).symm.trans hkey)).symm
    obtain ⟨c', hc, rfl, hwf⟩ := plainElem_int_inv Try.underlying3 hv
    injection hc with _ hc
    subst hc
    have hhas := has_true_of_atKey hat
    rw [h2.has] at hhas
    obtain ⟨j, hj⟩ := Option.isSome_iff_exists.1 hhas
    have hjc : (j : Int) = c := by
      have h5 : (.lit (.int .i64 c) : DM) = .lit (.int .i64 (j : Int)) := (hat (.lit (.int .i64 0))).symm.trans (h2.at_ _ j hj _)
      exact (Lit.int.inj (DataW.lit.inj h5)).2.symm
    subst hjc
    refine hMore s j w' hj hks (fun hm => by have := ((h3.2 _).1 hm).2; rw [hlk] at this; cases this) ⟨D, _, _, hrg, h2, h3.step hlk hat, by simp only [List.length_append, List.length_singleton]; omega⟩ (by rw [hrg.left_eq, h1.left_eq]; exact hlt) hgr hen
end

end Go.Proofs.Ytgnhcaepkgbieaa
