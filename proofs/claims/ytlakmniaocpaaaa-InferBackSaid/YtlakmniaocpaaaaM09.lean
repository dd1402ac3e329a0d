/-
  What a call turns (frames by kinds of blocks); maps from names in memory, of any kind of elements. Condition: names of a length that the model's reader reads.
-/
import Derived.Test.YtlakmniaocpaaaaM00
import Derived.Maps.OwnSet
import Derived.Maps.OwnIn
namespace Go.Proofs.Ytlakmniaocpaaaa.sg
open Go.RowKit Go.Maps
open Go.Lib hiding intOf
/-- Nothing that was there has turned but what is in S. -/
structure Turn (S : Nat → Prop) (w w' : World) : Prop where
  os : w'.os = w.os
  tape : w'.tape = w.tape
  output : w'.output = w.output
  size : w.heap.size ≤ w'.heap.size
  block : ∀ k, k < w.heap.size → ¬ S k → w'.heap[k]? = w.heap[k]?
theorem Turn.refl (S : Nat → Prop) (w : World) : Turn S w w := ⟨rfl, rfl, rfl, Nat.le_refl _, fun _ _ _ => rfl⟩
theorem Turn.trans {S : Nat → Prop} {a b c : World} (h : Turn S a b) (k : Turn S b c) : Turn S a c :=
  ⟨k.os.trans h.os, k.tape.trans h.tape, k.output.trans h.output, Nat.le_trans h.size k.size, fun i hi hn => (k.block i (Nat.lt_of_lt_of_le hi h.size) hn).trans (h.block i hi hn)⟩
theorem Turn.mono {S S' : Nat → Prop} {a b : World} (h : Turn S a b) (hs : ∀ k, k < a.heap.size → S k → S' k) : Turn S' a b :=
  ⟨h.os, h.tape, h.output, h.size, fun k hk hn => h.block k hk fun hk2 => hn (hs k hk hk2)⟩
theorem Turn.of_grown {w w' : World} {row : Option Nat} (h : w.grownBy w' row) : Turn (fun k => some k = row) w w' := ⟨h.os, h.tape, h.output, h.size, fun k hk hn => h.block k hk hn⟩
theorem Turn.of_below {w w' : World} {B : Nat} (h : Below B w w') : Turn (fun k => B ≤ k) w w' := ⟨h.os, h.tape, h.output, h.size, fun k _ hn => h.block k (by omega)⟩
/-! ### frames by kinds -/
/-- A block of one of the kinds U. -/
def Tag (U : List TypeId) (w : World) (k : Nat) : Prop := ∃ cs t f, w.heap[k]? = some (.cells cs t f) ∧ t ∈ U
/-- Nothing that was there has turned but, from B on, blocks of the kinds U and those in m. -/
structure Fr (B : Nat) (U : List TypeId) (m : Nat → Prop) (w w' : World) : Prop where
  os : w'.os = w.os
  tape : w'.tape = w.tape
  output : w'.output = w.output
  size : w.heap.size ≤ w'.heap.size
  block : ∀ k o, w.heap[k]? = some o → (k < B ∨ (¬ m k ∧ ∀ cs t f, o = .cells cs t f → t ∉ U)) → w'.heap[k]? = some o
def No : Nat → Prop := fun _ => False
theorem lt_of_some {w : World} {k : Nat} {o : Obj} (h : w.heap[k]? = some o) : k < w.heap.size := (Array.getElem?_eq_some_iff.1 h).1
theorem some_of_lt {w : World} {k : Nat} (h : k < w.heap.size) : ∃ o, w.heap[k]? = some o := ⟨_, Array.getElem?_eq_getElem h⟩
section
variable {B : Nat} {U : List TypeId} {m : Nat → Prop}
theorem Fr.refl (w : World) : Fr B U m w w := ⟨rfl, rfl, rfl, Nat.le_refl _, fun _ _ h _ => h⟩
theorem Fr.trans {a b c : World} (h : Fr B U m a b) (k : Fr B U m b c) : Fr B U m a c :=
  ⟨k.os.trans h.os, k.tape.trans h.tape, k.output.trans h.output, Nat.le_trans h.size k.size, fun i o hi hn => k.block i o (h.block i o hi hn) hn⟩
theorem Fr.mono {U' : List TypeId} {m' : Nat → Prop} {a b : World} (h : Fr B U m a b) (hU : ∀ t ∈ U, t ∈ U') (hm : ∀ k, k < a.heap.size → m k → m' k) : Fr B U' m' a b :=
  ⟨h.os, h.tape, h.output, h.size, fun k o hk hn => h.block k o hk (hn.imp id fun hn => ⟨fun e => hn.1 (hm k (lt_of_some hk) e), fun cs t f e hu => hn.2 cs t f e (hU t hu)⟩)⟩
theorem Fr.of_below {w w' : World} (h : Below w.heap.size w w') : Fr B U m w w' := ⟨h.os, h.tape, h.output, h.size, fun k _ hk _ => (h.block k (lt_of_some hk)).trans hk⟩
theorem Fr.below {w w' : World} (h : Fr B U m w w') (hB : B ≤ w.heap.size) : Below B w w' :=
  ⟨h.os, h.tape, h.output, h.size, fun k hk => by
    obtain ⟨o, ho⟩ := some_of_lt (w := w) (k := k) (by omega)
    exact (h.block k o ho (.inl hk)).trans ho.symm⟩
/-- A step that turns blocks of the kinds alone. -/
theorem Fr.step {S : Nat → Prop} {a w w' : World} (h : Fr B U m a w) (hT : Turn S w w') (hS : ∀ k, S k → a.heap.size ≤ k ∨ (B ≤ k ∧ (m k ∨ Tag U w k))) : Fr B U m a w' :=
  ⟨hT.os.trans h.os, hT.tape.trans h.tape, hT.output.trans h.output, Nat.le_trans h.size hT.size, fun k o hk hn => by
    have h1 := h.block k o hk hn
    refine (hT.block k (lt_of_some h1) fun hs => ?_).trans h1
    rcases hS k hs with h2 | ⟨h2, h3 | ⟨cs, t, f, h4, h5⟩⟩
    · have := lt_of_some hk; omega
    · rcases hn with hn | hn
      · omega
      · exact hn.1 h3
    · rcases hn with hn | hn
      · omega
      · rw [h1] at h4
        cases h4
        exact hn.2 _ _ _ rfl h5⟩
theorem Fr.drew {a w : World} (h : Fr B U m a w) : Fr B U m a w.drew := ⟨h.os, h.tape, h.output, h.size, h.block⟩
theorem Fr.alloc {a w : World} (h : Fr B U m a w) (o : Obj) : Fr B U m a (w.alloc o) :=
  h.step ((Turn.of_grown (World.grownBy_alloc w o none))) fun k hk => by cases hk
theorem turn_setCell (w : World) (p : Addr) (u : Value) : Turn (fun k => k = p.block) w (w.setCell p u) :=
  ⟨rfl, rfl, rfl, by simp, fun k _ hn => Below.heap_setCell w p u k hn⟩
theorem turn_setRow (w : World) (g : Nat) (cs : Array Value) : Turn (fun k => k = g) w (w.setRow g cs) :=
  ⟨rfl, rfl, rfl, by simp [World.setRow], fun k _ hn => setRow_other w g k cs hn⟩
theorem Fr.setCell {a w : World} (h : Fr B U m a w) {p : Addr} (hp : a.heap.size ≤ p.block ∨ (B ≤ p.block ∧ (m p.block ∨ Tag U w p.block))) (u : Value) : Fr B U m a (w.setCell p u) :=
  h.step (turn_setCell w p u) fun k hk => by subst hk; exact hp
theorem Fr.setRow {a w : World} (h : Fr B U m a w) {g : Nat} (hp : a.heap.size ≤ g ∨ (B ≤ g ∧ (m g ∨ Tag U w g))) (cs : Array Value) : Fr B U m a (w.setRow g cs) :=
  h.step (turn_setRow w g cs) fun k hk => by subst hk; exact hp
theorem Fr.grown {a w w' : World} {row : Option Nat} (h : Fr B U m a w) (hg : w.grownBy w' row) (hr : ∀ g, row = some g → a.heap.size ≤ g ∨ (B ≤ g ∧ (m g ∨ Tag U w g))) : Fr B U m a w' :=
  h.step (Turn.of_grown hg) fun k hk => hr k hk.symm
theorem Fr.blk {w w' : World} (h : Fr B U m w w') {k : Nat} {t : TypeId} {cs : Array Value} (hb : Blk w k t cs) (hn : k < B ∨ (¬ m k ∧ t ∉ U)) : Blk w' k t cs :=
  h.block k _ hb (hn.imp id fun hn => ⟨hn.1, fun cs t f e hu => by cases e; exact hn.2 hu⟩)
theorem Fr.cell {w w' : World} (h : Fr B U m w w') {p : Addr} {u : Value} (hc : w.cell? p = some u) (hp : p.block < B) : w'.cell? p = some u := by
  obtain ⟨o, ho⟩ := some_of_lt (World.block_lt_of_cell? _ _ hc)
  exact (World.cell?_of_block ((h.block p.block o ho (.inl hp)).trans ho.symm)).trans hc
theorem Fr.row {w w' : World} (h : Fr B U m w w') {base size n : Nat} {e : TypeId} {v : Value} {xs : List Value} (hr : w.ownsRow base e size v n xs) (he : e ∉ U) (hm : ∀ k, v.ownBlock = some k → ¬ m k) : w'.ownsRow base e size v n xs := by
  obtain ⟨h0, h1 | ⟨g, cap, cur, rfl, hb, hg, h2⟩⟩ := hr
  · exact ⟨h0, .inl h1⟩
  · exact ⟨h0, .inr ⟨g, cap, cur, rfl, hb, h.block g _ hg (.inr ⟨hm g rfl, fun cs t f e2 hu => by cases e2; exact he hu⟩), h2⟩⟩
end
theorem blk_tag {w : World} {k : Nat} {t : TypeId} {cs : Array Value} (h : Blk w k t cs) {U : List TypeId} (ht : t ∈ U) : Tag U w k := ⟨cs, t, (0, 0), h, ht⟩
/-! ### maps from names -/
abbrev DM := DataW Unit
abbrev Nm := List UInt8
def nm (s : ByteArray) : Nm := s.data.toList
theorem nm_inj {a b : ByteArray} (h : nm a = nm b) : a = b := by
  obtain ⟨⟨a⟩⟩ := a; obtain ⟨⟨b⟩⟩ := b; exact congrArg (fun x => (⟨⟨x⟩⟩ : ByteArray)) h
/-- A kind of elements. -/
structure MK (β : Type) where
  t : TypeId
  e : TypeId
  ht : Try.prog.underlying t = some (.map 9 e)
  R : Value → Option (DM × List MemPlace)
  val : β → Value
  code : β → DM
  zv : Value
  hz : ∀ w, (zeroValue e).run Try.prog w = .ok zv w
  zd : DM
  hzd : R zv = some (zd, [])
  ok : β → Prop
  hR : ∀ b, ok b → R (val b) = some (code b, [])
  inv : ∀ b v ps, R v = some (code b, ps) → v = val b
  invz : ∀ v ps, R v = some (zd, ps) → v = zv
variable {β : Type} {M : MK β}
structure ViewM (M : MK β) (D : DM) (F : Nm → Option β) : Prop where
  map : IsMap D
  has : ∀ x, Maps.has D (.string x) = (F x).isSome
  at_ : ∀ x j, F x = some j → ∀ zd, D.atKey (.string x) zd = M.code j
  no : ∀ x, F x = none → ∀ zd, D.atKey (.string x) zd = zd
/-- A map from names lies there, of at most n entries. -/
def IsM (M : MK β) (w : World) (b n : Nat) (F : Nm → Option β) : Prop := ∃ D : DM, w.ownsMap Try.prog 9 M.R b n D ∧ ViewM M D F
theorem law9 : Keyed Try.prog 9 := string_keyed Try.underlying9
theorem key9 {s : ByteArray} (hs : s.size ≤ maxLen) : keyOf Try.prog 9 (.string s) = some (.string (nm s)) := Go.WideMaps.keyOf_string_mk Try.underlying9 hs
theorem keyLit (x : Nm) : WideAt.IsKeyLit (.string x) := trivial
theorem IsM.blk {w : World} {b n : Nat} {F : Nm → Option β} (h : IsM M w b n F) : ∃ es c, w.heap[b]? = some (.map es c) := by
  obtain ⟨D, ⟨es, c, hb, _⟩, _⟩ := h
  exact ⟨es, c, hb⟩
theorem IsM.lt {w : World} {b n : Nat} {F : Nm → Option β} (h : IsM M w b n F) : b < w.heap.size := by
  obtain ⟨es, c, h⟩ := h.blk
  exact lt_of_some h
theorem IsM.same {w w' : World} {b n : Nat} {F : Nm → Option β} (h : IsM M w b n F) (he : w'.heap[b]? = w.heap[b]?) : IsM M w' b n F := by
  obtain ⟨D, ⟨es, clock, hb, hf⟩, hv⟩ := h
  exact ⟨D, ⟨es, clock, he.trans hb, hf⟩, hv⟩
theorem IsM.fr {B : Nat} {U : List TypeId} {m : Nat → Prop} {w w' : World} {b n : Nat} {F : Nm → Option β} (h : IsM M w b n F) (hf : Fr B U m w w') (hm : ¬ m b) : IsM M w' b n F := by
  obtain ⟨es, c, hb⟩ := h.blk
  exact h.same ((hf.block b _ hb (.inr ⟨hm, fun _ _ _ e => by cases e⟩)).trans hb.symm)
theorem IsM.below {w w' : World} {b n : Nat} {F : Nm → Option β} (h : IsM M w b n F) (hf : Below w.heap.size w w') : IsM M w' b n F := h.same (hf.block b h.lt)
theorem IsM.mono {w : World} {b n n' : Nat} {F : Nm → Option β} (h : IsM M w b n F) (hn : n ≤ n') : IsM M w b n' F := by
  obtain ⟨D, h, hv⟩ := h
  exact ⟨D, h.mono hn, hv⟩
theorem IsM.made (M : MK β) (w : World) : IsM M (w.alloc (.map #[] 0)) w.heap.size 0 (fun _ => none) :=
  ⟨.map [], World.ownsMap_made w _ _ _, ⟨isMap_empty, fun x => rfl, fun x j h => (by cases h), fun x _ zd => rfl⟩⟩
def putF (F : Nm → Option β) (a : Nm) (j : β) : Nm → Option β := fun x => if x = a then some j else F x
theorem strKey_ne {x a : Nm} (h : x ≠ a) : Lit.string x ≠ Lit.string a := fun e => h (by injection e)
theorem ViewM.put {D : DM} {F : Nm → Option β} (h : ViewM M D F) (a : Nm) (j : β) : ViewM M (D.put (.string a) (M.code j)) (putF F a j) := by
  refine ⟨h.map.put _ _, fun x => ?_, fun x k hk zd => ?_, fun x hk zd => ?_⟩
  · unfold putF
    by_cases hx : x = a
    · subst hx; rw [if_pos rfl, has_put_same h.map (keyLit x)]; rfl
    · rw [if_neg hx, has_put_other (strKey_ne hx), h.has]
  · unfold putF at hk
    by_cases hx : x = a
    · subst hx
      rw [if_pos rfl] at hk
      injection hk with hk
      subst hk
      exact atKey_put_same h.map (keyLit x) _ _
    · rw [if_neg hx] at hk
      rw [atKey_put_other (strKey_ne hx)]
      exact h.at_ x k hk zd
  · unfold putF at hk
    by_cases hx : x = a
    · rw [if_pos hx] at hk; cases hk
    · rw [if_neg hx] at hk
      rw [atKey_put_other (strKey_ne hx)]
      exact h.no x hk zd
/-- What is found. -/
def found (M : MK β) (r : Option β) : Value := match r with | some j => M.val j | none => M.zv
theorem ViewM.found {D : DM} {F : Nm → Option β} (h : ViewM M D F) {x : Nm} {v : Value} {ps : List MemPlace} (hv : M.R v = some (D.atKey (.string x) M.zd, ps)) : v = found M (F x) := by
  cases hF : F x with
  | some j => rw [h.at_ x j hF] at hv; exact M.inv j v ps hv
  | none => rw [h.no x hF] at hv; exact M.invz v ps hv
section
variable (w : World) {ops : Array Oper} {rest : List Oper} {o : Oper} {a : Act} {Q : Exit → Act → World → Prop}
/-- Looked up, with 'ok'. -/
theorem wpList_look_ok (M : MK β) (hg : o.guard = none) (m x : Operand) (hop : o.op = Op.lookup M.t m x true) (b n : Nat) (F : Nm → Option β) (hm : a.eval m = .map (some b)) (h : IsM M w b n F) (s : ByteArray) (hx : a.eval x = .string s) (hs : s.size ≤ maxLen)
    (hK : wpList Try.prog ops Q rest (a.put o.dst (.tuple #[found M (F (nm s)), .bool (F (nm s)).isSome])) w) : wpList Try.prog ops Q (o :: rest) a w := by
  obtain ⟨D, hown, hv⟩ := h
  refine wpList_lookup_own_ok w hg m x M.t hop 9 M.e law9 M.ht M.R (M.hz w) M.zd [] M.hzd b n D hm hown _ _ hx (key9 hs) fun v ps h1 => ?_
  rw [hv.has, hv.found h1]
  exact hK
/-- Looked up. -/
theorem wpList_look (M : MK β) (hg : o.guard = none) (m x : Operand) (hop : o.op = Op.lookup M.t m x false) (b n : Nat) (F : Nm → Option β) (hm : a.eval m = .map (some b)) (h : IsM M w b n F) (s : ByteArray) (hx : a.eval x = .string s) (hs : s.size ≤ maxLen)
    (hK : wpList Try.prog ops Q rest (a.put o.dst (found M (F (nm s)))) w) : wpList Try.prog ops Q (o :: rest) a w := by
  obtain ⟨D, hown, hv⟩ := h
  obtain ⟨v, ps, hrun, h1⟩ := hown.lookup law9 M.ht (M.hz w) M.hzd (key9 hs)
  have e := hv.found h1
  subst e
  refine wpList_plain hg fun K' hK' => ?_
  unfold Oper.wp
  simp [execOp, hop, hm, hx, hrun, Result.andThen]
  exact hK' _ _ hK
/-- Stored. -/
theorem wpList_put (M : MK β) (hg : o.guard = none) (m x v : Operand) (hop : o.op = Op.mapUpdate M.t m x v) (b n : Nat) (F : Nm → Option β) (hm : a.eval m = .map (some b)) (h : IsM M w b n F) (hn : n < maxLen) (s : ByteArray) (hx : a.eval x = .string s) (hs : s.size ≤ maxLen)
    (j : β) (hv : a.eval v = M.val j) (hj : M.ok j)
    (hK : ∀ w', IsM M w' b (n + 1) (putF F (nm s) j) → w.grownBy w' (some b) → wpList Try.prog ops Q rest (a.put o.dst undef) w') : wpList Try.prog ops Q (o :: rest) a w := by
  obtain ⟨D, hown, hD⟩ := h
  refine wpList_mapUpdate_own w hg m x v M.t hop 9 M.e law9 M.ht _ b n D hm hown hn _ _ _ hx hv (key9 hs) _ [] (M.hR j hj) fun w' h1 h2 => ?_
  exact hK w' ⟨_, h1, hD.put _ _⟩ h2
theorem wpListIn_put {Fc : Fence} {nF : Nat} (M : MK β) (hg : o.guard = none) (m x v : Operand) (hop : o.op = Op.mapUpdate M.t m x v) (b n : Nat) (F : Nm → Option β) (hm : a.eval m = .map (some b)) (h : IsM M w b n F) (hn : n < maxLen) (s : ByteArray) (hx : a.eval x = .string s) (hs : s.size ≤ maxLen)
    (j : β) (hv : a.eval v = M.val j) (hj : M.ok j)
    (hK : ∀ w', IsM M w' b (n + 1) (putF F (nm s) j) → w.grownBy w' (some b) → wpListIn Fc nF Try.prog ops Q rest (a.put o.dst undef) w') : wpListIn Fc nF Try.prog ops Q (o :: rest) a w := by
  obtain ⟨D, hown, hD⟩ := h
  refine wpListIn_mapUpdate_own w hg m x v M.t hop 9 M.e law9 M.ht _ b n D hm hown hn _ _ _ hx hv (key9 hs) _ [] (M.hR j hj) fun w' h1 h2 => ?_
  exact hK w' ⟨_, h1, hD.put _ _⟩ h2
end
/-- The stored step by itself. -/
theorem run_put (M : MK β) (w : World) (b n : Nat) (F : Nm → Option β) (h : IsM M w b n F) (hn : n < maxLen) (s : ByteArray) (hs : s.size ≤ maxLen) (j : β) (hj : M.ok j) :
    ∃ w', (Instr.mapUpdate M.t (.map (some b)) (.string s) (M.val j)).run Try.prog w = .ok () w' ∧ IsM M w' b (n + 1) (putF F (nm s) j) ∧ w.grownBy w' (some b) := by
  obtain ⟨D, hown, hD⟩ := h
  obtain ⟨w', hrun, r1, r2⟩ := hown.update law9 M.ht hn (key9 hs) (M.hR j hj)
  exact ⟨w', hrun, ⟨_, r1, hD.put _ _⟩, r2⟩
/-- Numbers. -/
def intElem : Value → Option (DM × List MemPlace)
  | .int .i64 a => some (.lit (.int .i64 a), [])
  | _ => none
theorem intElem_inv {v : Value} {a : Int} {ps : List MemPlace} (h : intElem v = some (.lit (.int .i64 a), ps)) : v = .int .i64 a := by
  unfold intElem at h
  split at h
  · simp only [Option.some.injEq, Prod.mk.injEq, DataW.lit.injEq, Lit.int.injEq, true_and] at h
    rw [h.1]
  · cases h
def mkI : MK Nat where
  t := 117
  e := 3
  ht := Try.underlying117
  R := intElem
  val := fun j => .int .i64 (j : Int)
  code := fun j => .lit (.int .i64 (j : Int))
  zv := .int .i64 0
  hz := fun w => by kernel_rfl
  zd := .lit (.int .i64 0)
  hzd := rfl
  ok := fun _ => True
  hR := fun j hj => rfl
  inv := fun j v ps h => intElem_inv h
  invz := fun v ps h => intElem_inv h
end Go.Proofs.Ytlakmniaocpaaaa.sg
