/-
  A heap of numbers in memory: its small methods. Condition: at most a million numbers.
-/
import Derived.Test.YtgnhcaepkgbieaaMpe
import Derived.Test.YtgnhcaepkgbieaaHpa
import Derived.BigQuiet
import Derived.BigRegion
namespace Go.Proofs.Ytgnhcaepkgbieaa
open Go.RowKit

def iC (l : List Nat) : List Value := l.map fun (x : Nat) => Value.int .i64 (x : Int)
theorem iC_len (l : List Nat) : (iC l).length = l.length := List.length_map ..
theorem iC_at {l : List Nat} {i : Nat} (h : i < l.length) : (iC l)[i]? = some (.int .i64 (getH l i : Int)) := by
  unfold iC
  rw [List.getElem?_map, getH_at h]
  rfl
theorem iC_app (a b : List Nat) : iC (a ++ b) = iC a ++ iC b := List.map_append
theorem iC_set (l : List Nat) (i x : Nat) : iC (l.set i x) = (iC l).set i (.int .i64 (x : Int)) := by
  unfold iC
  rw [List.map_set]
/-- A row of numbers of the call's own, at one block. -/
abbrev RowI (w : World) (base : Nat) (e : TypeId) (g n cap : Nat) (l : List Nat) : Prop := w.ownsRow base e 1 (.slice (some ⟨g, 0, none⟩) n cap) n (iC l)
theorem RowI.cell {w : World} {base g n cap i : Nat} {e : TypeId} {l : List Nat} (h : RowI w base e g n cap l) (hn : l.length = n) (hi : i < n) : w.cell? ⟨g, i, none⟩ = some (.int .i64 (getH l i : Int)) := by
  rw [World.ownsRow.cellAt h i (by omega)]
  exact iC_at (by omega)
theorem RowI.set {w : World} {base g n cap i x : Nat} {e : TypeId} {l : List Nat} (h : RowI w base e g n cap l) : RowI (w.setCell ⟨g, i, none⟩ (.int .i64 (x : Int))) base e g n cap (l.set i x) ∧ Turn (fun k => k = g) w (w.setCell ⟨g, i, none⟩ (.int .i64 (x : Int))) := by
  obtain ⟨h1, h2⟩ := World.ownsRow.stored h i (.int .i64 (x : Int))
  rw [← iC_set] at h1
  exact ⟨h1, (Turn.of_grown h2).mono fun k _ hk => by injection hk⟩
theorem RowI.lt {w : World} {base g n cap : Nat} {e : TypeId} {l : List Nat} (h : RowI w base e g n cap l) : base ≤ g ∧ g < w.heap.size := World.ownsRow.lt h g rfl

/-- How many. -/
theorem lenP_any (o : Option Addr) (n cap : Nat) (w : World) :
    Calls Try.prog 101 #[.slice o n cap] w fun e w' => e = .returned (.int .i64 (n : Int)) ∧ w' = w := by
  go_enter Try.func101, Try.ntmps101
  go_wp2
  go_ret
  exact ⟨rfl, rfl⟩
set_option maxRecDepth 20000 in
/-- Which is less. -/
theorem lessP_any (base g n cap i j : Nat) (l : List Nat) (w : World) (h : RowI w base 3 g n cap l) (hn : l.length = n) (hi : i < n) (hj : j < n) :
    Calls Try.prog 102 #[.slice (some ⟨g, 0, none⟩) n cap, .int .i64 (i : Int), .int .i64 (j : Int)] w fun e w' => e = .returned (.bool (decide (getH l i < getH l j))) ∧ Turn (fun _ => False) w w' := by
  have ci := h.cell hn hi
  have cj := h.cell hn hj
  have hi' : (i : Int) < (n : Int) := by omega
  have hj' : (j : Int) < (n : Int) := by omega
  clear h
  go_enter Try.func102, Try.ntmps102
  go_wp2
  go_quiet (fail)
  go_wp2
  go_ret
  exact ⟨by simp, by first | exact (Turn.refl _ _) | exact ⟨rfl, rfl, rfl, Nat.le_refl _, fun _ _ _ => rfl⟩⟩
set_option maxRecDepth 20000 in
set_option maxHeartbeats 1000000 in
/-- Two change places. -/
theorem swapP_any (base g n cap i j : Nat) (l : List Nat) (w : World) (h : RowI w base 3 g n cap l) (hn : l.length = n) (hi : i < n) (hj : j < n) :
    Calls Try.prog 103 #[.slice (some ⟨g, 0, none⟩) n cap, .int .i64 (i : Int), .int .i64 (j : Int)] w fun e w' => e = .returned (.tuple #[]) ∧ RowI w' base 3 g n cap (swapH l i j) ∧ Turn (fun k => k = g) w w' := by
  have HR := Lib.hid h
  have ci := h.cell hn hi
  have cj := h.cell hn hj
  have fi := World.ownsRow.frozenAt h i
  have fj := World.ownsRow.frozenAt h j
  have hi' : (i : Int) < (n : Int) := by omega
  have hj' : (j : Int) < (n : Int) := by omega
  clear h
  obtain ⟨v', hy'⟩ := cell?_setCell_some (w := w) (p := ⟨g, i, none⟩) (x := .int .i64 (getH l j : Int)) (q := ⟨g, j, none⟩) cj
  go_enter Try.func103, Try.ntmps103
  go_wp2
  go_region
  go_end0
  have h1 := HR.out.set (i := i) (x := getH l j)
  have h2 := h1.1.set (i := j) (x := getH l i)
  exact ⟨rfl, h2.1.drew, (h1.2.trans (h2.2.mono fun k _ hk => hk)).drew⟩

/-! ### reached through an interface -/
/-- How many types the program has, and a hundred (a new seat: another number). -/
theorem typesSz : Try.prog.types.size + 100 = 229 := by kernel_rfl
theorem meth_len (w : World) (b : Nat) (v : Value) (h : w.cell? ⟨b, 0, none⟩ = some v) : Sem.run Try.prog (method (Try.prog.types.size + 100) 62 (.pointer (some ⟨b, 0, none⟩)) "Len") w = .ok (101, v) w := by
  have e : Sem.run Try.prog (method (Try.prog.types.size + 100) 62 (.pointer (some ⟨b, 0, none⟩)) "Len") w = (do let v ← loadVar 43 ⟨b, 0, none⟩; pure (101, v) : Sem (FuncId × Value)).run Try.prog w := by kernel_rfl
  rw [e]
  simp [go_sem, h, Result.andThen]
theorem meth_less (w : World) (b : Nat) (v : Value) (h : w.cell? ⟨b, 0, none⟩ = some v) : Sem.run Try.prog (method (Try.prog.types.size + 100) 62 (.pointer (some ⟨b, 0, none⟩)) "Less") w = .ok (102, v) w := by
  have e : Sem.run Try.prog (method (Try.prog.types.size + 100) 62 (.pointer (some ⟨b, 0, none⟩)) "Less") w = (do let v ← loadVar 43 ⟨b, 0, none⟩; pure (102, v) : Sem (FuncId × Value)).run Try.prog w := by kernel_rfl
  rw [e]
  simp [go_sem, h, Result.andThen]
theorem meth_swap (w : World) (b : Nat) (v : Value) (h : w.cell? ⟨b, 0, none⟩ = some v) : Sem.run Try.prog (method (Try.prog.types.size + 100) 62 (.pointer (some ⟨b, 0, none⟩)) "Swap") w = .ok (103, v) w := by
  have e : Sem.run Try.prog (method (Try.prog.types.size + 100) 62 (.pointer (some ⟨b, 0, none⟩)) "Swap") w = (do let v ← loadVar 43 ⟨b, 0, none⟩; pure (103, v) : Sem (FuncId × Value)).run Try.prog w := by kernel_rfl
  rw [e]
  simp [go_sem, h, Result.andThen]
theorem meth_push (w : World) (b : Nat) : Sem.run Try.prog (method (Try.prog.types.size + 100) 62 (.pointer (some ⟨b, 0, none⟩)) "Push") w = .ok (105, .pointer (some ⟨b, 0, none⟩)) w := by kernel_rfl
theorem meth_pop (w : World) (b : Nat) : Sem.run Try.prog (method (Try.prog.types.size + 100) 62 (.pointer (some ⟨b, 0, none⟩)) "Pop") w = .ok (104, .pointer (some ⟨b, 0, none⟩)) w := by kernel_rfl

/-! ### an append of one, and what it leaves -/
theorem run_append_one (w : World) (base : Nat) (t ty e : TypeId) (z u : Value) (bytes : Nat) (ht : Try.prog.underlying t = some (.slice e)) (hinf : (Try.prog.info? e).map (fun i => (i.zero, i.size, i.bytes)) = some (some z, 1, bytes)) (hzs : z.cells.size = 1)
    (v : Value) (n : Nat) (xs : List Value) (hown : w.ownsRow base e 1 v n xs) (h1 : u.oneCell' = true) (hb : base ≤ w.heap.size) (hn : (n + 1) * bytes ≤ 140737488355328) (hn2 : n + 1 ≤ maxLen) :
    ∃ o cap w', (Builtin.append_ #[t, t] ty #[v, .slice (some ⟨w.heap.size, 0, none⟩) 1 1]).run Try.prog (w.alloc (.cells #[u] e)) = .ok (.slice o (n + 1) cap) w' ∧ w'.ownsRow base e 1 (.slice o (n + 1) cap) (n + 1) (xs ++ [u]) ∧
      Turn (fun k => v.ownBlock = some k) w w' ∧ (∀ k, (Value.slice o (n + 1) cap).ownBlock = some k → v.ownBlock = some k ∨ w.heap.size ≤ k) := by
  obtain ⟨i0, hi, hi'⟩ := Option.map_eq_some_iff.1 hinf
  simp only [Prod.mk.injEq] at hi'
  obtain ⟨hz0, hz1, hz2⟩ := hi'
  obtain ⟨v', w', hrun, r1, hcase⟩ := run_append_tells (P := Try.prog) (w.alloc (.cells #[u] e)) base t ty e i0 z 1 bytes ht hi hz0 hz1 hz2 hzs (by decide) v n xs (hown.alloc _) ⟨w.heap.size, 0, none⟩ 1 1 [u] rfl
    (fun j u' hu => by
      have e : (⟨w.heap.size, 0, none⟩ : Addr).add j = ⟨w.heap.size, j, none⟩ := by unfold Addr.add; split <;> simp_all
      rw [e]
      refine (World.cell?_alloc_new w _ _ j).trans ?_
      rw [← hu]
      exact List.getElem?_toArray ..) (by simpa using h1) hn2 hn (by rw [World.size_alloc]; omega) (by decide)
  have hT : Turn (fun k => v.ownBlock = some k) w (w.alloc (.cells #[u] e)) := (Turn.refl _ w).alloc _
  rcases hcase with ⟨cap, rfl, hg⟩ | ⟨g, cap, rfl, rfl, hg⟩
  · refine ⟨_, cap, w', hrun, r1, hT.trans ((Turn.of_grown hg).mono fun k _ hk => by cases hk), fun k hk => .inr ?_⟩
    simp only [Value.ownBlock, Option.some.injEq, World.size_alloc] at hk
    omega
  · exact ⟨_, cap, w', hrun, r1, hT.trans ((Turn.of_grown hg).mono fun k _ hk => hk.symm), fun k hk => .inl hk⟩
/-- The law for the walk. -/
theorem wpList_append_one {ops : Array Oper} {rest : List Oper} {op : Oper} {a : Act} {w0 : World} {Q : Exit → Act → World → Prop} (hgd : op.guard = none) (s x : Operand) (t e : TypeId)
    (ho : op.op = .call { callee := .builtin .append, args := #[s, x], argTypes := #[t, t] }) (z u : Value) (bytes : Nat) (ht : Try.prog.underlying t = some (.slice e)) (hinf : (Try.prog.info? e).map (fun i => (i.zero, i.size, i.bytes)) = some (some z, 1, bytes)) (hzs : z.cells.size = 1) (base : Nat)
    (v : Value) (n : Nat) (xs : List Value) (hs : a.eval s = v) (hown : w0.ownsRow base e 1 v n xs) (hx : a.eval x = .slice (some ⟨w0.heap.size, 0, none⟩) 1 1) (h1 : u.oneCell' = true)
    (hb : base ≤ w0.heap.size) (hn : (n + 1) * bytes ≤ 140737488355328) (hn2 : n + 1 ≤ maxLen)
    (h : ∀ o cap w', w'.ownsRow base e 1 (.slice o (n + 1) cap) (n + 1) (xs ++ [u]) → Turn (fun k => v.ownBlock = some k) w0 w' → (∀ k, (Value.slice o (n + 1) cap).ownBlock = some k → v.ownBlock = some k ∨ w0.heap.size ≤ k) → wpList Try.prog ops Q rest (a.put op.dst (.slice o (n + 1) cap)) w') :
    wpList Try.prog ops Q (op :: rest) a (w0.alloc (.cells #[u] e)) := by
  refine wpList_plain hgd fun K hK => ?_
  obtain ⟨o, cap, w', hrun, r1, r2, r3⟩ := run_append_one w0 base t op.type e z u bytes ht hinf hzs v n xs hown h1 hb hn hn2
  unfold Oper.wp
  simp [execOp, ho, resolve, invoke, builtin, hs, hx, hrun, Result.andThen]
  exact hK _ _ (h o cap w' r1 r2 r3)
/-- The law for a region whose order is drawn. -/
theorem step_append {P : Program} {ops : Array Oper} {o : Oper} {a : Act} {w : World} {K : Act → World → Prop} {Q : Exit → Act → World → Prop} {E : Prop}
    (hg : o.guard = none) (s x : Operand) (t : TypeId) (hop : o.op = Op.call { callee := Callee.builtin Builtin.append, args := #[s, x], argTypes := #[t, t] }) (v1 v2 : Value) (hs : a.eval s = v1) (hx : a.eval x = v2)
    (v' : Value) (w' : World) (hrun : (Builtin.append_ #[t, t] o.type #[v1, v2]).run P w = .ok v' w') (hK : K (a.put o.dst v') w') :
    if Region.wanted o (yielded ops a.tmps) = true then Oper.wp P o a w K Q else E := by
  have hw : Region.wanted o (yielded ops a.tmps) = true := by simp [Region.wanted, hg]
  rw [if_pos hw]
  unfold Oper.wp
  simp [execOp, hop, resolve, invoke, builtin, hs, hx, hrun, Result.andThen]
  exact hK
theorem info3s : (Try.prog.info? 3).map (fun i => (i.zero, i.size, i.bytes)) = some (some (.int .i64 0), 1, 8) := by kernel_rfl

/-! ### the heap behind its variable -/
structure IsHp (w : World) (base b : Nat) (H : List Nat) (o : Option Addr) (cap : Nat) : Prop where
  box : w.heap[b]? = some (.cells #[.slice o H.length cap] 43)
  row : w.ownsRow base 3 1 (.slice o H.length cap) H.length (iC H)
  lt : b < base
  few : H.length ≤ 100000
theorem IsHp.cell {w : World} {base b cap : Nat} {H : List Nat} {o : Option Addr} (h : IsHp w base b H o cap) : w.cell? ⟨b, 0, none⟩ = some (.slice o H.length cap) ∧ w.frozen? ⟨b, 0, none⟩ = false ∧ b < w.heap.size := by
  have := h.box
  exact ⟨by simp [World.cell?, this], by simp [World.frozen?, this], (Array.getElem?_eq_some_iff.1 this).1⟩
def hpS (b : Nat) (o : Option Addr) (n cap : Nat) (k : Nat) : Prop := k = b ∨ (Value.slice o n cap).ownBlock = some k
theorem Turn.isHp {S : Nat → Prop} {w w' : World} (h : Turn S w w') {base b cap : Nat} {H : List Nat} {o : Option Addr} (hp : IsHp w base b H o cap) (hn : ∀ k, hpS b o H.length cap k → ¬ S k) : IsHp w' base b H o cap :=
  ⟨(h.block b hp.cell.2.2 (hn b (.inl rfl))).trans hp.box, h.row hp.row fun k hk => hn k (.inr hk), hp.lt, hp.few⟩
theorem store_box {w : World} {b : Nat} {u v : Value} {t : TypeId} (h : w.heap[b]? = some (.cells #[u] t)) : (w.setCell ⟨b, 0, none⟩ v).heap[b]? = some (.cells #[v] t) := by
  have := heap_setCell_same w b 0 #[u] t v h
  simpa using this

end Go.Proofs.Ytgnhcaepkgbieaa
