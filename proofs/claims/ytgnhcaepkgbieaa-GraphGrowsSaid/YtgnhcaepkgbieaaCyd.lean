/-
  A row of numbers from its end on: the library's iterator, and the range over it, whose body is told what has come. An append of a row of numbers. Condition: at most a million numbers.
-/
import Derived.Test.YtgnhcaepkgbieaaCyb
import Derived.RangeFuncNested
import Derived.RangeFuncBound
import Derived.RangeFuncLeaves
import Derived.Shelf.Abstract
import Derived.Shelf.RegionOpen
import Derived.WalkKit
import Derived.OwnWalkIn
import Derived.TacticsInMore
import Derived.LoopNIn
import Derived.LoopIn
namespace Go.Proofs.Ytgnhcaepkgbieaa
open Go.RowKit Go.Shelf
open Go.Lib hiding intOf

/-! ### an append of a row -/
theorem run_append_ints (w : World) (base : Nat) (ty : TypeId) (v : Value) (n : Nat) (xs : List Value) (hown : w.ownsRow base 3 1 v n xs) (o : Option Addr) (m c b2 : Nat) (ys : List Nat) (hy : w.ownsRow b2 3 1 (.slice o m c) m (iC ys)) (hl : ys.length = m) (hm : 0 < m)
    (hb : base ≤ w.heap.size) (hn : n + m ≤ 1000000) :
    ∃ o' cap w', (Builtin.append_ #[42, 42] ty #[v, .slice o m c]).run Try.prog w = .ok (.slice o' (n + m) cap) w' ∧ w'.ownsRow base 3 1 (.slice o' (n + m) cap) (n + m) (xs ++ iC ys) ∧
      Turn (fun k => v.ownBlock = some k) w w' ∧ (∀ k, (Value.slice o' (n + m) cap).ownBlock = some k → v.ownBlock = some k ∨ w.heap.size ≤ k) := by
  obtain ⟨i0, hi, hi'⟩ := Option.map_eq_some_iff.1 info3s
  simp only [Prod.mk.injEq] at hi'
  obtain ⟨hz0, hz1, hz2⟩ := hi'
  obtain ⟨g, rfl, _, _⟩ := row_some hy hm
  obtain ⟨v', w', hrun, r1, hcase⟩ := run_append_tells (P := Try.prog) w base 42 ty 3 i0 (.int .i64 0) 1 8 Try.underlying42 hi hz0 hz1 hz2 rfl (by decide) v n xs hown ⟨g, 0, none⟩ m c (iC ys) (by rw [iC_len, hl]; omega)
    (fun j u hu => by
      have e : (⟨g, 0, none⟩ : Addr).add j = ⟨g, j, none⟩ := by unfold Addr.add; split <;> simp_all
      have hj : j < m := by have := (List.getElem?_eq_some_iff.1 hu).1; rw [iC_len, hl] at this; exact this
      rw [e, World.ownsRow.cellAt hy j (by omega)]
      exact hu) (fun u hu => by
      unfold iC at hu
      obtain ⟨x, _, rfl⟩ := List.mem_map.1 hu
      rfl) (by unfold maxLen; omega) (by omega) hb hm
  rcases hcase with ⟨cap, rfl, hg⟩ | ⟨g2, cap, rfl, rfl, hg⟩
  · refine ⟨_, cap, w', hrun, r1, (Turn.of_grown hg).mono fun k _ hk => (by cases hk), fun k hk => .inr ?_⟩
    simp only [Value.ownBlock, Option.some.injEq] at hk
    omega
  · exact ⟨_, cap, w', hrun, r1, (Turn.of_grown hg).mono fun k _ hk => hk.symm, fun k hk => .inl hk⟩
theorem wpList_append_ints {ops : Array Oper} {rest : List Oper} {op : Oper} {a : Act} {w : World} {Q : Exit → Act → World → Prop} (hgd : op.guard = none) (s x : Operand)
    (ho : op.op = .call { callee := .builtin .append, args := #[s, x], argTypes := #[42, 42] }) (base : Nat) (v : Value) (n : Nat) (xs : List Value) (hs : a.eval s = v) (hown : w.ownsRow base 3 1 v n xs) (o : Option Addr) (m c b2 : Nat) (ys : List Nat) (hx : a.eval x = .slice o m c) (hy : w.ownsRow b2 3 1 (.slice o m c) m (iC ys)) (hl : ys.length = m) (hm : 0 < m)
    (hb : base ≤ w.heap.size) (hn : n + m ≤ 1000000)
    (h : ∀ o' cap w', w'.ownsRow base 3 1 (.slice o' (n + m) cap) (n + m) (xs ++ iC ys) → Turn (fun k => v.ownBlock = some k) w w' → (∀ k, (Value.slice o' (n + m) cap).ownBlock = some k → v.ownBlock = some k ∨ w.heap.size ≤ k) → wpList Try.prog ops Q rest (a.put op.dst (.slice o' (n + m) cap)) w') :
    wpList Try.prog ops Q (op :: rest) a w := by
  refine wpList_plain hgd fun K hK => ?_
  obtain ⟨o', cap, w', hrun, r1, r2, r3⟩ := run_append_ints w base op.type v n xs hown o m c b2 ys hy hl hm hb hn
  unfold Oper.wp
  simp [execOp, ho, resolve, invoke, builtin, hs, hx, hrun, Result.andThen]
  exact hK _ _ (h o' cap w' r1 r2 r3)
theorem wpListIn_append_ints {F : Fence} {fn : Nat} {ops : Array Oper} {rest : List Oper} {op : Oper} {a : Act} {w : World} {Q : Exit → Act → World → Prop} (hgd : op.guard = none) (s x : Operand)
    (ho : op.op = .call { callee := .builtin .append, args := #[s, x], argTypes := #[42, 42] }) (base : Nat) (v : Value) (n : Nat) (xs : List Value) (hs : a.eval s = v) (hown : w.ownsRow base 3 1 v n xs) (o : Option Addr) (m c b2 : Nat) (ys : List Nat) (hx : a.eval x = .slice o m c) (hy : w.ownsRow b2 3 1 (.slice o m c) m (iC ys)) (hl : ys.length = m) (hm : 0 < m)
    (hb : base ≤ w.heap.size) (hn : n + m ≤ 1000000)
    (h : ∀ o' cap w', w'.ownsRow base 3 1 (.slice o' (n + m) cap) (n + m) (xs ++ iC ys) → Turn (fun k => v.ownBlock = some k) w w' → (∀ k, (Value.slice o' (n + m) cap).ownBlock = some k → v.ownBlock = some k ∨ w.heap.size ≤ k) → wpListIn F fn Try.prog ops Q rest (a.put op.dst (.slice o' (n + m) cap)) w') :
    wpListIn F fn Try.prog ops Q (op :: rest) a w := by
  refine wpListIn_plain hgd fun K hK => ?_
  obtain ⟨o', cap, w', hrun, r1, r2, r3⟩ := run_append_ints w base op.type v n xs hown o m c b2 ys hy hl hm hb hn
  unfold Oper.wpIn
  refine ⟨?_, ?_⟩
  · simp [Oper.about, ho, resolve, Target.leads, Sem.run_pure]
  · rw [Oper.semAt_plain F _ _ (by rw [ho]; intro c hc'; cases hc')]
    simp [execOp, ho, resolve, invoke, builtin, hs, hx, hrun, Result.andThen]
    exact hK _ _ (h o' cap w' r1 r2 r3)

/-! ### from the end on -/
def bks (L : List Nat) : Nat → List (Nat × Nat)
  | 0 => []
  | i + 1 => (i, getH L i) :: bks L i
structure IsBk (W : World) (bx : Nat) (o : Option Addr) (m cap : Nat) (L : List Nat) : Prop where
  box : W.heap[bx]? = some (.cells #[.slice o m cap] 42)
  row : AtI W o L
theorem IsBk.cell {W : World} {bx : Nat} {o : Option Addr} {m cap : Nat} {L : List Nat} (h : IsBk W bx o m cap L) : W.cell? ⟨bx, 0, none⟩ = some (.slice o m cap) := by
  simp [World.cell?, h.box]
theorem IsBk.put {W : World} {bx l : Nat} {o : Option Addr} {m cap : Nat} {L : List Nat} {ob : Obj} (h : IsBk W bx o m cap L) (hl : W.heap[l]? = some ob) (hc : ob.isCells = false) (o' : Obj) : IsBk (W.putObj l o') bx o m cap L := by
  refine ⟨(World.putObj_heap_other fun e => ?_).trans h.box, fun i x hx => ?_⟩
  · have hb := h.box
    rw [e, hl] at hb
    cases hb
    cases hc
  · obtain ⟨g, h1, h2⟩ := h.row i x hx
    refine ⟨g, h1, (World.cell?_of_block (World.putObj_heap_other fun e => ?_)).trans h2⟩
    simp only at e
    rw [World.cell?] at h2
    simp only [e, hl] at h2
    cases ob <;> simp_all [Obj.isCells]
theorem IsBk.turn {W W' : World} {S : Nat → Prop} {bx : Nat} {o : Option Addr} {m cap : Nat} {L : List Nat} (h : IsBk W bx o m cap L) (hT : Turn S W W') (h1 : ¬ S bx) (h2 : ∀ g, o = some ⟨g, 0, none⟩ → ¬ S g) : IsBk W' bx o m cap L :=
  ⟨(hT.block bx (Array.getElem?_eq_some_iff.1 h.box).1 h1).trans h.box, fun i x hx => by
    obtain ⟨g, e, hc⟩ := h.row i x hx
    exact ⟨g, e, hT.cell hc (h2 g e)⟩⟩

attribute [local go_sem] Oper.semAt_some

theorem backwardP_any (o : Option Addr) (m cap : Nat) (w : World) : Calls Try.prog 32 #[.slice o m cap] w fun e w' =>
    e = .returned (.func (.func 43) #[] #[.pointer (some ⟨w.heap.size, 0, none⟩)]) ∧ w' = w.alloc (.cells #[.slice o m cap] 42) := by
  go_enter Try.func32, Try.ntmps32
  go_wp2
  go_ret
  exact ⟨rfl, rfl⟩

set_option maxRecDepth 100000 in
set_option maxHeartbeats 2000000 in
theorem backward1_in (n : Nat) (hn : 1 ≤ n) (l bx : Nat) (o : Option Addr) (m cap : Nat) (L : List Nat) (hL : L.length = m) (hm : m ≤ 1000000) (J Jx : List (Nat × Nat) → World → Prop)
    (hY : ∀ pre x W, J pre W → pre ++ [x] <+: bks L m → YieldAt Fence.wide (n - 1) Try.prog l #[.int .i64 (x.1 : Int), .int .i64 (x.2 : Int)] W fun e W' =>
      (e = .returned (.bool true) ∧ J (pre ++ [x]) W' ∧ (IsBk W bx o m cap L → IsBk W' bx o m cap L)) ∨ (e = .returned (.bool false) ∧ Jx (pre ++ [x]) W'))
    (W : World) (hT : IsBk W bx o m cap L) (h0 : J [] W) :
    CallsIn Fence.wide n Try.prog 43 #[.func (.yield l) #[] #[], .pointer (some ⟨bx, 0, none⟩)] W fun e W' => (∃ v, e = .returned v) ∧ (J (bks L m) W' ∨ ∃ pre, Jx pre W') := by
  refine callsIn_of_wp Try.func43 rfl trivial ?_ rfl
  simp only [Try.ntmps43, List.size_toArray, List.length_cons, List.length_nil, Nat.reduceAdd, Nat.reduceSub, Array.replicate_succ, Array.replicate_zero, List.push_toArray, List.append_toArray, List.nil_append, List.cons_append]
  have HY := Lib.hid hY
  have HT := Lib.hid hT
  have H0 := Lib.hid h0
  have HL := Lib.hid hL
  have HM := Lib.hid hm
  have c0 := hT.cell
  have hw0 := IntWalk.i64_in ((m : Int) - 1) ⟨by omega, by omega⟩
  clear hY hT h0 hL hm
  gi_wp2
  gi_loopw [3] (fun a wr => ∃ (pre : List (Nat × Nat)) (i : Nat), a = .int .i64 ((i : Int) - 1) ∧ Hid (i ≤ m) ∧ Hid (pre ++ bks L i = bks L m) ∧ Hid (J pre wr) ∧ Hid (IsBk wr bx o m cap L)) (fun a _ => (RowKit.intOf a + 1).toNat)
  case atStart => exact ⟨[], m, rfl, Nat.le_refl _, rfl, H0, HT⟩
  case round =>
    obtain ⟨pre, i, rfl, HI, HP, HJ, HB⟩ := hrel
    clear c0 hw0
    have c0 := HB.out.cell
    cases i with
    | zero =>
      have hneg : ¬ ((0 : Int) ≤ ((0 : Nat) : Int) - 1) := by decide
      have hp := HP.out
      simp only [bks, List.append_nil] at hp
      subst hp
      gi_wp2
      go_end0
      exact ⟨⟨_, rfl⟩, .inl HJ.out⟩
    | succ i =>
      have hie : (((i + 1 : Nat)) : Int) - 1 = (i : Int) := by omega
      rw [hie]
      have hin := HI.out
      have hnn : (0 : Int) ≤ (i : Int) := by omega
      have him : (i : Int) < (m : Int) := by omega
      have hwi := IntWalk.i64_in ((i : Int) - 1) ⟨by omega, by have := HM.out; omega⟩
      obtain ⟨g, rfl, hcx⟩ := HB.out.row i (getH L i) (getH_at (by rw [HL.out]; omega))
      have hpre : pre ++ [(i, getH L i)] <+: bks L m := ⟨bks L i, by rw [← HP.out]; simp [bks]⟩
      obtain ⟨fn, tmps, assign, body, hy, hR⟩ := HY.out pre (i, getH L i) wr HJ.out hpre
      dsimp only at hy
      have HRR := Lib.hid hR
      have HPre := Lib.hid (show (pre ++ [(i, getH L i)]) ++ bks L i = bks L m by rw [← HP.out]; simp [bks])
      clear hR hpre hin hie
      gi_wp2_with fail
      refine HRR.out.mono ?_
      rintro e W3 (⟨rfl, hJ3, hk3⟩ | ⟨rfl, hJx3⟩)
      · have HJ3 := Lib.hid hJ3
        have HB3 := Lib.hid (hk3 HB.out)
        clear hJ3 hk3 c0 hcx hy
        gi_wp2
        go_roundw
        case rel => exact ⟨pre ++ [(i, getH L i)], i, rfl, by have := HI.out; show _ ≤ _; omega, HPre, HJ3, HB3⟩
        case measure => simp [RowKit.intOf]
      · have HJ3 := Lib.hid hJx3
        clear hJx3 c0 hcx hy
        gi_wp2
        refine bodyPost_ret (results_none rfl _ _ _) rfl ?_
        exact ⟨⟨_, rfl⟩, .inr ⟨_, HJ3.out⟩⟩

end Go.Proofs.Ytgnhcaepkgbieaa
