/-
  The range over pairs, its body told what has come; whether an argument tells a parameter. Condition: at most a million parts.
-/
import Derived.Test.YtlakmniaocpaaaaM11
import Derived.Test.YtlakmniaocpaaaaM14
namespace Go.Proofs.Ytlakmniaocpaaaa
open Go.RowKit Go.Shelf
open Go.Lib hiding intOf
attribute [local go_sem] Oper.semAt_some
theorem kd_books {D B : Nat} {r : Loop} {A : World} (hb : Books D r A) (hB : B ≤ D) (r' : Loop) : KD B A (A.putObj (D + 1) (.loop r')) :=
  (Turn.of_grown (grownBy_putObj' A (D + 1) (.loop r'))).mono fun k _ hk => by
    obtain rfl : k = D + 1 := by injection hk
    refine ⟨by omega, fun h => ?_⟩
    obtain ⟨cs, f, h⟩ := h
    rw [hb.own] at h
    cases h
theorem KD.trans' {B : Nat} {a b c : World} (h : KD B a b) (k : KD B b c) : KD B a c :=
  ⟨k.os.trans h.os, k.tape.trans h.tape, k.output.trans h.output, Nat.le_trans h.size k.size, fun i hi hn => by
    have e := h.block i hi hn
    refine (k.block i (Nat.lt_of_lt_of_le hi h.size) fun hq => hn ⟨hq.1, fun h2 => hq.2 ?_⟩).trans e
    obtain ⟨cs, f, h2⟩ := h2
    exact ⟨cs, f, e.trans h2⟩⟩
theorem KD.alloc {B : Nat} (W : World) (o : Obj) : KD B W (W.alloc o) := (Turn.refl _ W).alloc o
theorem Books.turnN {D B : Nat} {r : Loop} {A Z : World} (h : Books D r A) (hT : KN B A Z) : Books D r Z :=
  ⟨(hT.block _ (Array.getElem?_eq_some_iff.1 h.calls).1 (fun hn => by obtain ⟨_, cs, f, hc⟩ := hn; rw [h.calls] at hc; cases hc)).trans h.calls,
   (hT.block _ (Array.getElem?_eq_some_iff.1 h.own).1 (fun hn => by obtain ⟨_, cs, f, hc⟩ := hn; rw [h.own] at hc; cases hc)).trans h.own⟩
abbrev PL := List (GY × GY)
def noXP : Code → PL → World → Prop := fun _ _ _ => False
theorem round_pair {B : Nat} {fn : FuncId} {a : Act} {ps : Array Tmp} {assign body : Code} {D : Nat} (hBD : B ≤ D) (hps : ps.size = 2)
    (I : PL → World → Prop) (hI : OwnFrom D I) (Ax : Value → Value → Act → World → Prop) (hAx : ∀ x u a', OwnFrom D (fun (_ : Unit) W => Ax x u a' W)) (pre : PL) (x : GY × GY) (v u : Value)
    (hassign : ∀ (W : World) (K : Act → World → Prop), I pre W → (∀ a' W', KeepsFrom D W W' → KD B W W' → I pre W' → Ax v u a' W' → K a' W') →
      assign.wpIn (Fence.wide.inRound (D + 1)) 4 Try.prog (Exit.then K (fun _ _ _ => False)) { tmps := (ps.zip #[v, u]).foldl (fun t (p, v) => t.setIfInBounds p v) a.tmps, defers := [] } W)
    (hbody : ∀ (a' : Act) (W : World), I pre W → Ax v u a' W → body.wpIn (Fence.wide.inRound (D + 1)) 4 Try.prog (ownPostG D (KD B) I noXP (pre ++ [x]) W) a' W)
    (W : World) (h : I pre W ∧ Books D (recT fn a ps assign body D .ready none) W) :
    YieldAt Fence.wide 4 Try.prog (D + 1) #[v, u] W fun e W' =>
      e = .returned (.bool true) ∧ (I (pre ++ [x]) W' ∧ Books D (recT fn a ps assign body D .ready none) W') ∧ KD B W W' := by
  refine ⟨fn, _, assign, body, run_yield h.2.own (by rw [show (#[v, u] : Array Value).size = 2 from rfl]; exact hps.symm), roundIn_of_wpIn trivial (hassign W _ h.1 ?_)⟩
  intro a' A hka hra hia hax
  have hA := h.2.keep hka
  have hW := hA.write (recT fn a ps assign body D .busy none)
  have hr := kd_books hA hBD (recT fn a ps assign body D .busy none)
  refine ⟨_, run_beginRound hA.own rfl, wpIn_mono (hbody a' _ (own_books hI hia hA) ((hAx v u a').putObj (s := ()) _ hax (Nat.le_succ _) hA.own rfl)) ?_⟩
  intro e a3 Z hz
  cases e with
  | normal =>
    have hZ := hW.keep hz.1
    exact ⟨_, _, round_shut hZ none, rfl, ⟨own_books hI hz.2.2 hZ, hZ.write _⟩, hra.trans' (hr.trans' (KD.trans' hz.2.1 (kd_books hZ hBD _)))⟩
  | ret => exact hz.2.elim
  | exit id => exact hz.2.elim
  | goto t => exact hz.2.elim
  | panic ch => exact hz.elim
  | outgrown => exact hz.elim
theorem entersP : ∀ args w, (callFunc 42 args).run Try.prog w = .ok (.enter 42 args) w := enters_of Try.func42 (by kernel_rfl) rfl
theorem range_pairs {bp ba B : Nat} {g : Operand} {ps : Array Tmp} {assign body : Code} {Q : Exit → Act → World → Prop} {a : Act} {w : World} (w0 : World) (P A : List GY) (oP oA : Option Addr) (cP cA : Nat) (hP : EntL w0 P oP cP) (hA : EntL w0 A oA cA) (hcnt : cntYs P ≤ 1000000)
    (hTP : Blk w bp 23 #[.slice oP P.length cP]) (hTA : Blk w ba 23 #[.slice oA A.length cA]) (hg : a.eval g = .func (.func 42) #[] #[.pointer (some ⟨bp, 0, none⟩), .pointer (some ⟨ba, 0, none⟩)]) (hps : ps.size = 2)
    (I : PL → World → Prop) (hI : OwnFrom w.heap.size I) (hIB : ∀ pre W, I pre W → Below w0.heap.size w0 W ∧ B ≤ W.heap.size) (hIK : ∀ pre W W', I pre W → KN B W W' → I pre W') (h0 : I [] w)
    (Ax : Value → Value → Act → World → Prop) (hAx : ∀ x u a', OwnFrom w.heap.size (fun (_ : Unit) W => Ax x u a' W))
    (hassign : ∀ (l : Nat) (pre : PL) (x : GY × GY) (v u : Value) (W : World) (K : Act → World → Prop), I pre W → IsY w0 x.1 v → IsY w0 x.2 u → (∀ a' W', KeepsFrom w.heap.size W W' → KD B W W' → I pre W' → Ax v u a' W' → K a' W') →
      assign.wpIn (Fence.wide.inRound l) 4 Try.prog (Exit.then K (fun _ _ _ => False)) { tmps := (ps.zip #[v, u]).foldl (fun t (p, v) => t.setIfInBounds p v) a.tmps, defers := [] } W)
    (hbody : ∀ (l : Nat) (pre : PL) (x : GY × GY) (v u : Value) (a' : Act) (W : World), I pre W → IsY w0 x.1 v → IsY w0 x.2 u → Ax v u a' W → pre ++ [x] <+: prYs P A → body.wpIn (Fence.wide.inRound l) 4 Try.prog (ownPostG w.heap.size (KD B) I noXP (pre ++ [x]) W) a' W)
    (hdone : ∀ (D : Nat) (W : World), w.heap.size ≤ D → I (prYs P A) W → W.heap[D]? = some (.deferred (some [])) → Q .normal { a with defers := { target := .collected D, args := #[] } :: a.defers } W) :
    (Code.rangeFunc g ps assign body).wpIn Fence.wide 6 Try.prog Q a w := by
  refine wpIn_rangeFunc fun fn _ => ?_
  have hBw := (hIB _ _ h0).2
  have hM := Books.made w (recT fn a ps assign body w.heap.size .ready none)
  have h1 : I [] ((w.alloc (.deferred (some []))).alloc (.loop (recT fn a ps assign body w.heap.size .ready none))) := hI.alloc _ (hI.alloc _ h0)
  have hT1 : Blk ((w.alloc (.deferred (some []))).alloc (.loop (recT fn a ps assign body w.heap.size .ready none))) bp 23 #[.slice oP P.length cP] :=
    (hTP.kept (World.grownBy_alloc _ _ none) (by simp)).kept (World.grownBy_alloc _ _ none) (by simp)
  have hT2 : Blk ((w.alloc (.deferred (some []))).alloc (.loop (recT fn a ps assign body w.heap.size .ready none))) ba 23 #[.slice oA A.length cA] :=
    (hTA.kept (World.grownBy_alloc _ _ none) (by simp)).kept (World.grownBy_alloc _ _ none) (by simp)
  obtain ⟨W1, hW1⟩ : ∃ W1, (w.alloc (.deferred (some []))).alloc (.loop (recT fn a ps assign body w.heap.size .ready none)) = W1 := ⟨_, rfl⟩
  rw [hW1] at hM h1 hT1 hT2
  have hE : (Instr.enterLoop fn a.tmps ps assign body Fence.wide.round).run Try.prog w = .ok (w.heap.size + 1, [{ target := .collected w.heap.size, args := #[] }]) W1 := by
    rw [← hW1]; exact run_enterLoop_outer _ _ _ _ _
  refine ⟨w.heap.size + 1, [{ target := .collected w.heap.size, args := #[] }], W1, { target := .fn (.func 42) #[.pointer (some ⟨bp, 0, none⟩), .pointer (some ⟨ba, 0, none⟩)], args := #[.func (.yield (w.heap.size + 1)) #[] #[]] }, W1, 42,
    #[.func (.yield (w.heap.size + 1)) #[] #[]] ++ #[.pointer (some ⟨bp, 0, none⟩), .pointer (some ⟨ba, 0, none⟩)], W1, hE, ?_, fun _ _ => trivial, ?_, (fun h => absurd h (by decide)), ?_⟩
  · simp only [resolve, hg]
    simp [go_sem]
  · simp [invoke, go_sem]
  · refine (pairs_in 5 (by omega) (w.heap.size + 1) bp ba B w0 P A oP oA cP cA hP hA hcnt (fun pre W => I pre W ∧ Books w.heap.size (recT fn a ps assign body w.heap.size .ready none) W)
      (fun pre W W' h hk => ⟨hIK pre W W' h.1 hk, h.2.turnN hk⟩) (fun pre W h => hIB pre W h.1)
      (fun pre x v u W hJ hx hy hpre => round_pair hBw hps I hI Ax hAx pre x v u (fun W K hi => hassign _ pre x v u W K hi hx hy) (fun a' W hi ha => hbody _ pre x v u a' W hi hx hy ha hpre) W hJ) _ hT1 hT2 ⟨h1, hM⟩).mono ?_
    rintro e Z ⟨⟨v, rfl⟩, hi, hb⟩
    exact ⟨none, _, run_endLoop hb.own (by simp [recT]), hdone _ _ (Nat.le_refl _) (own_books hI hi hb) (hb.write _).calls⟩
/-- The iterator made. -/
theorem pairs_any (oP oA : Option Addr) (nP cP nA cA : Nat) (w : World) : Calls Try.prog 28 #[.slice oP nP cP, .slice oA nA cA] w fun e w' =>
    e = .returned (.func (.func 42) #[] #[.pointer (some ⟨w.heap.size, 0, none⟩), .pointer (some ⟨w.heap.size + 1, 0, none⟩)]) ∧ w' = (w.alloc (.cells #[.slice oP nP cP] 23)).alloc (.cells #[.slice oA nA cA] 23) := by
  go_enter Try.func28, Try.ntmps28
  go_wp2
  go_ret
  exact ⟨rfl, rfl⟩
set_option maxRecDepth 100000 in
/-- Does an argument tell a parameter? -/
theorem tells_any (x y : GY) (v u : Value) (w0 w : World) (hx : IsY w0 x v) (hy : IsY w0 y u) : Calls Try.prog 29 #[v, u] w fun e w' => e = .returned (.bool (tellsB (x, y))) ∧ Below w.heap.size w w' := by
  obtain ⟨xk, xp, xm, xn, xl⟩ := x
  obtain ⟨yk, yp, ym, yn, yl⟩ := y
  obtain ⟨ox, cx, rfl, _⟩ := hx.parts
  obtain ⟨oy, cy, rfl, _⟩ := hy.parts
  obtain ⟨W2, hW2, HBX⟩ := bx2 w #[.int .i64 xk, .string xp, .string xm, .int .i64 xn, .slice ox xl.length cx] #[.int .i64 yk, .string yp, .string ym, .int .i64 yn, .slice oy yl.length cy] 34 34
  have HE : Hid (tellsB (GY.mk xk xp xm xn xl, GY.mk yk yp ym yn yl) = (decide (xk = 6) && !decide (yk = 0) && !decide (yk = 7))) := rfl
  have HB : Hid (Below w.heap.size w ((w.alloc (.cells #[.int .i64 xk, .string xp, .string xm, .int .i64 xn, .slice ox xl.length cx] 34)).alloc (.cells #[.int .i64 yk, .string yp, .string ym, .int .i64 yn, .slice oy yl.length cy] 34))) := by
    have := HBX.out.2.1
    rw [← hW2] at this
    exact this
  clear HBX hW2 hx hy
  generalize xl.length = nx at *
  generalize yl.length = ny at *
  generalize tellsB (GY.mk xk xp xm xn xl, GY.mk yk yp ym yn yl) = R at *
  by_cases h6 : xk = 6
  · subst h6
    by_cases h0 : yk = 0
    · subst h0
      go_enter Try.func29, Try.ntmps29
      go_wp2
      go_ret
      exact ⟨by rw [HE.out]; rfl, HB.out⟩
    · have h0' : (yk != 0) = true := by simpa using h0
      by_cases h7 : yk = 7
      · subst h7
        go_enter Try.func29, Try.ntmps29
        go_wp2
        go_ret
        exact ⟨by rw [HE.out]; rfl, HB.out⟩
      · have h7' : (yk != 7) = true := by simpa using h7
        have HR : Hid (R = true) := by show _ = _; rw [HE.out]; simp [h0, h7]
        clear h0 h7
        go_enter Try.func29, Try.ntmps29
        go_wp2
        go_ret
        exact ⟨by rw [HR.out]; rfl, HB.out⟩
  · have h6' : (xk == 6) = false := by simpa using h6
    have HR : Hid (R = false) := by show _ = _; rw [HE.out]; simp [h6]
    clear h6
    go_enter Try.func29, Try.ntmps29
    go_wp2
    go_ret
    exact ⟨by rw [HR.out]; rfl, HB.out⟩
end Go.Proofs.Ytlakmniaocpaaaa
