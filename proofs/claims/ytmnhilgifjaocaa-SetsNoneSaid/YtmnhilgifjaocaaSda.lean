/-
  What a type is declared to be; whether it is an interface: the program's answers. No condition.
-/
import Derived.Test.YtmnhilgifjaocaaSci
import Derived.Test.YtmnhilgifjaocaaScd
namespace Go.Proofs.Ytmnhilgifjaocaa
open Go.RowKit
open Go.Lib hiding intOf

theorem bind_zero {W : List IF} {f : IF → Bool} {m : ByteArray} : ((W.find? f).bind fun p => declI p m) = declI ((W.find? f).getD zeroI) m := by
  cases W.find? f with
  | some p => rfl
  | none => rfl

set_option maxRecDepth 100000 in
set_option maxHeartbeats 8000000 in
theorem declP_any (s : SCP) (t : GY) (c : List Value) (v : Value) (w0 w : World) (h : IsSc w0 s c) (ht : IsY w0 t v) (h0 : Below w0.heap.size w0 w) :
    Calls Try.prog 34 #[.agg c.toArray, v] w fun e w' => ∃ d, e = .returned (.tuple #[.agg d.toArray, .bool (findS s.W t).isSome]) ∧ IsTd w0 ((findS s.W t).getD zeroD) d ∧ Below w.heap.size w w' := by
  obtain ⟨o, o1, o2, o3, o4, k, n1, k1, n2, k2, k3, n4, k4, rfl, hl, hk, _, _, hrow, _⟩ := h
  obtain ⟨W, bs⟩ := s
  obtain ⟨tk, tp, tm, tn, ta⟩ := t
  obtain ⟨o5, k5, rfl, _⟩ := ht.parts
  dsimp only at hl hrow ⊢
  have hq : W.length ≤ 9223372036854775807 := by unfold maxLen at hk; omega
  obtain ⟨N, hN⟩ : ∃ N, W.length = N := ⟨_, rfl⟩
  generalize bs.length = nb
  generalize ta.length = na
  rw [hN] at hq ⊢
  obtain ⟨W2, hW2, HBX⟩ := bx3 w #[.slice o N k, .slice o1 n1 k1, .slice o2 n2 k2, .slice o3 nb k3, .slice o4 n4 k4] #[.int .i64 tk, .string tp, .string tm, .int .i64 tn, .slice o5 na k5] #[.string noB, .bool false, .slice none 0 0, .slice none 0 0] 27 29 35
  have HW2 := Lib.hid hW2
  have hww := HBX.out.2.1
  have HWW := Lib.hid hww
  have HD : Hid (findS W (.mk tk tp tm tn ta) = if tk = 4 then (W.find? fun p => decide (p.pkg = tp)).bind fun p => declI p tm else none) := rfl
  by_cases hk : tk = 4
  · have HI := Lib.hid (firstI_any W o N k tp w0 W2 hN hq hrow (h0.trans (hww.mono h0.size)))
    have HX : Hid (∀ (p : IF) (o : Option Addr) (k : Nat) (V : World), p.types.length ≤ k → k ≤ maxLen → IsRow 4 IsTd w0 o p.types → Below w.heap.size w V → Calls Try.prog 51 #[.slice o p.types.length k, .string tm, .func (.func 52) #[] #[]] V fun e w' => ∃ d, e = .returned (.tuple #[.agg d.toArray, .bool (declI p tm).isSome]) ∧ IsTd w0 ((declI p tm).getD zeroD) d ∧ Below V.heap.size V w') :=
      fun p o k V h1 h2 h3 hb => firstD_any p.types o _ k tm w0 V rfl (by unfold maxLen at h2; omega) h3 (h0.trans (hb.mono h0.size))
    have HD1 : Hid (findS W (.mk tk tp tm tn ta) = declI ((W.find? fun p => decide (p.pkg = tp)).getD zeroI) tm) := HD.out.trans ((if_pos hk).trans bind_zero)
    clear HD hl hrow hW2 hN ht h0 hww
    generalize findS W (.mk tk tp tm tn ta) = R at *
    generalize (W.find? fun p => decide (p.pkg = tp)) = F at *
    subst hk
    have c0 : ∀ i, W2.cell? ⟨w.heap.size, i, none⟩ = _ := (HBX.out.at_ (Below.refl _ _) 0 rfl).cell
    have c1 : ∀ i, W2.cell? ⟨w.heap.size + 1, i, none⟩ = _ := (HBX.out.at_ (Below.refl _ _) 1 rfl).cell
    go_enter Try.func34, Try.ntmps34
    go_wp2_with fail
    rw [HW2.out]
    refine HI.out.mono ?_
    rintro e V ⟨d, rfl, hd, hb⟩
    have hcc := hd
    obtain ⟨oT, oF, kT, nF, kF, rfl, hl, hk, hr⟩ := hd
    have hv := stepB HBX.out.2.1 hb (by have := HBX.out.1; omega)
    have hbx1 := HBX.out.at_ hb 1 rfl
    have hx := HX.out (F.getD zeroI) oT kT (V.alloc (.cells #[.string (F.getD zeroI).pkg, .slice oT (F.getD zeroI).types.length kT, .slice oF nF kF] 59)) hl hk hr (hv.alloc hv.size _)
    have HV : Hid (Below W2.heap.size W2 (V.alloc (.cells #[.string (F.getD zeroI).pkg, .slice oT (F.getD zeroI).types.length kT, .slice oF nF kF] 59))) := hb.alloc hb.size _
    have HXX := Lib.hid hx
    have c1' := hbx1.cell
    have l1 := hbx1.lt
    have hne := Nat.ne_of_lt l1
    have hlt2 : w.heap.size + 1 < V.heap.size + 1 := by omega
    clear hl hk hr hx c0 c1 HX HI hcc hv hbx1 hb
    generalize (F.getD zeroI).types.length = nT at *
    generalize (F.getD zeroI).pkg = gP at *
    go_wp2_with fail
    refine HXX.out.mono ?_
    rintro e X ⟨d, rfl, hd, hb⟩
    rw [← HD1.out] at hd ⊢
    have HT := Lib.hid hd
    obtain ⟨od, oe, kd, ke, rfl, _⟩ := hd
    have hx := stepB HV.out hb (Nat.le_refl _)
    have hb2 := HBX.out.at_ hx 2 rfl
    have c2 : ∀ i, X.cell? ⟨w.heap.size + 1 + 1, i, none⟩ = _ := hb2.cell
    have f2 : ∀ i, X.frozen? ⟨w.heap.size + 1 + 1, i, none⟩ = false := hb2.frozen
    have HX2 := Lib.hid (HBX.out.below hx)
    clear hx hb hb2
    go_wp2
    refine bodyPost_ret (v := .tuple #[.agg #[.string (R.getD zeroD).name, .bool (R.getD zeroD).strct, .slice od (R.getD zeroD).fields.length kd, .slice oe (R.getD zeroD).meths.length ke], .bool R.isSome]) (by simp [results, Try.results34, go_sem, c2]) rfl ?_
    exact ⟨_, rfl, HT.out, below4 HX2.out (by omega) _ _ _ _⟩
  · have hkb : (tk != 4) = true := by simpa using hk
    have HQ := Lib.hid (HD.out.trans (if_neg hk))
    rw [← hW2] at hww
    have HBB := Lib.hid hww
    clear HBX HW2 hww HD hl hrow hW2 hN ht h0 HWW
    generalize findS W (.mk tk tp tm tn ta) = R at *
    go_enter Try.func34, Try.ntmps34
    go_wp2
    refine bodyPost_ret (v := .tuple #[.agg #[.string noB, .bool false, .slice none 0 0, .slice none 0 0], .bool false]) (by simp [results, Try.results34, go_sem]) rfl ?_
    rw [HQ.out]
    exact ⟨_, rfl, IsTd.zero, HBB.out⟩

set_option maxRecDepth 100000 in
set_option maxHeartbeats 8000000 in
theorem ifaceP_any (s : SCP) (t : GY) (c : List Value) (v : Value) (w0 w : World) (h : IsSc w0 s c) (ht : IsY w0 t v) (h0 : Below w0.heap.size w0 w) :
    Calls Try.prog 20 #[.agg c.toArray, v] w fun e w' => e = .returned (.bool (ifaceS s.W t)) ∧ Below w.heap.size w w' := by
  have HF := Lib.hid (fun W (hb : Below w.heap.size w W) => declP_any s t c v w0 W h ht (old_step h0 hb))
  have HD : Hid (ifaceS s.W t = match findS s.W t with | some d => !d.strct | none => false) := rfl
  obtain ⟨o, o1, o2, o3, o4, k, n1, k1, n2, k2, k3, n4, k4, rfl, _⟩ := h
  obtain ⟨tk, tp, tm, tn, ta⟩ := t
  obtain ⟨o5, k5, rfl, _⟩ := ht.parts
  generalize findS s.W (.mk tk tp tm tn ta) = R at *
  generalize ifaceS s.W (.mk tk tp tm tn ta) = B at *
  generalize s.W.length = nW at *
  generalize s.bounds.length = nb at *
  generalize ta.length = na at *
  obtain ⟨W2, hW2, HBX⟩ := bx2 w #[.slice o nW k, .slice o1 n1 k1, .slice o2 n2 k2, .slice o3 nb k3, .slice o4 n4 k4] #[.int .i64 tk, .string tp, .string tm, .int .i64 tn, .slice o5 na k5] 27 29
  have hb1 := HBX.out.2.1
  rw [← hW2] at hb1
  have HB1 := Lib.hid hb1
  clear ht h0 hb1 hW2 HBX
  cases hR : R with
  | none =>
    subst hR
    have e : B = false := HD.out
    subst e
    go_enter Try.func20, Try.ntmps20
    go_wp2_with fail
    refine (HF.out _ HB1.out).mono ?_
    rintro e V ⟨d, rfl, hd, hb⟩
    obtain ⟨od, oe, kd, ke, rfl, _⟩ := hd
    have HV := Lib.hid (stepB HB1.out hb (Nat.le_refl _))
    clear hb
    go_wp2
    go_ret
    exact ⟨rfl, (HV.out.alloc HV.out.size _)⟩
  | some D =>
    subst hR
    have e : B = !D.strct := HD.out
    subst e
    go_enter Try.func20, Try.ntmps20
    go_wp2_with fail
    refine (HF.out _ HB1.out).mono ?_
    rintro e V ⟨d, rfl, hd, hb⟩
    obtain ⟨od, oe, kd, ke, rfl, _⟩ := hd
    have HV := Lib.hid (stepB HB1.out hb (Nat.le_refl _))
    clear hb
    go_wp2
    go_ret
    exact ⟨rfl, (HV.out.alloc HV.out.size _)⟩
end Go.Proofs.Ytmnhilgifjaocaa
