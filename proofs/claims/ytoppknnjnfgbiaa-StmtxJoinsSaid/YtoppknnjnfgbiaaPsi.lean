/-
  The walk of 'inside', out of what it calls. Condition: the parser lies in memory as said.
-/
import Derived.Test.YtoppknnjnfgbiaaPsg
namespace Go.Proofs.Ytoppknnjnfgbiaa
open Go.RowKit
open Go.Lib hiding intOf

/-- One expression in brackets. -/
def ins (l : List TZ) (f : Nat) (z : UInt8) (d : Nat) (i : Int) : EO EX :=
  if 30 ≤ d then .err (tkAt l i).pos 6 else
  match ex l f 1 (d + 1) (i + 1) with
  | .ok y j => if isS (tkAt l j) z then .ok y (j + 1) else .err (tkAt l j).pos 5
  | .err p c => .err p c
  | .out => .out

section
variable {b c m : Nat} {o : Option Addr} {l : List TZ}

set_option maxRecDepth 20000 in
set_option maxHeartbeats 4000000 in
theorem inside_any {f : Nat} (hn : l.length ≤ 1073741824) (HL : LevC b o c m l f) (a z : UInt8) (d : Nat) (i : Int) (w : World) (hd : d ≤ 30) (S : PS b o c m l i d w) (ha : isS (tkAt l i) a = true) (hr : ins l f z d i ≠ .out) :
    Calls Try.prog 77 #[.pointer (some ⟨b, 0, none⟩), .string ⟨#[a]⟩, .string ⟨#[z]⟩] w (Tel b o c m l d w (ins l f z d i)) := by
  have H := Lib.hid S
  have hbl := S.lt
  have HN := Lib.hid hn
  have HD := Lib.hid hd
  have hkt : isKT (tkAt l i) 4 ⟨#[a]⟩ = true := by rw [isKT_S]; exact ha
  have HKT := Lib.hid hkt
  clear S hn hd hkt ha
  unfold ins at hr ⊢
  by_cases h30 : 30 ≤ d
  · have hd30 : d = 30 := by have := HD.out; omega
    rw [if_pos h30]
    have HX := Lib.hid (fun (W : World) (h : PS b o c m l i d W) => enter_deep (y := ⟨#[a]⟩) (by rw [hd30] at h; exact h) HN.out HKT.out)
    clear hr HL h30 hd30
    go_enter Try.func77, Try.ntmps77
    go_wp2_with fail
    refine (HX.out _ (H.out.alloc _)).mono ?_
    rintro e w3 ⟨rfl, hK⟩
    have K3 := Lib.hid (((Kp.refl b w).alloc _).trans hK)
    clear hK
    go_wp2
    exact ⟨rfl, rfl, K3.out⟩
  · rw [if_neg h30] at hr ⊢
    have HX := Lib.hid (fun (W : World) (h : PS b o c m l i d W) => enter_ok (y := ⟨#[a]⟩) h HN.out HKT.out (by omega))
    have HD1 : Hid (d + 1 ≤ 30) := by show d + 1 ≤ 30; omega
    clear h30
    cases hq : ex l f 1 (d + 1) (i + 1) with
    | out => rw [hq] at hr; exact (hr rfl).elim
    | err p q =>
      have HC := Lib.hid (fun (W : World) (h : PS b o c m l (i + 1) ((d + 1 : Nat) : Int) W) => HL 1 1 (d + 1) (i + 1) W rfl (by decide) (by decide) HD1.out h (by rw [hq]; simp))
      rw [hq] at HC
      clear hq hr HL
      go_enter Try.func77, Try.ntmps77
      go_wp2_with fail
      refine (HX.out _ (H.out.alloc _)).mono ?_
      rintro e w3 ⟨rfl, hS, hK⟩
      have S3 := Lib.hid hS
      have K3 := Lib.hid (((Kp.refl b w).alloc _).trans hK)
      clear hK hS
      go_wp2_with fail
      refine (HC.out _ (by rw [Int.natCast_add]; exact S3.out)).mono ?_
      rintro e w4 ⟨rfl, hK⟩
      have K4 := Lib.hid (K3.out.trans hK)
      clear hK
      go_wp2
      exact ⟨rfl, rfl, K4.out⟩
    | ok x j =>
      have HC := Lib.hid (fun (W : World) (h : PS b o c m l (i + 1) ((d + 1 : Nat) : Int) W) => HL 1 1 (d + 1) (i + 1) W rfl (by decide) (by decide) HD1.out h (by rw [hq]; simp))
      rw [hq] at HC
      clear hq hr HL
      cases hz : isS (tkAt l j) z
      · have hkz : isKT (tkAt l j) 4 ⟨#[z]⟩ = false := by rw [isKT_S]; exact hz
        have HV := Lib.hid (fun (W : World) (d : Int) (h : PS b o c m l j d W) => leave_no (y := ⟨#[z]⟩) h HN.out hkz)
        show Calls _ _ _ _ (Tel b o c m l d w (if isS (tkAt l j) z = true then _ else _))
        rw [hz, if_neg (by decide)]
        clear hkz hz
        go_enter Try.func77, Try.ntmps77
        go_wp2_with fail
        refine (HX.out _ (H.out.alloc _)).mono ?_
        rintro e w3 ⟨rfl, hS, hK⟩
        have S3 := Lib.hid hS
        have K3 := Lib.hid (((Kp.refl b w).alloc _).trans hK)
        clear hK hS
        go_wp2_with fail
        refine (HC.out _ (by rw [Int.natCast_add]; exact S3.out)).mono ?_
        rintro e w4 ⟨v, rfl, hx, hS, hK⟩
        obtain ⟨n, nm, tk, tp, tg, tn, tz, ta, o', c', rfl, _⟩ := hx.parts
        have S4 := Lib.hid (hS.alloc (.cells #[.int .i64 x.kind, .int .i64 x.pos, .int .i64 x.stop, .string nm, .int .i64 n, .int .i64 tk, .int .i64 tp, .string tg, .string tn, .slice tz ta ta, .slice o' x.args.length c'] 41))
        have K4 := Lib.hid ((K3.out.trans hK).alloc (.cells #[.int .i64 x.kind, .int .i64 x.pos, .int .i64 x.stop, .string nm, .int .i64 n, .int .i64 tk, .int .i64 tp, .string tg, .string tn, .slice tz ta ta, .slice o' x.args.length c'] 41))
        clear hx hS hK
        go_wp2_with fail
        refine (HV.out _ _ S4.out).mono ?_
        rintro e w5 ⟨rfl, hK⟩
        have K5 := Lib.hid (K4.out.trans hK)
        clear hK
        go_wp2
        exact ⟨rfl, rfl, K5.out⟩
      · have hkz : isKT (tkAt l j) 4 ⟨#[z]⟩ = true := by rw [isKT_S]; exact hz
        have HV := Lib.hid (fun (W : World) (h : PS b o c m l j ((d : Nat) + 1) W) => leave_ok (y := ⟨#[z]⟩) h HN.out hkz (by have := HD1.out; omega))
        show Calls _ _ _ _ (Tel b o c m l d w (if isS (tkAt l j) z = true then _ else _))
        rw [hz, if_pos rfl]
        clear hkz hz
        go_enter Try.func77, Try.ntmps77
        go_wp2_with fail
        refine (HX.out _ (H.out.alloc _)).mono ?_
        rintro e w3 ⟨rfl, hS, hK⟩
        have S3 := Lib.hid hS
        have K3 := Lib.hid (((Kp.refl b w).alloc _).trans hK)
        have R3 := Lib.hid ((Blk.new w 41 zeroE).kp hK (by omega))
        have hz3 : w.heap.size < w3.heap.size := R3.out.lt
        clear hK hS
        go_wp2_with fail
        refine (HC.out _ (by rw [Int.natCast_add]; exact S3.out)).mono ?_
        rintro e w4 ⟨v, rfl, hx, hS, hK⟩
        obtain ⟨n, nm, tk, tp, tg, tn, tz, ta, o', c', rfl, _⟩ := hx.parts
        rw [Int.natCast_add] at hS
        have HX4 := Lib.hid (IsEP.alloc hx (.cells #[.int .i64 x.kind, .int .i64 x.pos, .int .i64 x.stop, .string nm, .int .i64 n, .int .i64 tk, .int .i64 tp, .string tg, .string tn, .slice tz ta ta, .slice o' x.args.length c'] 41))
        have S4 := Lib.hid (hS.alloc (.cells #[.int .i64 x.kind, .int .i64 x.pos, .int .i64 x.stop, .string nm, .int .i64 n, .int .i64 tk, .int .i64 tp, .string tg, .string tn, .slice tz ta ta, .slice o' x.args.length c'] 41))
        have K4 := Lib.hid ((K3.out.trans hK).alloc (.cells #[.int .i64 x.kind, .int .i64 x.pos, .int .i64 x.stop, .string nm, .int .i64 n, .int .i64 tk, .int .i64 tp, .string tg, .string tn, .slice tz ta ta, .slice o' x.args.length c'] 41))
        have R4 := Lib.hid ((R3.out.kp hK (by omega)).alloc (.cells #[.int .i64 x.kind, .int .i64 x.pos, .int .i64 x.stop, .string nm, .int .i64 n, .int .i64 tk, .int .i64 tp, .string tg, .string tn, .slice tz ta ta, .slice o' x.args.length c'] 41))
        have X4 := Lib.hid (Blk.new w4 41 #[.int .i64 x.kind, .int .i64 x.pos, .int .i64 x.stop, .string nm, .int .i64 n, .int .i64 tk, .int .i64 tp, .string tg, .string tn, .slice tz ta ta, .slice o' x.args.length c'])
        have hz34 : w3.heap.size ≤ w4.heap.size := hK.size
        clear hx hS hK
        go_wp2_with fail
        refine (HV.out _ S4.out).mono ?_
        rintro e w5 ⟨rfl, hS, hK⟩
        rw [show ((d : Nat) : Int) + 1 - 1 = (d : Nat) by omega] at hS
        have S5 := Lib.hid hS
        have K5 := Lib.hid (K4.out.trans hK)
        have hr5 := R4.out.kp hK (by omega)
        have hx5 := X4.out.kp hK (by omega)
        have HX5 := Lib.hid (IsEX.kp HX4.out hK (by omega))
        have c5 := hx5.cell
        have r5 := hr5.cell
        have f5 := hr5.frozen
        have hz5 : w4.heap.size < w5.heap.size := hx5.lt
        have hz6 : w.heap.size < w5.heap.size := hr5.lt
        simp only [zeroE] at r5
        clear hS hK hr5 hx5
        go_wp2
        refine bodyPost_ret (v := .agg #[.int .i64 x.kind, .int .i64 x.pos, .int .i64 x.stop, .string nm, .int .i64 n, .int .i64 tk, .int .i64 tp, .string tg, .string tn, .slice tz ta ta, .slice o' x.args.length c']) (by simp [results, Try.results77, go_sem, r5]) rfl ?_
        refine ⟨_, rfl, ?_, ?_, ?_⟩
        · exact (HX5.out.set11 (by omega) _ _ _ _ _ _ _ _ _ _ _).mono (by omega)
        · exact S5.out.set11 hbl _ _ _ _ _ _ _ _ _ _ _
        · exact set11_kp K5.out (.inl (Nat.le_refl _)) _ _ _ _ _ _ _ _ _ _ _

end

end Go.Proofs.Ytoppknnjnfgbiaa
