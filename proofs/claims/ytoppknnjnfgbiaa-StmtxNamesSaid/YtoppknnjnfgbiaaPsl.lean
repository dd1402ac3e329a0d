/-
  The walk of 'level', at levels with operators, out of what it calls. Condition: the parser lies in memory as said.
-/
import Derived.Test.YtoppknnjnfgbiaaPsc
import Derived.Deep.DeepCutAuto
namespace Go.Proofs.Ytoppknnjnfgbiaa
open Go.RowKit
open Go.Lib hiding intOf

theorem run_field1 (a b c : Int) (t : ByteArray) (w : World) : (Instr.field 53 (.agg #[.int .i64 a, .int .i64 b, .int .i64 c, .string t]) 1).run Try.prog w = .ok (.int .i64 b) w := by
  simp [Instr.field, go_sem, part, asAgg]

section
variable {b c m : Nat} {o : Option Addr} {l : List TZ}

/-- Behind both operands: the box of what is made. -/
def MidB (b : Nat) (o : Option Addr) (c m : Nat) (l : List TZ) (d : Nat) (w : World) (B : Nat) (pos : Int) (op : ByteArray) (x y : EX) (q : Int) (W : World) : Prop :=
  ∃ g : Nat, Blk W B 41 #[.int .i64 9, .int .i64 pos, .int .i64 0, .string op, .int .i64 0, .int .i64 0, .int .i64 0, .string ⟨#[]⟩, .string ⟨#[]⟩, .slice none 0 0, .slice (some ⟨g, 0, none⟩) 2 2] ∧
    IsEPs (fun n => w.heap.size + 1 ≤ n ∧ n ≠ B) W (some ⟨g, 0, none⟩) 0 [x, y] ∧ PS b o c m l q d W ∧ Kp b w W ∧ Blk W w.heap.size 41 zeroE

theorem boxB_end {w : World} {B : Nat} {pos : Int} {op : ByteArray} {x y : EX} {g : Nat} {W : World} (hX : Blk W B 41 #[.int .i64 9, .int .i64 pos, .int .i64 0, .string op, .int .i64 0, .int .i64 0, .int .i64 0, .string ⟨#[]⟩, .string ⟨#[]⟩, .slice none 0 0, .slice (some ⟨g, 0, none⟩) 2 2])
    (hA : IsEPs (fun n => w.heap.size + 1 ≤ n ∧ n ≠ B) W (some ⟨g, 0, none⟩) 0 [x, y]) (e : Int) : BoxE (fun n => w.heap.size + 1 ≤ n ∧ n ≠ B) (W.setCell ⟨B, 2, none⟩ (.int .i64 e)) B (mkBin pos e op x y) := by
  have h := hX.set_ 2 (.int .i64 e)
  simp only [List.setIfInBounds_toArray, List.set_cons_zero, List.set_cons_succ] at h
  refine ⟨_, h, ?_⟩
  unfold mkBin IsEP
  exact ⟨0, 0, ⟨#[]⟩, ⟨#[]⟩, none, 0, _, _, rfl, rfl, hA.set_ (p := ⟨B, 2, none⟩) (fun h => h.2 rfl) _⟩

theorem midB_end {d : Nat} {w : World} {B : Nat} {pos : Int} {op : ByteArray} {x y : EX} {q : Int} {W : World} {e0 e1 e2 e3 e4 e5 e6 e7 e8 e9 e10 x0 x1 x2 x3 x4 x5 x6 x7 x8 x9 x10 y0 y1 y2 y3 y4 y5 y6 y7 y8 y9 y10 : Value}
    (hX : Blk W B 41 #[e0, e1, e2, e3, e4, e5, e6, e7, e8, e9, e10]) (hx : IsEP (fun n => w.heap.size + 1 ≤ n ∧ n ≠ B) W x (.agg #[x0, x1, x2, x3, x4, x5, x6, x7, x8, x9, x10])) (hy : IsEP (fun n => w.heap.size + 1 ≤ n ∧ n ≠ B) W y (.agg #[y0, y1, y2, y3, y4, y5, y6, y7, y8, y9, y10]))
    (hS : PS b o c m l q d W) (hK : Kp b w W) (hR : Blk W w.heap.size 41 zeroE) (hb : b < w.heap.size) (hB : w.heap.size < B) :
    MidB b o c m l d w B pos op x y q ((set11 W B (.int .i64 9) (.int .i64 pos) (.int .i64 0) (.string op) (.int .i64 0) (.int .i64 0) (.int .i64 0) (.string ⟨#[]⟩) (.string ⟨#[]⟩) (.slice none 0 0) (.slice (some ⟨W.heap.size, 0, none⟩) 2 2)).alloc (.cells #[x0, x1, x2, x3, x4, x5, x6, x7, x8, x9, x10, y0, y1, y2, y3, y4, y5, y6, y7, y8, y9, y10] 41)) := by
  have hlt := hX.lt
  refine ⟨W.heap.size, ?_, ?_, ?_, ?_, ?_⟩
  · refine Blk.alloc ?_ _
    exact blk_set11 hX _ _ _ _ _ _ _ _ _ _ _
  · exact two_args (hx.set11 (fun h => h.2 rfl) _ _ _ _ _ _ _ _ _ _ _) (hy.set11 (fun h => h.2 rfl) _ _ _ _ _ _ _ _ _ _ _) (by rw [set11_size]) ⟨by have := hK.size; omega, by omega⟩
  · exact (hS.set11 (by omega) _ _ _ _ _ _ _ _ _ _ _).alloc _
  · exact (set11_kp hK (.inl (by omega)) _ _ _ _ _ _ _ _ _ _ _).alloc _
  · refine Blk.alloc ?_ _
    exact blk_far11 hR (by omega) _ _ _ _ _ _ _ _ _ _ _

set_option maxRecDepth 20000 in
set_option maxHeartbeats 4000000 in
theorem level_any {f : Nat} (hn : l.length ≤ 1073741824) (hf : Fits l) (IH : ∀ g, g ≤ f → LevC b o c m l g) (k : Nat) (d : Nat) (i : Int) (w : World) (h1 : 1 ≤ k) (h4 : k ≤ 4) (hd : d ≤ 30) (S : PS b o c m l i d w) (hr : ex l (f + 1) k d i ≠ .out) :
    Calls Try.prog 64 #[.pointer (some ⟨b, 0, none⟩), .int .i64 (k : Nat)] w (Tel b o c m l d w (ex l (f + 1) k d i)) := by
  have HP := Lib.hid (peek_any (S.alloc (.cells zeroE 41)) (by omega))
  have H := Lib.hid S
  have hbl := S.lt
  have hfield := run_field1
  have e5 : (((k : Nat) : Int) == 5) = false := by simp; omega
  have hk1 : (1 : Int) ≤ (k : Nat) := by omega
  have hk4 : ((k : Nat) : Int) ≤ 4 := by omega
  rw [ex, if_neg (by omega)] at hr ⊢
  have HIH := Lib.hid IH
  have HD := Lib.hid hd
  have HK := Lib.hid (⟨h1, h4⟩ : 1 ≤ k ∧ k ≤ 4)
  have HN := Lib.hid hn
  have HF := Lib.hid hf
  have HW : Hid (IntKind.i64.wrap ((k : Nat) + 1) = ((k + 1 : Nat) : Int)) := by
    show IntKind.i64.wrap ((k : Nat) + 1) = ((k + 1 : Nat) : Int)
    rw [IntKind.wrap_i64]; omega
  clear S IH hd h1 h4 hn hf
  cases hq : ex l f (k + 1) d i with
  | out => rw [hq] at hr; exact (hr rfl).elim
  | err p q =>
    have HC := Lib.hid (fun (W : World) (h : PS b o c m l i d W) => HIH.out f (Nat.le_refl _) (k + 1) ((k : Nat) + 1) d i W (by simp) (by omega) (by have := HK.out; omega) HD.out h (by rw [hq]; simp))
    rw [hq] at HC
    clear hq hr
    go_enter Try.func64, Try.ntmps64
    go_wp2_with fail
    refine HP.out.mono ?_
    rintro e w1 ⟨rfl, hB⟩
    have S1 := Lib.hid ((H.out.alloc _).step hB)
    have K1 := Lib.hid (((Kp.refl b w).alloc _).then_below hB)
    clear hB
    go_wp2_with fail
    refine (HC.out _ S1.out).mono ?_
    rintro e w2 ⟨rfl, hK⟩
    have K2 := Lib.hid (K1.out.trans hK)
    clear hK
    go_wp2
    exact ⟨rfl, rfl, K2.out⟩
  | ok x j =>
    have HC := Lib.hid (fun (W : World) (h : PS b o c m l i d W) => HIH.out f (Nat.le_refl _) (k + 1) ((k : Nat) + 1) d i W (by simp) (by omega) (by have := HK.out; omega) HD.out h (by rw [hq]; simp))
    rw [hq] at HC hr
    obtain ⟨R, hR⟩ : ∃ R, binT l f k d i x j = R := ⟨_, rfl⟩
    have hr2 : R ≠ .out := by rw [← hR]; exact hr
    have HRO := Lib.hid hr2
    show Calls _ _ _ _ (Tel b o c m l d w (binT l f k d i x j))
    rw [hR]
    have HR := Lib.hid hR
    clear hq hr hR hr2
    go_enter Try.func64, Try.ntmps64
    go_wp2_with fail
    refine HP.out.mono ?_
    rintro e w1 ⟨rfl, hB⟩
    have S1 := Lib.hid ((H.out.alloc _).step hB)
    have K1 := Lib.hid (((Kp.refl b w).alloc _).then_below hB)
    have R1 := Lib.hid (blk_mid3 hB)
    have hz1 := mid_size hB
    clear hB
    go_wp2_with fail
    refine (HC.out _ S1.out).mono ?_
    rintro e w2 ⟨v, rfl, hx, hS, hK⟩
    obtain ⟨n, nm, tk, tp, tg, tn, tz, ta, o', c', rfl, _⟩ := hx.parts
    have hz2 : w.heap.size < w2.heap.size := Nat.lt_of_lt_of_le hz1 hK.size
    have R2 := Lib.hid ((R1.out.kp hK (by omega)).alloc (.cells #[.int .i64 x.kind, .int .i64 x.pos, .int .i64 x.stop, .string nm, .int .i64 n, .int .i64 tk, .int .i64 tp, .string tg, .string tn, .slice tz ta ta, .slice o' x.args.length c'] 41))
    have X2 : Hid (BoxE (fun n => w.heap.size + 1 ≤ n ∧ n ≠ w2.heap.size) (w2.alloc (.cells #[.int .i64 x.kind, .int .i64 x.pos, .int .i64 x.stop, .string nm, .int .i64 n, .int .i64 tk, .int .i64 tp, .string tg, .string tn, .slice tz ta ta, .slice o' x.args.length c'] 41)) w2.heap.size x) :=
      ⟨_, Blk.new _ _ _, (IsEP.mono (fun q hq hp => ⟨by have : w1.heap.size ≤ q := hp; omega, by omega⟩) hx).alloc _⟩
    have S2 := Lib.hid (hS.alloc (.cells #[.int .i64 x.kind, .int .i64 x.pos, .int .i64 x.stop, .string nm, .int .i64 n, .int .i64 tk, .int .i64 tp, .string tg, .string tn, .slice tz ta ta, .slice o' x.args.length c'] 41))
    have K2 := Lib.hid ((K1.out.trans hK).alloc (.cells #[.int .i64 x.kind, .int .i64 x.pos, .int .i64 x.stop, .string nm, .int .i64 n, .int .i64 tk, .int .i64 tp, .string tg, .string tn, .slice tz ta ta, .slice o' x.args.length c'] 41))
    clear hx hS hK R1 S1 K1 HC HP
    go_wp2_with fail
    generalize w2.heap.size = B at X2 hz2 ⊢
    go_loopg [7] f (fun g _ wr => ∃ (x : EX) (j : Int), Hid (binT l g k d i x j = R) ∧ Hid (BoxE (fun n => w.heap.size + 1 ≤ n ∧ n ≠ B) wr B x) ∧ Hid (PS b o c m l j d wr) ∧ Hid (Kp b w wr) ∧ Hid (Blk wr w.heap.size 41 zeroE) ∧ g ≤ f)
    case atStart => exact ⟨x, j, HR, X2, S2, K2, R2, Nat.le_refl _⟩
    case round =>
      clear X2 S2 K2 R2 HR
      obtain ⟨x, j, HR, HX, HS, HK3, HRV, hgf⟩ := hrel
      obtain ⟨gg, rfl⟩ : ∃ gg, gk = gg + 1 := by
        cases gk with
        | zero => exact (HRO.out (by rw [← HR.out, binT])).elim
        | succ q => exact ⟨q, rfl⟩
      have hb := HR.out
      rw [binT] at hb
      have HO := Lib.hid (operator_any HS.out (by have := HN.out; omega) HF.out)
      have hbB : b ≠ B := by omega
      have hBW : B < wr.heap.size := by obtain ⟨cs, h1, _⟩ := HX.out; exact h1.lt
      have hwB : w.heap.size < B := by omega
      by_cases hl : lvlOf (tkAt l j) = k
      · rw [if_pos hl] at hb
        have hreal := tkAt_real (l := l) (i := j) (by rw [lvl_kind (by rw [hl]; have := HK.out; omega)]; decide)
        have hj0 : 0 ≤ j := hreal.1
        have hj1 : j < (l.length : Nat) := hreal.2
        have HT := Lib.hid (fun (W : World) (h : PS b o c m l j d W) => take_any h (by have := HN.out; omega) hreal)
        have HCl := Lib.hid (fun W : World => clone_any (tkAt l j).text W (HF.out.tkAt j))
        have el : (((lvlOf (tkAt l j) : Nat) : Int) == ((k : Nat) : Int)) = true := by rw [beq_iff_eq]; omega
        have hfield3 := run_field3
        have HB := Lib.hid hb
        clear hb hl hreal
        go_wp2_with fail
        refine HO.out.mono ?_
        rintro e w3 ⟨rfl, hB⟩
        have S3 := Lib.hid (HS.out.step hB)
        have K3 := Lib.hid (HK3.out.then_below hB)
        have R3 := Lib.hid (HRV.out.below hB)
        have X3 := Lib.hid (HX.out.below hB)
        clear hB
        go_wp2_with fail
        refine (HT.out _ S3.out).mono ?_
        rintro e w4 ⟨rfl, hS, hK⟩
        have S4 := Lib.hid hS
        have K4 := Lib.hid (K3.out.trans hK)
        have R4 := Lib.hid (R3.out.kp hK (by omega))
        have X4 := Lib.hid (X3.out.kp hK (by omega) (by omega))
        clear hS hK S3 K3 R3 X3
        go_wp2_with fail
        refine (HCl.out _).mono ?_
        rintro e w5 ⟨rfl, hB⟩
        have S5 := Lib.hid (S4.out.step hB)
        have K5 := Lib.hid (K4.out.then_below hB)
        have R5 := Lib.hid (R4.out.below hB)
        have X5 := Lib.hid (X4.out.below hB)
        clear hB S4 K4 R4 X4 HO HT HCl el
        cases hq2 : ex l gg (k + 1) d (j + 1) with
        | out =>
          rw [hq2] at HB
          exact (HRO.out HB.out.symm).elim
        | err p q =>
          have HC := Lib.hid (fun (kk : Int) (hkk : kk = ((k + 1 : Nat) : Int)) (W : World) (h : PS b o c m l (j + 1) d W) => HIH.out gg (by omega) (k + 1) kk d (j + 1) W hkk (by omega) (by have := HK.out; omega) HD.out h (by rw [hq2]; simp))
          rw [hq2] at HC HB
          clear hq2
          obtain ⟨cs, hX, hx⟩ := X5.out
          obtain ⟨n', nm', tk', tp', tg', tn', tz', ta', o'', c'', e, _⟩ := hx.parts
          injection e with e
          subst e
          have c5 := hX.cell
          clear hX hx
          go_wp2_with fail
          go_region_dies
          all_goals
            refine (HC.out _ HW.out _ S5.out.drew).mono ?_
            rintro e w6 ⟨rfl, hK⟩
            have K6 := Lib.hid (K5.out.trans hK.undrew)
            clear hK
            go_wp2
            refine ⟨rfl, ?_⟩
            rw [← HB.out]
            exact ⟨rfl, K6.out⟩
        | ok y q =>
          have HC := Lib.hid (fun (kk : Int) (hkk : kk = ((k + 1 : Nat) : Int)) (W : World) (h : PS b o c m l (j + 1) d W) => HIH.out gg (by omega) (k + 1) kk d (j + 1) W hkk (by omega) (by have := HK.out; omega) HD.out h (by rw [hq2]; simp))
          rw [hq2] at HC HB
          have hrng := (read_rng (l := l) gg).1 _ _ _ _ _ (by omega) hq2
          have hq0 : 1 ≤ q ∧ q ≤ (l.length : Nat) := by omega
          clear hq2 hrng
          obtain ⟨cs, hX, hx⟩ := X5.out
          obtain ⟨n', nm', tk', tp', tg', tn', tz', ta', o'', c'', e, _⟩ := hx.parts
          injection e with e
          subst e
          have c5 := hX.cell
          have HX5 := Lib.hid hX
          have HE5 := Lib.hid hx
          have hB5 := hX.lt
          clear hX hx X5
          go_wp2_with fail
          go_cut [7] (fun _ wx => Hid (MidB b o c m l d w B (tkAt l i).pos (tkAt l j).text x y q wx))
          case first =>
            go_region_with (go_at_call 64; refine (HC.out _ HW.out _ S5.out.drew).mono ?_; rintro e w6 ⟨v, rfl, hy, hS, hK⟩; obtain ⟨n6, nm6, tk6, tp6, tg6, tn6, tz6, ta6, o6, c6', rfl, _⟩ := hy.parts; have hX6 := HX5.out.kp hK.undrew (by omega); have c6 := hX6.cell; have f6 := hX6.frozen; have hz6 := hX6.lt; have HX6 := Lib.hid hX6; have HY6 := Lib.hid hy; have S6 := Lib.hid hS; have KK := Lib.hid hK.undrew; clear hX6 hy hS hK)
            all_goals go_wp2_with fail
            all_goals go_meet
            all_goals exact midB_end HX6.out (HE5.out.kp KK.out (fun h => by have := h.1; omega)) (IsEP.mono (fun t _ (ht : w5.heap.size ≤ t) => ⟨by omega, by omega⟩) HY6.out) S6.out (K5.out.trans KK.out) (R5.out.kp KK.out (by omega)) hbl hwB
          case rest =>
            obtain ⟨ga, hX, hA, hS, hK, hR⟩ := hcut.out
            have HE := Lib.hid (end_any hS (by have := HN.out; omega) hq0)
            have S7 := Lib.hid hS
            have K7 := Lib.hid hK
            have R7 := Lib.hid hR
            have X7 := Lib.hid hX
            have A7 := Lib.hid hA
            clear hcut hX hA hS hK hR c5
            go_wp2_with fail
            refine HE.out.mono ?_
            rintro e w8 ⟨rfl, hB⟩
            have hX8 := X7.out.below hB
            have c8 := hX8.cell
            have f8 := hX8.frozen
            have X8 := Lib.hid hX8
            have A8 := Lib.hid (A7.out.below hB)
            have S8 := Lib.hid (S7.out.step hB)
            have K8 := Lib.hid (K7.out.then_below hB)
            have R8 := Lib.hid (R7.out.below hB)
            clear hX8 hB
            go_wp2
            go_roundg gg
            case measure => omega
            case rel =>
              exact ⟨_, q, HB, boxB_end X8.out A8.out _, S8.out.set_ (p := ⟨B, 2, none⟩) (by simp only; omega) _, K8.out.setCell (.inl (by simp only; omega)) _, R8.out.far (p := ⟨B, 2, none⟩) (by simp only; omega) _, by omega⟩
      · rw [if_neg hl] at hb
        have HB := Lib.hid hb
        have el : (((lvlOf (tkAt l j) : Nat) : Int) == ((k : Nat) : Int)) = false := by rw [beq_eq_false_iff_ne]; omega
        clear hb hl
        go_wp2_with fail
        refine HO.out.mono ?_
        rintro e w3 ⟨rfl, hB⟩
        have S3 := Lib.hid (HS.out.step hB)
        have K3 := Lib.hid (HK3.out.then_below hB)
        have R3 := HRV.out.below hB
        obtain ⟨cs, hX, hx⟩ := HX.out.below hB
        obtain ⟨n, nm, tk, tp, tg, tn, tz, ta, o', c', e, _⟩ := hx.parts
        injection e with e
        subst e
        have c3 := hX.cell
        have r3 := R3.cell
        have f3 := R3.frozen
        simp only [zeroE] at r3
        have HX3 := Lib.hid hx
        have hzb : b < w3.heap.size := S3.out.lt
        have hzw : w.heap.size < w3.heap.size := R3.lt
        have hzB : B < w3.heap.size := hX.lt
        clear hX hx R3 hB
        go_wp2
        refine bodyPost_ret (v := .agg #[.int .i64 x.kind, .int .i64 x.pos, .int .i64 x.stop, .string nm, .int .i64 n, .int .i64 tk, .int .i64 tp, .string tg, .string tn, .slice tz ta ta, .slice o' x.args.length c']) (by simp [results, Try.results64, go_sem, r3]) rfl ?_
        rw [← HB.out]
        refine ⟨_, rfl, ?_, ?_, ?_⟩
        · exact IsEP.mono (fun q _ hp => by have := hp.1; omega) (HX3.out.set11 (fun h => by have := h.1; omega) _ _ _ _ _ _ _ _ _ _ _)
        · exact S3.out.set11 hbl _ _ _ _ _ _ _ _ _ _ _
        · exact set11_kp K3.out (.inl (Nat.le_refl _)) _ _ _ _ _ _ _ _ _ _ _

end

end Go.Proofs.Ytoppknnjnfgbiaa
