/-
  The walk of 'negated', out of what it calls. Condition: the parser lies in memory as said.
-/
import Derived.Test.YtoppknnjnfgbiaaPsl
namespace Go.Proofs.Ytoppknnjnfgbiaa
open Go.RowKit
open Go.Lib hiding intOf

theorem beq_bytes (a b : List UInt8) : (a == b) = decide (a = b) := by
  by_cases h : a = b
  · subst h; simp
  · simp [h]
theorem isKT_eq (t : TZ) (k : Int) (s : ByteArray) : isKT t k s = (decide (t.kind = k) && decide (t.text.data.toList = s.data.toList)) := by
  unfold isKT; rw [ByteArray.toList_eq, ByteArray.toList_eq, beq_bytes]
theorem isKT_S (t : TZ) (c : UInt8) : isKT t 4 ⟨#[c]⟩ = isS t c := isKT_eq t 4 ⟨#[c]⟩
theorem isKT_W (t : TZ) (s : List UInt8) : isKT t 5 ⟨s.toArray⟩ = isW t s := isKT_eq t 5 ⟨s.toArray⟩

/-- What begins here, with all that follows. -/
def foll (l : List TZ) (f d : Nat) (i : Int) : EO EX :=
  match prim l f d i with
  | .ok x j => post l f d i x j
  | .err p c => .err p c
  | .out => .out

def FolC (b : Nat) (o : Option Addr) (c m : Nat) (l : List TZ) (f : Nat) : Prop :=
  ∀ (d : Nat) (i : Int) (w : World), d ≤ 30 → PS b o c m l i d w → foll l f d i ≠ .out →
    Calls Try.prog 71 #[.pointer (some ⟨b, 0, none⟩)] w (Tel b o c m l d w (foll l f d i))

theorem una_no {l : List TZ} {f d : Nat} {i : Int} (h : isS (tkAt l i) 33 = false) : una l (f + 1) d i = foll l f d i := by
  rw [una, if_neg (by rw [h]; decide)]; rfl
theorem una_yes {l : List TZ} {f d : Nat} {i : Int} (h : isS (tkAt l i) 33 = true) (hd : ¬ 30 ≤ d) : una l (f + 1) d i = (match una l f (d + 1) (i + 1) with
      | .ok x j => .ok (mkNot (tkAt l i).pos (tkAt l (j - 1)).stop x) j
      | .err p c => .err p c
      | .out => .out) := by
  rw [una, if_pos h, if_neg hd]
  rfl
theorem una_deep {l : List TZ} {f d : Nat} {i : Int} (h : isS (tkAt l i) 33 = true) (hd : 30 ≤ d) : una l (f + 1) d i = .err (tkAt l i).pos 6 := by
  rw [una, if_pos h, if_pos hd]

section
variable {b c m : Nat} {o : Option Addr} {l : List TZ}

/-- One operand in a row of its own, in the result's block. -/
theorem notEnd {d : Nat} {w W : World} {p e : Int} {x : EX} {q : Int} {x0 x1 x2 x3 x4 x5 x6 x7 x8 x9 x10 : Value} (hx : IsEP (fun n => w.heap.size + 1 ≤ n) W x (.agg #[x0, x1, x2, x3, x4, x5, x6, x7, x8, x9, x10])) (hS : PS b o c m l q d W) (hK : Kp b w W) (hb : b < w.heap.size) (hz : w.heap.size < W.heap.size) :
    IsEX w.heap.size ((set11 W w.heap.size (.int .i64 10) (.int .i64 p) (.int .i64 e) (.string ⟨#[]⟩) (.int .i64 0) (.int .i64 0) (.int .i64 0) (.string ⟨#[]⟩) (.string ⟨#[]⟩) (.slice none 0 0) (.slice (some ⟨W.heap.size, 0, none⟩) 1 1)).alloc (.cells #[x0, x1, x2, x3, x4, x5, x6, x7, x8, x9, x10] 41)) (mkNot p e x)
      (.agg #[.int .i64 10, .int .i64 p, .int .i64 e, .string ⟨#[]⟩, .int .i64 0, .int .i64 0, .int .i64 0, .string ⟨#[]⟩, .string ⟨#[]⟩, .slice none 0 0, .slice (some ⟨W.heap.size, 0, none⟩) 1 1]) ∧
    PS b o c m l q d ((set11 W w.heap.size (.int .i64 10) (.int .i64 p) (.int .i64 e) (.string ⟨#[]⟩) (.int .i64 0) (.int .i64 0) (.int .i64 0) (.string ⟨#[]⟩) (.string ⟨#[]⟩) (.slice none 0 0) (.slice (some ⟨W.heap.size, 0, none⟩) 1 1)).alloc (.cells #[x0, x1, x2, x3, x4, x5, x6, x7, x8, x9, x10] 41)) ∧
    Kp b w ((set11 W w.heap.size (.int .i64 10) (.int .i64 p) (.int .i64 e) (.string ⟨#[]⟩) (.int .i64 0) (.int .i64 0) (.int .i64 0) (.string ⟨#[]⟩) (.string ⟨#[]⟩) (.slice none 0 0) (.slice (some ⟨W.heap.size, 0, none⟩) 1 1)).alloc (.cells #[x0, x1, x2, x3, x4, x5, x6, x7, x8, x9, x10] 41)) := by
  refine ⟨?_, (hS.set11 hb _ _ _ _ _ _ _ _ _ _ _).alloc _, (set11_kp hK (.inl (Nat.le_refl _)) _ _ _ _ _ _ _ _ _ _ _).alloc _⟩
  have h1 := one_arg (P := fun n => w.heap.size + 1 ≤ n) (g := W.heap.size) (hx.set11 (r := w.heap.size) (fun h => by omega) (.int .i64 10) (.int .i64 p) (.int .i64 e) (.string ⟨#[]⟩) (.int .i64 0) (.int .i64 0) (.int .i64 0) (.string ⟨#[]⟩) (.string ⟨#[]⟩) (.slice none 0 0) (.slice (some ⟨W.heap.size, 0, none⟩) 1 1)) (by rw [set11_size]) (by omega)
  unfold mkNot IsEX IsEP
  exact ⟨0, 0, ⟨#[]⟩, ⟨#[]⟩, none, 0, _, _, rfl, rfl, h1.keep (fun _ _ _ h _ => by omega) fun _ _ _ _ h => h⟩

/-- The operand's row was made ahead of the call. -/
theorem notEnd2 {d : Nat} {w W : World} {p e : Int} {x : EX} {q : Int} {g : Nat} (hA : IsEPs (fun n => w.heap.size + 1 ≤ n) W (some ⟨g, 0, none⟩) 0 [x]) (hS : PS b o c m l q d W) (hK : Kp b w W) (hb : b < w.heap.size) :
    IsEX w.heap.size (set11 W w.heap.size (.int .i64 10) (.int .i64 p) (.int .i64 e) (.string ⟨#[]⟩) (.int .i64 0) (.int .i64 0) (.int .i64 0) (.string ⟨#[]⟩) (.string ⟨#[]⟩) (.slice none 0 0) (.slice (some ⟨g, 0, none⟩) 1 1)) (mkNot p e x)
      (.agg #[.int .i64 10, .int .i64 p, .int .i64 e, .string ⟨#[]⟩, .int .i64 0, .int .i64 0, .int .i64 0, .string ⟨#[]⟩, .string ⟨#[]⟩, .slice none 0 0, .slice (some ⟨g, 0, none⟩) 1 1]) ∧
    PS b o c m l q d (set11 W w.heap.size (.int .i64 10) (.int .i64 p) (.int .i64 e) (.string ⟨#[]⟩) (.int .i64 0) (.int .i64 0) (.int .i64 0) (.string ⟨#[]⟩) (.string ⟨#[]⟩) (.slice none 0 0) (.slice (some ⟨g, 0, none⟩) 1 1)) ∧
    Kp b w (set11 W w.heap.size (.int .i64 10) (.int .i64 p) (.int .i64 e) (.string ⟨#[]⟩) (.int .i64 0) (.int .i64 0) (.int .i64 0) (.string ⟨#[]⟩) (.string ⟨#[]⟩) (.slice none 0 0) (.slice (some ⟨g, 0, none⟩) 1 1)) := by
  refine ⟨?_, hS.set11 hb _ _ _ _ _ _ _ _ _ _ _, set11_kp hK (.inl (Nat.le_refl _)) _ _ _ _ _ _ _ _ _ _ _⟩
  have h1 := epsSet11 hA (r := w.heap.size) (by omega) (.int .i64 10) (.int .i64 p) (.int .i64 e) (.string ⟨#[]⟩) (.int .i64 0) (.int .i64 0) (.int .i64 0) (.string ⟨#[]⟩) (.string ⟨#[]⟩) (.slice none 0 0) (.slice (some ⟨g, 0, none⟩) 1 1)
  unfold mkNot IsEX IsEP
  exact ⟨0, 0, ⟨#[]⟩, ⟨#[]⟩, none, 0, _, _, rfl, rfl, h1.keep (fun _ _ _ h _ => by omega) fun _ _ _ _ h => h⟩

set_option maxRecDepth 20000 in
set_option maxHeartbeats 4000000 in
theorem negated_any {f : Nat} (hn : l.length ≤ 1073741824) (HF : FolC b o c m l f) (HG : NegC b o c m l f) (d : Nat) (i : Int) (w : World) (hd : d ≤ 30) (S : PS b o c m l i d w) (hr : una l (f + 1) d i ≠ .out) :
    Calls Try.prog 65 #[.pointer (some ⟨b, 0, none⟩)] w (Tel b o c m l d w (una l (f + 1) d i)) := by
  have HS := Lib.hid (sees_any (S.alloc (.cells zeroE 41)) (by omega) ⟨#[33]⟩)
  rw [isKT_S] at HS
  have H := Lib.hid S
  have hbl := S.lt
  have HN := Lib.hid hn
  have HD := Lib.hid hd
  have hfield := run_field1
  clear S hn hd
  cases he : isS (tkAt l i) 33
  · rw [una_no he] at hr ⊢
    rw [he] at HS
    clear he
    cases hq : foll l f d i with
    | out => exact (hr hq).elim
    | err p q =>
      have HC := Lib.hid (fun (W : World) (h : PS b o c m l i d W) => HF d i W HD.out h (by rw [hq]; simp))
      rw [hq] at HC
      clear hq hr HF HG
      go_enter Try.func65, Try.ntmps65
      go_wp2_with fail
      refine HS.out.mono ?_
      rintro e w1 ⟨rfl, hB⟩
      have S1 := Lib.hid ((H.out.alloc _).step hB)
      have K1 := Lib.hid (((Kp.refl b w).alloc _).then_below hB)
      clear hB
      go_wp2_with fail
      refine (HC.out _ S1.out).mono ?_
      rintro e w2 ⟨rfl, hK⟩
      have K2 := Lib.hid (K1.out.trans hK)
      clear hK
      go_wp2
      exact ⟨rfl, rfl, K2.out⟩
    | ok x j =>
      have HC := Lib.hid (fun (W : World) (h : PS b o c m l i d W) => HF d i W HD.out h (by rw [hq]; simp))
      rw [hq] at HC
      clear hq hr HF HG
      go_enter Try.func65, Try.ntmps65
      go_wp2_with fail
      refine HS.out.mono ?_
      rintro e w1 ⟨rfl, hB⟩
      have S1 := Lib.hid ((H.out.alloc _).step hB)
      have K1 := Lib.hid (((Kp.refl b w).alloc _).then_below hB)
      have R1 := Lib.hid (blk_mid3 hB)
      have hz1 := mid_size hB
      clear hB
      go_wp2_with fail
      refine (HC.out _ S1.out).mono ?_
      rintro e w2 ⟨v, rfl, hx, hS, hK⟩
      obtain ⟨n, nm, tk, tp, tg, tn, tz, ta, o', c', rfl, _⟩ := hx.parts
      have HX := Lib.hid hx
      have S2 := Lib.hid hS
      have K2 := Lib.hid (K1.out.trans hK)
      have hB2 := R1.out.kp hK (by omega)
      have c1 := hB2.cell
      have f1 := hB2.frozen
      simp only [zeroE] at c1
      clear hx hS hK hB2
      go_wp2
      refine bodyPost_ret (v := .agg #[.int .i64 x.kind, .int .i64 x.pos, .int .i64 x.stop, .string nm, .int .i64 n, .int .i64 tk, .int .i64 tp, .string tg, .string tn, .slice tz ta ta, .slice o' x.args.length c']) (by simp [results, Try.results65, go_sem, c1]) rfl ?_
      refine ⟨_, rfl, ?_, ?_, ?_⟩
      · exact (HX.out.set11 (by omega) _ _ _ _ _ _ _ _ _ _ _).mono (by omega)
      · exact S2.out.set11 hbl _ _ _ _ _ _ _ _ _ _ _
      · exact set11_kp K2.out (.inl (Nat.le_refl _)) _ _ _ _ _ _ _ _ _ _ _
  · have HE := Lib.hid he
    rw [he] at HS
    have hkt : isKT (tkAt l i) 4 ⟨#[33]⟩ = true := by rw [isKT_S]; exact he
    have HKT := Lib.hid hkt
    have HP := Lib.hid (fun (W : World) (h : PS b o c m l i d W) => peek_any h (by have := HN.out; omega))
    clear he hkt
    by_cases h30 : 30 ≤ d
    · have hd30 : d = 30 := by have := HD.out; omega
      rw [una_deep HE.out h30]
      have HX := Lib.hid (fun (W : World) (h : PS b o c m l i d W) => enter_deep (y := ⟨#[33]⟩) (by rw [hd30] at h; exact h) HN.out HKT.out)
      clear hr HF HG h30 hd30
      go_enter Try.func65, Try.ntmps65
      go_wp2_with fail
      refine HS.out.mono ?_
      rintro e w1 ⟨rfl, hB⟩
      have S1 := Lib.hid ((H.out.alloc _).step hB)
      have K1 := Lib.hid (((Kp.refl b w).alloc _).then_below hB)
      clear hB
      go_wp2_with fail
      refine (HP.out _ S1.out).mono ?_
      rintro e w2 ⟨rfl, hB⟩
      have S2 := Lib.hid (S1.out.step hB)
      have K2 := Lib.hid (K1.out.then_below hB)
      clear hB
      go_wp2_with fail
      refine (HX.out _ S2.out).mono ?_
      rintro e w3 ⟨rfl, hK⟩
      have K3 := Lib.hid (K2.out.trans hK)
      clear hK
      go_wp2
      exact ⟨rfl, rfl, K3.out⟩
    · rw [una_yes HE.out h30] at hr ⊢
      have HX := Lib.hid (fun (W : World) (h : PS b o c m l i d W) => enter_ok (y := ⟨#[33]⟩) h HN.out HKT.out (by omega))
      have hd1 : ((d : Nat) : Int) < 30 := by omega
      have hd0 : (0 : Int) ≤ (d : Nat) := by omega
      have HD1 : Hid (d + 1 ≤ 30) := by show d + 1 ≤ 30; omega
      clear h30
      cases hq : una l f (d + 1) (i + 1) with
      | out => rw [hq] at hr; exact (hr rfl).elim
      | err p q =>
        have HC := Lib.hid (fun (W : World) (h : PS b o c m l (i + 1) ((d + 1 : Nat) : Int) W) => HG (d + 1) (i + 1) W HD1.out h (by rw [hq]; simp))
        rw [hq] at HC
        clear hq hr HF HG
        go_enter Try.func65, Try.ntmps65
        go_wp2_with fail
        refine HS.out.mono ?_
        rintro e w1 ⟨rfl, hB⟩
        have S1 := Lib.hid ((H.out.alloc _).step hB)
        have K1 := Lib.hid (((Kp.refl b w).alloc _).then_below hB)
        clear hB
        go_wp2_with fail
        refine (HP.out _ S1.out).mono ?_
        rintro e w2 ⟨rfl, hB⟩
        have S2 := Lib.hid (S1.out.step hB)
        have K2 := Lib.hid (K1.out.then_below hB)
        clear hB
        go_wp2_with fail
        refine (HX.out _ S2.out).mono ?_
        rintro e w3 ⟨rfl, hS, hK⟩
        have S3 := Lib.hid hS
        have K3 := Lib.hid (K2.out.trans hK)
        clear hK hS
        go_wp2_with fail
        refine (HC.out _ (by rw [Int.natCast_add]; exact S3.out)).mono ?_
        rintro e w4 ⟨rfl, hK⟩
        have K4 := Lib.hid (K3.out.trans hK)
        clear hK
        go_wp2
        exact ⟨rfl, rfl, K4.out⟩
      | ok x j =>
        have HC := Lib.hid (fun (W : World) (h : PS b o c m l (i + 1) ((d + 1 : Nat) : Int) W) => HG (d + 1) (i + 1) W HD1.out h (by rw [hq]; simp))
        rw [hq] at HC
        have hrng := (read_rng (l := l) f).2.2.1 _ _ _ _ hq
        have hq0 : 1 ≤ j ∧ j ≤ (l.length : Nat) := by omega
        have HQ0 := Lib.hid hq0
        clear hq hr HF HG hq0 hrng
        go_enter Try.func65, Try.ntmps65
        go_wp2_with fail
        refine HS.out.mono ?_
        rintro e w1 ⟨rfl, hB⟩
        have S1 := Lib.hid ((H.out.alloc _).step hB)
        have K1 := Lib.hid (((Kp.refl b w).alloc _).then_below hB)
        have R1 := Lib.hid (blk_mid3 hB)
        clear hB
        go_wp2_with fail
        refine (HP.out _ S1.out).mono ?_
        rintro e w2 ⟨rfl, hB⟩
        have S2 := Lib.hid (S1.out.step hB)
        have K2 := Lib.hid (K1.out.then_below hB)
        have R2 := Lib.hid (R1.out.below hB)
        clear hB
        go_wp2_with fail
        refine (HX.out _ S2.out).mono ?_
        rintro e w3 ⟨rfl, hS, hK⟩
        have S3 := Lib.hid hS
        have K3 := Lib.hid (K2.out.trans hK)
        have R3 := Lib.hid (R2.out.kp hK (by omega))
        have hz3 := R3.out.lt
        clear hK hS
        go_wp2_with fail
        refine (HC.out _ (by rw [Int.natCast_add]; exact S3.out)).mono ?_
        rintro e w4 ⟨v, rfl, hx, hS, hK⟩
        obtain ⟨n, nm, tk, tp, tg, tn, tz, ta, o', c', rfl, _⟩ := hx.parts
        have HX4 := Lib.hid hx
        rw [Int.natCast_add] at hS
        have S5 := Lib.hid ((hS.deep ((d : Nat) : Int)).alloc (.cells #[.int .i64 x.kind, .int .i64 x.pos, .int .i64 x.stop, .string nm, .int .i64 n, .int .i64 tk, .int .i64 tp, .string tg, .string tn, .slice tz ta ta, .slice o' x.args.length c'] 41))
        have K5 := Lib.hid (((K3.out.trans hK).setCell (p := ⟨b, 2, none⟩) (.inr rfl) (.int .i64 ((d : Nat) : Int))).alloc (.cells #[.int .i64 x.kind, .int .i64 x.pos, .int .i64 x.stop, .string nm, .int .i64 n, .int .i64 tk, .int .i64 tp, .string tg, .string tn, .slice tz ta ta, .slice o' x.args.length c'] 41))
        have R5 := Lib.hid (((R3.out.kp hK (by omega)).far (p := ⟨b, 2, none⟩) (by simp only; omega) (.int .i64 ((d : Nat) : Int))).alloc (.cells #[.int .i64 x.kind, .int .i64 x.pos, .int .i64 x.stop, .string nm, .int .i64 n, .int .i64 tk, .int .i64 tp, .string tg, .string tn, .slice tz ta ta, .slice o' x.args.length c'] 41))
        have HX5 := Lib.hid (IsEP.alloc (IsEX.set_ HX4.out (p := ⟨b, 2, none⟩) (by simp only; omega) (.int .i64 ((d : Nat) : Int))) (.cells #[.int .i64 x.kind, .int .i64 x.pos, .int .i64 x.stop, .string nm, .int .i64 n, .int .i64 tk, .int .i64 tp, .string tg, .string tn, .slice tz ta ta, .slice o' x.args.length c'] 41))
        have hbx : Blk ((w4.setCell ⟨b, 2, none⟩ (.int .i64 ((d : Nat) : Int))).alloc (.cells #[.int .i64 x.kind, .int .i64 x.pos, .int .i64 x.stop, .string nm, .int .i64 n, .int .i64 tk, .int .i64 tp, .string tg, .string tn, .slice tz ta ta, .slice o' x.args.length c'] 41)) w4.heap.size 41 #[.int .i64 x.kind, .int .i64 x.pos, .int .i64 x.stop, .string nm, .int .i64 n, .int .i64 tk, .int .i64 tp, .string tg, .string tn, .slice tz ta ta, .slice o' x.args.length c'] := by
          have := Blk.new (w4.setCell ⟨b, 2, none⟩ (.int .i64 ((d : Nat) : Int))) 41 #[.int .i64 x.kind, .int .i64 x.pos, .int .i64 x.stop, .string nm, .int .i64 n, .int .i64 tk, .int .i64 tp, .string tg, .string tn, .slice tz ta ta, .slice o' x.args.length c']
          simpa [World.setCell] using this
        have hz34 : w3.heap.size ≤ w4.heap.size := hK.size
        obtain ⟨p0, p1, p2, p3, pf⟩ := hS.cells
        have hb4 : b < w4.heap.size := hS.lt
        have hbn : b ≠ w4.heap.size := by omega
        clear hK hS hx
        go_wp2_with fail
        generalize (w4.setCell ⟨b, 2, none⟩ (.int .i64 ((d : Nat) : Int))).alloc (.cells #[.int .i64 x.kind, .int .i64 x.pos, .int .i64 x.stop, .string nm, .int .i64 n, .int .i64 tk, .int .i64 tp, .string tg, .string tn, .slice tz ta ta, .slice o' x.args.length c'] 41) = w5 at *
        have HE := Lib.hid (fun (W : World) (h : PS b o c m l j d W) => end_any h (by have := HN.out; omega) HQ0.out)
        have c5 := hbx.cell
        have HBX := Lib.hid hbx
        have hz5 : w.heap.size < w5.heap.size := R5.out.lt
        generalize w4.heap.size = B at *
        clear hbx p0 p1 p2 p3 pf hb4 hbn
        go_region_with (go_at_call 69; refine (HE.out _ ?_).mono ?_; (first | exact S5.out.drew | exact (S5.out.alloc _).drew); rintro e w6 ⟨rfl, hB⟩; (first | (have HB6 : Hid (Below w5.heap.size w5 w6) := hB.undrew; clear hB) | (have HA6 := Lib.hid ((one_arg (P := fun n => w.heap.size + 1 ≤ n) (IsEP.mono (fun t _ (ht : w3.heap.size ≤ t) => by omega) HX5.out) rfl (by omega)).below hB.undrew); have HB6 := Lib.hid (((Below.refl _ _).alloc (Nat.le_refl _) _).trans (hB.undrew.mono (by simp))); clear hB)); have hbx := HBX.out.below HB6.out; have c6 := hbx.cell; have r6 := R5.out.below HB6.out; have c7 := r6.cell; have f7 := r6.frozen; simp only [zeroE] at c7; have hz6 := r6.lt; clear hbx r6)
        all_goals
          go_wp2
          first
          | have E := Lib.hid (notEnd2 (d := d) (w := w) (p := (tkAt l i).pos) (e := (tkAt l (j - 1)).stop) (q := j) HA6.out (S5.out.step HB6.out) (K5.out.then_below HB6.out) hbl)
            refine bodyPost_ret (v := .agg #[.int .i64 10, .int .i64 (tkAt l i).pos, .int .i64 (tkAt l (j - 1)).stop, .string ⟨#[]⟩, .int .i64 0, .int .i64 0, .int .i64 0, .string ⟨#[]⟩, .string ⟨#[]⟩, .slice none 0 0, .slice (some ⟨w5.heap.size, 0, none⟩) 1 1]) (by simp [results, Try.results65, go_sem, c7]) rfl ?_
            exact ⟨_, rfl, E.out.1, E.out.2.1, E.out.2.2⟩
          | have E := Lib.hid (notEnd (d := d) (w := w) (p := (tkAt l i).pos) (e := (tkAt l (j - 1)).stop) (q := j) (IsEP.mono (fun t _ (ht : w3.heap.size ≤ t) => by omega) (HX5.out.below HB6.out)) (S5.out.step HB6.out) (K5.out.then_below HB6.out) hbl hz6)
            refine bodyPost_ret (v := .agg #[.int .i64 10, .int .i64 (tkAt l i).pos, .int .i64 (tkAt l (j - 1)).stop, .string ⟨#[]⟩, .int .i64 0, .int .i64 0, .int .i64 0, .string ⟨#[]⟩, .string ⟨#[]⟩, .slice none 0 0, .slice (some ⟨w6.heap.size, 0, none⟩) 1 1]) (by simp [results, Try.results65, go_sem, c7, hz6]) rfl ?_
            exact ⟨_, rfl, E.out.1, E.out.2.1, E.out.2.2⟩

end

end Go.Proofs.Ytoppknnjnfgbiaa
