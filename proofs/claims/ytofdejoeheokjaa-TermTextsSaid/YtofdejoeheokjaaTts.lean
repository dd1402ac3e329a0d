/-
  The spelling of a type that is no list, into a Builder. Condition: the text is of at most 2^47 bytes.
-/
import Derived.Test.YtofdejoeheokjaaTtb
namespace Go.Proofs.Ytofdejoeheokjaa
open Go.RowKit
open Go.Lib hiding intOf

theorem TW.trans' {B b : Nat} {x y z : World} (h : TW B b x y) (k : TW B b y z) : TW B b x z :=
  ⟨k.os.trans h.os, k.tape.trans h.tape, k.output.trans h.output, Nat.le_trans h.size k.size, fun i hi hn => by
    have e := h.block i hi hn
    refine (k.block i (Nat.lt_of_lt_of_le hi h.size) fun hq => hn ?_).trans e
    rcases hq with hq | ⟨h1, cs, f, h2⟩
    · exact .inl hq
    · exact .inr ⟨h1, cs, f, e.symm.trans h2⟩⟩
theorem TW.alloc {B b : Nat} (w : World) (o : Obj) : TW B b w (w.alloc o) := (Turn.refl _ w).alloc o
theorem BW.alloc {B b : Nat} {l : List UInt8} {w : World} (h : BW B b l w) (o : Obj) : BW B b l (w.alloc o) := h.turn (S := fun _ => False) ((Turn.refl _ w).alloc o) (fun h => h) (fun _ _ h => h)
theorem Blk.tw {B b k : Nat} {t : TypeId} {cs : Array Value} {w w' : World} (h : Blk w k t cs) (hT : TW B b w w') (hk : k ≠ b) (ht : t ≠ 5) : Blk w' k t cs := h.turn hT fun hn => by
  rcases hn with hn | ⟨_, cs', f, e⟩
  · exact hk hn
  · unfold Blk at h
    rw [h] at e
    injection e with e
    injection e with _ e
    exact ht e

set_option maxRecDepth 100000 in
set_option maxHeartbeats 8000000 in
theorem spell_any (B b : Nat) (s : List UInt8) (k n : Int) (p m : ByteArray) (l : List GY) (o : Option Addr) (N c : Nat) (w : World) (hk5 : k ≠ 5) (h : BW B b s w) (hlen : s.length + (txtY (.mk k p m n l)).length ≤ 140737488355328) (hBw : B ≤ w.heap.size) :
    Calls Try.prog 34 #[.pointer (some ⟨b, 0, none⟩), .agg #[.int .i64 k, .string p, .string m, .int .i64 n, .slice o N c]] w fun e w' => e = .returned (.tuple #[]) ∧ BW B b (s ++ txtY (.mk k p m n l)) w' ∧ TW B b w w' := by
  have hbx : Blk (w.alloc (.cells #[.int .i64 k, .string p, .string m, .int .i64 n, .slice o N c] 25)) w.heap.size 25 #[.int .i64 k, .string p, .string m, .int .i64 n, .slice o N c] := Blk.new w _ _
  have hlb : b < w.heap.size := h.blk.2.lt
  obtain ⟨W1, hW1⟩ : ∃ W1, w.alloc (.cells #[.int .i64 k, .string p, .string m, .int .i64 n, .slice o N c] 25) = W1 := ⟨_, rfl⟩
  have hT1 : TW B b w W1 := by rw [← hW1]; exact TW.alloc w _
  have h1 : BW B b s W1 := by rw [← hW1]; exact h.alloc _
  have hs1 : B ≤ W1.heap.size := Nat.le_trans hBw hT1.size
  rw [hW1] at hbx
  have HW := Lib.hid (fun (x : ByteArray) (hx : s.length + x.size ≤ 140737488355328) => write_any B b s x W1 h1 hx hs1)
  have HT1 := Lib.hid hT1
  have HBX := Lib.hid hbx
  have HW1 := Lib.hid hW1
  have HB := Lib.hid hBw
  have HNE : Hid (w.heap.size ≠ b) := by show _ ≠ _; omega
  have esz : ∀ x : ByteArray, x.data.toList.length = x.size := fun x => by rw [Array.length_toList]; rfl
  have ESZ := Lib.hid esz
  have q0 := hbx.cell 0
  have q1 := hbx.cell 1
  have q2 := hbx.cell 2
  simp only [List.getElem?_toArray, List.getElem?_cons_succ, List.getElem?_cons_zero] at q0 q1 q2
  clear h h1 hT1 hbx hW1 hs1 hBw hlb esz
  by_cases h1 : k = 1
  · subst h1
    have et : txtY (.mk 1 p m n l) = [105, 110, 116] := by cases l <;> (rw [txtY]; rfl)
    have hx := HW.out ⟨#[105, 110, 116]⟩ (by have h := hlen; rw [et] at h; first | exact h | (rw [ESZ.out] at h; exact h))
    have HX := Lib.hid hx
    have ET := Lib.hid et
    clear hx et hlen
    go_enter Try.func34, Try.ntmps34
    go_wp2_with (first | (refine HX.out.mono ?_; rintro e w5 ⟨rfl, hb5, ht5⟩; have HB5 := Lib.hid hb5; have HT5 := Lib.hid ht5; clear hb5 ht5) | (change wpList _ _ _ _ _ (w.alloc (.cells #[_, _, _, _, _] 25)); rw [HW1.out]))
    go_end0
    exact ⟨rfl, by rw [ET.out]; exact HB5.out, TW.trans' HT1.out HT5.out⟩
  by_cases h2 : k = 2
  · subst h2
    have et : txtY (.mk 2 p m n l) = [98, 111, 111, 108] := by cases l <;> (rw [txtY]; rfl)
    have hx := HW.out ⟨#[98, 111, 111, 108]⟩ (by have h := hlen; rw [et] at h; first | exact h | (rw [ESZ.out] at h; exact h))
    have HX := Lib.hid hx
    have ET := Lib.hid et
    clear hx et hlen
    go_enter Try.func34, Try.ntmps34
    go_wp2_with (first | (refine HX.out.mono ?_; rintro e w5 ⟨rfl, hb5, ht5⟩; have HB5 := Lib.hid hb5; have HT5 := Lib.hid ht5; clear hb5 ht5) | (change wpList _ _ _ _ _ (w.alloc (.cells #[_, _, _, _, _] 25)); rw [HW1.out]))
    go_end0
    exact ⟨rfl, by rw [ET.out]; exact HB5.out, TW.trans' HT1.out HT5.out⟩
  by_cases h3 : k = 3
  · subst h3
    have et : txtY (.mk 3 p m n l) = [116, 101, 120, 116] := by cases l <;> (rw [txtY]; rfl)
    have hx := HW.out ⟨#[116, 101, 120, 116]⟩ (by have h := hlen; rw [et] at h; first | exact h | (rw [ESZ.out] at h; exact h))
    have HX := Lib.hid hx
    have ET := Lib.hid et
    clear hx et hlen
    go_enter Try.func34, Try.ntmps34
    go_wp2_with (first | (refine HX.out.mono ?_; rintro e w5 ⟨rfl, hb5, ht5⟩; have HB5 := Lib.hid hb5; have HT5 := Lib.hid ht5; clear hb5 ht5) | (change wpList _ _ _ _ _ (w.alloc (.cells #[_, _, _, _, _] 25)); rw [HW1.out]))
    go_end0
    exact ⟨rfl, by rw [ET.out]; exact HB5.out, TW.trans' HT1.out HT5.out⟩
  by_cases h7 : k = 7
  · subst h7
    have et : txtY (.mk 7 p m n l) = [110, 111, 110, 101] := by cases l <;> (rw [txtY]; rfl)
    have hx := HW.out ⟨#[110, 111, 110, 101]⟩ (by have h := hlen; rw [et] at h; first | exact h | (rw [ESZ.out] at h; exact h))
    have HX := Lib.hid hx
    have ET := Lib.hid et
    clear hx et hlen
    go_enter Try.func34, Try.ntmps34
    go_wp2_with (first | (refine HX.out.mono ?_; rintro e w5 ⟨rfl, hb5, ht5⟩; have HB5 := Lib.hid hb5; have HT5 := Lib.hid ht5; clear hb5 ht5) | (change wpList _ _ _ _ _ (w.alloc (.cells #[_, _, _, _, _] 25)); rw [HW1.out]))
    go_end0
    exact ⟨rfl, by rw [ET.out]; exact HB5.out, TW.trans' HT1.out HT5.out⟩
  by_cases h6 : k = 6
  · subst h6
    have et : txtY (.mk 6 p m n l) = m.data.toList := by cases l <;> (rw [txtY]; rfl)
    have hx := HW.out m (by have h := hlen; rw [et] at h; first | exact h | (rw [ESZ.out] at h; exact h))
    have HX := Lib.hid hx
    have ET := Lib.hid et
    clear hx et hlen
    go_enter Try.func34, Try.ntmps34
    go_wp2_with (first | (refine HX.out.mono ?_; rintro e w5 ⟨rfl, hb5, ht5⟩; have HB5 := Lib.hid hb5; have HT5 := Lib.hid ht5; clear hb5 ht5) | (change wpList _ _ _ _ _ (w.alloc (.cells #[_, _, _, _, _] 25)); rw [HW1.out]))
    go_end0
    exact ⟨rfl, by rw [ET.out]; exact HB5.out, TW.trans' HT1.out HT5.out⟩
  by_cases h4 : k = 4
  · subst h4
    by_cases hp : p = ⟨#[]⟩
    · subst hp
      have et : txtY (.mk 4 ⟨#[]⟩ m n l) = m.data.toList := by cases l <;> (rw [txtY]; rfl)
      have hx := HW.out m (by have h := hlen; rw [et] at h; first | exact h | (rw [ESZ.out] at h; exact h))
      have HX := Lib.hid hx
      have ET := Lib.hid et
      clear hx et hlen
      go_enter Try.func34, Try.ntmps34
      go_wp2_with (first | (refine HX.out.mono ?_; rintro e w5 ⟨rfl, hb5, ht5⟩; have HB5 := Lib.hid hb5; have HT5 := Lib.hid ht5; clear hb5 ht5) | (change wpList _ _ _ _ _ (w.alloc (.cells #[_, _, _, _, _] 25)); rw [HW1.out]))
      go_end0
      exact ⟨rfl, by rw [ET.out]; exact HB5.out, TW.trans' HT1.out HT5.out⟩
    · have fp := bytes_some hp
      have hpl : p.data.toList ≠ [] := fun e => hp (bytes_inj e)
      have et : txtY (.mk 4 p m n l) = p.data.toList ++ [46] ++ m.data.toList := by cases l <;> rw [txtY, if_neg (by decide), if_neg (by decide), if_neg (by decide), if_pos rfl, if_neg hpl]
      have hl := hlen
      rw [et, List.length_append, List.length_append, ESZ.out, ESZ.out, List.length_singleton] at hl
      have hx := HW.out p (by omega)
      have HX := Lib.hid hx
      have ET := Lib.hid et
      have HL := Lib.hid hl
      clear hx et hlen hl hpl hp
      go_enter Try.func34, Try.ntmps34
      go_wp2_with (first
        | (refine (write_any B b _ m w6 HB6.out (by rw [List.length_append, List.length_append, ESZ.out]; have := HL.out; simp only [List.length_singleton] at this ⊢; omega) HS6.out).mono ?_; rintro e w7 ⟨rfl, hb7, ht7⟩; have HB7 := Lib.hid hb7; have HT7 := Lib.hid (TW.trans' HT6.out ht7); clear hb7 ht7)
        | (refine (write_any B b _ ⟨#[46]⟩ w5 HB5.out (by rw [List.length_append, ESZ.out]; have := HL.out; show _ + 1 ≤ _; omega) HS5.out).mono ?_; rintro e w6 ⟨rfl, hb6, ht6⟩; have HB6 := Lib.hid hb6; have HT6 := Lib.hid (TW.trans' HT5.out ht6); have HS6 : Hid (B ≤ w6.heap.size) := Nat.le_trans HS5.out ht6.size; have k6 := (HK5.out.tw ht6 HNE.out (by decide)); have r2 := k6.cell 2; simp only [List.getElem?_toArray, List.getElem?_cons_succ, List.getElem?_cons_zero] at r2; clear hb6 ht6 k6)
        | (refine HX.out.mono ?_; rintro e w5 ⟨rfl, hb5, ht5⟩; have HB5 := Lib.hid hb5; have HT5 := Lib.hid (TW.trans' HT1.out ht5); have HS5 : Hid (B ≤ w5.heap.size) := Nat.le_trans HB.out (TW.trans' HT1.out ht5).size; have HK5 := Lib.hid (HBX.out.tw ht5 HNE.out (by decide)); clear hb5 ht5 q0 q1 q2)
        | (change wpList _ _ _ _ _ (w.alloc (.cells #[_, _, _, _, _] 25)); rw [HW1.out]))
      go_end0
      exact ⟨rfl, by rw [ET.out]; have h := HB7.out; simp only [List.append_assoc] at h ⊢; exact h, HT7.out⟩
  have et : txtY (.mk k p m n l) = [63] := by cases l <;> rw [txtY, if_neg h1, if_neg h2, if_neg h3, if_neg h4, if_neg hk5, if_neg h6, if_neg h7]
  have g1 : (k == 1) = false := beq_eq_false_iff_ne.2 h1
  have g2 : (k == 2) = false := beq_eq_false_iff_ne.2 h2
  have g3 : (k == 3) = false := beq_eq_false_iff_ne.2 h3
  have g4 : (k == 4) = false := beq_eq_false_iff_ne.2 h4
  have g6 : (k == 6) = false := beq_eq_false_iff_ne.2 h6
  have g7 : (k == 7) = false := beq_eq_false_iff_ne.2 h7
  clear h1 h2 h3 h4 h6 h7 hk5
  have hx := HW.out ⟨#[63]⟩ (by have h := hlen; rw [et] at h; first | exact h | (rw [ESZ.out] at h; exact h))
  have HX := Lib.hid hx
  have ET := Lib.hid et
  clear hx et hlen
  go_enter Try.func34, Try.ntmps34
  go_wp2_with (first | (refine HX.out.mono ?_; rintro e w5 ⟨rfl, hb5, ht5⟩; have HB5 := Lib.hid hb5; have HT5 := Lib.hid ht5; clear hb5 ht5) | (change wpList _ _ _ _ _ (w.alloc (.cells #[_, _, _, _, _] 25)); rw [HW1.out]))
  go_end0
  exact ⟨rfl, by rw [ET.out]; exact HB5.out, TW.trans' HT1.out HT5.out⟩

end Go.Proofs.Ytofdejoeheokjaa
