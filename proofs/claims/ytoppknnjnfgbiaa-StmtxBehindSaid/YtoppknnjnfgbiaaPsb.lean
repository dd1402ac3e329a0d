/-
  The walks of the parser's small methods: expect, name, enter, leave; unquoted. Condition: the parser lies in memory as said.
-/
import Derived.Test.YtoppknnjnfgbiaaPsa
namespace Go.Proofs.Ytoppknnjnfgbiaa
open Go.RowKit
open Go.Lib hiding intOf

theorem run_field3 (a b c : Int) (t : ByteArray) (w : World) : (Instr.field 53 (.agg #[.int .i64 a, .int .i64 b, .int .i64 c, .string t]) 3).run Try.prog w = .ok (.string t) w := by
  simp [Instr.field, go_sem, part, asAgg]

section
variable {b c m : Nat} {o : Option Addr} {l : List TZ} {i d : Int} {w : World}

set_option maxRecDepth 20000 in
set_option maxHeartbeats 1000000 in
theorem expect_ok (S : PS b o c m l i d w) (hn : l.length ≤ 1073741824) {y : ByteArray} (hy : isKT (tkAt l i) 4 y = true) :
    Calls Try.prog 78 #[.pointer (some ⟨b, 0, none⟩), .string y] w fun e w' => e = .returned (.agg #[.int .i64 (tkAt l i).kind, .int .i64 (tkAt l i).pos, .int .i64 (tkAt l i).stop, .string (tkAt l i).text]) ∧ PS b o c m l (i + 1) d w' ∧ Kp b w w' := by
  have hr := isKT_real (by decide) hy
  have H := Lib.hid S
  have hbl := S.lt
  clear S
  have HN := Lib.hid hn
  have HR := Lib.hid hr
  have HS := Lib.hid (fun (W : World) (h : PS b o c m l i d W) => sees_any h (by have := HN.out; omega) y)
  have HT := Lib.hid (fun (W : World) (h : PS b o c m l i d W) => take_any h (by have := HN.out; omega) HR.out)
  have HY := Lib.hid hy
  rw [HY.out] at HS
  clear hn hr hy
  go_enter Try.func78, Try.ntmps78
  go_wp2_with fail
  refine (HS.out _ (H.out.alloc _)).mono ?_
  rintro e w1 ⟨rfl, hB⟩
  have S1 := Lib.hid ((H.out.alloc _).step hB)
  have K1 := Lib.hid (((Kp.refl b w).alloc _).then_below hB)
  have X1 := Lib.hid (blk_mid3 hB)
  have hz1 := mid_size hB
  clear hB
  go_wp2_with fail
  refine (HT.out _ S1.out).mono ?_
  rintro e w2 ⟨rfl, hS, hK⟩
  have S2 := Lib.hid hS
  have K2 := Lib.hid (K1.out.trans hK)
  have hx2 := X1.out.kp hK (by omega)
  have c2 := hx2.cell
  have f2 := hx2.frozen
  clear hS hK hx2
  go_wp2
  refine bodyPost_ret (v := .agg #[.int .i64 (tkAt l i).kind, .int .i64 (tkAt l i).pos, .int .i64 (tkAt l i).stop, .string (tkAt l i).text]) (by simp [results, Try.results78, go_sem, c2]) rfl ⟨rfl, ?_, ?_⟩
  · exact S2.out.set4 (by omega) _ _ _ _
  · exact set4_kp K2.out (.inl (Nat.le_refl _)) _ _ _ _

set_option maxRecDepth 20000 in
set_option maxHeartbeats 1000000 in
theorem expect_no (S : PS b o c m l i d w) (hn : l.length ≤ 1073741824) {y : ByteArray} (hy : isKT (tkAt l i) 4 y = false) :
    Calls Try.prog 78 #[.pointer (some ⟨b, 0, none⟩), .string y] w fun e w' => e = .panicked (thrown (tkAt l i).pos 5) ∧ Kp b w w' := by
  have H := Lib.hid S
  clear S
  have HN := Lib.hid hn
  have HS := Lib.hid (fun (W : World) (h : PS b o c m l i d W) => sees_any h (by have := HN.out; omega) y)
  have HP := Lib.hid (fun (W : World) (h : PS b o c m l i d W) => peek_any h (by have := HN.out; omega))
  have HY := Lib.hid hy
  rw [HY.out] at HS
  clear hn hy
  go_enter Try.func78, Try.ntmps78
  go_wp2_with fail
  refine (HS.out _ (H.out.alloc _)).mono ?_
  rintro e w1 ⟨rfl, hB⟩
  have S1 := Lib.hid ((H.out.alloc _).step hB)
  have K1 := Lib.hid (((Kp.refl b w).alloc _).then_below hB)
  clear hB
  go_wp2_with fail
  refine (HP.out _ S1.out).mono ?_
  rintro e w2 ⟨rfl, hB⟩
  have K2 := Lib.hid (K1.out.then_below hB)
  clear hB
  go_wp2_with fail
  refine (throw_any _ _ _ _ 5 w2).mono ?_
  rintro e w3 ⟨rfl, hB⟩
  have K3 := Lib.hid (K2.out.then_below hB)
  clear hB
  go_wp2
  exact ⟨rfl, rfl, K3.out⟩

set_option maxRecDepth 20000 in
set_option maxHeartbeats 1000000 in
theorem enter_ok (S : PS b o c m l i d w) (hn : l.length ≤ 1073741824) {y : ByteArray} (hy : isKT (tkAt l i) 4 y = true) (hd : 0 ≤ d ∧ d < 30) :
    Calls Try.prog 72 #[.pointer (some ⟨b, 0, none⟩), .string y] w fun e w' => e = .returned (.tuple #[]) ∧ PS b o c m l (i + 1) (d + 1) w' ∧ Kp b w w' := by
  have HE := Lib.hid (expect_ok S hn hy)
  have hbl := S.lt
  obtain ⟨hd0, hd1⟩ := hd
  have e30 : (d == 30) = false := by simp; omega
  clear S hy hn
  go_enter Try.func72, Try.ntmps72
  go_wp2_with fail
  refine HE.out.mono ?_
  rintro e w1 ⟨rfl, hS, hK⟩
  have S1 := Lib.hid hS
  have K1 := Lib.hid hK
  have hb1 : b < w1.heap.size := hS.lt
  have hbn : b ≠ w1.heap.size := by omega
  obtain ⟨p0, p1, p2, p3, pf⟩ := hS.cells
  clear hS hK
  go_wp2
  refine bodyPost_end (results_none rfl _ _ _) rfl ⟨rfl, ?_, ?_⟩
  · exact (S1.out.deep _).alloc _
  · exact (K1.out.setCell (.inr rfl) _).alloc _

set_option maxRecDepth 20000 in
set_option maxHeartbeats 1000000 in
theorem enter_deep (S : PS b o c m l i 30 w) (hn : l.length ≤ 1073741824) {y : ByteArray} (hy : isKT (tkAt l i) 4 y = true) :
    Calls Try.prog 72 #[.pointer (some ⟨b, 0, none⟩), .string y] w fun e w' => e = .panicked (thrown (tkAt l i).pos 6) ∧ Kp b w w' := by
  have HE := Lib.hid (expect_ok S hn hy)
  have hbl := S.lt
  clear S hy hn
  go_enter Try.func72, Try.ntmps72
  go_wp2_with fail
  refine HE.out.mono ?_
  rintro e w1 ⟨rfl, hS, hK⟩
  have K1 := Lib.hid hK
  have hb1 : b < w1.heap.size := hS.lt
  have hbn : b ≠ w1.heap.size := by omega
  obtain ⟨p0, p1, p2, p3, pf⟩ := hS.cells
  clear hS hK
  go_wp2_with fail
  refine (throw_any _ _ _ _ 6 _).mono ?_
  rintro e w3 ⟨rfl, hB⟩
  have K3 := Lib.hid ((K1.out.alloc _).then_below hB)
  clear hB
  go_wp2
  exact ⟨rfl, rfl, K3.out⟩

set_option maxRecDepth 20000 in
set_option maxHeartbeats 1000000 in
theorem enter_no (S : PS b o c m l i d w) (hn : l.length ≤ 1073741824) {y : ByteArray} (hy : isKT (tkAt l i) 4 y = false) :
    Calls Try.prog 72 #[.pointer (some ⟨b, 0, none⟩), .string y] w fun e w' => e = .panicked (thrown (tkAt l i).pos 5) ∧ Kp b w w' := by
  have HE := Lib.hid (expect_no S hn hy)
  clear S hy hn
  go_enter Try.func72, Try.ntmps72
  go_wp2_with fail
  refine HE.out.mono ?_
  rintro e w1 ⟨rfl, hK⟩
  have K1 := Lib.hid hK
  clear hK
  go_wp2
  exact ⟨rfl, rfl, K1.out⟩

set_option maxRecDepth 20000 in
set_option maxHeartbeats 1000000 in
theorem leave_ok (S : PS b o c m l i d w) (hn : l.length ≤ 1073741824) {y : ByteArray} (hy : isKT (tkAt l i) 4 y = true) (hd : 0 ≤ d ∧ d ≤ 30) :
    Calls Try.prog 84 #[.pointer (some ⟨b, 0, none⟩), .string y] w fun e w' => e = .returned (.tuple #[]) ∧ PS b o c m l (i + 1) (d - 1) w' ∧ Kp b w w' := by
  have HE := Lib.hid (expect_ok S hn hy)
  have hbl := S.lt
  obtain ⟨hd0, hd1⟩ := hd
  clear S hy hn
  go_enter Try.func84, Try.ntmps84
  go_wp2_with fail
  refine HE.out.mono ?_
  rintro e w1 ⟨rfl, hS, hK⟩
  have S1 := Lib.hid hS
  have K1 := Lib.hid hK
  have hb1 : b < w1.heap.size := hS.lt
  obtain ⟨p0, p1, p2, p3, pf⟩ := hS.cells
  clear hS hK
  go_wp2
  refine bodyPost_end (results_none rfl _ _ _) rfl ⟨rfl, ?_, ?_⟩
  · exact S1.out.deep _
  · exact K1.out.setCell (.inr rfl) _

set_option maxRecDepth 20000 in
set_option maxHeartbeats 1000000 in
theorem leave_no (S : PS b o c m l i d w) (hn : l.length ≤ 1073741824) {y : ByteArray} (hy : isKT (tkAt l i) 4 y = false) :
    Calls Try.prog 84 #[.pointer (some ⟨b, 0, none⟩), .string y] w fun e w' => e = .panicked (thrown (tkAt l i).pos 5) ∧ Kp b w w' := by
  have HE := Lib.hid (expect_no S hn hy)
  clear S hy hn
  go_enter Try.func84, Try.ntmps84
  go_wp2_with fail
  refine HE.out.mono ?_
  rintro e w1 ⟨rfl, hK⟩
  have K1 := Lib.hid hK
  clear hK
  go_wp2
  exact ⟨rfl, rfl, K1.out⟩

set_option maxRecDepth 20000 in
set_option maxHeartbeats 1000000 in
theorem name_ok (S : PS b o c m l i d w) (hn : l.length ≤ 1073741824) (hf : Fits l) (hk : (tkAt l i).kind = 1) :
    Calls Try.prog 75 #[.pointer (some ⟨b, 0, none⟩)] w fun e w' => e = .returned (.string (tkAt l i).text) ∧ PS b o c m l (i + 1) d w' ∧ Kp b w w' := by
  have HP := Lib.hid (peek_any S (by omega))
  have hr := tkAt_real (l := l) (i := i) (by rw [hk]; decide)
  have HT := Lib.hid (fun (W : World) (h : PS b o c m l i d W) => take_any h (by omega) hr)
  have HC := Lib.hid (fun W : World => clone_any (tkAt l i).text W (hf.tkAt i))
  have H := Lib.hid S
  have e1 : ((tkAt l i).kind != 1) = false := by simpa using hk
  have hfield := run_field3
  clear S hk hn hr hf
  go_enter Try.func75, Try.ntmps75
  go_wp2_with fail
  refine HP.out.mono ?_
  rintro e w1 ⟨rfl, hB⟩
  have S1 := Lib.hid ((H.out.step hB).alloc (.cells #[.int .i64 (tkAt l i).kind, .int .i64 (tkAt l i).pos, .int .i64 (tkAt l i).stop, .string (tkAt l i).text] 53))
  have K1 := Lib.hid (((Kp.refl b w).then_below hB).alloc (.cells #[.int .i64 (tkAt l i).kind, .int .i64 (tkAt l i).pos, .int .i64 (tkAt l i).stop, .string (tkAt l i).text] 53))
  clear hB
  go_wp2_with fail
  refine (HT.out _ S1.out).mono ?_
  rintro e w2 ⟨rfl, hS, hK⟩
  have S2 := Lib.hid hS
  have K2 := Lib.hid (K1.out.trans hK)
  clear hS hK
  go_wp2_with fail
  refine (HC.out _).mono ?_
  rintro e w3 ⟨rfl, hB⟩
  have S3 := Lib.hid (S2.out.step hB)
  have K3 := Lib.hid (K2.out.then_below hB)
  clear hB
  go_wp2
  go_ret
  exact ⟨rfl, S3.out, K3.out⟩

set_option maxRecDepth 20000 in
set_option maxHeartbeats 1000000 in
theorem name_no (S : PS b o c m l i d w) (hn : l.length ≤ 1073741824) (hk : (tkAt l i).kind ≠ 1) :
    Calls Try.prog 75 #[.pointer (some ⟨b, 0, none⟩)] w fun e w' => e = .panicked (thrown (tkAt l i).pos 5) ∧ Kp b w w' := by
  have HP := Lib.hid (peek_any S (by omega))
  have e1 : ((tkAt l i).kind != 1) = true := by simpa using hk
  clear S hk hn
  go_enter Try.func75, Try.ntmps75
  go_wp2_with fail
  refine HP.out.mono ?_
  rintro e w1 ⟨rfl, hB⟩
  have K1 := Lib.hid (((Kp.refl b w).then_below hB).alloc (.cells #[.int .i64 (tkAt l i).kind, .int .i64 (tkAt l i).pos, .int .i64 (tkAt l i).stop, .string (tkAt l i).text] 53))
  clear hB
  go_wp2_with fail
  refine (throw_any _ _ _ _ 5 _).mono ?_
  rintro e w3 ⟨rfl, hB⟩
  have K3 := Lib.hid (K1.out.then_below hB)
  clear hB
  go_wp2
  exact ⟨rfl, rfl, K3.out⟩

end

end Go.Proofs.Ytoppknnjnfgbiaa
