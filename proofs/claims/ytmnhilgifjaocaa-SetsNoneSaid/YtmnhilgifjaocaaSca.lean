/-
  All elements of a row copied. Condition: rows of at most 2^47 bytes.
-/
import Derived.Test.YtmnhilgifjaocaaSyp
import Derived.Test.YtmnhilgifjaocaaSmb
namespace Go.Proofs.Ytmnhilgifjaocaa
open Go.RowKit
open Go.Lib hiding intOf

def IsYr (w : World) (y : GY) (c : List Value) : Prop := c.length = 5 ∧ c.all (·.oneCell') = true ∧ IsY w y (.agg c.toArray)
theorem IsYs.toR {w : World} {o : Option Addr} {xs : List GY} (h : IsYs w o 0 xs) : IsRow 5 IsYr w o xs := fun i y hy => by
  obtain ⟨a, c0, c1, c2, c3, c4, rfl, hc, hyx⟩ := h.at_ i hy
  rw [Nat.zero_add] at hc
  exact ⟨a, [c0, c1, c2, c3, c4], rfl, rfl, hc, rfl, hyx.ones, hyx⟩
theorem IsYr.below {w w' : World} {y : GY} {c : List Value} (h : IsYr w y c) (hb : Below w.heap.size w w') : IsYr w' y c := ⟨h.1, h.2.1, h.2.2.below hb⟩
theorem IsFd.ones {w : World} {f : ByteArray × GY} {c : List Value} (h : IsFd w f c) : c.length = 6 ∧ c.all (·.oneCell') = true := by
  obtain ⟨r0, r1, r2, r3, r4, rfl, h5⟩ := h
  have := h5.ones
  simp only [List.all_cons, List.all_nil, Bool.and_true, Bool.and_eq_true] at this ⊢
  exact ⟨rfl, rfl, this⟩
theorem IsYr.ones {w : World} {m : GY} {c : List Value} (h : IsYr w m c) : c.length = 5 ∧ c.all (·.oneCell') = true := ⟨h.1, h.2.1⟩
theorem size6 : (Try.prog.info? 63).map (·.size) = some 6 := by kernel_rfl
theorem size7 : (Try.prog.info? 50).map (·.size) = some 7 := by kernel_rfl
theorem size4 : (Try.prog.info? 35).map (·.size) = some 4 := by kernel_rfl
theorem size3 : (Try.prog.info? 59).map (·.size) = some 3 := by kernel_rfl
theorem info6 : (Try.prog.info? 63).map (fun i => (i.zero, i.size, i.bytes)) = some (some (.agg #[.string noB, .int .i64 0, .string noB, .string noB, .int .i64 0, .slice none 0 0]), 6, 88) := by kernel_rfl
theorem info7 : (Try.prog.info? 50).map (fun i => (i.zero, i.size, i.bytes)) = some (some (.agg #[.string noB, .slice none 0 0, .int .i64 0, .string noB, .string noB, .int .i64 0, .slice none 0 0]), 7, 112) := by kernel_rfl
/-- A part of a struct's cells, one by one. -/
theorem cells_new (w : World) (T : TypeId) (d : List Value) : ∀ (j : Nat) (u : Value), d[j]? = some u → (w.alloc (.cells d.toArray T)).cell? ((⟨w.heap.size, 0, none⟩ : Addr).add j) = some u := fun j u hu => by
  have e : (⟨w.heap.size, 0, none⟩ : Addr).add j = ⟨w.heap.size, j, none⟩ := by unfold Addr.add; split <;> simp_all
  rw [e, (Blk.new w T d.toArray).cell]
  simpa using hu

/-- What the copy of one element answers. -/
def CopY (x : GY) : Prop := ∀ (c : List Value) (W : World), IsYr W x c → Calls Try.prog 39 #[.agg c.toArray] W fun e W' => ∃ d, e = .returned (.agg d.toArray) ∧ IsYPc (fun k => W.heap.size ≤ k) W' x d ∧ Below W.heap.size W W'
set_option maxRecDepth 100000 in
set_option maxHeartbeats 8000000 in
theorem eachY_any (xs : List GY) (o : Option Addr) (N c : Nat) (w : World) (hN : xs.length = N) (hb : N * 72 ≤ 140737488355328) (hrow : IsRow 5 IsYr w o xs) (H : ∀ x ∈ xs, CopY x) :
    Calls Try.prog 57 #[.slice o N c, .func (.func 39) #[] #[]] w fun e w' => ∃ o' c', e = .returned (.slice o' N c') ∧ (N ≤ c' ∧ c' ≤ maxLen ∧ IsRowP 5 IsYPc (fun k => w.heap.size ≤ k) w' o' xs) ∧ Below w.heap.size w w' := by
  have HN := Lib.hid hN
  have HR := Lib.hid hrow
  have HH := Lib.hid H
  have HQ0 : Hid (RowQ 29 5 IsYPc w w.heap.size none 0 0 (xs.take 0)) := RowQ.start w _
  clear hrow H hN
  go_enter Try.func57, Try.ntmps57
  go_wp2
  go_loopw [5, 10] (fun v i wr => ∃ (j : Nat) (o' : Option Addr) (c' : Nat), v = .slice o' j c' ∧ i = .int .i64 (j : Nat) ∧ Hid (j ≤ N) ∧ Hid (RowQ 29 5 IsYPc wr w.heap.size o' j c' (xs.take j)) ∧ Hid (Below w.heap.size w wr)) (fun _ i _ => N - (RowKit.intOf i).toNat)
  case atStart => exact ⟨0, none, 0, rfl, rfl, Nat.zero_le _, HQ0, Below.refl _ _⟩
  case round =>
    obtain ⟨j, o', c', rfl, rfl, HJ, HRQ, HB⟩ := hrel
    clear HQ0
    by_cases hj : j < N
    · have hj' : ((j : Int) < (N : Int)) := by omega
      have hj0 : (0 : Int) ≤ (j : Int) := by omega
      have hwj := IntWalk.i64_in ((j : Int) + 1) ⟨by omega, by omega⟩
      obtain ⟨x, hx⟩ : ∃ x, xs[j]? = some x := ⟨_, List.getElem?_eq_getElem (by rw [HN.out]; exact hj)⟩
      have hmem := List.mem_of_getElem? hx
      obtain ⟨a, cx, rfl, hl, hc, hfx⟩ := HR.out j x hx
      have HC : Hid (∀ (i : Nat) (v : Value), cx[i]? = some v → wr.cell? ((a.add (j * 5)).add i) = some v) := fun i v h => cells_below HB.out _ v (hc i v h)
      have HL := Lib.hid hl
      have HO := Lib.hid hfx.ones.2
      obtain ⟨W8, hW8⟩ : ∃ W8, wr.alloc (.cells cx.toArray 29) = W8 := ⟨_, rfl⟩
      have hb8 : Below wr.heap.size wr W8 := by rw [← hW8]; exact (Below.refl _ _).alloc (Nat.le_refl _) _
      have HBK : Hid (Blk W8 wr.heap.size 29 cx.toArray) := by rw [← hW8]; exact Blk.new _ _ _
      have HB8 := Lib.hid hb8
      have HW8 := Lib.hid hW8
      have HF := Lib.hid (HH.out x hmem cx W8 (hfx.below (stepB HB.out hb8 (Nat.le_refl _))))
      have HT : Hid (xs.take (j + 1) = xs.take j ++ [x]) := by show _ = _; rw [List.take_add_one, hx]; rfl
      obtain ⟨i0, hi, hz0, hz1, hz2⟩ := info_parts infoTT
      have HS8 := Lib.hid (Nat.le_trans HB.out.size hb8.size)
      have HJN := Lib.hid hj
      have hsz : (Try.prog.info? 29).map (·.size) = some 5 := size5
      have HSZ := Lib.hid hsz
      clear hc hmem hfx hl hx hb8 hW8 hsz
      go_wp2_with (first
        | (refine boxLoadG 29 5 HSZ.out Try.underlying29 rfl _ rfl (a.add (j * 5)) rfl (cs := cx) HC.out HL.out ?_)
        | (refine boxNew 29 5 HSZ.out rfl _ _ rfl rfl cx rfl rfl HL.out HO.out ?_; rw [HW8.out])
        | (refine boxLoad 29 5 HSZ.out Try.underlying29 rfl _ rfl wr.heap.size rfl (cs := cx) HBK.out HL.out ?_)
        | (refine HF.out.mono ?_; rintro e w8 ⟨d, rfl, hd, hb⟩; have hdo := hd.ones; have HDL := Lib.hid hdo.1; have HDO := Lib.hid hdo.2; have HD := Lib.hid hd; have HU := Lib.hid hb; have HQ8 := Lib.hid (HRQ.out.below keepY (stepB HB8.out hb (Nat.le_refl _))); obtain ⟨hL5, L, hL1, hL2, hL3, hL4⟩ := HQ8.out; have HL1 := Lib.hid hL1; have HL2 := Lib.hid hL2; have HL3 := Lib.hid hL3; have HL4 := Lib.hid hL4; have HL5 := Lib.hid hL5; have HS9 := Lib.hid (Nat.le_trans HS8.out hb.size); clear hd hb hdo hL1 hL2 hL3 hL4 hL5)
        | (refine boxRow1 24 29 5 (.agg #[.int .i64 0, .string ⟨#[]⟩, .string ⟨#[]⟩, .int .i64 0, .slice none 0 0]) Try.underlying24 (by kernel_rfl) rfl (by decide) rfl _ rfl d rfl HDL.out ?_)
        | (refine wpList_append_tells w8 rfl _ _ 24 rfl w.heap.size 29 i0 (.agg #[.int .i64 0, .string ⟨#[]⟩, .string ⟨#[]⟩, .int .i64 0, .slice none 0 0]) 5 72 Try.underlying24 hi hz0 hz1 hz2 rfl (by decide) (.slice o' j c') j L.flatten rfl HL1.out _ d rfl HDL.out (cells_new w8 29 d) (List.all_eq_true.1 HDO.out) (by unfold maxLen; omega) (by omega) HS9.out ?_; intro o9 c9 w9 hrow hT9 hfr; have HROW := Lib.hid hrow; have HT9 := Lib.hid hT9; have HFR := Lib.hid hfr; clear hrow hT9 hfr))
      case roundEnd =>
        have hd8 : IsYPc (fun k => w.heap.size ≤ k ∧ (Value.slice o' j c').ownBlock ≠ some k) w8 x d := keepY _ _ _ _ _ _ (fun a u h _ => by
          refine ⟨Nat.le_trans HS8.out h, fun e => ?_⟩
          obtain ⟨_, L', hL', _⟩ := HRQ.out
          have := (hL'.lt _ e).2
          have := HB8.out.size
          omega) (fun _ _ _ h => h) HD.out
        have hN := RowQ.next keepY HL1.out HL2.out HL3.out HL4.out HL5.out HDL.out hd8 HROW.out HT9.out HFR.out
        refine ⟨⟨j + 1, o9, c9, rfl, by push_cast; rfl, hj, by show RowQ _ _ _ _ _ _ _ _ _; rw [HT.out]; exact hN, ?_⟩, by simp [RowKit.intOf]; omega⟩
        exact (stepB HB.out (stepB HB8.out HU.out (Nat.le_refl _)) (Nat.le_refl _)).trans (HT9.out.below (by have := HS9.out; omega) fun k hk => by have := (HL1.out.lt k hk).1; omega)
    · have hj' : ¬ ((j : Int) < (N : Int)) := by omega
      have hjN := HJ.out
      obtain rfl : j = N := by omega
      have hfull : xs.take j = xs := List.take_of_length_le (by rw [HN.out]; exact Nat.le_refl _)
      have hRQ := HRQ.out
      rw [hfull] at hRQ
      have HFIN := Lib.hid (hRQ.done keepY)
      clear hRQ hfull hjN
      go_wp2
      go_ret
      exact ⟨_, _, rfl, HFIN.out, HB.out⟩

/-- What the copy of one element answers. -/
def CopF (x : (ByteArray × GY)) : Prop := ∀ (c : List Value) (W : World), IsFd W x c → Calls Try.prog 55 #[.agg c.toArray] W fun e W' => ∃ d, e = .returned (.agg d.toArray) ∧ IsFdP (fun k => W.heap.size ≤ k) W' x d ∧ Below W.heap.size W W'
set_option maxRecDepth 100000 in
set_option maxHeartbeats 8000000 in
theorem eachF_any (xs : List (ByteArray × GY)) (o : Option Addr) (N c : Nat) (w : World) (hN : xs.length = N) (hb : N * 88 ≤ 140737488355328) (hrow : IsRow 6 IsFd w o xs) (H : ∀ x ∈ xs, CopF x) :
    Calls Try.prog 54 #[.slice o N c, .func (.func 55) #[] #[]] w fun e w' => ∃ o' c', e = .returned (.slice o' N c') ∧ (N ≤ c' ∧ c' ≤ maxLen ∧ IsRowP 6 IsFdP (fun k => w.heap.size ≤ k) w' o' xs) ∧ Below w.heap.size w w' := by
  have HN := Lib.hid hN
  have HR := Lib.hid hrow
  have HH := Lib.hid H
  have HQ0 : Hid (RowQ 63 6 IsFdP w w.heap.size none 0 0 (xs.take 0)) := RowQ.start w _
  clear hrow H hN
  go_enter Try.func54, Try.ntmps54
  go_wp2
  go_loopw [5, 10] (fun v i wr => ∃ (j : Nat) (o' : Option Addr) (c' : Nat), v = .slice o' j c' ∧ i = .int .i64 (j : Nat) ∧ Hid (j ≤ N) ∧ Hid (RowQ 63 6 IsFdP wr w.heap.size o' j c' (xs.take j)) ∧ Hid (Below w.heap.size w wr)) (fun _ i _ => N - (RowKit.intOf i).toNat)
  case atStart => exact ⟨0, none, 0, rfl, rfl, Nat.zero_le _, HQ0, Below.refl _ _⟩
  case round =>
    obtain ⟨j, o', c', rfl, rfl, HJ, HRQ, HB⟩ := hrel
    clear HQ0
    by_cases hj : j < N
    · have hj' : ((j : Int) < (N : Int)) := by omega
      have hj0 : (0 : Int) ≤ (j : Int) := by omega
      have hwj := IntWalk.i64_in ((j : Int) + 1) ⟨by omega, by omega⟩
      obtain ⟨x, hx⟩ : ∃ x, xs[j]? = some x := ⟨_, List.getElem?_eq_getElem (by rw [HN.out]; exact hj)⟩
      have hmem := List.mem_of_getElem? hx
      obtain ⟨a, cx, rfl, hl, hc, hfx⟩ := HR.out j x hx
      have HC : Hid (∀ (i : Nat) (v : Value), cx[i]? = some v → wr.cell? ((a.add (j * 6)).add i) = some v) := fun i v h => cells_below HB.out _ v (hc i v h)
      have HL := Lib.hid hl
      have HO := Lib.hid hfx.ones.2
      obtain ⟨W8, hW8⟩ : ∃ W8, wr.alloc (.cells cx.toArray 63) = W8 := ⟨_, rfl⟩
      have hb8 : Below wr.heap.size wr W8 := by rw [← hW8]; exact (Below.refl _ _).alloc (Nat.le_refl _) _
      have HBK : Hid (Blk W8 wr.heap.size 63 cx.toArray) := by rw [← hW8]; exact Blk.new _ _ _
      have HB8 := Lib.hid hb8
      have HW8 := Lib.hid hW8
      have HF := Lib.hid (HH.out x hmem cx W8 (hfx.below (stepB HB.out hb8 (Nat.le_refl _))))
      have HT : Hid (xs.take (j + 1) = xs.take j ++ [x]) := by show _ = _; rw [List.take_add_one, hx]; rfl
      obtain ⟨i0, hi, hz0, hz1, hz2⟩ := info_parts info6
      have HS8 := Lib.hid (Nat.le_trans HB.out.size hb8.size)
      have HJN := Lib.hid hj
      have hsz : (Try.prog.info? 63).map (·.size) = some 6 := size6
      have HSZ := Lib.hid hsz
      clear hc hmem hfx hl hx hb8 hW8 hsz
      go_wp2_with (first
        | (refine boxLoadG 63 6 HSZ.out Try.underlying63 rfl _ rfl (a.add (j * 6)) rfl (cs := cx) HC.out HL.out ?_)
        | (refine boxNew 63 6 HSZ.out rfl _ _ rfl rfl cx rfl rfl HL.out HO.out ?_; rw [HW8.out])
        | (refine boxLoad 63 6 HSZ.out Try.underlying63 rfl _ rfl wr.heap.size rfl (cs := cx) HBK.out HL.out ?_)
        | (refine HF.out.mono ?_; rintro e w8 ⟨d, rfl, hd, hb⟩; have hdo := hd.ones; have HDL := Lib.hid hdo.1; have HDO := Lib.hid hdo.2; have HD := Lib.hid hd; have HU := Lib.hid hb; have HQ8 := Lib.hid (HRQ.out.below keepF (stepB HB8.out hb (Nat.le_refl _))); obtain ⟨hL5, L, hL1, hL2, hL3, hL4⟩ := HQ8.out; have HL1 := Lib.hid hL1; have HL2 := Lib.hid hL2; have HL3 := Lib.hid hL3; have HL4 := Lib.hid hL4; have HL5 := Lib.hid hL5; have HS9 := Lib.hid (Nat.le_trans HS8.out hb.size); clear hd hb hdo hL1 hL2 hL3 hL4 hL5)
        | (refine boxRow1 32 63 6 (.agg #[.string noB, .int .i64 0, .string noB, .string noB, .int .i64 0, .slice none 0 0]) Try.underlying32 (by kernel_rfl) rfl (by decide) rfl _ rfl d rfl HDL.out ?_)
        | (refine wpList_append_tells w8 rfl _ _ 32 rfl w.heap.size 63 i0 (.agg #[.string noB, .int .i64 0, .string noB, .string noB, .int .i64 0, .slice none 0 0]) 6 88 Try.underlying32 hi hz0 hz1 hz2 rfl (by decide) (.slice o' j c') j L.flatten rfl HL1.out _ d rfl HDL.out (cells_new w8 63 d) (List.all_eq_true.1 HDO.out) (by unfold maxLen; omega) (by omega) HS9.out ?_; intro o9 c9 w9 hrow hT9 hfr; have HROW := Lib.hid hrow; have HT9 := Lib.hid hT9; have HFR := Lib.hid hfr; clear hrow hT9 hfr))
      case roundEnd =>
        have hd8 : IsFdP (fun k => w.heap.size ≤ k ∧ (Value.slice o' j c').ownBlock ≠ some k) w8 x d := keepF _ _ _ _ _ _ (fun a u h _ => by
          refine ⟨Nat.le_trans HS8.out h, fun e => ?_⟩
          obtain ⟨_, L', hL', _⟩ := HRQ.out
          have := (hL'.lt _ e).2
          have := HB8.out.size
          omega) (fun _ _ _ h => h) HD.out
        have hN := RowQ.next keepF HL1.out HL2.out HL3.out HL4.out HL5.out HDL.out hd8 HROW.out HT9.out HFR.out
        refine ⟨⟨j + 1, o9, c9, rfl, by push_cast; rfl, hj, by show RowQ _ _ _ _ _ _ _ _ _; rw [HT.out]; exact hN, ?_⟩, by simp [RowKit.intOf]; omega⟩
        exact (stepB HB.out (stepB HB8.out HU.out (Nat.le_refl _)) (Nat.le_refl _)).trans (HT9.out.below (by have := HS9.out; omega) fun k hk => by have := (HL1.out.lt k hk).1; omega)
    · have hj' : ¬ ((j : Int) < (N : Int)) := by omega
      have hjN := HJ.out
      obtain rfl : j = N := by omega
      have hfull : xs.take j = xs := List.take_of_length_le (by rw [HN.out]; exact Nat.le_refl _)
      have hRQ := HRQ.out
      rw [hfull] at hRQ
      have HFIN := Lib.hid (hRQ.done keepF)
      clear hRQ hfull hjN
      go_wp2
      go_ret
      exact ⟨_, _, rfl, HFIN.out, HB.out⟩

/-- What the copy of one element answers. -/
def CopM (x : MD) : Prop := ∀ (c : List Value) (W : World), IsMd W x c → Calls Try.prog 43 #[.agg c.toArray] W fun e W' => ∃ d, e = .returned (.agg d.toArray) ∧ IsMdP (fun k => W.heap.size ≤ k) W' x d ∧ Below W.heap.size W W'
set_option maxRecDepth 100000 in
set_option maxHeartbeats 8000000 in
theorem eachM_any (xs : List MD) (o : Option Addr) (N c : Nat) (w : World) (hN : xs.length = N) (hb : N * 112 ≤ 140737488355328) (hrow : IsRow 7 IsMd w o xs) (H : ∀ x ∈ xs, CopM x) :
    Calls Try.prog 41 #[.slice o N c, .func (.func 43) #[] #[]] w fun e w' => ∃ o' c', e = .returned (.slice o' N c') ∧ (N ≤ c' ∧ c' ≤ maxLen ∧ IsRowP 7 IsMdP (fun k => w.heap.size ≤ k) w' o' xs) ∧ Below w.heap.size w w' := by
  have HN := Lib.hid hN
  have HR := Lib.hid hrow
  have HH := Lib.hid H
  have HQ0 : Hid (RowQ 50 7 IsMdP w w.heap.size none 0 0 (xs.take 0)) := RowQ.start w _
  clear hrow H hN
  go_enter Try.func41, Try.ntmps41
  go_wp2
  go_loopw [5, 10] (fun v i wr => ∃ (j : Nat) (o' : Option Addr) (c' : Nat), v = .slice o' j c' ∧ i = .int .i64 (j : Nat) ∧ Hid (j ≤ N) ∧ Hid (RowQ 50 7 IsMdP wr w.heap.size o' j c' (xs.take j)) ∧ Hid (Below w.heap.size w wr)) (fun _ i _ => N - (RowKit.intOf i).toNat)
  case atStart => exact ⟨0, none, 0, rfl, rfl, Nat.zero_le _, HQ0, Below.refl _ _⟩
  case round =>
    obtain ⟨j, o', c', rfl, rfl, HJ, HRQ, HB⟩ := hrel
    clear HQ0
    by_cases hj : j < N
    · have hj' : ((j : Int) < (N : Int)) := by omega
      have hj0 : (0 : Int) ≤ (j : Int) := by omega
      have hwj := IntWalk.i64_in ((j : Int) + 1) ⟨by omega, by omega⟩
      obtain ⟨x, hx⟩ : ∃ x, xs[j]? = some x := ⟨_, List.getElem?_eq_getElem (by rw [HN.out]; exact hj)⟩
      have hmem := List.mem_of_getElem? hx
      obtain ⟨a, cx, rfl, hl, hc, hfx⟩ := HR.out j x hx
      have HC : Hid (∀ (i : Nat) (v : Value), cx[i]? = some v → wr.cell? ((a.add (j * 7)).add i) = some v) := fun i v h => cells_below HB.out _ v (hc i v h)
      have HL := Lib.hid hl
      have HO := Lib.hid hfx.ones.2
      obtain ⟨W8, hW8⟩ : ∃ W8, wr.alloc (.cells cx.toArray 50) = W8 := ⟨_, rfl⟩
      have hb8 : Below wr.heap.size wr W8 := by rw [← hW8]; exact (Below.refl _ _).alloc (Nat.le_refl _) _
      have HBK : Hid (Blk W8 wr.heap.size 50 cx.toArray) := by rw [← hW8]; exact Blk.new _ _ _
      have HB8 := Lib.hid hb8
      have HW8 := Lib.hid hW8
      have HF := Lib.hid (HH.out x hmem cx W8 (hfx.below (stepB HB.out hb8 (Nat.le_refl _))))
      have HT : Hid (xs.take (j + 1) = xs.take j ++ [x]) := by show _ = _; rw [List.take_add_one, hx]; rfl
      obtain ⟨i0, hi, hz0, hz1, hz2⟩ := info_parts info7
      have HS8 := Lib.hid (Nat.le_trans HB.out.size hb8.size)
      have HJN := Lib.hid hj
      have hsz : (Try.prog.info? 50).map (·.size) = some 7 := size7
      have HSZ := Lib.hid hsz
      clear hc hmem hfx hl hx hb8 hW8 hsz
      go_wp2_with (first
        | (refine boxLoadG 50 7 HSZ.out Try.underlying50 rfl _ rfl (a.add (j * 7)) rfl (cs := cx) HC.out HL.out ?_)
        | (refine boxNew 50 7 HSZ.out rfl _ _ rfl rfl cx rfl rfl HL.out HO.out ?_; rw [HW8.out])
        | (refine boxLoad 50 7 HSZ.out Try.underlying50 rfl _ rfl wr.heap.size rfl (cs := cx) HBK.out HL.out ?_)
        | (refine HF.out.mono ?_; rintro e w8 ⟨d, rfl, hd, hb⟩; have hdo := hd.ones; have HDL := Lib.hid hdo.1; have HDO := Lib.hid hdo.2; have HD := Lib.hid hd; have HU := Lib.hid hb; have HQ8 := Lib.hid (HRQ.out.below keepM (stepB HB8.out hb (Nat.le_refl _))); obtain ⟨hL5, L, hL1, hL2, hL3, hL4⟩ := HQ8.out; have HL1 := Lib.hid hL1; have HL2 := Lib.hid hL2; have HL3 := Lib.hid hL3; have HL4 := Lib.hid hL4; have HL5 := Lib.hid hL5; have HS9 := Lib.hid (Nat.le_trans HS8.out hb.size); clear hd hb hdo hL1 hL2 hL3 hL4 hL5)
        | (refine boxRow1 33 50 7 (.agg #[.string noB, .slice none 0 0, .int .i64 0, .string noB, .string noB, .int .i64 0, .slice none 0 0]) Try.underlying33 (by kernel_rfl) rfl (by decide) rfl _ rfl d rfl HDL.out ?_)
        | (refine wpList_append_tells w8 rfl _ _ 33 rfl w.heap.size 50 i0 (.agg #[.string noB, .slice none 0 0, .int .i64 0, .string noB, .string noB, .int .i64 0, .slice none 0 0]) 7 112 Try.underlying33 hi hz0 hz1 hz2 rfl (by decide) (.slice o' j c') j L.flatten rfl HL1.out _ d rfl HDL.out (cells_new w8 50 d) (List.all_eq_true.1 HDO.out) (by unfold maxLen; omega) (by omega) HS9.out ?_; intro o9 c9 w9 hrow hT9 hfr; have HROW := Lib.hid hrow; have HT9 := Lib.hid hT9; have HFR := Lib.hid hfr; clear hrow hT9 hfr))
      case roundEnd =>
        have hd8 : IsMdP (fun k => w.heap.size ≤ k ∧ (Value.slice o' j c').ownBlock ≠ some k) w8 x d := keepM _ _ _ _ _ _ (fun a u h _ => by
          refine ⟨Nat.le_trans HS8.out h, fun e => ?_⟩
          obtain ⟨_, L', hL', _⟩ := HRQ.out
          have := (hL'.lt _ e).2
          have := HB8.out.size
          omega) (fun _ _ _ h => h) HD.out
        have hN := RowQ.next keepM HL1.out HL2.out HL3.out HL4.out HL5.out HDL.out hd8 HROW.out HT9.out HFR.out
        refine ⟨⟨j + 1, o9, c9, rfl, by push_cast; rfl, hj, by show RowQ _ _ _ _ _ _ _ _ _; rw [HT.out]; exact hN, ?_⟩, by simp [RowKit.intOf]; omega⟩
        exact (stepB HB.out (stepB HB8.out HU.out (Nat.le_refl _)) (Nat.le_refl _)).trans (HT9.out.below (by have := HS9.out; omega) fun k hk => by have := (HL1.out.lt k hk).1; omega)
    · have hj' : ¬ ((j : Int) < (N : Int)) := by omega
      have hjN := HJ.out
      obtain rfl : j = N := by omega
      have hfull : xs.take j = xs := List.take_of_length_le (by rw [HN.out]; exact Nat.le_refl _)
      have hRQ := HRQ.out
      rw [hfull] at hRQ
      have HFIN := Lib.hid (hRQ.done keepM)
      clear hRQ hfull hjN
      go_wp2
      go_ret
      exact ⟨_, _, rfl, HFIN.out, HB.out⟩

end Go.Proofs.Ytmnhilgifjaocaa
