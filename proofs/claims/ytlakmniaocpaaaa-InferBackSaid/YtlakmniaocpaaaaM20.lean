/-
  The first method of a name, searched for. Condition: names of at most 2^48 bytes, at most 2^62 methods.
  Meets, and what may be assigned: the program's answers. Condition: names of at most 2^48 bytes, at most 2^62 methods.
  What may be assigned; methods, declared types, fields, copied: the program's answers. Condition: names and lists of at most 2^47 bytes.
-/
import Derived.Test.YtlakmniaocpaaaaM10
import Derived.Test.YtlakmniaocpaaaaM16
import Derived.Test.YtlakmniaocpaaaaM06
import Derived.Test.YtlakmniaocpaaaaM03
import Derived.Test.YtlakmniaocpaaaaM17
namespace Go.Proofs.Ytlakmniaocpaaaa
open Go.RowKit
open Go.Lib hiding intOf
theorem rows_cells {w0 : World} {o : Option Addr} {l : List MD} (h : IsRow 7 IsMd w0 o l) : ∃ L : List (List Value), L.length = l.length ∧ sg.RowN 7 w0 o L ∧ ∀ (i : Nat) (c : List Value), L[i]? = some c → ∃ x, l[i]? = some x ∧ IsMd w0 x c := by
  obtain ⟨L, h1, h2⟩ := rows_of (P := fun (j : Nat) (x : MD) (c : List Value) => ∃ a, o = some a ∧ c.length = 7 ∧ (∀ (i : Nat) (u : Value), c[i]? = some u → w0.cell? ((a.add (j * 7)).add i) = some u) ∧ IsMd w0 x c) l 0 (fun j d hd => by
    rw [Nat.zero_add]
    obtain ⟨a, c, g1, g2, g3, g4⟩ := h j d hd
    exact ⟨c, a, g1, g2, g3, g4⟩)
  refine ⟨L, h1, fun i c hc => ?_, fun i c hc => ?_⟩
  · obtain ⟨x, _, a, g1, g2, g3, _⟩ := h2 i c hc
    rw [Nat.zero_add] at g3
    exact ⟨a, g1, g2, g3⟩
  · obtain ⟨x, g0, a, _, _, _, g4⟩ := h2 i c hc
    exact ⟨x, g0, g4⟩
theorem nm_cells {w0 : World} {x : MD} {c : List Value} (h : IsMd w0 x c) : sg.nmD c = sg.nm x.name := by
  obtain ⟨o, k, r0, r1, r2, r3, r4, rfl, _⟩ := h
  rfl
theorem names_cells {w0 : World} {l : List MD} {L : List (List Value)} (h1 : L.length = l.length) (h2 : ∀ (i : Nat) (c : List Value), L[i]? = some c → ∃ x, l[i]? = some x ∧ IsMd w0 x c) : L.map sg.nmD = l.map fun m => sg.nm m.name := by
  refine List.ext_getElem? fun i => ?_
  rw [List.getElem?_map, List.getElem?_map]
  cases hL : L[i]? with
  | none =>
    have := List.getElem?_eq_none_iff.1 hL
    rw [List.getElem?_eq_none_iff.2 (by omega)]
    rfl
  | some c =>
    obtain ⟨x, hx, hm⟩ := h2 i c hL
    rw [hx, Option.map_some, Option.map_some, nm_cells hm]
theorem first_find : ∀ (l : List MD) (k : Nat) (x : ByteArray), (sg.firstN (l.map fun m => sg.nm m.name) k (sg.nm x) = none ∧ hasM l x = none) ∨ ∃ i m, sg.firstN (l.map fun m => sg.nm m.name) k (sg.nm x) = some (k + i) ∧ l[i]? = some m ∧ hasM l x = some m
  | [], _, _ => .inl ⟨rfl, rfl⟩
  | m :: r, k, x => by
    unfold hasM
    rw [List.map_cons, sg.firstN, List.find?_cons]
    by_cases e : m.name = x
    · rw [if_pos (by rw [e]), decide_eq_true e]
      exact .inr ⟨0, m, rfl, rfl, rfl⟩
    · rw [if_neg (fun h => e (sg.nm_inj h).symm), decide_eq_false e]
      rcases first_find r (k + 1) x with ⟨h1, h2⟩ | ⟨i, y, h1, h2, h3⟩
      · exact .inl ⟨h1, h2⟩
      · exact .inr ⟨i + 1, y, by rw [h1]; congr 1; omega, by simpa using h2, h3⟩
theorem found_none : sg.found sg.mkI none = .int .i64 0 := rfl
theorem found_some (i : Nat) : sg.found sg.mkI (some i) = .int .i64 (i : Int) := rfl
theorem isM_below {w w' : World} {b n : Nat} {F : sg.Nm → Option Nat} (h : sg.IsM sg.mkI w b n F) (hb : Below w.heap.size w w') : sg.IsM sg.mkI w' b n F := h.below hb
set_option maxRecDepth 100000 in
set_option maxHeartbeats 4000000 in
/-- The search itself. -/
theorem found_any (l : List MD) (o : Option Addr) (m cap bM bV bL : Nat) (x : ByteArray) (w0 w : World) (hl : l.length = m) (hx : x.size ≤ 281474976710656) (hrow : IsRow 7 IsMd w0 o l) (h0 : Below w0.heap.size w0 w)
    (hM : sg.IsM sg.mkI w bM m (sg.firstN (l.map fun m => sg.nm m.name) 0)) (hV : Blk w bV 117 #[.map (some bM)]) (hL : Blk w bL 55 #[.slice o m cap]) :
    Calls Try.prog 78 #[.string x, .pointer (some ⟨bV, 0, none⟩), .pointer (some ⟨bL, 0, none⟩)] w fun e w' => ∃ d, e = .returned (.tuple #[.agg d.toArray, .bool (hasM l x).isSome]) ∧ IsMd w0 ((hasM l x).getD zeroM) d ∧ Below w.heap.size w w' := by
  obtain ⟨W2, hW2, HBX⟩ := bx1 w #[.string noB, .slice none 0 0, .int .i64 0, .string noB, .string noB, .int .i64 0, .slice none 0 0] 54
  have HW2 := Lib.hid hW2
  have hb2 := HBX.out.2.1
  have HM := Lib.hid (isM_below hM hb2)
  have HV := Lib.hid (blkB hV hb2)
  have HL := Lib.hid (blkB hL hb2)
  have k0 : Blk W2 w.heap.size 54 #[.string noB, .slice none 0 0, .int .i64 0, .string noB, .string noB, .int .i64 0, .slice none 0 0] := by have := HBX.out.at_ (Below.refl _ _) 0 rfl; rwa [Nat.add_zero] at this
  have K0 := Lib.hid k0
  have cV := HV.out.cell 0
  have cL := HL.out.cell 0
  have hsx : x.size ≤ maxLen := sg.le_maxLen hx
  have HX := Lib.hid hsx
  have HB2 := Lib.hid hb2
  have HW0 := Lib.hid (h0.trans (hb2.mono h0.size))
  clear hM hV hL hW2 hx hb2 h0 k0 hsx
  rcases first_find l 0 x with ⟨hF, hH⟩ | ⟨i, y, hF, hy, hH⟩
  · have HF := Lib.hid hF
    rw [hH]
    clear hF hH
    go_enter Try.func78, Try.ntmps78
    go_upto_region 1 with fail
    change Code.wp Try.prog _ _ _ (w.alloc (.cells #[.string noB, .slice none 0 0, .int .i64 0, .string noB, .string noB, .int .i64 0, .slice none 0 0] 54))
    rw [HW2.out]
    have c0 := K0.out.cell
    have f0 := K0.out.frozen
    go_wp2_with (refine sg.wpList_look_ok W2 sg.mkI rfl _ _ rfl bM m _ rfl HM.out x rfl HX.out ?_; rw [HF.out, found_none])
    rw [setCell_same K0.out rfl, setCell_same K0.out rfl, setCell_same K0.out rfl, setCell_same K0.out rfl, setCell_same K0.out rfl, setCell_same K0.out rfl, setCell_same K0.out rfl]
    refine bodyPost_ret (v := .tuple #[.agg #[.string noB, .slice none 0 0, .int .i64 0, .string noB, .string noB, .int .i64 0, .slice none 0 0], .bool false]) (by simp [results, Try.results78, go_sem, c0]) rfl ?_
    exact ⟨_, rfl, IsMd.zero, HB2.out⟩
  · rw [Nat.zero_add] at hF
    have HF := Lib.hid hF
    have him : i < m := by rw [← hl]; exact (List.getElem?_eq_some_iff.1 hy).1
    obtain ⟨a, c, rfl, hlc, hc, hyy⟩ := hrow i y hy
    have HYY := Lib.hid hyy
    obtain ⟨o1, k1, ia, p1, q1, ib, o2, le, k2, rfl⟩ := hyy.expl
    have hcc := fun j u h => cells_below HW0.out _ u (hc j u h)
    have e0 := at0 (hcc 0 _ rfl)
    have e1 := atS (hcc 1 _ rfl)
    have e2 := atS (hcc 2 _ rfl)
    have e3 := atS (hcc 3 _ rfl)
    have e4 := atS (hcc 4 _ rfl)
    have e5 := atS (hcc 5 _ rfl)
    have e6 := atS (hcc 6 _ rfl)
    have hi0 : (0 : Int) ≤ (i : Int) := by omega
    have hi1 : (i : Int) < (m : Int) := by omega
    rw [hH]
    clear hF hH hrow hyy hc hcc hy hlc
    go_enter Try.func78, Try.ntmps78
    go_upto_region 1 with fail
    change Code.wp Try.prog _ _ _ (w.alloc (.cells #[.string noB, .slice none 0 0, .int .i64 0, .string noB, .string noB, .int .i64 0, .slice none 0 0] 54))
    rw [HW2.out]
    have c0 := K0.out.cell
    have f0 := K0.out.frozen
    go_wp2_with (refine sg.wpList_look_ok W2 sg.mkI rfl _ _ rfl bM m _ rfl HM.out x rfl HX.out ?_; rw [HF.out, found_some])
    refine bodyPost_ret (v := .tuple #[.agg #[.string y.name, .slice o1 y.params.length k1, .int .i64 ia, .string p1, .string q1, .int .i64 ib, .slice o2 le k2], .bool true]) (by simp [results, Try.results78, go_sem, c0]) rfl ?_
    exact ⟨_, rfl, HYY.out, below7 HB2.out (Nat.le_refl _) _ _ _ _ _ _ _⟩
end Go.Proofs.Ytlakmniaocpaaaa
namespace Go.Proofs.Ytlakmniaocpaaaa
open Go.RowKit
open Go.Lib hiding intOf
/-- How long names and lists of methods may be. -/
def FitMs (l : List MD) : Prop := (∀ m ∈ l, FitM 140737488351232 m) ∧ l.length * 112 ≤ 140737488351232
theorem FitMs.hd {w0 : World} {l : List MD} (h : FitMs l) {L : List (List Value)} (h2 : ∀ (i : Nat) (c : List Value), L[i]? = some c → ∃ x, l[i]? = some x ∧ IsMd w0 x c) : ∀ c ∈ L, sg.IsHd c := fun c hc => by
  obtain ⟨i, hi⟩ := List.getElem?_of_mem hc
  obtain ⟨x, hx, hm⟩ := h2 i c hi
  obtain ⟨o, k, a, p, q, n, o', e, k', rfl⟩ := hm.expl
  exact ⟨_, o, _, k, a, p, q, n, o', e, k', rfl, Nat.le_trans (h.1 x (List.mem_of_getElem? hx)).1 (by decide)⟩
set_option maxRecDepth 100000 in
set_option maxHeartbeats 8000000 in
theorem meetsP_any (s : SCP) (t i : GY) (c : List Value) (v u : Value) (w0 w : World) (h : IsSc w0 s c) (ht : IsY w0 t v) (hi : IsY w0 i u) (h0 : Below w0.heap.size w0 w) (hft : FitMs (methS s t)) (hfi : FitMs (methS s i)) :
    Calls Try.prog 41 #[.agg c.toArray, v, u] w fun e w' => e = .returned (.bool (meetsS s t i)) ∧ Below w.heap.size w w' := by
  have HDI := Lib.hid (fun W (hb : Below w.heap.size w W) => declP_any s i c u w0 W h hi (old_step h0 hb))
  have HMT := Lib.hid (fun W (hb : Below w.heap.size w W) => methP_any s t c v w0 W h ht (old_step h0 hb))
  have HALL := Lib.hid (fun hI h => meets_all (s := s) (t := t) (i := i) hI h)
  have HNOT := Lib.hid (fun (m : MD) h1 h2 => meets_not (s := s) (t := t) (i := i) (m := m) h1 h2)
  have HNO : Hid (ifaceS s.W i = false → meetsS s t i = false) := meets_no
  have HIF : Hid (ifaceS s.W i = match findS s.W i with | some d => !d.strct | none => false) := rfl
  have HMF := Lib.hid (fun (d : TD) (h : findS s.W i = some d) => meth_found (s := s) h)
  have H0 := Lib.hid h0
  have HFT := Lib.hid hft
  have HFI := Lib.hid hfi
  obtain ⟨o, o1, o2, o3, o4, k, n1, k1, n2, k2, k3, n4, k4, rfl, _⟩ := h
  obtain ⟨ta, tn, tp, tq, o5, na, k5, rfl⟩ := ht.expl
  obtain ⟨ia, inn, ip, iq, o6, nb, k6, rfl⟩ := hi.expl
  clear hft hfi
  generalize meetsS s t i = R at *
  generalize methS s t = MT at *
  generalize methS s i = MI at *
  generalize ifaceS s.W i = BI at *
  generalize findS s.W i = FI at *
  generalize s.W.length = nW at *
  generalize s.bounds.length = nbd at *
  obtain ⟨W2, hW2, HBX⟩ := bx3 w #[.slice o nW k, .slice o1 n1 k1, .slice o2 n2 k2, .slice o3 nbd k3, .slice o4 n4 k4] #[.int .i64 ta, .string tp, .string tq, .int .i64 tn, .slice o5 na k5] #[.int .i64 ia, .string ip, .string iq, .int .i64 inn, .slice o6 nb k6] 32 34 34
  have HW2 := Lib.hid hW2
  have hb1 := HBX.out.2.1
  rw [← hW2] at hb1
  have HB1 := Lib.hid hb1
  clear ht hi h0 hW2 hb1
  go_enter Try.func41, Try.ntmps41
  go_wp2_with fail
  refine (HDI.out _ HB1.out).mono ?_
  rintro e V ⟨d, rfl, hd, hb⟩
  rw [HW2.out] at hb
  have HV := Lib.hid hb
  clear hb HB1 HW2 HDI
  cases hFI : FI with
  | none =>
    rw [hFI] at hd
    obtain ⟨od, oe, kd, ke, rfl, _⟩ := hd
    have HQ := Lib.hid (HNO.out (by rw [HIF.out, hFI]))
    have HZ : Hid (Below w.heap.size w V) := HBX.out.below HV.out
    clear hFI HMT HFT HFI HMF HALL HNOT HIF HNO HBX HV
    go_wp2
    go_ret
    rw [HQ.out]
    exact ⟨rfl, HZ.out.alloc HZ.out.size _⟩
  | some D =>
    rw [hFI] at hd
    obtain ⟨od, oe, kd, ke, rfl, _, _, hle, hke, _, hri⟩ := hd
    rw [Option.getD_some] at hri hle
    rw [Option.getD_some]
    cases hS : D.strct with
    | true =>
      have HQ := Lib.hid (HNO.out (by rw [HIF.out, hFI]; show (!D.strct) = false; rw [hS]; rfl))
      have HZ : Hid (Below w.heap.size w V) := HBX.out.below HV.out
      clear hFI hS hri hle hke HMT HFT HFI HMF HALL HNOT HIF HNO HBX HV
      go_wp2
      go_ret
      rw [HQ.out]
      exact ⟨rfl, HZ.out.alloc HZ.out.size _⟩
    | false =>
      have HBI : Hid (BI = true) := by show _ = _; rw [HIF.out, hFI]; show (!D.strct) = true; rw [hS]; rfl
      have HMI : Hid (MI = D.meths) := HMF.out D hFI
      have hq : D.meths.length ≤ 9223372036854775807 := by unfold maxLen at hke; omega
      have HRI := Lib.hid hri
      clear hFI hS hri hle hke HMF HIF HNO
      obtain ⟨V1, hV1⟩ : ∃ V1, V.alloc (.cells #[.string D.name, .bool false, .slice od D.fields.length kd, .slice oe D.meths.length ke] 58) = V1 := ⟨_, rfl⟩
      have hbv : Below V.heap.size V V1 := by rw [← hV1]; exact (Below.refl _ _).alloc (Nat.le_refl _) _
      have hk7 : Blk V1 V.heap.size 58 #[.string D.name, .bool false, .slice od D.fields.length kd, .slice oe D.meths.length ke] := by rw [← hV1]; exact Blk.new _ _ _
      have HK7 := Lib.hid hk7
      have HV1 := Lib.hid (stepB HV.out hbv (Nat.le_refl _))
      have HE1 := Lib.hid hV1
      have b0 := (HBX.out.at_ HV.out 0 rfl)
      have b1 := (HBX.out.at_ HV.out 1 rfl)
      have c0 := b0.cell
      have l0 := b0.lt
      rw [Nat.add_zero] at c0 l0
      have c1 := b1.cell
      have l1 := b1.lt
      have x0 := Nat.ne_of_lt l0
      have x1 := Nat.ne_of_lt l1
      obtain ⟨N, hN⟩ : ∃ N, D.meths.length = N := ⟨_, rfl⟩
      rw [hN] at hq HK7 HE1
      rw [hN]
      have HN := Lib.hid hN
      clear hbv hk7 hV1 b0 b1 hN
      go_wp2_with fail
      rw [HE1.out]
      refine (HMT.out _ (HBX.out.below HV1.out)).mono ?_
      rintro e V2 ⟨u2, rfl, hm2, hb⟩
      obtain ⟨ot, kt, rfl, hlt, hkt, hrt⟩ := hm2
      obtain ⟨L, hL1, hL2, hL3⟩ := rows_cells hrt
      have hv2 := stepB HV1.out hb (Nat.le_refl _)
      have h02 := old_step H0.out (HBX.out.below hv2)
      have hnt : MT.length ≤ 4611686018427387904 := by have := HFT.out.2; omega
      have HS := Lib.hid (sg.searching_any L ot MT.length kt V2 hL1 hnt (HFT.out.hd hL3) (hL2.keep fun a u hc => cells_below h02 a u hc))
      have HNM := Lib.hid (names_cells hL1 hL3)
      have HV2 := Lib.hid hv2
      have HRT := Lib.hid hrt
      have HK72 := Lib.hid (blkB HK7.out hb)
      clear hb hv2 h02 hL1 hL2 hL3 hlt hkt hrt c0 c1 l0 l1 x0 x1 HMT hnt
      have HTL : Hid (MT.length = MT.length) := rfl
      generalize hTT : MT.length = TL at HS HTL ⊢
      have HTL2 := Lib.hid hTT
      clear hTT HTL
      go_wp2_with fail
      refine HS.out.mono ?_
      rintro e V3 ⟨rfl, ⟨hs1, hs2, hs3⟩, hb⟩
      rw [HNM.out] at hs1
      have hv3 := stepB HV2.out hb (Nat.le_refl _)
      have HV3 := Lib.hid hv3
      have HH := Lib.hid (fun (x : ByteArray) (hx : x.size ≤ 281474976710656) (W : World) (hW : Below V3.heap.size V3 W) => found_any MT ot TL kt (V2.heap.size + 1) (V2.heap.size + 1 + 1) V2.heap.size x w0 W HTL2.out hx HRT.out (old_step H0.out (HBX.out.below (stepB hv3 hW (Nat.le_refl _)))) (isM_below hs1 hW) (blkB hs2 hW) (blkB hs3 hW))
      have c7 := (blkB HK72.out hb).cell
      clear hb hs1 hs2 hs3 hv3 HS HNM HRT HK7 HK72 HV2 HV1 HE1
      have HB0 := Lib.hid (Nat.zero_le N)
      have HU0 : Hid (∀ (i : Nat) (m : MD), i < 0 → MI[i]? = some m → okM MT m = true) := fun i a h => by omega
      go_wp2
      clear c7
      go_loopw [33] (fun i wr => ∃ j : Nat, i = .int .i64 (j : Nat) ∧ Hid (j ≤ N) ∧ Hid (∀ (i : Nat) (m : MD), i < j → MI[i]? = some m → okM MT m = true) ∧ Hid (Below V3.heap.size V3 wr)) (fun i _ => N - (RowKit.intOf i).toNat)
      case atStart => exact ⟨0, rfl, HB0, HU0, Below.refl _ _⟩
      case round =>
        obtain ⟨j, rfl, HJ, HU, HR⟩ := hrel
        clear HB0 HU0
        by_cases hj : j < N
        · have hj' : ((j : Int) < (N : Int)) := by omega
          have hj0 : (0 : Int) ≤ (j : Int) := by omega
          have hwj := IntWalk.i64_in ((j : Int) + 1) ⟨by omega, by omega⟩
          obtain ⟨x, hx⟩ : ∃ x, D.meths[j]? = some x := ⟨_, List.getElem?_eq_getElem (by rw [HN.out]; exact hj)⟩
          have hxm : MI[j]? = some x := by rw [HMI.out]; exact hx
          have HXI := Lib.hid (List.mem_of_getElem? hxm)
          have HXJ := Lib.hid hxm
          have hnx : x.name.size ≤ 281474976710656 := Nat.le_trans (HFI.out.1 x (List.mem_of_getElem? hxm)).1 (by decide)
          obtain ⟨a, c, rfl, hlc, hc, hyx⟩ := HRI.out j x hx
          obtain ⟨o7, k7, xa, xn, xp, xq, o8, e8, k8, rfl, hk7, hl7, hxp, hxr⟩ := hyx.parts
          have hwr := stepB HV3.out HR.out (Nat.le_refl _)
          have h0r := old_step H0.out (HBX.out.below hwr)
          have HC := Lib.hid (mvc h0r hc)
          obtain ⟨W8, hW8⟩ : ∃ W8, wr.alloc (.cells #[.string x.name, .slice o7 x.params.length k7, .int .i64 xa, .string xp, .string xq, .int .i64 xn, .slice o8 e8 k8] 54) = W8 := ⟨_, rfl⟩
          have hb8 : Below wr.heap.size wr W8 := by rw [← hW8]; exact (Below.refl _ _).alloc (Nat.le_refl _) _
          have hbk : Blk W8 wr.heap.size 54 #[.string x.name, .slice o7 x.params.length k7, .int .i64 xa, .string xp, .string xq, .int .i64 xn, .slice o8 e8 k8] := by rw [← hW8]; exact Blk.new _ _ _
          have HBK := Lib.hid hbk
          have c8 := hbk.cell
          have hr8 := stepB HR.out hb8 (Nat.le_refl _)
          have HR8 := Lib.hid hr8
          have HF := Lib.hid (HH.out x.name hnx W8 hr8)
          have HW8 := Lib.hid hW8
          have HXP := Lib.hid hxp
          have HXR := Lib.hid hxr
          have HOK : Hid (okM MT x = match hasM MT x.name with | some o => alikeYs o.params x.params && alikeY o.result x.result | none => false) := rfl
          have hq7 : x.params.length ≤ 9223372036854775807 := by unfold maxLen at hk7; omega
          obtain ⟨P', hP'⟩ : ∃ P', x.params.length = P' := ⟨_, rfl⟩
          rw [hP'] at hq7 HC HBK HW8 c8
          have HP' := Lib.hid hP'
          clear hx hxm hnx hlc hc hyx hk7 hl7 hxp hxr hwr h0r hb8 hbk hr8 hW8 hP'
          cases hh : hasM MT x.name with
          | none =>
            rw [hh] at HF HOK
            have HQ : Hid (R = false) := HNOT.out x HXI.out HOK.out
            clear hh
            go_wp2_with (first
              | (refine boxLoadG 54 7 size7 Try.underlying54 rfl _ rfl (a.add (j * 7)) rfl HC.out rfl ?_)
              | (refine boxNew 54 7 size7 rfl _ _ rfl rfl [.string x.name, .slice o7 P' k7, .int .i64 xa, .string xp, .string xq, .int .i64 xn, .slice o8 e8 k8] rfl rfl rfl rfl ?_; rw [HW8.out])
              | (refine HF.out.mono ?_; rintro e V4 ⟨d, rfl, hd, hb⟩; obtain ⟨z1, z2, z3, z4, z5, z6, z7, z8, z9, rfl⟩ := hd.expl; have HV4 := Lib.hid (stepB HR8.out hb (Nat.le_refl _)); clear hd hb))
            go_ret
            rw [HQ.out]
            have hz := HBX.out.below (stepB HV3.out HV4.out (Nat.le_refl _))
            exact ⟨rfl, hz.alloc hz.size _⟩
          | some q =>
            rw [hh] at HF HOK
            have HOK2 : Hid (okM MT x = (alikeYs q.params x.params && alikeY q.result x.result)) := HOK.out
            clear hh HOK
            go_wp2_with (first
              | (refine boxLoadG 54 7 size7 Try.underlying54 rfl _ rfl (a.add (j * 7)) rfl HC.out rfl ?_)
              | (refine boxNew 54 7 size7 rfl _ _ rfl rfl [.string x.name, .slice o7 P' k7, .int .i64 xa, .string xp, .string xq, .int .i64 xn, .slice o8 e8 k8] rfl rfl rfl rfl ?_; rw [HW8.out])
              | fail)
            refine HF.out.mono ?_
            rintro e V4 ⟨d, rfl, hd, hb⟩
            rw [Option.getD_some] at hd
            obtain ⟨o9, k9, da, dn, dp, dq, o10, e10, k10, rfl, hk9, hl9, hdp, hdr⟩ := hd.parts
            have hv4 := stepB HR8.out hb (Nat.le_refl _)
            have hb11 := blkB HBK.out hb
            have c11 := hb11.cell
            have l11 := hb11.lt
            have n11 := Nat.ne_of_lt l11
            have hww := HBX.out.below (stepB HV3.out hv4 (Nat.le_refl _))
            have h04 := old_step H0.out hww
            obtain ⟨P, hP⟩ : ∃ P, q.params.length = P := ⟨_, rfl⟩
            have hq9 : P ≤ 9223372036854775807 := by unfold maxLen at hk9; omega
            obtain ⟨V5, hV5⟩ : ∃ V5, V4.alloc (.cells #[.string q.name, .slice o9 P k9, .int .i64 da, .string dp, .string dq, .int .i64 dn, .slice o10 e10 k10] 54) = V5 := ⟨_, rfl⟩
            have hb5 : Below V4.heap.size V4 V5 := by rw [← hV5]; exact (Below.refl _ _).alloc (Nat.le_refl _) _
            have h05 := h04.trans (hb5.mono h04.size)
            have HE := Lib.hid (eqa_any q.params x.params o9 o7 P P' k9 k7 V5 hP HP'.out hq9 hq7 (hdp.below h05) (HXP.out.below h05) (fun z _ y v u W hv hu => alikeP_any _ z y v u W (Nat.lt_succ_self _) hv hu))
            have HA := Lib.hid (fun W (hW : Below V5.heap.size V5 W) => alikeP_any _ q.result x.result _ _ W (Nat.lt_succ_self _) (hdr.below (old_step h05 hW)) (HXR.out.below (old_step h05 hW)))
            have b12 : Blk V5 V4.heap.size 54 #[.string q.name, .slice o9 P k9, .int .i64 da, .string dp, .string dq, .int .i64 dn, .slice o10 e10 k10] := by rw [← hV5]; exact Blk.new _ _ _
            have B12 := Lib.hid b12
            have B11 := Lib.hid (blkB hb11 hb5)
            have HV4 := Lib.hid (stepB hv4 hb5 (Nat.le_refl _))
            have HE5 := Lib.hid hV5
            have HWW := Lib.hid (hww.trans (hb5.mono hww.size))
            rw [hP]
            clear hd hb hk9 hl9 hdp hdr hv4 hb11 hww h04 hP hq9 hq7 hb5 h05 b12 hV5 HH c8 HF HC HBK HW8
            cases hA1 : alikeYs q.params x.params with
            | false =>
              rw [hA1] at HE HOK2
              have HQ : Hid (R = false) := HNOT.out x HXI.out HOK2.out
              clear hA1 HA
              go_wp2_with (first
                | (rw [HE5.out]; refine HE.out.mono ?_; rintro e V6 ⟨rfl, hb⟩; have HV6 := Lib.hid (old_step HWW.out hb); clear hb c11 l11 n11)
                | (refine HE.out.mono ?_; rintro e V6 ⟨rfl, hb⟩; have HV6 := Lib.hid (old_step HWW.out hb); clear hb))
              go_ret
              rw [HQ.out]
              exact ⟨rfl, HV6.out⟩
            | true =>
              rw [hA1, Bool.true_and] at HOK2
              rw [hA1] at HE
              clear hA1
              cases hA2 : alikeY q.result x.result with
              | false =>
                rw [hA2] at HA HOK2
                have HQ : Hid (R = false) := HNOT.out x HXI.out HOK2.out
                clear hA2
                go_wp2_with (first
                  | (refine HA.out _ HV6.out.2.1 |>.mono ?_; rintro e V7 ⟨rfl, hb⟩; have HV7 := Lib.hid (old_step HV6.out.1 hb); clear hb)
                  | ((first | rw [HE5.out] | skip); refine HE.out.mono ?_; rintro e V6 ⟨rfl, hb⟩; have HV6 := Lib.hid (And.intro (old_step HWW.out hb) (And.intro hb True.intro)); have d1 := (blkB B11.out hb).cell; have d2 := (blkB B12.out hb).cell; clear hb c11 l11 n11))
                go_ret
                rw [HQ.out]
                exact ⟨rfl, HV7.out⟩
              | true =>
                rw [hA2] at HA HOK2
                have HU2 : Hid (∀ (i : Nat) (m : MD), i < j + 1 → MI[i]? = some m → okM MT m = true) := fun i m hi hm => by
                  by_cases e : i < j
                  · exact HU.out i m e hm
                  · obtain rfl : i = j := by omega
                    have hx := HXJ.out
                    rw [hx] at hm
                    cases hm
                    exact HOK2.out
                clear hA2
                go_wp2_with (first
                  | (refine HA.out _ HV6.out.2.1 |>.mono ?_; rintro e V7 ⟨rfl, hb⟩; have HV7 := Lib.hid (stepB HV4.out (stepB HV6.out.2.1 hb (Nat.le_refl _)) (Nat.le_refl _)); clear hb)
                  | ((first | rw [HE5.out] | skip); refine HE.out.mono ?_; rintro e V6 ⟨rfl, hb⟩; have HV6 := Lib.hid (And.intro (old_step HWW.out hb) (And.intro hb True.intro)); have d1 := (blkB B11.out hb).cell; have d2 := (blkB B12.out hb).cell; clear hb c11 l11 n11))
                case roundEnd => exact ⟨⟨j + 1, by push_cast; rfl, hj, HU2, HV7⟩, by simp [RowKit.intOf]; omega⟩
        · have hj' : ¬ ((j : Int) < (N : Int)) := by omega
          have HQ : Hid (R = true) := HALL.out HBI.out fun i m hm => HU.out i m (by
            have := (List.getElem?_eq_some_iff.1 hm).1
            rw [HMI.out, HN.out] at this
            omega) hm
          have HZ : Hid (Below w.heap.size w wr) := HBX.out.below (stepB HV3.out HR.out (Nat.le_refl _))
          clear hj
          go_wp2
          go_ret
          rw [HQ.out]
          exact ⟨rfl, HZ.out⟩
end Go.Proofs.Ytlakmniaocpaaaa
namespace Go.Proofs.Ytlakmniaocpaaaa
open Go.RowKit
open Go.Lib hiding intOf
set_option maxRecDepth 100000 in
set_option maxHeartbeats 8000000 in
theorem assignP_any (s : SCP) (t i : GY) (c : List Value) (v u : Value) (w0 w : World) (h : IsSc w0 s c) (ht : IsY w0 t v) (hi : IsY w0 i u) (h0 : Below w0.heap.size w0 w) (hft : FitMs (methS s t)) (hfi : FitMs (methS s i)) :
    Calls Try.prog 24 #[.agg c.toArray, v, u] w fun e w' => e = .returned (.bool (assignS s t i)) ∧ Below w.heap.size w w' := by
  have HA := Lib.hid (fun W (hb : Below w.heap.size w W) => alikeP_any _ t i v u W (Nat.lt_succ_self _) (ht.below (old_step h0 hb)) (hi.below (old_step h0 hb)))
  have HM := Lib.hid (fun W (hb : Below w.heap.size w W) => meetsP_any s t i c v u w0 W h ht hi (old_step h0 hb) hft hfi)
  obtain ⟨o, o1, o2, o3, o4, k, n1, k1, n2, k2, k3, n4, k4, rfl, _⟩ := h
  obtain ⟨tk, tp, tq, tn, ta⟩ := t
  obtain ⟨ik, ip, iq, inn, ia⟩ := i
  obtain ⟨o5, k5, rfl, _⟩ := ht.parts
  obtain ⟨o6, k6, rfl, _⟩ := hi.parts
  have HD : Hid (assignS s (.mk tk tp tq tn ta) (.mk ik ip iq inn ia) = (!decide (tk = 7) && !decide (ik = 7) && (alikeY (.mk tk tp tq tn ta) (.mk ik ip iq inn ia) || meetsS s (.mk tk tp tq tn ta) (.mk ik ip iq inn ia)))) := rfl
  generalize assignS s (.mk tk tp tq tn ta) (.mk ik ip iq inn ia) = R at *
  generalize meetsS s (.mk tk tp tq tn ta) (.mk ik ip iq inn ia) = BM at *
  generalize alikeY (.mk tk tp tq tn ta) (.mk ik ip iq inn ia) = BA at *
  generalize s.W.length = nW at *
  generalize s.bounds.length = nbd at *
  generalize ta.length = na at *
  generalize ia.length = nb at *
  obtain ⟨W2, hW2, HBX⟩ := bx3 w #[.slice o nW k, .slice o1 n1 k1, .slice o2 n2 k2, .slice o3 nbd k3, .slice o4 n4 k4] #[.int .i64 tk, .string tp, .string tq, .int .i64 tn, .slice o5 na k5] #[.int .i64 ik, .string ip, .string iq, .int .i64 inn, .slice o6 nb k6] 32 34 34
  have hb1 := HBX.out.2.1
  rw [← hW2] at hb1
  have HB1 := Lib.hid hb1
  have HW2 := Lib.hid hW2
  clear ht hi h0 hW2 hb1 hft hfi
  by_cases h7 : tk = 7
  · subst h7
    have HQ : Hid (R = false) := HD.out
    go_enter Try.func24, Try.ntmps24
    go_wp2
    go_ret
    rw [HQ.out]
    exact ⟨rfl, HB1.out⟩
  · have h7b : (tk == 7) = false := by simpa using h7
    by_cases h8 : ik = 7
    · subst h8
      have HQ : Hid (R = false) := by show _ = _; rw [HD.out]; simp
      clear h7
      go_enter Try.func24, Try.ntmps24
      go_wp2
      go_ret
      rw [HQ.out]
      exact ⟨rfl, HB1.out⟩
    · have h8b : (ik == 7) = false := by simpa using h8
      have HD2 : Hid (R = (BA || BM)) := by rw [HD.out, decide_eq_false h7, decide_eq_false h8]; rfl
      clear h7 h8 HD
      go_enter Try.func24, Try.ntmps24
      go_wp2_with fail
      refine (HA.out _ HB1.out).mono ?_
      rintro e V ⟨rfl, hb⟩
      have hb2 := hb
      rw [HW2.out] at hb2
      have HV := Lib.hid (HBX.out.below hb2)
      have c0 := (HBX.out.at_ hb2 0 rfl).cell
      have c1 := (HBX.out.at_ hb2 1 rfl).cell
      have c2 := (HBX.out.at_ hb2 2 rfl).cell
      rw [Nat.add_zero] at c0
      clear hb hb2
      cases BA with
      | true =>
        have HQ : Hid (R = true) := HD2.out
        go_wp2
        go_ret
        rw [HQ.out]
        exact ⟨rfl, HV.out⟩
      | false =>
        have HQ : Hid (R = BM) := HD2.out
        go_wp2_with fail
        refine (HM.out _ HV.out).mono ?_
        rintro e V2 ⟨rfl, hb⟩
        have HV2 := Lib.hid (stepB HV.out hb (Nat.le_refl _))
        clear hb
        go_wp2
        go_ret
        rw [HQ.out]
        exact ⟨rfl, HV2.out⟩
end Go.Proofs.Ytlakmniaocpaaaa
