/-
  The program's own order of packages. Condition: at most a thousand packages, of at most a thousand imports, and names of at most 2^48 bytes.
-/
import Derived.Test.YtgnhcaepkgbieaaWmb
namespace Go.Proofs.Ytgnhcaepkgbieaa
open Go.RowKit

set_option maxRecDepth 100000 in
set_option maxHeartbeats 2000000 in
/-- A copy of a node's name. -/
theorem namedP_any (N : List ByteArray) (on oi ou : Option Addr) (n cn ci cu i ni nu : Nat) (w : World) (h : AtS w on N) (hn : N.length = n) (hi : i < n) (hs : ∀ s ∈ N, s.size ≤ 281474976710656) :
    Calls Try.prog 26 #[.agg #[.slice on n cn, .slice oi ni ci, .slice ou nu cu], .int .i64 (i : Int)] w fun e w' => ∃ s, N[i]? = some s ∧ e = .returned (.string s) ∧ Below w.heap.size w w' := by
  have hiN : i < N.length := by omega
  obtain ⟨a, ho, hc⟩ := h i _ (List.getElem?_eq_getElem hiN)
  subst ho
  have hq := hc
  have HE := Lib.hid (List.getElem?_eq_getElem hiN)
  have HB0 : ∀ o1, Hid (Below w.heap.size w (w.alloc o1)) := fun o1 => (Below.refl _ w).alloc (Nat.le_refl _) o1
  have HCL := Lib.hid (fun W => cloneS_any N[i] W (hs _ (List.getElem_mem hiN)))
  have hi' : ((i : Int) < (n : Int)) := by omega
  have hi0 : (0 : Int) ≤ (i : Int) := by omega
  have hlt := World.block_lt_of_cell? _ _ hc
  clear h hc hs hi hn
  generalize N[i] = y at *
  go_enter Try.func26, Try.ntmps26
  go_wp2_with fail
  refine (HCL.out _).mono ?_
  rintro e w1 ⟨rfl, hB⟩
  have HB := Lib.hid hB
  clear hB
  go_wp2
  go_ret
  exact ⟨y, HE.out, rfl, (HB0 _).out.trans (HB.out.mono (by simp))⟩

def lenV : Value → Nat
  | .slice _ n _ => n
  | _ => 0
theorem row_cap {w : World} {base n cap : Nat} {e : TypeId} {o : Option Addr} {xs : List Value} (h : w.ownsRow base e 1 (.slice o n cap) n xs) : n ≤ cap := by
  rcases h.2 with ⟨hv, h0⟩ | ⟨g, cap', cur, hv, _, _, h4, _⟩
  · simp only [Value.slice.injEq] at hv
    omega
  · simp only [Value.slice.injEq] at hv
    omega
theorem few_below {H : List Nat} {n : Nat} (hd : H.Nodup) (hl : ∀ x ∈ H, x < n) : H.length ≤ n := by
  have := (all_in hd (b := List.range n) fun x hx => List.mem_range.2 (hl x hx)).1
  simpa using this
/-- What stands beside the heap: the web's variable, who waits for how many. -/
structure OrdM (w1 wr : World) (WB QB RB n cn : Nat) (on oi ou : Option Addr) (Wt : List Nat) : Prop where
  web : wr.heap[WB]? = some (.cells #[.slice on n cn, .slice oi n n, .slice ou n n] 40)
  wait : RowI wr 0 3 QB n n Wt
  len : Wt.length = n
  ne : WB ≠ QB ∧ WB ≠ RB ∧ QB ≠ RB ∧ w1.heap.size ≤ WB ∧ w1.heap.size ≤ QB ∧ w1.heap.size ≤ RB
  below : Below w1.heap.size w1 wr
theorem OrdM.turn {w1 wr w' : World} {S : Nat → Prop} {WB QB RB n cn : Nat} {on oi ou : Option Addr} {Wt : List Nat} (h : OrdM w1 wr WB QB RB n cn on oi ou Wt) (hT : Turn S wr w') (hW : ¬ S WB) (hQ : ¬ S QB) (hb : ∀ k, S k → w1.heap.size ≤ k) : OrdM w1 w' WB QB RB n cn on oi ou Wt :=
  ⟨(hT.block WB (Array.getElem?_eq_some_iff.1 h.web).1 hW).trans h.web, hT.row h.wait fun k hk => by simp only [Value.ownBlock, Option.some.injEq] at hk; subst hk; exact hQ, h.len, h.ne, h.below.trans (hT.below h.below.size hb)⟩
theorem OrdM.set {w1 wr : World} {WB QB RB n cn : Nat} {on oi ou : Option Addr} {Wt : List Nat} (h : OrdM w1 wr WB QB RB n cn on oi ou Wt) (i x : Nat) : OrdM w1 (wr.setCell ⟨QB, i, none⟩ (.int .i64 (x : Int))) WB QB RB n cn on oi ou (Wt.set i x) ∧ Turn (fun k => k = QB) wr (wr.setCell ⟨QB, i, none⟩ (.int .i64 (x : Int))) := by
  obtain ⟨h1, h2⟩ := h.wait.set (i := i) (x := x)
  exact ⟨⟨(h2.block WB (Array.getElem?_eq_some_iff.1 h.web).1 h.ne.1).trans h.web, h1, by rw [List.length_set]; exact h.len, h.ne, h.below.trans (h2.below h.below.size fun k hk => by subst hk; exact h.ne.2.2.2.2.1)⟩, h2⟩

set_option maxRecDepth 100000 in
set_option maxHeartbeats 8000000 in
/-- The order, and who is stuck. -/
theorem orderP_any (xs : List ND) (o : Option Addr) (c : Nat) (w : World) (h : AtD w o xs) (hf : Few xs) :
    Calls Try.prog 12 #[.slice o xs.length c] w fun e w' => ∃ (O S : List ByteArray) (o1 o2 : Option Addr) (n1 n2 c1 c2 : Nat), e = .returned (.tuple #[.slice o1 n1 c1, .slice o2 n2 c2]) ∧ O.length = n1 ∧ S.length = n2 ∧ n1 ≤ 1000 ∧ n2 ≤ 1000 ∧ RunN (xs.map toNd) [] (nms O) ∧ StkIs (xs.map toNd) (nms O) (nms S) ∧
      AtS w' o1 O ∧ AtS w' o2 S ∧ Below w.heap.size w w' ∧ n1 ≤ c1 := by
  have HL := Lib.hid (laidP_any xs o c w h hf)
  clear h hf
  go_enter Try.func12, Try.ntmps12
  go_wp2_with fail
  refine HL.out.mono ?_
  rintro e w1 ⟨N, I, U, on, oi, ou, n, cn, rfl, hN, hn, hW, hsz, hfi, hfu, hAN, hAI, hAU, hB⟩
  have HNL := Lib.hid hN
  have HN := Lib.hid hn
  have HW := Lib.hid hW
  have HSZ := Lib.hid hsz
  have HFI := Lib.hid hfi
  have HFU := Lib.hid hfu
  have HAN := Lib.hid hAN
  have HAI := Lib.hid hAI
  have HAU := Lib.hid hAU
  have HB := Lib.hid hB
  have hmk := make_all 42 3 (.int .i64 0) 8 Try.underlying42 info3s rfl (by decide) n (by omega)
  clear hN hn hW hsz hfi hfu hAN hAI hAU hB HL
  go_wp2
  have tb := three_blocks w1 (.cells #[.slice on n cn, .slice oi n n, .slice ou n n] 40) (.cells (Array.replicate n (.int .i64 0)) 3) (.cells #[.slice none 0 0] 43)
  have HOM0 : Hid (OrdM w1 (((w1.alloc (.cells #[.slice on n cn, .slice oi n n, .slice ou n n] 40)).alloc (.cells (Array.replicate n (.int .i64 0)) 3)).alloc (.cells #[.slice none 0 0] 43)) w1.heap.size (w1.heap.size + 1) (w1.heap.size + 1 + 1) n cn on oi ou (List.replicate n 0)) := by
    refine ⟨tb.1, ⟨by simp [iC], .inr ⟨w1.heap.size + 1, n, Array.replicate n (.int .i64 0), rfl, Nat.zero_le _, tb.2.1, Nat.le_refl _, by have := HN.out; unfold maxLen; omega, by simp, by simp [iC]⟩⟩, by simp, ⟨by omega, by omega, by omega, by omega, by omega, by omega⟩, ?_⟩
    have := tb.2.2.2.1
    exact ⟨this.os, this.tape, this.output, this.size, this.block⟩
  have HH0 : Hid (IsHp (((w1.alloc (.cells #[.slice on n cn, .slice oi n n, .slice ou n n] 40)).alloc (.cells (Array.replicate n (.int .i64 0)) 3)).alloc (.cells #[.slice none 0 0] 43)) (w1.heap.size + 1 + 1 + 1) (w1.heap.size + 1 + 1) [] none 0) :=
    ⟨tb.2.2.1, World.ownsRow_nil _ _ _ _, by omega, by simp⟩
  have HS0 : Hid (w1.heap.size + 1 + 1 + 1 ≤ (((w1.alloc (.cells #[.slice on n cn, .slice oi n n, .slice ou n n] 40)).alloc (.cells (Array.replicate n (.int .i64 0)) 3)).alloc (.cells #[.slice none 0 0] 43)).heap.size) := Nat.le_of_eq tb.2.2.2.2.symm
  clear tb hmk
  generalize (((w1.alloc (.cells #[.slice on n cn, .slice oi n n, .slice ou n n] 40)).alloc (.cells (Array.replicate n (.int .i64 0)) 3)).alloc (.cells #[.slice none 0 0] 43)) = w2 at *
  generalize hWB : w1.heap.size = WB at *
  have HWB := Lib.hid hWB
  clear hWB
  go_loopw [22] (fun v wr => ∃ (j : Nat) (Wt H : List Nat) (o' : Option Addr) (cap : Nat), v = .int .i64 (j : Int) ∧ Hid (j ≤ n) ∧ Hid (OrdM w1 wr WB (WB + 1) (WB + 1 + 1) n cn on oi ou Wt) ∧ Hid (∀ i, i < n → getH Wt i = if i < j then (waysAt I i).length else 0) ∧
    Hid (IsHp wr (WB + 1 + 1 + 1) (WB + 1 + 1) H o' cap) ∧ Hid (HeapH H) ∧ Hid H.Nodup ∧ Hid (∀ x, x ∈ H ↔ x < j ∧ (waysAt I x).length = 0) ∧ Hid (WB + 1 + 1 + 1 ≤ wr.heap.size)) (fun v _ => n - (RowKit.intOf v).toNat)
  case atStart =>
    refine ⟨0, _, [], none, 0, rfl, Nat.zero_le _, HOM0, fun i hi => ?_, HH0, fun k h0 hk => absurd hk (by simp), List.nodup_nil, fun x => by simp, HS0⟩
    rw [if_neg (by omega)]
    unfold getH
    rw [List.getD_eq_getElem?_getD, List.getElem?_replicate]
    split <;> rfl
  case round =>
    clear HOM0 HH0 HS0
    obtain ⟨j, Wt, H, o', cap, rfl, HJ, HOM, HWT, HH, HHP, HND, HMEM, HSZW⟩ := hrel
    by_cases hj : j < n
    · have hj' : ((j : Int) < (n : Int)) := by omega
      have hj0 : (0 : Int) ≤ (j : Int) := by omega
      have hn := HN.out
      have hj1 : (j : Int) + 1 ≤ 9223372036854775807 := by omega
      have hj2 : -9223372036854775808 ≤ (j : Int) + 1 := by omega
      have hjI : j < I.length := by rw [HW.out.li]; unfold nms; rw [List.length_map, HNL.out]; exact hj
      obtain ⟨g, o2, c2, ho, hc, _⟩ := HAI.out j _ (ways_get hjI)
      subst ho
      have hq := (HOM.out.below.cell (by have := World.block_lt_of_cell? _ _ hc; exact this)).trans hc
      obtain ⟨x0, x1, x2⟩ := cells3 HOM.out.web
      have cQ := HOM.out.wait.cell HOM.out.len hj
      have fQ := World.ownsRow.frozenAt HOM.out.wait j
      have HO2 := Lib.hid (HOM.out.set j (waysAt I j).length)
      have HH2 := Lib.hid (HO2.out.2.isHp HH.out fun k hk hkq => by
        subst hkq
        rcases hk with hk | hk
        · omega
        · have := (HH.out.row.lt _ hk).1; omega)
      have HWT2 : Hid (∀ i, i < n → getH (Wt.set j (waysAt I j).length) i = if i < j + 1 then (waysAt I i).length else 0) := fun i hi => by
        rw [getH_set _ _ _ _ (by rw [HOM.out.len]; exact hj)]
        by_cases he : i = j
        · subst he; rw [if_pos rfl, if_pos (by omega)]
        · rw [if_neg he, HWT.out i hi]
          by_cases h1 : i < j
          · rw [if_pos h1, if_pos (by omega)]
          · rw [if_neg h1, if_neg (by omega)]
      have HSZ2 := Lib.hid (Nat.le_trans HSZW.out HO2.out.2.size)
      have HFW : Hid (H.length + 1 ≤ 100000) := by
        have := few_below HND.out (n := j) fun x hx => ((HMEM.out x).1 hx).1
        show _ ≤ _
        omega
      clear hc hjI hn
      generalize hm : (waysAt I j).length = m at *
      have HME := Lib.hid hm
      clear hm
      by_cases h0 : m = 0
      · subst h0
        have HA := Lib.hid (addP_any (WB + 1 + 1 + 1) (WB + 1 + 1) cap j H o' _ HH2.out HHP.out HSZ2.out HFW.out)
        go_wp2_with fail
        refine HA.out.mono ?_
        rintro e w3 ⟨rfl, H3, o3, cap3, hI3, hh3, hp3, hT3, hw3⟩
        have HH3 := Lib.hid hI3
        have HHP3 := Lib.hid hh3
        have hnin : j ∉ H := fun hm => by have := ((HMEM.out j).1 hm).1; omega
        have HND3 : Hid H3.Nodup := hp3.nodup_iff.2 (List.nodup_cons.2 ⟨hnin, HND.out⟩)
        have HMEM3 : Hid (∀ x, x ∈ H3 ↔ x < j + 1 ∧ (waysAt I x).length = 0) := fun x => by
          rw [hp3.mem_iff, List.mem_cons, HMEM.out]
          constructor
          · rintro (rfl | ⟨h1, h2⟩)
            · exact ⟨by omega, HME.out⟩
            · exact ⟨by omega, h2⟩
          · rintro ⟨h1, h2⟩
            by_cases he : x = j
            · exact .inl he
            · exact .inr ⟨by omega, h2⟩
        have HOM3 := Lib.hid (HO2.out.1.turn hT3 (fun h => by
          rcases h with h | h
          · omega
          · have := (HH2.out.row.lt _ h).1; omega) (fun h => by
          rcases h with h | h
          · omega
          · have := (HH2.out.row.lt _ h).1; omega) (fun k h => by
          have := HWB.out
          rcases h with h | h
          · omega
          · have := (HH2.out.row.lt _ h).1; omega))
        have HSZ3 := Lib.hid (Nat.le_trans HSZ2.out hT3.size)
        clear hI3 hh3 hp3 hT3 hw3 HA hnin
        go_wp2
        case roundEnd => exact ⟨⟨j + 1, _, H3, o3, cap3, by push_cast; rfl, by show _ ≤ _; omega, HOM3, HWT2, HH3, HHP3, HND3, HMEM3, HSZ3⟩, by simp [RowKit.intOf]; omega⟩
      · have h0' : ¬ ((m : Int) = 0) := by omega
        have hw := IntWalk.i64_in ((j : Int) + 1) ⟨hj2, hj1⟩
        have HMEM3 : Hid (∀ x, x ∈ H ↔ x < j + 1 ∧ (waysAt I x).length = 0) := fun x => by
          rw [HMEM.out]
          constructor
          · rintro ⟨h1, h2⟩
            exact ⟨by omega, h2⟩
          · rintro ⟨h1, h2⟩
            refine ⟨?_, h2⟩
            by_cases he : x = j
            · subst he
              rw [HME.out] at h2
              exact absurd h2 h0
            · omega
        clear h0 hj1 hj2
        go_wp2
        case roundEnd => exact ⟨⟨j + 1, _, H, o', cap, by push_cast; rfl, by show _ ≤ _; omega, HO2.out.1, HWT2, HH2, HHP, HND, HMEM3, HSZ2⟩, by simp [RowKit.intOf]; omega⟩
    · have hj' : ¬ ((j : Int) < (n : Int)) := by omega
      have hjj := HJ.out
      obtain rfl : j = n := by omega
      have hnl : (nms N).length = j := by unfold nms; rw [List.length_map]; exact HNL.out
      have HNL2 := Lib.hid hnl
      have HOI : Hid (OrdI (xs.map toNd) (nms N) I U [] Wt H []) := by
        refine OrdI.start (by rw [hnl]; exact HOM.out.len) (fun i hi => ?_) HHP.out HND.out fun x => ?_
        · rw [hnl] at hi
          rw [HWT.out i hi, if_pos hi]
        · rw [HMEM.out, hnl]
          constructor
          · rintro ⟨h1, h2⟩
            exact ⟨h1, by rw [HWT.out x h1, if_pos h1]; exact h2⟩
          · rintro ⟨h1, h2⟩
            rw [HWT.out x h1, if_pos h1] at h2
            exact ⟨h1, h2⟩
      clear hjj hnl HWT HHP HND HMEM HJ hj
      go_wp2_with fail
      clear hj'
      go_loopw [2] (fun v wr => ∃ (od Wt H : List Nat) (OL : List ByteArray) (o' o1 : Option Addr) (cap n1 c1 : Nat), v = .slice o1 n1 c1 ∧ Hid (OL.length = n1 ∧ od.length = n1) ∧ Hid (nms OL = od.map fun i => (nms N).getD i []) ∧ Hid (OrdM w1 wr WB (WB + 1) (WB + 1 + 1) j cn on oi ou Wt) ∧
        Hid (IsHp wr (WB + 1 + 1 + 1) (WB + 1 + 1) H o' cap) ∧ Hid (OrdI (xs.map toNd) (nms N) I U od Wt H []) ∧ Hid (wr.ownsRow (WB + 1 + 1 + 1) 9 1 (.slice o1 n1 c1) n1 (sC OL)) ∧ Hid (∀ k, (Value.slice o1 n1 c1).ownBlock = some k → (Value.slice o' H.length cap).ownBlock ≠ some k) ∧ Hid (WB + 1 + 1 + 1 ≤ wr.heap.size)) (fun v _ => j - lenV v)
      case atStart => exact ⟨[], Wt, H, [], o', none, cap, 0, 0, rfl, ⟨rfl, rfl⟩, rfl, HOM, HH, HOI, World.ownsRow_nil _ _ _ _, by show ∀ k, _; intro k hk; simp [Value.ownBlock] at hk, HSZW⟩
      case round =>
        clear HOM HH HOI HSZW
        obtain ⟨od, Wt, H, OL, o', o1, cap, n1, c1, rfl, HOL, HON, HOM, HH, HOI, HRW, HAP, HSZW⟩ := hrel
        obtain ⟨cR, fR, _⟩ := HH.out.cell
        have HN1 : Hid (n1 ≤ j) := by
          have := few_below HOI.out.nd (n := j) fun x hx => by have := HOI.out.lt x hx; rw [HNL2.out] at this; exact this
          rw [HOL.out.2] at this
          exact this
        by_cases hh : H.length = 0
        · have hh' : ((H.length : Nat) : Int) = 0 := by omega
          obtain rfl : H = [] := List.length_eq_zero_iff.1 hh
          have HD := Lib.hid (HOI.out.done HW.out)
          obtain ⟨x0, x1, x2⟩ := cells3 HOM.out.web
          clear hh
          go_wp2_with fail
          clear x0 x1 x2 cR fR
          obtain ⟨w4, rfl⟩ : ∃ w4, w4 = wr := ⟨wr, rfl⟩
          have HAN4 := Lib.hid (HAN.out.below HOM.out.below)
          go_loopw [3, 77] (fun v u wr => ∃ (k : Nat) (S : List ByteArray) (o2 : Option Addr) (n2 c2 : Nat), v = .slice o2 n2 c2 ∧ u = .int .i64 (k : Int) ∧ Hid (k ≤ j) ∧ Hid (S.length = n2) ∧ Hid (n2 ≤ k) ∧ Hid (nms S = ((List.range k).filter fun i => decide (0 < getH Wt i)).map fun i => (nms N).getD i []) ∧
            Hid (wr.ownsRow w4.heap.size 9 1 (.slice o2 n2 c2) n2 (sC S)) ∧ Hid (Below w4.heap.size w4 wr)) (fun _ u _ => j - (RowKit.intOf u).toNat)
          case atStart => exact ⟨0, [], none, 0, 0, rfl, rfl, Nat.zero_le _, by show _ = _; rfl, Nat.le_refl _, by show _ = _; rfl, World.ownsRow_nil _ _ _ _, Below.refl _ _⟩
          case round =>
            obtain ⟨k, S, o2, n2, c2, rfl, rfl, HK, HSN, HSK, HNS, HRS, HB4⟩ := hrel
            by_cases hk : k < j
            · have hk' : ((k : Int) < (j : Int)) := by omega
              have hk0 : (0 : Int) ≤ (k : Int) := by omega
              have hw := IntWalk.i64_in ((k : Int) + 1) ⟨by omega, by have := HN.out; omega⟩
              have hbs := Lib.hid HB4.out.size
              have HO4 := Lib.hid (HOM.out.turn (Turn.of_below HB4.out) (by have := (Array.getElem?_eq_some_iff.1 HOM.out.web).1; omega) (by have := (RowI.lt HOM.out.wait).2; omega) (fun k hk => by have := HOM.out.below.size; omega))
              have cQ := HO4.out.wait.cell HO4.out.len hk
              obtain ⟨x0, x1, x2⟩ := cells3 HO4.out.web
              have HRG : Hid (((List.range (k + 1)).filter fun i => decide (0 < getH Wt i)).map (fun i => (nms N).getD i []) = ((List.range k).filter fun i => decide (0 < getH Wt i)).map (fun i => (nms N).getD i []) ++ (if 0 < getH Wt k then [(nms N).getD k []] else [])) := by
                show _ = _
                rw [List.range_succ, List.filter_append, List.map_append]
                congr 1
                by_cases h0 : 0 < getH Wt k
                · rw [if_pos h0, List.filter_cons_of_pos (by simpa using h0)]; rfl
                · rw [if_neg h0, List.filter_cons_of_neg (by simpa using h0)]; rfl
              have HKJ := Lib.hid hk
              by_cases h0 : 0 < getH Wt k
              · have h0' : (0 : Int) < ((getH Wt k : Nat) : Int) := by omega
                have HRG2 := HRG.out
                rw [if_pos h0] at HRG2
                have HRG3 := Lib.hid HRG2
                have HNM := Lib.hid (namedP_any N on oi ou j cn j j k j j wr (HAN4.out.below HB4.out) HNL.out hk HSZ.out)
                clear HRG2 HRG h0 hk
                go_wp2_with fail
                refine HNM.out.mono ?_
                rintro e w5 ⟨s, hs, rfl, hB⟩
                have HRS5 := Lib.hid (below_row hB HRS.out)
                have HB5 := Lib.hid (HB4.out.trans (hB.mono HB4.out.size))
                have HS5 := Lib.hid (Nat.le_trans hbs.out hB.size)
                have HSE : Hid ((nms N).getD k [] = nm s) := by show _ = _; unfold nms; rw [List.getD_eq_getElem?_getD, List.getElem?_map, hs]; rfl
                have HN2 : Hid (n2 ≤ 1000) := by have := HSK.out; have := HKJ.out; have := HN.out; show _ ≤ _; omega
                clear hB hs HNM cQ x0 x1 x2 h0'
                go_wp2_with (refine wpList_append_name rfl _ _ rfl w4.heap.size (.slice o2 n2 c2) n2 S s rfl HSN.out HRS5.out rfl HS5.out (by have := HN2.out; omega) ?_; intro o6 cap6 w6 hrow hbel; have HRW6 := Lib.hid hrow; have HB6 := Lib.hid (HB5.out.trans hbel); clear hrow hbel)
                case roundEnd => exact ⟨⟨k + 1, S ++ [s], o6, n2 + 1, cap6, rfl, by push_cast; rfl, by have := HKJ.out; show _ ≤ _; omega, by show _ = _; rw [List.length_append, HSN.out]; rfl, by have := HSK.out; show _ ≤ _; omega, by show _ = _; rw [nms_app, HNS.out, HRG3.out, HSE.out]; rfl, HRW6, HB6⟩, by have := HKJ.out; simp [RowKit.intOf]; omega⟩
              · have h0' : ¬ ((0 : Int) < ((getH Wt k : Nat) : Int)) := by omega
                have HRG2 := HRG.out
                rw [if_neg h0, List.append_nil] at HRG2
                have HRG3 := Lib.hid HRG2
                clear HRG2 HRG h0 hk x0 x1 x2
                go_wp2
                case roundEnd => exact ⟨⟨k + 1, S, o2, n2, c2, rfl, by push_cast; rfl, by have := HKJ.out; show _ ≤ _; omega, HSN, by have := HSK.out; show _ ≤ _; omega, by show _ = _; rw [HNS.out, HRG3.out], HRS, HB4⟩, by have := HKJ.out; simp [RowKit.intOf]; omega⟩
            · have hk' : ¬ ((k : Int) < (j : Int)) := by omega
              have hkk := HK.out
              obtain rfl : k = j := by omega
              have hd := HD.out
              rw [HNL2.out, ← HON.out, ← HNS.out] at hd
              have HD2 := Lib.hid hd
              clear hd hkk hk
              go_wp2
              go_ret2
              exact ⟨OL, S, o1, o2, n1, n2, c1, ⟨c2, rfl⟩, HOL.out.1, HSN.out, by have := HN1.out; have := HN.out; omega, by have := HSK.out; have := HN.out; omega, HD2.out.1, HD2.out.2, own_names_n (below_row HB4.out HRW.out) HOL.out.1, own_names_n HRS.out HSN.out, HB.out.trans ((HOM.out.below.trans (HB4.out.mono HOM.out.below.size)).mono HB.out.size), row_cap HRW.out⟩
        · obtain ⟨m, hm⟩ : ∃ m, H.length = m + 1 := ⟨H.length - 1, by omega⟩
          have HT := Lib.hid (takeP_any (WB + 1 + 1 + 1) (WB + 1 + 1) cap m H o' wr HH.out HOI.out.heap hm)
          rw [hm] at cR
          have hh' : (0 : Int) < ((m : Nat) : Int) + 1 := by omega
          clear hh hm
          go_wp2_with fail
          refine HT.out.mono ?_
          rintro e w3 ⟨rfl, R, o3, cap3, hI3, hh3, hp3, hmin, hT3, hw3⟩
          have HOI3 := Lib.hid (HOI.out.take HW.out hh3 hp3 hmin)
          have hxm : getH H 0 ∈ H := hp3.mem_iff.1 (List.mem_cons_self ..)
          obtain ⟨hx1, hx2, hx3⟩ := (HOI.out.mem _).1 hxm
          rw [HNL2.out] at hx1
          have hpx : pendW I od (getH H 0) = 0 := by
            have := HOI.out.wait (getH H 0) (by rw [HNL2.out]; exact hx1)
            rw [hx3] at this
            simp at this
            omega
          have HX2 := Lib.hid hx2
          have HPX := Lib.hid hpx
          have HXL := Lib.hid hx1
          have HFIN := Lib.hid HOI.out.fin
          have hrl := HH.out.row.lt
          have horl := HRW.out.lt
          have hS3 : ∀ k, hpS (WB + 1 + 1) o' H.length cap k → WB + 1 + 1 ≤ k ∧ k ≠ WB + 1 := fun k hk => by
            rcases hk with hk | hk
            · exact ⟨by omega, by omega⟩
            · have := (hrl k hk).1; exact ⟨by omega, by omega⟩
          have HOM3 := Lib.hid (HOM.out.turn hT3 (fun h => by have := hS3 _ h; omega) (fun h => (hS3 _ h).2 rfl) (fun k h => by have := (hS3 _ h).1; have := HWB.out; omega))
          have HRW3 := Lib.hid (hT3.row HRW.out fun k hk hS => by
            rcases hS with hS | hS
            · have := (horl k hk).1; omega
            · exact HAP.out k hk hS)
          have HAP3 : Hid (∀ k, (Value.slice o1 n1 c1).ownBlock = some k → (Value.slice o3 R.length cap3).ownBlock ≠ some k) := fun k hk h3 => by
            rcases hw3 k h3 with h4 | h4
            · exact HAP.out k hk h4
            · have := (horl k hk).2; omega
          have HSZ3 := Lib.hid (Nat.le_trans HSZW.out hT3.size)
          have HI3 := Lib.hid hI3
          clear hI3 hh3 hp3 hmin hT3 hw3 hxm hx1 hx2 hx3 hpx hrl horl hS3 HOM HH HOI HRW HAP HSZW HT cR fR
          generalize getH H 0 = x at *
          have HAN3 := Lib.hid (HAN.out.below HOM3.out.below)
          have HNM := Lib.hid (namedP_any N on oi ou j cn j j x j j w3 HAN3.out HNL.out HXL.out HSZ.out)
          obtain ⟨x0, x1, x2⟩ := cells3 HOM3.out.web
          go_wp2_with fail
          refine HNM.out.mono ?_
          rintro e w4 ⟨s, hs, rfl, hB⟩
          have hTB := Turn.of_below hB
          have HOM4 := Lib.hid (HOM3.out.turn hTB (by have := (Array.getElem?_eq_some_iff.1 HOM3.out.web).1; omega) (by have := (RowI.lt HOM3.out.wait).2; omega) (fun k hk => by have := HOM3.out.below.size; omega))
          have HI4 := Lib.hid (hTB.isHp HI3.out fun k hk hS => by
            rcases hk with hk | hk
            · have := HI3.out.cell.2.2; omega
            · have := (HI3.out.row.lt k hk).2; omega)
          have HRW4 := Lib.hid (below_row hB HRW3.out)
          have HSZ4 := Lib.hid (Nat.le_trans HSZ3.out hB.size)
          have HSE : Hid ((nms N).getD x [] = nm s) := by show _ = _; unfold nms; rw [List.getD_eq_getElem?_getD, List.getElem?_map, hs]; rfl
          have HN1B : Hid (n1 ≤ 1000) := by have := HN1.out; have := HN.out; show _ ≤ _; omega
          clear hB hs hTB HNM x0 x1 x2 HOM3 HI3 HRW3 HSZ3
          have hxU : x < U.length := by rw [HW.out.lu, HNL2.out]; exact HXL.out
          obtain ⟨gu, ou2, cu2, hou, hcu, hau⟩ := HAU.out x _ (ways_get hxU)
          subst hou
          have HCU := Lib.hid hcu
          have HAU2 := Lib.hid hau
          have hxj : ((x : Int) < (j : Int)) := by have := HXL.out; omega
          have hx0 : (0 : Int) ≤ (x : Int) := by omega
          clear hcu hau hxU
          go_wp2_with (refine wpList_append_one rfl _ _ 25 9 rfl (.string ⟨#[]⟩) (.string s) 16 Try.underlying25 info9s rfl (WB + 1 + 1 + 1) (.slice o1 n1 c1) n1 (sC OL) rfl HRW4.out rfl rfl HSZ4.out (by have := HN1B.out; omega) (by have := HN1B.out; unfold maxLen; omega) ?_; intro o5 c5 w5 hrow hT5 hwh; have HRW5 := Lib.hid hrow; have HT5 := Lib.hid hT5; have HWH := Lib.hid hwh; have HOM5 := Lib.hid (HOM4.out.turn hT5 (fun h => by have := (HRW4.out.lt _ h).1; omega) (fun h => by have := (HRW4.out.lt _ h).1; omega) (fun k h => by have := (HRW4.out.lt _ h).1; have := HWB.out; omega)); obtain ⟨z0, z1, z2⟩ := cells3 HOM5.out.web; have hq5 := (HOM5.out.below.cell (World.block_lt_of_cell? _ _ HCU.out)).trans HCU.out; clear hrow hT5 hwh)
          have HI5 := Lib.hid (HT5.out.isHp HI4.out fun k hk hS => by
            rcases hk with hk | hk
            · have := (HRW4.out.lt k hS).1; omega
            · exact HAP3.out k hS hk)
          have HAP5 : Hid (∀ k, (Value.slice o5 (n1 + 1) c5).ownBlock = some k → (Value.slice o3 R.length cap3).ownBlock ≠ some k) := fun k hk h3 => by
            rcases HWH.out k hk with h4 | h4
            · exact HAP3.out k h4 h3
            · have := (HI4.out.row.lt k h3).2; omega
          have HSZ5 := Lib.hid (Nat.le_trans HSZ4.out HT5.out.size)
          have HOL5 : Hid ((OL ++ [s]).length = n1 + 1 ∧ (od ++ [x]).length = n1 + 1) := by refine ⟨?_, ?_⟩; (rw [List.length_append, HOL.out.1]; rfl); (rw [List.length_append, HOL.out.2]; rfl)
          have HON5 : Hid (nms (OL ++ [s]) = (od ++ [x]).map fun i => (nms N).getD i []) := by show _ = _; rw [nms_app, HON.out, List.map_append, List.map_singleton, HSE.out]; rfl
          have HRW6 : Hid (w5.ownsRow (WB + 1 + 1 + 1) 9 1 (.slice o5 (n1 + 1) c5) (n1 + 1) (sC (OL ++ [s]))) := by
            have h := HRW5.out
            have e : sC (OL ++ [s]) = sC OL ++ [.string s] := by unfold sC; rw [List.map_append]; rfl
            show World.ownsRow _ _ _ _ _ _ _
            rw [e]
            exact h
          have HUL := Lib.hid (HFU.out x)
          have HLU := Lib.hid (fun k (hk : k < (waysAt U x).length) => List.drop_eq_getElem_cons hk)
          clear z0 z1 z2 hq5 hxj hx0 HOM4 HI4 HRW4 HSZ4 HRW5 HT5 HWH HAP3 HCU HAN3
          obtain ⟨w6, rfl⟩ : ∃ w6, w6 = w5 := ⟨w5, rfl⟩
          go_loopw [56] (fun v wr => ∃ (k : Nat) (Wt H : List Nat) (o' : Option Addr) (cap : Nat), v = .int .i64 (k : Int) ∧ Hid (k ≤ (waysAt U x).length) ∧ Hid (OrdM w1 wr WB (WB + 1) (WB + 1 + 1) j cn on oi (some ⟨gu, 0, none⟩) Wt) ∧ Hid (IsHp wr (WB + 1 + 1 + 1) (WB + 1 + 1) H o' cap) ∧
            Hid (OrdI (xs.map toNd) (nms N) I U (od ++ [x]) Wt H ((waysAt U x).drop k)) ∧ Hid (wr.ownsRow (WB + 1 + 1 + 1) 9 1 (.slice o5 (n1 + 1) c5) (n1 + 1) (sC (OL ++ [s]))) ∧ Hid (∀ k, (Value.slice o5 (n1 + 1) c5).ownBlock = some k → (Value.slice o' H.length cap).ownBlock ≠ some k) ∧ Hid (WB + 1 + 1 + 1 ≤ wr.heap.size)) (fun v _ => (waysAt U x).length - (RowKit.intOf v).toNat)
          case atStart => exact ⟨0, Wt, R, o3, cap3, rfl, Nat.zero_le _, HOM5, HI5, by rw [List.drop_zero]; exact HOI3, HRW6, HAP5, HSZ5⟩
          case round =>
            clear HOM5 HI5 HOI3 HRW6 HAP5 HSZ5
            obtain ⟨k, Wt, H, o', cap, rfl, HK, HOM, HH, HOI, HRW, HAP, HSZW⟩ := hrel
            by_cases hk : k < (waysAt U x).length
            · have hk' : ((k : Int) < (((waysAt U x).length : Nat) : Int)) := by omega
              have hk0 : (0 : Int) ≤ (k : Int) := by omega
              have hwk := IntWalk.i64_in ((k : Int) + 1) ⟨by omega, by have := HUL.out; omega⟩
              have hyg : (waysAt U x)[k]? = some (waysAt U x)[k] := List.getElem?_eq_getElem hk
              obtain ⟨g2, hg2, hcy⟩ := HAU2.out k _ hyg
              subst hg2
              have hqy := (HOM.out.below.cell (World.block_lt_of_cell? _ _ hcy)).trans hcy
              have hoi := HOI.out
              rw [HLU.out k hk] at hoi
              obtain ⟨hyl, hyp, hyn, hyz⟩ := hoi.user HW.out (List.mem_of_getElem? hyg) HX2.out HFIN.out HPX.out
              have hwy := hoi.wait _ hyl
              have hwl : getH Wt (waysAt U x)[k] ≤ 1001000 := by
                rw [hwy]
                have h1 := List.countP_le_length (p := fun v => !decide (v ∈ od ++ [x])) (l := waysAt I (waysAt U x)[k])
                have h2 := HFI.out (waysAt U x)[k]
                have h3 := List.count_le_length (a := (waysAt U x)[k]) (l := (waysAt U x)[k] :: (waysAt U x).drop (k + 1))
                have h4 := HUL.out
                rw [← HLU.out k hk, List.length_drop] at h3
                rw [← HLU.out k hk]
                unfold pendW
                omega
              rw [HNL2.out] at hyl
              have HKL := Lib.hid hk
              clear hoi hwy hyg hcy
              generalize (waysAt U x)[k] = y at *
              clear hk
              obtain ⟨q, hq⟩ : ∃ q, getH Wt y = q + 1 := ⟨getH Wt y - 1, by omega⟩
              have hy' : ((y : Int) < (j : Int)) := by omega
              have hy0 : (0 : Int) ≤ (y : Int) := by omega
              have cQ := HOM.out.wait.cell HOM.out.len hyl
              have fQ := World.ownsRow.frozenAt HOM.out.wait y
              rw [hq] at cQ hyn hyz hwl
              rw [Nat.add_sub_cancel] at hyn hyz
              have hwq := IntWalk.i64_in (q : Int) ⟨by omega, by omega⟩
              have HO2 := Lib.hid (HOM.out.set y q)
              have HH2 := Lib.hid (HO2.out.2.isHp HH.out fun k hk hkq => by
                subst hkq
                rcases hk with hk | hk
                · omega
                · have := (HH.out.row.lt _ hk).1; omega)
              have HRW2 := Lib.hid (HO2.out.2.row HRW.out fun k hk hkq => by have := (HRW.out.lt k hk).1; omega)
              have HSZ2 := Lib.hid (Nat.le_trans HSZW.out HO2.out.2.size)
              have HYN := Lib.hid hyn
              have HYZ := Lib.hid hyz
              clear hyn hyz hyp hq hwl hyl
              by_cases h0 : q = 0
              · have hyz := HYZ.out h0
                subst h0
                have HFW : Hid (H.length + 1 ≤ 100000) := by
                  have := few_below HOI.out.hnd (n := j) fun z hz => by have := ((HOI.out.mem z).1 hz).1; rw [HNL2.out] at this; exact this
                  have := HN.out
                  show _ ≤ _
                  omega
                have HA := Lib.hid (addP_any (WB + 1 + 1 + 1) (WB + 1 + 1) cap y H o' _ HH2.out HOI.out.heap HSZ2.out HFW.out)
                have HYZ2 := Lib.hid hyz
                clear hyz HYZ HYN
                go_wp2_with fail
                refine HA.out.mono ?_
                rintro e w7 ⟨rfl, H3, o7, cap7, hI3, hh3, hp3, hT3, hw3⟩
                have HOI7 := Lib.hid (HYZ2.out.2 H3 hh3 hp3)
                have HH7 := Lib.hid hI3
                have hrl := HH2.out.row.lt
                have hS3 : ∀ k, hpS (WB + 1 + 1) o' H.length cap k → WB + 1 + 1 ≤ k ∧ k ≠ WB + 1 := fun k hk => by
                  rcases hk with hk | hk
                  · exact ⟨by omega, by omega⟩
                  · have := (hrl k hk).1; exact ⟨by omega, by omega⟩
                have HOM7 := Lib.hid (HO2.out.1.turn hT3 (fun h => by have := hS3 _ h; omega) (fun h => (hS3 _ h).2 rfl) (fun k h => by have := (hS3 _ h).1; have := HWB.out; omega))
                have HRW7 := Lib.hid (hT3.row HRW2.out fun k hk hS => by
                  rcases hS with hS | hS
                  · have := (HRW2.out.lt k hk).1; omega
                  · exact HAP.out k hk hS)
                have HAP7 : Hid (∀ k, (Value.slice o5 (n1 + 1) c5).ownBlock = some k → (Value.slice o7 H3.length cap7).ownBlock ≠ some k) := fun k hk h3 => by
                  rcases hw3 k h3 with h4 | h4
                  · exact HAP.out k hk h4
                  · have := (HRW2.out.lt k hk).2; omega
                have HSZ7 := Lib.hid (Nat.le_trans HSZ2.out hT3.size)
                clear hI3 hh3 hp3 hT3 hw3 HA hrl hS3
                go_wp2
                case roundEnd => exact ⟨⟨k + 1, _, H3, o7, cap7, by push_cast; rfl, by have := HKL.out; show _ ≤ _; omega, HOM7, HH7, HOI7, HRW7, HAP7, HSZ7⟩, by have := HKL.out; simp [RowKit.intOf]; omega⟩
              · have h0' : ¬ ((q : Int) = 0) := by omega
                have HOI7 := Lib.hid (HYN.out h0)
                clear h0 HYZ HYN
                go_wp2
                case roundEnd => exact ⟨⟨k + 1, _, H, o', cap, by push_cast; rfl, by have := HKL.out; show _ ≤ _; omega, HO2.out.1, HH2, HOI7, HRW2, HAP, HSZ2⟩, by have := HKL.out; simp [RowKit.intOf]; omega⟩
            · have hk' : ¬ ((k : Int) < (((waysAt U x).length : Nat) : Int)) := by omega
              have hoi := HOI.out
              rw [List.drop_of_length_le (by omega)] at hoi
              have HOI7 := Lib.hid hoi
              have HN6 : Hid (n1 < j) := by
                have := few_below HOI.out.nd (n := j) fun z hz => by have := HOI.out.lt z hz; rw [HNL2.out] at this; exact this
                rw [HOL5.out.2] at this
                show _ < _
                omega
              clear hoi hk
              go_wp2
              case roundEnd => exact ⟨⟨od ++ [x], Wt, H, OL ++ [s], o', o5, cap, n1 + 1, c5, rfl, HOL5, HON5, HOM, HH, HOI7, HRW, HAP, HSZW⟩, by have := HN6.out; simp [lenV]; omega⟩

end Go.Proofs.Ytgnhcaepkgbieaa
