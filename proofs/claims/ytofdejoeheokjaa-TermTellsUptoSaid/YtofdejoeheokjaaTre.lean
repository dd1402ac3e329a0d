/-
  The document's Params. Condition: at most a thousand parts.
-/
import Derived.Test.YtofdejoeheokjaaTrd
namespace Go.Proofs.Ytofdejoeheokjaa.ref
open Go.RowKit
open Go.Lib hiding intOf

theorem wpList_app {ops : Array Oper} {rest : List Oper} {op : Oper} {a : Act} {w : World} {Q : Exit → Act → World → Prop} (hgd : op.guard = none) (s x : Operand)
    (hop : op.op = .call { callee := .builtin .append, args := #[s, x], argTypes := #[28, 28] }) (B : Nat) (v : Value) (n : Nat) (L : List Int) (hs : a.eval s = v) (h : RowI B L n v w) (o : Option Addr) (m c : Nat) (M : List Int) (hx : a.eval x = .slice o m c) (hM : M.length = m) (hz : IsZ w o M) (ho : o = none → c = 0) (hn : n + m ≤ 100000)
    (hK : ∀ v' w', AppR B (L ++ M) (n + m) v w v' w' → wpList Try.prog ops Q rest (a.put op.dst v') w') : wpList Try.prog ops Q (op :: rest) a w := by
  refine wpList_plain hgd fun K hK' => ?_
  obtain ⟨v', w', hrun, r⟩ := run_app w B v n L h o m c M hM hz ho hn op.type
  unfold Oper.wp
  simp [execOp, hop, resolve, invoke, builtin, hs, hx, hrun, Result.andThen]
  exact hK' _ _ (hK v' w' r)
theorem hasYs_app (k : Int) : ∀ (a b : List GY), hasYs k (a ++ b) ↔ hasYs k a ∨ hasYs k b
  | [], b => by
    have e0 : hasYs k [] ↔ False := by unfold hasYs; exact Iff.rfl
    rw [List.nil_append, e0, false_or]
  | y :: r, b => by
    rw [List.cons_append]
    have e1 : hasYs k (y :: (r ++ b)) ↔ hasY k y ∨ hasYs k (r ++ b) := by conv => lhs; unfold hasYs
    have e2 : hasYs k (y :: r) ↔ hasY k y ∨ hasYs k r := by conv => lhs; unfold hasYs
    rw [e1, e2, hasYs_app k r b, or_assoc]
theorem hasYs_one (k : Int) (y : GY) : hasYs k [y] ↔ hasY k y := by
  unfold hasYs
  unfold hasYs
  simp
theorem cntYs_app : ∀ (a b : List GY), cntYs (a ++ b) = cntYs a + cntYs b
  | [], b => by rw [List.nil_append, cntYs]; omega
  | y :: r, b => by rw [List.cons_append, cntYs, cntYs, cntYs_app r b]; omega
theorem cntYs_take : ∀ (l : List GY) (j : Nat), cntYs (l.take j) ≤ cntYs l
  | l, j => by
    have h := cntYs_app (l.take j) (l.drop j)
    rw [List.take_append_drop] at h
    omega
theorem cntYs_len : ∀ (l : List GY), l.length ≤ cntYs l
  | [] => Nat.zero_le _
  | y :: r => by
    have := cntYs_len r
    obtain ⟨k, p, m, n, a⟩ := y
    rw [cntYs, cntY, List.length_cons]
    omega

/-- What Params leaves. -/
structure ParR (w : World) (t : GY) (e : Ending) (w' : World) : Prop where
  is : ∃ (M : List Int) (o : Option Addr) (n c : Nat), e = .returned (.slice o n c) ∧ IsR w' M o n c ∧ n ≤ cntY t ∧ ParIs t M
  below : Below w.heap.size w w'
/-- A list on the way. -/
structure On (W : World) (P : Int → Prop) (q : Nat) (o : Option Addr) (n c : Nat) : Prop where
  ex : ∃ M : List Int, IsR W M o n c ∧ n ≤ q ∧ M.Pairwise (· < ·) ∧ ∀ x, x ∈ M ↔ P x
theorem On.below {w w' : World} {P : Int → Prop} {q : Nat} {o : Option Addr} {n c : Nat} (h : On w P q o n c) (hb : Below w.heap.size w w') : On w' P q o n c := by
  obtain ⟨M, h1, h2⟩ := h.ex
  exact ⟨M, h1.below hb, h2⟩
theorem On.to {w : World} {P P' : Int → Prop} {q q' : Nat} {o : Option Addr} {n c : Nat} (h : On w P q o n c) (hP : ∀ x, P x ↔ P' x) (hq : q ≤ q') : On w P' q' o n c := by
  obtain ⟨M, h1, h2, h3, h4⟩ := h.ex
  exact ⟨M, h1, Nat.le_trans h2 hq, h3, fun x => (h4 x).trans (hP x)⟩
theorem On.nil (w : World) : On w (fun _ => False) 0 none 0 0 := ⟨[], ⟨rfl, Nat.le_refl _, Nat.zero_le _, fun _ => rfl, fun i x hx => by simp at hx⟩, Nat.le_refl _, List.Pairwise.nil, fun x => by simp⟩
theorem with_on {w : World} {P : Int → Prop} {q : Nat} {o : Option Addr} {n c : Nat} (h : On w P q o n c) (hq : q ≤ 1000) (x : Int) :
    Calls Try.prog 31 #[.slice o n c, .int .i64 x] w fun e w' => ∃ (o' : Option Addr) (n' c' : Nat), e = .returned (.slice o' n' c') ∧ On w' (fun y => P y ∨ y = x) (q + 1) o' n' c' ∧ Below w.heap.size w w' := by
  obtain ⟨M, h1, h2, h3, h4⟩ := h.ex
  refine (withR_any M x o n c w h3 (by omega) h1).mono ?_
  rintro e w' ⟨M', o', n', c', rfl, g1, g2, g3, g4, g5⟩
  exact ⟨o', n', c', rfl, ⟨M', g1, by omega, g3, fun y => by rw [g4 y, h4 y]⟩, g5⟩

set_option maxRecDepth 100000 in
set_option maxHeartbeats 8000000 in
theorem paramsR_any : ∀ (s : Nat) (t : GY) (v : Value) (w : World), SizeOf.sizeOf t < s → cntY t ≤ 1000 → IsY w t v → Calls Try.prog 14 #[v] w (ParR w t) := by
  intro s
  induction s with
  | zero => intro t v w h; omega
  | succ s ih =>
  rintro ⟨k, p, m, num, l⟩ v w hs hcnt hv
  obtain ⟨o, c, rfl, hl, hc, ha⟩ := hv.parts
  obtain ⟨N, hN⟩ : ∃ N, l.length = N := ⟨_, rfl⟩
  have hNm : N ≤ 1000 := by have := cntYs_len l; rw [cntY] at hcnt; omega
  have hcs : 1 + cntYs l ≤ 1000 := by rw [cntY] at hcnt; exact hcnt
  obtain ⟨W1, hW1, hb1⟩ := made w #[.int .i64 k, .string p, .string m, .int .i64 num, .slice o l.length c]
  rw [hN] at hW1 hb1 ⊢
  have HB := Lib.hid hb1
  have HW1 := Lib.hid hW1
  have HA := Lib.hid ha
  have HN := Lib.hid hN
  have HNM := Lib.hid hNm
  have HCS := Lib.hid hcs
  have HI : Hid (∀ y ∈ l, ∀ (v : Value) (W : World), IsY W y v → Calls Try.prog 14 #[v] W (ParR W y)) := fun y hy v W hv => ih y v W (by have := List.sizeOf_lt_of_mem hy; simp at hs; omega) (by
    obtain ⟨a, b, e⟩ := List.append_of_mem hy
    have h := cntYs_app a (y :: b)
    rw [← e] at h
    rw [cntYs] at h
    omega) hv
  have q0 := hb1.b0.cell 0
  have q3 := hb1.b0.cell 3
  simp only [List.getElem?_toArray, List.getElem?_cons_succ, List.getElem?_cons_zero] at q0 q3
  clear hW1 hb1 hv ha ih hs hl hc hcnt hN hNm hcs
  go_enter Try.func14, Try.ntmps14
  go_upto_region 1 with fail
  change Code.wp Try.prog _ _ _ (w.alloc (.cells _ 25))
  rw [HW1.out]
  clear HW1
  by_cases h6 : k = 6
  · subst h6
    have HO := Lib.hid (one_z W1 num)
    have HB1 := Lib.hid (HB.out.step ((Below.refl W1.heap.size W1).alloc (Nat.le_refl _) (.cells #[.int .i64 num] 3)))
    have HR0 : Hid (RowI W1.heap.size [] 0 (.slice none 0 0) (W1.alloc (.cells #[.int .i64 num] 3))) := ⟨World.ownsRow_nil _ _ _ _, by simp⟩
    go_wp2_with (first
      | (at_builtin; refine wpList_app rfl _ _ rfl W1.heap.size (.slice none 0 0) 0 [] rfl HR0.out (some ⟨W1.heap.size, 0, none⟩) 1 1 [num] rfl rfl HO.out (fun e => by cases e) (by decide) ?_; intro v3 w3 hR; obtain ⟨o7, c7, rfl, h7⟩ := hR.row.isZ rfl; have H7 := Lib.hid h7; have hbb : Below W1.heap.size W1 w3 := ((Below.refl _ _).alloc (Nat.le_refl _) _).trans hR.below; have HB7 := Lib.hid (HB.out.step hbb); clear hR h7 hbb q0 q3))
    clear HB HB1 HR0 HO
    have HST : Hid (On w3 (fun x => x = num ∨ hasYs x []) (1 + cntYs []) o7 1 c7) := ⟨[num], H7.out, by decide, by simp, fun x => by unfold hasYs; simp⟩
    go_loopw [3, 4] (fun v i wr => ∃ (o3 : Option Addr) (n3 c3 j : Nat), v = .slice o3 n3 c3 ∧ i = .int .i64 (j : Nat) ∧ Hid (j ≤ N) ∧ Hid (Bx w wr #[.int .i64 6, .string p, .string m, .int .i64 num, .slice o N c]) ∧ Hid (On wr (fun x => x = num ∨ hasYs x (l.take j)) (1 + cntYs (l.take j)) o3 n3 c3)) (fun _ i _ => N - (RowKit.intOf i).toNat)
    case atStart => exact ⟨o7, 1, c7, 0, rfl, rfl, Nat.zero_le _, HB7, by rw [List.take_zero]; exact HST.out⟩
    case round =>
      obtain ⟨o3, n3, c3, j, rfl, rfl, HJ, HBR, HON⟩ := hrel
      have q4 := HBR.out.b0.cell 4
      simp only [List.getElem?_toArray, List.getElem?_cons_succ, List.getElem?_cons_zero] at q4
      by_cases hj : j < N
      · have hj' : ((j : Int) < (N : Int)) := by omega
        have hj0 : (0 : Int) ≤ (j : Int) := by omega
        have hwj := IntWalk.i64_in ((j : Int) + 1) ⟨by omega, by have := HNM.out; omega⟩
        obtain ⟨y, hy⟩ : ∃ y, l[j]? = some y := ⟨_, List.getElem?_eq_getElem (by rw [HN.out]; exact hj)⟩
        have hmem := List.mem_of_getElem? hy
        obtain ⟨a, d0, d1, d2, d3, d4, rfl, hcx, hyx⟩ := HA.out.at_ j hy
        rw [Nat.zero_add] at hcx
        have hwr := HBR.out.below
        have HC : Hid (∀ (i : Nat) (v : Value), [d0, d1, d2, d3, d4][i]? = some v → wr.cell? ((a.add (j * 5)).add i) = some v) := fun i v h => (hwr.cell (World.block_lt_of_cell? _ _ (hcx i v h))).trans (hcx i v h)
        have HF := Lib.hid (HI.out y hmem _ wr (hyx.below hwr))
        have HT : Hid (l.take (j + 1) = l.take j ++ [y]) := by show _ = _; rw [List.take_add_one, hy]; rfl
        have HCT : Hid (1 + cntYs (l.take j) + cntY y ≤ 1000) := by
          have h1 := cntYs_take l (j + 1)
          rw [HT.out, cntYs_app, cntYs, cntYs] at h1
          have := HCS.out
          show _ ≤ _
          omega
        have HJN := Lib.hid hj
        clear hcx hyx hwr hy hmem hj
        go_wp2_with (first
          | (refine boxLoadG 25 5 size5 Try.underlying25 rfl _ rfl _ rfl (cs := [d0, d1, d2, d3, d4]) HC.out rfl ?_)
          | (go_at_call 14; (refine HF.out.mono ?_); rintro e w2 ⟨⟨L5, o5, n5, c5, rfl, hL5, hn5, hp5⟩, hb⟩; have HB2 := Lib.hid (HBR.out.step hb); have HON2 := Lib.hid (HON.out.below hb); have HR5 := Lib.hid hL5; have HN5 := Lib.hid hn5; have HP5 := Lib.hid hp5; clear hb hL5 hn5 hp5 q4))
        clear HF HC
        go_loopw [3, 6] (fun v i wr => ∃ (o4 : Option Addr) (n4 c4 i2 : Nat), v = .slice o4 n4 c4 ∧ i = .int .i64 (i2 : Nat) ∧ Hid (i2 ≤ n5) ∧ Hid (Bx w wr #[.int .i64 6, .string p, .string m, .int .i64 num, .slice (some a) N c]) ∧ Hid (IsR wr L5 o5 n5 c5) ∧ Hid (On wr (fun x => (x = num ∨ hasYs x (l.take j)) ∨ x ∈ L5.take i2) (1 + cntYs (l.take j) + i2) o4 n4 c4)) (fun _ i _ => n5 - (RowKit.intOf i).toNat)
        case atStart => exact ⟨o3, n3, c3, 0, rfl, rfl, Nat.zero_le _, HB2, HR5, HON2.out.to (fun x => by rw [List.take_zero]; simp) (Nat.le_refl _)⟩
        case round =>
          obtain ⟨o4, n4, c4, i2, rfl, rfl, HI2, HB4, HR4, HON4⟩ := hrel
          clear HB2 HON2 HR5
          by_cases hi : i2 < n5
          · have hi' : ((i2 : Int) < (n5 : Int)) := by omega
            have hi0 : (0 : Int) ≤ (i2 : Int) := by omega
            have hwi := IntWalk.i64_in ((i2 : Int) + 1) ⟨by omega, by have := HN5.out; have := HCT.out; omega⟩
            obtain ⟨x, hx⟩ : ∃ x, L5[i2]? = some x := ⟨_, List.getElem?_eq_getElem (by rw [HR4.out.len]; exact hi)⟩
            obtain ⟨a5, rfl, hcx⟩ := HR4.out.is i2 x hx
            have HT5 : Hid (L5.take (i2 + 1) = L5.take i2 ++ [x]) := by show _ = _; rw [List.take_add_one, hx]; rfl
            have HIN := Lib.hid hi
            have HWI := Lib.hid (with_on HON4.out (by have := HN5.out; have := HCT.out; omega) x)
            clear hx hi
            go_wp2_with (first
              | (go_at_call 31; (refine HWI.out.mono ?_); rintro e w5 ⟨o6, n6, c6, rfl, hon, hb⟩; have HB6 := Lib.hid (HB4.out.step hb); have HR6 := Lib.hid (HR4.out.below hb); have HON6 := Lib.hid hon; clear hb hon hcx))
            case roundEnd => exact ⟨⟨o6, n6, c6, i2 + 1, rfl, by push_cast; rfl, HIN.out, HB6, HR6, HON6.out.to (fun z => by rw [HT5.out, List.mem_append, List.mem_singleton]; exact or_assoc) (by omega)⟩, by have := HIN.out; simp [RowKit.intOf]; omega⟩
          · have hi' : ¬ ((i2 : Int) < (n5 : Int)) := by omega
            have HIE : Hid (i2 = n5) := by have := HI2.out; show _ = _; omega
            clear hi
            go_wp2
            case roundEnd => exact ⟨⟨o4, n4, c4, j + 1, rfl, by push_cast; rfl, HJN.out, HB4, HON4.out.to (fun z => by
              have e5 : L5.take i2 = L5 := List.take_of_length_le (by rw [HR4.out.len, HIE.out]; exact Nat.le_refl _)
              rw [e5, HP5.out.is z, HT.out, hasYs_app, hasYs_one, or_assoc]) (by rw [HT.out, cntYs_app, cntYs, cntYs]; have := HN5.out; have := HIE.out; omega)⟩, by have := HJN.out; simp [RowKit.intOf]; omega⟩
      · have hj' : ¬ ((j : Int) < (N : Int)) := by omega
        have hje : j = N := by have := HJ.out; omega
        have hful : l.take j = l := List.take_of_length_le (by rw [HN.out]; omega)
        have hon := HON.out
        rw [hful] at hon
        have HONF := Lib.hid hon
        clear hon hful hje hj
        go_wp2
        go_ret
        obtain ⟨M, g1, g2, g3, g4⟩ := HONF.out.ex
        exact ⟨⟨M, _, _, _, rfl, g1, by rw [cntY]; exact g2, g3, fun x => by rw [g4 x]; unfold hasY; exact or_congr ⟨fun h => ⟨rfl, h.symm⟩, fun h => h.2.symm⟩ Iff.rfl⟩, HBR.out.below⟩
  · have g6 : (k == 6) = false := beq_eq_false_iff_ne.2 h6
    have H6 := Lib.hid h6
    go_wp2
    clear q0 q3 g6 h6
    have HST : Hid (On W1 (fun x => False ∨ hasYs x []) (1 + cntYs []) none 0 0) := (On.nil W1).to (fun x => by unfold hasYs; simp) (Nat.zero_le _)
    go_loopw [3, 4] (fun v i wr => ∃ (o3 : Option Addr) (n3 c3 j : Nat), v = .slice o3 n3 c3 ∧ i = .int .i64 (j : Nat) ∧ Hid (j ≤ N) ∧ Hid (Bx w wr #[.int .i64 k, .string p, .string m, .int .i64 num, .slice o N c]) ∧ Hid (On wr (fun x => False ∨ hasYs x (l.take j)) (1 + cntYs (l.take j)) o3 n3 c3)) (fun _ i _ => N - (RowKit.intOf i).toNat)
    case atStart => exact ⟨none, 0, 0, 0, rfl, rfl, Nat.zero_le _, HB, by rw [List.take_zero]; exact HST.out⟩
    case round =>
      obtain ⟨o3, n3, c3, j, rfl, rfl, HJ, HBR, HON⟩ := hrel
      have q4 := HBR.out.b0.cell 4
      simp only [List.getElem?_toArray, List.getElem?_cons_succ, List.getElem?_cons_zero] at q4
      by_cases hj : j < N
      · have hj' : ((j : Int) < (N : Int)) := by omega
        have hj0 : (0 : Int) ≤ (j : Int) := by omega
        have hwj := IntWalk.i64_in ((j : Int) + 1) ⟨by omega, by have := HNM.out; omega⟩
        obtain ⟨y, hy⟩ : ∃ y, l[j]? = some y := ⟨_, List.getElem?_eq_getElem (by rw [HN.out]; exact hj)⟩
        have hmem := List.mem_of_getElem? hy
        obtain ⟨a, d0, d1, d2, d3, d4, rfl, hcx, hyx⟩ := HA.out.at_ j hy
        rw [Nat.zero_add] at hcx
        have hwr := HBR.out.below
        have HC : Hid (∀ (i : Nat) (v : Value), [d0, d1, d2, d3, d4][i]? = some v → wr.cell? ((a.add (j * 5)).add i) = some v) := fun i v h => (hwr.cell (World.block_lt_of_cell? _ _ (hcx i v h))).trans (hcx i v h)
        have HF := Lib.hid (HI.out y hmem _ wr (hyx.below hwr))
        have HT : Hid (l.take (j + 1) = l.take j ++ [y]) := by show _ = _; rw [List.take_add_one, hy]; rfl
        have HCT : Hid (1 + cntYs (l.take j) + cntY y ≤ 1000) := by
          have h1 := cntYs_take l (j + 1)
          rw [HT.out, cntYs_app, cntYs, cntYs] at h1
          have := HCS.out
          show _ ≤ _
          omega
        have HJN := Lib.hid hj
        clear hcx hyx hwr hy hmem hj
        go_wp2_with (first
          | (refine boxLoadG 25 5 size5 Try.underlying25 rfl _ rfl _ rfl (cs := [d0, d1, d2, d3, d4]) HC.out rfl ?_)
          | (go_at_call 14; (refine HF.out.mono ?_); rintro e w2 ⟨⟨L5, o5, n5, c5, rfl, hL5, hn5, hp5⟩, hb⟩; have HB2 := Lib.hid (HBR.out.step hb); have HON2 := Lib.hid (HON.out.below hb); have HR5 := Lib.hid hL5; have HN5 := Lib.hid hn5; have HP5 := Lib.hid hp5; clear hb hL5 hn5 hp5 q4))
        clear HF HC
        go_loopw [3, 6] (fun v i wr => ∃ (o4 : Option Addr) (n4 c4 i2 : Nat), v = .slice o4 n4 c4 ∧ i = .int .i64 (i2 : Nat) ∧ Hid (i2 ≤ n5) ∧ Hid (Bx w wr #[.int .i64 k, .string p, .string m, .int .i64 num, .slice (some a) N c]) ∧ Hid (IsR wr L5 o5 n5 c5) ∧ Hid (On wr (fun x => (False ∨ hasYs x (l.take j)) ∨ x ∈ L5.take i2) (1 + cntYs (l.take j) + i2) o4 n4 c4)) (fun _ i _ => n5 - (RowKit.intOf i).toNat)
        case atStart => exact ⟨o3, n3, c3, 0, rfl, rfl, Nat.zero_le _, HB2, HR5, HON2.out.to (fun x => by rw [List.take_zero]; simp) (Nat.le_refl _)⟩
        case round =>
          obtain ⟨o4, n4, c4, i2, rfl, rfl, HI2, HB4, HR4, HON4⟩ := hrel
          clear HB2 HON2 HR5
          by_cases hi : i2 < n5
          · have hi' : ((i2 : Int) < (n5 : Int)) := by omega
            have hi0 : (0 : Int) ≤ (i2 : Int) := by omega
            have hwi := IntWalk.i64_in ((i2 : Int) + 1) ⟨by omega, by have := HN5.out; have := HCT.out; omega⟩
            obtain ⟨x, hx⟩ : ∃ x, L5[i2]? = some x := ⟨_, List.getElem?_eq_getElem (by rw [HR4.out.len]; exact hi)⟩
            obtain ⟨a5, rfl, hcx⟩ := HR4.out.is i2 x hx
            have HT5 : Hid (L5.take (i2 + 1) = L5.take i2 ++ [x]) := by show _ = _; rw [List.take_add_one, hx]; rfl
            have HIN := Lib.hid hi
            have HWI := Lib.hid (with_on HON4.out (by have := HN5.out; have := HCT.out; omega) x)
            clear hx hi
            go_wp2_with (first
              | (go_at_call 31; (refine HWI.out.mono ?_); rintro e w5 ⟨o6, n6, c6, rfl, hon, hb⟩; have HB6 := Lib.hid (HB4.out.step hb); have HR6 := Lib.hid (HR4.out.below hb); have HON6 := Lib.hid hon; clear hb hon hcx))
            case roundEnd => exact ⟨⟨o6, n6, c6, i2 + 1, rfl, by push_cast; rfl, HIN.out, HB6, HR6, HON6.out.to (fun z => by rw [HT5.out, List.mem_append, List.mem_singleton]; exact or_assoc) (by omega)⟩, by have := HIN.out; simp [RowKit.intOf]; omega⟩
          · have hi' : ¬ ((i2 : Int) < (n5 : Int)) := by omega
            have HIE : Hid (i2 = n5) := by have := HI2.out; show _ = _; omega
            clear hi
            go_wp2
            case roundEnd => exact ⟨⟨o4, n4, c4, j + 1, rfl, by push_cast; rfl, HJN.out, HB4, HON4.out.to (fun z => by
              have e5 : L5.take i2 = L5 := List.take_of_length_le (by rw [HR4.out.len, HIE.out]; exact Nat.le_refl _)
              rw [e5, HP5.out.is z, HT.out, hasYs_app, hasYs_one, or_assoc]) (by rw [HT.out, cntYs_app, cntYs, cntYs]; have := HN5.out; have := HIE.out; omega)⟩, by have := HJN.out; simp [RowKit.intOf]; omega⟩
      · have hj' : ¬ ((j : Int) < (N : Int)) := by omega
        have hje : j = N := by have := HJ.out; omega
        have hful : l.take j = l := List.take_of_length_le (by rw [HN.out]; omega)
        have hon := HON.out
        rw [hful] at hon
        have HONF := Lib.hid hon
        clear hon hful hje hj
        go_wp2
        go_ret
        obtain ⟨M, g1, g2, g3, g4⟩ := HONF.out.ex
        exact ⟨⟨M, _, _, _, rfl, g1, by rw [cntY]; exact g2, g3, fun x => by rw [g4 x]; unfold hasY; exact or_congr ⟨fun h => h.elim, fun h => absurd h.1 H6.out⟩ Iff.rfl⟩, HBR.out.below⟩

end Go.Proofs.Ytofdejoeheokjaa.ref
