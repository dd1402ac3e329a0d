/-
  A type's parts, one by one: the iterator's walk. Condition: at most a thousand parts.
-/
import Derived.Test.YtofdejoeheokjaaTpa
namespace Go.Proofs.Ytofdejoeheokjaa
open Go.RowKit Go.Shelf
open Go.Lib hiding intOf

attribute [local go_sem] Oper.semAt_some

theorem fresh_row (W : World) (B : Nat) (hB : B ≤ W.heap.size) (e : TypeId) (v : Value) : (W.alloc (.cells #[v] e)).ownsRow B e 1 (.slice (some ⟨W.heap.size, 0, none⟩) 1 1) 1 [v] :=
  ⟨rfl, .inr ⟨W.heap.size, 1, #[v], rfl, hB, World.alloc_heap_new W _, Nat.le_refl _, by decide, rfl, rfl⟩⟩

theorem row_val {W : World} {B : Nat} {e : TypeId} {v : Value} {n : Nat} {xs : List Value} (h : W.ownsRow B e 1 v n xs) : ∃ o c, v = .slice o n c := by
  rcases h.2 with ⟨h1, h2⟩ | ⟨g, cap, cur, h1, _⟩
  · exact ⟨none, 0, by rw [h1, h2]⟩
  · exact ⟨_, cap, h1⟩
/-- An append leaves all but the row. -/
theorem ki_moves {W W' : World} {B n k : Nat} {v : Value} {xs : List Value} (h : W.grownBy W' none ∨ ∃ g cap cur, v = .slice (some ⟨g, 0, none⟩) n cap ∧ W.grownBy W' (some g) ∧ Blk W g TS cur ∧ cur.size = cap * 1 ∧ n + k ≤ cap) (hrow : W.ownsRow B TS 1 v n xs) : KI B W W' := by
  rcases h with h | ⟨g, cap, cur, rfl, h, hb, _⟩
  · exact (Turn.of_grown h).mono fun k _ hk => by cases hk
  · exact (Turn.of_grown h).mono fun k _ hk => by
      obtain rfl : k = g := by injection hk
      exact ⟨(hrow.lt k rfl).1, _, _, hb⟩

set_option maxRecDepth 100000 in
set_option maxHeartbeats 8000000 in
theorem parts1_in (n : Nat) (hn : 1 ≤ n) (l bx : Nat) (w0 : World) (t : GY) (hcnt : cntY t ≤ 1000) (c0 c1 c2 c3 c4 : Value) (ht : IsY w0 t (.agg #[c0, c1, c2, c3, c4])) (J Jx : List GY → World → Prop)
    (hJ : ∀ pre W W', J pre W → KI w0.heap.size W W' → J pre W') (hJB : ∀ pre W, J pre W → Below w0.heap.size w0 W)
    (hY : ∀ pre x v W, J pre W → IsY w0 x v → pre ++ [x] <+: preY t → YieldAt Fence.wide (n - 1) Try.prog l #[v] W fun e W' =>
      (e = .returned (.bool true) ∧ J (pre ++ [x]) W' ∧ KB w0.heap.size W W') ∨ (e = .returned (.bool false) ∧ Jx (pre ++ [x]) W'))
    (W : World) (hT : Blk W bx TT #[c0, c1, c2, c3, c4]) (h0 : J [] W) :
    CallsIn Fence.wide n Try.prog 45 #[.func (.yield l) #[] #[], .pointer (some ⟨bx, 0, none⟩)] W fun e W' => (∃ v, e = .returned v) ∧ (J (preY t) W' ∨ ∃ pre, pre <+: preY t ∧ Jx pre W') := by
  refine callsIn_of_wp Try.func45 rfl trivial ?_ rfl
  simp only [Try.ntmps45, List.size_toArray, List.length_cons, List.length_nil, Nat.reduceAdd, Nat.reduceSub, Array.replicate_succ, Array.replicate_zero, List.push_toArray, List.append_toArray, List.nil_append, List.cons_append]
  have HY := Lib.hid hY
  have HJ := Lib.hid hJ
  have HJB := Lib.hid hJB
  have HT := Lib.hid ht
  have HC := Lib.hid hcnt
  have HBX : Hid (∀ (j : Nat) (v : Value), [c0, c1, c2, c3, c4][j]? = some v → W.cell? ((⟨bx, 0, none⟩ : Addr).add j) = some v) := fun j v h => by
    have e : (⟨bx, 0, none⟩ : Addr).add j = ⟨bx, j, none⟩ := by unfold Addr.add; split <;> simp_all
    rw [e, hT.cell]
    simpa using h
  have HB0 := Lib.hid (hJB _ _ h0).size
  obtain ⟨W1, hW1⟩ : ∃ W1, (W.alloc (.cells #[c0, c1, c2, c3, c4] 25)).alloc (.cells #[.slice (some ⟨W.heap.size, 0, none⟩) 1 1] 23) = W1 := ⟨_, rfl⟩
  have hKI : KI w0.heap.size W W1 := by rw [← hW1]; exact ((Turn.refl _ W).alloc _).alloc _
  have hS1 : Stk w0 W1 w0.heap.size (some ⟨W.heap.size + 1, 0, none⟩) 1 1 [([t], some ⟨W.heap.size, 0, none⟩, 1)] := by
    refine ⟨?_, rfl, fun e he => ?_⟩
    · rw [← hW1]
      have := fresh_row (W.alloc (.cells #[c0, c1, c2, c3, c4] 25)) w0.heap.size (by rw [World.size_alloc]; have := HB0.out; omega) TS (.slice (some ⟨W.heap.size, 0, none⟩) 1 1)
      rw [World.size_alloc] at this
      exact this
    · rw [List.mem_singleton.1 he]
      have hb : Blk W1 W.heap.size TT #[c0, c1, c2, c3, c4] := by rw [← hW1]; exact (Blk.new W _ _).kept (World.grownBy_alloc _ _ none) (by simp)
      refine ⟨Nat.le_refl _, by show 1 ≤ maxLen; decide, fun i y hy => ?_⟩
      have hi : i = 0 := by have := (List.getElem?_eq_some_iff.1 hy).1; simpa using this
      subst hi
      obtain rfl : t = y := by simpa using hy
      refine ⟨⟨W.heap.size, 0, none⟩, c0, c1, c2, c3, c4, rfl, .inr ⟨_, _, hb⟩, fun j v h => ?_, ht⟩
      have e : ((⟨W.heap.size, 0, none⟩ : Addr).add (0 * 5)).add j = ⟨W.heap.size, j, none⟩ := by unfold Addr.add; split <;> split <;> simp_all
      rw [e, hb.cell]
      simpa using h
  have H0 := Lib.hid (hJ _ _ _ h0 hKI)
  have HS1 := Lib.hid hS1
  have HW1 := Lib.hid hW1
  clear hY hJ hJB ht hcnt hT h0 hW1 hKI hS1
  gi_wp2_with (refine boxLoadIn 25 5 size5 Try.underlying25 rfl _ rfl ⟨bx, 0, none⟩ rfl HBX.out rfl ?_)
  change Code.wpIn Fence.wide n Try.prog _ _ _ ((W.alloc (.cells #[c0, c1, c2, c3, c4] 25)).alloc (.cells #[.slice (some ⟨W.heap.size, 0, none⟩) 1 1] 23))
  rw [HW1.out]
  clear HW1 HBX HB0
  gi_loopg [3] 3000 (fun gg a wr => ∃ (pre : List GY) (S : List Ent) (o : Option Addr) (m c : Nat), a = .slice o m c ∧ Hid (pre ++ remS S = preY t) ∧ Hid (J pre wr) ∧ Hid (Stk w0 wr w0.heap.size o m c S) ∧ Hid (m ≤ pre.length + 1) ∧ Hid (2 * (remS S).length + m ≤ gg))
  case atStart =>
    refine ⟨[], [([t], some ⟨W.heap.size, 0, none⟩, 1)], _, 1, 1, rfl, ?_, H0, HS1, by show _ ≤ _; simp, ?_⟩
    · show _ = _
      simp only [remS, preYs, List.append_nil, List.nil_append]
    · show _ ≤ _
      simp only [remS, preYs, List.append_nil]
      rw [pre_len]
      have := HC.out
      omega
  case round =>
    obtain ⟨pre, S, o, m, c, rfl, HP, HJP, HS, HM, HG⟩ := hrel
    clear H0 HS1
    have HPL : Hid (pre.length ≤ 1000) := by
      have h1 := congrArg List.length HP.out
      rw [List.length_append, pre_len] at h1
      have := HC.out
      show _ ≤ _
      omega
    cases S with
    | nil =>
      obtain rfl : 0 = m := HS.out.len
      have hp := HP.out
      simp only [remS, List.append_nil] at hp
      have HPP := Lib.hid hp
      clear hp
      gi_wp2
      go_end0
      exact ⟨⟨_, rfl⟩, .inl (HPP.out ▸ HJP.out)⟩
    | cons e S =>
      obtain ⟨m, rfl⟩ : ∃ m', m = m' + 1 := ⟨m - 1, by have := HS.out.len; simp at this; omega⟩
      obtain ⟨g, rfl, hgB, hmc, hcm, hgt⟩ := HS.out.some_ (Nat.succ_pos m)
      obtain ⟨hct, hft⟩ := HS.out.top
      have hm3 : m ≤ 2000 := by have := HM.out; have := HPL.out; omega
      have hmc' : (m : Int) ≤ (c : Int) := by omega
      obtain ⟨l', o', c'⟩ := e
      have hent := HS.out.ents _ (List.mem_cons_self ..)
      have HE := Lib.hid hent
      have hle := HE.out.le
      cases l' with
      | nil =>
        simp only [Ent.val, List.length_nil] at hct
        obtain ⟨gg, rfl⟩ : ∃ g', gk = g' + 1 := ⟨gk - 1, by have := HG.out; omega⟩
        have HS2 := Lib.hid HS.out.pop
        have HP2 : Hid (pre ++ remS S = preY t) := by have := HP.out; simp only [remS, preYs, List.nil_append] at this; exact this
        have HG2 : Hid (2 * (remS S).length + m ≤ gg) := by have := HG.out; simp only [remS, preYs, List.nil_append] at this; show _ ≤ _; omega
        have HM2 : Hid (m ≤ pre.length + 1) := by have := HM.out; show _ ≤ _; omega
        clear hent hle HE HS HP HG HM hgt
        gi_wp2
        gi_roundg gg
        case measure => omega
        case rel => exact ⟨pre, S, _, m, c, rfl, HP2, HJP, HS2, HM2, HG2⟩
      | cons y r =>
        obtain ⟨a, d0, d1, d2, d3, d4, ho, hab, hcy, hy⟩ := hent.at_ 0 y rfl
        obtain rfl : o' = some a := ho
        have HCY : Hid (∀ (j : Nat) (v : Value), [d0, d1, d2, d3, d4][j]? = some v → wr.cell? (a.add j) = some v) := hcy
        obtain ⟨yk, yp, ym, yn, yl⟩ := y
        obtain ⟨oy, cy, hyv, hyl, hyc, hys⟩ := hy.parts
        simp only [Value.agg.injEq, Array.mk.injEq, List.cons.injEq, and_true] at hyv
        obtain ⟨rfl, rfl, rfl, rfl, rfl⟩ := hyv
        have HYY := Lib.hid hy
        have HYL := Lib.hid hyl
        have HYC := Lib.hid hyc
        have HYS := Lib.hid hys
        obtain ⟨w2, hw2⟩ : ∃ w2, wr.alloc (.cells #[.int .i64 yk, .string yp, .string ym, .int .i64 yn, .slice oy yl.length cy] 25) = w2 := ⟨_, rfl⟩
        have hS2 : Stk w0 w2 w0.heap.size (some ⟨g, 0, none⟩) (m + 1) c (((GY.mk yk yp ym yn yl) :: r, some a, c') :: S) := by rw [← hw2]; exact HS.out.alloc _
        have HK2 : Hid (Blk w2 wr.heap.size 25 #[.int .i64 yk, .string yp, .string ym, .int .i64 yn, .slice oy yl.length cy]) := by rw [← hw2]; exact Blk.new wr _ _
        have HJ2 : Hid (J pre w2) := by rw [← hw2]; exact HJ.out _ _ _ HJP.out ((Turn.refl _ wr).alloc _)
        obtain ⟨hct2, hft2⟩ := hS2.top
        have HW2 := Lib.hid hw2
        have HS2 := Lib.hid hS2
        have hgs : g < wr.heap.size := hgt.lt
        simp only [Ent.val, List.length_cons] at hct hct2
        have hl1 : r.length + 1 ≤ c' := hle
        have hcc : c' ≤ maxLen := HE.out.cap
        have hcc2 : (c' : Int) ≤ 9223372036854775807 := by unfold maxLen at hcc; omega
        have hlc : ((r.length : Int) + 1) ≤ (c' : Int) := by omega
        clear hent hle HE hcy hy hyl hyc hys hw2 hab hcc hgt
        obtain ⟨i0, hi, hz0, hz1, hz2⟩ := info_parts infoTS
        by_cases hc1 : c' = 1
        · subst hc1
          obtain rfl : r = [] := List.length_eq_zero_iff.1 (by omega)
          simp only [List.length_nil, Nat.zero_add] at hct hct2
          clear hl1 hlc hcc2
          have hS3 := hS2.put (e' := ([], some a, 0)) (by have := (hS2.ents _ (List.mem_cons_self ..)).tail; rw [if_pos rfl] at this; exact this)
          obtain ⟨hS3, hK3⟩ := hS3
          obtain ⟨w3, hw3⟩ : ∃ w3, w2.setCell ⟨g, m, none⟩ (.slice (some a) 0 0) = w3 := ⟨_, rfl⟩
          have hew : w2.setCell ⟨g, m, none⟩ (Ent.val ([], some a, 0)) = w3 := hw3
          rw [hew] at hS3 hK3
          have HJ3 : Hid (J pre w3) := HJ.out _ _ _ HJ2.out hK3
          have HK3 : Hid (Blk w3 wr.heap.size 25 #[.int .i64 yk, .string yp, .string ym, .int .i64 yn, .slice oy yl.length cy]) := by rw [← hw3]; exact HK2.out.far (by show wr.heap.size ≠ g; omega) _
          have HC3 : Hid (∀ (j : Nat) (v : Value), [Value.int .i64 yk, .string yp, .string ym, .int .i64 yn, .slice oy yl.length cy][j]? = some v → w3.cell? ((⟨wr.heap.size, 0, none⟩ : Addr).add j) = some v) := fun j v h => by
            have e : (⟨wr.heap.size, 0, none⟩ : Addr).add j = ⟨wr.heap.size, j, none⟩ := by unfold Addr.add; split <;> simp_all
            rw [e, HK3.out.cell]
            simpa using h
          have hpre : pre ++ [GY.mk yk yp ym yn yl] <+: preY t := ⟨preYs yl ++ (remS S), by rw [← HP.out]; simp [remS, preYs, preY]⟩
          obtain ⟨fn, tmps, assign, body, hyr, hR⟩ := HY.out pre (GY.mk yk yp ym yn yl) _ w3 HJ3.out HYY.out hpre
          have HRR := Lib.hid hR
          have HPre := Lib.hid hpre
          have HS3 := Lib.hid hS3
          have HW3 := Lib.hid hw3
          clear hS3 hK3 hw3 hew hR hpre hS2
          gi_wp2_with (first
            | (refine boxLoadIn 25 5 size5 Try.underlying25 rfl _ rfl _ rfl (cs := [.int .i64 yk, .string yp, .string ym, .int .i64 yn, .slice oy yl.length cy]) HCY.out rfl ?_) | (refine boxNewIn 25 5 size5 rfl _ _ rfl _ rfl rfl [.int .i64 yk, .string yp, .string ym, .int .i64 yn, .slice oy yl.length cy] rfl rfl rfl rfl ?_; change wpListIn _ _ _ _ _ _ _ (wr.alloc (.cells #[.int .i64 yk, .string yp, .string ym, .int .i64 yn, .slice oy yl.length cy] 25)); rw [HW2.out])
            | (change wpListIn _ _ _ _ _ _ _ (w2.setCell ⟨g, m, none⟩ (.slice (some a) 0 0)); rw [HW3.out]; refine boxLoadIn 25 5 size5 Try.underlying25 rfl _ rfl ⟨wr.heap.size, 0, none⟩ rfl (cs := [.int .i64 yk, .string yp, .string ym, .int .i64 yn, .slice oy yl.length cy]) HC3.out rfl ?_))
          refine HRR.out.mono ?_
          clear hct hct2 hft hft2
          rintro e w4 (⟨rfl, hJ4, hk4⟩ | ⟨rfl, hJx4⟩)
          · have HJ4 := Lib.hid hJ4
            have HS4 := Lib.hid (HS3.out.body hk4)
            have hkt : tyIs w3 TT wr.heap.size := ⟨_, _, HK3.out⟩
            have K4 : Blk w4 wr.heap.size 25 #[.int .i64 yk, .string yp, .string ym, .int .i64 yn, .slice oy yl.length cy] := (hk4.block _ hkt.lt fun h => h.2.2 hkt).trans HK3.out
            have c44 : w4.cell? ⟨wr.heap.size, 4, none⟩ = some (.slice oy yl.length cy) := K4.cell 4
            have HE4 : Hid (EntOk w0 w4 w0.heap.size (yl, oy, cy)) := EntOk.old HYL.out HYC.out HYS.out (HJB.out _ _ hJ4)
            have hB4 := (HJB.out _ _ hJ4).size
            have hnew : ∀ (j : Nat) (u : Value), [Value.slice oy yl.length cy][j]? = some u → (w4.alloc (.cells #[.slice oy yl.length cy] 23)).cell? ((⟨w4.heap.size, 0, none⟩ : Addr).add j) = some u := fun j u hu => by
              have e : (⟨w4.heap.size, 0, none⟩ : Addr).add j = ⟨w4.heap.size, j, none⟩ := by unfold Addr.add; split <;> simp_all
              rw [e, (Blk.new w4 23 #[.slice oy yl.length cy]).cell]
              simpa using hu
            have HN := Lib.hid hnew
            clear hJ4 hk4 hkt K4 hyr HRR hnew
            obtain ⟨gg, rfl⟩ : ∃ g', gk = g' + 1 := ⟨gk - 1, by have := HG.out; simp only [remS, preYs, List.length_append] at this; omega⟩
            gi_wp2_with (gi_at_builtin; refine wpListIn_append_moves _ rfl _ _ 61 rfl w0.heap.size 23 i0 (.slice none 0 0) 1 24 Try.underlying61 hi hz0 hz1 hz2 rfl (by decide) _ _ _ rfl (HS4.out.row.alloc _) ⟨w4.heap.size, 0, none⟩ 1 1 [.slice oy yl.length cy] rfl rfl HN.out (by simp [Value.oneCell']) (by unfold maxLen; omega) (by omega) (by simp; omega) (by decide) ?_; intro v5 w5 hown5 hmv; obtain ⟨o5, c5, rfl⟩ := row_val hown5; have HROW := Lib.hid hown5; have HMV := Lib.hid hmv; clear hown5 hmv)
            gi_roundg gg
            case measure => omega
            case rel =>
              have hK5 := ki_moves HMV.out (HS4.out.row.alloc _)
              have hK5' : KI w0.heap.size w4 w5 := ⟨hK5.os, hK5.tape, hK5.output, Nat.le_trans (by simp) hK5.size, fun k hk hn => (hK5.block k (by rw [World.size_alloc]; omega) fun h => hn ⟨h.1, by obtain ⟨_, cs, f, h⟩ := h; rw [heap_alloc_old w4 _ k hk] at h; exact ⟨cs, f, h⟩⟩).trans (heap_alloc_old w4 _ k hk)⟩
              refine ⟨pre ++ [GY.mk yk yp ym yn yl], (yl, oy, cy) :: ([], some a, 0) :: S, o5, m + 1 + 1, c5, rfl, ?_, HJ.out _ _ _ HJ4.out hK5', ?_, ?_, ?_⟩
              · show _ = _
                rw [← HP.out]
                simp [remS, preYs, preY]
              · refine ⟨by rw [eC_cons]; exact HROW.out, by have := HS4.out.len; simp at this ⊢; omega, fun e he => ?_⟩
                have hk : ∀ e, EntOk w0 w4 w0.heap.size e → EntOk w0 w5 w0.heap.size e := fun e h => h.turn hK5' (fun k hk hn => by omega) (fun k hk hn => hn.2.ne hk)
                rcases List.mem_cons.1 he with rfl | he
                · exact hk _ HE4.out
                · exact hk _ (HS4.out.ents e he)
              · have := HM.out
                show _ ≤ _
                simp only [List.length_append, List.length_singleton]
                omega
              · have := HG.out
                show _ ≤ _
                simp only [remS, preYs, preY, List.length_append, List.length_cons] at this ⊢
                omega
          · have HJ3 := Lib.hid hJx4
            clear hJx4 hyr
            gi_wp2
            refine bodyPost_ret (results_none rfl _ _ _) rfl ?_
            exact ⟨⟨_, rfl⟩, .inr ⟨_, HPre.out, HJ3.out⟩⟩
        · have hc1' : ¬ ((c' : Int) = 1) := by omega
          have hS3 := hS2.put (e' := (r, some (a.add 5), c' - 1)) (by have := (hS2.ents _ (List.mem_cons_self ..)).tail; rw [if_neg hc1] at this; exact this)
          obtain ⟨hS3, hK3⟩ := hS3
          obtain ⟨w3, hw3⟩ : ∃ w3, w2.setCell ⟨g, m, none⟩ (.slice (some (a.add 5)) r.length (c' - 1)) = w3 := ⟨_, rfl⟩
          have hew : w2.setCell ⟨g, m, none⟩ (Ent.val (r, some (a.add 5), c' - 1)) = w3 := hw3
          rw [hew] at hS3 hK3
          have HJ3 : Hid (J pre w3) := HJ.out _ _ _ HJ2.out hK3
          have HK3 : Hid (Blk w3 wr.heap.size 25 #[.int .i64 yk, .string yp, .string ym, .int .i64 yn, .slice oy yl.length cy]) := by rw [← hw3]; exact HK2.out.far (by show wr.heap.size ≠ g; omega) _
          have HC3 : Hid (∀ (j : Nat) (v : Value), [Value.int .i64 yk, .string yp, .string ym, .int .i64 yn, .slice oy yl.length cy][j]? = some v → w3.cell? ((⟨wr.heap.size, 0, none⟩ : Addr).add j) = some v) := fun j v h => by
            have e : (⟨wr.heap.size, 0, none⟩ : Addr).add j = ⟨wr.heap.size, j, none⟩ := by unfold Addr.add; split <;> simp_all
            rw [e, HK3.out.cell]
            simpa using h
          have hpre : pre ++ [GY.mk yk yp ym yn yl] <+: preY t := ⟨preYs yl ++ (preYs r ++ remS S), by rw [← HP.out]; simp [remS, preYs, preY]⟩
          obtain ⟨fn, tmps, assign, body, hyr, hR⟩ := HY.out pre (GY.mk yk yp ym yn yl) _ w3 HJ3.out HYY.out hpre
          have HRR := Lib.hid hR
          have HPre := Lib.hid hpre
          have HS3 := Lib.hid hS3
          have HW3 := Lib.hid hw3
          clear hS3 hK3 hw3 hew hR hpre hS2
          gi_wp2_with (first
            | (refine boxLoadIn 25 5 size5 Try.underlying25 rfl _ rfl _ rfl (cs := [.int .i64 yk, .string yp, .string ym, .int .i64 yn, .slice oy yl.length cy]) HCY.out rfl ?_) | (refine boxNewIn 25 5 size5 rfl _ _ rfl _ rfl rfl [.int .i64 yk, .string yp, .string ym, .int .i64 yn, .slice oy yl.length cy] rfl rfl rfl rfl ?_; change wpListIn _ _ _ _ _ _ _ (wr.alloc (.cells #[.int .i64 yk, .string yp, .string ym, .int .i64 yn, .slice oy yl.length cy] 25)); rw [HW2.out])
            | (change wpListIn _ _ _ _ _ _ _ (w2.setCell ⟨g, m, none⟩ (.slice (some (a.add 5)) r.length (c' - 1))); rw [HW3.out]; refine boxLoadIn 25 5 size5 Try.underlying25 rfl _ rfl ⟨wr.heap.size, 0, none⟩ rfl (cs := [.int .i64 yk, .string yp, .string ym, .int .i64 yn, .slice oy yl.length cy]) HC3.out rfl ?_))
          refine HRR.out.mono ?_
          clear hct hct2 hft hft2
          rintro e w4 (⟨rfl, hJ4, hk4⟩ | ⟨rfl, hJx4⟩)
          · have HJ4 := Lib.hid hJ4
            have HS4 := Lib.hid (HS3.out.body hk4)
            have hkt : tyIs w3 TT wr.heap.size := ⟨_, _, HK3.out⟩
            have K4 : Blk w4 wr.heap.size 25 #[.int .i64 yk, .string yp, .string ym, .int .i64 yn, .slice oy yl.length cy] := (hk4.block _ hkt.lt fun h => h.2.2 hkt).trans HK3.out
            have c44 : w4.cell? ⟨wr.heap.size, 4, none⟩ = some (.slice oy yl.length cy) := K4.cell 4
            have HE4 : Hid (EntOk w0 w4 w0.heap.size (yl, oy, cy)) := EntOk.old HYL.out HYC.out HYS.out (HJB.out _ _ hJ4)
            have hB4 := (HJB.out _ _ hJ4).size
            have hnew : ∀ (j : Nat) (u : Value), [Value.slice oy yl.length cy][j]? = some u → (w4.alloc (.cells #[.slice oy yl.length cy] 23)).cell? ((⟨w4.heap.size, 0, none⟩ : Addr).add j) = some u := fun j u hu => by
              have e : (⟨w4.heap.size, 0, none⟩ : Addr).add j = ⟨w4.heap.size, j, none⟩ := by unfold Addr.add; split <;> simp_all
              rw [e, (Blk.new w4 23 #[.slice oy yl.length cy]).cell]
              simpa using hu
            have HN := Lib.hid hnew
            clear hJ4 hk4 hkt K4 hyr HRR hnew
            obtain ⟨gg, rfl⟩ : ∃ g', gk = g' + 1 := ⟨gk - 1, by have := HG.out; simp only [remS, preYs, List.length_append] at this; omega⟩
            gi_wp2_with (gi_at_builtin; refine wpListIn_append_moves _ rfl _ _ 61 rfl w0.heap.size 23 i0 (.slice none 0 0) 1 24 Try.underlying61 hi hz0 hz1 hz2 rfl (by decide) _ _ _ rfl (HS4.out.row.alloc _) ⟨w4.heap.size, 0, none⟩ 1 1 [.slice oy yl.length cy] rfl rfl HN.out (by simp [Value.oneCell']) (by unfold maxLen; omega) (by omega) (by simp; omega) (by decide) ?_; intro v5 w5 hown5 hmv; obtain ⟨o5, c5, rfl⟩ := row_val hown5; have HROW := Lib.hid hown5; have HMV := Lib.hid hmv; clear hown5 hmv)
            gi_roundg gg
            case measure => omega
            case rel =>
              have hK5 := ki_moves HMV.out (HS4.out.row.alloc _)
              have hK5' : KI w0.heap.size w4 w5 := ⟨hK5.os, hK5.tape, hK5.output, Nat.le_trans (by simp) hK5.size, fun k hk hn => (hK5.block k (by rw [World.size_alloc]; omega) fun h => hn ⟨h.1, by obtain ⟨_, cs, f, h⟩ := h; rw [heap_alloc_old w4 _ k hk] at h; exact ⟨cs, f, h⟩⟩).trans (heap_alloc_old w4 _ k hk)⟩
              refine ⟨pre ++ [GY.mk yk yp ym yn yl], (yl, oy, cy) :: (r, some (a.add 5), c' - 1) :: S, o5, m + 1 + 1, c5, rfl, ?_, HJ.out _ _ _ HJ4.out hK5', ?_, ?_, ?_⟩
              · show _ = _
                rw [← HP.out]
                simp [remS, preYs, preY]
              · refine ⟨by rw [eC_cons]; exact HROW.out, by have := HS4.out.len; simp at this ⊢; omega, fun e he => ?_⟩
                have hk : ∀ e, EntOk w0 w4 w0.heap.size e → EntOk w0 w5 w0.heap.size e := fun e h => h.turn hK5' (fun k hk hn => by omega) (fun k hk hn => hn.2.ne hk)
                rcases List.mem_cons.1 he with rfl | he
                · exact hk _ HE4.out
                · exact hk _ (HS4.out.ents e he)
              · have := HM.out
                show _ ≤ _
                simp only [List.length_append, List.length_singleton]
                omega
              · have := HG.out
                show _ ≤ _
                simp only [remS, preYs, preY, List.length_append, List.length_cons] at this ⊢
                omega
          · have HJ3 := Lib.hid hJx4
            clear hJx4 hyr
            gi_wp2
            refine bodyPost_ret (results_none rfl _ _ _) rfl ?_
            exact ⟨⟨_, rfl⟩, .inr ⟨_, HPre.out, HJ3.out⟩⟩

end Go.Proofs.Ytofdejoeheokjaa
