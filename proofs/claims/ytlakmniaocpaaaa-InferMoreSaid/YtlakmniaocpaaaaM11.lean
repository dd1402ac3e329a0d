/-
  Pairs of what stands where, one by one: the iterator. Condition: at most a million parts.
-/
import Derived.Test.YtlakmniaocpaaaaM07
import Derived.Test.YtlakmniaocpaaaaM08
import Derived.Test.YtlakmniaocpaaaaM03
import Derived.Test.YtlakmniaocpaaaaM10
import Derived.Deep.LoopGhost
import Derived.Deep.RegionHeld
import Derived.Deep.RegionHeld3
import Derived.Deep.DeepCutAuto
namespace Go.Proofs.Ytlakmniaocpaaaa
open Go.RowKit Go.Shelf
open Go.Lib hiding intOf
theorem bkN {W : World} {k : Nat} (h : W.heap.size = k) (t : TypeId) (cs : Array Value) : Blk (W.alloc (.cells cs t)) k t cs := by subst h; exact Blk.new W t cs
theorem bkA {W : World} {k : Nat} {t : TypeId} {cs : Array Value} (h : Blk W k t cs) (o : Obj) : Blk (W.alloc o) k t cs := blkB h ((Below.refl _ _).alloc (Nat.le_refl _) _)
theorem bkD {W : World} {k : Nat} {t : TypeId} {cs : Array Value} (h : Blk W k t cs) : Blk W.drew k t cs := h
theorem bk0 {W : World} {g : Nat} {t : TypeId} {cs : List Value} (h : Blk W g t cs.toArray) : ∀ (j : Nat) (v : Value), cs[j]? = some v → W.cell? ((⟨g, 0, none⟩ : Addr).add j) = some v := fun j v hv => by
  have e : (⟨g, 0, none⟩ : Addr).add j = ⟨g, j, none⟩ := by unfold Addr.add; split <;> simp_all
  rw [e, h.cell]
  simpa using hv
theorem bkC (w : World) (t : TypeId) (cs : List Value) : ∀ (j : Nat) (u : Value), cs[j]? = some u → (w.alloc (.cells cs.toArray t)).cell? ((⟨w.heap.size, 0, none⟩ : Addr).add j) = some u := bk0 (bkN rfl t cs.toArray)
abbrev TSD := 79
/-- One list that is still open, in the old world. -/
structure EntL (w0 : World) (l : List GY) (o : Option Addr) (c : Nat) : Prop where
  le : l.length ≤ c
  cap : c ≤ maxLen
  at_ : ∀ (i : Nat) (y : GY), l[i]? = some y → ∃ (a : Addr) (c0 c1 c2 c3 c4 : Value), o = some a ∧ (∀ (j : Nat) (v : Value), [c0, c1, c2, c3, c4][j]? = some v → w0.cell? ((a.add (i * 5)).add j) = some v) ∧ IsY w0 y (.agg #[c0, c1, c2, c3, c4])
theorem EntL.of {w0 : World} {o : Option Addr} {l : List GY} {c : Nat} (h1 : l.length ≤ c) (h2 : c ≤ maxLen) (h : IsYs w0 o 0 l) : EntL w0 l o c := ⟨h1, h2, fun i y hy => by
  obtain ⟨a, c0, c1, c2, c3, c4, ho, hc, hy⟩ := h.at_ i hy
  rw [Nat.zero_add] at hc
  exact ⟨a, c0, c1, c2, c3, c4, ho, hc, hy⟩⟩
theorem EntL.tail {w0 : World} {y : GY} {r : List GY} {a : Addr} {c : Nat} (h : EntL w0 (y :: r) (some a) c) : EntL w0 r (some (if c = 1 then a else a.add 5)) (c - 1) := by
  have hle : r.length + 1 ≤ c := h.le
  have hcm : c ≤ maxLen := h.cap
  refine ⟨by omega, by omega, fun i z hz => ?_⟩
  obtain ⟨a', c0, c1, c2, c3, c4, ha, hc, hi⟩ := h.at_ (i + 1) z hz
  obtain rfl : a = a' := by injection ha
  have hlt : i < r.length := (List.getElem?_eq_some_iff.1 hz).1
  rw [if_neg (by omega)]
  refine ⟨a.add 5, c0, c1, c2, c3, c4, rfl, fun j v hv => ?_, hi⟩
  have := hc j v hv
  rw [add_more'] at this ⊢
  rw [add_more']
  rwa [show 5 + (i * 5 + j) = (i + 1) * 5 + j by omega]
abbrev SE := (List GY × Option Addr × Nat) × (List GY × Option Addr × Nat)
def seC (e : SE) : List Value := [.slice e.1.2.1 e.1.1.length e.1.2.2, .slice e.2.2.1 e.2.1.length e.2.2.2]
def remL : List SE → List (GY × GY)
  | [] => []
  | e :: S => prYs e.1.1 e.2.1 ++ remL S
def cntL : List SE → Nat
  | [] => 0
  | e :: S => cntYs e.1.1 + cntL S
def eL : List SE → List Value
  | [] => []
  | e :: S => eL S ++ seC e
theorem eL_len : ∀ S : List SE, (eL S).length = S.length * 2
  | [] => rfl
  | e :: S => by rw [eL, List.length_append, eL_len S, List.length_cons]; show _ + 2 = _; omega
/-- All of them, in a row of the call's own. -/
structure StkL (w0 W : World) (B : Nat) (o : Option Addr) (n c : Nat) (S : List SE) : Prop where
  row : W.ownsRow B TSD 2 (.slice o n c) n (eL S)
  len : S.length = n
  ents : ∀ e ∈ S, EntL w0 e.1.1 e.1.2.1 e.1.2.2 ∧ EntL w0 e.2.1 e.2.2.1 e.2.2.2
abbrev KD (B : Nat) (W W' : World) : Prop := Turn (fun k => B ≤ k ∧ ¬ tyIs W TSD k) W W'
abbrev KN (B : Nat) (W W' : World) : Prop := Turn (fun k => B ≤ k ∧ tyIs W TSD k) W W'
theorem rowD_tyIs {W : World} {B : Nat} {e : TypeId} {k : Nat} {v : Value} {n : Nat} {xs : List Value} (h : W.ownsRow B e k v n xs) : ∀ k, v.ownBlock = some k → tyIs W e k := by
  intro k hk
  rcases h.2 with ⟨h1, _⟩ | ⟨g, cap, cur, h1, _, hg, _⟩
  · rw [h1] at hk; cases hk
  · rw [h1] at hk
    simp only [Value.ownBlock, Option.some.injEq] at hk
    subst hk
    exact ⟨cur, _, hg⟩
theorem StkL.body {w0 W W' : World} {B : Nat} {o : Option Addr} {n c : Nat} {S : List SE} (h : StkL w0 W B o n c S) (hT : KD B W W') : StkL w0 W' B o n c S :=
  ⟨hT.row h.row fun k hk hn => hn.2 (rowD_tyIs h.row k hk), h.len, h.ents⟩
theorem StkL.below {w0 W W' : World} {B : Nat} {o : Option Addr} {n c : Nat} {S : List SE} (h : StkL w0 W B o n c S) (hb : Below W.heap.size W W') : StkL w0 W' B o n c S :=
  ⟨below_row hb h.row, h.len, h.ents⟩
theorem StkL.some_ {w0 W : World} {B : Nat} {o : Option Addr} {n c : Nat} {S : List SE} (h : StkL w0 W B o n c S) (hn : 0 < n) : ∃ g, o = some ⟨g, 0, none⟩ ∧ B ≤ g ∧ n ≤ c ∧ c ≤ maxLen ∧ tyIs W TSD g := by
  rcases h.row.2 with ⟨_, h0⟩ | ⟨g, cap, cur, h1, hb, hg, h2, h3, _⟩
  · omega
  · simp only [Value.slice.injEq] at h1
    obtain ⟨rfl, _, rfl⟩ := h1
    exact ⟨g, rfl, hb, h2, h3, ⟨cur, _, hg⟩⟩
theorem StkL.top {w0 W : World} {B g n c : Nat} {e : SE} {S : List SE} (h : StkL w0 W B (some ⟨g, 0, none⟩) (n + 1) c (e :: S)) (j : Nat) (hj : j < 2) : W.cell? ⟨g, n * 2 + j, none⟩ = (seC e)[j]? := by
  have hl : S.length = n := by have := h.len; simpa using this
  rw [h.row.cellAt (n * 2 + j) (by omega), eL, List.getElem?_append_right (by rw [eL_len, hl]; omega), eL_len, hl, Nat.add_sub_cancel_left]
theorem StkL.pop {w0 W : World} {B g n c : Nat} {e : SE} {S : List SE} (h : StkL w0 W B (some ⟨g, 0, none⟩) (n + 1) c (e :: S)) : StkL w0 W B (some ⟨g, 0, none⟩) n c S := by
  have hl : S.length = n := by have := h.len; simpa using this
  refine ⟨⟨by rw [eL_len, hl], ?_⟩, hl, fun e he => h.ents e (List.mem_cons_of_mem _ he)⟩
  rcases h.row.2 with ⟨h1, _⟩ | ⟨g', cap, cur, h1, hb, hg, h2, h3, h4, h5⟩
  · simp at h1
  · simp only [Value.slice.injEq, Option.some.injEq, Addr.mk.injEq, true_and, and_true] at h1
    obtain ⟨rfl, rfl⟩ := h1
    refine .inr ⟨g, c, cur, rfl, hb, hg, by omega, h3, h4, ?_⟩
    rw [eL] at h5
    have h6 : (List.take ((n + 1) * 2) cur.toList).take (n * 2) = eL S := by
      rw [h5, List.take_append_of_le_length (by rw [eL_len]; omega), List.take_of_length_le (by rw [eL_len]; omega)]
    rw [List.take_take, show min (n * 2) ((n + 1) * 2) = n * 2 by omega] at h6
    exact h6
/-- The last one's first two taken. -/
theorem StkL.put {w0 W : World} {B g n c : Nat} {e e' : SE} {S : List SE} (h : StkL w0 W B (some ⟨g, 0, none⟩) (n + 1) c (e :: S)) (he : EntL w0 e'.1.1 e'.1.2.1 e'.1.2.2 ∧ EntL w0 e'.2.1 e'.2.2.1 e'.2.2.2) :
    StkL w0 ((W.setCell ⟨g, n * 2, none⟩ (.slice e'.1.2.1 e'.1.1.length e'.1.2.2)).setCell ⟨g, n * 2 + 1, none⟩ (.slice e'.2.2.1 e'.2.1.length e'.2.2.2)) B (some ⟨g, 0, none⟩) (n + 1) c (e' :: S) := by
  have hl : S.length = n := by have := h.len; simpa using this
  have h1 := (h.row.stored (n * 2) (.slice e'.1.2.1 e'.1.1.length e'.1.2.2)).1
  have h2 := (h1.stored (n * 2 + 1) (.slice e'.2.2.1 e'.2.1.length e'.2.2.2)).1
  refine ⟨?_, by simp [hl], fun x hx => ?_⟩
  · have e1 : ((eL (e :: S)).set (n * 2) (.slice e'.1.2.1 e'.1.1.length e'.1.2.2)).set (n * 2 + 1) (.slice e'.2.2.1 e'.2.1.length e'.2.2.2) = eL (e' :: S) := by
      rw [eL, eL, List.set_append_right _ _ (by rw [eL_len]; omega), List.set_append_right _ _ (by rw [eL_len]; omega), eL_len, hl, Nat.sub_self, Nat.add_sub_cancel_left]
      rfl
    rwa [e1] at h2
  · rcases List.mem_cons.1 hx with rfl | hx
    · exact he
    · exact h.ents x (List.mem_cons_of_mem _ hx)
theorem StkL.push {w0 W : World} {B m c : Nat} {o o' : Option Addr} {c' : Nat} {e : SE} {S : List SE} (hr : W.ownsRow B TSD 2 (.slice o' (m + 1) c') (m + 1) (eL S ++ seC e)) (hl : S.length = m) (he : EntL w0 e.1.1 e.1.2.1 e.1.2.2 ∧ EntL w0 e.2.1 e.2.2.1 e.2.2.2) (hs : ∀ e ∈ S, EntL w0 e.1.1 e.1.2.1 e.1.2.2 ∧ EntL w0 e.2.1 e.2.2.1 e.2.2.2) : StkL w0 W B o' (m + 1) c' (e :: S) := by
  have _ := o
  have _ := c
  exact ⟨hr, by simp [hl], fun x hx => (List.mem_cons.1 hx).elim (fun h => h ▸ he) (fun h => hs x h)⟩
theorem infoSD : (Try.prog.info? TSD).map (fun i => (i.zero, i.size, i.bytes)) = some (some (.agg #[.slice none 0 0, .slice none 0 0]), 2, 48) := by kernel_rfl
/-- An append leaves all but the row. -/
theorem kn_moves {W W' : World} {B n : Nat} {v v' : Value} {k m : Nat} {xs : List Value} (h : (∃ cap, v' = .slice (some ⟨k, 0, none⟩) m cap ∧ W.grownBy W' none) ∨ ∃ g cap, v = .slice (some ⟨g, 0, none⟩) n cap ∧ v' = .slice (some ⟨g, 0, none⟩) m cap ∧ W.grownBy W' (some g)) (hrow : W.ownsRow B TSD 2 v n xs) : KN B W W' := by
  rcases h with ⟨_, _, h⟩ | ⟨g, cap, rfl, _, h⟩
  · exact (Turn.of_grown h).mono fun k _ hk => by cases hk
  · exact (Turn.of_grown h).mono fun k _ hk => by
      obtain rfl : k = g := by injection hk
      exact ⟨(hrow.lt k rfl).1, rowD_tyIs hrow k rfl⟩
theorem KN.trans' {B : Nat} {a b c : World} (h : KN B a b) (k : KN B b c) : KN B a c :=
  ⟨k.os.trans h.os, k.tape.trans h.tape, k.output.trans h.output, Nat.le_trans h.size k.size, fun i hi hn => by
    have hi2 := Nat.lt_of_lt_of_le hi h.size
    have e := h.block i hi hn
    refine (k.block i hi2 fun hq => hn ⟨hq.1, ?_⟩).trans e
    obtain ⟨cs, f, h2⟩ := hq.2
    exact ⟨cs, f, e.symm.trans h2⟩⟩
theorem KN.of_below {B : Nat} {W W' : World} (h : Below W.heap.size W W') : KN B W W' := (Turn.of_below h).mono fun k hk hn => by omega
theorem KN.store2 {B : Nat} {W : World} {g : Nat} (hB : B ≤ g) (hg : tyIs W TSD g) (i j : Nat) (u v : Value) : KN B W ((W.setCell ⟨g, i, none⟩ u).setCell ⟨g, j, none⟩ v) :=
  Turn.setCell (p := ⟨g, j, none⟩) (Turn.setCell (p := ⟨g, i, none⟩) (Turn.refl _ W) (fun _ => ⟨hB, hg⟩) _) (fun _ => ⟨hB, hg⟩) _
set_option maxRecDepth 100000 in
set_option maxHeartbeats 16000000 in
theorem pairs_in (n : Nat) (_hn : 1 ≤ n) (l bp ba B : Nat) (w0 : World) (P A : List GY) (oP oA : Option Addr) (cP cA : Nat) (hP : EntL w0 P oP cP) (hA : EntL w0 A oA cA) (hcnt : cntYs P ≤ 1000000) (J : List (GY × GY) → World → Prop)
    (hJ : ∀ pre W W', J pre W → KN B W W' → J pre W') (hJB : ∀ pre W, J pre W → Below w0.heap.size w0 W ∧ B ≤ W.heap.size)
    (hY : ∀ pre (x : GY × GY) v u W, J pre W → IsY w0 x.1 v → IsY w0 x.2 u → pre ++ [x] <+: prYs P A → YieldAt Fence.wide (n - 1) Try.prog l #[v, u] W fun e W' =>
      e = .returned (.bool true) ∧ J (pre ++ [x]) W' ∧ KD B W W')
    (W : World) (hTP : Blk W bp 23 #[.slice oP P.length cP]) (hTA : Blk W ba 23 #[.slice oA A.length cA]) (h0 : J [] W) :
    CallsIn Fence.wide n Try.prog 42 #[.func (.yield l) #[] #[], .pointer (some ⟨bp, 0, none⟩), .pointer (some ⟨ba, 0, none⟩)] W fun e W' => (∃ v, e = .returned v) ∧ J (prYs P A) W' := by
  refine callsIn_of_wp Try.func42 rfl trivial ?_ rfl
  simp only [Try.ntmps42, List.size_toArray, List.length_cons, List.length_nil, Nat.reduceAdd, Nat.reduceSub, Array.replicate_succ, Array.replicate_zero, List.push_toArray, List.append_toArray, List.nil_append, List.cons_append]
  refine wpIn_wide.2 ?_
  have HY := Lib.hid hY
  have HJ := Lib.hid hJ
  have HJB := Lib.hid hJB
  have HC := Lib.hid hcnt
  have d0 := hTP.cell 0
  have d1 := hTA.cell 0
  have HB0 := Lib.hid (hJB _ _ h0).2
  obtain ⟨W1, hW1⟩ : ∃ W1, W.alloc (.cells #[.slice oP P.length cP, .slice oA A.length cA] TSD) = W1 := ⟨_, rfl⟩
  have hKN : KN B W W1 := by rw [← hW1]; exact (Turn.refl _ W).alloc _
  have hS1 : StkL w0 W1 B (some ⟨W.heap.size, 0, none⟩) 1 1 [((P, oP, cP), (A, oA, cA))] := by
    refine ⟨?_, rfl, fun e he => ?_⟩
    · rw [← hW1]
      exact ⟨rfl, .inr ⟨W.heap.size, 1, #[.slice oP P.length cP, .slice oA A.length cA], rfl, HB0.out, World.alloc_heap_new W _, Nat.le_refl _, by decide, rfl, rfl⟩⟩
    · rw [List.mem_singleton.1 he]
      exact ⟨hP, hA⟩
  have H0 := Lib.hid (hJ _ _ _ h0 hKN)
  have HS1 := Lib.hid hS1
  have HW1 := Lib.hid hW1
  have HR0 : Hid ([] ++ remL [((P, oP, cP), (A, oA, cA))] = prYs P A) := by show _ = _; simp [remL]
  have HM0 : Hid (1 + cntL [((P, oP, cP), (A, oA, cA))] ≤ cntYs P + 1) := by show _ ≤ _; simp [cntL]; omega
  clear hY hJ hJB hcnt hTP hTA h0 hW1 hKN hS1 hP hA HB0
  generalize P.length = nP at *
  generalize A.length = nA at *
  go_wp2_with fail
  rw [HW1.out]
  clear HW1 d0 d1
  go_loopg [4] (2 * cntYs P + 2) (fun gg a wr => ∃ (pre : List (GY × GY)) (S : List SE) (o : Option Addr) (m c : Nat), a = .slice o m c ∧ Hid (pre ++ remL S = prYs P A) ∧ Hid (J pre wr) ∧ Hid (StkL w0 wr B o m c S) ∧ Hid (m + cntL S ≤ cntYs P + 1) ∧ Hid (2 * cntL S + m ≤ gg))
  case atStart =>
    refine ⟨[], _, _, 1, 1, rfl, HR0, H0, HS1, HM0, ?_⟩
    show _ ≤ _
    simp [cntL]
  case round =>
    obtain ⟨pre, S, o, m, c, rfl, HP, HJP, HS, HM, HG⟩ := hrel
    clear H0 HS1 HR0 HM0
    cases S with
    | nil =>
      obtain rfl : 0 = m := HS.out.len
      have hp := HP.out
      simp only [remL, List.append_nil] at hp
      have HPP := Lib.hid hp
      clear hp
      go_wp2
      go_end0
      exact ⟨⟨_, rfl⟩, HPP.out ▸ HJP.out⟩
    | cons e S =>
      obtain ⟨m, rfl⟩ : ∃ m', m = m' + 1 := ⟨m - 1, by have := HS.out.len; simp at this; omega⟩
      obtain ⟨g, rfl, hgB, hmc, hcm, hgt⟩ := HS.out.some_ (Nat.succ_pos m)
      obtain ⟨⟨l1, o1, c1⟩, ⟨l2, o2, c2⟩⟩ := e
      have hm3 : m ≤ 1000000 := by have h1 := HM.out; have h2 := HC.out; omega
      have hmc' : (m : Int) ≤ (c : Int) := by omega
      have t0 := HS.out.top 0 (by decide)
      have t1 := HS.out.top 1 (by decide)
      rw [Nat.add_zero] at t0
      have HGT := Lib.hid hgt
      have HGB := Lib.hid hgB
      have HL0 := Lib.hid t0
      have HL1 := Lib.hid t1
      obtain ⟨HE1, HE2⟩ := HS.out.ents _ (List.mem_cons_self ..)
      have HE1 := Lib.hid HE1
      have HE2 := Lib.hid HE2
      have hgl : g < wr.heap.size := hgt.lt
      simp only [seC, List.getElem?_cons_zero, List.getElem?_cons_succ] at t0 t1
      clear hgt hgB
      cases l1 with
      | nil =>
        simp only [List.length_nil] at t0
        obtain ⟨gg, rfl⟩ : ∃ g', gk = g' + 1 := ⟨gk - 1, by have := HG.out; omega⟩
        have HS2 := Lib.hid HS.out.pop
        have HP2 : Hid (pre ++ remL S = prYs P A) := by have := HP.out; simp only [remL, prs_nil, List.nil_append] at this; exact this
        have HG2 : Hid (2 * cntL S + m ≤ gg) := by have := HG.out; simp only [cntL, cntYs] at this; show _ ≤ _; omega
        have HM2 : Hid (m + cntL S ≤ cntYs P + 1) := by have := HM.out; simp only [cntL, cntYs] at this; show _ ≤ _; omega
        clear HE1 HE2 HS HP HG HM HL0 HL1 t1
        go_wp2
        go_roundg gg
        case measure => omega
        case rel => exact ⟨pre, S, _, m, c, rfl, HP2, HJP, HS2, HM2, HG2⟩
      | cons x r =>
        cases l2 with
        | nil =>
          simp only [List.length_nil, List.length_cons] at t0 t1
          obtain ⟨gg, rfl⟩ : ∃ g', gk = g' + 1 := ⟨gk - 1, by have := HG.out; omega⟩
          have HS2 := Lib.hid HS.out.pop
          have HP2 : Hid (pre ++ remL S = prYs P A) := by have := HP.out; simp only [remL, prs_nil', List.nil_append] at this; exact this
          have HG2 : Hid (2 * cntL S + m ≤ gg) := by have := HG.out; simp only [cntL, cntYs] at this; show _ ≤ _; omega
          have HM2 : Hid (m + cntL S ≤ cntYs P + 1) := by have := HM.out; simp only [cntL, cntYs] at this; show _ ≤ _; omega
          have hne : ¬ ((r.length : Int) + 1 = 0) := by omega
          clear HE1 HE2 HS HP HG HM HL0 HL1
          go_wp2
          go_roundg gg
          case measure => omega
          case rel => exact ⟨pre, S, _, m, c, rfl, HP2, HJP, HS2, HM2, HG2⟩
        | cons y q =>
          simp only [List.length_cons] at t0 t1
          obtain ⟨a, x0, x1, x2, x3, x4, ho1, hcx, hxx⟩ := HE1.out.at_ 0 x rfl
          obtain ⟨b, y0, y1, y2, y3, y4, ho2, hcy, hyy⟩ := HE2.out.at_ 0 y rfl
          obtain rfl : o1 = some a := ho1
          obtain rfl : o2 = some b := ho2
          have hB := (HJB.out _ _ HJP.out).1
          obtain ⟨xk, xp, xm, xn, xl⟩ := x
          obtain ⟨yk, yp, ym, yn, yl⟩ := y
          obtain ⟨ox, cx, hxv, hxl, hxc, hxs⟩ := hxx.parts
          obtain ⟨oy, cy, hyv, hyl, hyc, hys⟩ := hyy.parts
          simp only [Value.agg.injEq, Array.mk.injEq, List.cons.injEq, and_true] at hxv hyv
          obtain ⟨rfl, rfl, rfl, rfl, rfl⟩ := hxv
          obtain ⟨rfl, rfl, rfl, rfl, rfl⟩ := hyv
          have HCX : Hid (∀ (j : Nat) (v : Value), [Value.int .i64 xk, .string xp, .string xm, .int .i64 xn, .slice ox xl.length cx][j]? = some v → wr.cell? (a.add j) = some v) := fun j v hv => (hB.cell (World.block_lt_of_cell? _ _ (hcx j v hv))).trans (hcx j v hv)
          have HCY : Hid (∀ (j : Nat) (v : Value), [Value.int .i64 yk, .string yp, .string ym, .int .i64 yn, .slice oy yl.length cy][j]? = some v → wr.cell? (b.add j) = some v) := fun j v hv => (hB.cell (World.block_lt_of_cell? _ _ (hcy j v hv))).trans (hcy j v hv)
          have HXX := Lib.hid hxx
          have HYY := Lib.hid hyy
          have HEX : Hid (EntL w0 xl ox cx) := EntL.of hxl hxc hxs
          have HEY : Hid (EntL w0 yl oy cy) := EntL.of hyl hyc hys
          have hle1 : r.length + 1 ≤ c1 := HE1.out.le
          have hle2 : q.length + 1 ≤ c2 := HE2.out.le
          have hcm1 : (c1 : Int) ≤ 9223372036854775807 := by have := HE1.out.cap; unfold maxLen at this; simp only at this; omega
          have hcm2 : (c2 : Int) ≤ 9223372036854775807 := by have := HE2.out.cap; unfold maxLen at this; simp only at this; omega
          have hn1 : ¬ ((r.length : Int) + 1 = 0) := by omega
          have hn2 : ¬ ((q.length : Int) + 1 = 0) := by omega
          have hz1 : ((r.length : Int) + 1 == 0) = false := beq_eq_false_iff_ne.2 hn1
          have hz2 : ((q.length : Int) + 1 == 0) = false := beq_eq_false_iff_ne.2 hn2
          have hi1 : (0 : Int) < (r.length : Int) + 1 := by omega
          have hi2 : (0 : Int) < (q.length : Int) + 1 := by omega
          have hb1 : ((r.length : Int) + 1) ≤ (c1 : Int) := by omega
          have hb2 : ((q.length : Int) + 1) ≤ (c2 : Int) := by omega
          clear hcx hcy hxx hyy hxl hxc hxs hyl hyc hys hB
          go_wp2_with fail
          go_cut [6, 7] from 39 to 50 (fun v6 v7 wx => ∃ b6 b7 : Nat, v6 = .pointer (some ⟨b6, 0, none⟩) ∧ v7 = .pointer (some ⟨b7, 0, none⟩) ∧ Hid (Blk wx b6 34 #[.int .i64 xk, .string xp, .string xm, .int .i64 xn, .slice ox xl.length cx]) ∧ Hid (Blk wx b7 34 #[.int .i64 yk, .string yp, .string ym, .int .i64 yn, .slice oy yl.length cy]) ∧ Hid (Below wr.heap.size wr wx))
          case first =>
            have hS0 : (fun w' : World => Below wr.heap.size wr w') wr.drew := (Below.refl _ _).drew
            refine wp_region_held_drew (S := (fun w' : World => Below wr.heap.size wr w')) (by kernel_rfl) hS0 fun hS0 => ?_
            refine wpAnyH_take (i := 0) (v := .pointer (some ⟨g, m * 2, none⟩)) rfl (by kernel_rfl) (by kernel_rfl) (by kernel_rfl) (fun _ _ _ h => h) (Or.inl ⟨by kernel_rfl, fun w' hw' => ?_⟩) hS0 ?_
            · go_simp
            refine wpAnyH_take (i := 1) (v := .pointer (some ⟨g, m * 2, none⟩)) rfl (by kernel_rfl) (by kernel_rfl) (by kernel_rfl) (fun _ _ _ h => h) (Or.inl ⟨by kernel_rfl, fun w' hw' => ?_⟩) hS0 ?_
            · go_simp
            refine wpAnyH_take (i := 2) (v := .pointer (some ⟨g, m * 2, none⟩)) rfl (by kernel_rfl) (by kernel_rfl) (by kernel_rfl) (fun _ _ _ h => h) (Or.inl ⟨by kernel_rfl, fun w' hw' => ?_⟩) hS0 ?_
            · go_simp
            refine wpAnyH_take (i := 3) (v := .slice (some a) (r.length + 1) c1) rfl (by kernel_rfl) (by kernel_rfl) (by kernel_rfl) (fun _ _ _ h => h) (Or.inl ⟨by kernel_rfl, fun w' hw' => ?_⟩) hS0 ?_
            · have h3 : w'.cell? ⟨g, m * 2, none⟩ = some (.slice (some a) (r.length + 1) c1) := (hw'.cell (World.block_lt_of_cell? _ _ HL0.out)).trans HL0.out
              go_simp
            refine wpAnyH_take (i := 4) (v := .pointer (some a)) rfl (by kernel_rfl) (by kernel_rfl) (by kernel_rfl) (fun _ _ _ h => h) (Or.inl ⟨by kernel_rfl, fun w' hw' => ?_⟩) hS0 ?_
            · go_simp
            refine wpAnyH_take (i := 5) (v := .agg #[.int .i64 xk, .string xp, .string xm, .int .i64 xn, .slice ox xl.length cx]) rfl (by kernel_rfl) (by kernel_rfl) (by kernel_rfl) (fun _ _ _ h => h) (Or.inl ⟨by kernel_rfl, fun w' hw' => ?_⟩) hS0 ?_
            · exact run_loadG 34 5 size5 Try.underlying34 _ rfl a (by kernel_rfl) (cs := [.int .i64 xk, .string xp, .string xm, .int .i64 xn, .slice ox xl.length cx]) (fun j v hv => (hw'.cell (World.block_lt_of_cell? _ _ (HCX.out j v hv))).trans (HCX.out j v hv)) rfl
            refine wpAnyH_take (i := 6) (v := .pointer (some ⟨g, m * 2, none⟩)) rfl (by kernel_rfl) (by kernel_rfl) (by kernel_rfl) (fun _ _ _ h => h) (Or.inl ⟨by kernel_rfl, fun w' hw' => ?_⟩) hS0 ?_
            · go_simp
            refine wpAnyH_take (i := 7) (v := .pointer (some ⟨g, m * 2, none⟩)) rfl (by kernel_rfl) (by kernel_rfl) (by kernel_rfl) (fun _ _ _ h => h) (Or.inl ⟨by kernel_rfl, fun w' hw' => ?_⟩) hS0 ?_
            · go_simp
            refine wpAnyH_take (i := 8) (v := .pointer (some ⟨g, m * 2 + 1, none⟩)) rfl (by kernel_rfl) (by kernel_rfl) (by kernel_rfl) (fun _ _ _ h => h) (Or.inl ⟨by kernel_rfl, fun w' hw' => ?_⟩) hS0 ?_
            · go_simp
            refine wpAnyH_take (i := 9) (v := .slice (some b) (q.length + 1) c2) rfl (by kernel_rfl) (by kernel_rfl) (by kernel_rfl) (fun _ _ _ h => h) (Or.inl ⟨by kernel_rfl, fun w' hw' => ?_⟩) hS0 ?_
            · have h3 : w'.cell? ⟨g, m * 2 + 1, none⟩ = some (.slice (some b) (q.length + 1) c2) := (hw'.cell (World.block_lt_of_cell? _ _ HL1.out)).trans HL1.out
              go_simp
            refine wpAnyH_take (i := 10) (v := .pointer (some b)) rfl (by kernel_rfl) (by kernel_rfl) (by kernel_rfl) (fun _ _ _ h => h) (Or.inl ⟨by kernel_rfl, fun w' hw' => ?_⟩) hS0 ?_
            · go_simp
            refine wpAnyH_take (i := 11) (v := .agg #[.int .i64 yk, .string yp, .string ym, .int .i64 yn, .slice oy yl.length cy]) rfl (by kernel_rfl) (by kernel_rfl) (by kernel_rfl) (fun _ _ _ h => h) (Or.inl ⟨by kernel_rfl, fun w' hw' => ?_⟩) hS0 ?_
            · exact run_loadG 34 5 size5 Try.underlying34 _ rfl b (by kernel_rfl) (cs := [.int .i64 yk, .string yp, .string ym, .int .i64 yn, .slice oy yl.length cy]) (fun j v hv => (hw'.cell (World.block_lt_of_cell? _ _ (HCY.out j v hv))).trans (HCY.out j v hv)) rfl
            refine wpAnyH_ready (rs := [12, 13]) (by kernel_rfl) (by simp) (AllReadyH.cons rfl (fun KK hK => ?_) (AllReadyH.cons rfl (fun KK hK => ?_) AllReadyH.nil))
            · go_simp
              refine hK.out _ _ (hS0.alloc hS0.size _) (fun hS1 => ?_)
              refine wpAnyH_ready (rs := [13]) (by kernel_rfl) (by simp) (AllReadyH.cons rfl (fun KK hK => ?_) AllReadyH.nil)
              go_simp
              refine hK.out _ _ (hS1.alloc hS1.size _) (fun hS2 => ?_)
              obtain ⟨X, hX⟩ : ∃ X, ((wr.alloc (.cells #[.int .i64 0, .string ⟨#[]⟩, .string ⟨#[]⟩, .int .i64 0, .slice none 0 0] 34)).alloc (.cells #[.int .i64 0, .string ⟨#[]⟩, .string ⟨#[]⟩, .int .i64 0, .slice none 0 0] 34)).drew = X := ⟨_, rfl⟩
              have z0 : Blk X wr.heap.size 34 #[.int .i64 0, .string ⟨#[]⟩, .string ⟨#[]⟩, .int .i64 0, .slice none 0 0] := by rw [← hX]; exact bkD (bkA (bkN rfl _ _) _)
              have z1 : Blk X (wr.heap.size + 1) 34 #[.int .i64 0, .string ⟨#[]⟩, .string ⟨#[]⟩, .int .i64 0, .slice none 0 0] := by rw [← hX]; exact bkD (bkN (World.size_alloc ..) _ _)
              have hb0 : Below wr.heap.size wr X := by rw [← hX]; exact hS2
              change wpAnyH Try.prog _ _ _ _ _ _ _ ((wr.alloc (.cells #[.int .i64 0, .string ⟨#[]⟩, .string ⟨#[]⟩, .int .i64 0, .slice none 0 0] 34)).alloc (.cells #[.int .i64 0, .string ⟨#[]⟩, .string ⟨#[]⟩, .int .i64 0, .slice none 0 0] 34)).drew
              rw [hX]
              clear hX hS0 hS1 hS2
              refine wpAnyH_ready (rs := [14]) (by kernel_rfl) (by simp) (AllReadyH.cons rfl (fun KK hK => ?_) AllReadyH.nil)
              refine wp_store_row (P := Try.prog) 34 _ _ rfl wr.heap.size #[.int .i64 xk, .string xp, .string xm, .int .i64 xn, .slice ox xl.length cx] (by kernel_rfl) (by kernel_rfl) 34 #[.int .i64 0, .string ⟨#[]⟩, .string ⟨#[]⟩, .int .i64 0, .slice none 0 0] z0 (by rw [size5]; rfl) rfl (by simp [Value.oneCell']) ?_
              refine hK.out _ _ (below_setRow hb0 (by omega) _) (fun hS3 => ?_)
              refine wpAnyH_ready (rs := [15]) (by kernel_rfl) (by simp) (AllReadyH.cons rfl (fun KK hK => ?_) AllReadyH.nil)
              refine wp_store_row (P := Try.prog) 34 _ _ rfl (wr.heap.size + 1) #[.int .i64 yk, .string yp, .string ym, .int .i64 yn, .slice oy yl.length cy] (by kernel_rfl) (by kernel_rfl) 34 #[.int .i64 0, .string ⟨#[]⟩, .string ⟨#[]⟩, .int .i64 0, .slice none 0 0] (z1.rowFar (by omega) _) (by rw [size5]; rfl) rfl (by simp [Value.oneCell']) ?_
              refine hK.out _ _ (below_setRow hS3 (by omega) _) (fun hS4 => ?_)
              refine wpAnyH_done (by kernel_rfl) ?_ _
              go_wp2_with fail
              go_meet
              exact ⟨_, _, rfl, rfl, Blk.rowFar (Blk.row z0 _) (by omega) _, Blk.row (Blk.rowFar z1 (by omega) _) _, hS4⟩
            · go_simp
              refine hK.out _ _ (hS0.alloc hS0.size _) (fun hS1 => ?_)
              refine wpAnyH_ready (rs := [12]) (by kernel_rfl) (by simp) (AllReadyH.cons rfl (fun KK hK => ?_) AllReadyH.nil)
              go_simp
              refine hK.out _ _ (hS1.alloc hS1.size _) (fun hS2 => ?_)
              obtain ⟨X, hX⟩ : ∃ X, ((wr.alloc (.cells #[.int .i64 0, .string ⟨#[]⟩, .string ⟨#[]⟩, .int .i64 0, .slice none 0 0] 34)).alloc (.cells #[.int .i64 0, .string ⟨#[]⟩, .string ⟨#[]⟩, .int .i64 0, .slice none 0 0] 34)).drew = X := ⟨_, rfl⟩
              have z0 : Blk X wr.heap.size 34 #[.int .i64 0, .string ⟨#[]⟩, .string ⟨#[]⟩, .int .i64 0, .slice none 0 0] := by rw [← hX]; exact bkD (bkA (bkN rfl _ _) _)
              have z1 : Blk X (wr.heap.size + 1) 34 #[.int .i64 0, .string ⟨#[]⟩, .string ⟨#[]⟩, .int .i64 0, .slice none 0 0] := by rw [← hX]; exact bkD (bkN (World.size_alloc ..) _ _)
              have hb0 : Below wr.heap.size wr X := by rw [← hX]; exact hS2
              change wpAnyH Try.prog _ _ _ _ _ _ _ ((wr.alloc (.cells #[.int .i64 0, .string ⟨#[]⟩, .string ⟨#[]⟩, .int .i64 0, .slice none 0 0] 34)).alloc (.cells #[.int .i64 0, .string ⟨#[]⟩, .string ⟨#[]⟩, .int .i64 0, .slice none 0 0] 34)).drew
              rw [hX]
              clear hX hS0 hS1 hS2
              refine wpAnyH_ready (rs := [14]) (by kernel_rfl) (by simp) (AllReadyH.cons rfl (fun KK hK => ?_) AllReadyH.nil)
              refine wp_store_row (P := Try.prog) 34 _ _ rfl (wr.heap.size + 1) #[.int .i64 xk, .string xp, .string xm, .int .i64 xn, .slice ox xl.length cx] (by kernel_rfl) (by kernel_rfl) 34 #[.int .i64 0, .string ⟨#[]⟩, .string ⟨#[]⟩, .int .i64 0, .slice none 0 0] z1 (by rw [size5]; rfl) rfl (by simp [Value.oneCell']) ?_
              refine hK.out _ _ (below_setRow hb0 (by omega) _) (fun hS3 => ?_)
              refine wpAnyH_ready (rs := [15]) (by kernel_rfl) (by simp) (AllReadyH.cons rfl (fun KK hK => ?_) AllReadyH.nil)
              refine wp_store_row (P := Try.prog) 34 _ _ rfl wr.heap.size #[.int .i64 yk, .string yp, .string ym, .int .i64 yn, .slice oy yl.length cy] (by kernel_rfl) (by kernel_rfl) 34 #[.int .i64 0, .string ⟨#[]⟩, .string ⟨#[]⟩, .int .i64 0, .slice none 0 0] (z0.rowFar (by omega) _) (by rw [size5]; rfl) rfl (by simp [Value.oneCell']) ?_
              refine hK.out _ _ (below_setRow hS3 (by omega) _) (fun hS4 => ?_)
              refine wpAnyH_done (by kernel_rfl) ?_ _
              go_wp2_with fail
              go_meet
              exact ⟨_, _, rfl, rfl, Blk.rowFar (Blk.row z1 _) (by omega) _, Blk.row (Blk.rowFar z0 (by omega) _) _, hS4⟩
          case rest =>
            obtain ⟨b6, b7, rfl, rfl, HB6, HB7, HBW⟩ := hcut
            have HL0X : Hid (wc.cell? ⟨g, m * 2, none⟩ = some (.slice (some a) (r.length + 1) c1)) := (HBW.out.cell (World.block_lt_of_cell? _ _ t0)).trans t0
            have HL1X : Hid (wc.cell? ⟨g, m * 2 + 1, none⟩ = some (.slice (some b) (q.length + 1) c2)) := (HBW.out.cell (World.block_lt_of_cell? _ _ t1)).trans t1
            have HS2 : Hid (StkL w0 wc B (some ⟨g, 0, none⟩) (m + 1) c (((GY.mk xk xp xm xn xl :: r, some a, c1), (GY.mk yk yp ym yn yl :: q, some b, c2)) :: S)) := HS.out.below HBW.out
            have HJ2 : Hid (J pre wc) := HJ.out _ _ _ HJP.out (KN.of_below HBW.out)
            have hng : ∀ {k t cs}, t ≠ TSD → Blk wc k t cs → k ≠ g := fun ht hb e => by
              subst e
              obtain ⟨_, _, _, _, _, ht'⟩ := HS2.out.some_ (Nat.succ_pos m)
              obtain ⟨cs, f, hh⟩ := rowD_tyIs HS2.out.row _ rfl
              unfold Blk at hb
              rw [hb] at hh
              injection hh with hh
              injection hh with _ h1
              exact ht h1
            have n6 : b6 ≠ g := hng (by decide) HB6.out
            have n7 : b7 ≠ g := hng (by decide) HB7.out
            have f0 : wc.frozen? ⟨g, m * 2, none⟩ = false := HS2.out.row.frozenAt _
            have f1 : wc.frozen? ⟨g, m * 2 + 1, none⟩ = false := HS2.out.row.frozenAt _
            have HGT2 : Hid (tyIs wc TSD g) := rowD_tyIs HS2.out.row _ rfl
            obtain ⟨ta, hta⟩ : ∃ ta, (if c1 = 1 then a else a.add 5) = ta := ⟨_, rfl⟩
            obtain ⟨tb, htb⟩ : ∃ tb, (if c2 = 1 then b else b.add 5) = tb := ⟨_, rfl⟩
            have HT1 := Lib.hid hta
            have HT2 := Lib.hid htb
            clear hta htb
            clear hng t0 t1 HS HJP HBW HL0 HL1
            obtain ⟨wd, rfl⟩ : ∃ wd, wd = wc := ⟨wc, rfl⟩
            go_wp2_with fail
            go_cut [] from 51 to 66 (fun wx => wx = ((wd.setCell ⟨g, m * 2, none⟩ (.slice (some ta) r.length (c1 - 1))).setCell ⟨g, m * 2 + 1, none⟩ (.slice (some tb) q.length (c2 - 1))).drew)
            case first =>
              refine wp_region_held_drew (S := (fun _ : World => True)) (by kernel_rfl) trivial fun _ => ?_
              refine wpAnyH_take (i := 0) (v := .pointer (some ⟨g, m * 2, none⟩)) rfl (by kernel_rfl) (by kernel_rfl) (by kernel_rfl) (fun _ _ _ h => h) (Or.inl ⟨by kernel_rfl, fun w' hw' => ?_⟩) trivial ?_
              · go_simp
              refine wpAnyH_take (i := 1) (v := .pointer (some ⟨g, m * 2, none⟩)) rfl (by kernel_rfl) (by kernel_rfl) (by kernel_rfl) (fun _ _ _ h => h) (Or.inl ⟨by kernel_rfl, fun w' hw' => ?_⟩) trivial ?_
              · go_simp
              refine wpAnyH_take (i := 2) (v := .pointer (some ⟨g, m * 2, none⟩)) rfl (by kernel_rfl) (by kernel_rfl) (by kernel_rfl) (fun _ _ _ h => h) (Or.inl ⟨by kernel_rfl, fun w' hw' => ?_⟩) trivial ?_
              · go_simp
              refine wpAnyH_take (i := 3) (v := .pointer (some ⟨g, m * 2, none⟩)) rfl (by kernel_rfl) (by kernel_rfl) (by kernel_rfl) (fun _ _ _ h => h) (Or.inl ⟨by kernel_rfl, fun w' hw' => ?_⟩) trivial ?_
              · go_simp
              refine wpAnyH_take (i := 4) (v := .pointer (some ⟨g, m * 2, none⟩)) rfl (by kernel_rfl) (by kernel_rfl) (by kernel_rfl) (fun _ _ _ h => h) (Or.inl ⟨by kernel_rfl, fun w' hw' => ?_⟩) trivial ?_
              · go_simp
              refine wpAnyH_take (i := 7) (v := .pointer (some ⟨g, m * 2, none⟩)) rfl (by kernel_rfl) (by kernel_rfl) (by kernel_rfl) (fun _ _ _ h => h) (Or.inl ⟨by kernel_rfl, fun w' hw' => ?_⟩) trivial ?_
              · go_simp
              refine wpAnyH_take (i := 8) (v := .pointer (some ⟨g, m * 2, none⟩)) rfl (by kernel_rfl) (by kernel_rfl) (by kernel_rfl) (fun _ _ _ h => h) (Or.inl ⟨by kernel_rfl, fun w' hw' => ?_⟩) trivial ?_
              · go_simp
              refine wpAnyH_take (i := 9) (v := .pointer (some ⟨g, m * 2 + 1, none⟩)) rfl (by kernel_rfl) (by kernel_rfl) (by kernel_rfl) (fun _ _ _ h => h) (Or.inl ⟨by kernel_rfl, fun w' hw' => ?_⟩) trivial ?_
              · go_simp
              have h3 : wd.drew.cell? ⟨g, m * 2, none⟩ = some (.slice (some a) (r.length + 1) c1) := HL0X.out
              have h4 : wd.drew.cell? ⟨g, m * 2 + 1, none⟩ = some (.slice (some b) (q.length + 1) c2) := HL1X.out
              refine wpAnyH_ready (rs := [5, 10]) (by kernel_rfl) (by simp) (AllReadyH.cons rfl (fun KK hK => ?_) (AllReadyH.cons rfl (fun KK hK => ?_) AllReadyH.nil))
              · go_simp
                refine hK.out _ _ trivial (fun _ => ?_)
                refine wpAnyH_take (i := 6) (v := .slice (some ta) r.length (c1 - 1)) rfl (by kernel_rfl) (by kernel_rfl) (by kernel_rfl) (fun _ _ _ h => h) (Or.inl ⟨by kernel_rfl, fun w' hw' => ?_⟩) trivial ?_
                · have et := HT1.out
                  subst et
                  by_cases h1 : c1 = 1
                  · have hr0 : r.length = 0 := by omega
                    have e0 : ((r.length : Nat) : Int) = 0 := by omega
                    have h3 : ¬ ((0 : Int) + 1 < 1) := by omega
                    simp only [hr0, h1]
                    go_simp
                  · have h2 : ¬ (c1 : Int) = 1 := by omega
                    have h3 : (1 : Int) ≤ (r.length : Int) + 1 := by omega
                    have h4 : ¬ ((r.length : Int) + 1 < 1) := by omega
                    go_simp
                refine wpAnyH_ready (rs := [10]) (by kernel_rfl) (by simp) (AllReadyH.cons rfl (fun KK hK => ?_) AllReadyH.nil)
                go_simp
                refine hK.out _ _ trivial (fun _ => ?_)
                refine wpAnyH_take (i := 11) (v := .slice (some tb) q.length (c2 - 1)) rfl (by kernel_rfl) (by kernel_rfl) (by kernel_rfl) (fun _ _ _ h => h) (Or.inl ⟨by kernel_rfl, fun w' hw' => ?_⟩) trivial ?_
                · have et := HT2.out
                  subst et
                  by_cases h1 : c2 = 1
                  · have hr0 : q.length = 0 := by omega
                    have e0 : ((q.length : Nat) : Int) = 0 := by omega
                    have h3 : ¬ ((0 : Int) + 1 < 1) := by omega
                    simp only [hr0, h1]
                    go_simp
                  · have h2 : ¬ (c2 : Int) = 1 := by omega
                    have h3 : (1 : Int) ≤ (q.length : Int) + 1 := by omega
                    have h4 : ¬ ((q.length : Int) + 1 < 1) := by omega
                    go_simp
                refine wpAnyH_take (i := 12) (v := .pointer (some ⟨g, m * 2, none⟩)) rfl (by kernel_rfl) (by kernel_rfl) (by kernel_rfl) (fun _ _ _ h => h) (Or.inl ⟨by kernel_rfl, fun w' hw' => ?_⟩) trivial ?_
                · go_simp
                refine wpAnyH_take (i := 13) (v := .pointer (some ⟨g, m * 2, none⟩)) rfl (by kernel_rfl) (by kernel_rfl) (by kernel_rfl) (fun _ _ _ h => h) (Or.inl ⟨by kernel_rfl, fun w' hw' => ?_⟩) trivial ?_
                · go_simp
                refine wpAnyH_ready (rs := [14]) (by kernel_rfl) (by simp) (AllReadyH.cons rfl (fun KK hK => ?_) AllReadyH.nil)
                have f0' : wd.drew.frozen? ⟨g, m * 2, none⟩ = false := f0
                go_simp
                refine hK.out _ _ trivial (fun _ => ?_)
                refine wpAnyH_take (i := 15) (v := .pointer (some ⟨g, m * 2, none⟩)) rfl (by kernel_rfl) (by kernel_rfl) (by kernel_rfl) (fun _ _ _ h => h) (Or.inl ⟨by kernel_rfl, fun w' hw' => ?_⟩) trivial ?_
                · go_simp
                refine wpAnyH_take (i := 16) (v := .pointer (some ⟨g, m * 2 + 1, none⟩)) rfl (by kernel_rfl) (by kernel_rfl) (by kernel_rfl) (fun _ _ _ h => h) (Or.inl ⟨by kernel_rfl, fun w' hw' => ?_⟩) trivial ?_
                · go_simp
                refine wpAnyH_ready (rs := [17]) (by kernel_rfl) (by simp) (AllReadyH.cons rfl (fun KK hK => ?_) AllReadyH.nil)
                have hne : (⟨g, m * 2, none⟩ : Addr) ≠ ⟨g, m * 2 + 1, none⟩ := fun e => by injection e with _ e _; omega
                have hc1 : ((wd.setCell ⟨g, m * 2, none⟩ (.slice (some ta) r.length (c1 - 1))).drew).cell? ⟨g, m * 2 + 1, none⟩ = some (.slice (some b) (q.length + 1) c2) := (World.cell?_setCell_other wd ⟨g, m * 2, none⟩ ⟨g, m * 2 + 1, none⟩ _ hne).trans HL1X.out
                have hf1 : ((wd.setCell ⟨g, m * 2, none⟩ (.slice (some ta) r.length (c1 - 1))).drew).frozen? ⟨g, m * 2 + 1, none⟩ = false := by
                  show (wd.setCell ⟨g, m * 2, none⟩ (.slice (some ta) r.length (c1 - 1))).frozen? ⟨g, m * 2 + 1, none⟩ = false
                  rw [World.frozen?_setCell]
                  exact f1
                go_simp
                refine hK.out _ _ trivial (fun _ => ?_)
                refine wpAnyH_done (by kernel_rfl) ?_ _
                go_wp2_with fail
                go_meet
                rfl
              · go_simp
                refine hK.out _ _ trivial (fun _ => ?_)
                refine wpAnyH_take (i := 11) (v := .slice (some tb) q.length (c2 - 1)) rfl (by kernel_rfl) (by kernel_rfl) (by kernel_rfl) (fun _ _ _ h => h) (Or.inl ⟨by kernel_rfl, fun w' hw' => ?_⟩) trivial ?_
                · have et := HT2.out
                  subst et
                  by_cases h1 : c2 = 1
                  · have hr0 : q.length = 0 := by omega
                    have e0 : ((q.length : Nat) : Int) = 0 := by omega
                    have h3 : ¬ ((0 : Int) + 1 < 1) := by omega
                    simp only [hr0, h1]
                    go_simp
                  · have h2 : ¬ (c2 : Int) = 1 := by omega
                    have h3 : (1 : Int) ≤ (q.length : Int) + 1 := by omega
                    have h4 : ¬ ((q.length : Int) + 1 < 1) := by omega
                    go_simp
                refine wpAnyH_ready (rs := [5]) (by kernel_rfl) (by simp) (AllReadyH.cons rfl (fun KK hK => ?_) AllReadyH.nil)
                go_simp
                refine hK.out _ _ trivial (fun _ => ?_)
                refine wpAnyH_take (i := 6) (v := .slice (some ta) r.length (c1 - 1)) rfl (by kernel_rfl) (by kernel_rfl) (by kernel_rfl) (fun _ _ _ h => h) (Or.inl ⟨by kernel_rfl, fun w' hw' => ?_⟩) trivial ?_
                · have et := HT1.out
                  subst et
                  by_cases h1 : c1 = 1
                  · have hr0 : r.length = 0 := by omega
                    have e0 : ((r.length : Nat) : Int) = 0 := by omega
                    have h3 : ¬ ((0 : Int) + 1 < 1) := by omega
                    simp only [hr0, h1]
                    go_simp
                  · have h2 : ¬ (c1 : Int) = 1 := by omega
                    have h3 : (1 : Int) ≤ (r.length : Int) + 1 := by omega
                    have h4 : ¬ ((r.length : Int) + 1 < 1) := by omega
                    go_simp
                refine wpAnyH_take (i := 12) (v := .pointer (some ⟨g, m * 2, none⟩)) rfl (by kernel_rfl) (by kernel_rfl) (by kernel_rfl) (fun _ _ _ h => h) (Or.inl ⟨by kernel_rfl, fun w' hw' => ?_⟩) trivial ?_
                · go_simp
                refine wpAnyH_take (i := 13) (v := .pointer (some ⟨g, m * 2, none⟩)) rfl (by kernel_rfl) (by kernel_rfl) (by kernel_rfl) (fun _ _ _ h => h) (Or.inl ⟨by kernel_rfl, fun w' hw' => ?_⟩) trivial ?_
                · go_simp
                refine wpAnyH_ready (rs := [14]) (by kernel_rfl) (by simp) (AllReadyH.cons rfl (fun KK hK => ?_) AllReadyH.nil)
                have f0' : wd.drew.frozen? ⟨g, m * 2, none⟩ = false := f0
                go_simp
                refine hK.out _ _ trivial (fun _ => ?_)
                refine wpAnyH_take (i := 15) (v := .pointer (some ⟨g, m * 2, none⟩)) rfl (by kernel_rfl) (by kernel_rfl) (by kernel_rfl) (fun _ _ _ h => h) (Or.inl ⟨by kernel_rfl, fun w' hw' => ?_⟩) trivial ?_
                · go_simp
                refine wpAnyH_take (i := 16) (v := .pointer (some ⟨g, m * 2 + 1, none⟩)) rfl (by kernel_rfl) (by kernel_rfl) (by kernel_rfl) (fun _ _ _ h => h) (Or.inl ⟨by kernel_rfl, fun w' hw' => ?_⟩) trivial ?_
                · go_simp
                refine wpAnyH_ready (rs := [17]) (by kernel_rfl) (by simp) (AllReadyH.cons rfl (fun KK hK => ?_) AllReadyH.nil)
                have hne : (⟨g, m * 2, none⟩ : Addr) ≠ ⟨g, m * 2 + 1, none⟩ := fun e => by injection e with _ e _; omega
                have hc1 : ((wd.setCell ⟨g, m * 2, none⟩ (.slice (some ta) r.length (c1 - 1))).drew).cell? ⟨g, m * 2 + 1, none⟩ = some (.slice (some b) (q.length + 1) c2) := (World.cell?_setCell_other wd ⟨g, m * 2, none⟩ ⟨g, m * 2 + 1, none⟩ _ hne).trans HL1X.out
                have hf1 : ((wd.setCell ⟨g, m * 2, none⟩ (.slice (some ta) r.length (c1 - 1))).drew).frozen? ⟨g, m * 2 + 1, none⟩ = false := by
                  show (wd.setCell ⟨g, m * 2, none⟩ (.slice (some ta) r.length (c1 - 1))).frozen? ⟨g, m * 2 + 1, none⟩ = false
                  rw [World.frozen?_setCell]
                  exact f1
                go_simp
                refine hK.out _ _ trivial (fun _ => ?_)
                refine wpAnyH_done (by kernel_rfl) ?_ _
                go_wp2_with fail
                go_meet
                rfl
            case rest =>
              have HS3 : Hid (StkL w0 wc B (some ⟨g, 0, none⟩) (m + 1) c (((r, some ta, c1 - 1), (q, some tb, c2 - 1)) :: S)) := by
                have t1 := HE1.out.tail
                have t2 := HE2.out.tail
                rw [HT1.out] at t1
                rw [HT2.out] at t2
                have h := HS2.out.put (e' := ((r, some ta, c1 - 1), (q, some tb, c2 - 1))) ⟨t1, t2⟩
                rw [hcut]
                exact ⟨h.row, h.len, h.ents⟩
              have HJ3 : Hid (J pre wc) := HJ.out _ _ _ HJ2.out (by rw [hcut]; exact (KN.store2 HGB.out HGT2.out _ _ _ _).drew)
              have hb6 : Blk wc b6 34 #[.int .i64 xk, .string xp, .string xm, .int .i64 xn, .slice ox xl.length cx] := by rw [hcut]; exact bkD ((HB6.out.far (p := ⟨g, m * 2, none⟩) n6 _).far (p := ⟨g, m * 2 + 1, none⟩) n6 _)
              have hb7 : Blk wc b7 34 #[.int .i64 yk, .string yp, .string ym, .int .i64 yn, .slice oy yl.length cy] := by rw [hcut]; exact bkD ((HB7.out.far (p := ⟨g, m * 2, none⟩) n7 _).far (p := ⟨g, m * 2 + 1, none⟩) n7 _)
              have HB6' := Lib.hid hb6
              have HB7' := Lib.hid hb7
              have hc6 := hb6.cell
              have hc7 := hb7.cell
              have HBW3 : Hid (B ≤ wc.heap.size) := (HJB.out _ _ HJ3.out).2
              clear HB6 HB7 HL0X HL1X HS2 HJ2 n6 n7 f0 f1 HGT2 HT1 HT2 HE1 HE2 hb6 hb7 hcut
              obtain ⟨gg, rfl⟩ : ∃ g', gk = g' + 1 := ⟨gk - 1, by have h := HG.out; omega⟩
              by_cases h5 : xk = 5 ∧ yk = 5
              · obtain ⟨rfl, rfl⟩ := h5
                obtain ⟨i0, hi, hz0, hz1, hz2⟩ := info_parts infoSD
                have HN := Lib.hid (bkC wc TSD [.slice ox xl.length cx, .slice oy yl.length cy])
                have HP2 : Hid (pre ++ remL (((xl, ox, cx), (yl, oy, cy)) :: ((r, some ta, c1 - 1), (q, some tb, c2 - 1)) :: S) = prYs P A) := by
                  show _ = _
                  rw [← HP.out]
                  simp only [remL]
                  rw [show prYs (GY.mk 5 xp xm xn xl :: r) (GY.mk 5 yp ym yn yl :: q) = prYs xl yl ++ prYs r q by rw [prYs, prY, if_pos ⟨rfl, rfl⟩], List.append_assoc]
                have HM2 : Hid (m + 1 + 1 + cntL (((xl, ox, cx), (yl, oy, cy)) :: ((r, some ta, c1 - 1), (q, some tb, c2 - 1)) :: S) ≤ cntYs P + 1) := by have := HM.out; show _ ≤ _; simp only [cntL, cntYs, cntY] at this ⊢; omega
                have HG2 : Hid (2 * cntL (((xl, ox, cx), (yl, oy, cy)) :: ((r, some ta, c1 - 1), (q, some tb, c2 - 1)) :: S) + (m + 1 + 1) ≤ gg) := by have := HG.out; show _ ≤ _; simp only [cntL, cntYs, cntY] at this ⊢; omega
                clear HP HM HG
                go_wp2_with (at_builtin; refine wpList_append_tells wc rfl _ _ 80 rfl B TSD i0 (.agg #[.slice none 0 0, .slice none 0 0]) 2 48 Try.underlying80 hi hz0 hz1 hz2 rfl (by decide) (.slice (some ⟨g, 0, none⟩) (m + 1) c) (m + 1) _ rfl HS3.out.row _ [.slice ox xl.length cx, .slice oy yl.length cy] rfl rfl HN.out (by simp [Value.oneCell']) (by unfold maxLen; omega) (by omega) HBW3.out ?_; intro o5 c5 w5 hrow hT hfr; have HROW := Lib.hid hrow; have HT5 := Lib.hid hT; clear hrow hT hfr)
                go_roundg gg
                case measure => omega
                case rel =>
                  refine ⟨pre, ((xl, ox, cx), (yl, oy, cy)) :: ((r, some ta, c1 - 1), (q, some tb, c2 - 1)) :: S, o5, m + 1 + 1, c5, rfl, HP2, HJ.out _ _ _ HJ3.out (HT5.out.mono fun k _ hk => ⟨(HS3.out.row.lt k hk).1, rowD_tyIs HS3.out.row k hk⟩), ?_, HM2, HG2⟩
                  exact StkL.push (o := none) (c := 0) HROW.out HS3.out.len ⟨HEX.out, HEY.out⟩ HS3.out.ents
              · have hprY : prY (GY.mk xk xp xm xn xl) (GY.mk yk yp ym yn yl) = [(GY.mk xk xp xm xn xl, GY.mk yk yp ym yn yl)] := by rw [prY, if_neg h5]
                have HP2 : Hid ((pre ++ [(GY.mk xk xp xm xn xl, GY.mk yk yp ym yn yl)]) ++ remL (((r, some ta, c1 - 1), (q, some tb, c2 - 1)) :: S) = prYs P A) := by
                  show _ = _
                  rw [← HP.out]
                  simp only [remL]
                  rw [show prYs (GY.mk xk xp xm xn xl :: r) (GY.mk yk yp ym yn yl :: q) = [(GY.mk xk xp xm xn xl, GY.mk yk yp ym yn yl)] ++ prYs r q by rw [prYs, hprY]]
                  simp only [List.append_assoc]
                have HM2 : Hid (m + 1 + cntL (((r, some ta, c1 - 1), (q, some tb, c2 - 1)) :: S) ≤ cntYs P + 1) := by have := HM.out; show _ ≤ _; simp only [cntL, cntYs, cntY] at this ⊢; omega
                have HG2 : Hid (2 * cntL (((r, some ta, c1 - 1), (q, some tb, c2 - 1)) :: S) + (m + 1) ≤ gg) := by have := HG.out; show _ ≤ _; simp only [cntL, cntYs, cntY] at this ⊢; omega
                have hpre : pre ++ [(GY.mk xk xp xm xn xl, GY.mk yk yp ym yn yl)] <+: prYs P A := ⟨_, HP2.out⟩
                obtain ⟨fn, tmps, assign, body, hyr, hR⟩ := HY.out pre (GY.mk xk xp xm xn xl, GY.mk yk yp ym yn yl) _ _ wc HJ3.out HXX.out HYY.out hpre
                have HRR := Lib.hid hR
                have HC6 : Hid (∀ (j : Nat) (v : Value), [.int .i64 xk, .string xp, .string xm, .int .i64 xn, .slice ox xl.length cx][j]? = some v → wc.cell? ((⟨b6, 0, none⟩ : Addr).add j) = some v) := bk0 HB6'.out
                have HC7 : Hid (∀ (j : Nat) (v : Value), [.int .i64 yk, .string yp, .string ym, .int .i64 yn, .slice oy yl.length cy][j]? = some v → wc.cell? ((⟨b7, 0, none⟩ : Addr).add j) = some v) := bk0 HB7'.out
                clear HP HM HG hR hpre hprY
                have hkk : (xk = 5 ∧ (yk == 5) = false) ∨ (xk == 5) = false := by
                  by_cases h : xk = 5
                  · exact .inl ⟨h, beq_eq_false_iff_ne.2 fun e => h5 ⟨h, e⟩⟩
                  · exact .inr (beq_eq_false_iff_ne.2 h)
                clear h5
                rcases hkk with ⟨hx5, hy5⟩ | hx5
                · have hx5' : (xk == 5) = true := by simp [hx5]
                  clear hx5
                  go_upto_region 9 with fail
                  refine (wpIn_wide (n := n)).1 ?_
                  clear hc6 hc7
                  gi_wp2_with (first
                    | (refine boxLoadIn 34 5 size5 Try.underlying34 rfl _ rfl ⟨b6, 0, none⟩ rfl (cs := [.int .i64 xk, .string xp, .string xm, .int .i64 xn, .slice ox xl.length cx]) HC6.out rfl ?_)
                    | (refine boxLoadIn 34 5 size5 Try.underlying34 rfl _ rfl ⟨b7, 0, none⟩ rfl (cs := [.int .i64 yk, .string yp, .string ym, .int .i64 yn, .slice oy yl.length cy]) HC7.out rfl ?_))
                  refine HRR.out.mono ?_
                  rintro e w4 ⟨rfl, hJ4, hk4⟩
                  have HJ4 := Lib.hid hJ4
                  have HS4 := Lib.hid (HS3.out.body hk4)
                  clear hJ4 hk4 hyr HRR HC6 HC7 HB6' HB7'
                  gi_wp2
                  go_wp2
                  go_roundg gg
                  case measure => omega
                  case rel => exact ⟨_, _, _, m + 1, c, rfl, HP2, HJ4, HS4, HM2, HG2⟩
                · go_upto_region 9 with fail
                  refine (wpIn_wide (n := n)).1 ?_
                  clear hc6 hc7
                  gi_wp2_with (first
                    | (refine boxLoadIn 34 5 size5 Try.underlying34 rfl _ rfl ⟨b6, 0, none⟩ rfl (cs := [.int .i64 xk, .string xp, .string xm, .int .i64 xn, .slice ox xl.length cx]) HC6.out rfl ?_)
                    | (refine boxLoadIn 34 5 size5 Try.underlying34 rfl _ rfl ⟨b7, 0, none⟩ rfl (cs := [.int .i64 yk, .string yp, .string ym, .int .i64 yn, .slice oy yl.length cy]) HC7.out rfl ?_))
                  refine HRR.out.mono ?_
                  rintro e w4 ⟨rfl, hJ4, hk4⟩
                  have HJ4 := Lib.hid hJ4
                  have HS4 := Lib.hid (HS3.out.body hk4)
                  clear hJ4 hk4 hyr HRR HC6 HC7 HB6' HB7'
                  gi_wp2
                  go_wp2
                  go_roundg gg
                  case measure => omega
                  case rel => exact ⟨_, _, _, m + 1, c, rfl, HP2, HJ4, HS4, HM2, HG2⟩
end Go.Proofs.Ytlakmniaocpaaaa
