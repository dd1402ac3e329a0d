/-
  The document's own step that puts a name in its place. Condition: at most a million names.
-/
import Derived.Test.YtgnhcaepkgbieaaNmb
namespace Go.Proofs.Ytgnhcaepkgbieaa
open Go.RowKit

def bstep (s : ByteArray) (st : List ByteArray × Bool) (a : ByteArray) : List ByteArray × Bool := if !st.2 && lessN (nm s) (nm a) then (st.1 ++ [s] ++ [a], true) else (st.1 ++ [a], st.2)
def withB (l : List ByteArray) (s : ByteArray) : List ByteArray := let st := l.foldl (bstep s) ([], decide (nm s ∈ nms l)); if st.2 then st.1 else st.1 ++ [s]
theorem nms_app (a b : List ByteArray) : nms (a ++ b) = nms a ++ nms b := List.map_append
theorem bstep_nm (s : ByteArray) (st : List ByteArray × Bool) (a : ByteArray) : (nms (bstep s st a).1, (bstep s st a).2) = wstep (nm s) (nms st.1, st.2) (nm a) := by
  unfold bstep wstep
  by_cases h : (!st.2 && lessN (nm s) (nm a)) = true
  · rw [if_pos h, if_pos h, nms_app, nms_app]; rfl
  · rw [if_neg h, if_neg h, nms_app]; rfl
theorem bfold_nm (s : ByteArray) : ∀ (l : List ByteArray) (st : List ByteArray × Bool), (nms (l.foldl (bstep s) st).1, (l.foldl (bstep s) st).2) = (nms l).foldl (wstep (nm s)) (nms st.1, st.2)
  | [], st => rfl
  | a :: r, st => by
    rw [List.foldl_cons, bfold_nm s r, bstep_nm]
    rfl
theorem withB_nm (l : List ByteArray) (s : ByteArray) : nms (withB l s) = withF (nms l) (nm s) := by
  unfold withB withF wend
  have h := bfold_nm s l ([], decide (nm s ∈ nms l))
  rw [show (nms ([] : List ByteArray)) = [] from rfl] at h
  rw [← h]
  simp only
  split
  · rfl
  · rw [nms_app]; rfl
theorem bstep_len (s : ByteArray) (st : List ByteArray × Bool) (a : ByteArray) : (bstep s st a).1.length ≤ st.1.length + (if st.2 then 1 else 2) ∧ ((bstep s st a).2 = st.2 → (bstep s st a).1.length = st.1.length + 1) := by
  unfold bstep
  obtain ⟨l, d⟩ := st
  cases d <;> cases h : lessN (nm s) (nm a) <;> simp
theorem bfold_len (s : ByteArray) : ∀ (l : List ByteArray) (st : List ByteArray × Bool), (l.foldl (bstep s) st).1.length ≤ st.1.length + l.length + 1 ∧ (st.2 = true → (l.foldl (bstep s) st).1.length ≤ st.1.length + l.length)
  | [], st => by simp
  | a :: r, st => by
    rw [List.foldl_cons]
    obtain ⟨h1, h2⟩ := bfold_len s r (bstep s st a)
    obtain ⟨g1, g2⟩ := bstep_len s st a
    have ht : (bstep s st a).2 = true ∨ (bstep s st a).2 = st.2 := by
      unfold bstep
      split
      · exact .inl rfl
      · exact .inr rfl
    simp only [List.length_cons]
    cases hd : st.2 with
    | true =>
      have e : (bstep s st a).2 = true := by
        rcases ht with ht | ht
        · exact ht
        · rw [ht, hd]
      have := h2 e
      have := g2 (by rw [e, hd])
      exact ⟨by omega, fun _ => by omega⟩
    | false =>
      refine ⟨?_, fun h => by cases h⟩
      rw [hd] at g1
      simp only [Bool.false_eq_true, if_false] at g1
      rcases ht with ht | ht
      · have := h2 ht
        omega
      · have := g2 ht
        omega

set_option maxRecDepth 100000 in
set_option maxHeartbeats 4000000 in
/-- A name put in its place. -/
theorem withR_any (xs : List ByteArray) (o : Option Addr) (c : Nat) (s : ByteArray) (w : World) (h : AtS w o xs) (hl : xs.length ≤ 900000) :
    Calls Try.prog 29 #[.slice o xs.length c, .string s] w fun e w' => ∃ o' c' n', e = .returned (.slice o' n' c') ∧ (withB xs s).length = n' ∧ w'.ownsRow w.heap.size 9 1 (.slice o' n' c') n' (sC (withB xs s)) ∧ Below w.heap.size w w' := by
  have HX := Lib.hid h
  have HH := Lib.hid (hasR_any xs o c s w h (by omega))
  have HL := Lib.hid (fun j => (bfold_len s (xs.take j) ([], decide (nm s ∈ nms xs))).1)
  have HE : Hid (withB xs s = if (xs.foldl (bstep s) ([], decide (nm s ∈ nms xs))).2 then (xs.foldl (bstep s) ([], decide (nm s ∈ nms xs))).1 else (xs.foldl (bstep s) ([], decide (nm s ∈ nms xs))).1 ++ [s]) := rfl
  generalize withB xs s = res at *
  generalize decide (nm s ∈ nms xs) = d0 at *
  clear h
  go_enter Try.func29, Try.ntmps29
  go_wp2_with fail
  refine HH.out.mono ?_
  rintro e w1 ⟨rfl, hw⟩
  have hw' := hw.symm
  subst hw'
  have H1 := Lib.hid (Below.refl w.heap.size w)
  clear HH hw
  go_wp2_with fail
  go_loopw [5, 6, 7] (fun v d i wr => ∃ (j : Nat) (L : List ByteArray) (b : Bool) (o' : Option Addr) (n cap : Nat), v = .slice o' n cap ∧ i = .int .i64 (j : Nat) ∧ d = .bool b ∧ Hid (L.length = n) ∧ Hid (j ≤ xs.length) ∧ Hid ((xs.take j).foldl (bstep s) ([], d0) = (L, b)) ∧ Hid (wr.ownsRow w.heap.size 9 1 (.slice o' n cap) n (sC L)) ∧ Hid (Below w.heap.size w wr)) (fun _ _ i _ => xs.length - (RowKit.intOf i).toNat)
  case atStart => exact ⟨0, [], d0, none, 0, 0, rfl, rfl, rfl, by show _ = _; rfl, Nat.zero_le _, by show _ = _; rfl, World.ownsRow_nil _ _ _ _, H1.out⟩
  case round =>
    obtain ⟨j, L, b, o', n, cap, rfl, rfl, rfl, HN, HJ, HF, HR, HB⟩ := hrel
    have hLL := HL.out j
    rw [HF.out, List.length_take] at hLL
    simp only [List.length_nil] at hLL
    have HLL : Hid (n ≤ 900001) := by have := HN.out; show _ ≤ _; omega
    clear hLL
    have hbs := Lib.hid HB.out.size
    by_cases hj : j < xs.length
    · have hj' : ((j : Int) < (xs.length : Int)) := by omega
      have hj0 : (0 : Int) ≤ (j : Int) := by omega
      have hj1 : (j : Int) + 1 ≤ 9223372036854775807 := by omega
      have hj2 : -9223372036854775808 ≤ (j : Int) + 1 := by omega
      obtain ⟨a, ho, hc⟩ := HX.out j _ (List.getElem?_eq_getElem hj)
      subst ho
      have HC := Lib.hid hc
      have hq := (HB.out.cell (World.block_lt_of_cell? _ _ hc)).trans hc
      have ht : (xs.take (j + 1)).foldl (bstep s) ([], d0) = bstep s (L, b) xs[j] := by
        rw [List.take_add_one, List.getElem?_eq_getElem hj, Option.toList_some, List.foldl_append, HF.out]
        rfl
      have HT := Lib.hid ht
      have he := nm_less s xs[j]
      clear hc ht
      generalize xs[j] = y at *
      cases b with
      | true =>
        have HT' : Hid ((xs.take (j + 1)).foldl (bstep s) ([], d0) = (L ++ [y], true)) := HT.out
        clear HT he
        go_wp2_with (refine wpList_append_name rfl _ _ rfl w.heap.size (.slice o' n cap) n L y rfl HN.out HR.out rfl hbs.out (by have := HLL.out; omega) ?_; intro o2 cap2 w' hrow hbel; have HR' := Lib.hid hrow; have HB' := Lib.hid (HB.out.trans hbel); clear hrow hbel)
        case roundEnd => exact ⟨⟨j + 1, L ++ [y], true, o2, n + 1, cap2, rfl, by push_cast; rfl, rfl, by have := HN.out; show _ = _; simp; omega, by show _ ≤ _; omega, HT', HR', HB'⟩, by simp [RowKit.intOf]; omega⟩
      | false =>
        cases hlt : lessN (nm s) (nm y) with
        | false =>
          have HT' : Hid ((xs.take (j + 1)).foldl (bstep s) ([], d0) = (L ++ [y], false)) := by
            refine HT.out.trans ?_
            unfold bstep
            rw [hlt]; rfl
          rw [hlt] at he
          clear HT hlt
          go_wp2_with (refine wpList_append_name rfl _ _ rfl w.heap.size (.slice o' n cap) n L y rfl HN.out HR.out rfl hbs.out (by have := HLL.out; omega) ?_; intro o2 cap2 w' hrow hbel; have HR' := Lib.hid hrow; have HB' := Lib.hid (HB.out.trans hbel); clear hrow hbel)
          case roundEnd => exact ⟨⟨j + 1, L ++ [y], false, o2, n + 1, cap2, rfl, by push_cast; rfl, rfl, by have := HN.out; show _ = _; simp; omega, by show _ ≤ _; omega, HT', HR', HB'⟩, by simp [RowKit.intOf]; omega⟩
        | true =>
          have HT' : Hid ((xs.take (j + 1)).foldl (bstep s) ([], d0) = (L ++ [s] ++ [y], true)) := by
            refine HT.out.trans ?_
            unfold bstep
            rw [hlt]; rfl
          rw [hlt] at he
          clear HT hlt
          have HNs : Hid ((L ++ [s]).length = n + 1) := by have := HN.out; show _ = _; simp; omega
          go_wp2_with (first
            | (refine wpList_append_name rfl _ _ rfl w.heap.size (.slice o2 (n + 1) cap2) (n + 1) (L ++ [s]) y rfl HNs.out HR'.out rfl hbs'.out (by have := HLL.out; omega) ?_; intro o3 cap3 w'' hrow hbel; have HR'' := Lib.hid hrow; have HB'' := Lib.hid (HB'.out.trans hbel); clear hrow hbel)
            | (refine wpList_append_name rfl _ _ rfl w.heap.size (.slice o' n cap) n L s rfl HN.out HR.out rfl hbs.out (by have := HLL.out; omega) ?_; intro o2 cap2 w' hrow hbel; have HR' := Lib.hid hrow; have HB' := Lib.hid (HB.out.trans hbel); have hbs' := Lib.hid HB'.out.size; have hq' := (HB'.out.cell (World.block_lt_of_cell? _ _ HC.out)).trans HC.out; clear hrow hbel))
          case roundEnd => exact ⟨⟨j + 1, L ++ [s] ++ [y], true, o3, n + 1 + 1, cap3, rfl, by push_cast; rfl, rfl, by have := HN.out; show _ = _; simp; omega, by show _ ≤ _; omega, HT', HR'', HB''⟩, by simp [RowKit.intOf]; omega⟩
    · have hj' : ¬ ((j : Int) < (xs.length : Int)) := by omega
      have hf := HF.out
      rw [List.take_of_length_le (by omega)] at hf
      have hE := HE.out
      rw [hf] at hE
      cases b with
      | true =>
        have HE' : Hid (res = L) := hE
        clear hE hf
        go_wp2
        go_ret
        exact ⟨o', cap, n, rfl, by rw [HE'.out]; exact HN.out, by rw [HE'.out]; exact HR.out, HB.out⟩
      | false =>
        have HE' : Hid (res = L ++ [s]) := hE
        clear hE hf
        go_wp2_with (refine wpList_append_name rfl _ _ rfl w.heap.size (.slice o' n cap) n L s rfl HN.out HR.out rfl hbs.out (by have := HLL.out; omega) ?_; intro o2 cap2 w' hrow hbel; have HR' := Lib.hid hrow; have HB' := Lib.hid (HB.out.trans hbel); clear hrow hbel)
        go_ret
        exact ⟨o2, cap2, n + 1, rfl, by have := HN.out; rw [HE'.out]; simp; omega, by rw [HE'.out]; exact HR'.out, HB'.out⟩

end Go.Proofs.Ytgnhcaepkgbieaa
