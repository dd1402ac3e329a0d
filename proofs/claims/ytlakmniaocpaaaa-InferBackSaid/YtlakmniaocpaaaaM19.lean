/-
  What arguments tell: the program's answer. Condition: at most a million parts, names of at most 2^48 bytes.
-/
import Derived.Test.YtlakmniaocpaaaaM15
import Derived.Test.YtlakmniaocpaaaaM17
namespace Go.Proofs.Ytlakmniaocpaaaa
open Go.RowKit Go.Shelf
open Go.Lib hiding intOf
attribute [local go_sem] Oper.semAt_some
/-- What was told so far. -/
structure UnI (w0 w : World) (pre : PL) (W : World) : Prop where
  map : ∃ k, k ≤ pre.length ∧ IsMF w0 W w.heap.size k (foldM noM pre)
  box : Blk W (w.heap.size + 1) TM #[.map (some w.heap.size)]
  below : Below w.heap.size w W
theorem IsMF.blk {w0 w : World} {b n : Nat} {F : FM} (h : IsMF w0 w b n F) : ∃ es c, w.heap[b]? = some (.map es c) := by
  obtain ⟨G, h, _⟩ := h
  exact h.blk
theorem IsMF.same {w0 w w' : World} {b n : Nat} {F : FM} (h : IsMF w0 w b n F) (he : w'.heap[b]? = w.heap[b]?) : IsMF w0 w' b n F := by
  obtain ⟨G, h, r⟩ := h
  exact ⟨G, h.same he, r⟩
theorem IsMF.mono {w0 w : World} {b n n' : Nat} {F : FM} (h : IsMF w0 w b n F) (hn : n ≤ n') : IsMF w0 w b n' F := by
  obtain ⟨G, h, r⟩ := h
  exact ⟨G, h.mono hn, r⟩
theorem UnI.turn {w0 w W W' : World} {pre : PL} (h : UnI w0 w pre W) (hT : Turn (fun k => w.heap.size ≤ k ∧ k ≠ w.heap.size ∧ ∀ cs t f, W.heap[k]? = some (.cells cs t f) → t = TSD) W W') : UnI w0 w pre W' := by
  obtain ⟨k, hk, hm⟩ := h.map
  refine ⟨⟨k, hk, hm.same (hT.block _ ?_ fun hn => hn.2.1 rfl)⟩, h.box.turn hT fun hn => ?_, h.below.trans (hT.below h.below.size fun k hk => hk.1)⟩
  · obtain ⟨es, c, hb⟩ := hm.blk
    exact (Array.getElem?_eq_some_iff.1 hb).1
  · have := hn.2.2 _ _ _ h.box
    revert this
    decide
theorem UnI.kn {w0 w : World} : ∀ pre W W', UnI w0 w pre W → KN w.heap.size W W' → UnI w0 w pre W' := fun pre W W' h hk => h.turn (hk.mono fun k _ hn => by
  obtain ⟨h1, cs', f', e'⟩ := hn
  refine ⟨h1, fun e => ?_, fun cs t f e => ?_⟩
  · obtain ⟨_, _, hm⟩ := h.map
    obtain ⟨es, c, hb⟩ := hm.blk
    rw [e, hb] at e'
    cases e'
  · rw [e'] at e
    injection e with e
    injection e with _ e
    exact e.symm)
theorem UnI.own {w0 w : World} {D : Nat} (hD : w.heap.size + 1 < D) : OwnFrom D (UnI w0 w) := fun s W W' row hs hg hr =>
  hs.turn ((Turn.of_grown hg).mono fun k _ hk => by
    obtain ⟨h1, o, ho, hc⟩ := hr k hk.symm
    refine ⟨by omega, by omega, fun cs t f e => ?_⟩
    rw [ho] at e
    cases e
    cases hc)
/-- A round's end, with nothing told. -/
theorem UnI.keep {w0 w W W' : World} {pre : PL} {x : GY × GY} (h : UnI w0 w pre W) (hs : stepM (foldM noM pre) x = foldM noM pre) (hb : Below W.heap.size W W') : UnI w0 w (pre ++ [x]) W' := by
  obtain ⟨k, hk, hm⟩ := h.map
  obtain ⟨es, c, hbk⟩ := hm.blk
  refine ⟨⟨k, by rw [List.length_append]; omega, ?_⟩, (hb.block _ h.box.lt).trans h.box, h.below.trans (hb.mono h.below.size)⟩
  rw [fold_snoc, hs]
  exact hm.same (hb.block _ (Array.getElem?_eq_some_iff.1 hbk).1)
mutual
theorem tell_fit {q : Nat} : ∀ {out : List GY} {p a : GY}, FitYs q out → FitY q a → FitYs q (tellY out p a)
  | out, .mk k _ _ n l, .mk k' p' m' n' l', ho, ha => by
    rw [tellY]
    split
    · split
      · exact set_fit ho _ ha
      · exact ho
    · split
      · unfold FitY at ha
        exact tells_fit ho ha.2.2.2
      · exact ho
theorem tells_fit {q : Nat} : ∀ {out l r : List GY}, FitYs q out → FitYs q r → FitYs q (tellsY out l r)
  | out, a :: r, b :: s, ho, hr => by
    unfold FitYs at hr
    rw [tellsY]
    exact tells_fit (tell_fit ho hr.1) hr.2
  | out, [], r, ho, _ => by rw [show tellsY out [] r = out by rw [tellsY]; simp]; exact ho
  | out, _ :: _, [], ho, _ => by rw [show tellsY out (_ :: _) [] = out by rw [tellsY]; simp]; exact ho
theorem set_fit {q : Nat} : ∀ {l : List GY}, FitYs q l → ∀ (i : Nat) {y : GY}, FitY q y → FitYs q (l.set i y)
  | [], h, _, _, _ => h
  | x :: r, h, 0, y, hy => by
    unfold FitYs at h
    show FitYs q (y :: r)
    unfold FitYs
    exact ⟨hy, h.2⟩
  | x :: r, h, i + 1, y, hy => by
    unfold FitYs at h
    show FitYs q (x :: r.set i y)
    unfold FitYs
    exact ⟨h.1, set_fit h.2 i hy⟩
end
theorem FitYs.of {q : Nat} : ∀ {l : List GY}, (∀ y ∈ l, FitY q y) → FitYs q l
  | [], _ => by unfold FitYs; trivial
  | y :: r, h => by
    unfold FitYs
    exact ⟨h y (List.mem_cons_self ..), FitYs.of fun z hz => h z (List.mem_cons_of_mem _ hz)⟩
theorem told_fit {q : Nat} {P A : List GY} {n : Int} (h : FitYs q A) : FitYs q (toldY P A n) := by
  unfold toldY unifyY
  split
  · refine tells_fit (FitYs.of fun y hy => ?_) h
    obtain ⟨_, rfl⟩ := List.mem_replicate.1 hy
    unfold noY FitY
    exact ⟨Nat.zero_le _, Nat.zero_le _, Nat.zero_le _, by unfold FitYs; trivial⟩
  · unfold FitYs; trivial
mutual
theorem wf_pr : ∀ {x y : GY}, WfY x → ∀ z ∈ prY x y, WfY z.1
  | .mk k p m n l, .mk k' p' m' n' l', h, z, hz => by
    rw [prY] at hz
    split at hz
    · exact wf_prs h.args z hz
    · rw [List.mem_singleton.1 hz]
      exact h
theorem wf_prs : ∀ {l q : List GY}, WfYs l → ∀ z ∈ prYs l q, WfY z.1
  | x :: r, y :: q, h, z, hz => by
    rw [prYs] at hz
    unfold WfYs at h
    rcases List.mem_append.1 hz with hz | hz
    · exact wf_pr h.1 z hz
    · exact wf_prs h.2 z hz
  | [], q, _, z, hz => by rw [prs_nil] at hz; cases hz
  | _ :: _, [], _, z, hz => by rw [prs_nil'] at hz; cases hz
end
mutual
theorem fit_pr {q : Nat} : ∀ {x y : GY}, FitY q y → ∀ z ∈ prY x y, FitY q z.2
  | .mk k p m n l, .mk k' p' m' n' l', h, z, hz => by
    rw [prY] at hz
    split at hz
    · unfold FitY at h
      exact fit_prs h.2.2.2 z hz
    · rw [List.mem_singleton.1 hz]
      exact h
theorem fit_prs {q : Nat} : ∀ {l r : List GY}, FitYs q r → ∀ z ∈ prYs l r, FitY q z.2
  | x :: l, y :: r, h, z, hz => by
    rw [prYs] at hz
    unfold FitYs at h
    rcases List.mem_append.1 hz with hz | hz
    · exact fit_pr h.1 z hz
    · exact fit_prs h.2 z hz
  | [], r, _, z, hz => by rw [prs_nil] at hz; cases hz
  | _ :: _, [], _, z, hz => by rw [prs_nil'] at hz; cases hz
end
theorem fold_mem : ∀ (L : PL) (F : FM) {x : Int} {y : GY}, foldM F L x = some y → F x = some y ∨ ∃ z ∈ L, z.2 = y
  | [], F, x, y, h => .inl h
  | z :: L, F, x, y, h => by
    rcases fold_mem L (stepM F z) h with h | ⟨u, hu, e⟩
    · unfold stepM at h
      split at h
      · unfold putM at h
        split at h
        · injection h with h
          exact .inr ⟨z, List.mem_cons_self .., h⟩
        · exact .inl h
      · exact .inl h
    · exact .inr ⟨u, List.mem_cons_of_mem _ hu, e⟩
/-- Some have been put in. -/
structure TyL (W wr : World) (N j : Nat) (T : List GY) : Prop where
  below : Below W.heap.size W wr
  row : ∃ cur : List Value, Blk wr W.heap.size 34 cur.toArray ∧ cur.length = N * 5 ∧ ∀ (i : Nat) (y : GY), i < j → T[i]? = some y → ∃ c0 c1 c2 c3 c4 : Value, (∀ (e : Nat) (v : Value), [c0, c1, c2, c3, c4][e]? = some v → cur[i * 5 + e]? = some v) ∧ IsYF wr (W.heap.size + 1) y (.agg #[c0, c1, c2, c3, c4])
theorem TyL.step {W wr w' : World} {N j : Nat} {T : List GY} (h : TyL W wr N j T) (hb : Below wr.heap.size wr w') : TyL W w' N j T := by
  obtain ⟨cur, h1, h2, h3⟩ := h.row
  refine ⟨h.below.trans (hb.mono h.below.size), cur, (hb.block _ h1.lt).trans h1, h2, fun i y hi hy => ?_⟩
  obtain ⟨c0, c1, c2, c3, c4, hc, hy⟩ := h3 i y hi hy
  exact ⟨c0, c1, c2, c3, c4, hc, hy.below hb⟩
theorem TyL.put {W wr : World} {N j : Nat} {T : List GY} {x : GY} {b0 b1 b2 b3 b4 : Value} {cur : List Value} (h : TyL W wr N j T) (hx : T[j]? = some x) (hj : j < N) (hcur : Blk wr W.heap.size 34 cur.toArray) (hu : IsYF wr (W.heap.size + 1) x (.agg #[b0, b1, b2, b3, b4])) :
    TyL W (wr.setRow W.heap.size (putL cur (j * 5) [b0, b1, b2, b3, b4]).toArray) N (j + 1) T := by
  have hk : ∀ (a : Addr) (u : Value), W.heap.size + 1 ≤ a.block → wr.cell? a = some u → (wr.setRow W.heap.size (putL cur (j * 5) [b0, b1, b2, b3, b4]).toArray).cell? a = some u := fun a u ha hc => (World.cell?_of_block (setRow_other wr W.heap.size a.block _ (by omega))).trans hc
  obtain ⟨cur', h1, h2, h3⟩ := h.row
  obtain rfl : cur' = cur := by
    unfold Blk at h1 hcur
    rw [hcur] at h1
    simpa using h1.symm
  refine ⟨below_setRow h.below (Nat.le_refl _) _, putL cur' (j * 5) [b0, b1, b2, b3, b4], hcur.row _, by rw [putL_len, h2], fun i y hi hy => ?_⟩
  by_cases hij : i = j
  · subst hij
    obtain rfl : x = y := by rw [hx] at hy; injection hy
    exact ⟨b0, b1, b2, b3, b4, fun e v hv => putL_in _ _ _ _ _ (by rw [h2]; simp only [List.length_cons, List.length_nil]; omega) hv, hu.keep (Nat.le_refl _) hk⟩
  · obtain ⟨c0, c1, c2, c3, c4, hc, hy⟩ := h3 i y (by omega) hy
    refine ⟨c0, c1, c2, c3, c4, fun e v hv => ?_, hy.keep (Nat.le_refl _) hk⟩
    have he : e < 5 := (List.getElem?_eq_some_iff.1 hv).1
    rw [putL_out _ _ _ _ (by left; omega)]
    exact hc e v hv
theorem TyL.done {W wr : World} {N : Nat} {T : List GY} (h : TyL W wr N N T) (hN : T.length = N) : IsYs wr (some ⟨W.heap.size, 0, none⟩) 0 T := by
  obtain ⟨cur, h1, h2, h3⟩ := h.row
  refine IsYs.mk' fun i y hy => ?_
  have hi : i < N := by rw [← hN]; exact (List.getElem?_eq_some_iff.1 hy).1
  obtain ⟨c0, c1, c2, c3, c4, hc, hy⟩ := h3 i y hi hy
  refine ⟨c0, c1, c2, c3, c4, fun e v hv => ?_, hy.toY⟩
  rw [show (⟨W.heap.size, 0, none⟩ : Addr).add ((0 + i) * 5 + e) = ⟨W.heap.size, i * 5 + e, none⟩ by unfold Addr.add; split <;> simp_all, h1.cell]
  simpa using hc e v hv
set_option maxRecDepth 100000 in
set_option maxHeartbeats 16000000 in
theorem unifyP_any (q : Nat) (hq : q ≤ 281474976710656) (P A : List GY) (oP oA : Option Addr) (cP cA : Nat) (n : Int) (w0 w : World) (hP : EntL w0 P oP cP) (hA : EntL w0 A oA cA) (hwP : WfYs P) (hfA : FitYs q A) (hcnt : cntYs P ≤ 1000000) (h0 : Below w0.heap.size w0 w) :
    Calls Try.prog 13 #[.slice oP P.length cP, .slice oA A.length cA, .int .i64 n] w fun e w' => ∃ o c, e = .returned (.slice o (toldY P A n).length c) ∧ (toldY P A n).length ≤ c ∧ c ≤ maxLen ∧ IsYs w' o 0 (toldY P A n) ∧ Below w.heap.size w w' := by
  refine (callsIn_wide (n := 6)).1 ?_
  refine callsIn_of_wp_marks Try.func13 rfl trivial ?_ rfl
  simp only [Try.ntmps13, List.size_toArray, List.length_cons, List.length_nil, Nat.reduceAdd, Nat.reduceSub, Array.replicate_succ, Array.replicate_zero, List.push_toArray, List.append_toArray, List.nil_append, List.cons_append]
  refine wpIn_wide.2 ?_
  by_cases h1 : n < 1
  · have HQ : Hid (toldY P A n = []) := if_neg (by omega)
    generalize toldY P A n = T at *
    clear hP hA
    generalize P.length = nP at *
    generalize A.length = nA at *
    go_wp2
    refine ⟨.slice none 0 0, by simp [results, Try.results13, go_sem], ?_⟩
    rw [HQ.out]
    exact ⟨none, 0, rfl, Nat.le_refl _, Nat.zero_le _, IsYs.nil _ _ _, Below.refl _ _⟩
  by_cases h2 : 16 < n
  · have HQ : Hid (toldY P A n = []) := if_neg (by omega)
    generalize toldY P A n = T at *
    clear hP hA
    generalize P.length = nP at *
    generalize A.length = nA at *
    have h1' : ¬ n < 1 := h1
    go_wp2
    refine ⟨.slice none 0 0, by simp [results, Try.results13, go_sem], ?_⟩
    rw [HQ.out]
    exact ⟨none, 0, rfl, Nat.le_refl _, Nat.zero_le _, IsYs.nil _ _ _, Below.refl _ _⟩
  obtain ⟨m, rfl⟩ : ∃ m : Nat, n = (m : Int) := ⟨n.toNat, by omega⟩
  have hm1 : ¬ ((m : Int) < 1) := by omega
  have hm2 : ¬ (16 < (m : Int)) := by omega
  have hm3 : m ≤ 16 := by omega
  have hm4 : (0 : Int) ≤ (m : Int) := by omega
  have HTL : Hid ((toldY P A (m : Int)).length = m) := by
    show _ = _
    unfold toldY unifyY
    rw [if_pos (by omega), tells_len, List.length_replicate, Int.toNat_natCast]
  have HTF : Hid (∀ i, i < m → (toldY P A (m : Int))[i]? = some ((foldM noM (prYs P A) (i : Int)).getD noY)) := by
    intro i hi
    unfold toldY
    rw [if_pos (by omega), Int.toNat_natCast, unify_first, List.getElem?_map, List.getElem?_range hi]
    rfl
  generalize toldY P A (m : Int) = T at *
  have HP := Lib.hid hP
  have HA := Lib.hid hA
  have HWP : Hid (∀ z ∈ prYs P A, WfY z.1) := wf_prs hwP
  have HFA : Hid (∀ z ∈ prYs P A, FitY q z.2) := fit_prs hfA
  have HC := Lib.hid hcnt
  have H0 := Lib.hid h0
  obtain ⟨nP, hnP⟩ : ∃ nP, P.length = nP := ⟨_, rfl⟩
  obtain ⟨nA, hnA⟩ : ∃ nA, A.length = nA := ⟨_, rfl⟩
  rw [hnP, hnA]
  have HNP := Lib.hid hnP
  have HNA := Lib.hid hnA
  obtain ⟨w1, hw1⟩ : ∃ w1, (w.alloc (.map #[] 0)).alloc (.cells #[.map (some w.heap.size)] TM) = w1 := ⟨_, rfl⟩
  have hz1 : w1.heap.size = w.heap.size + 1 + 1 := by rw [← hw1]; simp
  have hI1 : UnI w0 w [] w1 := by
    refine ⟨⟨0, Nat.zero_le _, fun _ => none, ?_, fun _ _ => rfl, fun x y h => by cases h⟩, ?_, ?_⟩
    · rw [← hw1]
      exact (IsG.made w).below ((Below.refl _ _).alloc (Nat.le_refl _) _)
    · rw [← hw1]
      exact bkN (by simp) _ _
    · rw [← hw1]
      exact ((Below.refl _ w).alloc (Nat.le_refl _) _).alloc (by simp) _
  obtain ⟨w2, hw2⟩ : ∃ w2, (w1.alloc (.cells #[.slice oP nP cP] 23)).alloc (.cells #[.slice oA nA cA] 23) = w2 := ⟨_, rfl⟩
  have hz2 : w2.heap.size = w.heap.size + 1 + 1 + 1 + 1 := by rw [← hw2]; simp [hz1]
  have hb12 : Below w1.heap.size w1 w2 := by rw [← hw2]; exact ((Below.refl _ w1).alloc (Nat.le_refl _) _).alloc (by simp) _
  have hI2 : UnI w0 w [] w2 := by
    obtain ⟨k, hk, hm⟩ := hI1.map
    obtain ⟨es, c, hb⟩ := hm.blk
    exact ⟨⟨k, hk, hm.same (hb12.block _ (Array.getElem?_eq_some_iff.1 hb).1)⟩, blkB hI1.box hb12, hI1.below.trans (hb12.mono hI1.below.size)⟩
  have hT1 : Blk w2 (w.heap.size + 1 + 1) 23 #[.slice oP nP cP] := by rw [← hw2]; exact bkA (bkN hz1 _ _) _
  have hT2 : Blk w2 (w.heap.size + 1 + 1 + 1) 23 #[.slice oA nA cA] := by rw [← hw2]; exact bkN (by simp [hz1]) _ _
  have HW1 := Lib.hid hw1
  have HZ1 := Lib.hid hz1
  have HW2 := Lib.hid hw2
  have HZ2 := Lib.hid hz2
  have HI2 := Lib.hid hI2
  have HT1 := Lib.hid hT1
  have HT2 := Lib.hid hT2
  clear hP hA hwP hfA hcnt h0 hnP hnA hw1 hz1 hI1 hw2 hz2 hb12 hI2 hT1 hT2 h1 h2
  have hmm : (Instr.makeMap TM none).run Try.prog w = .ok (.map (some w.heap.size)) (w.alloc (.map #[] 0)) := by simp [Instr.makeMap, go_sem]
  go_wp2_with fail
  rw [HW1.out]
  refine (pairs_any oP oA nP cP nA cA w1).mono ?_
  rintro e wx ⟨rfl, rfl⟩
  rw [HW2.out, HZ1.out]
  go_wp2_with fail
  have HPE : Hid (EntL w0 P oP cP) := HP.out
  refine wpIn_wide.1 (range_pairs (B := w.heap.size) w0 P A oP oA cP cA HP.out HA.out HC.out (by rw [HNP.out]; exact HT1.out) (by rw [HNA.out]; exact HT2.out) rfl rfl (UnI w0 w) (UnI.own (by have := HZ2.out; omega)) (fun pre W h => ⟨H0.out.trans (h.below.mono H0.out.size), h.below.size⟩) UnI.kn HI2.out
    (fun v u a' W => ∃ (Bx By : Nat) (c0 c1 c2 c3 c4 d0 d1 d2 d3 d4 : Value), v = .agg #[c0, c1, c2, c3, c4] ∧ u = .agg #[d0, d1, d2, d3, d4] ∧ Blk W Bx TT #[c0, c1, c2, c3, c4] ∧ Blk W By TT #[d0, d1, d2, d3, d4] ∧ a' = { tmps := #[.slice oP nP cP, .slice oA nA cA, .int .i64 (m : Int), undef, undef, undef, .slice none 0 0, .pointer (some ⟨w.heap.size + 1, 0, none⟩), .pointer (some ⟨Bx, 0, none⟩), .pointer (some ⟨By, 0, none⟩), undef, undef, undef, undef, .int .i64 (m : Int), .bool false, .bool false, .int .i64 (m : Int), .bool false, .bool false, .map (some w.heap.size), .slice oP nP cP, .slice oA nA cA, .func (.func 42) #[] #[.pointer (some ⟨w.heap.size + 1 + 1, 0, none⟩), .pointer (some ⟨w.heap.size + 1 + 1 + 1, 0, none⟩)], .agg #[c0, c1, c2, c3, c4], .agg #[d0, d1, d2, d3, d4], undef, undef, undef, undef, undef, undef, undef, undef, undef, undef, undef, undef, undef, undef, undef, undef, undef, undef, undef, undef, undef, undef, undef, undef, undef, undef, undef, undef, undef, undef, undef, undef, undef], defers := [] })
    (fun v u a' => ?hAx) ?assign ?body ?done)
  case hAx =>
    rintro _ X Y row ⟨Bx, By, c0, c1, c2, c3, c4, d0, d1, d2, d3, d4, e1, e2, h1, h2, h3⟩ hg hr
    refine ⟨Bx, By, c0, c1, c2, c3, c4, d0, d1, d2, d3, d4, e1, e2, h1.kept hg fun e => ?_, h2.kept hg fun e => ?_, h3⟩
    · obtain ⟨_, ob, ho, hc⟩ := hr _ e.symm
      unfold Blk at h1
      rw [h1] at ho
      cases ho
      cases hc
    · obtain ⟨_, ob, ho, hc⟩ := hr _ e.symm
      unfold Blk at h2
      rw [h2] at ho
      cases ho
      cases hc
  case assign =>
    rintro l' pre ⟨⟨xk, xp, xm, xn, xl⟩, ⟨yk, yp, ym, yn, yl⟩⟩ v u W K hi hx hy hK
    obtain ⟨ox, cx, rfl, _⟩ := hx.parts
    obtain ⟨oy, cy, rfl, _⟩ := hy.parts
    have hb : Below W.heap.size W ((W.alloc (.cells #[.int .i64 xk, .string xp, .string xm, .int .i64 xn, .slice ox xl.length cx] 34)).alloc (.cells #[.int .i64 yk, .string yp, .string ym, .int .i64 yn, .slice oy yl.length cy] 34)) := ((Below.refl _ W).alloc (Nat.le_refl _) _).alloc (by simp) _
    have HK := Lib.hid (hK _ _ (keepsFrom_turn ((Turn.of_below hb).mono (S' := fun _ => False) fun k h1 h2 => by omega) (fun _ h => h.elim)) ((Turn.of_below hb).mono fun k h1 h2 => by omega) (hi.turn ((Turn.of_below hb).mono fun k h1 h2 => by omega)) ⟨W.heap.size, W.heap.size + 1, _, _, _, _, _, _, _, _, _, _, rfl, rfl, bkA (bkN rfl _ _) _, bkN (World.size_alloc ..) _ _, rfl⟩)
    clear hK hi hx hy hb
    gi_wp2
    exact HK.out
  case body =>
    rintro l' pre ⟨⟨xk, xp, xm, xn, xl⟩, ⟨yk, yp, ym, yn, yl⟩⟩ v u a' W hi hx hy ⟨Bx, By, c0, c1, c2, c3, c4, d0, d1, d2, d3, d4, hv, hu, hbx, hby, rfl⟩ hpre
    have HX := Lib.hid hx
    have HY := Lib.hid hy
    obtain ⟨ox, cx, hv', _⟩ := hx.parts
    rw [hv] at hv'
    simp only [Value.agg.injEq, Array.mk.injEq, List.cons.injEq, and_true] at hv'
    obtain ⟨rfl, rfl, rfl, rfl, rfl⟩ := hv'
    obtain ⟨oy, cy, hu', _⟩ := hy.parts
    rw [hu] at hu'
    simp only [Value.agg.injEq, Array.mk.injEq, List.cons.injEq, and_true] at hu'
    obtain ⟨rfl, rfl, rfl, rfl, rfl⟩ := hu'
    subst hv hu
    have hmem : (GY.mk xk xp xm xn xl, GY.mk yk yp ym yn yl) ∈ prYs P A := hpre.subset (by simp)
    have hxn : -9223372036854775808 ≤ xn ∧ xn ≤ 9223372036854775807 := (HWP.out _ hmem).num
    have hlen : pre.length ≤ 1000000 := by
      have h1 := hpre.length_le
      have h2 := prs_len P A
      have h3 := HC.out
      rw [List.length_append] at h1
      omega
    obtain ⟨nE, hnE, G, hG, hG0, hG1⟩ := hi.map
    have q0 : W.cell? ⟨w.heap.size + 1, 0, none⟩ = some (.map (some w.heap.size)) := hi.box.cell 0
    have x0 : W.cell? ⟨Bx, 0, none⟩ = some (.int .i64 xk) := hbx.cell 0
    have x1 : W.cell? ⟨Bx, 1, none⟩ = some (.string xp) := hbx.cell 1
    have x2 : W.cell? ⟨Bx, 2, none⟩ = some (.string xm) := hbx.cell 2
    have x3 : W.cell? ⟨Bx, 3, none⟩ = some (.int .i64 xn) := hbx.cell 3
    have x4 : W.cell? ⟨Bx, 4, none⟩ = some (.slice ox xl.length cx) := hbx.cell 4
    have y0 : W.cell? ⟨By, 0, none⟩ = some (.int .i64 yk) := hby.cell 0
    have y1 : W.cell? ⟨By, 1, none⟩ = some (.string yp) := hby.cell 1
    have y2 : W.cell? ⟨By, 2, none⟩ = some (.string ym) := hby.cell 2
    have y3 : W.cell? ⟨By, 3, none⟩ = some (.int .i64 yn) := hby.cell 3
    have y4 : W.cell? ⟨By, 4, none⟩ = some (.slice oy yl.length cy) := hby.cell 4
    have hlx := hbx.lt
    have hly := hby.lt
    have hlk := run_look_ok hG hxn
    have HI := Lib.hid hi
    have HG := Lib.hid hG
    have HG0 := Lib.hid hG0
    have HG1 := Lib.hid hG1
    have HBX := Lib.hid hbx
    have HBY := Lib.hid hby
    have HXN := Lib.hid hxn
    have HLE : Hid (nE < maxLen) := by show _ < _; unfold maxLen; omega
    have HNE := Lib.hid hnE
    have hD : Hid (w.heap.size + 1 < w2.heap.size) := by have := HZ2.out; show _ < _; omega
    clear hx hy hpre hmem hbx hby hi hG hG0 hG1 hxn hlen hnE
    cases hF : foldM noM pre xn with
    | some z =>
      obtain ⟨vz, hvz, hyz⟩ := HG1.out xn z hF
      obtain ⟨zk, zp, zm, zn, zl⟩ := z
      obtain ⟨oz, cz, rfl, _⟩ := hyz.parts
      rw [hvz, Option.getD_some, Option.isSome_some] at hlk
      have HS : Hid (stepM (foldM noM pre) (GY.mk xk xp xm xn xl, GY.mk yk yp ym yn yl) = foldM noM pre) := by
        show _ = _
        unfold stepM
        rw [show (GY.mk xk xp xm xn xl, GY.mk yk yp ym yn yl).1.num = xn from rfl, hF]
        rfl
      clear hF hvz hyz
      gi_wp2_with fail
      refine ⟨trivial, ?_⟩
      gi_wp2
      have hb : Below W.heap.size W (W.alloc (.cells #[.int .i64 zk, .string zp, .string zm, .int .i64 zn, .slice oz zl.length cz] 34)) := (Below.refl _ W).alloc (Nat.le_refl _) _
      exact ⟨keepsFrom_turn ((Turn.of_below hb).mono (S' := fun _ => False) fun k h1 h2 => by omega) (fun _ h => h.elim), (Turn.of_below hb).mono fun k h1 h2 => by omega, HI.out.keep HS.out hb⟩
    | none =>
      rw [HG0.out xn hF] at hlk
      simp only [Option.getD_none, Option.isSome_none, zeroTV] at hlk
      obtain ⟨W3, hW3⟩ : ∃ W3, W.alloc (.cells #[.int .i64 0, .string ⟨#[]⟩, .string ⟨#[]⟩, .int .i64 0, .slice none 0 0] 34) = W3 := ⟨_, rfl⟩
      have hb3 : Below W.heap.size W W3 := by rw [← hW3]; exact (Below.refl _ W).alloc (Nat.le_refl _) _
      have HT := Lib.hid (tells_any (GY.mk xk xp xm xn xl) (GY.mk yk yp ym yn yl) _ _ w0 W3 HX.out HY.out)
      have HW3 := Lib.hid hW3
      have HB3 := Lib.hid hb3
      have HF := Lib.hid hF
      clear hF hW3 hb3
      gi_wp2_with fail
      refine ⟨trivial, ?_⟩
      change CallsIn _ _ _ _ _ (W.alloc (.cells #[.int .i64 0, .string ⟨#[]⟩, .string ⟨#[]⟩, .int .i64 0, .slice none 0 0] 34)) _
      rw [HW3.out]
      refine (CallsIn.inRound l' (callsIn_wide.2 HT.out)).mono ?_
      rintro e W4 ⟨rfl, hb4⟩
      have hb := HB3.out.trans (hb4.mono HB3.out.size)
      have HB := Lib.hid hb
      have HS : Hid (stepM (foldM noM pre) (GY.mk xk xp xm xn xl, GY.mk yk yp ym yn yl) = if tellsB (GY.mk xk xp xm xn xl, GY.mk yk yp ym yn yl) then putM (foldM noM pre) xn (GY.mk yk yp ym yn yl) else foldM noM pre) := by
        show _ = _
        unfold stepM
        rw [show (GY.mk xk xp xm xn xl, GY.mk yk yp ym yn yl).1.num = xn from rfl, HF.out]
        rfl
      have k0 := blkB HI.out.box hb
      have kx := blkB HBX.out hb
      have ky := blkB HBY.out hb
      have x0' : W4.cell? ⟨w.heap.size + 1, 0, none⟩ = some (.map (some w.heap.size)) := k0.cell 0
      have x3' : W4.cell? ⟨Bx, 3, none⟩ = some (.int .i64 xn) := kx.cell 3
      have HCY : Hid (∀ (j : Nat) (v : Value), [.int .i64 yk, .string yp, .string ym, .int .i64 yn, .slice oy yl.length cy][j]? = some v → W4.cell? ((⟨By, 0, none⟩ : Addr).add j) = some v) := bk0 ky
      obtain ⟨W5, hput, hG5, hg5⟩ := run_putG (HG.out.below hb) HLE.out HXN.out (.agg #[.int .i64 yk, .string yp, .string ym, .int .i64 yn, .slice oy yl.length cy])
      have HG5 := Lib.hid hG5
      have HR5 := Lib.hid hg5
      clear q0 x0 x1 x2 x3 x4 y0 y1 y2 y3 y4 hlk hb hb4 HT k0 kx ky hG5 hg5
      cases hT : tellsB (GY.mk xk xp xm xn xl, GY.mk yk yp ym yn yl) with
      | false =>
        rw [hT] at HS
        have HS' := Lib.hid HS.out
        clear hput
        gi_wp2
        exact ⟨keepsFrom_turn ((Turn.of_below HB.out).mono (S' := fun _ => False) fun k h1 h2 => by omega) (fun _ h => h.elim), (Turn.of_below HB.out).mono fun k h1 h2 => by omega, HI.out.keep (by rw [HS'.out]; rfl) HB.out⟩
      | true =>
        rw [hT] at HS
        gi_wp2_with (refine boxLoadIn 34 5 size5 Try.underlying34 rfl _ rfl ⟨By, 0, none⟩ rfl (cs := [.int .i64 yk, .string yp, .string ym, .int .i64 yn, .slice oy yl.length cy]) HCY.out rfl ?_)
        have hgT : Turn (fun k => k = w.heap.size) W W5 := ⟨HR5.out.os.trans HB.out.os, HR5.out.tape.trans HB.out.tape, HR5.out.output.trans HB.out.output, Nat.le_trans HB.out.size HR5.out.size, fun i hi hn => (HR5.out.block i (Nat.lt_of_lt_of_le hi HB.out.size) (fun e => hn (Option.some.inj e))).trans (HB.out.block i hi)⟩
        refine ⟨keepsFrom_turn hgT (fun k h1 h2 => by have := HZ2.out; omega), hgT.mono fun k hk hn => ?_, ⟨nE + 1, by rw [List.length_append]; have := HNE.out; show _ ≤ _ + 1; omega, ?_⟩, HI.out.box.turn hgT (by omega), HI.out.below.trans (hgT.below HI.out.below.size fun k hk => by omega)⟩
        · subst hn
          refine ⟨Nat.le_refl _, fun h => ?_⟩
          obtain ⟨es, c, hh⟩ := HG.out.blk
          obtain ⟨cs, f, h⟩ := h
          rw [hh] at h
          cases h
        · rw [fold_snoc, HS.out]
          exact IsMF.put HG0.out HG1.out HG5.out HY.out
  case done =>
    intro D W hD hI hdef
    obtain ⟨nE, _, G, hG, hG0, hG1⟩ := hI.map
    obtain ⟨Z, hZl, hmk⟩ := make_ys m (by omega)
    have hmk' := hmk W
    obtain ⟨W6, hW6⟩ : ∃ W6, W.alloc (.cells Z.toArray 34) = W6 := ⟨_, rfl⟩
    rw [hW6] at hmk'
    have hL0 : TyL W W6 m 0 T := by
      refine ⟨by rw [← hW6]; exact (Below.refl _ _).alloc (Nat.le_refl _) _, Z, by rw [← hW6]; exact Blk.new W _ _, hZl, fun i y hi => by omega⟩
    have HL0 := Lib.hid hL0
    have HG := Lib.hid hG
    have HG0 := Lib.hid hG0
    have HG1 := Lib.hid hG1
    have HI := Lib.hid hI
    have HDF := Lib.hid hdef
    have HD := Lib.hid hD
    clear hmk hZl hG hG0 hG1 hI hdef hD hW6 hL0
    go_wp2_with fail
    go_loopw [47] (fun i wr => ∃ j : Nat, i = .int .i64 (j : Nat) ∧ Hid (j ≤ m) ∧ Hid (TyL W wr m j T)) (fun i _ => m - (RowKit.intOf i).toNat)
    case atStart => exact ⟨0, rfl, Nat.zero_le _, HL0⟩
    case round =>
      obtain ⟨j, rfl, HJ, HR⟩ := hrel
      clear hmk' HL0
      by_cases hj : j < m
      · have hj' : ((j : Int) < (m : Int)) := by omega
        have hj0 : (0 : Int) ≤ (j : Int) := by omega
        have hwj := IntWalk.i64_in ((j : Int) + 1) ⟨by omega, by omega⟩
        have hb := HR.out.below
        have k0 := blkB HI.out.box hb
        have x0 : wr.cell? ⟨w.heap.size + 1, 0, none⟩ = some (.map (some w.heap.size)) := k0.cell 0
        have hlk := run_look (HG.out.below hb) (x := (j : Int)) (by omega)
        obtain ⟨y, v, hTy, hyv, hfy, hGv⟩ : ∃ (y : GY) (v : Value), T[j]? = some y ∧ IsY w0 y v ∧ FitY q y ∧ (G (j : Int)).getD zeroTV = v := by
          rw [HTF.out j hj]
          cases hF : foldM noM (prYs P A) (j : Int) with
          | none => exact ⟨_, _, rfl, IsY.zero, by unfold noY FitY; exact ⟨Nat.zero_le _, Nat.zero_le _, Nat.zero_le _, by unfold FitYs; trivial⟩, by rw [HG0.out _ hF]; rfl⟩
          | some z =>
            obtain ⟨v, h1, h2⟩ := HG1.out _ z hF
            refine ⟨z, v, rfl, h2, ?_, by rw [h1]; rfl⟩
            rcases fold_mem _ _ hF with h | ⟨x, hx, rfl⟩
            · cases h
            · exact HFA.out x hx
        rw [hGv] at hlk
        have HF := Lib.hid (fun X (hX : Below wr.heap.size wr X) => subst_nil q hq y v X hfy (hyv.below ((H0.out.trans (HI.out.below.mono H0.out.size)).trans ((hb.mono (Nat.le_trans H0.out.size HI.out.below.size)).trans (hX.mono (Nat.le_trans (Nat.le_trans H0.out.size HI.out.below.size) hb.size))))))
        obtain ⟨cur, hcur, hcl, _⟩ := HR.out.row
        have hgl : W.heap.size < wr.heap.size := hcur.lt
        have HCU := Lib.hid hcur
        have HCL := Lib.hid hcl
        have HTY := Lib.hid hTy
        have HJN := Lib.hid hj
        clear hb k0 hTy hyv hfy hGv hcur hcl
        go_wp2_with (first
          | (refine (HF.out _ (Below.refl _ _)).mono ?_; rintro e w8 ⟨u, rfl, hu, hb⟩; obtain ⟨b0, b1, b2, b3, b4, rfl, ho⟩ := hu.cells; have HO8 := Lib.hid ho; have HU8 := Lib.hid hu; have HR8 := Lib.hid (HR.out.step hb); have HCU8 : Hid (Blk w8 W.heap.size 34 cur.toArray) := (hb.block _ hgl).trans HCU.out; clear ho hu hb)
          | (refine wpList_store_at rfl 34 _ _ rfl W.heap.size (j * 5) #[b0, b1, b2, b3, b4] rfl rfl _ cur HCU8.out (by rw [size5]; rfl) (by rw [HCL.out]; show j * 5 + 5 ≤ _; have := HJN.out; omega) (by simpa using HO8.out) ?_))
        case roundEnd =>
          exact ⟨⟨j + 1, by push_cast; rfl, hj, HR8.out.put HTY.out hj HCU8.out (HU8.out.mono hgl)⟩, by simp [RowKit.intOf]; omega⟩
      · have hj' : ¬ ((j : Int) < (m : Int)) := by omega
        have hjN := HJ.out
        obtain rfl : j = m := by omega
        have hb := HR.out.below
        have hd6 : wr.heap[D]? = some (.deferred (some [])) := (hb.block D (Array.getElem?_eq_some_iff.1 HDF.out).1).trans HDF.out
        have HD6 := Lib.hid hd6
        have HB6 := Lib.hid (HI.out.below.trans (hb.mono HI.out.below.size))
        have HDN := Lib.hid (HR.out.done HTL.out)
        clear hb hd6 hj
        go_wp2
        refine ⟨by simp, .inl ⟨_, _, rfl, run_takeDeferred HD6.out, ?_⟩⟩
        refine ⟨.slice (some ⟨W.heap.size, 0, none⟩) j j, by simp [results, Try.results13, go_sem], ?_⟩
        refine ⟨some ⟨W.heap.size, 0, none⟩, j, by rw [HTL.out], by rw [HTL.out]; exact Nat.le_refl _, by unfold maxLen; omega, ?_, ?_⟩
        · exact HDN.out.keep fun a u hc => sg.cell_kept (B := 0) (grownBy_putObj' wr D (.deferred none)) (fun r hr => ⟨Nat.zero_le _, _, by injection hr with hr; subst hr; exact HD6.out, rfl⟩) a u hc
        · exact HB6.out.trans ((Turn.of_grown (grownBy_putObj' wr D (.deferred none))).below HB6.out.size fun k hk => by injection hk with hk; have := HD.out; have := HZ2.out; omega)
end Go.Proofs.Ytlakmniaocpaaaa
