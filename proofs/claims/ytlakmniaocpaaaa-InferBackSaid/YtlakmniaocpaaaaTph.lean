/-
  A type's parameters: the program's answer. Condition: at most a thousand parts.
-/
import Derived.Test.YtlakmniaocpaaaaTpg
namespace Go.Proofs.Ytlakmniaocpaaaa
open Go.RowKit Go.Shelf
open Go.Lib hiding intOf

attribute [local go_sem] Oper.semAt_some

theorem infoI : (Try.prog.info? 3).map (fun i => (i.zero, i.size, i.bytes)) = some (some (.int .i64 0), 1, 8) := by kernel_rfl
/-- The numbers so far. -/
structure PaI (w : World) (pre : List GY) (W : World) : Prop where
  row : ∃ (o : Option Addr) (n c : Nat), Blk W (w.heap.size + 1) 46 #[.slice o n c] ∧ (numsY pre).length = n ∧ W.ownsRow w.heap.size 3 1 (.slice o n c) n (zC (numsY pre))
  below : Below w.heap.size w W
theorem row_ty {W : World} {B : Nat} {e : TypeId} {v : Value} {n : Nat} {xs : List Value} (h : W.ownsRow B e 1 v n xs) : ∀ k, v.ownBlock = some k → tyIs W e k := by
  intro k hk
  rcases h.2 with ⟨h1, _⟩ | ⟨g, cap, cur, h1, _, hg, _⟩
  · rw [h1] at hk; cases hk
  · rw [h1] at hk
    simp only [Value.ownBlock, Option.some.injEq] at hk
    subst hk
    exact ⟨cur, _, hg⟩
theorem tyIs.one {W : World} {t u : TypeId} {k : Nat} (h1 : tyIs W t k) (h2 : tyIs W u k) : t = u := by
  obtain ⟨cs, f, h1⟩ := h1
  obtain ⟨cs', f', h2⟩ := h2
  rw [h1] at h2
  injection h2 with h2
  injection h2 with _ h3
theorem PaI.steady (w : World) : Steady w.heap.size (PaI w) := fun s W W' h hT =>
  ⟨by
    obtain ⟨o, n, c, h1, h2, h3⟩ := h.row
    refine ⟨o, n, c, h1.turn hT fun hn => h1.hard (by decide) hn.2, h2, hT.row h3 fun k hk hn => ?_⟩
    obtain ⟨cs, f, e⟩ := row_ty h3 k hk
    have := hn.2 _ _ _ e
    revert this
    decide, h.below.trans (hT.below h.below.size fun k hk => hk.1)⟩
theorem nums_6 (pre : List GY) (p m : ByteArray) (n : Int) (l : List GY) : numsY (pre ++ [.mk 6 p m n l]) = numsY pre ++ [n] := by rw [nums_app]; rfl
theorem nums_n (pre : List GY) {k : Int} (hk : k ≠ 6) (p m : ByteArray) (n : Int) (l : List GY) : numsY (pre ++ [.mk k p m n l]) = numsY pre := by rw [nums_app]; simp [numsY, hk]
/-- The box stands over an append. -/
theorem pa_box {W w3 : World} {b n k : Nat} {o : Option Addr} {c : Nat} {x : Value} (hb : Blk W b 46 #[.slice o n c])
    (hmv : (W.alloc (.cells #[x] 3)).grownBy w3 none ∨ ∃ g cap cur, (Value.slice o n c) = .slice (some ⟨g, 0, none⟩) n cap ∧ (W.alloc (.cells #[x] 3)).grownBy w3 (some g) ∧ Blk (W.alloc (.cells #[x] 3)) g 3 cur ∧ cur.size = cap * 1 ∧ n + k ≤ cap) : Blk w3 b 46 #[.slice o n c] := by
  have hb1 := hb.kept (World.grownBy_alloc W (.cells #[x] 3) none) (by simp)
  rcases hmv with h | ⟨g, cap, cur, e, h, hg, _⟩
  · exact hb1.kept h (by simp)
  · refine hb1.kept h fun e => ?_
    obtain rfl : b = g := by injection e
    exact absurd rfl (hb1.ne_ hg (by decide))
/-- One more number. -/
theorem PaI.next {w W w3 : World} {pre : List GY} {p m : ByteArray} {x : Int} {l : List GY} {o o' : Option Addr} {n c c' : Nat} {D : Nat} (hb : Blk W (w.heap.size + 1) 46 #[.slice o n c]) (hl : (numsY pre).length = n) (hr : W.ownsRow w.heap.size 3 1 (.slice o n c) n (zC (numsY pre))) (hB : Below w.heap.size w W)
    (hown : w3.ownsRow w.heap.size 3 1 (.slice o' (n + 1) c') (n + 1) (zC (numsY pre) ++ [.int .i64 x]))
    (hmv : (W.alloc (.cells #[.int .i64 x] 3)).grownBy w3 none ∨ ∃ g cap cur, (Value.slice o n c) = .slice (some ⟨g, 0, none⟩) n cap ∧ (W.alloc (.cells #[.int .i64 x] 3)).grownBy w3 (some g) ∧ Blk (W.alloc (.cells #[.int .i64 x] 3)) g 3 cur ∧ cur.size = cap * 1 ∧ n + 1 ≤ cap) :
    KeepsFrom D W (w3.setCell ⟨w.heap.size + 1, 0, none⟩ (.slice o' (n + 1) c')) ∧ KB w.heap.size W (w3.setCell ⟨w.heap.size + 1, 0, none⟩ (.slice o' (n + 1) c')) ∧ PaI w (pre ++ [.mk 6 p m x l]) (w3.setCell ⟨w.heap.size + 1, 0, none⟩ (.slice o' (n + 1) c')) := by
  have hT3 : Turn (fun k => (Value.slice o n c).ownBlock = some k) W w3 := by
    have h0 : Turn (fun k => (Value.slice o n c).ownBlock = some k) W (W.alloc (.cells #[.int .i64 x] 3)) := (Turn.refl _ W).alloc _
    refine h0.trans ?_
    rcases hmv with h | ⟨g, cap, cur, e, h, _⟩
    · exact (Turn.of_grown h).mono fun k _ hk => by cases hk
    · exact (Turn.of_grown h).mono fun k _ hk => by rw [e]; exact hk.symm
  have hne : ∀ k, (Value.slice o n c).ownBlock = some k → k ≠ w.heap.size + 1 := fun k hk e => by
    subst e
    have := tyIs.one (row_ty hr _ hk) ⟨_, _, hb⟩
    revert this
    decide
  have hb3 : Blk w3 (w.heap.size + 1) 46 #[.slice o n c] := hb.turn hT3 fun h => hne _ h rfl
  have hT4 : Turn (fun k => (Value.slice o n c).ownBlock = some k ∨ k = w.heap.size + 1) W (w3.setCell ⟨w.heap.size + 1, 0, none⟩ (.slice o' (n + 1) c')) := Turn.setCell (S := fun k => (Value.slice o n c).ownBlock = some k ∨ k = w.heap.size + 1) (p := ⟨w.heap.size + 1, 0, none⟩) (hT3.mono fun k _ h => .inl h) (fun _ => .inr rfl) _
  have hty : ∀ k, (Value.slice o n c).ownBlock = some k ∨ k = w.heap.size + 1 → ∃ t, t ≠ TS ∧ t ≠ TT ∧ tyIs W t k := fun k hk => by
    rcases hk with hk | rfl
    · exact ⟨3, by decide, by decide, row_ty hr _ hk⟩
    · exact ⟨_, by decide, by decide, _, _, hb⟩
  have hge : ∀ k, (Value.slice o n c).ownBlock = some k ∨ k = w.heap.size + 1 → w.heap.size ≤ k := fun k hk => by
    rcases hk with hk | rfl
    · exact (hr.lt k hk).1
    · omega
  refine ⟨keepsFrom_turn hT4 fun k hk _ => ?_, hT4.mono fun k _ hk => ⟨hge k hk, fun h => ?_, fun h => ?_⟩, ⟨⟨o', n + 1, c', hb3.set_ 0 _, by rw [nums_6, List.length_append, hl]; rfl, ?_⟩, hB.trans (hT4.below hB.size hge)⟩⟩
  · obtain ⟨t, _, _, cs, f, e⟩ := hty k hk
    exact ⟨_, _, _, e⟩
  · obtain ⟨t, h1, _, h2⟩ := hty k hk
    exact h1 (h2.one h)
  · obtain ⟨t, _, h1, h2⟩ := hty k hk
    exact h1 (h2.one h)
  · rw [nums_6, show zC (numsY pre ++ [x]) = zC (numsY pre) ++ [.int .i64 x] by simp [zC]]
    refine (Turn.setCell (S := fun k => k = w.heap.size + 1) (p := ⟨w.heap.size + 1, 0, none⟩) (Turn.refl _ w3) (fun _ => rfl) _).row hown fun k hk e => ?_
    subst e
    have := tyIs.one (row_ty hown _ hk) ⟨_, _, hb3⟩
    revert this
    decide

set_option maxRecDepth 100000 in
set_option maxHeartbeats 8000000 in
theorem paramsP_any (t : GY) (hcnt : cntY t ≤ 1000) (v : Value) (w : World) (hv : IsY w t v) :
    Calls Try.prog 22 #[v] w fun e w' => ∃ (L : List Int) (o : Option Addr) (n c : Nat), e = .returned (.slice o n c) ∧ L.length = n ∧ n ≤ 1000 ∧ ParIs t L ∧ IsZ w' o L ∧ Below w.heap.size w w' := by
  obtain ⟨k, p, m, n, l⟩ := t
  obtain ⟨o, c, rfl, hl, hc, ha⟩ := hv.parts
  refine (callsIn_wide (n := 6)).1 ?_
  refine callsIn_of_wp_marks Try.func22 rfl trivial ?_ rfl
  simp only [Try.ntmps22, List.size_toArray, List.length_cons, List.length_nil, Nat.reduceAdd, Nat.reduceSub, Array.replicate_succ, Array.replicate_zero, List.push_toArray, List.append_toArray, List.nil_append, List.cons_append]
  gi_wp2_with fail
  refine ⟨trivial, ?_⟩
  refine (callsIn_wide.2 (parts_any _ _ _ _ _ _ _ w hv)).mono ?_
  rintro e w1 ⟨rfl, hw1⟩
  have HI0 : Hid (PaI w [] w1) := by
    subst hw1
    refine ⟨⟨none, 0, 0, ?_, rfl, World.ownsRow_nil _ _ _ _⟩, ?_⟩
    · have h := (Blk.new (w.alloc (.cells #[.int .i64 k, .string p, .string m, .int .i64 n, .slice o l.length c] 34)) 46 #[.slice none 0 0]).kept (World.grownBy_alloc _ (.cells #[.int .i64 k, .string p, .string m, .int .i64 n, .slice o l.length c] 34) none) (by simp)
      rwa [World.size_alloc] at h
    · exact ((((Below.refl _ w).alloc (Nat.le_refl _) _).alloc (by simp) _).alloc (by simp; omega) _)
  have HBX : Hid (Blk w1 (w.heap.size + 1 + 1) TT #[.int .i64 k, .string p, .string m, .int .i64 n, .slice o l.length c]) := by
    subst hw1
    have h := Blk.new ((w.alloc (.cells #[.int .i64 k, .string p, .string m, .int .i64 n, .slice o l.length c] 34)).alloc (.cells #[.slice none 0 0] 46)) 34 #[.int .i64 k, .string p, .string m, .int .i64 n, .slice o l.length c]
    rwa [World.size_alloc, World.size_alloc] at h
  have HZ : Hid (w1.heap.size = w.heap.size + 1 + 1 + 1) := by subst hw1; show _ = _; simp
  have HV := Lib.hid hv
  have HCN : Hid ((preY (.mk k p m n l)).length ≤ 1000) := by show _ ≤ _; rw [pre_len]; exact hcnt
  clear hw1 hv ha
  gi_wp2
  refine range_parts w (.mk k p m n l) hcnt HV.out HBX.out rfl rfl (PaI w) (fun _ _ _ => False) ((PaI.steady w).own (by have := HZ.out; omega)) (fun c _ _ _ _ h => h.elim) (fun _ _ h => h.below) (PaI.steady w).ki HI0.out
    (fun v a' W => ∃ (Bx : Nat) (c0 c1 c2 c3 c4 : Value), v = .agg #[c0, c1, c2, c3, c4] ∧ Blk W Bx TT #[c0, c1, c2, c3, c4] ∧ a' = { tmps := #[.agg #[.int .i64 k, .string p, .string m, .int .i64 n, .slice o l.length c], .pointer (some ⟨w.heap.size, 0, none⟩), .slice none 0 0, .pointer (some ⟨w.heap.size + 1, 0, none⟩), .pointer (some ⟨Bx, 0, none⟩), .agg #[.int .i64 k, .string p, .string m, .int .i64 n, .slice o l.length c], .func (.func 47) #[] #[.pointer (some ⟨w.heap.size + 1 + 1, 0, none⟩)], .agg #[c0, c1, c2, c3, c4], undef, undef, undef, undef, undef, undef, undef, undef, undef, undef, undef, undef], defers := [] })
    (fun v a' => Steady.own (B := 0) (fun _ X Y h hT => by obtain ⟨Bx, c0, c1, c2, c3, c4, h1, h2, h3⟩ := h; exact ⟨Bx, c0, c1, c2, c3, c4, h1, h2.turn hT fun hn => h2.hard (by decide) hn.2, h3⟩) (Nat.zero_le _))
    ?assign ?body ?done ?stop
  case assign =>
    rintro l' pre ⟨k', p', m', n', q'⟩ v W K hi hx hK
    obtain ⟨o', c', rfl, _⟩ := hx.parts
    have HK := Lib.hid (hK _ _ (keepsFrom_turn ((Turn.refl (fun _ => False) W).alloc _) (fun _ h => h.elim)) (KB.alloc W _) ((PaI.steady w) _ _ _ hi ((Turn.refl _ W).alloc _)) ⟨W.heap.size, _, _, _, _, _, rfl, Blk.new W _ _, rfl⟩)
    clear hK hi hx
    gi_wp2
    exact HK.out
  case body =>
    rintro l' pre ⟨k', p', m', n', q'⟩ v a' W hi hx ⟨Bx, x0, x1, x2, x3, x4, hv, hb, rfl⟩ hpre
    obtain ⟨o', c', hv', hql, hqc, _⟩ := hx.parts
    rw [hv] at hv'
    simp only [Value.agg.injEq, Array.mk.injEq, List.cons.injEq, and_true] at hv'
    obtain ⟨rfl, rfl, rfl, rfl, rfl⟩ := hv'
    have x0 : W.cell? ⟨Bx, 0, none⟩ = some (.int .i64 k') := hb.cell 0
    have x3 : W.cell? ⟨Bx, 3, none⟩ = some (.int .i64 n') := hb.cell 3
    have HI := Lib.hid hi
    have hlen := HCN.out
    have hpl : pre.length + 1 ≤ 1000 := by
      obtain ⟨q, hq⟩ := hpre
      have := congrArg List.length hq
      simp only [List.length_append, List.length_singleton] at this
      omega
    have hbx := hb.lt
    clear hb hx hpre hi
    by_cases h6 : k' = 6
    · subst h6
      obtain ⟨⟨so, sn, sc, hsb, hsl, hsr⟩, hB⟩ := HI.out
      have hsn : sn ≤ 1000 := by rw [← hsl]; exact Nat.le_trans (nums_len _) (by omega)
      have q0 : W.cell? ⟨w.heap.size + 1, 0, none⟩ = some (.slice so sn sc) := hsb.cell 0
      obtain ⟨i0, hi, hz0, hz1, hz2⟩ := info_parts infoI
      have hnew : ∀ (j : Nat) (u : Value), [Value.int .i64 n'][j]? = some u → (W.alloc (.cells #[.int .i64 n'] 3)).cell? ((⟨W.heap.size, 0, none⟩ : Addr).add j) = some u := fun j u hu => by
        have e : (⟨W.heap.size, 0, none⟩ : Addr).add j = ⟨W.heap.size, j, none⟩ := by unfold Addr.add; split <;> simp_all
        rw [e, (Blk.new W 3 #[.int .i64 n']).cell]
        simpa using hu
      have HN := Lib.hid hnew
      have HSB := Lib.hid hsb
      have HSL := Lib.hid hsl
      have HSR := Lib.hid hsr
      have HB := Lib.hid hB
      have hBs := hB.size
      have hs1 : w.heap.size + 1 < W.heap.size := hsb.lt
      clear hnew hsb hsl hsr hB
      gi_wp2_with (gi_at_builtin; refine wpListIn_append_moves _ rfl _ _ 46 rfl w.heap.size 3 i0 (.int .i64 0) 1 8 Try.underlying46 hi hz0 hz1 hz2 rfl (by decide) _ _ _ rfl (HSR.out.alloc _) ⟨W.heap.size, 0, none⟩ 1 1 [.int .i64 n'] rfl rfl HN.out (by simp [Value.oneCell']) (by unfold maxLen; omega) (by omega) (by simp; omega) (by decide) ?_; intro v3 w3 hown3 hmv; obtain ⟨o3, c3, rfl⟩ := row_val hown3; have hb3 := pa_box HSB.out hmv; have f3 : w3.frozen? ⟨w.heap.size + 1, 0, none⟩ = false := hb3.frozen 0; have q3 : w3.cell? ⟨w.heap.size + 1, 0, none⟩ = some (.slice so sn sc) := hb3.cell 0; have HO3 := Lib.hid hown3; have HMV := Lib.hid hmv; clear hown3 hmv hb3)
      exact PaI.next HSB.out HSL.out HSR.out HB.out HO3.out HMV.out
    · have h6' : (k' == 6) = false := beq_eq_false_iff_ne.2 h6
      have HX : Hid (PaI w (pre ++ [.mk k' p' m' n' q']) W) := by
        obtain ⟨⟨so, sn, sc, hsb, hsl, hsr⟩, hB⟩ := HI.out
        exact ⟨⟨so, sn, sc, hsb, by rw [nums_n pre h6]; exact hsl, by rw [nums_n pre h6]; exact hsr⟩, hB⟩
      clear h6
      gi_wp2
      exact ⟨KeepsFrom.refl _ _, Turn.refl _ _, HX.out⟩
  case done =>
    rintro D W hD hi hd
    obtain ⟨⟨so, sn, sc, hsb, hsl, hsr⟩, hB⟩ := hi
    have hsn : sn ≤ 1000 := by rw [← hsl]; exact Nat.le_trans (nums_len _) HCN.out
    have hDn : w.heap.size + 1 < D := by have := HZ.out; omega
    have q0 : W.cell? ⟨w.heap.size + 1, 0, none⟩ = some (.slice so sn sc) := hsb.cell 0
    have HSO := Lib.hid (sortZ_any _ so sn sc w.heap.size W hsl hsr (by omega))
    have HSB := Lib.hid hsb
    have HSR := Lib.hid hsr
    have HD := Lib.hid hd
    have HB := Lib.hid hB
    have HSL := Lib.hid hsl
    clear hsb hsr hd hB hsl
    gi_wp2_with fail
    refine ⟨trivial, ?_⟩
    refine (callsIn_wide.2 HSO.out).mono ?_
    rintro e W5 ⟨rfl, hrow5, hT5⟩
    have hn5 : ∀ k, (Value.slice so sn sc).ownBlock = some k → k ≠ w.heap.size + 1 ∧ k ≠ D ∧ w.heap.size ≤ k := fun k hk => by
      refine ⟨fun e => ?_, fun e => ?_, (HSR.out.lt k hk).1⟩
      · subst e; have := tyIs.one (row_ty HSR.out _ hk) ⟨_, _, HSB.out⟩; revert this; decide
      · subst e; obtain ⟨cs, f, e⟩ := row_ty HSR.out _ hk; rw [HD.out] at e; cases e
    have HN5 := Lib.hid hn5
    have hb5 := HSB.out.turn hT5 fun h => (hn5 _ h).1 rfl
    have q5 : W5.cell? ⟨w.heap.size + 1, 0, none⟩ = some (.slice so sn sc) := hb5.cell 0
    have HD5 := Lib.hid ((hT5.block D (Array.getElem?_eq_some_iff.1 HD.out).1 fun h => (hn5 _ h).2.1 rfl).trans HD.out)
    have HB5 := Lib.hid (HB.out.trans (hT5.below HB.out.size fun k hk => (hn5 _ hk).2.2))
    have HCO := Lib.hid (compactZ_any (srtZ (numsY (preY (.mk k p m n l)))) so sn sc w.heap.size W5 (by have := HSL.out; unfold srtZ; rw [List.length_mergeSort]; exact this) hrow5 (by omega))
    clear hrow5 hT5 hn5 hb5 q0
    gi_wp2_with fail
    refine ⟨trivial, ?_⟩
    refine (callsIn_wide.2 HCO.out).mono ?_
    rintro e W6 ⟨rfl, hz6, hT6⟩
    have HD6 := Lib.hid ((hT6.block D (Array.getElem?_eq_some_iff.1 HD5.out).1 fun h => (HN5.out _ h).2.1 rfl).trans HD5.out)
    have hB6 := HB5.out.trans (hT6.below HB5.out.size fun k hk => (HN5.out _ hk).2.2)
    have HYB : Hid (Below w.heap.size w (W6.putObj D (.deferred none))) := hB6.trans ((Turn.of_grown (grownBy_putObj' W6 D (.deferred none))).below hB6.size fun k hk => by injection hk with hk; omega)
    have HZ6 : Hid (IsZ (W6.putObj D (.deferred none)) so (compact (srtZ (numsY (preY (.mk k p m n l)))))) := hz6.turn (Turn.of_grown (grownBy_putObj' W6 D (.deferred none))) fun a ha h => by
      injection h with h
      subst ha
      exact (HN5.out a.block rfl).2.1 h
    have hcl : (compact (srtZ (numsY (preY (.mk k p m n l))))).length ≤ 1000 := by
      have h1 : (compact (srtZ (numsY (preY (.mk k p m n l))))).length ≤ (srtZ (numsY (preY (.mk k p m n l)))).length := by
        unfold compact compactUpTo
        rw [List.length_map]
        exact Nat.le_trans (List.length_filter_le _ _) (by simp)
      have h2 : (srtZ (numsY (preY (.mk k p m n l)))).length = sn := by have := HSL.out; unfold srtZ; rw [List.length_mergeSort]; exact this
      omega
    have HCL := Lib.hid hcl
    have HPA : Hid (ParIs (.mk k p m n l) (compact (srtZ (numsY (preY (.mk k p m n l)))))) :=
      ⟨(compact_par _).1, fun x => by rw [(compact_par _).2, has_nums]⟩
    clear hz6 hT6 hB6 q5 hcl
    gi_wp2
    refine ⟨by simp, .inl ⟨_, _, rfl, run_takeDeferred HD6.out, ?_⟩⟩
    refine ⟨.slice so (compact (srtZ (numsY (preY (.mk k p m n l))))).length sc, by simp [results, Try.results22, go_sem], _, so, _, sc, rfl, rfl, HCL.out, HPA.out, HZ6.out, HYB.out⟩
  case stop =>
    rintro D c pre W hD hS h hd
    exact h.elim

end Go.Proofs.Ytlakmniaocpaaaa
