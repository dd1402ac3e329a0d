/-
  A type's text: the program's answer. Condition: at most a thousand parts; the text is of at most 2^47 bytes.
-/
import Derived.Test.YtofdejoeheokjaaTts
namespace Go.Proofs.Ytofdejoeheokjaa
open Go.RowKit Go.Shelf
open Go.Lib hiding intOf

attribute [local go_sem] Oper.semAt_some

/-- What has been written behind some of the parts. -/
structure TxI (w : World) (t : GY) (pre : List GY) (W : World) : Prop where
  bld : ∃ s, BW w.heap.size (w.heap.size + 1) s W ∧ ∀ x, pre ++ [x] <+: preY t → txtY t = s ++ txtY x
  args : ∀ x ∈ pre, x.args ≠ []
  below : Below w.heap.size w W
structure TxX (w : World) (t : GY) (c : Code) (pre : List GY) (W : World) : Prop where
  code : c = .exit 0
  bld : BW w.heap.size (w.heap.size + 1) (txtY t) W
  below : Below w.heap.size w W
theorem BW.soft {B b D : Nat} {l : List UInt8} {W W' : World} (h : BW B b l W) (hT : Turn (fun k => D ≤ k ∧ Soft W k) W W') : BW B b l W' := by
  refine h.turn hT (fun hn => ?_) fun k hk hn => ?_
  · obtain ⟨cs, f, e⟩ := h.blk.2
    have := hn.2 _ _ _ e
    revert this
    decide
  · obtain ⟨cs, f, e⟩ := hk
    have := hn.2 _ _ _ e
    revert this
    decide
theorem TxI.steady (w : World) (t : GY) : Steady w.heap.size (TxI w t) := fun s W W' h hT =>
  ⟨by obtain ⟨s, h1, h2⟩ := h.bld; exact ⟨s, h1.soft hT, h2⟩, h.args, h.below.trans (hT.below h.below.size fun k hk => hk.1)⟩
theorem TxX.steady (w : World) (t : GY) (c : Code) : Steady w.heap.size (TxX w t c) := fun _ _ _ h hT =>
  ⟨h.code, h.bld.soft hT, h.below.trans (hT.below h.below.size fun _ hk => hk.1)⟩
theorem KB.tw {B b : Nat} {W W' : World} (h : TW B b W W') (hb : tyIs W 51 b) (hB : B ≤ b) : KB B W W' := h.mono fun k _ hk => by
  have key : ∀ {k : Nat} {t u : TypeId}, tyIs W t k → tyIs W u k → t = u := fun h1 h2 => by
    obtain ⟨cs, f, h1⟩ := h1
    obtain ⟨cs', f', h2⟩ := h2
    rw [h1] at h2
    injection h2 with h2
    injection h2 with _ h3
  rcases hk with rfl | ⟨h1, h2⟩
  · exact ⟨hB, fun h => absurd (key hb h) (by decide), fun h => absurd (key hb h) (by decide)⟩
  · exact ⟨h1, fun h => absurd (key h2 h) (by decide), fun h => absurd (key h2 h) (by decide)⟩
theorem TW.keeps {B b D : Nat} {W W' : World} (h : TW B b W W') (hb : tyIs W 51 b) : KeepsFrom D W W' := keepsFrom_turn h fun k hk _ => by
  rcases hk with rfl | ⟨_, cs, f, e⟩
  · obtain ⟨cs, f, e⟩ := hb; exact ⟨_, _, _, e⟩
  · exact ⟨_, _, _, e⟩
/-- The first part of one behind it is its own. -/
theorem next_arg {t : GY} {pre : List GY} {x y z : GY} {r : List GY} (h : pre ++ [x] ++ [z] <+: preY t) (hx : x.args = y :: r) : z = y := by
  obtain ⟨q, hq⟩ := h
  obtain ⟨s, hs⟩ := suc_pre t pre x (z :: q) (by rw [← hq]; simp)
  rw [hx, preYs, preY_eq] at hs
  simp only [List.cons_append, List.cons.injEq] at hs
  exact hs.1
theorem last_none {t : GY} (h : ∀ x ∈ preY t, x.args ≠ []) : False := by
  have hne : preY t ≠ [] := by rw [preY_eq]; exact List.cons_ne_nil _ _
  obtain ⟨pre, x, hx⟩ : ∃ pre x, preY t = pre ++ [x] := ⟨_, _, (List.dropLast_concat_getLast hne).symm⟩
  obtain ⟨s, hs⟩ := suc_pre t pre x [] (by rw [hx])
  have h1 : preYs x.args = [] := by
    have := hs.symm
    simp only [List.append_eq_nil_iff] at this
    exact this.1
  cases ha : x.args with
  | nil => exact h x (by rw [hx]; simp) ha
  | cons y r => rw [ha, preYs, preY_eq] at h1; simp at h1

set_option maxRecDepth 100000 in
set_option maxHeartbeats 8000000 in
theorem textP_any (t : GY) (hcnt : cntY t ≤ 1000) (hlen : (txtY t).length ≤ 140737488355328) (v : Value) (w : World) (hv : IsY w t v) :
    Calls Try.prog 17 #[v] w fun e w' => e = .returned (.string ⟨(txtY t).toArray⟩) ∧ Below w.heap.size w w' := by
  obtain ⟨k, p, m, n, l⟩ := t
  obtain ⟨o, c, rfl, hl, hc, ha⟩ := hv.parts
  refine (callsIn_wide (n := 6)).1 ?_
  refine callsIn_of_wp_marks Try.func17 rfl trivial ?_ rfl
  simp only [Try.ntmps17, List.size_toArray, List.length_cons, List.length_nil, Nat.reduceAdd, Nat.reduceSub, Array.replicate_succ, Array.replicate_zero, List.push_toArray, List.append_toArray, List.nil_append, List.cons_append]
  gi_wp2_with fail
  refine wpIn_scope_wide ?_
  gi_wp2_with fail
  refine wpIn_label ?_
  gi_wp2_with fail
  refine ⟨trivial, ?_⟩
  refine (callsIn_wide.2 (parts_any _ _ _ _ _ _ _ w hv)).mono ?_
  rintro e w1 ⟨rfl, hw1⟩
  have HI0 : Hid (TxI w (.mk k p m n l) [] w1) := by
    subst hw1
    refine ⟨⟨[], .inl ⟨Nat.le_succ _, .slice none 0 0, ?_, World.ownsRow_nil _ _ _ _, by simp [Value.ownBlock]⟩, fun x hx => ?_⟩, fun x hx => (by cases hx), ?_⟩
    · have h := (Blk.new (w.alloc (.cells #[.int .i64 k, .string p, .string m, .int .i64 n, .slice o l.length c] 25)) 51 #[.pointer none, .slice none 0 0]).kept (World.grownBy_alloc _ (.cells #[.int .i64 k, .string p, .string m, .int .i64 n, .slice o l.length c] 25) none) (by simp)
      rwa [World.size_alloc] at h
    · rw [preY_eq] at hx
      obtain ⟨q, hq⟩ := hx
      simp only [List.nil_append, List.cons_append, List.cons.injEq] at hq
      rw [hq.1, List.nil_append]
    · exact ((((Below.refl _ w).alloc (Nat.le_refl _) _).alloc (by simp) _).alloc (by simp; omega) _)
  have HBX : Hid (Blk w1 (w.heap.size + 1 + 1) TT #[.int .i64 k, .string p, .string m, .int .i64 n, .slice o l.length c]) := by
    subst hw1
    have h := Blk.new ((w.alloc (.cells #[.int .i64 k, .string p, .string m, .int .i64 n, .slice o l.length c] 25)).alloc (.cells #[.pointer none, .slice none 0 0] 51)) 25 #[.int .i64 k, .string p, .string m, .int .i64 n, .slice o l.length c]
    rwa [World.size_alloc, World.size_alloc] at h
  have HZ : Hid (w1.heap.size = w.heap.size + 1 + 1 + 1) := by subst hw1; show _ = _; simp
  have HV := Lib.hid hv
  have HLEN := Lib.hid hlen
  clear hw1 hv ha hlen
  gi_wp2
  refine range_parts w (.mk k p m n l) hcnt HV.out HBX.out rfl rfl (TxI w (.mk k p m n l)) (TxX w (.mk k p m n l)) ((TxI.steady w _).own (by have := HZ.out; omega)) (fun c => (TxX.steady w _ c).own (by have := HZ.out; omega)) (fun _ _ h => h.below) (TxI.steady w _).ki HI0.out
    (fun v a' W => ∃ (Bx : Nat) (c0 c1 c2 c3 c4 : Value), v = .agg #[c0, c1, c2, c3, c4] ∧ Blk W Bx TT #[c0, c1, c2, c3, c4] ∧ a' = { tmps := #[.agg #[.int .i64 k, .string p, .string m, .int .i64 n, .slice o l.length c], .pointer (some ⟨w.heap.size, 0, none⟩), .string ⟨#[]⟩, .pointer (some ⟨w.heap.size + 1, 0, none⟩), .pointer (some ⟨Bx, 0, none⟩), .agg #[.int .i64 k, .string p, .string m, .int .i64 n, .slice o l.length c], .func (.func 45) #[] #[.pointer (some ⟨w.heap.size + 1 + 1, 0, none⟩)], .agg #[c0, c1, c2, c3, c4], undef, undef, undef, undef, undef, undef, undef, undef, undef, undef, undef, undef, undef, undef], defers := [] })
    (fun v a' => Steady.own (B := 0) (fun _ X Y h hT => by obtain ⟨Bx, c0, c1, c2, c3, c4, h1, h2, h3⟩ := h; exact ⟨Bx, c0, c1, c2, c3, c4, h1, h2.turn hT fun hn => h2.hard (by decide) hn.2, h3⟩) (Nat.zero_le _))
    ?assign ?body ?done ?stop
  case assign =>
    rintro l' pre ⟨k', p', m', n', q'⟩ v W K hi hx hK
    obtain ⟨o', c', rfl, _⟩ := hx.parts
    have HK := Lib.hid (hK _ _ (keepsFrom_turn ((Turn.refl (fun _ => False) W).alloc _) (fun _ h => h.elim)) (KB.alloc W _) ((TxI.steady w _) _ _ _ hi ((Turn.refl _ W).alloc _)) ⟨W.heap.size, _, _, _, _, _, rfl, Blk.new W _ _, rfl⟩)
    clear hK hi hx
    gi_wp2
    exact HK.out
  case body =>
    rintro l' pre ⟨k', p', m', n', q'⟩ v a' W hi hx ⟨Bx, x0, x1, x2, x3, x4, hv, hb, rfl⟩ hpre
    obtain ⟨o', c', hv', hql, hqc, _⟩ := hx.parts
    rw [hv] at hv'
    simp only [Value.agg.injEq, Array.mk.injEq, List.cons.injEq, and_true] at hv'
    obtain ⟨rfl, rfl, rfl, rfl, rfl⟩ := hv'
    obtain ⟨⟨s, hbw, hnx⟩, hargs, hB⟩ := hi
    have htx := hnx _ hpre
    have hsl : s.length + (txtY (.mk k' p' m' n' q')).length ≤ 140737488355328 := by
      have := HLEN.out
      rw [htx, List.length_append] at this
      exact this
    have hbt := hbw.blk.2
    have x0 : W.cell? ⟨Bx, 0, none⟩ = some (.int .i64 k') := hb.cell 0
    have x1 : W.cell? ⟨Bx, 1, none⟩ = some (.string p') := hb.cell 1
    have x2 : W.cell? ⟨Bx, 2, none⟩ = some (.string m') := hb.cell 2
    have x3 : W.cell? ⟨Bx, 3, none⟩ = some (.int .i64 n') := hb.cell 3
    have x4 : W.cell? ⟨Bx, 4, none⟩ = some (.slice o' q'.length c') := hb.cell 4
    have HBT := Lib.hid hbt
    have HB := Lib.hid hB
    have HTX := Lib.hid htx
    have HSL := Lib.hid hsl
    have HBW := Lib.hid hbw
    have HARGS := Lib.hid hargs
    have HPRE := Lib.hid hpre
    clear hb hx hpre hbw hnx hargs hB htx hsl hbt
    by_cases h5 : k' = 5
    · subst h5
      cases q' with
      | nil =>
        have et : txtY (.mk 5 p' m' n' []) = [91, 93, 63] := by rw [txtY]; rfl
        have HW := Lib.hid (write_any w.heap.size (w.heap.size + 1) s ⟨#[91, 93, 63]⟩ W HBW.out (by have h := HSL.out; rw [et] at h; exact h) HB.out.size)
        have ET := Lib.hid et
        clear et
        gi_wp2_with fail
        refine ⟨trivial, ?_⟩
        refine (CallsIn.inRound l' (callsIn_wide.2 HW.out)).mono ?_
        rintro e W3 ⟨rfl, hw3, ht3⟩
        have HW3 := Lib.hid hw3
        have HT3 := Lib.hid ht3
        clear hw3 ht3 x0 x1 x2 x3 x4
        gi_wp2
        exact ⟨HT3.out.keeps HBT.out, rfl, by rw [HTX.out, ET.out]; exact HW3.out, HB.out.trans (HT3.out.below HB.out.size fun k hk => by rcases hk with hk | hk <;> omega)⟩
      | cons y r =>
        have et : txtY (.mk 5 p' m' n' (y :: r)) = [91, 93] ++ txtY y := by rw [txtY]; rfl
        have HW := Lib.hid (write_any w.heap.size (w.heap.size + 1) s ⟨#[91, 93]⟩ W HBW.out (by have h := HSL.out; rw [et, List.length_append] at h; show _ + 2 ≤ _; simp only [List.length_cons, List.length_nil] at h; omega) HB.out.size)
        have ET := Lib.hid et
        have hlen0 : ¬ (((y :: r).length : Int) = 0) := by simp; omega
        have hl1 : (((y :: r).length : Int) == 0) = false := beq_eq_false_iff_ne.2 hlen0
        clear et
        generalize (y :: r).length = NL at *
        gi_wp2_with fail
        refine ⟨trivial, ?_⟩
        refine (CallsIn.inRound l' (callsIn_wide.2 HW.out)).mono ?_
        rintro e W3 ⟨rfl, hw3, ht3⟩
        have HW3 := Lib.hid hw3
        have HT3 := Lib.hid ht3
        clear hw3 ht3 x0 x1 x2 x3 x4
        gi_wp2
        refine ⟨HT3.out.keeps HBT.out, KB.tw HT3.out HBT.out (Nat.le_succ _), ⟨⟨_, HW3.out, fun z hz => ?_⟩, fun x hx => ?_, HB.out.trans (HT3.out.below HB.out.size fun k hk => by rcases hk with hk | hk <;> omega)⟩⟩
        · obtain rfl := next_arg hz rfl
          rw [HTX.out, ET.out]
          simp
        · rcases List.mem_append.1 hx with hx | hx
          · exact HARGS.out x hx
          · rw [List.mem_singleton.1 hx]; exact List.cons_ne_nil _ _
    · have h5' : (k' == 5) = false := beq_eq_false_iff_ne.2 h5
      have HS := Lib.hid (spell_any w.heap.size (w.heap.size + 1) s k' n' p' m' q' o' q'.length c' W h5 HBW.out HSL.out HB.out.size)
      clear h5
      gi_wp2_with fail
      refine ⟨trivial, ?_⟩
      refine (CallsIn.inRound l' (callsIn_wide.2 HS.out)).mono ?_
      rintro e W3 ⟨rfl, hw3, ht3⟩
      have HW3 := Lib.hid hw3
      have HT3 := Lib.hid ht3
      clear hw3 ht3 x0 x1 x2 x3 x4
      gi_wp2
      exact ⟨HT3.out.keeps HBT.out, rfl, by rw [HTX.out]; exact HW3.out, HB.out.trans (HT3.out.below HB.out.size fun k hk => by rcases hk with hk | hk <;> omega)⟩
  case done =>
    rintro D W hD hi hd
    exact (last_none hi.args).elim
  case stop =>
    rintro D c pre W hD hS ⟨rfl, hbw, hB⟩ hd
    have hDn : w.heap.size + 1 < D := by have := HZ.out; omega
    have HST := Lib.hid (string_any w.heap.size (w.heap.size + 1) _ W hbw hB.size)
    have HD := Lib.hid hd
    have HB := Lib.hid hB
    clear hbw hB hd
    gi_wp2_with fail
    refine ⟨trivial, ?_⟩
    refine (callsIn_wide.2 HST.out).mono ?_
    rintro e W5 ⟨rfl, hT5⟩
    have hd5 : W5.heap[D]? = some (.deferred (some [])) := (hT5.block D (Array.getElem?_eq_some_iff.1 HD.out).1 fun hn => by obtain ⟨_, cs, f, e⟩ := hn; rw [HD.out] at e; cases e).trans HD.out
    have hB5 : Below w.heap.size w W5 := HB.out.trans (hT5.below HB.out.size fun k hk => hk.1)
    have HD5 := Lib.hid hd5
    have HYB : Hid (Below w.heap.size w (W5.putObj D (.deferred none))) := hB5.trans ((Turn.of_grown (grownBy_putObj' W5 D (.deferred none))).below hB5.size fun k hk => by injection hk with hk; omega)
    clear hd5 hB5 hT5
    gi_wp2
    rw [Exit.noGoto_ret]
    refine ⟨by simp, .inl ⟨_, _, rfl, run_takeDeferred HD5.out, ?_⟩⟩
    refine ⟨.string ⟨(txtY (.mk k p m n l)).toArray⟩, by simp [results, Try.results17, go_sem], rfl, HYB.out⟩

end Go.Proofs.Ytofdejoeheokjaa
