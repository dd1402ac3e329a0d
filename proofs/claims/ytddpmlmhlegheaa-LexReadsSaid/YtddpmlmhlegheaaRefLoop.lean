/-
  The walk of the document's own 'All'. Condition: none beside the text's length.
-/
import Derived.Test.YtddpmlmhlegheaaRefAll
import Derived.Test.YtddpmlmhlegheaaCount
namespace Go.Proofs.Ytddpmlmhlegheaa
open Go.RowKit
open Go.Lib hiding intOf

/-- Where it returns: its second result lies in a block of its own. -/
theorem refall_shut {a : Act} {Z : World} {R : Ending → World → Prop} {h : Nat} {p c : Int} {v : Value} (hB : Blk Z h 25 #[.int .i64 p, .int .i64 c]) (ht3 : a.tmps.getD 3 undef = .pointer (some ⟨h, 0, none⟩)) (ht2 : a.tmps.getD 2 undef = v) (hd : a.defers = [])
    (hR : R (.returned (.tuple #[v, .agg #[.int .i64 p, .int .i64 c]])) Z) : bodyPost Try.prog Try.f11 R Exit.ret a Z := by
  rw [Array.getD_eq_getD_getElem?] at ht3 ht2
  have c0 : Z.cell? ⟨h, 0, none⟩ = some (.int .i64 p) := hB.cell 0
  have c1 : Z.cell? ⟨h, 1, none⟩ = some (.int .i64 c) := hB.cell 1
  exact bodyPost_ret (v := .tuple #[v, .agg #[.int .i64 p, .int .i64 c]]) (by simp [results, Try.results11, go_sem, ht3, ht2, c0, c1]) hd hR

structure RRel (s : ByteArray) (w : World) (pre : List Tok) (p : Nat) (out : Value) (wr : World) : Prop where
  le : p ≤ s.size
  eq : pre ++ pcsAt p (s.data.toList.drop p) = pcsAt 0 s.data.toList
  zero : skp false (s.data.toList.drop p) = 0
  own : wr.ownsRow w.heap.size 31 4 out pre.length (toksC pre)
  below : Below w.heap.size w wr
  good : bad pre 0 = none
  res : Blk wr w.heap.size 25 zeroD

theorem RRel.len {s : ByteArray} {w wr : World} {pre : List Tok} {p : Nat} {out : Value} (h : RRel s w pre p out wr) : pre.length ≤ 4000 := by
  have := bad_count pre 0 (by omega) h.good (fun t ht => pcs_nonzero _ _ _ t (by have h1 := h.eq; unfold pcsAt at h1; rw [← h1]; exact List.mem_append_left _ ht))
  omega

theorem flt_less {k : Int} {t : List UInt8} {n : Nat} (h : n < 4000) : flt k t n = flt k t 0 := by
  unfold flt; split
  · rfl
  · rw [if_neg (show ¬ 4000 ≤ n by omega), if_neg (show ¬ 4000 ≤ 0 by omega)]

theorem RRel.wrong {s : ByteArray} {w wr : World} {pre : List Tok} {p : Nat} {out : Value} (h : RRel s w pre p out wr) (hp : p < s.size) {c : Int} (hc : flt (tokAt s.data.toList p).kind (tokAt s.data.toList p).text pre.length = c) (hne : c ≠ 0) : lexed s.data.toList = ([], p, c) := by
  apply lexed_bad
  have h1 := h.eq
  rw [pcsAt_tok s p hp h.zero] at h1
  unfold toks
  rw [← h1, List.append_assoc, bad_append _ _ _ h.good, Nat.zero_add]
  simp only [List.cons_append, bad]
  rw [hc, if_neg hne]; rfl

theorem RRel.last {s : ByteArray} {w wr : World} {pre : List Tok} {out : Value} (h : RRel s w pre s.size out wr) : toks s.data.toList = pre ++ [endTok s.data.toList] ∧ lexed s.data.toList = (pre ++ [endTok s.data.toList], 0, 0) := by
  have h1 := h.eq
  rw [drop_nil s s.size (Nat.le_refl _), pcsAt_end _ _ (by simp), List.append_nil] at h1
  have h2 : toks s.data.toList = pre ++ [endTok s.data.toList] := by unfold toks; rw [← h1]
  refine ⟨h2, ?_⟩
  rw [lexed_good, h2]
  rw [h2, bad_append _ _ _ h.good]
  simp [bad, endTok, flt]

theorem news_gen {w : World} {t : TypeId} (cs : List Value) : ∀ j u, cs[j]? = some u → (w.alloc (.cells cs.toArray t)).cell? ((⟨w.heap.size, 0, none⟩ : Addr).add j) = some u := by
  intro j u hu
  have ha : (⟨w.heap.size, 0, none⟩ : Addr).add j = ⟨w.heap.size, j, none⟩ := by unfold Addr.add; split <;> simp_all
  rw [ha, (Blk.new w t _).cell j, ← hu]
  simp

theorem own_slice {w : World} {base : Nat} {v : Value} {n : Nat} {xs : List Value} (h : w.ownsRow base 31 4 v n xs) : ∃ o cap, v = .slice o n cap := by
  rcases h.2 with ⟨h, h0⟩ | ⟨g, cap, cur, h, _⟩
  · exact ⟨none, 0, by rw [h, h0]⟩
  · exact ⟨_, cap, h⟩

theorem own_apart {w : World} {base : Nat} {v : Value} {n : Nat} {xs : List Value} (h : w.ownsRow base 31 4 v n xs) {k : Nat} {cs : Array Value} (hb : Blk w k 25 cs) : some k ≠ v.ownBlock := by
  rcases h.2 with ⟨rfl, _⟩ | ⟨g, cap, cur, rfl, _, hg, _⟩
  · simp [Value.ownBlock]
  · intro e
    have e : k = g := by simpa [Value.ownBlock] using e
    subst e
    unfold Blk at hb; rw [hg] at hb; cases hb

/-- Behind a piece that is right. -/
theorem RRel.next {s : ByteArray} {w wr w1 w3 : World} {pre : List Tok} {p : Nat} {out out' : Value} {t1 t2 : Obj} (h : RRel s w pre p out wr) (hp : p < s.size) (hc : flt (tokAt s.data.toList p).kind (tokAt s.data.toList p).text pre.length = 0)
    (hB1 : Below wr.heap.size wr w1) (hown' : w3.ownsRow w.heap.size 31 4 out' (pre.length + 1) (toksC pre ++ tokC (tokAt s.data.toList p))) (hgrow : ((w1.alloc t1).alloc t2).grownBy w3 out.ownBlock) :
    RRel s w (pre ++ [tokAt s.data.toList p]) ((tokAt s.data.toList p).stop + skp false (s.data.toList.drop (tokAt s.data.toList p).stop)) out' w3 := by
  have h1 := h.eq
  rw [pcsAt_tok s p hp h.zero] at h1
  have hkp := kln_pos' (l := s.data.toList.drop p) (by rw [drop_cons s p hp]; simp)
  rw [List.length_drop, size_toList] at hkp
  have hst : (tokAt s.data.toList p).stop = p + (kln (s.data.toList.drop p)).2 := rfl
  have hsk := skp_le false (s.data.toList.drop (tokAt s.data.toList p).stop)
  rw [List.length_drop, size_toList] at hsk
  refine ⟨by omega, ?_, ?_, ?_, ?_, ?_, ?_⟩
  · have h2 := pcsAt_skip (tokAt s.data.toList p).stop (s.data.toList.drop (tokAt s.data.toList p).stop)
    rw [List.drop_drop] at h2
    rw [← h2, List.append_assoc]
    exact h1
  · have := skp_again false (s.data.toList.drop (tokAt s.data.toList p).stop)
    rwa [List.drop_drop] at this
  · rw [List.length_append, toksC_snoc]; exact hown'
  · have hb := h.below.size
    have hb1 := hB1.size
    refine ((((h.below.trans (hB1.mono hb)).alloc (by omega) t1).alloc (by simp; omega) t2).grown hgrow (by simp; omega) fun k e => ?_)
    exact (h.own.lt k e).1
  · rw [bad_append _ _ _ h.good]
    simp [bad, hc]
  · have r1 := h.res.kept (grown_of_below hB1) (by simp)
    have r2 := (r1.kept (World.grownBy_alloc w1 t1 none) (by simp)).kept (World.grownBy_alloc _ t2 none) (by simp)
    exact r2.kept hgrow (own_apart h.own h.res)

set_option maxHeartbeats 4000000 in
theorem refAll_any (s : ByteArray) (w : World) (hs : s.size ≤ 9223372036854775807) : Calls Try.prog 11 #[.string s] w fun e w' => AllPost w w' s.data.toList e := by
  have HS := Lib.hid (fun k w hk => refSkip_any s k w hs hk)
  have HT := Lib.hid (fun k w hk => refToken_any s k w hs hk)
  obtain ⟨i0, hi, hz0, hz1, hz2⟩ := info_parts Try.info31
  go_enter Try.func11, Try.ntmps11
  go_wp2_with fail
  refine (HS.out 0 _ (Nat.zero_le _)).mono ?_
  rintro e w1 ⟨rfl, rfl⟩
  rw [List.drop_zero, Nat.zero_add]
  have hp0 : skp false s.data.toList ≤ s.size := by have := skp_le false s.data.toList; rwa [size_toList] at this
  have R0 : RRel s w [] (skp false s.data.toList) (.slice none 0 0) (w.alloc (.cells zeroD 25)) :=
    ⟨hp0, by have := pcsAt_skip 0 s.data.toList; rw [Nat.zero_add] at this; simpa using this.symm, skp_again false _, World.ownsRow_nil _ _ _ _, (Below.refl _ _).alloc (Nat.le_refl _) _, rfl, Blk.new w 25 zeroD⟩
  have R := Lib.hid R0
  clear R0
  generalize skp false s.data.toList = p0 at *
  go_wp2
  go_loopw [4, 5] (fun out i wr => ∃ (pre : List Tok) (p : Nat), i = .int .i64 (p : Nat) ∧ Hid (RRel s w pre p out wr)) (fun _ i _ => s.size - (RowKit.intOf i).toNat)
  case atStart => exact ⟨[], p0, rfl, R⟩
  case round =>
    obtain ⟨pre, p, rfl, HR⟩ := hrel
    clear R hp0
    have hle := HR.out.le
    have hpl := HR.out.len
    by_cases hp : p < s.size
    · have hown := HR.out.own
      obtain ⟨o, cap, rfl⟩ := own_slice hown
      have cr0 : wr.cell? ⟨w.heap.size, 0, none⟩ = some (.int .i64 0) := HR.out.res.cell 0
      have cr1 : wr.cell? ⟨w.heap.size, 1, none⟩ = some (.int .i64 0) := HR.out.res.cell 1
      have fr0 : wr.frozen? ⟨w.heap.size, 0, none⟩ = false := HR.out.res.frozen 0
      have fr1 : wr.frozen? ⟨w.heap.size, 1, none⟩ = false := HR.out.res.frozen 1
      have hkp := kln_pos' (l := s.data.toList.drop p) (by rw [drop_cons s p hp]; simp)
      rw [List.length_drop, size_toList] at hkp
      have hkne : (tokAt s.data.toList p).kind ≠ 0 := by
        show (kln (s.data.toList.drop p)).1 ≠ 0
        rw [kln_at s p hp, kln_cons]
        (repeat' split) <;> simp only [ne_eq] <;> first | omega | decide | (split <;> decide)
      by_cases h4 : 4000 ≤ pre.length
      · have HL := Lib.hid (HR.out.wrong hp (c := 6) (flt_deep hkne h4) (by decide))
        have d4 : decide ((4000 : Int) ≤ (pre.length : Nat)) = true := by simp; omega
        have HB := Lib.hid HR.out.res
        have HBl := Lib.hid HR.out.below
        clear hown hkne hkp HR
        go_wp2
        refine refall_shut (h := w.heap.size) (v := .slice none 0 0) ((HB.out.set_ 0 _).set_ 1 _) rfl rfl rfl ⟨.slice none 0 0, ?_, ?_, ?_⟩
        · rw [HL.out]
        · rw [HL.out]; exact ⟨none, 0, rfl, Nat.le_refl _, fun j u hu => by simp [toksC] at hu⟩
        · exact (HBl.out.setCell (p := ⟨w.heap.size, 0, none⟩) (Nat.le_refl _) _).setCell (p := ⟨w.heap.size, 1, none⟩) (Nat.le_refl _) _
      · have d4 : decide ((4000 : Int) ≤ (pre.length : Nat)) = false := by simp; omega
        have HC := Lib.hid (flt_less (k := (tokAt s.data.toList p).kind) (t := (tokAt s.data.toList p).text) (n := pre.length) (by omega))
        have HTT := Lib.hid (HT.out p wr hp)
        obtain ⟨c, hc⟩ : ∃ c, flt (tokAt s.data.toList p).kind (tokAt s.data.toList p).text 0 = c := ⟨_, rfl⟩
        rw [hc] at HTT
        have HC2 : Hid (flt (tokAt s.data.toList p).kind (tokAt s.data.toList p).text pre.length = c) := Lib.hid (by rw [HC.out]; exact hc)
        clear hkne hc HC
        by_cases h0 : c = 0
        · subst h0
          go_wp2_with fail
          refine HTT.out.mono ?_
          rintro e w1 ⟨K, E, rfl, hKE, hB1⟩
          obtain ⟨rfl, rfl⟩ := hKE rfl
          have own1 := hown.kept (grown_of_below hB1) (by cases (Value.slice o pre.length cap).ownBlock <;> simp)
          have hB1s := hB1.size
          have hwr := HR.out.below.size
          have g1 := Lib.hid hB1
          have hst : Hid ((tokAt s.data.toList p).stop = p + (kln (s.data.toList.drop p)).2) := Lib.hid rfl
          have htok : Hid ([.int .i64 (tokAt s.data.toList p).kind, .int .i64 (p : Nat), .int .i64 ((p + (kln (s.data.toList.drop p)).2 : Nat) : Int), .string (s.extract p (p + (kln (s.data.toList.drop p)).2))] = tokC (tokAt s.data.toList p)) := Lib.hid (by unfold tokC tokAt; rw [ext_arr])
          clear hB1 HTT hown cr0 cr1 fr0 fr1
          obtain ⟨st, hstv⟩ : ∃ st, p + (kln (s.data.toList.drop p)).2 = st := ⟨_, rfl⟩
          rw [hstv] at hst htok
          simp only [hstv]
          have hst1 : p ≤ st := by omega
          have hst2 : st ≤ s.size := by omega
          have hst3 : p < st := by omega
          clear hkp hstv
          obtain ⟨kd, hkd⟩ : ∃ kd, (tokAt s.data.toList p).kind = kd := ⟨_, rfl⟩
          rw [hkd] at htok
          simp only [hkd]
          clear hkd
          go_wp2_with (at_builtin; refine wpList_append_own _ rfl _ _ 23 rfl w.heap.size 31 i0 (.agg #[.int .i64 0, .int .i64 0, .int .i64 0, .string ⟨#[]⟩]) 4 40 Try.underlying23 hi hz0 hz1 hz2 rfl (by decide) _ _ _ rfl ((own1.alloc _).alloc _) ⟨w1.heap.size + 1, 0, none⟩ 1 1 [.int .i64 kd, .int .i64 (p : Nat), .int .i64 (st : Nat), .string (s.extract p st)] rfl rfl ?c1 ?c2 ?c3 ?c4 ?c5 ?_)
          case c2 => simp [Value.oneCell']
          case c3 => unfold maxLen; omega
          case c4 => omega
          case c5 => omega
          intro out' w3 hown' hgrow _
          have R1 := HR.out.next hp HC2.out g1.out (by rw [← htok.out]; exact hown') hgrow
          rw [hst.out] at R1
          have R := Lib.hid R1
          have hne : some w1.heap.size ≠ (Value.slice o pre.length cap).ownBlock := fun e => by have := (HR.out.own.lt _ e.symm).2; omega
          have bt := ((Blk.new w1 31 #[.int .i64 kd, .int .i64 (p : Nat), .int .i64 (st : Nat), .string (s.extract p st)]).kept (World.grownBy_alloc _ _ none) (by simp)).kept hgrow hne
          have ct : w3.cell? ⟨w1.heap.size, 2, none⟩ = some (.int .i64 (st : Nat)) := bt.cell 2
          have HSk := HS.out st w3 hst2
          have hsk := skp_le false (s.data.toList.drop st)
          rw [List.length_drop, size_toList] at hsk
          generalize skp false (s.data.toList.drop st) = m at *
          have HSm := Lib.hid HSk
          clear R1 hown' hgrow hne bt own1 HSk HR HC2 g1 hst htok
          go_wp2_with fail
          refine HSm.out.mono ?_
          rintro e w4 ⟨rfl, rfl⟩
          go_wp2
          go_roundw
          case rel => exact ⟨_, st + m, by go_num, R⟩
          case measure => simp [RowKit.intOf]; omega
        · have HL := Lib.hid (HR.out.wrong hp HC2.out h0)
          have n0 : (c != 0) = true := by simpa using h0
          have res := HR.out.res
          have hbel := HR.out.below
          have H0 := Lib.hid h0
          clear hown h0 HR hkp
          go_wp2_with fail
          refine HTT.out.mono ?_
          rintro e w1 ⟨K, E, rfl, _, hB1⟩
          have hBs := hbel.size
          have hB1s := hB1.size
          have r1 := (res.kept (grown_of_below hB1) (by simp)).kept (World.grownBy_alloc w1 (.cells #[.int .i64 K, .int .i64 (p : Nat), .int .i64 E, .string ⟨#[]⟩] 31) none) (by simp)
          have b1 := ((hbel.trans (hB1.mono hBs)).alloc (by omega) (.cells #[.int .i64 K, .int .i64 (p : Nat), .int .i64 E, .string ⟨#[]⟩] 31))
          have f0 : (w1.alloc (.cells #[.int .i64 K, .int .i64 (p : Nat), .int .i64 E, .string ⟨#[]⟩] 31)).frozen? ⟨w.heap.size, 0, none⟩ = false := r1.frozen 0
          have f1 : (w1.alloc (.cells #[.int .i64 K, .int .i64 (p : Nat), .int .i64 E, .string ⟨#[]⟩] 31)).frozen? ⟨w.heap.size, 1, none⟩ = false := r1.frozen 1
          have c0 : (w1.alloc (.cells #[.int .i64 K, .int .i64 (p : Nat), .int .i64 E, .string ⟨#[]⟩] 31)).cell? ⟨w.heap.size, 0, none⟩ = some (.int .i64 0) := r1.cell 0
          have c1 : (w1.alloc (.cells #[.int .i64 K, .int .i64 (p : Nat), .int .i64 E, .string ⟨#[]⟩] 31)).cell? ⟨w.heap.size, 1, none⟩ = some (.int .i64 0) := r1.cell 1
          have HB := Lib.hid r1
          have HBl := Lib.hid b1
          clear r1 b1 hB1 res hbel cr0 cr1 fr0 fr1
          go_wp2
          refine refall_shut (h := w.heap.size) (v := .slice none 0 0) ((HB.out.set_ 0 _).set_ 1 _) rfl rfl rfl ⟨.slice none 0 0, ?_, ?_, ?_⟩
          · rw [HL.out]
          · rw [HL.out]; exact ⟨none, 0, rfl, Nat.le_refl _, fun j u hu => by simp [toksC] at hu⟩
          · exact (HBl.out.setCell (p := ⟨w.heap.size, 0, none⟩) (Nat.le_refl _) _).setCell (p := ⟨w.heap.size, 1, none⟩) (Nat.le_refl _) _
    · obtain rfl : s.size = p := by omega
      have hown := HR.out.own
      obtain ⟨o, cap, rfl⟩ := own_slice hown
      obtain ⟨_, hl⟩ := HR.out.last
      have HL := Lib.hid hl
      have hwr := HR.out.below.size
      have f0 : wr.frozen? ⟨w.heap.size, 0, none⟩ = false := HR.out.res.frozen 0
      clear hl
      go_wp2_with (at_builtin; refine wpList_append_own _ rfl _ _ 23 rfl w.heap.size 31 i0 (.agg #[.int .i64 0, .int .i64 0, .int .i64 0, .string ⟨#[]⟩]) 4 40 Try.underlying23 hi hz0 hz1 hz2 rfl (by decide) _ _ _ rfl (hown.alloc _) ⟨wr.heap.size, 0, none⟩ 1 1 [.int .i64 0, .int .i64 (s.size : Nat), .int .i64 (s.size : Nat), .string ⟨#[]⟩] rfl rfl ?d1 ?d2 ?d3 ?d4 ?d5 ?_)
      case d1 => exact news_gen [.int .i64 0, .int .i64 (s.size : Nat), .int .i64 (s.size : Nat), .string ⟨#[]⟩]
      case d2 => simp [Value.oneCell']
      case d3 => unfold maxLen; omega
      case d4 => omega
      case d5 => simp; omega
      intro out' w3 hown' hgrow _
      have r3 := (HR.out.res.kept (World.grownBy_alloc wr _ none) (by simp)).kept hgrow (own_apart HR.out.own HR.out.res)
      have b3 := ((HR.out.below.alloc hwr _).grown hgrow (by simp; omega) fun k e => (HR.out.own.lt k e).1)
      have e0 : w3.cell? ⟨w.heap.size, 0, none⟩ = some (.int .i64 0) := r3.cell 0
      have e1 : w3.cell? ⟨w.heap.size, 1, none⟩ = some (.int .i64 0) := r3.cell 1
      have f0 : w3.frozen? ⟨w.heap.size, 0, none⟩ = false := r3.frozen 0
      have f1 : w3.frozen? ⟨w.heap.size, 1, none⟩ = false := r3.frozen 1
      have htoks : toksC (pre ++ [endTok s.data.toList]) = toksC pre ++ [.int .i64 0, .int .i64 (s.size : Nat), .int .i64 (s.size : Nat), .string ⟨#[]⟩] := by
        rw [toksC_snoc]; simp only [tokC, endTok, size_toList]
      have own3 : w3.ownsRow w.heap.size 31 4 out' (pre ++ [endTok s.data.toList]).length (toksC (pre ++ [endTok s.data.toList])) := by
        rw [List.length_append, htoks]; exact hown'
      have H3 := Lib.hid own3
      have HB := Lib.hid r3
      have HBl := Lib.hid b3
      clear hown' hgrow r3 b3 htoks own3 hown HR
      go_wp2
      refine refall_shut (h := w.heap.size) (v := out') ((HB.out.set_ 0 _).set_ 1 _) rfl rfl rfl ⟨out', ?_, ?_, ?_⟩
      · rw [HL.out]; rfl
      · rw [HL.out]
        refine isToks_of_own ((H3.out.kept (grownBy_set _ w.heap.size 0 _) (.inr (Ne.symm ?_))).kept (grownBy_set _ w.heap.size 1 _) (.inr (Ne.symm ?_)))
        · exact own_apart H3.out HB.out
        · exact own_apart H3.out HB.out
      · exact (HBl.out.setCell (p := ⟨w.heap.size, 0, none⟩) (Nat.le_refl _) _).setCell (p := ⟨w.heap.size, 1, none⟩) (Nat.le_refl _) _

end Go.Proofs.Ytddpmlmhlegheaa
