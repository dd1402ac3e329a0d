/-
  LexCovers answers true for every text. No condition.
-/
import Derived.Test.YtddpmlmhlegheaaEnds
import Derived.Test.YtddpmlmhlegheaaConcat
import Derived.Test.YtddpmlmhlegheaaRefs
import Derived.ProofKit
import Derived.OpenShut
import Derived.JoinedCond
namespace Go.Proofs.Ytddpmlmhlegheaa.lexCovers
open Go.ChangeShapes Go.WideShapes Go.ChangeAt Go.RowKit
open Go.ChangeMaps (open_string shut_string)

theorem own : ownKnob Try.prog.godebug = none := by kernel_rfl

/-- What is passed is passed where nothing follows. -/
theorem skp_take (b : Bool) (l : List UInt8) : skp b (l.take (skp b l)) = skp b l := by
  induction l generalizing b with
  | nil => simp [skp]
  | cons c r ih =>
    cases b
    · by_cases h1 : lay c = true
      · rw [skp_layout c r h1, List.take_succ_cons, skp_layout c _ h1, ih]
      · have h1' : lay c = false := by simpa using h1
        by_cases h2 : c = 47 ∧ r.head? = some 47
        · have e : skp false (c :: r) = skp true r + 1 := by simp only [skp, h1', Bool.false_eq_true, if_false]; rw [if_pos h2]
          obtain ⟨hc, hr⟩ := h2
          have hh : (r.take (skp true r)).head? = some 47 := by
            cases r with
            | nil => simp at hr
            | cons d q =>
              simp at hr
              subst hr
              have : skp true (47 :: q) = skp true q + 1 := by simp [skp]
              rw [this, List.take_succ_cons]; rfl
          have e2 : skp false (c :: r.take (skp true r)) = skp true (r.take (skp true r)) + 1 := by simp only [skp, h1', Bool.false_eq_true, if_false]; rw [if_pos ⟨hc, hh⟩]
          rw [e, List.take_succ_cons, e2, ih]
        · rw [skp_stop c r h1' h2]; simp [skp]
    · by_cases h : c = 10
      · have e : ∀ q, skp true (c :: q) = skp false q + 1 := fun q => by simp only [skp]; rw [if_pos h]
        rw [e, List.take_succ_cons, e, ih]
      · have e : ∀ q, skp true (c :: q) = skp true q + 1 := fun q => by simp only [skp]; rw [if_neg h]
        rw [e, List.take_succ_cons, e, ih]

/-- A token that stands where another ended at p. -/
def cov (L : List UInt8) (p : Nat) (t : Tok) : Prop :=
  p ≤ t.pos ∧ t.pos ≤ t.stop ∧ t.stop ≤ L.length ∧ (t.stop = t.pos ↔ t.kind = 0) ∧ t.text = (L.drop t.pos).take (t.stop - t.pos) ∧ p + skp false ((L.take t.pos).drop p) = t.pos

/-- Where the token ahead ended. -/
def prv (a : Nat) (ts : List Tok) : Nat → Nat
  | 0 => a
  | j + 1 => match ts[j]? with
    | some t => t.stop
    | none => 0

theorem prv_cons (a : Nat) (t : Tok) (r : List Tok) (j : Nat) : prv a (t :: r) (j + 1) = prv t.stop r j := by
  cases j with
  | zero => rfl
  | succ j => rfl

theorem skp_upto (L : List UInt8) (a : Nat) : a + skp false ((L.take (a + skp false (L.drop a))).drop a) = a + skp false (L.drop a) := by
  rw [List.drop_take, show a + skp false (L.drop a) - a = skp false (L.drop a) by omega, skp_take]

theorem covs (L : List UInt8) (f : Nat) : ∀ a, a ≤ L.length → L.length - a ≤ f → ∀ j t, (pcs f a (L.drop a) ++ [endTok L])[j]? = some t →
    cov L (prv a (pcs f a (L.drop a) ++ [endTok L]) j) t ∧ (t.kind = 0 ↔ j + 1 = (pcs f a (L.drop a) ++ [endTok L]).length) ∧ (j + 1 = (pcs f a (L.drop a) ++ [endTok L]).length → t.stop = L.length) := by
  have hend : ∀ a, a ≤ L.length → (L.drop a).drop (skp false (L.drop a)) = [] → cov L a (endTok L) := fun a ha h => by
    have h2 := congrArg List.length h
    have h3 := skp_le false (L.drop a)
    have h4 := skp_upto L a
    simp only [List.length_drop, List.length_nil] at h2 h3
    have e : a + skp false (L.drop a) = L.length := by omega
    rw [e] at h4
    exact ⟨ha, Nat.le_refl _, Nat.le_refl _, by simp [endTok], by simp [endTok], h4⟩
  induction f with
  | zero =>
    intro a ha hf j t ht
    have h0 : L.drop a = [] := List.drop_eq_nil_of_le (by omega)
    simp only [pcs, List.nil_append] at *
    cases j with
    | zero =>
      simp at ht
      subst ht
      exact ⟨hend a ha (by rw [h0]; rfl), by simp [endTok], fun _ => rfl⟩
    | succ j => simp at ht
  | succ f ih =>
    intro a ha hf j t ht
    have hsk := skp_le false (L.drop a)
    have hup := skp_upto L a
    by_cases h : (L.drop a).drop (skp false (L.drop a)) = []
    · have e : pcs (f + 1) a (L.drop a) = [] := by simp only [pcs]; rw [if_pos h]
      rw [e, List.nil_append] at ht ⊢
      cases j with
      | zero =>
        simp at ht
        subst ht
        exact ⟨hend a ha h, by simp [endTok], fun _ => rfl⟩
      | succ j => simp at ht
    · have hp := kln_pos' h
      have hk := kln_nonzero h
      have hd : (L.drop a).drop (skp false (L.drop a)) = L.drop (a + skp false (L.drop a)) := by rw [List.drop_drop]
      have e : pcs (f + 1) a (L.drop a) = ⟨(kln ((L.drop a).drop (skp false (L.drop a)))).1, a + skp false (L.drop a), a + skp false (L.drop a) + (kln ((L.drop a).drop (skp false (L.drop a)))).2, ((L.drop a).drop (skp false (L.drop a))).take (kln ((L.drop a).drop (skp false (L.drop a)))).2⟩
          :: pcs f (a + skp false (L.drop a) + (kln ((L.drop a).drop (skp false (L.drop a)))).2) (L.drop (a + skp false (L.drop a) + (kln ((L.drop a).drop (skp false (L.drop a)))).2)) := by
        conv => lhs; simp only [pcs]
        rw [if_neg h]
        congr 2
        rw [List.drop_drop, List.drop_drop]; congr 1; omega
      rw [e] at ht ⊢
      rw [hd] at hp hk ht ⊢
      generalize hA : a + skp false (L.drop a) = A at *
      generalize (kln (L.drop A)).1 = k at *
      generalize (kln (L.drop A)).2 = n at *
      simp only [List.length_drop] at hp hsk
      rw [List.cons_append] at ht ⊢
      cases j with
      | zero =>
        simp at ht
        subst ht
        refine ⟨⟨?_, ?_, ?_, ?_, ?_, hup⟩, ?_, ?_⟩
        · show a ≤ A; omega
        · show A ≤ A + n; omega
        · show A + n ≤ L.length; omega
        · show A + n = A ↔ k = 0
          constructor
          · intro h; omega
          · intro h; exact absurd h hk
        · show _ = (L.drop A).take (A + n - A)
          rw [show A + n - A = n by omega]
        · show k = 0 ↔ _
          constructor
          · intro h; exact absurd h hk
          · intro h; simp at h
        · intro h; simp at h
      | succ j =>
        rw [List.getElem?_cons_succ] at ht
        rw [prv_cons]
        have h2 := ih (A + n) (by omega) (by omega) j t ht
        simp only [List.length_cons] at h2 ⊢
        refine ⟨h2.1, ?_, fun h => h2.2.2 (by omega)⟩
        rw [h2.2.1]; omega

theorem toks_cov (L : List UInt8) (j : Nat) (t : Tok) (ht : (toks L)[j]? = some t) :
    cov L (prv 0 (toks L) j) t ∧ (t.kind = 0 ↔ j + 1 = (toks L).length) ∧ (j + 1 = (toks L).length → t.stop = L.length) := by
  have h := covs L L.length 0 (Nat.zero_le _) (by omega) j t
  rw [List.drop_zero] at h
  exact h ht

theorem text_at (s : ByteArray) (t : List UInt8) (a b : Nat) (h : t = (s.data.toList.drop a).take (b - a))  : (⟨t.toArray⟩ : ByteArray) = s.extract a b := by
  apply ByteArray.ext
  apply Array.toList_inj.1
  rw [h, ByteArray.data_extract, Array.toList_extract]

theorem skip_at (s : ByteArray) (p a : Nat) (w : World) (hs : s.size ≤ 9223372036854775807) (hp : p ≤ a) (ha : a ≤ s.size) (h : p + skp false ((s.data.toList.take a).drop p) = a) :
    Calls Try.prog 15 #[.string (s.extract 0 a), .int .i64 (p : Nat)] w fun e w' => e = .returned (.int .i64 (a : Nat)) ∧ w' = w := by
  have hz : (s.extract 0 a).size = a := by rw [ByteArray.size_extract]; omega
  have e : (s.extract 0 a).data.toList = s.data.toList.take a := by
    rw [ByteArray.data_extract, Array.toList_extract]
    simp [List.extract_eq_take_drop]
  have hr := refSkip_any (s.extract 0 a) p w (by omega) (by omega)
  rw [e, h] at hr
  exact hr.mono fun _ _ ⟨h1, h2⟩ => ⟨h1, h2.symm⟩

set_option maxHeartbeats 2000000 in
theorem walk_bad (s : ByteArray) (w : World) (hs : s.size ≤ 9223372036854775807) (a : Nat) (c : Int) (hl : lexed s.data.toList = ([], a, c)) (hc : c ≠ 0) (ha : a < s.size) :
    Calls Try.prog 5 #[.string s] w fun e w' => e = .returned (.bool true) ∧ Below w.heap.size w w' := by
  have HA := Lib.hid (fun w => all_at s [] a c hl w (by omega))
  have hc2 : (c == 0) = false := beq_eq_false_iff_ne.2 hc
  have hc3 : decide ((a : Int) < (s.size : Nat)) = true := by simpa using ha
  clear hl hc
  go_enter Try.func5, Try.ntmps5
  go_wp2_with fail
  refine (awake_any _).mono ?_
  rintro e w1 ⟨rfl, hB⟩
  have B1 := Lib.hid hB
  clear hB
  go_wp2_with fail
  refine (HA.out _).mono ?_
  rintro e w2 ⟨o, cap, rfl, _, hB, _⟩
  have B2 := Lib.hid (B1.out.trans (hB.mono B1.out.size))
  have hz := B2.out.size
  clear hB B1
  go_wp2
  go_ret
  exact ⟨by simp, B2.out.alloc hz _⟩

set_option maxRecDepth 20000 in
set_option maxHeartbeats 4000000 in
theorem walk_good (s : ByteArray) (w : World) (hs : s.size ≤ 9223372036854775807) (ts : List Tok) (hl : lexed s.data.toList = (ts, 0, 0))
    (hcov : ∀ j t, ts[j]? = some t → cov s.data.toList (prv 0 ts j) t ∧ (t.kind = 0 ↔ j + 1 = ts.length) ∧ (j + 1 = ts.length → t.stop = s.data.toList.length)) (hne : 0 < ts.length) :
    Calls Try.prog 5 #[.string s] w fun e w' => e = .returned (.bool true) ∧ Below w.heap.size w w' := by
  have hlen := lexed_few hl
  have HA := Lib.hid (fun w => all_at s ts 0 0 hl w (by omega))
  have HC := Lib.hid hcov
  clear hl hcov
  go_enter Try.func5, Try.ntmps5
  go_wp2_with fail
  refine (awake_any _).mono ?_
  rintro e w1 ⟨rfl, hB⟩
  have B1 := Lib.hid hB
  clear hB
  go_wp2_with fail
  refine (HA.out _).mono ?_
  rintro e w2 ⟨o, cap, rfl, hT, hB, _⟩
  have B2 := Lib.hid (B1.out.trans (hB.mono B1.out.size))
  have hb22 : Below w2.heap.size w2 (w2.alloc (.cells #[.int .i64 0, .int .i64 0] 25)) := (Below.refl _ _).alloc (Nat.le_refl _) _
  have T2 := Lib.hid (hT.below hb22)
  have hz := B2.out.size
  have B3 := Lib.hid (B2.out.alloc hz (.cells #[.int .i64 0, .int .i64 0] 25))
  clear hB B1 B2 hT hb22
  have hz3 : w2.heap.size + 1 ≤ (w2.alloc (.cells #[.int .i64 0, .int .i64 0] 25)).heap.size := by simp
  go_wp2
  generalize w2.alloc (.cells #[.int .i64 0, .int .i64 0] 25) = w3 at *
  go_loopw [6, 7] (fun at' i wr => ∃ j : Nat, j ≤ ts.length ∧ i = .int .i64 (j : Nat) ∧ at' = .int .i64 (prv 0 ts j : Nat) ∧ Hid (Below w3.heap.size w3 wr)) (fun _ i _ => ts.length - (RowKit.intOf i).toNat)
  case atStart => exact ⟨0, Nat.zero_le _, rfl, rfl, Lib.hid (Below.refl _ _)⟩
  case round =>
    obtain ⟨j, hj, rfl, rfl, HB⟩ := hrel
    by_cases hlt : j < ts.length
    · obtain ⟨g, off, rfl, a0, a1, a2, a3⟩ := (T2.out.below HB.out).tok (k := j) (List.getElem?_eq_getElem hlt)
      obtain ⟨⟨c1, c2, c3, c4, c5, c6⟩, c7, -⟩ := HC.out j ts[j] (List.getElem?_eq_getElem hlt)
      have HP : Hid (prv 0 ts (j + 1) = ts[j].stop) := Lib.hid (by simp [prv, List.getElem?_eq_getElem hlt])
      rw [size_toList] at c3
      rw [text_at s _ _ _ c5] at a3
      generalize prv 0 ts j = p at *
      generalize ts[j] = t at *
      have HS := Lib.hid (fun w => skip_at s p t.pos w (by omega) c1 (by omega) c6)
      obtain ⟨b, hb⟩ : ∃ b : Bool, decide (j + 1 = ts.length) = b := ⟨_, rfl⟩
      have k0 : (t.kind == 0) = b := by rw [← hb]; exact Bool.eq_iff_iff.2 (by simpa using c7)
      have k1 : ((j : Int) == (ts.length : Nat) - 1) = b := by rw [← hb]; exact Bool.eq_iff_iff.2 (by simp only [beq_iff_eq, decide_eq_true_eq]; omega)
      have k2 : ((t.stop : Int) == (t.pos : Nat)) = b := by rw [← k0]; exact Bool.eq_iff_iff.2 (by simp only [beq_iff_eq, ← c4]; omega)
      have d1 : decide ((t.pos : Int) < (p : Nat)) = false := by simp; omega
      have d2 : decide ((t.stop : Int) < (t.pos : Nat)) = false := by simp; omega
      have d3 : decide ((s.size : Int) < (t.stop : Nat)) = false := by simp; omega
      have c8 : t.pos ≤ s.size := by omega
      have c9 : (t.pos : Int) ≤ (s.size : Nat) := by omega
      have hkz : (j : Int) < (ts.length : Nat) := by omega
      have hk0 : (0 : Int) ≤ (j : Nat) := by omega
      clear c4 c5 c6 c7 hb
      go_wp2
      go_quiet ((go_at_call 15; exact Calls.quiet_of_same (HS.out _)))
      go_wp2
      go_roundw
      case rel => exact ⟨j + 1, hlt, by go_num, by rw [HP.out], Lib.hid (below_drewN (HB.out.alloc HB.out.size _) _)⟩
      case measure => simp [RowKit.intOf]; omega
    · obtain rfl : j = ts.length := by omega
      obtain ⟨n, hn⟩ : ∃ n, ts.length = n + 1 := ⟨ts.length - 1, by omega⟩
      have he : prv 0 ts ts.length = s.size := by
        have h := (HC.out n _ (List.getElem?_eq_getElem (by omega))).2.2 hn.symm
        rw [size_toList] at h
        rw [hn]
        simp [prv, List.getElem?_eq_getElem (show n < ts.length by omega), h]
      rw [he]
      clear hn
      go_wp2
      go_ret
      exact ⟨by simp, B3.out.trans (HB.out.mono B3.out.size)⟩

theorem walk (s : ByteArray) (w : World) (hs : s.size ≤ maxLen) : Calls Try.prog 5 #[.string s] w fun e w' => e = .returned (.bool true) ∧ Below w.heap.size w w' := by
  rcases lexed_cases s.data.toList with ⟨h, hl⟩ | ⟨a, c, h, hl⟩
  · exact walk_good s w hs _ hl (toks_cov _) (by simp [toks])
  · obtain ⟨hc, t, ht, hp, hk⟩ := bad_some h
    obtain ⟨j, hj⟩ := List.getElem?_of_mem ht
    obtain ⟨⟨_, c2, c3, c4, _, _⟩, _, _⟩ := toks_cov _ j t hj
    rw [size_toList] at c3
    have : t.stop ≠ t.pos := fun h => hk (c4.1 h)
    exact walk_bad s w hs a c hl hc (by omega)

set_option maxRecDepth 100000 in
theorem lifted (os : Os) (started : os.Started) (H : Type) (enc : TypeId × Value → H) :
    ReturnsInHanded {} Try.checked os 5 .any (Rows.lexCoversSpec.pre6 enc Try.prog Try.f5 Rows.lexCoversRow.domain false) (Rows.lexCoversSpec.post enc Try.prog Try.f5 false true false false) := by
  refine returnsInHanded_of_change (C := Try.checked) own started (by kernel_rfl) Try.func5
    (ChangeSpec.witness6 (enc := enc) (C := Try.checked) false ⟨#[], #[.string .empty], []⟩ 8 (by kernel_rfl) (by kernel_rfl) (by kernel_rfl) (by kernel_rfl)) ?_
  intro W base args ds gs before hval0 hW hcnd _
  have hval : ∀ (j : Nat) t v, Try.f5.params[j]? = some t → args[j]? = some v → Value.okWide Try.prog W .any base t v := hval0
  have hW' := hW
  obtain ⟨p, q, hA0, hV, rfl, hfz, hnd⟩ := hW
  have hA : DataW.TrodAll enc Try.prog W 0 (fun _ => true) true Try.f5.params.toList args.toList ds p := hA0
  rw [Try.params5] at hA hval
  obtain ⟨v0, vs0, d0, ds0, p0, q0, hargs, rfl, rfl, h0, r0⟩ := trodAll_cons hA
  obtain ⟨rfl, rfl, rfl⟩ := trodAll_nil r0
  obtain rfl : args = #[v0] := by cases args; simp_all
  obtain ⟨rfl, rfl⟩ := trodVars_none hV
  obtain ⟨a0, rfl, rfl, rfl, w0⟩ := open_string Try.underlying9 (hval 0 9 v0 rfl rfl) h0
  clear hA0 hval0
  simp only [List.append_nil] at hW'
  refine (walk a0 W w0).mono fun e W' ⟨he, hg⟩ => ?_
  subst he
  exact ⟨_, rfl, _, _, _, [], [], [], hW', (trodAll_cons_mk (shut_bool Try.underlying4 _) trodAll_mk0), (trodAll_cons_mk (shut_string Try.underlying9 w0) trodAll_mk0), rfl, hg.frame _, fun h => by cases h⟩

theorem over : Rows.lexCoversRow.holds Try.pinned (OpenSpec.ofChange Rows.lexCoversSpec) :=
  OpenClaim.holds_of_wide 5 Try.f5 rfl rfl rfl rfl rfl rfl rfl ⟨rfl, rfl, rfl, rfl, rfl⟩ rfl rfl rfl rfl rfl (by kernel_rfl) Try.func5 (by kernel_rfl)
    (of_decide_eq_true (by kernel_rfl)) (by unfold Func.isWrapper; first | (rw [if_pos (by decide +kernel)]; kernel_rfl) | (rw [if_neg (by decide +kernel)]; exact ⟨rfl, rfl⟩))
    (fun os started H enc _ => lifted os started H enc)

/-- LexCovers answers true. -/
theorem proved : Rows.LexCoversSaid :=
  over

end Go.Proofs.Ytddpmlmhlegheaa.lexCovers
