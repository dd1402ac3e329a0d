/-
  Plain: a file's parts are few all the way down; a text with one declaration more, and what both tell. No condition.
-/
import Derived.Test.YtlgaphopjdeklaaGreatU42
import Derived.Test.YtlgaphopjdeklaaGreatU44
namespace Go.Proofs.YtlgaphopjdeklaaGreat
open Go.RowKit
open Go.Lib hiding intOf
section
variable {l : List TZ} {N : Nat}
theorem sepn_len {α : Type} {one : Int → EO α} (h1 : ∀ i x j, one i = .ok x j → i < j ∧ j ≤ l.length) {z : UInt8} {f : Nat} {i : Int} {xs : List α} {j : Int} (h : sepn l one z f i = .ok xs j) : (xs.length : Int) ≤ j - i := by
  unfold sepn at h
  split at h
  · injection h with hx hj
    subst hx hj
    rw [List.length_nil]; omega
  · exact seps_len h1 h
theorem mth_few {f : Nat} {i : Int} {x : MX} {j : Int} (h0 : 0 ≤ i) (h : mth l f i = .ok x j) : x.params.length ≤ l.length := by
  unfold mth at h
  obtain ⟨n, a, h1, h⟩ := thn_ok h
  obtain ⟨_, b, h2, h⟩ := thn_ok h
  obtain ⟨ts, c, h3, h⟩ := thn_ok h
  have r1 := na_rng h1
  have r2 := sy_rng h2
  have r3 := sepn_rng (fun _ _ _ h => ty_rng h) h3
  have hl := sepn_len (fun _ _ _ h => ty_rng h) h3
  have hx : x.params = ts := by
    split at h
    · injection h with hx _; subst hx; rfl
    · obtain ⟨t, d, h4, h⟩ := thn_ok h
      obtain ⟨_, e, h5, h⟩ := thn_ok h
      injection h with hx _; subst hx; rfl
  rw [hx]; omega
theorem upto_each {α : Type} {one : Int → EO α} {P : α → Prop} (h1 : ∀ i x j, 0 ≤ i → one i = .ok x j → P x) (h2 : ∀ i x j, one i = .ok x j → i < j) : ∀ {f : Nat} {i : Int} {xs : List α} {j : Int}, 0 ≤ i → upto l one f i = .ok xs j → ∀ y ∈ xs, P y
  | 0, _, _, _, _, h => by rw [upto] at h; cases h
  | f + 1, i, xs, j, h0, h => by
    rw [upto] at h
    split at h
    · injection h with hx _
      subst hx
      intro y hy; cases hy
    · obtain ⟨x, a, ha, h⟩ := thn_ok h
      obtain ⟨ys, b, hb, h⟩ := thn_ok h
      injection h with hx _
      subst hx
      intro y hy
      have := h2 _ _ _ ha
      rcases List.mem_cons.1 hy with rfl | hy
      · exact h1 _ _ _ h0 ha
      · exact upto_each h1 h2 (by omega) hb y hy
theorem slim0 : slimSL N [] := by unfold slimSL; trivial
theorem dty_fit (hN : l.length + 2 ≤ N) {f : Nat} {i : Int} (h0 : 0 ≤ i) {x : DX} {j : Int} (h : dty l f i = .ok x j) : FitD N x := by
  unfold dty at h
  obtain ⟨n, a, h1, h⟩ := thn_ok h
  have hn := na_rng h1
  split at h
  · obtain ⟨_, b, h2, h⟩ := thn_ok h
    obtain ⟨ms, c, h3, h⟩ := thn_ok h
    injection h with hx hj
    subst hx
    have s2 := sy_rng h2
    have hu := upto_rng (fun _ _ _ h => mth_rng h) h3
    have hlen := upto_len (fun _ _ _ h => mth_rng h) h3
    exact ⟨Nat.zero_le _, Nat.zero_le _, by show ms.length ≤ _; omega, fun y hy => Nat.le_trans (upto_each (P := fun (y : MX) => y.params.length ≤ l.length) (fun _ _ _ h0 h => mth_few h0 h) (fun _ _ _ h => (mth_rng h).1) (by omega) h3 y hy) (by omega), Nat.zero_le _, slim0⟩
  · obtain ⟨_, b, h2, h⟩ := thn_ok h
    obtain ⟨_, c, h3, h⟩ := thn_ok h
    obtain ⟨fs, d, h4, h⟩ := thn_ok h
    injection h with hx hj
    subst hx
    have := wo_rng h2; have := sy_rng h3
    have hu := upto_rng (fun _ _ _ h => fld_rng h) h4
    have hlen := upto_len (fun _ _ _ h => fld_rng h) h4
    exact ⟨Nat.zero_le _, by show fs.length ≤ _; omega, Nat.zero_le _, fun y hy => (by cases hy), Nat.zero_le _, slim0⟩
theorem dfn_fit (hN : l.length + 2 ≤ N) {F fb f : Nat} {i : Int} (_h0 : 0 ≤ i) {x : DX} {j : Int} (h : dfn l F fb f i = .ok x j) : FitD N x := by
  unfold dfn at h
  obtain ⟨r, a, h1, h⟩ := thn_ok h
  obtain ⟨n, b, h2, h⟩ := thn_ok h
  obtain ⟨bs, c, h3, h⟩ := thn_ok h
  obtain ⟨_, d, h4, h⟩ := thn_ok h
  obtain ⟨ps, e, h5, h⟩ := thn_ok h
  obtain ⟨t, k, h6, h⟩ := thn_ok h
  obtain ⟨bd, q, h7, h⟩ := thn_ok h
  injection h with hx hj
  subst hx
  have r1 : i ≤ a := rcv_rng h1
  have r2 := na_rng h2; have r3 := bnds_rng h3; have r4 := sy_rng h4
  have r5 := sepn_rng (fun _ _ _ h => by have := prm_rng h; omega) h5; have r6 := res_rng h6; have r7 := (stm_rng (l := l) (F := F) fb).1 _ _ _ _ h7
  have hps := sepn_len (fun _ _ _ h => by have := prm_rng h; omega) h5
  have hbs : (bs.length : Int) ≤ (l.length : Nat) := by
    unfold bnds at h3
    split at h3
    · have := seps_len (fun _ _ _ h => by have := prm_rng h; omega) h3
      omega
    · injection h3 with hx hj
      subst hx
      rw [List.length_nil]; omega
  have hb := (stm_slim hN (F := F) fb).1 _ _ _ _ h7
  exact ⟨by show bs.length ≤ _; omega, by show ps.length ≤ _; omega, Nat.zero_le _, fun y hy => (by cases hy), by show bd.length ≤ _; omega, hb.1⟩
theorem dcls_fit (hN : l.length + 2 ≤ N) {F fb f : Nat} : ∀ {k : Nat} {i : Int} {xs : List DX} {j : Int}, 0 ≤ i → dcls l F fb f k i = .ok xs j → ∀ x ∈ xs, FitD N x
  | 0, _, _, _, _, h => by rw [dcls] at h; cases h
  | k + 1, i, xs, j, h0, h => by
    rw [dcls] at h
    split at h
    · injection h with hx _
      subst hx
      intro x hx; cases hx
    · obtain ⟨y, a, h1, h⟩ := thn_ok h
      obtain ⟨ys, b, h2, h⟩ := thn_ok h
      injection h with hx _
      subst hx
      have hr := dcl_rng h1
      intro x hx
      rcases List.mem_cons.1 hx with rfl | hx
      · unfold dcl at h1
        split at h1
        · exact dty_fit hN (by omega) h1
        · obtain ⟨_, c, h3, h1⟩ := thn_ok h1
          have := wo_rng h3
          exact dfn_fit hN (by omega) h1
      · exact dcls_fit hN (by omega) h2 x hx
theorem fil_fit (hN : l.length + 2 ≤ N) {F fb f : Nat} {X : FX} {q : Int} (h : fil l F fb f = .ok X q) : FitF N X := by
  obtain ⟨hn, i, hi, hd⟩ := fil_at h
  have hi0 := hi.le
  have hdl := DsAt.len (by omega) hd
  refine ⟨?_, by omega, ?_⟩
  · rcases hi.few with h | h
    · rw [h]; exact Nat.zero_le _
    · omega
  · unfold fil at h
    obtain ⟨_, a, h1, h⟩ := thn_ok h
    obtain ⟨n, b, h2, h⟩ := thn_ok h
    obtain ⟨_, c, h3, h⟩ := thn_ok h
    obtain ⟨is, d, h4, h⟩ := thn_ok h
    obtain ⟨ds, e, h5, h⟩ := thn_ok h
    injection h with hx hj
    subst hx
    have r1 := wo_rng h1; have r2 := na_rng h2; have r3 := sy_rng h3
    have r4 := (imps_at h4).le
    exact dcls_fit hN (by omega) h5
end
/-- What both texts tell. -/
def TextIs (t : List UInt8) (R : EO FX) : Prop := ∀ w : World, Calls Tryz.prog 8 #[.string ⟨t.toArray⟩] w fun e w' => ∃ v, e = .returned v ∧ FParRes w.heap.size w' R v ∧ Below w.heap.size w w'
theorem textIs (F fb f : Nat) (t : List UInt8) (hF : fuel ((toks t).map zTok) ≤ F) (hr : fil ((toks t).map zTok) F fb f ≠ .out) (hs : t.length ≤ 100000) : TextIs t (txt F fb f t) := fun w => by
  have h := textF_any F fb f ⟨t.toArray⟩ (by rw [List.toList_toArray]; exact hF) (by rw [List.toList_toArray]; exact hr) (by show t.toArray.size ≤ _; simp; omega) w
  rw [List.toList_toArray] at h
  exact h
theorem textIs_all (t : List UInt8) (hs : t.length ≤ 100000) : TextIs t (txtAll t) := fun w => by
  have h := textF_all ⟨t.toArray⟩ (by show t.toArray.size ≤ _; simp; omega) w
  rw [List.toList_toArray] at h
  exact h
theorem more_both (s z : List UInt8) (hs : s.length ≤ 3000) (hz : z = zS ∨ z = zF) : ∃ R R', TextIs s R ∧ TextIs (s ++ 10 :: z) R' ∧
    ((∃ p q p' q', R = .err p q ∧ R' = .err p' q' ∧ q ≠ 0 ∧ q' ≠ 0) ∨
      (∃ X j Z r, R = .ok X j ∧ R' = .ok ⟨X.name, X.pos, X.imports, X.decls ++ [Z]⟩ r ∧ Z.name = ⟨#[90]⟩ ∧ Z.fields.length = 1 ∧ Z.stop = ((s.length + 1 + z.length : Nat) : Int) ∧ FitF 4003 X)) := by
  have hm : z.length ≤ 24 := by rcases hz with rfl | rfl <;> decide
  have hl2 : (s ++ 10 :: z).length ≤ 100000 := by rw [List.length_append, List.length_cons]; omega
  cases hb : bad (toks s) 0 with
  | some x =>
    obtain ⟨a, c⟩ := x
    refine ⟨_, _, textIs_all s (by omega), textIs_all _ hl2, .inl ?_⟩
    have hb2 := more_bad (z := z) (s := s) (by rw [hb]; simp)
    cases hb3 : bad (toks (s ++ 10 :: z)) 0 with
    | none => exact (hb2 hb3).elim
    | some y =>
      obtain ⟨a', c'⟩ := y
      exact ⟨_, _, _, _, txt_bad hb, txt_bad hb3, (bad_some hb).1, (bad_some hb3).1⟩
  | none =>
    have hg := more_good hb hz hs
    have hF : fuel ((toks s).map zTok) ≤ stF s + stF (s ++ 10 :: z) + 8 := by unfold stF; omega
    have hr := fil_some (l := (toks s).map zTok) (F := stF s + stF (s ++ 10 :: z) + 8) (f := stL s) hF (by rw [List.length_map]; unfold stL; omega)
    have h1 := textIs _ _ _ s hF hr (by omega)
    rw [txt_good hb] at h1
    have h2 : ∀ R', fil ((toks (s ++ 10 :: z)).map zTok) (stF s + stF (s ++ 10 :: z) + 8) (fuelB ((toks s).map zTok)) (stL s) = R' → R' ≠ .out → TextIs (s ++ 10 :: z) R' := fun R' he hn => by
      have := textIs (stF s + stF (s ++ 10 :: z) + 8) (fuelB ((toks s).map zTok)) (stL s) (s ++ 10 :: z) (by unfold stF; omega) (by rw [he]; exact hn) hl2
      rw [txt_good hg, he] at this
      exact this
    cases hx : fil ((toks s).map zTok) (stF s + stF (s ++ 10 :: z) + 8) (fuelB ((toks s).map zTok)) (stL s) with
    | out => exact (hr hx).elim
    | err p q =>
      obtain ⟨p', he⟩ := more_wrong hb hz hx
      rw [hx] at h1
      exact ⟨_, _, h1, h2 _ he (by simp), .inl ⟨p, q, p', q, rfl, rfl, (fil_bad hx).2, (fil_bad hx).2⟩⟩
    | ok X j =>
      obtain ⟨Z, r, he, z1, z2, z3⟩ := more_ok hb hz (by omega) (by unfold fuelB; omega) (by unfold stL; omega) hx
      rw [hx] at h1
      have hfew := few5 hb
      exact ⟨_, _, h1, h2 _ he (by simp), .inr ⟨X, j, Z, r, rfl, rfl, z1, z2, z3, fil_fit (by rw [List.length_map]; omega) hx⟩⟩
end Go.Proofs.YtlgaphopjdeklaaGreat
