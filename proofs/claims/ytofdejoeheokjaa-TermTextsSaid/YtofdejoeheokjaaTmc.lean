/-
  An argument that is a type, opened: what the second form's bound gives; how long its text is. No condition.
-/
import Derived.Test.YtofdejoeheokjaaTmb
namespace Go.Proofs.Ytofdejoeheokjaa
open Go.RowKit
open Go.ChangeShapes Go.WideShapes Go.Deep

mutual
theorem FitY.mono {q q' : Nat} (h : q ≤ q') : ∀ {t : GY}, FitY q t → FitY q' t
  | .mk .., hf => by
    unfold FitY at hf ⊢
    obtain ⟨h1, h2, h3, h4⟩ := hf
    exact ⟨by omega, by omega, by omega, FitYs.mono h h4⟩
theorem FitYs.mono {q q' : Nat} (h : q ≤ q') : ∀ {l : List GY}, FitYs q l → FitYs q' l
  | [], _ => by unfold FitYs; trivial
  | y :: r, hf => by
    unfold FitYs at hf ⊢
    exact ⟨FitY.mono h hf.1, FitYs.mono h hf.2⟩
end
theorem bulk_pos {H : Type} (d : DataW H) : 1 ≤ Rows.uptoBulk d := by
  cases d with
  | lit l => cases l <;> simp [Rows.uptoBulk]
  | _ => simp [Rows.uptoBulk]
theorem bulk_len {H : Type} : ∀ ds : List (DataW H), ds.length ≤ Rows.uptoBulkAll ds
  | [] => by simp
  | d :: r => by
    have := bulk_len r
    have := bulk_pos d
    simp only [Rows.uptoBulkAll, List.length_cons]
    omega
theorem bulk_mem {H : Type} {d : DataW H} : ∀ {ds : List (DataW H)}, d ∈ ds → Rows.uptoBulk d ≤ Rows.uptoBulkAll ds
  | [], h => by cases h
  | x :: r, h => by
    simp only [Rows.uptoBulkAll]
    rcases List.mem_cons.1 h with rfl | h
    · omega
    · have := bulk_mem h; omega

set_option maxRecDepth 100000 in
set_option maxHeartbeats 4000000 in
/-- A type that came in, whatever it is. -/
theorem open_yB {H : Type} {enc : TypeId × Value → H} {W : World} {base : Nat} : ∀ (fuel : Nat) (cs : List Value) (x : DataW H × List MemPlace), DataW.trod enc Try.prog W base (fun _ => true) true fuel 25 cs = some x →
    ∃ g : GY, IsY W g (.agg cs.toArray) ∧ FitY (72 * Rows.uptoBulk x.1) g := by
  intro fuel
  induction fuel using Nat.strongRecOn with
  | _ fuel ih =>
  intro cs x h
  have hT : Try.prog.cellsOf 25 = 5 := by kernel_rfl
  have h3 : Try.prog.cellsOf 3 = 1 := by kernel_rfl
  have h9 : Try.prog.cellsOf 9 = 1 := by kernel_rfl
  have hS : Try.prog.cellsOf 23 = 1 := by kernel_rfl
  have hu := Try.underlying25
  have hv := Try.underlying23
  obtain ⟨ys, n, hfu, rfl, hlen, hyl, hfld⟩ := DataW.trod_struct hu h
  rw [hT] at hlen
  match cs, hlen, ys, hyl with
  | [u0, u1, u2, u3, u4], _, [y0, y1, y2, y3, y4], _ =>
  have t0 : DataW.trod enc Try.prog W base (fun _ => true) true n 3 [u0] = some y0 := by simpa [h3] using hfld 0 _ rfl
  have t1 : DataW.trod enc Try.prog W base (fun _ => true) true n 9 [u1] = some y1 := by simpa [h9] using hfld 1 _ rfl
  have t2 : DataW.trod enc Try.prog W base (fun _ => true) true n 9 [u2] = some y2 := by simpa [h9] using hfld 2 _ rfl
  have t3 : DataW.trod enc Try.prog W base (fun _ => true) true n 3 [u3] = some y3 := by simpa [h3] using hfld 3 _ rfl
  have t4 : DataW.trod enc Try.prog W base (fun _ => true) true n 23 [u4] = some y4 := by simpa [hS] using hfld 4 _ rfl
  obtain ⟨n0, f0, g0, _⟩ := DataW.trod_int Try.underlying3 t0
  obtain ⟨s1, f1, g1, _⟩ := DataW.trod_string Try.underlying9 t1
  obtain ⟨s2, f2, g2, _⟩ := DataW.trod_string Try.underlying9 t2
  obtain ⟨n3, f3, g3, _⟩ := DataW.trod_int Try.underlying3 t3
  simp only [List.cons.injEq, and_true] at f0 f1 f2 f3
  subst f0; subst f1; subst f2; subst f3; subst g0; subst g1; subst g2; subst g3
  have e1 : s1.data.toList.length = s1.size := by rw [Array.length_toList]; rfl
  have e2 : s2.data.toList.length = s2.size := by rw [Array.length_toList]; rfl
  rcases open_fuel hv t4 with ⟨f4, rfl⟩ | ⟨a, cap, n', ds, rest, hn', f4, hx, hcl, hcm, hel⟩
  · simp only [List.cons.injEq, and_true] at f4
    subst f4
    refine ⟨.mk n0 s1 s2 n3 [], IsY.of (by simp) (by simp) (IsYs.nil _ _ _), ?_⟩
    unfold FitY
    simp only [Rows.uptoBulk, Rows.uptoBulkAll, List.map_cons, List.map_nil]
    refine ⟨?_, ?_, by simp, by unfold FitYs; trivial⟩
    · omega
    · omega
  · simp only [List.cons.injEq, and_true] at f4
    subst f4
    obtain ⟨d4, p4⟩ := y4
    subst hx
    have key := ys_of (w := W) (a := a) (Q := fun m => 72 * Rows.uptoBulkAll ds ≤ m) ds.length 0 (by
      intro j _ hj
      obtain ⟨d, hd⟩ : ∃ d, ds[j]? = some d := ⟨_, List.getElem?_eq_getElem (by omega)⟩
      obtain ⟨cs', pl, hc, ht⟩ := hel j d hd
      rw [hT] at hc
      obtain ⟨_, hlen', hat⟩ := World.cells?_some hc
      obtain ⟨y, hy, hf⟩ := ih n' (by omega) cs' _ ht
      match cs', hlen', hat, hy with
      | [v0, v1, v2, v3, v4], _, hat, hy =>
        have c0 := hat 0 (by decide)
        have c1 := hat 1 (by decide)
        have c2 := hat 2 (by decide)
        have c3 := hat 3 (by decide)
        have c4 := hat 4 (by decide)
        rw [add_more'] at c0 c1 c2 c3 c4
        simp only [List.getElem?_cons_zero, List.getElem?_cons_succ] at c0 c1 c2 c3 c4
        exact ⟨v0, v1, v2, v3, v4, y, c0, c1, c2, c3, c4, hy, fun m hm => hf.mono (by have h1 : 72 * Rows.uptoBulkAll ds ≤ m := hm; have h2 := bulk_mem (List.mem_of_getElem? hd); show 72 * Rows.uptoBulk d ≤ m; omega)⟩)
    obtain ⟨xs, hl, hx, hg⟩ := key
    refine ⟨.mk n0 s1 s2 n3 xs, ?_, ?_⟩
    · have := IsY.of (k := n0) (p := s1) (m := s2) (n := n3) (args := xs) (o := some a) (c := cap) (by omega) hcm hx
      rwa [hl] at this
    · unfold FitY
      simp only [Rows.uptoBulk, Rows.uptoBulkAll, List.map_cons, List.map_nil]
      have hds := bulk_len ds
      refine ⟨by omega, by omega, by omega, hg _ (by omega)⟩

theorem txt_len {q : Nat} : ∀ {t : GY}, FitY q t → (txtY t).length ≤ 2 * cntY t + 2 * q + 5
  | .mk k p m n l, h => by
    unfold FitY at h
    obtain ⟨h1, h2, _, h4⟩ := h
    have e1 : p.data.toList.length = p.size := by rw [Array.length_toList]; rfl
    have e2 : m.data.toList.length = m.size := by rw [Array.length_toList]; rfl
    rw [cntY]
    cases l with
    | nil =>
      rw [txtY]
      repeat' split
      all_goals (first | omega | (simp only [List.length_append, List.length_cons, List.length_nil]; omega))
    | cons y r =>
      unfold FitYs at h4
      have ih := txt_len h4.1
      rw [cntYs]
      rw [txtY]
      repeat' split
      all_goals (first | omega | (simp only [List.length_append, List.length_cons, List.length_nil]; omega))

end Go.Proofs.Ytofdejoeheokjaa
