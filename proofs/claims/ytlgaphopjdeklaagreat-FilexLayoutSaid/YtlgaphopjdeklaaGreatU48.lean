/-
  What Text answers for a text, and for it with remarks between its tokens. No condition.
-/
import Derived.Test.YtlgaphopjdeklaaGreatU12
import Derived.Test.YtlgaphopjdeklaaGreatU45
import Derived.Test.YtlgaphopjdeklaaGreatU47
namespace Go.Proofs.YtlgaphopjdeklaaGreat
open Go.RowKit
open Go.Lib hiding intOf
theorem wide_take (ts : List Tok) (k : Nat) (t : Tok) (h : ts[k]? = some t) : wideL (ts.take (k + 1)) = wideL (ts.take k) ++ (lyB ++ t.text) := by
  have hk : k < ts.length := (List.getElem?_eq_some_iff.1 h).1
  have ht : ts[k] = t := (List.getElem?_eq_some_iff.1 h).2
  unfold wideL
  rw [List.take_succ_eq_append_getElem hk, ht]
  simp
theorem wide_len (ts : List Tok) (B : Nat) (hb : ∀ t ∈ ts, t.text.length ≤ B) : (wideL ts).length ≤ ts.length * (6 + B) := by
  induction ts with
  | nil => simp [wideL]
  | cons t r ih =>
    have h1 := ih fun x hx => hb x (List.mem_cons_of_mem _ hx)
    have h2 := hb t List.mem_cons_self
    have e : wideL (t :: r) = lyB ++ t.text ++ wideL r := by unfold wideL; rw [List.flatMap_cons]
    rw [e, List.length_append, List.length_append, List.length_cons, Nat.succ_mul, show lyB.length = 6 from rfl]
    omega
theorem wide_few {s : List UInt8} (hb : bad (toks s) 0 = none) (hs : s.length ≤ 2000) : (wideL (toks s)).length ≤ 8026006 := by
  have h1 := wide_len (toks s) 2000 (fun t ht => Nat.le_trans (toks_ok s t ht).2.2.1 hs)
  have h2 := few5 hb
  have h3 : (toks s).length * (6 + 2000) ≤ 4001 * 2006 := Nat.mul_le_mul h2 (by omega)
  omega
theorem flatMap_len {α : Type} {f : α → List UInt8} {B : Nat} : ∀ {l : List α}, (∀ x ∈ l, (f x).length ≤ B) → (l.flatMap f).length ≤ l.length * B
  | [], _ => by simp
  | x :: r, h => by
    have h1 := flatMap_len (l := r) fun y hy => h y (List.mem_cons_of_mem _ hy)
    have h2 := h x List.mem_cons_self
    rw [List.flatMap_cons, List.length_append, List.length_cons, Nat.succ_mul]
    omega
theorem byS_len (n : ByteArray) : (byS n).length = n.size := by unfold byS; rw [Array.length_toList]; rfl
theorem flat_len {X : FX} (h : SlimF 4001 8026006 X) : (flatF X).length ≤ 4611686018427387904 := by
  have hD : ∀ x ∈ X.decls, (flatD x).length ≤ 96352214100 := fun x hx => by
    have d := h.decls.2 x hx
    have h1 := flatMap_len (l := x.fields) (f := fun y => 44 :: byS y.name) (B := 8026007) fun y hy => by have := d.fields.2 y hy; rw [List.length_cons, byS_len]; omega
    have h2 := flatMap_len (l := x.methods) (f := fun y => 44 :: byS y.name) (B := 8026007) fun y hy => by have := d.methods.2 y hy; rw [List.length_cons, byS_len]; omega
    have h3 := flatMap_len (l := x.body) (f := fun y => 46 :: byS y.name) (B := 8026007) fun y hy => by have := d.body.2 y hy; rw [List.length_cons, byS_len]; omega
    have g1 : x.fields.length * 8026007 ≤ 4001 * 8026007 := Nat.mul_le_mul_right _ d.fields.1
    have g2 : x.methods.length * 8026007 ≤ 4001 * 8026007 := Nat.mul_le_mul_right _ d.methods.1
    have g3 : x.body.length * 8026007 ≤ 4001 * 8026007 := Nat.mul_le_mul_right _ d.body.1
    have n1 := d.name
    have n2 := d.recv
    unfold flatD
    rw [List.length_append, List.length_append, List.length_append, List.length_cons, List.length_append, byS_len, byS_len]
    omega
  have h1 := flatMap_len (l := X.decls) (f := flatD) hD
  have h2 := flatMap_len (l := X.imports) (f := fun n => 32 :: byS n.1) (B := 8026007) fun n hn => by have := h.imports.2 n hn; rw [List.length_cons, byS_len]; omega
  have g1 : X.decls.length * 96352214100 ≤ 4001 * 96352214100 := Nat.mul_le_mul_right _ h.decls.1
  have g2 : X.imports.length * 8026007 ≤ 4001 * 8026007 := Nat.mul_le_mul_right _ h.imports.1
  have n1 := h.name
  unfold flatF
  rw [List.length_append, List.length_append, byS_len]
  omega
theorem slim_more {N L L' : Nat} (hL : L ≤ L') {X : FX} (h : SlimF N L X) : SlimF N L' X :=
  ⟨Nat.le_trans h.name hL, ⟨h.imports.1, fun n hn => Nat.le_trans (h.imports.2 n hn) hL⟩, ⟨h.decls.1, fun x hx => by
    have d := h.decls.2 x hx
    exact ⟨Nat.le_trans d.name hL, Nat.le_trans d.recv hL, ⟨d.fields.1, fun y hy => Nat.le_trans (d.fields.2 y hy) hL⟩, ⟨d.methods.1, fun y hy => Nat.le_trans (d.methods.2 y hy) hL⟩, ⟨d.body.1, fun y hy => Nat.le_trans (d.body.2 y hy) hL⟩⟩⟩⟩
/-- Text answers a file, a place and a code. -/
def Ans (t : List UInt8) (X : FX) (p c : Int) : Prop := ∀ w : World, Calls Tryz.prog 8 #[.string ⟨t.toArray⟩] w fun e w' => ∃ (oi : Option Addr) (ci : Nat) (od : Option Addr) (cd : Nat),
  e = .returned (.tuple #[.agg #[.string X.name, .int .i64 X.pos, .slice oi X.imports.length ci, .slice od X.decls.length cd], .agg #[.int .i64 p, .int .i64 c]]) ∧ InRow 2 IsNX Tr w' oi 0 X.imports ∧ InRow 22 (IsDX Tr w') Tr w' od 0 X.decls ∧ Below w.heap.size w w'
def noFX : FX := ⟨⟨#[]⟩, 0, [], []⟩
theorem ans_ok {t : List UInt8} {X : FX} {j : Int} (h : TextIs t (.ok X j)) : Ans t X 0 0 := fun w => (h w).mono fun e w' ⟨v, he, ⟨vx, hv, ⟨oi, ci, od, cd, hx, h1, h2⟩, _⟩, hb⟩ =>
  ⟨oi, ci, od, cd, by rw [he, hv, hx], h1.keep (fun _ _ _ _ _ => trivial) (fun _ _ _ _ h => h) (fun _ _ h => h) (by decide), h2.keep (fun _ _ _ _ _ => trivial) (fun _ _ _ _ h => h) (fun _ _ h => IsDX.keep (fun _ _ _ _ _ => trivial) (fun _ _ _ _ h => h) h) (by decide), hb⟩
theorem ans_err {t : List UInt8} {p c : Int} (h : TextIs t (.err p c)) : Ans t noFX p c := fun w => (h w).mono fun e w' ⟨v, he, hv, hb⟩ =>
  ⟨none, 0, none, 0, by rw [he, show v = _ from hv]; rfl, trivial, trivial, hb⟩
theorem slimF_no : SlimF 4001 8026006 noFX := ⟨Nat.zero_le _, ⟨Nat.zero_le _, fun _ h => by cases h⟩, ⟨Nat.zero_le _, fun _ h => by cases h⟩⟩
theorem textIs' (F fb f : Nat) (t : List UInt8) (hF : fuel ((toks t).map zTok) ≤ F) (hr : fil ((toks t).map zTok) F fb f ≠ .out) (hs : t.length ≤ 281474976710656) : TextIs t (txt F fb f t) := fun w => by
  have h := textF_any F fb f ⟨t.toArray⟩ (by rw [List.toList_toArray]; exact hF) (by rw [List.toList_toArray]; exact hr) (by show t.toArray.size ≤ _; simp; omega) w
  rw [List.toList_toArray] at h
  exact h
theorem layout_both {s : List UInt8} (hb : bad (toks s) 0 = none) (hs : s.length ≤ 2000) : ∃ X Y p p' c, Ans s X p c ∧ Ans (wideL (toks s)) Y p' c ∧ flatF X = flatF Y ∧ SlimF 4001 8026006 X ∧ SlimF 4001 8026006 Y ∧
    (c ≠ 0 → ∀ (i : Nat) (t : Tok), i < (pcsAt 0 s).length → (toks s)[i]? = some t → ((t.pos : Nat) : Int) = p → p' = (((wideL ((toks s).take i)).length + 6 : Nat) : Int)) := by
  have hw := wide_few hb hs
  have hg := wide_good hb
  have hF : fuel ((toks s).map zTok) ≤ stF s + stF (wideL (toks s)) := by unfold stF; omega
  have hr := fil_some (l := (toks s).map zTok) (F := stF s + stF (wideL (toks s))) (f := stL s) hF (by rw [List.length_map]; unfold stL; omega)
  have hq := wide_lay hb (stF s + stF (wideL (toks s))) (fuelB ((toks s).map zTok)) (stL s)
  have h1 := textIs' _ _ _ s hF hr (by omega)
  rw [txt_good hb] at h1
  have h2 : ∀ R', fil ((toks (wideL (toks s))).map zTok) (stF s + stF (wideL (toks s))) (fuelB ((toks s).map zTok)) (stL s) = R' → R' ≠ .out → TextIs (wideL (toks s)) R' := fun R' he hn => by
    have := textIs' (stF s + stF (wideL (toks s))) (fuelB ((toks s).map zTok)) (stL s) (wideL (toks s)) (by unfold stF; omega) (by rw [he]; exact hn) (by omega)
    rw [txt_good hg, he] at this
    exact this
  cases hx : fil ((toks s).map zTok) (stF s + stF (wideL (toks s))) (fuelB ((toks s).map zTok)) (stL s) with
  | out => exact (hr hx).elim
  | err p c =>
    rw [hx] at hq h1
    cases hy : fil ((toks (wideL (toks s))).map zTok) (stF s + stF (wideL (toks s))) (fuelB ((toks s).map zTok)) (stL s) with
    | out => rw [hy] at hq; exact hq.elim
    | ok Y r => rw [hy] at hq; exact hq.elim
    | err p' c' =>
      rw [hy] at hq
      obtain ⟨rfl, q, hq1, hq2, hq3⟩ := hq
      refine ⟨noFX, noFX, p, p', c, ans_err h1, ans_err (h2 _ hy (by simp)), rfl, slimF_no, slimF_no, fun _ i t hi ht hp => ?_⟩
      have e1 := tk_text (s := s) hi
      have e2 : (toks s)[i]? = some (pcsAt 0 s)[i] := by unfold toks; rw [List.getElem?_append_left hi]; exact List.getElem?_eq_getElem hi
      rw [ht] at e2
      injection e2 with e2
      have := wide_pos hb hq1 hi (by rw [e1, ← hq2, ← hp, e2]; rfl)
      rw [hq3, this]
      have e3 : (toks s).take i = (pcsAt 0 s).take i := by unfold toks; rw [List.take_append_of_le_length (by omega)]
      rw [e3]
  | ok X j =>
    have hX := txt_slim (F := stF s + stF (wideL (toks s))) (fb := fuelB ((toks s).map zTok)) (f := stL s) (s := s) (by rw [txt_good hb]; exact hx)
    rw [hx] at hq h1
    cases hy : fil ((toks (wideL (toks s))).map zTok) (stF s + stF (wideL (toks s))) (fuelB ((toks s).map zTok)) (stL s) with
    | out => rw [hy] at hq; exact hq.elim
    | err p c => rw [hy] at hq; exact hq.elim
    | ok Y r =>
      have hY := txt_slim (F := stF s + stF (wideL (toks s))) (fb := fuelB ((toks s).map zTok)) (f := stL s) (s := wideL (toks s)) (by rw [txt_good hg]; exact hy)
      rw [hy] at hq
      exact ⟨X, Y, 0, 0, 0, ans_ok h1, ans_ok (h2 _ hy (by simp)), flat_same hq, slim_more (by omega) hX, slim_more hw hY, fun h => (h rfl).elim⟩
end Go.Proofs.YtlgaphopjdeklaaGreat
