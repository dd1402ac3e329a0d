/-
  Methods, fields, declared types, packages, scopes in memory; arguments of these types opened. No condition.
-/
import Derived.Test.YtmnhilgifjaocaaTmb
import Derived.Test.YtmnhilgifjaocaaSea
namespace Go.Proofs.Ytmnhilgifjaocaa
open Go.RowKit
open Go.ChangeShapes Go.WideShapes Go.Deep

/-- A row of elements of n cells each. -/
def IsRow {α : Type} (n : Nat) (P : World → α → List Value → Prop) (w : World) (o : Option Addr) (xs : List α) : Prop :=
  ∀ (i : Nat) (x : α), xs[i]? = some x → ∃ (a : Addr) (c : List Value), o = some a ∧ c.length = n ∧ (∀ (j : Nat) (u : Value), c[j]? = some u → w.cell? ((a.add (i * n)).add j) = some u) ∧ P w x c
def IsMd (w : World) (m : MD) (c : List Value) : Prop := ∃ (o : Option Addr) (k : Nat) (r0 r1 r2 r3 r4 : Value), c = [.string m.name, .slice o m.params.length k, r0, r1, r2, r3, r4] ∧ m.params.length ≤ k ∧ k ≤ maxLen ∧ IsYs w o 0 m.params ∧ IsY w m.result (.agg #[r0, r1, r2, r3, r4])
def IsFd (w : World) (f : ByteArray × GY) (c : List Value) : Prop := ∃ (r0 r1 r2 r3 r4 : Value), c = [.string f.1, r0, r1, r2, r3, r4] ∧ IsY w f.2 (.agg #[r0, r1, r2, r3, r4])
def IsTd (w : World) (d : TD) (c : List Value) : Prop := ∃ (o1 o2 : Option Addr) (k1 k2 : Nat), c = [.string d.name, .bool d.strct, .slice o1 d.fields.length k1, .slice o2 d.meths.length k2] ∧ d.fields.length ≤ k1 ∧ k1 ≤ maxLen ∧ d.meths.length ≤ k2 ∧ k2 ≤ maxLen ∧ IsRow 6 IsFd w o1 d.fields ∧ IsRow 7 IsMd w o2 d.meths
def IsIf (w : World) (p : IF) (c : List Value) : Prop := ∃ (o o2 : Option Addr) (k n2 k2 : Nat), c = [.string p.pkg, .slice o p.types.length k, .slice o2 n2 k2] ∧ p.types.length ≤ k ∧ k ≤ maxLen ∧ IsRow 4 IsTd w o p.types
def IsSc (w : World) (s : SCP) (c : List Value) : Prop := ∃ (o o1 o2 o3 o4 : Option Addr) (k n1 k1 n2 k2 k3 n4 k4 : Nat), c = [.slice o s.W.length k, .slice o1 n1 k1, .slice o2 n2 k2, .slice o3 s.bounds.length k3, .slice o4 n4 k4] ∧ s.W.length ≤ k ∧ k ≤ maxLen ∧ s.bounds.length ≤ k3 ∧ k3 ≤ maxLen ∧ IsRow 3 IsIf w o s.W ∧ IsYs w o3 0 s.bounds ∧ (o = none → k = 0)
/-- A list of methods. -/
def IsMs (w : World) (l : List MD) (v : Value) : Prop := ∃ (o : Option Addr) (k : Nat), v = .slice o l.length k ∧ l.length ≤ k ∧ k ≤ maxLen ∧ IsRow 7 IsMd w o l

section
variable {w w' : World} (hk : ∀ (a : Addr) (u : Value), w.cell? a = some u → w'.cell? a = some u)
include hk
theorem IsRow.keep {α : Type} {n : Nat} {P : World → α → List Value → Prop} {o : Option Addr} {xs : List α} (h : IsRow n P w o xs) (hP : ∀ x c, P w x c → P w' x c) : IsRow n P w' o xs := fun i x hx => by
  obtain ⟨a, c, h1, h2, h3, h4⟩ := h i x hx
  exact ⟨a, c, h1, h2, fun j u hu => hk _ _ (h3 j u hu), hP _ _ h4⟩
theorem IsMd.keep {m : MD} {c : List Value} (h : IsMd w m c) : IsMd w' m c := by
  obtain ⟨o, k, r0, r1, r2, r3, r4, h1, h2, h3, h4, h5⟩ := h
  exact ⟨o, k, r0, r1, r2, r3, r4, h1, h2, h3, h4.keep hk, h5.keep hk⟩
theorem IsFd.keep {m : ByteArray × GY} {c : List Value} (h : IsFd w m c) : IsFd w' m c := by
  obtain ⟨r0, r1, r2, r3, r4, h1, h5⟩ := h
  exact ⟨r0, r1, r2, r3, r4, h1, h5.keep hk⟩
theorem IsTd.keep {m : TD} {c : List Value} (h : IsTd w m c) : IsTd w' m c := by
  obtain ⟨o1, o2, k1, k2, h1, h2, h3, h4, h5, h6, h7⟩ := h
  exact ⟨o1, o2, k1, k2, h1, h2, h3, h4, h5, h6.keep hk fun _ _ h => h.keep hk, h7.keep hk fun _ _ h => h.keep hk⟩
theorem IsIf.keep {m : IF} {c : List Value} (h : IsIf w m c) : IsIf w' m c := by
  obtain ⟨o1, o2, k1, k2, k3, h1, h2, h3, h4⟩ := h
  exact ⟨o1, o2, k1, k2, k3, h1, h2, h3, h4.keep hk fun _ _ h => h.keep hk⟩
theorem IsSc.keep {m : SCP} {c : List Value} (h : IsSc w m c) : IsSc w' m c := by
  obtain ⟨o, o1, o2, o3, o4, k, n1, k1, n2, k2, k3, n4, k4, h1, h2, h3, h4, h5, h6, h7, h8⟩ := h
  exact ⟨o, o1, o2, o3, o4, k, n1, k1, n2, k2, k3, n4, k4, h1, h2, h3, h4, h5, h6.keep hk fun _ _ h => h.keep hk, h7.keep hk, h8⟩
theorem IsMs.keep {l : List MD} {v : Value} (h : IsMs w l v) : IsMs w' l v := by
  obtain ⟨o, k, h1, h2, h3, h4⟩ := h
  exact ⟨o, k, h1, h2, h3, h4.keep hk fun _ _ h => h.keep hk⟩
end
theorem cells_below {w w' : World} (hb : Below w.heap.size w w') (a : Addr) (u : Value) (hc : w.cell? a = some u) : w'.cell? a = some u := (hb.cell (World.block_lt_of_cell? _ _ hc)).trans hc
section
variable {w w' : World}
theorem IsMd.below {m : MD} {c : List Value} (h : IsMd w m c) (hb : Below w.heap.size w w') : IsMd w' m c := h.keep (cells_below hb)
theorem IsFd.below {m : ByteArray × GY} {c : List Value} (h : IsFd w m c) (hb : Below w.heap.size w w') : IsFd w' m c := h.keep (cells_below hb)
theorem IsTd.below {m : TD} {c : List Value} (h : IsTd w m c) (hb : Below w.heap.size w w') : IsTd w' m c := h.keep (cells_below hb)
theorem IsIf.below {m : IF} {c : List Value} (h : IsIf w m c) (hb : Below w.heap.size w w') : IsIf w' m c := h.keep (cells_below hb)
theorem IsSc.below {m : SCP} {c : List Value} (h : IsSc w m c) (hb : Below w.heap.size w w') : IsSc w' m c := h.keep (cells_below hb)
theorem IsMs.below {m : List MD} {v : Value} (h : IsMs w m v) (hb : Below w.heap.size w w') : IsMs w' m v := h.keep (cells_below hb)
theorem rowMs_below {o : Option Addr} {m : List MD} (h : IsRow 7 IsMd w o m) (hb : Below w.heap.size w w') : IsRow 7 IsMd w' o m := h.keep (cells_below hb) fun _ _ h => h.below hb
theorem rowFs_below {o : Option Addr} {m : List (ByteArray × GY)} (h : IsRow 6 IsFd w o m) (hb : Below w.heap.size w w') : IsRow 6 IsFd w' o m := h.keep (cells_below hb) fun _ _ h => h.below hb
theorem rowTs_below {o : Option Addr} {m : List TD} (h : IsRow 4 IsTd w o m) (hb : Below w.heap.size w w') : IsRow 4 IsTd w' o m := h.keep (cells_below hb) fun _ _ h => h.below hb
theorem rowIs_below {o : Option Addr} {m : List IF} (h : IsRow 3 IsIf w o m) (hb : Below w.heap.size w w') : IsRow 3 IsIf w' o m := h.keep (cells_below hb) fun _ _ h => h.below hb
theorem IsRow.nil {α : Type} {n : Nat} {P : World → α → List Value → Prop} {o : Option Addr} : IsRow n P w o [] := fun i x h => by simp at h
theorem IsTd.zero : IsTd w zeroD [.string noB, .bool false, .slice none 0 0, .slice none 0 0] := ⟨none, none, 0, 0, rfl, Nat.le_refl _, Nat.zero_le _, Nat.le_refl _, Nat.zero_le _, IsRow.nil, IsRow.nil⟩
theorem IsY.zero : IsY w zeroY (.agg #[.int .i64 0, .string noB, .string noB, .int .i64 0, .slice none 0 0]) := IsY.of (args := []) (Nat.le_refl _) (Nat.zero_le _) (IsYs.nil _ _ _)
theorem IsMd.ones {m : MD} {c : List Value} (h : IsMd w m c) : c.length = 7 ∧ c.all (·.oneCell') = true := by
  obtain ⟨o, k, r0, r1, r2, r3, r4, rfl, _, _, _, h⟩ := h
  have := h.ones
  simp only [List.all_cons, List.all_nil, Bool.and_true, Bool.and_eq_true] at this ⊢
  exact ⟨rfl, rfl, rfl, this⟩
theorem IsTd.ones {m : TD} {c : List Value} (h : IsTd w m c) : c.length = 4 ∧ c.all (·.oneCell') = true := by
  obtain ⟨_, _, _, _, rfl, _⟩ := h
  exact ⟨rfl, rfl⟩
theorem IsIf.ones {m : IF} {c : List Value} (h : IsIf w m c) : c.length = 3 ∧ c.all (·.oneCell') = true := by
  obtain ⟨_, _, _, _, _, rfl, _⟩ := h
  exact ⟨rfl, rfl⟩
end

/-! ### how long names and lists are -/
def FitM (q : Nat) (m : MD) : Prop := m.name.size ≤ q ∧ FitYs q m.params ∧ m.params.length * 72 ≤ q ∧ FitY q m.result
def FitF (q : Nat) (f : ByteArray × GY) : Prop := f.1.size ≤ q ∧ FitY q f.2
def FitT (q : Nat) (d : TD) : Prop := d.name.size ≤ q ∧ (∀ f ∈ d.fields, FitF q f) ∧ d.fields.length * 88 ≤ q ∧ (∀ m ∈ d.meths, FitM q m) ∧ d.meths.length * 112 ≤ q
def FitI (q : Nat) (p : IF) : Prop := ∀ d ∈ p.types, FitT q d
def FitS (q : Nat) (s : SCP) : Prop := (∀ p ∈ s.W, FitI q p) ∧ FitYs q s.bounds

/-! ### opened -/
theorem rows_of {α β : Type} {P : Nat → α → β → Prop} : ∀ (ds : List α) (i : Nat), (∀ (j : Nat) (d : α), ds[j]? = some d → ∃ y, P (i + j) d y) → ∃ ys : List β, ys.length = ds.length ∧ ∀ (j : Nat) (y : β), ys[j]? = some y → ∃ d, ds[j]? = some d ∧ P (i + j) d y
  | [], i, _ => ⟨[], rfl, fun j y h => by simp at h⟩
  | d :: r, i, h => by
    obtain ⟨y, hy⟩ := h 0 d rfl
    obtain ⟨ys, hl, hx⟩ := rows_of (P := P) r (i + 1) fun j d hd => by
      have := h (j + 1) d (by simpa using hd)
      rwa [show i + (j + 1) = i + 1 + j by omega] at this
    refine ⟨y :: ys, by simp [hl], fun j z hz => ?_⟩
    cases j with
    | zero =>
      simp only [List.getElem?_cons_zero, Option.some.injEq] at hz
      subst hz
      exact ⟨d, rfl, hy⟩
    | succ j =>
      obtain ⟨d', h1, h2⟩ := hx j z (by simpa using hz)
      exact ⟨d', by simpa using h1, by rwa [show i + (j + 1) = i + 1 + j by omega]⟩
theorem open_row {α H : Type} {enc : TypeId × Value → H} {W : World} {base : Nat} {n sz : Nat} {P : World → α → List Value → Prop} {F : Nat → α → Prop} {t e : TypeId} (ht : Try.prog.underlying t = some (.slice e)) (hn : Try.prog.cellsOf e = n) (hz : Try.prog.bytesOf e = sz)
    (hP : ∀ (fuel : Nat) (cs : List Value) (x : DataW H × List MemPlace), DataW.trod enc Try.prog W base (fun _ => true) true fuel e cs = some x → ∃ y, P W y cs ∧ ∀ q, (∀ k ∈ x.1.weights Try.prog e, k ≤ q) → F q y)
    {fuel : Nat} {cs : List Value} {x : DataW H × List MemPlace} (h : DataW.trod enc Try.prog W base (fun _ => true) true fuel t cs = some x) :
    ∃ (o : Option Addr) (l : List α) (c : Nat), cs = [.slice o l.length c] ∧ l.length ≤ c ∧ c ≤ maxLen ∧ IsRow n P W o l ∧ (o = none → c = 0) ∧ ∀ q, (∀ k ∈ x.1.weights Try.prog t, k ≤ q) → (∀ y ∈ l, F q y) ∧ l.length * sz ≤ q := by
  rcases open_fuel ht h with ⟨rfl, rfl⟩ | ⟨a, cap, k, ds, rest, _, rfl, hx, hcl, hcm, hel⟩
  · exact ⟨none, [], 0, rfl, Nat.le_refl _, by simp, IsRow.nil, fun _ => rfl, fun q _ => ⟨fun y h => (by cases h), by simp⟩⟩
  · obtain ⟨ys, hl, hy⟩ := rows_of (P := fun (j : Nat) (d : DataW H) (y : α) => ∃ c : List Value, c.length = n ∧ (∀ (i : Nat) (u : Value), c[i]? = some u → W.cell? ((a.add (j * n)).add i) = some u) ∧ P W y c ∧ ∀ q, (∀ k ∈ d.weights Try.prog e, k ≤ q) → F q y) ds 0 (by
      intro j d hd
      rw [Nat.zero_add]
      obtain ⟨cs', pl, hc, ht⟩ := hel j d hd
      rw [hn] at hc
      obtain ⟨_, hlen, hat⟩ := World.cells?_some hc
      obtain ⟨y, hy, hf⟩ := hP _ _ _ ht
      refine ⟨y, cs', hlen, fun i u hu => ?_, hy, hf⟩
      have hi := (List.getElem?_eq_some_iff.1 hu).1
      rw [hat i (by omega), hu])
    obtain ⟨d4, p4⟩ := x
    simp only at hx
    subst hx
    refine ⟨some a, ys, cap, by rw [hl], by omega, hcm, fun i y hi => ?_, (fun h => by cases h), fun q hq => ⟨fun y hyy => ?_, ?_⟩⟩
    · obtain ⟨d, _, c, g1, g2, g3, _⟩ := hy i y hi
      rw [Nat.zero_add] at g2
      exact ⟨a, c, rfl, g1, g2, g3⟩
    · obtain ⟨i, hi⟩ := List.getElem?_of_mem hyy
      obtain ⟨d, hd, c, _, _, _, g4⟩ := hy i y hi
      simp only [DataW.weights, ht] at hq
      exact g4 q fun k hk => hq k (by simp [weightsAll_mem' (List.mem_of_getElem? hd) hk])
    · simp only [DataW.weights, ht] at hq
      have := hq ((ds.length + rest.length) * Try.prog.bytesOf e) (by simp)
      rw [hz] at this
      rw [hl]
      exact Nat.le_trans (Nat.mul_le_mul_right _ (Nat.le_add_right _ _)) this
/-- A struct's weights are those of its fields. -/
theorem weights3 {H : Type} {T : TypeId} {fs : Array Field} {xs : List (DataW H)} {q : Nat} (hu : Try.prog.underlying T = some (.struct fs)) (hq : ∀ k ∈ (DataW.agg xs).weights Try.prog T, k ≤ q) (i : Nat) (f : TypeId) (x : DataW H) (hf : (fs.toList.map (·.type))[i]? = some f) (hx : xs[i]? = some x) : ∀ k ∈ x.weights Try.prog f, k ≤ q := by
  intro k hk
  refine hq k ?_
  simp only [DataW.weights, hu]
  exact DataW.weights_mem_each hf hx k hk
theorem size_of {H : Type} {s : ByteArray} {q : Nat} (h : ∀ k ∈ (DataW.lit (.string s.data.toList) : DataW H).weights Try.prog 9, k ≤ q) : s.size ≤ q := by
  have e1 : s.data.toList.length = s.size := by rw [Array.length_toList]; rfl
  exact e1 ▸ h _ (by simp [DataW.weights])
/-- A slice, whatever is in it. -/
theorem open_any {H : Type} {enc : TypeId × Value → H} {W : World} {base : Nat} {t e : TypeId} (ht : Try.prog.underlying t = some (.slice e)) {fuel : Nat} {cs : List Value} {x : DataW H × List MemPlace} (h : DataW.trod enc Try.prog W base (fun _ => true) true fuel t cs = some x) :
    ∃ (o : Option Addr) (n c : Nat), cs = [.slice o n c] := by
  rcases open_fuel ht h with ⟨rfl, rfl⟩ | ⟨a, cap, k, ds, rest, _, rfl, hx, hcl, hcm, hel⟩
  · exact ⟨_, _, _, rfl⟩
  · exact ⟨_, _, _, rfl⟩
section
variable {H : Type} {enc : TypeId × Value → H} {W : World} {base : Nat}
set_option maxRecDepth 100000
theorem open_md (fuel : Nat) (cs : List Value) (x : DataW H × List MemPlace) (h : DataW.trod enc Try.prog W base (fun _ => true) true fuel 50 cs = some x) : ∃ m, IsMd W m cs ∧ ∀ q, (∀ k ∈ x.1.weights Try.prog 50, k ≤ q) → FitM q m := by
  have hT : Try.prog.cellsOf 50 = 7 := by kernel_rfl
  have h9 : Try.prog.cellsOf 9 = 1 := by kernel_rfl
  have hS : Try.prog.cellsOf 24 = 1 := by kernel_rfl
  have hY : Try.prog.cellsOf 29 = 5 := by kernel_rfl
  obtain ⟨ys, n, hfu, rfl, hlen, hyl, hfld⟩ := DataW.trod_struct Try.underlying50 h
  rw [hT] at hlen
  match cs, hlen, ys, hyl with
  | [u0, u1, u2, u3, u4, u5, u6], _, [y0, y1, y2], _ =>
  have t0 : DataW.trod enc Try.prog W base (fun _ => true) true n 9 [u0] = some y0 := by simpa [h9] using hfld 0 _ rfl
  have t1 : DataW.trod enc Try.prog W base (fun _ => true) true n 24 [u1] = some y1 := by simpa [h9, hS] using hfld 1 _ rfl
  have t2 : DataW.trod enc Try.prog W base (fun _ => true) true n 29 [u2, u3, u4, u5, u6] = some y2 := by simpa [h9, hS, hY] using hfld 2 _ rfl
  obtain ⟨s, f0, g0, _⟩ := DataW.trod_string Try.underlying9 t0
  obtain ⟨d1, p1⟩ := y1
  obtain ⟨o, l, c, f1, hlc, hcm, hl, wl⟩ := open_ys t1
  obtain ⟨y, hy, wy⟩ := open_y n _ _ t2
  simp only [List.cons.injEq, and_true] at f0 f1
  subst f0; subst f1
  refine ⟨⟨s, l, y⟩, ⟨o, c, u2, u3, u4, u5, u6, rfl, hlc, hcm, hl, hy⟩, fun q hq => ?_⟩
  have hq2 := weights3 Try.underlying50 hq
  have w0 := hq2 0 _ _ rfl rfl
  rw [g0] at w0
  obtain ⟨a1, a2⟩ := wl q (hq2 1 _ _ rfl rfl)
  exact ⟨size_of w0, a1, a2, wy q (hq2 2 _ _ rfl rfl)⟩
theorem open_fd (fuel : Nat) (cs : List Value) (x : DataW H × List MemPlace) (h : DataW.trod enc Try.prog W base (fun _ => true) true fuel 63 cs = some x) : ∃ m, IsFd W m cs ∧ ∀ q, (∀ k ∈ x.1.weights Try.prog 63, k ≤ q) → FitF q m := by
  have hT : Try.prog.cellsOf 63 = 6 := by kernel_rfl
  have h9 : Try.prog.cellsOf 9 = 1 := by kernel_rfl
  have hY : Try.prog.cellsOf 29 = 5 := by kernel_rfl
  obtain ⟨ys, n, hfu, rfl, hlen, hyl, hfld⟩ := DataW.trod_struct Try.underlying63 h
  rw [hT] at hlen
  match cs, hlen, ys, hyl with
  | [u0, u2, u3, u4, u5, u6], _, [y0, y2], _ =>
  have t0 : DataW.trod enc Try.prog W base (fun _ => true) true n 9 [u0] = some y0 := by simpa [h9] using hfld 0 _ rfl
  have t2 : DataW.trod enc Try.prog W base (fun _ => true) true n 29 [u2, u3, u4, u5, u6] = some y2 := by simpa [h9, hY] using hfld 1 _ rfl
  obtain ⟨s, f0, g0, _⟩ := DataW.trod_string Try.underlying9 t0
  obtain ⟨y, hy, wy⟩ := open_y n _ _ t2
  simp only [List.cons.injEq, and_true] at f0
  subst f0
  refine ⟨(s, y), ⟨u2, u3, u4, u5, u6, rfl, hy⟩, fun q hq => ?_⟩
  have hq2 := weights3 Try.underlying63 hq
  have w0 := hq2 0 _ _ rfl rfl
  rw [g0] at w0
  exact ⟨size_of w0, wy q (hq2 1 _ _ rfl rfl)⟩
theorem open_td (fuel : Nat) (cs : List Value) (x : DataW H × List MemPlace) (h : DataW.trod enc Try.prog W base (fun _ => true) true fuel 35 cs = some x) : ∃ m, IsTd W m cs ∧ ∀ q, (∀ k ∈ x.1.weights Try.prog 35, k ≤ q) → FitT q m := by
  have hT : Try.prog.cellsOf 35 = 4 := by kernel_rfl
  have h9 : Try.prog.cellsOf 9 = 1 := by kernel_rfl
  have h4 : Try.prog.cellsOf 4 = 1 := by kernel_rfl
  have hF : Try.prog.cellsOf 32 = 1 := by kernel_rfl
  have hM : Try.prog.cellsOf 33 = 1 := by kernel_rfl
  obtain ⟨ys, n, hfu, rfl, hlen, hyl, hfld⟩ := DataW.trod_struct Try.underlying35 h
  rw [hT] at hlen
  match cs, hlen, ys, hyl with
  | [u0, u1, u2, u3], _, [y0, y1, y2, y3], _ =>
  have t0 : DataW.trod enc Try.prog W base (fun _ => true) true n 9 [u0] = some y0 := by simpa [h9] using hfld 0 _ rfl
  have t1 : DataW.trod enc Try.prog W base (fun _ => true) true n 4 [u1] = some y1 := by simpa [h9, h4] using hfld 1 _ rfl
  have t2 : DataW.trod enc Try.prog W base (fun _ => true) true n 32 [u2] = some y2 := by simpa [h9, h4, hF] using hfld 2 _ rfl
  have t3 : DataW.trod enc Try.prog W base (fun _ => true) true n 33 [u3] = some y3 := by simpa [h9, h4, hF, hM] using hfld 3 _ rfl
  obtain ⟨s, f0, g0, _⟩ := DataW.trod_string Try.underlying9 t0
  obtain ⟨b, f1, _⟩ := DataW.trod_bool Try.underlying4 t1
  obtain ⟨o1, l1, c1, f2, a1, b1, r1, _, w1⟩ := open_row (n := 6) (P := IsFd) (F := FitF) Try.underlying32 (by kernel_rfl) (sz := 88) (by kernel_rfl) open_fd t2
  obtain ⟨o2, l2, c2, f3, a2, b2, r2, _, w2⟩ := open_row (n := 7) (P := IsMd) (F := FitM) Try.underlying33 (by kernel_rfl) (sz := 112) (by kernel_rfl) open_md t3
  simp only [List.cons.injEq, and_true] at f0 f1 f2 f3
  subst f0; subst f1; subst f2; subst f3
  refine ⟨⟨s, b, l1, l2⟩, ⟨o1, o2, c1, c2, rfl, a1, b1, a2, b2, r1, r2⟩, fun q hq => ?_⟩
  have hq2 := weights3 Try.underlying35 hq
  have w0 := hq2 0 _ _ rfl rfl
  rw [g0] at w0
  obtain ⟨m1, m2⟩ := w1 q (hq2 2 _ _ rfl rfl)
  obtain ⟨m3, m4⟩ := w2 q (hq2 3 _ _ rfl rfl)
  exact ⟨size_of w0, m1, m2, m3, m4⟩
theorem open_if (fuel : Nat) (cs : List Value) (x : DataW H × List MemPlace) (h : DataW.trod enc Try.prog W base (fun _ => true) true fuel 59 cs = some x) : ∃ m, IsIf W m cs ∧ ∀ q, (∀ k ∈ x.1.weights Try.prog 59, k ≤ q) → FitI q m := by
  have hT : Try.prog.cellsOf 59 = 3 := by kernel_rfl
  have h9 : Try.prog.cellsOf 9 = 1 := by kernel_rfl
  have hF : Try.prog.cellsOf 56 = 1 := by kernel_rfl
  have hM : Try.prog.cellsOf 57 = 1 := by kernel_rfl
  obtain ⟨ys, n, hfu, rfl, hlen, hyl, hfld⟩ := DataW.trod_struct Try.underlying59 h
  rw [hT] at hlen
  match cs, hlen, ys, hyl with
  | [u0, u1, u2], _, [y0, y1, y2], _ =>
  have t0 : DataW.trod enc Try.prog W base (fun _ => true) true n 9 [u0] = some y0 := by simpa [h9] using hfld 0 _ rfl
  have t1 : DataW.trod enc Try.prog W base (fun _ => true) true n 56 [u1] = some y1 := by simpa [h9, hF] using hfld 1 _ rfl
  have t2 : DataW.trod enc Try.prog W base (fun _ => true) true n 57 [u2] = some y2 := by simpa [h9, hF, hM] using hfld 2 _ rfl
  obtain ⟨s, f0, g0, _⟩ := DataW.trod_string Try.underlying9 t0
  obtain ⟨o1, l1, c1, f1, a1, b1, r1, _, w1⟩ := open_row (n := 4) (P := IsTd) (F := FitT) Try.underlying56 (by kernel_rfl) (sz := 72) (by kernel_rfl) open_td t1
  obtain ⟨o2, n2, c2, f2⟩ := open_any Try.underlying57 t2
  simp only [List.cons.injEq, and_true] at f0 f1 f2
  subst f0; subst f1; subst f2
  refine ⟨⟨s, l1⟩, ⟨o1, o2, c1, n2, c2, rfl, a1, b1, r1⟩, fun q hq => ?_⟩
  exact (w1 q (weights3 Try.underlying59 hq 1 _ _ rfl rfl)).1
theorem open_ifs {fuel : Nat} {cs : List Value} {x : DataW H × List MemPlace} (h : DataW.trod enc Try.prog W base (fun _ => true) true fuel 22 cs = some x) :
    ∃ (o : Option Addr) (l : List IF) (c : Nat), cs = [.slice o l.length c] ∧ l.length ≤ c ∧ c ≤ maxLen ∧ IsRow 3 IsIf W o l ∧ (o = none → c = 0) ∧ ∀ q, (∀ k ∈ x.1.weights Try.prog 22, k ≤ q) → (∀ y ∈ l, FitI q y) ∧ l.length * 64 ≤ q := open_row (n := 3) (P := IsIf) (F := FitI) Try.underlying22 (by kernel_rfl) (sz := 64) (by kernel_rfl) open_if h
theorem open_sc (fuel : Nat) (cs : List Value) (x : DataW H × List MemPlace) (h : DataW.trod enc Try.prog W base (fun _ => true) true fuel 27 cs = some x) : ∃ m, IsSc W m cs ∧ ∀ q, (∀ k ∈ x.1.weights Try.prog 27, k ≤ q) → FitS q m := by
  have hT : Try.prog.cellsOf 27 = 5 := by kernel_rfl
  have hI : Try.prog.cellsOf 22 = 1 := by kernel_rfl
  have hS : Try.prog.cellsOf 23 = 1 := by kernel_rfl
  have hY : Try.prog.cellsOf 24 = 1 := by kernel_rfl
  have hV : Try.prog.cellsOf 25 = 1 := by kernel_rfl
  obtain ⟨ys, n, hfu, rfl, hlen, hyl, hfld⟩ := DataW.trod_struct Try.underlying27 h
  rw [hT] at hlen
  match cs, hlen, ys, hyl with
  | [u0, u1, u2, u3, u4], _, [y0, y1, y2, y3, y4], _ =>
  have t0 : DataW.trod enc Try.prog W base (fun _ => true) true n 22 [u0] = some y0 := by simpa [hI] using hfld 0 _ rfl
  have t1 : DataW.trod enc Try.prog W base (fun _ => true) true n 23 [u1] = some y1 := by simpa [hI, hS] using hfld 1 _ rfl
  have t2 : DataW.trod enc Try.prog W base (fun _ => true) true n 23 [u2] = some y2 := by simpa [hI, hS] using hfld 2 _ rfl
  have t3 : DataW.trod enc Try.prog W base (fun _ => true) true n 24 [u3] = some y3 := by simpa [hI, hS, hY] using hfld 3 _ rfl
  have t4 : DataW.trod enc Try.prog W base (fun _ => true) true n 25 [u4] = some y4 := by simpa [hI, hS, hY, hV] using hfld 4 _ rfl
  obtain ⟨o, l, c, f0, a0, b0, r0, z0, w0⟩ := open_ifs t0
  obtain ⟨o1, n1, c1, f1⟩ := open_any Try.underlying23 t1
  obtain ⟨o2, n2, c2, f2⟩ := open_any Try.underlying23 t2
  obtain ⟨d3, p3⟩ := y3
  obtain ⟨o3, l3, c3, f3, a3, b3, r3, w3⟩ := open_ys t3
  obtain ⟨o4, n4, c4, f4⟩ := open_any Try.underlying25 t4
  simp only [List.cons.injEq, and_true] at f0 f1 f2 f3 f4
  subst f0; subst f1; subst f2; subst f3; subst f4
  refine ⟨⟨l, l3⟩, ⟨o, o1, o2, o3, o4, c, n1, c1, n2, c2, c3, n4, c4, rfl, a0, b0, a3, b3, r0, r3, z0⟩, fun q hq => ?_⟩
  have hq2 := weights3 Try.underlying27 hq
  exact ⟨(w0 q (hq2 0 _ _ rfl rfl)).1, (w3 q (hq2 3 _ _ rfl rfl)).1⟩
end
end Go.Proofs.Ytmnhilgifjaocaa
