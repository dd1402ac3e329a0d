/-
  Plain: the same tokens at other places tell the same expressions, but for places. No condition.
  Plain: the same tokens at other places tell the same expressions, but for places. No condition.
  Plain: the same tokens at other places tell the same statements, but for places. No condition.
  Plain: how far a declaration goes, and where its names stand. No condition.
  Plain: the same tokens at other places tell the same declarations, but for places; a file, too. No condition.
  Plain: a file with more declarations behind it. No condition.
  Plain: where a file's names stand; steps enough; what is wrong is wrong at a token; one file more. No condition.
  Plain: the chapter's reading once more, cut as the program cuts it. No condition.
-/
import Derived.Test.YtlgaphopjdeklaaGreatM19
namespace Go.Proofs.YtlgaphopjdeklaaGreat
/-- A token with which nothing goes on. -/
def dead (t : TZ) : Prop := t.kind = 0 ∨ (t.kind = 5 ∧ (t.text.data.toList = wType ∨ t.text.data.toList = wFunc))
/-- The same tokens up to one with which nothing goes on; their places are the same under g. -/
structure Alk (g : Int → Int) (l m : List TZ) (e : Int) : Prop where
  kind : ∀ j : Int, j < e → (tkAt m j).kind = (tkAt l j).kind
  text : ∀ j : Int, j < e → (tkAt m j).text = (tkAt l j).text
  pos : ∀ j : Int, 0 ≤ j → j < e → g (tkAt m j).pos = g (tkAt l j).pos
  stop : ∀ j : Int, 0 ≤ j → j < e → g (tkAt m j).stop = g (tkAt l j).stop
  dl : dead (tkAt l e)
  dm : dead (tkAt m e)
/-- Two readings that come to the same, but for places. -/
def Lo {α β : Type} (er : α → β) (l m : List TZ) (e : Int) : EO α → EO α → Prop
  | .ok x j, .ok y j' => er x = er y ∧ j = j' ∧ j ≤ e
  | .err p c, .err p' c' => c = c' ∧ ∃ q, q ≤ e ∧ p = (tkAt l q).pos ∧ p' = (tkAt m q).pos
  | .out, .out => True
  | _, _ => False
theorem dead_kind {t : TZ} (h : dead t) {k : Int} (h0 : k ≠ 0) (h5 : k ≠ 5) : t.kind ≠ k := by
  rcases h with h | h
  · omega
  · have := h.1; omega
theorem dead_sym {t : TZ} (h : dead t) (c : UInt8) : isS t c = false := by
  unfold isS
  rw [show decide (t.kind = 4) = false by simpa using dead_kind h (k := 4) (by decide) (by decide), Bool.false_and]
theorem dead_kt {t : TZ} (h : dead t) (c : ByteArray) : isKT t 4 c = false := by
  unfold isKT
  rw [show decide (t.kind = 4) = false by simpa using dead_kind h (k := 4) (by decide) (by decide), Bool.false_and]
theorem dead_word {t : TZ} (h : dead t) {w : List UInt8} (h1 : w ≠ wType) (h2 : w ≠ wFunc) : isW t w = false := by
  unfold isW
  rcases h with h | h
  · rw [show decide (t.kind = 5) = false by simp [h], Bool.false_and]
  · rw [show decide (t.text.data.toList = w) = false by
      rcases h.2 with e | e
      · rw [e]; simpa using fun e => h1 e.symm
      · rw [e]; simpa using fun e => h2 e.symm, Bool.and_false]
theorem dead_lvl {t : TZ} (h : dead t) : lvlOf t = 0 := by
  unfold lvlOf
  rw [if_pos (dead_kind h (by decide) (by decide))]
section
variable {g : Int → Int} {l m : List TZ} {e : Int}
theorem Alk.sym (A : Alk g l m e) {j : Int} (hj : j ≤ e) (c : UInt8) : isS (tkAt m j) c = isS (tkAt l j) c := by
  by_cases h : j < e
  · unfold isS; rw [A.kind j h, A.text j h]
  · obtain rfl : j = e := by omega
    rw [dead_sym A.dl, dead_sym A.dm]
theorem Alk.word (A : Alk g l m e) {j : Int} (hj : j ≤ e) {w : List UInt8} (h1 : w ≠ wType) (h2 : w ≠ wFunc) : isW (tkAt m j) w = isW (tkAt l j) w := by
  by_cases h : j < e
  · unfold isW; rw [A.kind j h, A.text j h]
  · obtain rfl : j = e := by omega
    rw [dead_word A.dl h1 h2, dead_word A.dm h1 h2]
theorem Alk.kt (A : Alk g l m e) {j : Int} (hj : j ≤ e) (c : ByteArray) : isKT (tkAt m j) 4 c = isKT (tkAt l j) 4 c := by
  by_cases h : j < e
  · unfold isKT; rw [A.kind j h, A.text j h]
  · obtain rfl : j = e := by omega
    rw [dead_kt A.dl, dead_kt A.dm]
theorem Alk.lvl (A : Alk g l m e) {j : Int} (hj : j ≤ e) : lvlOf (tkAt m j) = lvlOf (tkAt l j) := by
  by_cases h : j < e
  · unfold lvlOf; rw [A.kind j h, A.text j h]
  · obtain rfl : j = e := by omega
    rw [dead_lvl A.dl, dead_lvl A.dm]
theorem Lo.ok {α β : Type} {er : α → β} {x y : α} {j : Int} (h : er x = er y) (hj : j ≤ e) : Lo er l m e (.ok x j) (.ok y j) := ⟨h, rfl, hj⟩
theorem Lo.err {α β : Type} {er : α → β} {q : Int} (hq : q ≤ e) (c : Int) : Lo (α := α) er l m e (.err (tkAt l q).pos c) (.err (tkAt m q).pos c) := ⟨rfl, q, hq, rfl, rfl⟩
theorem Lo.thn {α β γ δ : Type} {er1 : α → β} {er2 : γ → δ} {r r' : EO α} {f f' : α → Int → EO γ} (h : Lo er1 l m e r r') (hf : ∀ x y j, r = .ok x j → er1 x = er1 y → j ≤ e → Lo er2 l m e (f x j) (f' y j)) : Lo er2 l m e (Go.Proofs.YtlgaphopjdeklaaGreat.thn r f) (Go.Proofs.YtlgaphopjdeklaaGreat.thn r' f') := by
  cases r with
  | ok x j =>
    cases r' with
    | ok y j' => obtain ⟨h1, rfl, h3⟩ := h; exact hf x y j rfl h1 h3
    | err p q => exact h.elim
    | out => exact h.elim
  | err p q =>
    cases r' with
    | ok y j' => exact h.elim
    | err p' q' => exact h
    | out => exact h.elim
  | out =>
    cases r' with
    | ok y j' => exact h.elim
    | err p' q' => exact h.elim
    | out => trivial
/-! Types. -/
/-! Expressions, one behind the other. -/
section
variable {f k d : Nat} {a i : Int} {x : EX} {z : UInt8}
end
end
end Go.Proofs.YtlgaphopjdeklaaGreat
namespace Go.Proofs.YtlgaphopjdeklaaGreat
section
variable {g : Int → Int} {l m : List TZ} {e : Int}
end
end Go.Proofs.YtlgaphopjdeklaaGreat
namespace Go.Proofs.YtlgaphopjdeklaaGreat
section
variable {g : Int → Int} {l m : List TZ} {e : Int}
theorem rows_thn {F f d : Nat} {i : Int} : rows l F (f + 1) d i = if isS (tkAt l i) 125 then .ok [] (i + 1) else thn (stm l F f d i) fun s j => thn (rows l F f d j) fun r q => .ok (s :: r) q := by
  rw [rows]; unfold thn
  split
  · rfl
  · cases stm l F f d i with
    | ok s j => simp only; cases rows l F f d j <;> rfl
    | err p c => rfl
    | out => rfl
theorem blk_thn {F f d : Nat} {i : Int} : blk l F (f + 1) d i = if isS (tkAt l i) 123 then (if 30 ≤ d then .err (tkAt l i).pos 6 else rows l F f d (i + 1)) else .err (tkAt l i).pos 5 := by rw [blk]
end
end Go.Proofs.YtlgaphopjdeklaaGreat
namespace Go.Proofs.YtlgaphopjdeklaaGreat
/-! How far. -/
theorem thn_ok {α β : Type} {r : EO α} {f : α → Int → EO β} {y : β} {q : Int} (h : thn r f = .ok y q) : ∃ x j, r = .ok x j ∧ f x j = .ok y q := by
  cases r with
  | ok x j => exact ⟨x, j, rfl, h⟩
  | err p c => cases h
  | out => cases h
section
variable {l : List TZ}
theorem sy_rng {z : UInt8} {i : Int} {x : Unit} {j : Int} (h : sy l z i = .ok x j) : j = i + 1 ∧ 0 ≤ i ∧ i < l.length ∧ isS (tkAt l i) z = true := by
  unfold sy at h; split at h
  · next hs => injection h with _ h; have := isS_real hs; exact ⟨h.symm, this.1, this.2, hs⟩
  · cases h
theorem wo_rng {w : List UInt8} {i : Int} {x : Unit} {j : Int} (h : wo l w i = .ok x j) : j = i + 1 ∧ 0 ≤ i ∧ i < l.length := by
  unfold wo at h; split at h
  · next hs => injection h with _ h; have := isW_real hs; exact ⟨h.symm, this.1, this.2⟩
  · cases h
theorem na_rng {i : Int} {x : ByteArray × Int} {j : Int} (h : na l i = .ok x j) : j = i + 1 ∧ 0 ≤ i ∧ i < l.length ∧ (tkAt l i).kind = 1 ∧ x = ((tkAt l i).text, (tkAt l i).pos) := by
  unfold na at h; split at h
  · next hk => injection h with h1 h; have := tkAt_real (l := l) (i := i) (by rw [hk]; decide); exact ⟨h.symm, this.1, this.2, hk, h1.symm⟩
  · cases h
theorem ty_rng {i : Int} {x : TX} {j : Int} (h : ty l i = .ok x j) : i < j ∧ j ≤ l.length := by
  unfold ty at h
  split at h
  · next t q hq => injection h with _ h; have := (prs_rng hq); omega
  · cases h
/-- A name and a type: where the name stands. -/
theorem prm_rng {i : Int} {x : PX} {j : Int} (h : prm l i = .ok x j) : i + 1 < j ∧ j ≤ l.length ∧ (tkAt l i).kind = 1 ∧ x.name = (tkAt l i).text ∧ x.pos = (tkAt l i).pos := by
  unfold prm at h
  obtain ⟨n, a, h1, h⟩ := thn_ok h
  obtain ⟨t, b, h2, h⟩ := thn_ok h
  injection h with hx hj
  obtain ⟨n1, n2, n3, n4, rfl⟩ := na_rng h1
  have := ty_rng h2
  exact ⟨by omega, by omega, n4, by rw [← hx], by rw [← hx]⟩
theorem seps_rng {α : Type} {one : Int → EO α} (h1 : ∀ i x j, one i = .ok x j → i < j ∧ j ≤ l.length) {z : UInt8} : ∀ {f : Nat} {i : Int} {xs : List α} {j : Int}, seps l one z f i = .ok xs j → i < j ∧ j ≤ l.length
  | 0, _, _, _, h => by rw [seps] at h; cases h
  | f + 1, i, xs, j, h => by
    rw [seps] at h
    obtain ⟨x, a, ha, h⟩ := thn_ok h
    have := h1 _ _ _ ha
    split at h
    · obtain ⟨ys, b, hb, h⟩ := thn_ok h
      injection h with _ h
      have := seps_rng h1 hb; omega
    · obtain ⟨_, b, hb, h⟩ := thn_ok h
      injection h with _ h
      have := sy_rng hb; omega
theorem sepn_rng {α : Type} {one : Int → EO α} (h1 : ∀ i x j, one i = .ok x j → i < j ∧ j ≤ l.length) {z : UInt8} {f : Nat} {i : Int} {xs : List α} {j : Int} (h : sepn l one z f i = .ok xs j) : i < j ∧ j ≤ l.length := by
  unfold sepn at h
  split at h
  · next hs => injection h with _ h; have := isS_real hs; omega
  · exact seps_rng h1 h
theorem upto_rng {α : Type} {one : Int → EO α} (h1 : ∀ i x j, one i = .ok x j → i < j ∧ j ≤ l.length) : ∀ {f : Nat} {i : Int} {xs : List α} {j : Int}, upto l one f i = .ok xs j → i < j ∧ j ≤ l.length ∧ isS (tkAt l (j - 1)) 125 = true
  | 0, _, _, _, h => by rw [upto] at h; cases h
  | f + 1, i, xs, j, h => by
    rw [upto] at h
    split at h
    · next hs => injection h with _ h; have := isS_real hs; subst h; exact ⟨by omega, by omega, by rw [show i + 1 - 1 = i by omega]; exact hs⟩
    · obtain ⟨x, a, ha, h⟩ := thn_ok h
      obtain ⟨ys, b, hb, h⟩ := thn_ok h
      injection h with _ h
      subst h
      have := h1 _ _ _ ha
      obtain ⟨u1, u2, u3⟩ := upto_rng h1 hb
      exact ⟨by omega, u2, u3⟩
theorem fld_rng {i : Int} {x : PX} {j : Int} (h : fld l i = .ok x j) : i < j ∧ j ≤ l.length := by
  unfold fld at h
  obtain ⟨n, a, h1, h⟩ := thn_ok h
  obtain ⟨_, b, h2, h⟩ := thn_ok h
  injection h with _ h
  have := prm_rng h1; have := sy_rng h2; omega
theorem mth_rng {f : Nat} {i : Int} {x : MX} {j : Int} (h : mth l f i = .ok x j) : i < j ∧ j ≤ l.length := by
  unfold mth at h
  obtain ⟨n, a, h1, h⟩ := thn_ok h
  obtain ⟨_, b, h2, h⟩ := thn_ok h
  obtain ⟨ts, c, h3, h⟩ := thn_ok h
  have := (na_rng h1).1; have := sy_rng h2; have := sepn_rng (fun _ _ _ h => ty_rng h) h3
  split at h
  · next hs => injection h with _ h; have := isS_real hs; omega
  · obtain ⟨t, d, h4, h⟩ := thn_ok h
    obtain ⟨_, e, h5, h⟩ := thn_ok h
    injection h with _ h
    have := ty_rng h4; have := sy_rng h5; omega
theorem rcv_rng {i : Int} {x : Bool × PX} {j : Int} (h : rcv l i = .ok x j) : i ≤ j := by
  unfold rcv at h
  split at h
  · obtain ⟨n, a, h1, h⟩ := thn_ok h
    obtain ⟨_, b, h2, h⟩ := thn_ok h
    injection h with _ h
    have := prm_rng h1; have := sy_rng h2; omega
  · injection h with _ h; omega
theorem bnds_rng {f : Nat} {i : Int} {x : List PX} {j : Int} (h : bnds l f i = .ok x j) : i ≤ j := by
  unfold bnds at h
  split at h
  · have := seps_rng (fun _ _ _ h => by have := prm_rng h; omega) h; omega
  · injection h with _ h; omega
theorem res_rng {i : Int} {x : Bool × TX} {j : Int} (h : res l i = .ok x j) : i ≤ j := by
  unfold res at h
  split at h
  · injection h with _ h; omega
  · obtain ⟨t, a, h1, h⟩ := thn_ok h
    injection h with _ h
    have := ty_rng h1; omega
theorem rows_end {F : Nat} : ∀ {f d : Nat} {i : Int} {x : List SX} {j : Int}, rows l F f d i = .ok x j → isS (tkAt l (j - 1)) 125 = true
  | 0, _, _, _, _, h => by rw [rows] at h; cases h
  | f + 1, d, i, x, j, h => by
    rw [rows_thn] at h
    split at h
    · next hs => injection h with _ h; subst h; rw [show i + 1 - 1 = i by omega]; exact hs
    · obtain ⟨s, a, ha, h⟩ := thn_ok h
      obtain ⟨r, b, hb, h⟩ := thn_ok h
      injection h with _ h
      subst h
      exact rows_end hb
theorem blk_end {F f d : Nat} {i : Int} {x : List SX} {j : Int} (h : blk l F f d i = .ok x j) : isS (tkAt l (j - 1)) 125 = true := by
  cases f with
  | zero => rw [blk] at h; cases h
  | succ f =>
    rw [blk_thn] at h
    split at h
    · split at h
      · cases h
      · exact rows_end h
    · cases h
/-- Where a declaration's name and its parts stand: its name at token a; each field's name between it and the last bracket. -/
structure DAt (l : List TZ) (i : Int) (x : DX) (j : Int) : Prop where
  far : i < j
  near : j ≤ l.length
  last : isS (tkAt l (j - 1)) 125 = true
  stop : x.stop = (tkAt l (j - 1)).stop
  name : ∃ a, i ≤ a ∧ a < j - 1 ∧ (tkAt l a).kind = 1 ∧ x.name = (tkAt l a).text ∧ x.pos = (tkAt l a).pos ∧ ∀ y ∈ x.fields, ∃ q, a < q ∧ q < j - 1 ∧ (tkAt l q).kind = 1 ∧ y.name = (tkAt l q).text ∧ y.pos = (tkAt l q).pos
theorem seps_at {α : Type} {one : Int → EO α} {P : α → Int → Prop} (h1 : ∀ i x j, one i = .ok x j → i < j ∧ j ≤ l.length) (h2 : ∀ i x j, one i = .ok x j → P x i) {z : UInt8} : ∀ {f : Nat} {i : Int} {xs : List α} {j : Int}, seps l one z f i = .ok xs j → ∀ y ∈ xs, ∃ q, i ≤ q ∧ q < j - 1 ∧ P y q
  | 0, _, _, _, h => by rw [seps] at h; cases h
  | f + 1, i, xs, j, h => by
    rw [seps] at h
    obtain ⟨x, a, ha, h⟩ := thn_ok h
    have r1 := h1 _ _ _ ha
    split at h
    · obtain ⟨ys, b, hb, h⟩ := thn_ok h
      injection h with hx hj
      subst hx hj
      have r2 := seps_rng h1 hb
      intro y hy
      rcases List.mem_cons.1 hy with rfl | hy
      · exact ⟨i, by omega, by omega, h2 _ _ _ ha⟩
      · obtain ⟨q, q1, q2, q3⟩ := seps_at h1 h2 hb y hy
        exact ⟨q, by omega, q2, q3⟩
    · obtain ⟨_, b, hb, h⟩ := thn_ok h
      injection h with hx hj
      subst hx hj
      have := sy_rng hb
      intro y hy
      obtain rfl := List.mem_singleton.1 hy
      exact ⟨i, by omega, by omega, h2 _ _ _ ha⟩
theorem upto_at {α : Type} {one : Int → EO α} {P : α → Int → Prop} (h1 : ∀ i x j, one i = .ok x j → i < j ∧ j ≤ l.length) (h2 : ∀ i x j, one i = .ok x j → P x i) : ∀ {f : Nat} {i : Int} {xs : List α} {j : Int}, upto l one f i = .ok xs j → ∀ y ∈ xs, ∃ q, i ≤ q ∧ q < j - 1 ∧ P y q
  | 0, _, _, _, h => by rw [upto] at h; cases h
  | f + 1, i, xs, j, h => by
    rw [upto] at h
    split at h
    · injection h with hx hj
      subst hx
      intro y hy
      cases hy
    · obtain ⟨x, a, ha, h⟩ := thn_ok h
      obtain ⟨ys, b, hb, h⟩ := thn_ok h
      injection h with hx hj
      subst hx hj
      have r1 := h1 _ _ _ ha
      have r2 := upto_rng h1 hb
      intro y hy
      rcases List.mem_cons.1 hy with rfl | hy
      · exact ⟨i, by omega, by omega, h2 _ _ _ ha⟩
      · obtain ⟨q, q1, q2, q3⟩ := upto_at h1 h2 hb y hy
        exact ⟨q, by omega, q2, q3⟩
theorem dty_at {f : Nat} {i : Int} {x : DX} {j : Int} (h : dty l f i = .ok x j) : DAt l i x j := by
  unfold dty at h
  obtain ⟨n, a, h1, h⟩ := thn_ok h
  obtain ⟨n1, n2, n3, n4, rfl⟩ := na_rng h1
  split at h
  · obtain ⟨_, b, h2, h⟩ := thn_ok h
    obtain ⟨ms, c, h3, h⟩ := thn_ok h
    injection h with hx hj
    subst hx hj
    have := sy_rng h2
    have hu := upto_rng (fun _ _ _ h => mth_rng h) h3
    exact ⟨by omega, hu.2.1, hu.2.2, rfl, i, by omega, by omega, n4, rfl, rfl, fun y hy => by cases hy⟩
  · obtain ⟨_, b, h2, h⟩ := thn_ok h
    obtain ⟨_, c, h3, h⟩ := thn_ok h
    obtain ⟨fs, d, h4, h⟩ := thn_ok h
    injection h with hx hj
    subst hx hj
    have := wo_rng h2; have := sy_rng h3
    have hu := upto_rng (fun _ _ _ h => fld_rng h) h4
    refine ⟨by omega, hu.2.1, hu.2.2, rfl, i, by omega, by omega, n4, rfl, rfl, fun y hy => ?_⟩
    obtain ⟨q, q1, q2, q3⟩ := upto_at (P := fun (y : PX) q => (tkAt l q).kind = 1 ∧ y.name = (tkAt l q).text ∧ y.pos = (tkAt l q).pos) (fun _ _ _ h => fld_rng h) (fun i x j h => by
      unfold fld at h
      obtain ⟨n, a, h1, h⟩ := thn_ok h
      obtain ⟨_, b, h2, h⟩ := thn_ok h
      injection h with hx _
      subst hx
      exact (prm_rng h1).2.2) h4 y hy
    exact ⟨q, by omega, q2, q3⟩
theorem dfn_at {F fb f : Nat} {i : Int} {x : DX} {j : Int} (h : dfn l F fb f i = .ok x j) : DAt l i x j := by
  unfold dfn at h
  obtain ⟨r, a, h1, h⟩ := thn_ok h
  obtain ⟨n, b, h2, h⟩ := thn_ok h
  obtain ⟨bs, c, h3, h⟩ := thn_ok h
  obtain ⟨_, d, h4, h⟩ := thn_ok h
  obtain ⟨ps, e, h5, h⟩ := thn_ok h
  obtain ⟨t, k, h6, h⟩ := thn_ok h
  obtain ⟨bd, q, h7, h⟩ := thn_ok h
  injection h with hx hj
  subst hx hj
  obtain ⟨n1, n2, n3, n4, rfl⟩ := na_rng h2
  have r1 := rcv_rng h1; have r3 := bnds_rng h3; have r4 := sy_rng h4
  have r5 := sepn_rng (fun _ _ _ h => by have := prm_rng h; omega) h5; have r6 := res_rng h6; have r7 := (stm_rng (l := l) (F := F) fb).1 _ _ _ _ h7
  refine ⟨by omega, r7.2.2, blk_end h7, rfl, a, by omega, by omega, n4, rfl, rfl, fun y hy => ?_⟩
  unfold sepn at h5
  split at h5
  · injection h5 with hx _
    subst hx
    cases hy
  · obtain ⟨q', q1, q2, q3⟩ := seps_at (P := fun (y : PX) q => (tkAt l q).kind = 1 ∧ y.name = (tkAt l q).text ∧ y.pos = (tkAt l q).pos) (fun _ _ _ h => by have := prm_rng h; omega) (fun i x j h => (prm_rng h).2.2) h5 y hy
    exact ⟨q', by omega, by omega, q3⟩
theorem dcl_at {F fb f : Nat} {i : Int} {x : DX} {j : Int} (h : dcl l F fb f i = .ok x j) : DAt l (i + 1) x j := by
  unfold dcl at h
  split at h
  · exact dty_at h
  · obtain ⟨_, a, h1, h⟩ := thn_ok h
    have := (wo_rng h1).1
    subst this
    exact dfn_at h
theorem dcl_rng {F fb f : Nat} {i : Int} {x : DX} {j : Int} (h : dcl l F fb f i = .ok x j) : i < j := by have := (dcl_at h).far; omega
end
end Go.Proofs.YtlgaphopjdeklaaGreat
namespace Go.Proofs.YtlgaphopjdeklaaGreat
/-- Two readings that come to the same, but for places, wherever they end. -/
def Lq {α β : Type} (er : α → β) (l m : List TZ) (e : Int) : EO α → EO α → Prop
  | .ok x _, .ok y _ => er x = er y
  | .err p c, .err p' c' => c = c' ∧ ∃ q, q ≤ e ∧ p = (tkAt l q).pos ∧ p' = (tkAt m q).pos
  | .out, .out => True
  | _, _ => False
section
variable {g : Int → Int} {l m : List TZ} {e : Int}
theorem Lq.thn {α β γ δ : Type} {er1 : α → β} {er2 : γ → δ} {r r' : EO α} {f f' : α → Int → EO γ} (h : Lq er1 l m e r r') (hf : ∀ x y j j', er1 x = er1 y → Lq er2 l m e (f x j) (f' y j')) : Lq er2 l m e (Go.Proofs.YtlgaphopjdeklaaGreat.thn r f) (Go.Proofs.YtlgaphopjdeklaaGreat.thn r' f') := by
  cases r with
  | ok x j =>
    cases r' with
    | ok y j' => exact hf x y j j' h
    | err p q => exact h.elim
    | out => exact h.elim
  | err p q =>
    cases r' with
    | ok y j' => exact h.elim
    | err p' q' => exact h
    | out => exact h.elim
  | out =>
    cases r' with
    | ok y j' => exact h.elim
    | err p' q' => exact h.elim
    | out => trivial
/-! Both end in the same place: layout. -/
end
end Go.Proofs.YtlgaphopjdeklaaGreat
namespace Go.Proofs.YtlgaphopjdeklaaGreat
section
variable {l m : List TZ} {e : Int} {F fb f : Nat}
end
end Go.Proofs.YtlgaphopjdeklaaGreat
namespace Go.Proofs.YtlgaphopjdeklaaGreat
/-- Imports, declarations, one behind the other. -/
def IsAt (l : List TZ) : Int → List (ByteArray × Int) → Int → Prop
  | i, [], j => i = j
  | i, n :: r, j => i + 2 < l.length ∧ 0 ≤ i ∧ (tkAt l (i + 1)).kind = 1 ∧ n = ((tkAt l (i + 1)).text, (tkAt l (i + 1)).pos) ∧ IsAt l (i + 3) r j
section
variable {l : List TZ}
theorem imps_at : ∀ {k : Nat} {i : Int} {xs : List (ByteArray × Int)} {j : Int}, imps l k i = .ok xs j → IsAt l i xs j
  | 0, _, _, _, h => by rw [imps] at h; cases h
  | k + 1, i, xs, j, h => by
    rw [imps] at h
    split at h
    · next hw =>
      have hr := isW_real hw
      obtain ⟨n, a, h1, h⟩ := thn_ok h
      obtain ⟨_, b, h2, h⟩ := thn_ok h
      obtain ⟨ys, c, h3, h⟩ := thn_ok h
      injection h with hx hj
      subst hx hj
      obtain ⟨n1, n2, n3, n4, n5⟩ := na_rng h1
      have r2 := sy_rng h2
      have r3 := imps_at h3
      rw [r2.1, n1, show i + 1 + 1 + 1 = i + 3 by omega] at r3
      exact ⟨by omega, by omega, n4, n5, r3⟩
    · injection h with hx hj
      subst hx hj
      exact rfl
theorem IsAt.le : ∀ {xs : List (ByteArray × Int)} {i j : Int}, IsAt l i xs j → i ≤ j
  | [], _, _, h => by have : _ = _ := h; omega
  | _ :: r, i, j, h => by have := IsAt.le h.2.2.2.2; omega
/-! Steps enough. -/
theorem thn_some {α β : Type} {r : EO α} {f : α → Int → EO β} (h : r ≠ .out) (hf : ∀ x j, r = .ok x j → f x j ≠ .out) : thn r f ≠ .out := by
  cases r with
  | ok x j => exact hf x j rfl
  | err p c => intro e; cases e
  | out => exact (h rfl).elim
theorem sy_some (z : UInt8) (i : Int) : sy l z i ≠ .out := by unfold sy; split <;> (intro e; cases e)
theorem wo_some (w : List UInt8) (i : Int) : wo l w i ≠ .out := by unfold wo; split <;> (intro e; cases e)
theorem na_some (i : Int) : na l i ≠ .out := by unfold na; split <;> (intro e; cases e)
theorem ty_some (i : Int) : ty l i ≠ .out := by unfold ty; split <;> (intro e; cases e)
theorem prm_some (i : Int) : prm l i ≠ .out := by
  unfold prm
  exact thn_some (na_some i) fun _ _ _ => thn_some (ty_some _) fun _ _ _ => by intro e; cases e
/-- As many as there are tokens left. -/
def lft (l : List TZ) (i : Int) : Nat := ((l.length : Int) - i).toNat
theorem seps_some {α : Type} {one : Int → EO α} (h1 : ∀ i x j, one i = .ok x j → i < j ∧ j ≤ l.length) (h2 : ∀ i, one i ≠ .out) (z : UInt8) : ∀ (f : Nat) (i : Int), lft l i < f → seps l one z f i ≠ .out
  | 0, _, h => by omega
  | f + 1, i, h => by
    rw [seps]
    refine thn_some (h2 i) fun x j hx => ?_
    have r := h1 _ _ _ hx
    split
    · next hs =>
      have := isS_real hs
      exact thn_some (seps_some h1 h2 z f (j + 1) (by unfold lft at *; omega)) fun _ _ _ => by intro e; cases e
    · exact thn_some (sy_some _ _) fun _ _ _ => by intro e; cases e
theorem sepn_some {α : Type} {one : Int → EO α} (h1 : ∀ i x j, one i = .ok x j → i < j ∧ j ≤ l.length) (h2 : ∀ i, one i ≠ .out) (z : UInt8) {f : Nat} {i : Int} (hf : lft l i < f) : sepn l one z f i ≠ .out := by
  unfold sepn
  split
  · intro e; cases e
  · exact seps_some h1 h2 z f i hf
theorem upto_some {α : Type} {one : Int → EO α} (h1 : ∀ i x j, one i = .ok x j → i < j ∧ j ≤ l.length) (h2 : ∀ i, 0 ≤ i → one i ≠ .out) : ∀ (f : Nat) (i : Int), 0 ≤ i → lft l i < f → upto l one f i ≠ .out
  | 0, _, _, h => by omega
  | f + 1, i, h0, h => by
    rw [upto]
    split
    · intro e; cases e
    · refine thn_some (h2 i h0) fun x j hx => ?_
      have r := h1 _ _ _ hx
      exact thn_some (upto_some h1 h2 f j (by omega) (by unfold lft at *; omega)) fun _ _ _ => by intro e; cases e
theorem fld_some (i : Int) : fld l i ≠ .out := by
  unfold fld
  exact thn_some (prm_some i) fun _ _ _ => thn_some (sy_some _ _) fun _ _ _ => by intro e; cases e
theorem mth_some {f : Nat} (hf : l.length < f) {i : Int} (h0 : 0 ≤ i) : mth l f i ≠ .out := by
  unfold mth
  refine thn_some (na_some i) fun n a h1 => thn_some (sy_some _ _) fun _ b h2 => ?_
  have := (na_rng h1).1; have := sy_rng h2
  refine thn_some (sepn_some (fun _ _ _ h => ty_rng h) ty_some _ (by unfold lft; omega)) fun _ _ _ => ?_
  split
  · intro e; cases e
  · exact thn_some (ty_some _) fun _ _ _ => thn_some (sy_some _ _) fun _ _ _ => by intro e; cases e
theorem dty_some {f : Nat} (hf : l.length < f) {i : Int} (h0 : 0 ≤ i) : dty l f i ≠ .out := by
  unfold dty
  refine thn_some (na_some i) fun n a h1 => ?_
  have := (na_rng h1).1
  split
  · refine thn_some (sy_some _ _) fun _ b h2 => ?_
    have := sy_rng h2
    exact thn_some (upto_some (fun _ _ _ h => mth_rng h) (fun i hi => mth_some hf hi) f b (by omega) (by unfold lft; omega)) fun _ _ _ => by intro e; cases e
  · refine thn_some (wo_some _ _) fun _ b h2 => thn_some (sy_some _ _) fun _ c h3 => ?_
    have := wo_rng h2; have := sy_rng h3
    exact thn_some (upto_some (fun _ _ _ h => fld_rng h) (fun i _ => fld_some i) f c (by omega) (by unfold lft; omega)) fun _ _ _ => by intro e; cases e
theorem rcv_some (i : Int) : rcv l i ≠ .out := by
  unfold rcv
  split
  · exact thn_some (prm_some _) fun _ _ _ => thn_some (sy_some _ _) fun _ _ _ => by intro e; cases e
  · intro e; cases e
theorem bnds_some {f : Nat} (hf : l.length < f) {i : Int} (h0 : 0 ≤ i) : bnds l f i ≠ .out := by
  unfold bnds
  split
  · exact seps_some (fun _ _ _ h => by have := prm_rng h; omega) prm_some _ f _ (by unfold lft; omega)
  · intro e; cases e
theorem res_some (i : Int) : res l i ≠ .out := by
  unfold res
  split
  · intro e; cases e
  · exact thn_some (ty_some _) fun _ _ _ => by intro e; cases e
theorem dfn_some {F f : Nat} (hF : fuel l ≤ F) (hf : l.length < f) {i : Int} (h0 : 0 ≤ i) : dfn l F (fuelB l) f i ≠ .out := by
  unfold dfn
  refine thn_some (rcv_some i) fun _ a h1 => thn_some (na_some _) fun _ b h2 => ?_
  have := rcv_rng h1; have := (na_rng h2).1
  refine thn_some (bnds_some hf (by omega)) fun _ c h3 => thn_some (sy_some _ _) fun _ d h4 => ?_
  have := bnds_rng h3; have := sy_rng h4
  refine thn_some (sepn_some (fun _ _ _ h => by have := prm_rng h; omega) prm_some _ (by unfold lft; omega)) fun _ k h5 => thn_some (res_some _) fun _ q h6 => ?_
  have := sepn_rng (fun _ _ _ h => by have := prm_rng h; omega) h5; have := res_rng h6
  exact thn_some ((stm_some hF _).1 0 q (by omega) (by unfold fuelB left; omega)) fun _ _ _ => by intro e; cases e
theorem dcl_some {F f : Nat} (hF : fuel l ≤ F) (hf : l.length < f) {i : Int} (h0 : 0 ≤ i) : dcl l F (fuelB l) f i ≠ .out := by
  unfold dcl
  split
  · exact dty_some hf (by omega)
  · refine thn_some (wo_some _ _) fun _ a h1 => ?_
    have := wo_rng h1
    exact dfn_some hF hf (by omega)
theorem dcls_some {F f : Nat} (hF : fuel l ≤ F) (hf : l.length < f) : ∀ (k : Nat) (i : Int), 0 ≤ i → lft l i < k → dcls l F (fuelB l) f k i ≠ .out
  | 0, _, _, h => by omega
  | k + 1, i, h0, h => by
    rw [dcls]
    split
    · intro e; cases e
    · refine thn_some (dcl_some hF hf h0) fun x j hx => ?_
      have r := dcl_at hx
      have := r.far; have := r.near
      exact thn_some (dcls_some hF hf k j (by omega) (by unfold lft at *; omega)) fun _ _ _ => by intro e; cases e
theorem imps_some : ∀ (k : Nat) (i : Int), lft l i < k → imps l k i ≠ .out
  | 0, _, h => by omega
  | k + 1, i, h => by
    rw [imps]
    split
    · refine thn_some (na_some _) fun _ a h1 => thn_some (sy_some _ _) fun _ b h2 => ?_
      have := na_rng h1; have := sy_rng h2
      exact thn_some (imps_some k b (by unfold lft at *; omega)) fun _ _ _ => by intro e; cases e
    · intro e; cases e
theorem fil_some {F f : Nat} (hF : fuel l ≤ F) (hf : l.length < f) : fil l F (fuelB l) f ≠ .out := by
  unfold fil
  refine thn_some (wo_some _ _) fun _ a h1 => thn_some (na_some _) fun _ b h2 => thn_some (sy_some _ _) fun _ c h3 => ?_
  have := wo_rng h1; have := (na_rng h2).1; have := sy_rng h3
  refine thn_some (imps_some f c (by unfold lft; omega)) fun _ d h4 => ?_
  have := IsAt.le (imps_at h4)
  exact thn_some (dcls_some hF hf f d (by omega) (by unfold lft; omega)) fun _ _ _ => by intro e; cases e
end
end Go.Proofs.YtlgaphopjdeklaaGreat
namespace Go.Proofs.YtlgaphopjdeklaaGreat
theorem thn_assoc {α β γ : Type} (r : EO α) (f : α → Int → EO β) (g : β → Int → EO γ) : thn (thn r f) g = thn r fun x j => thn (f x j) g := by
  cases r <;> rfl
theorem thn_congr {α β : Type} (r : EO α) {f g : α → Int → EO β} (h : ∀ x j, r = .ok x j → f x j = g x j) : thn r f = thn r g := by
  cases r with
  | ok x j => exact h x j rfl
  | err p q => rfl
  | out => rfl
section
variable {α : Type} {l : List TZ} {one : Int → EO α}
/-- One or more, with commas between. -/
def sepw (l : List TZ) (one : Int → EO α) : Nat → Int → EO (List α)
  | 0, _ => .out
  | g + 1, i => thn (one i) fun x j => if isS (tkAt l j) 44 then thn (sepw l one g (j + 1)) fun xs q => .ok (x :: xs) q else .ok [x] j
/-- Behind one of them. -/
def aftw (l : List TZ) (one : Int → EO α) (g : Nat) (j : Int) : EO (List α) := if isS (tkAt l j) 44 then sepw l one g (j + 1) else .ok [] j
theorem sepw_eq {g : Nat} {i : Int} : sepw l one (g + 1) i = thn (one i) fun x j => thn (aftw l one g j) fun xs q => .ok (x :: xs) q := by
  rw [sepw]
  refine thn_congr _ fun x j _ => ?_
  unfold aftw
  split <;> rfl
theorem seps_eq (z : UInt8) : ∀ (f : Nat) (i : Int), seps l one z f i = thn (sepw l one f i) fun xs j => thn (sy l z j) fun _ q => .ok xs q
  | 0, _ => rfl
  | f + 1, i => by
    rw [seps, sepw, thn_assoc]
    refine thn_congr _ fun x j _ => ?_
    split
    · rw [thn_assoc, seps_eq z f, thn_assoc]
      refine thn_congr _ fun xs q _ => ?_
      rw [thn_assoc]; rfl
    · rfl
/-- The brackets of a list, and what is in them. -/
def lstw (l : List TZ) (one : Int → EO α) (f : Nat) (i : Int) : EO (List α) := thn (sy l 40 i) fun _ j => sepn l one 41 f j
def midw (l : List TZ) (one : Int → EO α) (f : Nat) (j : Int) : EO (List α) := if isS (tkAt l j) 41 then .ok [] j else sepw l one f j
theorem sepn_eq (f : Nat) (j : Int) : sepn l one 41 f j = thn (midw l one f j) fun xs q => thn (sy l 41 q) fun _ r => .ok xs r := by
  unfold sepn midw
  cases h : isS (tkAt l j) 41
  · exact seps_eq 41 f j
  · show EO.ok [] (j + 1) = thn (sy l 41 j) fun _ r => EO.ok [] r
    unfold sy
    rw [if_pos h]; rfl
def memw (l : List TZ) (one : Int → EO α) (f : Nat) (i : Int) : EO (List α) := thn (sy l 123 i) fun _ j => upto l one f j
def preG (ys : List α) (r : EO (List α)) : EO (List α) := thn r fun zs q => .ok (ys ++ zs) q
theorem preG_nil (r : EO (List α)) : preG [] r = r := by cases r <;> rfl
theorem preG_snoc {ys : List α} {y : α} {r : EO (List α)} : preG ys (thn r fun zs q => .ok (y :: zs) q) = preG (ys ++ [y]) r := by
  cases r with
  | ok zs q => show EO.ok (ys ++ y :: zs) q = EO.ok (ys ++ [y] ++ zs) q; rw [List.append_assoc]; rfl
  | err p q => rfl
  | out => rfl
theorem upto_shut {f : Nat} {i : Int} (h : isS (tkAt l i) 125 = true) : upto l one (f + 1) i = .ok [] (i + 1) := by rw [upto, if_pos h]
theorem upto_more {f : Nat} {i : Int} (h : isS (tkAt l i) 125 = false) : upto l one (f + 1) i = thn (one i) fun x j => thn (upto l one f j) fun xs q => .ok (x :: xs) q := by rw [upto, if_neg (by rw [h]; decide)]
end
section
variable {l : List TZ}
/-- A result behind which a symbol stands. -/
def resw (l : List TZ) (z : UInt8) (i : Int) : EO (Bool × TX) := if isS (tkAt l i) z then .ok (false, noTX) i else thn (ty l i) fun t q => .ok (true, t) q
theorem res_eq (i : Int) : res l i = resw l 123 i := rfl
theorem mth_eq (f : Nat) (i : Int) : mth l f i = thn (na l i) fun n j => thn (lstw l (ty l) f j) fun ts j => thn (resw l 59 j) fun t j => thn (sy l 59 j) fun _ q => .ok ⟨n.1, n.2, ts, t.1, t.2⟩ q := by
  unfold mth
  refine thn_congr _ fun n j _ => ?_
  unfold lstw
  rw [thn_assoc]
  refine thn_congr _ fun _ j _ => ?_
  refine thn_congr _ fun ts j _ => ?_
  unfold resw
  cases h : isS (tkAt l j) 59
  · rw [if_neg (by decide), if_neg (by decide), thn_assoc]; rfl
  · rw [if_pos rfl, if_pos rfl]
    show _ = thn (sy l 59 j) fun _ q => EO.ok (⟨n.1, n.2, ts, false, noTX⟩ : MX) q
    unfold sy
    rw [if_pos h]; rfl
/-- A declaration that is told where it ends. -/
def shutD (x : DX) (s : Int) : DX := ⟨x.kind, x.pos, s, x.name, x.method, x.recv, x.bounds, x.fields, x.methods, x.has, x.result, x.body⟩
def dty0 (l : List TZ) (f : Nat) (i : Int) : EO DX := thn (na l i) fun n j =>
  if isW (tkAt l j) wStruct then thn (memw l (fld l) f (j + 1)) fun fs q => .ok ⟨1, n.2, 0, n.1, false, noPX, [], fs, [], false, noTX, []⟩ q
  else thn (wo l wInterface j) fun _ j => thn (memw l (mth l f) f j) fun ms q => .ok ⟨2, n.2, 0, n.1, false, noPX, [], [], ms, false, noTX, []⟩ q
theorem dty_eq (f : Nat) (i : Int) : dty l f i = thn (dty0 l f i) fun x q => .ok (shutD x (tkAt l (q - 1)).stop) q := by
  unfold dty dty0
  rw [thn_assoc]
  refine thn_congr _ fun n j _ => ?_
  cases hs : isW (tkAt l j) wStruct
  · rw [if_neg (c := (false : Bool) = true) (by decide)]
    cases hi : isW (tkAt l j) wInterface
    · rw [if_neg (by decide)]
      unfold wo
      rw [if_neg (by rw [hs]; decide), if_neg (by rw [hi]; decide)]
      rfl
    · rw [if_pos rfl]
      have e : wo l wInterface j = .ok () (j + 1) := by unfold wo; rw [if_pos hi]
      rw [e]
      unfold memw
      show _ = thn (thn (thn (sy l 123 (j + 1)) _) _) _
      rw [thn_assoc, thn_assoc]
      refine thn_congr _ fun _ j _ => ?_
      rfl
  · have hi : isW (tkAt l j) wInterface = false := by
      unfold isW at hs ⊢
      simp only [Bool.and_eq_true, decide_eq_true_eq] at hs
      rw [hs.2]
      simp [wStruct, wInterface]
    rw [hi, if_neg (by decide), if_pos rfl]
    have e : wo l wStruct j = .ok () (j + 1) := by unfold wo; rw [if_pos hs]
    rw [e]
    unfold memw
    show thn (sy l 123 (j + 1)) _ = _
    rw [thn_assoc, thn_assoc]
    refine thn_congr _ fun _ j _ => ?_
    rfl
def dfn0 (l : List TZ) (F fb f : Nat) (i : Int) : EO DX := thn (rcv l i) fun r j => thn (na l j) fun n j => thn (bnds l f j) fun bs j => thn (lstw l (prm l) f j) fun ps j =>
  thn (resw l 123 j) fun t j => thn (blk l F fb 0 j) fun b q => .ok ⟨3, n.2, 0, n.1, r.1, r.2, bs, ps, [], t.1, t.2, b⟩ q
theorem dfn_eq (F fb f : Nat) (i : Int) : dfn l F fb f i = thn (dfn0 l F fb f i) fun x q => .ok (shutD x (tkAt l (q - 1)).stop) q := by
  unfold dfn dfn0 lstw
  simp only [thn_assoc, res_eq]
  rfl
def dcl0 (l : List TZ) (F fb f : Nat) (i : Int) : EO DX := if isW (tkAt l i) wType then dty0 l f (i + 1) else thn (wo l wFunc i) fun _ j => dfn0 l F fb f j
theorem dcl_eq (F fb f : Nat) (i : Int) : dcl l F fb f i = thn (dcl0 l F fb f i) fun x q => .ok (shutD x (tkAt l (q - 1)).stop) q := by
  unfold dcl dcl0
  split
  · exact dty_eq f _
  · rw [thn_assoc]
    exact thn_congr _ fun _ j _ => dfn_eq F fb f j
/-- How far. -/
theorem dcl0_rng {F fb f : Nat} {i : Int} {x : DX} {q : Int} (h : dcl0 l F fb f i = .ok x q) : i < q ∧ 0 ≤ q - 1 ∧ q - 1 < l.length := by
  have hd : dcl l F fb f i = .ok (shutD x (tkAt l (q - 1)).stop) q := by rw [dcl_eq, h]; rfl
  have h1 := dcl_rng hd
  have h2 := isS_real (dcl_at hd).last
  omega
/-- An import behind its word. -/
def impw (l : List TZ) (i : Int) : EO (ByteArray × Int) := thn (na l i) fun n j => thn (sy l 59 j) fun _ q => .ok n q
theorem imps_step {g : Nat} {i : Int} (h : isW (tkAt l i) wImport = true) : imps l (g + 1) i = thn (impw l (i + 1)) fun n j => thn (imps l g j) fun xs q => .ok (n :: xs) q := by
  rw [imps, if_pos h]
  unfold impw
  simp only [thn_assoc]
  rfl
theorem imps_stop {g : Nat} {i : Int} (h : isW (tkAt l i) wImport = false) : imps l (g + 1) i = .ok [] i := by rw [imps, if_neg (by rw [h]; decide)]
theorem impw_rng {i : Int} {n : ByteArray × Int} {j : Int} (h : impw l i = .ok n j) : i < j ∧ j ≤ l.length := by
  unfold impw at h
  obtain ⟨n', a, h1, h⟩ := thn_ok h
  obtain ⟨_, b, h2, h⟩ := thn_ok h
  injection h with _ hj
  have := na_rng h1
  have := sy_rng h2
  omega
theorem dcls_step {F fb f g : Nat} {i : Int} (h : (tkAt l i).kind ≠ 0) : dcls l F fb f (g + 1) i = thn (dcl l F fb f i) fun x j => thn (dcls l F fb f g j) fun xs q => .ok (x :: xs) q := by rw [dcls, if_neg h]
theorem dcls_stop {F fb f g : Nat} {i : Int} (h : (tkAt l i).kind = 0) : dcls l F fb f (g + 1) i = .ok [] (i + 1) := by rw [dcls, if_pos h]
end
end Go.Proofs.YtlgaphopjdeklaaGreat
