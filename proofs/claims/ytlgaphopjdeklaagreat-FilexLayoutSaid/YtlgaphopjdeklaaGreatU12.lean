/-
  Plain: the same tokens at other places tell the same statements, but for places. No condition.
  Plain: how far a declaration goes, and where its names stand. No condition.
  Plain: the same tokens at other places tell the same declarations, but for places; a file, too. No condition.
  Plain: a file with more declarations behind it. No condition.
  Plain: where a file's names stand; steps enough; what is wrong is wrong at a token; one file more. No condition.
  Plain: what is wrong in a file is wrong at a token; a file with more behind it is that file with more behind it, or wrong as it was. No condition.
  Plain: a text with remarks between its tokens is the same file, but for places, or wrong where it was. No condition.
  Plain: a token's text stands in the text at its place; a file's names stand in the text. No condition.
  Plain: a file's names stand in the text, one behind the other. No condition.
  Plain: what a file is without places, as a text; how many parts it has, and how long their names are. No condition.
-/
import Derived.Test.YtlgaphopjdeklaaGreatU11
namespace Go.Proofs.YtlgaphopjdeklaaGreat
mutual
def erS (g : Int → Int) : SX → SX
  | .mk k p nm h x u v => .mk k (g p) nm h (erX g x) (erSL g u) (erSL g v)
def erSL (g : Int → Int) : List SX → List SX
  | [] => []
  | x :: r => erS g x :: erSL g r
end
section
variable {g : Int → Int} {l m : List TZ} {e : Int}
theorem exThen_thn {F : Nat} {z : UInt8} {i : Int} {h : EX → SX} : exThen l F z i h = thn (ex l F 1 0 i) fun x j => thn (sy l z j) fun _ q => .ok (h x) q := by
  unfold exThen thn sy
  cases ex l F 1 0 i with
  | ok x j => simp only; cases isS (tkAt l j) z <;> rfl
  | err p c => rfl
  | out => rfl
theorem rows_thn {F f d : Nat} {i : Int} : rows l F (f + 1) d i = if isS (tkAt l i) 125 then .ok [] (i + 1) else thn (stm l F f d i) fun s j => thn (rows l F f d j) fun r q => .ok (s :: r) q := by
  rw [rows]; unfold thn
  split
  · rfl
  · cases stm l F f d i with
    | ok s j => simp only; cases rows l F f d j <;> rfl
    | err p c => rfl
    | out => rfl
theorem blk_thn {F f d : Nat} {i : Int} : blk l F (f + 1) d i = if isS (tkAt l i) 123 then (if 30 ≤ d then .err (tkAt l i).pos 6 else rows l F f d (i + 1)) else .err (tkAt l i).pos 5 := by rw [blk]
theorem stm_thn {F f d : Nat} {i : Int} : stm l F (f + 1) d i =
    if isW (tkAt l i) wLet then thn (na l (i + 1)) fun n j => thn (sy l 61 j) fun _ j => exThen l F 59 j fun x => .mk 1 (tkAt l i).pos n.1 false x [] []
    else if isW (tkAt l i) wReturn then (if isS (tkAt l (i + 1)) 59 then .ok (.mk 3 (tkAt l i).pos ⟨#[]⟩ false noEX [] []) (i + 2) else exThen l F 59 (i + 1) fun x => .mk 3 (tkAt l i).pos ⟨#[]⟩ true x [] [])
    else if isW (tkAt l i) wIf then thn (ex l F 1 0 (i + 1)) fun x j => thn (blk l F f (d + 1) j) fun b q => if isW (tkAt l q) wElse then thn (blk l F f (d + 1) (q + 1)) fun c r => .ok (.mk 4 (tkAt l i).pos ⟨#[]⟩ true x b c) r else .ok (.mk 4 (tkAt l i).pos ⟨#[]⟩ false x b []) q
    else if isW (tkAt l i) wFor then thn (ex l F 1 0 (i + 1)) fun x j => thn (blk l F f (d + 1) j) fun b q => .ok (.mk 5 (tkAt l i).pos ⟨#[]⟩ false x b []) q
    else if isSet l i then exThen l F 59 (i + 2) fun x => .mk 2 (tkAt l i).pos (tkAt l i).text false x [] []
    else exThen l F 59 i fun x => .mk 6 (tkAt l i).pos ⟨#[]⟩ false x [] [] := by
  rw [stm]
  split
  · unfold na
    by_cases hk : (tkAt l (i + 1)).kind = 1
    · rw [if_pos hk, if_pos hk]
      show _ = thn (sy l 61 (i + 1 + 1)) _
      unfold sy
      rw [show i + 1 + 1 = i + 2 by omega]
      cases isS (tkAt l (i + 2)) 61
      · rfl
      · simp only [if_true]; show _ = exThen l F 59 (i + 2 + 1) _; rw [show i + 2 + 1 = i + 3 by omega]
    · rw [if_neg hk, if_neg hk]; rfl
  · split
    · rfl
    · split
      · unfold thn
        cases ex l F 1 0 (i + 1) with
        | ok x j =>
          simp only
          cases blk l F f (d + 1) j with
          | ok b q =>
            simp only
            split
            · cases blk l F f (d + 1) (q + 1) <;> rfl
            · rfl
          | err p c => rfl
          | out => rfl
        | err p c => rfl
        | out => rfl
      · split
        · unfold thn
          cases ex l F 1 0 (i + 1) with
          | ok x j => simp only; cases blk l F f (d + 1) j <;> rfl
          | err p c => rfl
          | out => rfl
        · rfl
theorem sy_lay (A : Alk g l m e) {i : Int} (hi : i ≤ e) (z : UInt8) : Lo (fun _ : Unit => ()) l m e (sy l z i) (sy m z i) := by
  unfold sy
  refine bool_ite (A.sym hi z) (fun h => ?_) fun _ => .err hi _
  have := A.symL hi h
  exact .ok rfl (by omega)
theorem wo_lay (A : Alk g l m e) {i : Int} (hi : i ≤ e) {w : List UInt8} (h1 : w ≠ wType) (h2 : w ≠ wFunc) : Lo (fun _ : Unit => ()) l m e (wo l w i) (wo m w i) := by
  unfold wo
  refine bool_ite (A.word hi h1 h2) (fun h => ?_) fun _ => .err hi _
  have := A.wordL hi h1 h2 h
  exact .ok rfl (by omega)
theorem na_lay (A : Alk g l m e) {i : Int} (hi : i ≤ e) : Lo (fun n : ByteArray × Int => (n.1, g n.2)) l m e (na l i) (na m i) := by
  unfold na
  refine prop_ite (A.kindE hi (by decide) (by decide)) (fun h => ?_) fun _ => .err hi _
  have hi1 := A.kindL hi (by decide) (by decide) h
  have hz := tkAt_real (l := l) (i := i) (by rw [h]; decide)
  exact .ok (by simp only [A.text i hi1, A.pos i (by omega) hi1]) (by omega)
theorem exThen_lay (A : Alk g l m e) {F : Nat} {i : Int} (hi : i ≤ e) {z : UInt8} {h h' : EX → SX} (hh : 0 ≤ i → i < e → ∀ x y, erX g x = erX g y → erS g (h x) = erS g (h' y)) : Lo (erS g) l m e (exThen l F z i h) (exThen m F z i h') := by
  rw [exThen_thn, exThen_thn]
  refine ((read_lay A F).1 1 0 i (by decide) hi).thn fun x y j hq hxy hj => ?_
  have hr := (read_rng (l := l) F).1 _ _ _ _ _ (by decide) hq
  exact (sy_lay A hj z).thn fun _ _ q _ _ hq => .ok (hh (by omega) (by omega) x y hxy) hq
theorem isSet_lay (A : Alk g l m e) {i : Int} (hi : i ≤ e) : isSet m i = isSet l i := by
  unfold isSet
  by_cases h : i < e
  · rw [A.kind i h, A.sym (j := i + 1) (by omega)]
  · obtain rfl : i = e := by omega
    rw [show decide ((tkAt l i).kind = 1) = false by simpa using dead_kind A.dl (k := 1) (by decide) (by decide), show decide ((tkAt m i).kind = 1) = false by simpa using dead_kind A.dm (k := 1) (by decide) (by decide)]
    rfl
theorem stm_lay (A : Alk g l m e) (F : Nat) : ∀ f : Nat,
    (∀ d i, i ≤ e → Lo (erSL g) l m e (blk l F f d i) (blk m F f d i)) ∧
    (∀ d i, i ≤ e → Lo (erSL g) l m e (rows l F f d i) (rows m F f d i)) ∧
    (∀ d i, i ≤ e → Lo (erS g) l m e (stm l F f d i) (stm m F f d i)) := by
  intro f
  induction f with
  | zero =>
    refine ⟨?_, ?_, ?_⟩
    · intro d i _; rw [blk, blk]; trivial
    · intro d i _; rw [rows, rows]; trivial
    · intro d i _; rw [stm, stm]; trivial
  | succ f ih =>
    obtain ⟨iB, iR, iS⟩ := ih
    have E := (read_lay A F).1
    refine ⟨?_, ?_, ?_⟩
    · intro d i hi
      rw [blk_thn, blk_thn]
      refine bool_ite (A.sym hi 123) (fun h => ?_) fun _ => .err hi _
      have hi1 := A.symL hi h
      exact prop_ite Iff.rfl (fun _ => .err hi _) fun _ => iR d (i + 1) (by omega)
    · intro d i hi
      rw [rows_thn, rows_thn]
      refine bool_ite (A.sym hi 125) (fun h => ?_) fun _ => ?_
      · have hi1 := A.symL hi h
        exact .ok rfl (by omega)
      · refine (iS d i hi).thn fun s t j _ hst hj => ?_
        refine (iR d j hj).thn fun r r' q _ hr hq => ?_
        exact .ok (by simp only [erSL, hst, hr]) hq
    · intro d i hi
      rw [stm_thn, stm_thn]
      refine bool_ite (A.word hi (by decide) (by decide)) (fun h => ?_) fun _ => ?_
      · have hi1 := A.wordL hi (by decide) (by decide) h
        have hz := isW_real h
        refine (na_lay A (i := i + 1) (by omega)).thn fun n n' j _ hn hj => ?_
        refine (sy_lay A hj 61).thn fun _ _ j _ _ hj => ?_
        refine exThen_lay A hj fun _ _ x y hxy => ?_
        injection hn with hn _
        simp only [erS, erSL, hxy, hn, A.pos i (by omega) hi1]
      refine bool_ite (A.word hi (by decide) (by decide)) (fun h => ?_) fun _ => ?_
      · have hi1 := A.wordL hi (by decide) (by decide) h
        have hz := isW_real h
        refine bool_ite (A.sym (j := i + 1) (by omega) 59) (fun h2 => ?_) fun _ => ?_
        · have hi2 := A.symL (j := i + 1) (by omega) h2
          exact .ok (by simp only [erS, erSL, A.pos i (by omega) hi1]) (by omega)
        · exact exThen_lay A (by omega) fun _ _ x y hxy => by simp only [erS, erSL, hxy, A.pos i (by omega) hi1]
      refine bool_ite (A.word hi (by decide) (by decide)) (fun h => ?_) fun _ => ?_
      · have hi1 := A.wordL hi (by decide) (by decide) h
        have hz := isW_real h
        refine (E 1 0 (i + 1) (by decide) (by omega)).thn fun x y j _ hxy hj => ?_
        refine (iB (d + 1) j hj).thn fun b b' q _ hb hq => ?_
        refine bool_ite (A.word hq (by decide) (by decide)) (fun h2 => ?_) fun _ => ?_
        · have hq1 := A.wordL hq (by decide) (by decide) h2
          refine (iB (d + 1) (q + 1) (by omega)).thn fun c c' r _ hc hr => ?_
          exact .ok (by simp only [erS, hxy, hb, hc, A.pos i (by omega) hi1]) hr
        · exact .ok (by simp only [erS, erSL, hxy, hb, A.pos i (by omega) hi1]) hq
      refine bool_ite (A.word hi (by decide) (by decide)) (fun h => ?_) fun _ => ?_
      · have hi1 := A.wordL hi (by decide) (by decide) h
        have hz := isW_real h
        refine (E 1 0 (i + 1) (by decide) (by omega)).thn fun x y j _ hxy hj => ?_
        refine (iB (d + 1) j hj).thn fun b b' q _ hb hq => ?_
        exact .ok (by simp only [erS, erSL, hxy, hb, A.pos i (by omega) hi1]) hq
      refine bool_ite (isSet_lay A hi) (fun h => ?_) fun _ => ?_
      · have hk : (tkAt l i).kind = 1 := by
          unfold isSet at h
          simp only [Bool.and_eq_true, decide_eq_true_eq] at h
          exact h.1
        have hi1 := A.kindL hi (by decide) (by decide) hk
        have hz := tkAt_real (l := l) (i := i) (by rw [hk]; decide)
        have hi2 : i + 1 < e := by
          unfold isSet at h
          simp only [Bool.and_eq_true, decide_eq_true_eq] at h
          exact A.symL (j := i + 1) (by omega) h.2
        exact exThen_lay A (by omega) fun _ _ x y hxy => by simp only [erS, erSL, hxy, A.pos i (by omega) hi1, A.text i hi1]
      · exact exThen_lay A hi fun h0 hlt x y hxy => by simp only [erS, erSL, hxy, A.pos i h0 hlt]
end
end Go.Proofs.YtlgaphopjdeklaaGreat
namespace Go.Proofs.YtlgaphopjdeklaaGreat
/-! How far. -/
theorem thn_ok {α β : Type} {r : EO α} {f : α → Int → EO β} {y : β} {q : Int} (h : thn r f = .ok y q) : ∃ x j, r = .ok x j ∧ f x j = .ok y q := by
  cases r with
  | ok x j => exact ⟨x, j, rfl, h⟩
  | err p c => cases h
  | out => cases h
section
variable {l : List TZ}
theorem sy_rng {z : UInt8} {i : Int} {x : Unit} {j : Int} (h : sy l z i = .ok x j) : j = i + 1 ∧ 0 ≤ i ∧ i < l.length ∧ isS (tkAt l i) z = true := by
  unfold sy at h; split at h
  · next hs => injection h with _ h; have := isS_real hs; exact ⟨h.symm, this.1, this.2, hs⟩
  · cases h
theorem wo_rng {w : List UInt8} {i : Int} {x : Unit} {j : Int} (h : wo l w i = .ok x j) : j = i + 1 ∧ 0 ≤ i ∧ i < l.length := by
  unfold wo at h; split at h
  · next hs => injection h with _ h; have := isW_real hs; exact ⟨h.symm, this.1, this.2⟩
  · cases h
theorem na_rng {i : Int} {x : ByteArray × Int} {j : Int} (h : na l i = .ok x j) : j = i + 1 ∧ 0 ≤ i ∧ i < l.length ∧ (tkAt l i).kind = 1 ∧ x = ((tkAt l i).text, (tkAt l i).pos) := by
  unfold na at h; split at h
  · next hk => injection h with h1 h; have := tkAt_real (l := l) (i := i) (by rw [hk]; decide); exact ⟨h.symm, this.1, this.2, hk, h1.symm⟩
  · cases h
theorem ty_rng {i : Int} {x : TX} {j : Int} (h : ty l i = .ok x j) : i < j ∧ j ≤ l.length := by
  unfold ty at h
  split at h
  · next t q hq => injection h with _ h; have := (prs_rng hq); omega
  · cases h
/-- A name and a type: where the name stands. -/
theorem prm_rng {i : Int} {x : PX} {j : Int} (h : prm l i = .ok x j) : i + 1 < j ∧ j ≤ l.length ∧ (tkAt l i).kind = 1 ∧ x.name = (tkAt l i).text ∧ x.pos = (tkAt l i).pos := by
  unfold prm at h
  obtain ⟨n, a, h1, h⟩ := thn_ok h
  obtain ⟨t, b, h2, h⟩ := thn_ok h
  injection h with hx hj
  obtain ⟨n1, n2, n3, n4, rfl⟩ := na_rng h1
  have := ty_rng h2
  exact ⟨by omega, by omega, n4, by rw [← hx], by rw [← hx]⟩
theorem seps_rng {α : Type} {one : Int → EO α} (h1 : ∀ i x j, one i = .ok x j → i < j ∧ j ≤ l.length) {z : UInt8} : ∀ {f : Nat} {i : Int} {xs : List α} {j : Int}, seps l one z f i = .ok xs j → i < j ∧ j ≤ l.length
  | 0, _, _, _, h => by rw [seps] at h; cases h
  | f + 1, i, xs, j, h => by
    rw [seps] at h
    obtain ⟨x, a, ha, h⟩ := thn_ok h
    have := h1 _ _ _ ha
    split at h
    · obtain ⟨ys, b, hb, h⟩ := thn_ok h
      injection h with _ h
      have := seps_rng h1 hb; omega
    · obtain ⟨_, b, hb, h⟩ := thn_ok h
      injection h with _ h
      have := sy_rng hb; omega
theorem sepn_rng {α : Type} {one : Int → EO α} (h1 : ∀ i x j, one i = .ok x j → i < j ∧ j ≤ l.length) {z : UInt8} {f : Nat} {i : Int} {xs : List α} {j : Int} (h : sepn l one z f i = .ok xs j) : i < j ∧ j ≤ l.length := by
  unfold sepn at h
  split at h
  · next hs => injection h with _ h; have := isS_real hs; omega
  · exact seps_rng h1 h
theorem upto_rng {α : Type} {one : Int → EO α} (h1 : ∀ i x j, one i = .ok x j → i < j ∧ j ≤ l.length) : ∀ {f : Nat} {i : Int} {xs : List α} {j : Int}, upto l one f i = .ok xs j → i < j ∧ j ≤ l.length ∧ isS (tkAt l (j - 1)) 125 = true
  | 0, _, _, _, h => by rw [upto] at h; cases h
  | f + 1, i, xs, j, h => by
    rw [upto] at h
    split at h
    · next hs => injection h with _ h; have := isS_real hs; subst h; exact ⟨by omega, by omega, by rw [show i + 1 - 1 = i by omega]; exact hs⟩
    · obtain ⟨x, a, ha, h⟩ := thn_ok h
      obtain ⟨ys, b, hb, h⟩ := thn_ok h
      injection h with _ h
      subst h
      have := h1 _ _ _ ha
      obtain ⟨u1, u2, u3⟩ := upto_rng h1 hb
      exact ⟨by omega, u2, u3⟩
theorem fld_rng {i : Int} {x : PX} {j : Int} (h : fld l i = .ok x j) : i < j ∧ j ≤ l.length := by
  unfold fld at h
  obtain ⟨n, a, h1, h⟩ := thn_ok h
  obtain ⟨_, b, h2, h⟩ := thn_ok h
  injection h with _ h
  have := prm_rng h1; have := sy_rng h2; omega
theorem mth_rng {f : Nat} {i : Int} {x : MX} {j : Int} (h : mth l f i = .ok x j) : i < j ∧ j ≤ l.length := by
  unfold mth at h
  obtain ⟨n, a, h1, h⟩ := thn_ok h
  obtain ⟨_, b, h2, h⟩ := thn_ok h
  obtain ⟨ts, c, h3, h⟩ := thn_ok h
  have := (na_rng h1).1; have := sy_rng h2; have := sepn_rng (fun _ _ _ h => ty_rng h) h3
  split at h
  · next hs => injection h with _ h; have := isS_real hs; omega
  · obtain ⟨t, d, h4, h⟩ := thn_ok h
    obtain ⟨_, e, h5, h⟩ := thn_ok h
    injection h with _ h
    have := ty_rng h4; have := sy_rng h5; omega
theorem rcv_rng {i : Int} {x : Bool × PX} {j : Int} (h : rcv l i = .ok x j) : i ≤ j := by
  unfold rcv at h
  split at h
  · obtain ⟨n, a, h1, h⟩ := thn_ok h
    obtain ⟨_, b, h2, h⟩ := thn_ok h
    injection h with _ h
    have := prm_rng h1; have := sy_rng h2; omega
  · injection h with _ h; omega
theorem bnds_rng {f : Nat} {i : Int} {x : List PX} {j : Int} (h : bnds l f i = .ok x j) : i ≤ j := by
  unfold bnds at h
  split at h
  · have := seps_rng (fun _ _ _ h => by have := prm_rng h; omega) h; omega
  · injection h with _ h; omega
theorem res_rng {i : Int} {x : Bool × TX} {j : Int} (h : res l i = .ok x j) : i ≤ j := by
  unfold res at h
  split at h
  · injection h with _ h; omega
  · obtain ⟨t, a, h1, h⟩ := thn_ok h
    injection h with _ h
    have := ty_rng h1; omega
theorem rows_end {F : Nat} : ∀ {f d : Nat} {i : Int} {x : List SX} {j : Int}, rows l F f d i = .ok x j → isS (tkAt l (j - 1)) 125 = true
  | 0, _, _, _, _, h => by rw [rows] at h; cases h
  | f + 1, d, i, x, j, h => by
    rw [rows_thn] at h
    split at h
    · next hs => injection h with _ h; subst h; rw [show i + 1 - 1 = i by omega]; exact hs
    · obtain ⟨s, a, ha, h⟩ := thn_ok h
      obtain ⟨r, b, hb, h⟩ := thn_ok h
      injection h with _ h
      subst h
      exact rows_end hb
theorem blk_end {F f d : Nat} {i : Int} {x : List SX} {j : Int} (h : blk l F f d i = .ok x j) : isS (tkAt l (j - 1)) 125 = true := by
  cases f with
  | zero => rw [blk] at h; cases h
  | succ f =>
    rw [blk_thn] at h
    split at h
    · split at h
      · cases h
      · exact rows_end h
    · cases h
/-- Where a declaration's name and its parts stand: its name at token a; each field's name between it and the last bracket. -/
structure DAt (l : List TZ) (i : Int) (x : DX) (j : Int) : Prop where
  far : i < j
  near : j ≤ l.length
  last : isS (tkAt l (j - 1)) 125 = true
  stop : x.stop = (tkAt l (j - 1)).stop
  name : ∃ a, i ≤ a ∧ a < j - 1 ∧ (tkAt l a).kind = 1 ∧ x.name = (tkAt l a).text ∧ x.pos = (tkAt l a).pos ∧ ∀ y ∈ x.fields, ∃ q, a < q ∧ q < j - 1 ∧ (tkAt l q).kind = 1 ∧ y.name = (tkAt l q).text ∧ y.pos = (tkAt l q).pos
theorem seps_at {α : Type} {one : Int → EO α} {P : α → Int → Prop} (h1 : ∀ i x j, one i = .ok x j → i < j ∧ j ≤ l.length) (h2 : ∀ i x j, one i = .ok x j → P x i) {z : UInt8} : ∀ {f : Nat} {i : Int} {xs : List α} {j : Int}, seps l one z f i = .ok xs j → ∀ y ∈ xs, ∃ q, i ≤ q ∧ q < j - 1 ∧ P y q
  | 0, _, _, _, h => by rw [seps] at h; cases h
  | f + 1, i, xs, j, h => by
    rw [seps] at h
    obtain ⟨x, a, ha, h⟩ := thn_ok h
    have r1 := h1 _ _ _ ha
    split at h
    · obtain ⟨ys, b, hb, h⟩ := thn_ok h
      injection h with hx hj
      subst hx hj
      have r2 := seps_rng h1 hb
      intro y hy
      rcases List.mem_cons.1 hy with rfl | hy
      · exact ⟨i, by omega, by omega, h2 _ _ _ ha⟩
      · obtain ⟨q, q1, q2, q3⟩ := seps_at h1 h2 hb y hy
        exact ⟨q, by omega, q2, q3⟩
    · obtain ⟨_, b, hb, h⟩ := thn_ok h
      injection h with hx hj
      subst hx hj
      have := sy_rng hb
      intro y hy
      obtain rfl := List.mem_singleton.1 hy
      exact ⟨i, by omega, by omega, h2 _ _ _ ha⟩
theorem upto_at {α : Type} {one : Int → EO α} {P : α → Int → Prop} (h1 : ∀ i x j, one i = .ok x j → i < j ∧ j ≤ l.length) (h2 : ∀ i x j, one i = .ok x j → P x i) : ∀ {f : Nat} {i : Int} {xs : List α} {j : Int}, upto l one f i = .ok xs j → ∀ y ∈ xs, ∃ q, i ≤ q ∧ q < j - 1 ∧ P y q
  | 0, _, _, _, h => by rw [upto] at h; cases h
  | f + 1, i, xs, j, h => by
    rw [upto] at h
    split at h
    · injection h with hx hj
      subst hx
      intro y hy
      cases hy
    · obtain ⟨x, a, ha, h⟩ := thn_ok h
      obtain ⟨ys, b, hb, h⟩ := thn_ok h
      injection h with hx hj
      subst hx hj
      have r1 := h1 _ _ _ ha
      have r2 := upto_rng h1 hb
      intro y hy
      rcases List.mem_cons.1 hy with rfl | hy
      · exact ⟨i, by omega, by omega, h2 _ _ _ ha⟩
      · obtain ⟨q, q1, q2, q3⟩ := upto_at h1 h2 hb y hy
        exact ⟨q, by omega, q2, q3⟩
theorem dty_at {f : Nat} {i : Int} {x : DX} {j : Int} (h : dty l f i = .ok x j) : DAt l i x j := by
  unfold dty at h
  obtain ⟨n, a, h1, h⟩ := thn_ok h
  obtain ⟨n1, n2, n3, n4, rfl⟩ := na_rng h1
  split at h
  · obtain ⟨_, b, h2, h⟩ := thn_ok h
    obtain ⟨ms, c, h3, h⟩ := thn_ok h
    injection h with hx hj
    subst hx hj
    have := sy_rng h2
    have hu := upto_rng (fun _ _ _ h => mth_rng h) h3
    exact ⟨by omega, hu.2.1, hu.2.2, rfl, i, by omega, by omega, n4, rfl, rfl, fun y hy => by cases hy⟩
  · obtain ⟨_, b, h2, h⟩ := thn_ok h
    obtain ⟨_, c, h3, h⟩ := thn_ok h
    obtain ⟨fs, d, h4, h⟩ := thn_ok h
    injection h with hx hj
    subst hx hj
    have := wo_rng h2; have := sy_rng h3
    have hu := upto_rng (fun _ _ _ h => fld_rng h) h4
    refine ⟨by omega, hu.2.1, hu.2.2, rfl, i, by omega, by omega, n4, rfl, rfl, fun y hy => ?_⟩
    obtain ⟨q, q1, q2, q3⟩ := upto_at (P := fun (y : PX) q => (tkAt l q).kind = 1 ∧ y.name = (tkAt l q).text ∧ y.pos = (tkAt l q).pos) (fun _ _ _ h => fld_rng h) (fun i x j h => by
      unfold fld at h
      obtain ⟨n, a, h1, h⟩ := thn_ok h
      obtain ⟨_, b, h2, h⟩ := thn_ok h
      injection h with hx _
      subst hx
      exact (prm_rng h1).2.2) h4 y hy
    exact ⟨q, by omega, q2, q3⟩
theorem dfn_at {F fb f : Nat} {i : Int} {x : DX} {j : Int} (h : dfn l F fb f i = .ok x j) : DAt l i x j := by
  unfold dfn at h
  obtain ⟨r, a, h1, h⟩ := thn_ok h
  obtain ⟨n, b, h2, h⟩ := thn_ok h
  obtain ⟨bs, c, h3, h⟩ := thn_ok h
  obtain ⟨_, d, h4, h⟩ := thn_ok h
  obtain ⟨ps, e, h5, h⟩ := thn_ok h
  obtain ⟨t, k, h6, h⟩ := thn_ok h
  obtain ⟨bd, q, h7, h⟩ := thn_ok h
  injection h with hx hj
  subst hx hj
  obtain ⟨n1, n2, n3, n4, rfl⟩ := na_rng h2
  have r1 := rcv_rng h1; have r3 := bnds_rng h3; have r4 := sy_rng h4
  have r5 := sepn_rng (fun _ _ _ h => by have := prm_rng h; omega) h5; have r6 := res_rng h6; have r7 := (stm_rng (l := l) (F := F) fb).1 _ _ _ _ h7
  refine ⟨by omega, r7.2.2, blk_end h7, rfl, a, by omega, by omega, n4, rfl, rfl, fun y hy => ?_⟩
  unfold sepn at h5
  split at h5
  · injection h5 with hx _
    subst hx
    cases hy
  · obtain ⟨q', q1, q2, q3⟩ := seps_at (P := fun (y : PX) q => (tkAt l q).kind = 1 ∧ y.name = (tkAt l q).text ∧ y.pos = (tkAt l q).pos) (fun _ _ _ h => by have := prm_rng h; omega) (fun i x j h => (prm_rng h).2.2) h5 y hy
    exact ⟨q', by omega, by omega, q3⟩
theorem dcl_at {F fb f : Nat} {i : Int} {x : DX} {j : Int} (h : dcl l F fb f i = .ok x j) : DAt l (i + 1) x j := by
  unfold dcl at h
  split at h
  · exact dty_at h
  · obtain ⟨_, a, h1, h⟩ := thn_ok h
    have := (wo_rng h1).1
    subst this
    exact dfn_at h
theorem dcl_rng {F fb f : Nat} {i : Int} {x : DX} {j : Int} (h : dcl l F fb f i = .ok x j) : i < j := by have := (dcl_at h).far; omega
end
end Go.Proofs.YtlgaphopjdeklaaGreat
namespace Go.Proofs.YtlgaphopjdeklaaGreat
def erP (g : Int → Int) (x : PX) : PX := ⟨x.name, g x.pos, erT g x.typ⟩
def erM (g : Int → Int) (x : MX) : MX := ⟨x.name, g x.pos, x.params.map (erT g), x.has, erT g x.result⟩
def erD (g : Int → Int) (x : DX) : DX := ⟨x.kind, g x.pos, g x.stop, x.name, x.method, erP g x.recv, x.bounds.map (erP g), x.fields.map (erP g), x.methods.map (erM g), x.has, erT g x.result, erSL g x.body⟩
def erN (g : Int → Int) (n : ByteArray × Int) : ByteArray × Int := (n.1, g n.2)
def erF (g : Int → Int) (x : FX) : FX := ⟨x.name, g x.pos, x.imports.map (erN g), x.decls.map (erD g)⟩
/-- Two readings that come to the same, but for places, wherever they end. -/
def Lq {α β : Type} (er : α → β) (l m : List TZ) (e : Int) : EO α → EO α → Prop
  | .ok x _, .ok y _ => er x = er y
  | .err p c, .err p' c' => c = c' ∧ ∃ q, q ≤ e ∧ p = (tkAt l q).pos ∧ p' = (tkAt m q).pos
  | .out, .out => True
  | _, _ => False
section
variable {g : Int → Int} {l m : List TZ} {e : Int}
theorem Lo.thnq {α β γ δ : Type} {er1 : α → β} {er2 : γ → δ} {r r' : EO α} {f f' : α → Int → EO γ} (h : Lo er1 l m e r r') (hf : ∀ x y j, r = .ok x j → er1 x = er1 y → j ≤ e → Lq er2 l m e (f x j) (f' y j)) : Lq er2 l m e (Go.Proofs.YtlgaphopjdeklaaGreat.thn r f) (Go.Proofs.YtlgaphopjdeklaaGreat.thn r' f') := by
  cases r with
  | ok x j =>
    cases r' with
    | ok y j' => obtain ⟨h1, rfl, h3⟩ := h; exact hf x y j rfl h1 h3
    | err p q => exact h.elim
    | out => exact h.elim
  | err p q =>
    cases r' with
    | ok y j' => exact h.elim
    | err p' q' => exact h
    | out => exact h.elim
  | out =>
    cases r' with
    | ok y j' => exact h.elim
    | err p' q' => exact h.elim
    | out => trivial
theorem Lq.thn {α β γ δ : Type} {er1 : α → β} {er2 : γ → δ} {r r' : EO α} {f f' : α → Int → EO γ} (h : Lq er1 l m e r r') (hf : ∀ x y j j', er1 x = er1 y → Lq er2 l m e (f x j) (f' y j')) : Lq er2 l m e (Go.Proofs.YtlgaphopjdeklaaGreat.thn r f) (Go.Proofs.YtlgaphopjdeklaaGreat.thn r' f') := by
  cases r with
  | ok x j =>
    cases r' with
    | ok y j' => exact hf x y j j' h
    | err p q => exact h.elim
    | out => exact h.elim
  | err p q =>
    cases r' with
    | ok y j' => exact h.elim
    | err p' q' => exact h
    | out => exact h.elim
  | out =>
    cases r' with
    | ok y j' => exact h.elim
    | err p' q' => exact h.elim
    | out => trivial
theorem prm_lay (A : Alk g l m e) {i : Int} (hi : i ≤ e) : Lo (erP g) l m e (prm l i) (prm m i) := by
  unfold prm
  refine (na_lay A hi).thn fun n n' j _ hn hj => ?_
  refine (ty_lay A hj).thn fun t t' q _ ht hq => ?_
  injection hn with h1 h2
  exact .ok (by unfold erP; simp only [h1, h2, ht]) hq
theorem seps_lay {α β : Type} {er : α → β} (A : Alk g l m e) {one one' : Int → EO α} (h1 : ∀ i, i ≤ e → Lo er l m e (one i) (one' i)) (z : UInt8) : ∀ (f : Nat) (i : Int), i ≤ e → Lo (List.map er) l m e (seps l one z f i) (seps m one' z f i)
  | 0, _, _ => by rw [seps, seps]; trivial
  | f + 1, i, hi => by
    rw [seps, seps]
    refine (h1 i hi).thn fun x y j _ hxy hj => ?_
    refine bool_ite (A.sym hj 44) (fun h => ?_) fun _ => ?_
    · have hj1 := A.symL hj h
      refine (seps_lay A h1 z f (j + 1) (by omega)).thn fun xs ys q _ hxs hq => ?_
      exact .ok (by simp only [List.map_cons, hxy, hxs]) hq
    · exact (sy_lay A hj z).thn fun _ _ q _ _ hq => .ok (by simp only [List.map_cons, List.map_nil, hxy]) hq
theorem sepn_lay {α β : Type} {er : α → β} (A : Alk g l m e) {one one' : Int → EO α} (h1 : ∀ i, i ≤ e → Lo er l m e (one i) (one' i)) (z : UInt8) (f : Nat) {i : Int} (hi : i ≤ e) : Lo (List.map er) l m e (sepn l one z f i) (sepn m one' z f i) := by
  unfold sepn
  refine bool_ite (A.sym hi z) (fun h => ?_) fun _ => seps_lay A h1 z f i hi
  have := A.symL hi h
  exact .ok rfl (by omega)
theorem upto_lay {α β : Type} {er : α → β} (A : Alk g l m e) {one one' : Int → EO α} (h1 : ∀ i, i ≤ e → Lo er l m e (one i) (one' i)) : ∀ (f : Nat) (i : Int), i ≤ e → Lo (List.map er) l m e (upto l one f i) (upto m one' f i)
  | 0, _, _ => by rw [upto, upto]; trivial
  | f + 1, i, hi => by
    rw [upto, upto]
    refine bool_ite (A.sym hi 125) (fun h => ?_) fun _ => ?_
    · have := A.symL hi h
      exact .ok rfl (by omega)
    · refine (h1 i hi).thn fun x y j _ hxy hj => ?_
      refine (upto_lay A h1 f j hj).thn fun xs ys q _ hxs hq => ?_
      exact .ok (by simp only [List.map_cons, hxy, hxs]) hq
theorem fld_lay (A : Alk g l m e) {i : Int} (hi : i ≤ e) : Lo (erP g) l m e (fld l i) (fld m i) := by
  unfold fld
  refine (prm_lay A hi).thn fun x y j _ hxy hj => ?_
  exact (sy_lay A hj 59).thn fun _ _ q _ _ hq => .ok hxy hq
theorem mth_lay (A : Alk g l m e) (f : Nat) {i : Int} (hi : i ≤ e) : Lo (erM g) l m e (mth l f i) (mth m f i) := by
  unfold mth
  refine (na_lay A hi).thn fun n n' j _ hn hj => ?_
  injection hn with n1 n2
  refine (sy_lay A hj 40).thn fun _ _ j _ _ hj => ?_
  refine (sepn_lay A (fun i hi => ty_lay A hi) 41 f hj).thn fun ts ts' j _ hts hj => ?_
  refine bool_ite (A.sym hj 59) (fun h => ?_) fun _ => ?_
  · have := A.symL hj h
    exact .ok (by unfold erM; simp only [n1, n2, hts]) (by omega)
  · refine (ty_lay A hj).thn fun t t' j _ ht hj => ?_
    exact (sy_lay A hj 59).thn fun _ _ q _ _ hq => .ok (by unfold erM; simp only [n1, n2, hts, ht]) hq
theorem dty_lay (A : Alk g l m e) (f : Nat) {i : Int} (hi : i ≤ e) : Lo (erD g) l m e (dty l f i) (dty m f i) := by
  unfold dty
  refine (na_lay A hi).thn fun n n' j hna hn hj => ?_
  have hn0 := na_rng hna
  injection hn with n1 n2
  refine bool_ite (A.word hj (by decide) (by decide)) (fun h => ?_) fun _ => ?_
  · have hj1 := A.wordL hj (by decide) (by decide) h
    refine (sy_lay A (i := j + 1) (by omega) 123).thn fun _ _ j hs1 _ hj => ?_
    have hs1 := sy_rng hs1
    refine (upto_lay A (fun i hi => mth_lay A f hi) f j hj).thn fun ms ms' q hu hms hq => ?_
    have hr := upto_rng (fun _ _ _ h => mth_rng h) hu
    exact .ok (by unfold erD; simp only [n1, n2, hms, A.stop (q - 1) (by omega) (by omega)]) hq
  · refine (wo_lay A hj (by decide) (by decide)).thn fun _ _ j hw1 _ hj => ?_
    have hw1 := wo_rng hw1
    refine (sy_lay A hj 123).thn fun _ _ j hs1 _ hj => ?_
    have hs1 := sy_rng hs1
    refine (upto_lay A (fun i hi => fld_lay A hi) f j hj).thn fun fs fs' q hu hfs hq => ?_
    have hr := upto_rng (fun _ _ _ h => fld_rng h) hu
    exact .ok (by unfold erD; simp only [n1, n2, hfs, A.stop (q - 1) (by omega) (by omega)]) hq
theorem rcv_lay (A : Alk g l m e) {i : Int} (hi : i ≤ e) : Lo (fun r : Bool × PX => (r.1, erP g r.2)) l m e (rcv l i) (rcv m i) := by
  unfold rcv
  refine bool_ite (A.sym hi 40) (fun h => ?_) fun _ => .ok rfl hi
  have hi1 := A.symL hi h
  refine (prm_lay A (i := i + 1) (by omega)).thn fun x y j _ hxy hj => ?_
  exact (sy_lay A hj 41).thn fun _ _ q _ _ hq => .ok (by simp only [hxy]) hq
theorem bnds_lay (A : Alk g l m e) (f : Nat) {i : Int} (hi : i ≤ e) : Lo (List.map (erP g)) l m e (bnds l f i) (bnds m f i) := by
  unfold bnds
  refine bool_ite (A.sym hi 91) (fun h => ?_) fun _ => .ok rfl hi
  have hi1 := A.symL hi h
  exact seps_lay A (fun i hi => prm_lay A hi) 93 f (i + 1) (by omega)
theorem res_lay (A : Alk g l m e) {i : Int} (hi : i ≤ e) : Lo (fun r : Bool × TX => (r.1, erT g r.2)) l m e (res l i) (res m i) := by
  unfold res
  refine bool_ite (A.sym hi 123) (fun h => .ok rfl hi) fun _ => ?_
  exact (ty_lay A hi).thn fun t t' q _ ht hq => .ok (by simp only [ht]) hq
theorem dfn_lay (A : Alk g l m e) (F fb f : Nat) {i : Int} (hi : i ≤ e) : Lo (erD g) l m e (dfn l F fb f i) (dfn m F fb f i) := by
  unfold dfn
  refine (rcv_lay A hi).thn fun r r' j _ hr hj => ?_
  injection hr with r1 r2
  refine (na_lay A hj).thn fun n n' j _ hn hj => ?_
  injection hn with n1 n2
  refine (bnds_lay A f hj).thn fun bs bs' j _ hbs hj => ?_
  refine (sy_lay A hj 40).thn fun _ _ j _ _ hj => ?_
  refine (sepn_lay A (fun i hi => prm_lay A hi) 41 f hj).thn fun ps ps' j _ hps hj => ?_
  refine (res_lay A hj).thn fun t t' j _ ht hj => ?_
  injection ht with t1 t2
  refine ((stm_lay A F fb).1 0 j hj).thn fun b b' q hu hb hq => ?_
  have hr := (stm_rng (l := l) (F := F) fb).1 _ _ _ _ hu
  exact .ok (by unfold erD; simp only [r1, r2, n1, n2, hbs, hps, t1, t2, hb, A.stop (q - 1) (by omega) (by omega)]) hq
/-- A declaration ahead of the end. -/
theorem dcl_lay (A : Alk g l m e) (F fb f : Nat) {i : Int} (hi : i < e) : Lo (erD g) l m e (dcl l F fb f i) (dcl m F fb f i) := by
  have hw : ∀ w, isW (tkAt m i) w = isW (tkAt l i) w := fun w => by unfold isW; rw [A.kind i hi, A.text i hi]
  unfold dcl
  refine bool_ite (hw _) (fun _ => dty_lay A f (by omega)) fun _ => ?_
  have h : Lo (fun _ : Unit => ()) l m e (wo l wFunc i) (wo m wFunc i) := by
    unfold wo
    exact bool_ite (hw _) (fun _ => .ok rfl (by omega)) fun _ => .err (by omega) _
  exact h.thn fun _ _ j _ _ hj => dfn_lay A F fb f hj
theorem imps_lay (A : Alk g l m e) : ∀ (k : Nat) (i : Int), i ≤ e → Lo (List.map (erN g)) l m e (imps l k i) (imps m k i)
  | 0, _, _ => by rw [imps, imps]; trivial
  | k + 1, i, hi => by
    rw [imps, imps]
    refine bool_ite (A.word hi (by decide) (by decide)) (fun h => ?_) fun _ => .ok rfl hi
    have hi1 := A.wordL hi (by decide) (by decide) h
    refine (na_lay A (i := i + 1) (by omega)).thn fun n n' j _ hn hj => ?_
    refine (sy_lay A hj 59).thn fun _ _ j _ _ hj => ?_
    refine (imps_lay A k j hj).thn fun xs ys q _ hxs hq => ?_
    exact .ok (by simp only [List.map_cons, hxs, erN]; injection hn with h1 h2; rw [h1, h2]) hq
/-! Both end in the same place: layout. -/
theorem dcls_lay (A : Alk g l m e) (hl : (tkAt l e).kind = 0) (hm : (tkAt m e).kind = 0) (F fb f : Nat) : ∀ (k : Nat) (i : Int), i ≤ e → Lq (List.map (erD g)) l m e (dcls l F fb f k i) (dcls m F fb f k i)
  | 0, _, _ => by rw [dcls, dcls]; trivial
  | k + 1, i, hi => by
    rw [dcls, dcls]
    by_cases hlt : i < e
    · rw [A.kind i hlt]
      by_cases h0 : (tkAt l i).kind = 0
      · rw [if_pos h0, if_pos h0]; exact (rfl : List.map (erD g) [] = List.map (erD g) [])
      · rw [if_neg h0, if_neg h0]
        refine (dcl_lay A F fb f hlt).thnq fun x y j _ hxy hj => ?_
        refine (dcls_lay A hl hm F fb f k j hj).thn fun xs ys q q' hxs => ?_
        show List.map (erD g) (x :: xs) = List.map (erD g) (y :: ys)
        rw [List.map_cons, List.map_cons, hxy, hxs]
    · obtain rfl : i = e := by omega
      rw [if_pos hl, if_pos hm]
      exact (rfl : List.map (erD g) [] = List.map (erD g) [])
theorem fil_lay (A : Alk g l m e) (he : 0 ≤ e) (hl : (tkAt l e).kind = 0) (hm : (tkAt m e).kind = 0) (F fb f : Nat) : Lq (erF g) l m e (fil l F fb f) (fil m F fb f) := by
  unfold fil
  refine (wo_lay A he (by decide) (by decide)).thnq fun _ _ j _ _ hj => ?_
  refine (na_lay A hj).thnq fun n n' j _ hn hj => ?_
  injection hn with n1 n2
  refine (sy_lay A hj 59).thnq fun _ _ j _ _ hj => ?_
  refine (imps_lay A f j hj).thnq fun is is' j _ his hj => ?_
  refine (dcls_lay A hl hm F fb f f j hj).thn fun ds ds' q q' hds => ?_
  show erF g _ = erF g _
  unfold erF
  simp only [n1, n2, his, hds]
end
end Go.Proofs.YtlgaphopjdeklaaGreat
namespace Go.Proofs.YtlgaphopjdeklaaGreat
theorem erT_id : ∀ t : TX, erT id t = t
  | .leaf k p g n => rfl
  | .list p x => by unfold erT; rw [erT_id x]; rfl
mutual
theorem erX_id : ∀ x : EX, erX id x = x
  | .mk k p s n nm t a => by unfold erX; rw [erXL_id a, erT_id t, ite_self]; rfl
theorem erXL_id : ∀ l : List EX, erXL id l = l
  | [] => by unfold erXL; rfl
  | x :: r => by unfold erXL; rw [erX_id x, erXL_id r]
end
mutual
theorem erS_id : ∀ x : SX, erS id x = x
  | .mk k p nm h x u v => by unfold erS; rw [erX_id x, erSL_id u, erSL_id v]; rfl
theorem erSL_id : ∀ l : List SX, erSL id l = l
  | [] => by unfold erSL; rfl
  | x :: r => by unfold erSL; rw [erS_id x, erSL_id r]
end
theorem erP_id (x : PX) : erP id x = x := by cases x; unfold erP; simp only [erT_id, id]
theorem erM_id (x : MX) : erM id x = x := by
  cases x; unfold erM
  simp only [erT_id, id]
  rw [show erT id = id from funext erT_id, List.map_id]
theorem erD_id (x : DX) : erD id x = x := by
  cases x; unfold erD
  simp only [erT_id, erSL_id, erP_id, id]
  rw [show erP id = id from funext erP_id, show erM id = id from funext erM_id, List.map_id, List.map_id, List.map_id]
section
variable {l m : List TZ} {e : Int} {F fb f : Nat}
/-- Declarations, and those behind them. -/
theorem dcls_more (A : Alk id l m e) (hl : (tkAt l e).kind = 0) (hk : ∀ j : Int, 0 ≤ j → j < e → (tkAt l j).kind ≠ 0) {K : Nat} {zs : List DX} {r : Int} (hz : ∀ k, K ≤ k → dcls m F fb f k e = .ok zs r) :
    ∀ (k : Nat) (i : Int) (xs : List DX) (q : Int), 0 ≤ i → i ≤ e → dcls l F fb f k i = .ok xs q → xs.length + K ≤ k → dcls m F fb f k i = .ok (xs ++ zs) r
  | 0, i, xs, q, _, _, h, _ => by rw [dcls] at h; cases h
  | k + 1, i, xs, q, h0, hi, h, hn => by
    by_cases hlt : i < e
    · have hne := hk i h0 hlt
      rw [dcls, if_neg hne] at h
      rw [dcls, A.kind i hlt, if_neg hne]
      have hd := dcl_lay A F fb f hlt
      cases hx : dcl l F fb f i with
      | ok x j =>
        rw [hx] at h hd
        cases hy : dcl m F fb f i with
        | ok y j' =>
          rw [hy] at hd
          obtain ⟨e1, rfl, hj⟩ := hd
          rw [erD_id, erD_id] at e1
          subst e1
          change thn (dcls l F fb f k j) (fun xs q => .ok (x :: xs) q) = _ at h
          show thn (dcls m F fb f k j) (fun xs q => .ok (x :: xs) q) = _
          cases hxs : dcls l F fb f k j with
          | ok ys q' =>
            rw [hxs] at h
            injection h with h1 h2
            subst h1
            have hj0 : 0 ≤ j := Int.le_trans h0 (Int.le_of_lt (dcl_rng hx))
            rw [dcls_more A hl hk hz k j ys q' hj0 hj hxs (by simp only [List.length_cons] at hn; omega)]
            rfl
          | err p c => rw [hxs] at h; cases h
          | out => rw [hxs] at h; cases h
        | err p c => rw [hy] at hd; exact hd.elim
        | out => rw [hy] at hd; exact hd.elim
      | err p c => rw [hx] at h; cases h
      | out => rw [hx] at h; cases h
    · obtain rfl : i = e := by omega
      rw [dcls, if_pos hl] at h
      injection h with h2 _
      subst h2
      exact hz (k + 1) (by simpa using hn)
end
end Go.Proofs.YtlgaphopjdeklaaGreat
namespace Go.Proofs.YtlgaphopjdeklaaGreat
/-- Imports, declarations, one behind the other. -/
def IsAt (l : List TZ) : Int → List (ByteArray × Int) → Int → Prop
  | i, [], j => i = j
  | i, n :: r, j => i + 2 < l.length ∧ 0 ≤ i ∧ (tkAt l (i + 1)).kind = 1 ∧ n = ((tkAt l (i + 1)).text, (tkAt l (i + 1)).pos) ∧ IsAt l (i + 3) r j
def DsAt (l : List TZ) : Int → List DX → Prop
  | _, [] => True
  | i, x :: r => ∃ j, DAt l (i + 1) x j ∧ DsAt l j r
/-- A file. -/
structure FAt (l : List TZ) (X : FX) : Prop where
  name : 2 < l.length ∧ (tkAt l 1).kind = 1 ∧ X.name = (tkAt l 1).text ∧ X.pos = (tkAt l 1).pos
  rest : ∃ i, IsAt l 3 X.imports i ∧ DsAt l i X.decls
section
variable {l : List TZ}
theorem imps_at : ∀ {k : Nat} {i : Int} {xs : List (ByteArray × Int)} {j : Int}, imps l k i = .ok xs j → IsAt l i xs j
  | 0, _, _, _, h => by rw [imps] at h; cases h
  | k + 1, i, xs, j, h => by
    rw [imps] at h
    split at h
    · next hw =>
      have hr := isW_real hw
      obtain ⟨n, a, h1, h⟩ := thn_ok h
      obtain ⟨_, b, h2, h⟩ := thn_ok h
      obtain ⟨ys, c, h3, h⟩ := thn_ok h
      injection h with hx hj
      subst hx hj
      obtain ⟨n1, n2, n3, n4, n5⟩ := na_rng h1
      have r2 := sy_rng h2
      have r3 := imps_at h3
      rw [r2.1, n1, show i + 1 + 1 + 1 = i + 3 by omega] at r3
      exact ⟨by omega, by omega, n4, n5, r3⟩
    · injection h with hx hj
      subst hx hj
      exact rfl
theorem IsAt.le : ∀ {xs : List (ByteArray × Int)} {i j : Int}, IsAt l i xs j → i ≤ j
  | [], _, _, h => by have : _ = _ := h; omega
  | _ :: r, i, j, h => by have := IsAt.le h.2.2.2.2; omega
theorem dcls_at {F fb f : Nat} : ∀ {k : Nat} {i : Int} {xs : List DX} {j : Int}, dcls l F fb f k i = .ok xs j → DsAt l i xs
  | 0, _, _, _, h => by rw [dcls] at h; cases h
  | k + 1, i, xs, j, h => by
    rw [dcls] at h
    split at h
    · injection h with hx hj
      subst hx
      trivial
    · obtain ⟨x, a, h1, h⟩ := thn_ok h
      obtain ⟨ys, b, h2, h⟩ := thn_ok h
      injection h with hx hj
      subst hx
      exact ⟨a, dcl_at h1, dcls_at h2⟩
theorem fil_at {F fb f : Nat} {X : FX} {q : Int} (h : fil l F fb f = .ok X q) : FAt l X := by
  unfold fil at h
  obtain ⟨_, a, h1, h⟩ := thn_ok h
  obtain ⟨n, b, h2, h⟩ := thn_ok h
  obtain ⟨_, c, h3, h⟩ := thn_ok h
  obtain ⟨is, d, h4, h⟩ := thn_ok h
  obtain ⟨ds, e, h5, h⟩ := thn_ok h
  injection h with hx hj
  subst hx
  have r1 := wo_rng h1
  obtain ⟨n1, n2, n3, n4, rfl⟩ := na_rng h2
  have r3 := sy_rng h3
  obtain rfl : a = 1 := by omega
  obtain rfl : b = 2 := by omega
  obtain rfl : c = 3 := by omega
  exact ⟨⟨by omega, n4, rfl, rfl⟩, d, imps_at h4, dcls_at h5⟩
/-! Steps enough. -/
theorem thn_some {α β : Type} {r : EO α} {f : α → Int → EO β} (h : r ≠ .out) (hf : ∀ x j, r = .ok x j → f x j ≠ .out) : thn r f ≠ .out := by
  cases r with
  | ok x j => exact hf x j rfl
  | err p c => intro e; cases e
  | out => exact (h rfl).elim
theorem sy_some (z : UInt8) (i : Int) : sy l z i ≠ .out := by unfold sy; split <;> (intro e; cases e)
theorem wo_some (w : List UInt8) (i : Int) : wo l w i ≠ .out := by unfold wo; split <;> (intro e; cases e)
theorem na_some (i : Int) : na l i ≠ .out := by unfold na; split <;> (intro e; cases e)
theorem ty_some (i : Int) : ty l i ≠ .out := by unfold ty; split <;> (intro e; cases e)
theorem prm_some (i : Int) : prm l i ≠ .out := by
  unfold prm
  exact thn_some (na_some i) fun _ _ _ => thn_some (ty_some _) fun _ _ _ => by intro e; cases e
/-- As many as there are tokens left. -/
def lft (l : List TZ) (i : Int) : Nat := ((l.length : Int) - i).toNat
theorem seps_some {α : Type} {one : Int → EO α} (h1 : ∀ i x j, one i = .ok x j → i < j ∧ j ≤ l.length) (h2 : ∀ i, one i ≠ .out) (z : UInt8) : ∀ (f : Nat) (i : Int), lft l i < f → seps l one z f i ≠ .out
  | 0, _, h => by omega
  | f + 1, i, h => by
    rw [seps]
    refine thn_some (h2 i) fun x j hx => ?_
    have r := h1 _ _ _ hx
    split
    · next hs =>
      have := isS_real hs
      exact thn_some (seps_some h1 h2 z f (j + 1) (by unfold lft at *; omega)) fun _ _ _ => by intro e; cases e
    · exact thn_some (sy_some _ _) fun _ _ _ => by intro e; cases e
theorem sepn_some {α : Type} {one : Int → EO α} (h1 : ∀ i x j, one i = .ok x j → i < j ∧ j ≤ l.length) (h2 : ∀ i, one i ≠ .out) (z : UInt8) {f : Nat} {i : Int} (hf : lft l i < f) : sepn l one z f i ≠ .out := by
  unfold sepn
  split
  · intro e; cases e
  · exact seps_some h1 h2 z f i hf
theorem upto_some {α : Type} {one : Int → EO α} (h1 : ∀ i x j, one i = .ok x j → i < j ∧ j ≤ l.length) (h2 : ∀ i, 0 ≤ i → one i ≠ .out) : ∀ (f : Nat) (i : Int), 0 ≤ i → lft l i < f → upto l one f i ≠ .out
  | 0, _, _, h => by omega
  | f + 1, i, h0, h => by
    rw [upto]
    split
    · intro e; cases e
    · refine thn_some (h2 i h0) fun x j hx => ?_
      have r := h1 _ _ _ hx
      exact thn_some (upto_some h1 h2 f j (by omega) (by unfold lft at *; omega)) fun _ _ _ => by intro e; cases e
theorem fld_some (i : Int) : fld l i ≠ .out := by
  unfold fld
  exact thn_some (prm_some i) fun _ _ _ => thn_some (sy_some _ _) fun _ _ _ => by intro e; cases e
theorem mth_some {f : Nat} (hf : l.length < f) {i : Int} (h0 : 0 ≤ i) : mth l f i ≠ .out := by
  unfold mth
  refine thn_some (na_some i) fun n a h1 => thn_some (sy_some _ _) fun _ b h2 => ?_
  have := (na_rng h1).1; have := sy_rng h2
  refine thn_some (sepn_some (fun _ _ _ h => ty_rng h) ty_some _ (by unfold lft; omega)) fun _ _ _ => ?_
  split
  · intro e; cases e
  · exact thn_some (ty_some _) fun _ _ _ => thn_some (sy_some _ _) fun _ _ _ => by intro e; cases e
theorem dty_some {f : Nat} (hf : l.length < f) {i : Int} (h0 : 0 ≤ i) : dty l f i ≠ .out := by
  unfold dty
  refine thn_some (na_some i) fun n a h1 => ?_
  have := (na_rng h1).1
  split
  · refine thn_some (sy_some _ _) fun _ b h2 => ?_
    have := sy_rng h2
    exact thn_some (upto_some (fun _ _ _ h => mth_rng h) (fun i hi => mth_some hf hi) f b (by omega) (by unfold lft; omega)) fun _ _ _ => by intro e; cases e
  · refine thn_some (wo_some _ _) fun _ b h2 => thn_some (sy_some _ _) fun _ c h3 => ?_
    have := wo_rng h2; have := sy_rng h3
    exact thn_some (upto_some (fun _ _ _ h => fld_rng h) (fun i _ => fld_some i) f c (by omega) (by unfold lft; omega)) fun _ _ _ => by intro e; cases e
theorem rcv_some (i : Int) : rcv l i ≠ .out := by
  unfold rcv
  split
  · exact thn_some (prm_some _) fun _ _ _ => thn_some (sy_some _ _) fun _ _ _ => by intro e; cases e
  · intro e; cases e
theorem bnds_some {f : Nat} (hf : l.length < f) {i : Int} (h0 : 0 ≤ i) : bnds l f i ≠ .out := by
  unfold bnds
  split
  · exact seps_some (fun _ _ _ h => by have := prm_rng h; omega) prm_some _ f _ (by unfold lft; omega)
  · intro e; cases e
theorem res_some (i : Int) : res l i ≠ .out := by
  unfold res
  split
  · intro e; cases e
  · exact thn_some (ty_some _) fun _ _ _ => by intro e; cases e
theorem dfn_some {F f : Nat} (hF : fuel l ≤ F) (hf : l.length < f) {i : Int} (h0 : 0 ≤ i) : dfn l F (fuelB l) f i ≠ .out := by
  unfold dfn
  refine thn_some (rcv_some i) fun _ a h1 => thn_some (na_some _) fun _ b h2 => ?_
  have := rcv_rng h1; have := (na_rng h2).1
  refine thn_some (bnds_some hf (by omega)) fun _ c h3 => thn_some (sy_some _ _) fun _ d h4 => ?_
  have := bnds_rng h3; have := sy_rng h4
  refine thn_some (sepn_some (fun _ _ _ h => by have := prm_rng h; omega) prm_some _ (by unfold lft; omega)) fun _ k h5 => thn_some (res_some _) fun _ q h6 => ?_
  have := sepn_rng (fun _ _ _ h => by have := prm_rng h; omega) h5; have := res_rng h6
  exact thn_some ((stm_some hF _).1 0 q (by omega) (by unfold fuelB left; omega)) fun _ _ _ => by intro e; cases e
theorem dcl_some {F f : Nat} (hF : fuel l ≤ F) (hf : l.length < f) {i : Int} (h0 : 0 ≤ i) : dcl l F (fuelB l) f i ≠ .out := by
  unfold dcl
  split
  · exact dty_some hf (by omega)
  · refine thn_some (wo_some _ _) fun _ a h1 => ?_
    have := wo_rng h1
    exact dfn_some hF hf (by omega)
theorem dcls_some {F f : Nat} (hF : fuel l ≤ F) (hf : l.length < f) : ∀ (k : Nat) (i : Int), 0 ≤ i → lft l i < k → dcls l F (fuelB l) f k i ≠ .out
  | 0, _, _, h => by omega
  | k + 1, i, h0, h => by
    rw [dcls]
    split
    · intro e; cases e
    · refine thn_some (dcl_some hF hf h0) fun x j hx => ?_
      have r := dcl_at hx
      have := r.far; have := r.near
      exact thn_some (dcls_some hF hf k j (by omega) (by unfold lft at *; omega)) fun _ _ _ => by intro e; cases e
theorem imps_some : ∀ (k : Nat) (i : Int), lft l i < k → imps l k i ≠ .out
  | 0, _, h => by omega
  | k + 1, i, h => by
    rw [imps]
    split
    · refine thn_some (na_some _) fun _ a h1 => thn_some (sy_some _ _) fun _ b h2 => ?_
      have := na_rng h1; have := sy_rng h2
      exact thn_some (imps_some k b (by unfold lft at *; omega)) fun _ _ _ => by intro e; cases e
    · intro e; cases e
theorem fil_some {F f : Nat} (hF : fuel l ≤ F) (hf : l.length < f) : fil l F (fuelB l) f ≠ .out := by
  unfold fil
  refine thn_some (wo_some _ _) fun _ a h1 => thn_some (na_some _) fun _ b h2 => thn_some (sy_some _ _) fun _ c h3 => ?_
  have := wo_rng h1; have := (na_rng h2).1; have := sy_rng h3
  refine thn_some (imps_some f c (by unfold lft; omega)) fun _ d h4 => ?_
  have := IsAt.le (imps_at h4)
  exact thn_some (dcls_some hF hf f d (by omega) (by unfold lft; omega)) fun _ _ _ => by intro e; cases e
end
end Go.Proofs.YtlgaphopjdeklaaGreat
namespace Go.Proofs.YtlgaphopjdeklaaGreat
theorem thn_err {α β : Type} {r : EO α} {f : α → Int → EO β} {p c : Int} (h : thn r f = .err p c) : r = .err p c ∨ ∃ x j, r = .ok x j ∧ f x j = .err p c := by
  cases r with
  | ok x j => exact .inr ⟨x, j, rfl, h⟩
  | err p' c' => injection h with h1 h2; subst h1 h2; exact .inl rfl
  | out => cases h
section
variable {l : List TZ} {p c : Int}
theorem sy_bad {z : UInt8} {i : Int} (h : sy l z i = .err p c) : AtTok l p c := by
  unfold sy at h; split at h
  · cases h
  · injection h with h1 h2; subst h1 h2; exact ⟨⟨_, rfl⟩, by decide⟩
theorem wo_bad {w : List UInt8} {i : Int} (h : wo l w i = .err p c) : AtTok l p c := by
  unfold wo at h; split at h
  · cases h
  · injection h with h1 h2; subst h1 h2; exact ⟨⟨_, rfl⟩, by decide⟩
theorem na_bad {i : Int} (h : na l i = .err p c) : AtTok l p c := by
  unfold na at h; split at h
  · cases h
  · injection h with h1 h2; subst h1 h2; exact ⟨⟨_, rfl⟩, by decide⟩
theorem ty_bad {i : Int} (h : ty l i = .err p c) : AtTok l p c := by
  unfold ty at h; split at h
  · cases h
  · next p' c' hq => injection h with h1 h2; subst h1 h2; exact prs_err hq
theorem prm_bad {i : Int} (h : prm l i = .err p c) : AtTok l p c := by
  unfold prm at h
  rcases thn_err h with h | ⟨_, _, _, h⟩
  · exact na_bad h
  rcases thn_err h with h | ⟨_, _, _, h⟩
  · exact ty_bad h
  cases h
theorem seps_bad {α : Type} {one : Int → EO α} (h1 : ∀ i, one i = .err p c → AtTok l p c) {z : UInt8} : ∀ {f : Nat} {i : Int}, seps l one z f i = .err p c → AtTok l p c
  | 0, _, h => by rw [seps] at h; cases h
  | f + 1, i, h => by
    rw [seps] at h
    rcases thn_err h with h | ⟨_, _, _, h⟩
    · exact h1 _ h
    split at h
    · rcases thn_err h with h | ⟨_, _, _, h⟩
      · exact seps_bad h1 h
      cases h
    · rcases thn_err h with h | ⟨_, _, _, h⟩
      · exact sy_bad h
      cases h
theorem sepn_bad {α : Type} {one : Int → EO α} (h1 : ∀ i, one i = .err p c → AtTok l p c) {z : UInt8} {f : Nat} {i : Int} (h : sepn l one z f i = .err p c) : AtTok l p c := by
  unfold sepn at h
  split at h
  · cases h
  · exact seps_bad h1 h
theorem upto_bad {α : Type} {one : Int → EO α} (h1 : ∀ i, one i = .err p c → AtTok l p c) : ∀ {f : Nat} {i : Int}, upto l one f i = .err p c → AtTok l p c
  | 0, _, h => by rw [upto] at h; cases h
  | f + 1, i, h => by
    rw [upto] at h
    split at h
    · cases h
    · rcases thn_err h with h | ⟨_, _, _, h⟩
      · exact h1 _ h
      rcases thn_err h with h | ⟨_, _, _, h⟩
      · exact upto_bad h1 h
      cases h
theorem fld_bad {i : Int} (h : fld l i = .err p c) : AtTok l p c := by
  unfold fld at h
  rcases thn_err h with h | ⟨_, _, _, h⟩
  · exact prm_bad h
  rcases thn_err h with h | ⟨_, _, _, h⟩
  · exact sy_bad h
  cases h
theorem mth_bad {f : Nat} {i : Int} (h : mth l f i = .err p c) : AtTok l p c := by
  unfold mth at h
  rcases thn_err h with h | ⟨_, _, _, h⟩
  · exact na_bad h
  rcases thn_err h with h | ⟨_, _, _, h⟩
  · exact sy_bad h
  rcases thn_err h with h | ⟨_, _, _, h⟩
  · exact sepn_bad (fun _ => ty_bad) h
  split at h
  · cases h
  rcases thn_err h with h | ⟨_, _, _, h⟩
  · exact ty_bad h
  rcases thn_err h with h | ⟨_, _, _, h⟩
  · exact sy_bad h
  cases h
theorem dty_bad {f : Nat} {i : Int} (h : dty l f i = .err p c) : AtTok l p c := by
  unfold dty at h
  rcases thn_err h with h | ⟨_, _, _, h⟩
  · exact na_bad h
  split at h
  · rcases thn_err h with h | ⟨_, _, _, h⟩
    · exact sy_bad h
    rcases thn_err h with h | ⟨_, _, _, h⟩
    · exact upto_bad (fun _ => mth_bad) h
    cases h
  · rcases thn_err h with h | ⟨_, _, _, h⟩
    · exact wo_bad h
    rcases thn_err h with h | ⟨_, _, _, h⟩
    · exact sy_bad h
    rcases thn_err h with h | ⟨_, _, _, h⟩
    · exact upto_bad (fun _ => fld_bad) h
    cases h
theorem dfn_bad {F fb f : Nat} {i : Int} (h : dfn l F fb f i = .err p c) : AtTok l p c := by
  unfold dfn at h
  rcases thn_err h with h | ⟨_, _, _, h⟩
  · unfold rcv at h
    split at h
    · rcases thn_err h with h | ⟨_, _, _, h⟩
      · exact prm_bad h
      rcases thn_err h with h | ⟨_, _, _, h⟩
      · exact sy_bad h
      cases h
    · cases h
  rcases thn_err h with h | ⟨_, _, _, h⟩
  · exact na_bad h
  rcases thn_err h with h | ⟨_, _, _, h⟩
  · unfold bnds at h
    split at h
    · exact seps_bad (fun _ => prm_bad) h
    · cases h
  rcases thn_err h with h | ⟨_, _, _, h⟩
  · exact sy_bad h
  rcases thn_err h with h | ⟨_, _, _, h⟩
  · exact sepn_bad (fun _ => prm_bad) h
  rcases thn_err h with h | ⟨_, _, _, h⟩
  · unfold res at h
    split at h
    · cases h
    · rcases thn_err h with h | ⟨_, _, _, h⟩
      · exact ty_bad h
      cases h
  rcases thn_err h with h | ⟨_, _, _, h⟩
  · exact (stm_err (l := l) (F := F) fb).1 _ _ _ _ h
  cases h
theorem dcl_bad {F fb f : Nat} {i : Int} (h : dcl l F fb f i = .err p c) : AtTok l p c := by
  unfold dcl at h
  split at h
  · exact dty_bad h
  rcases thn_err h with h | ⟨_, _, _, h⟩
  · exact wo_bad h
  exact dfn_bad h
theorem dcls_bad {F fb f : Nat} : ∀ {k : Nat} {i : Int}, dcls l F fb f k i = .err p c → AtTok l p c
  | 0, _, h => by rw [dcls] at h; cases h
  | k + 1, i, h => by
    rw [dcls] at h
    split at h
    · cases h
    · rcases thn_err h with h | ⟨_, _, _, h⟩
      · exact dcl_bad h
      rcases thn_err h with h | ⟨_, _, _, h⟩
      · exact dcls_bad h
      cases h
theorem imps_bad : ∀ {k : Nat} {i : Int}, imps l k i = .err p c → AtTok l p c
  | 0, _, h => by rw [imps] at h; cases h
  | k + 1, i, h => by
    rw [imps] at h
    split at h
    · rcases thn_err h with h | ⟨_, _, _, h⟩
      · exact na_bad h
      rcases thn_err h with h | ⟨_, _, _, h⟩
      · exact sy_bad h
      rcases thn_err h with h | ⟨_, _, _, h⟩
      · exact imps_bad h
      cases h
    · cases h
theorem fil_bad {F fb f : Nat} (h : fil l F fb f = .err p c) : AtTok l p c := by
  unfold fil at h
  rcases thn_err h with h | ⟨_, _, _, h⟩
  · exact wo_bad h
  rcases thn_err h with h | ⟨_, _, _, h⟩
  · exact na_bad h
  rcases thn_err h with h | ⟨_, _, _, h⟩
  · exact sy_bad h
  rcases thn_err h with h | ⟨_, _, _, h⟩
  · exact imps_bad h
  rcases thn_err h with h | ⟨_, _, _, h⟩
  · exact dcls_bad h
  cases h
end
section
variable {l m : List TZ} {e : Int} {F fb f : Nat}
theorem Lo.get {α β : Type} {er : α → β} {r r' : EO α} (h : Lo er l m e r r') {x : α} {j : Int} (hr : r = .ok x j) : ∃ y, r' = .ok y j ∧ er x = er y ∧ j ≤ e := by
  subst hr
  cases r' with
  | ok y j' => obtain ⟨h1, rfl, h3⟩ := h; exact ⟨y, rfl, h1, h3⟩
  | err p q => exact h.elim
  | out => exact h.elim
theorem Lo.bad {α β : Type} {er : α → β} {r r' : EO α} (h : Lo er l m e r r') {p c : Int} (hr : r = .err p c) : ∃ p', r' = .err p' c := by
  subst hr
  cases r' with
  | ok y j' => exact h.elim
  | err p' c' => obtain ⟨rfl, _⟩ := h; exact ⟨p', rfl⟩
  | out => exact h.elim
theorem dcls_wrong (A : Alk id l m e) (hl : (tkAt l e).kind = 0) (hk : ∀ j : Int, 0 ≤ j → j < e → (tkAt l j).kind ≠ 0) {p c : Int} :
    ∀ (k k' : Nat) (i : Int), 0 ≤ i → i ≤ e → k ≤ k' → dcls l F fb f k i = .err p c → ∃ p', dcls m F fb f k' i = .err p' c
  | 0, _, i, _, _, _, h => by rw [dcls] at h; cases h
  | k + 1, k', i, h0, hi, hkk, h => by
    obtain ⟨k', rfl⟩ : ∃ q, k' = q + 1 := ⟨k' - 1, by omega⟩
    by_cases hlt : i < e
    · have hne := hk i h0 hlt
      rw [dcls, if_neg hne] at h
      rw [dcls, A.kind i hlt, if_neg hne]
      have hd := dcl_lay A F fb f hlt
      rcases thn_err h with h | ⟨x, j, hx, h⟩
      · obtain ⟨p', hp⟩ := hd.bad h
        exact ⟨p', by rw [hp]; rfl⟩
      · obtain ⟨y, hy, _, hj⟩ := hd.get hx
        rcases thn_err h with h | ⟨_, _, _, h⟩
        · obtain ⟨p', hp⟩ := dcls_wrong A hl hk k k' j (Int.le_trans h0 (Int.le_of_lt (dcl_rng hx))) hj (by omega) h
          exact ⟨p', by rw [hy]; show thn (dcls m F fb f k' j) _ = _; rw [hp]; rfl⟩
        · cases h
    · obtain rfl : i = e := by omega
      rw [dcls, if_pos hl] at h
      cases h
theorem erN_id (n : ByteArray × Int) : erN id n = n := rfl
/-- More behind a file. -/
theorem fil_more (A : Alk id l m e) (he : 0 ≤ e) (hl : (tkAt l e).kind = 0) (hk : ∀ j : Int, 0 ≤ j → j < e → (tkAt l j).kind ≠ 0) {K : Nat} {zs : List DX} {r : Int} (hz : ∀ k, K ≤ k → dcls m F fb f k e = .ok zs r)
    {X : FX} {q : Int} (h : fil l F fb f = .ok X q) (hK : X.decls.length + K ≤ f) : fil m F fb f = .ok ⟨X.name, X.pos, X.imports, X.decls ++ zs⟩ r := by
  unfold fil at h ⊢
  obtain ⟨_, a, h1, h⟩ := thn_ok h
  obtain ⟨n, b, h2, h⟩ := thn_ok h
  obtain ⟨_, c, h3, h⟩ := thn_ok h
  obtain ⟨is, d, h4, h⟩ := thn_ok h
  obtain ⟨ds, q', h5, h⟩ := thn_ok h
  injection h with hx hj
  subst hx hj
  obtain ⟨u1, g1, _, j1⟩ := (wo_lay A he (by decide) (by decide)).get h1
  obtain ⟨u2, g2, e2, j2⟩ := (na_lay A j1).get h2
  obtain ⟨u3, g3, _, j3⟩ := (sy_lay A j2 59).get h3
  obtain ⟨u4, g4, e4, j4⟩ := (imps_lay A f c j3).get h4
  have r1 := wo_rng h1; have r2 := (na_rng h2).1; have r3 := sy_rng h3; have r4 := IsAt.le (imps_at h4)
  have e2' : n = u2 := by
    injection e2 with e1 e2
    cases n; cases u2
    simp only [id] at e1 e2
    rw [e1, e2]
  rw [show erN id = id from funext erN_id, List.map_id, List.map_id] at e4
  subst e2' e4
  rw [g1]
  show thn (na m a) _ = _
  rw [g2]
  show thn (sy m 59 b) _ = _
  rw [g3]
  show thn (imps m f c) _ = _
  rw [g4]
  show thn (dcls m F fb f f d) _ = _
  rw [dcls_more A hl hk hz f d ds _ (by omega) j4 h5 hK]
  rfl
/-- .. behind what is wrong. -/
theorem fil_wrong (A : Alk id l m e) (he : 0 ≤ e) (hl : (tkAt l e).kind = 0) (hk : ∀ j : Int, 0 ≤ j → j < e → (tkAt l j).kind ≠ 0) {p c : Int} (h : fil l F fb f = .err p c) : ∃ p', fil m F fb f = .err p' c := by
  unfold fil at h ⊢
  rcases thn_err h with h1 | ⟨_, a, h1, h⟩
  · obtain ⟨p', hp⟩ := (wo_lay A he (by decide) (by decide)).bad h1
    exact ⟨p', by rw [hp]; rfl⟩
  obtain ⟨u1, g1, _, j1⟩ := (wo_lay A he (by decide) (by decide)).get h1
  rw [g1]
  show ∃ p', thn (na m a) _ = _
  rcases thn_err h with h2 | ⟨n, b, h2, h⟩
  · obtain ⟨p', hp⟩ := (na_lay A j1).bad h2
    exact ⟨p', by rw [hp]; rfl⟩
  obtain ⟨u2, g2, _, j2⟩ := (na_lay A j1).get h2
  rw [g2]
  show ∃ p', thn (sy m 59 b) _ = _
  rcases thn_err h with h3 | ⟨_, c', h3, h⟩
  · obtain ⟨p', hp⟩ := (sy_lay A j2 59).bad h3
    exact ⟨p', by rw [hp]; rfl⟩
  obtain ⟨u3, g3, _, j3⟩ := (sy_lay A j2 59).get h3
  rw [g3]
  show ∃ p', thn (imps m f c') _ = _
  rcases thn_err h with h4 | ⟨is, d, h4, h⟩
  · obtain ⟨p', hp⟩ := (imps_lay A f c' j3).bad h4
    exact ⟨p', by rw [hp]; rfl⟩
  obtain ⟨u4, g4, _, j4⟩ := (imps_lay A f c' j3).get h4
  rw [g4]
  show ∃ p', thn (dcls m F fb f f d) _ = _
  have r1 := wo_rng h1; have r2 := (na_rng h2).1; have r3 := sy_rng h3; have r4 := IsAt.le (imps_at h4)
  rcases thn_err h with h5 | ⟨ds, q', h5, h⟩
  · obtain ⟨p', hp⟩ := dcls_wrong A hl hk f f d (by omega) j4 (Nat.le_refl _) h5
    exact ⟨p', by rw [hp]; rfl⟩
  · cases h
end
end Go.Proofs.YtlgaphopjdeklaaGreat
namespace Go.Proofs.YtlgaphopjdeklaaGreat
def lyB : List UInt8 := [32, 47, 47, 32, 99, 10]
theorem lyB_skip (m : List UInt8) : skp false (lyB ++ m) = lyB.length + skp false m := by
  show skp false (32 :: 47 :: 47 :: ([32, 99, 10] ++ m)) = 6 + skp false m
  rw [skp_layout _ _ (by decide), skp_comment]
  simp [skp]
  omega
theorem lyB_sep : ∃ x q, lyB = x :: q ∧ sep x := ⟨32, _, rfl, by decide, by decide, by decide, by decide⟩
/-- Tokens with layout ahead of each. -/
def wideL (ts : List Tok) : List UInt8 := ts.flatMap fun t => lyB ++ t.text
/-- Where they stand then. -/
def placed : Nat → List Tok → List Tok
  | _, [] => []
  | a, t :: r => ⟨t.kind, a + 6, a + 6 + t.text.length, t.text⟩ :: placed (a + 6 + t.text.length) r
theorem placed_length : ∀ (a : Nat) (ts : List Tok), (placed a ts).length = ts.length
  | _, [] => rfl
  | a, t :: r => by unfold placed; rw [List.length_cons, List.length_cons, placed_length]
theorem placed_at : ∀ (ts : List Tok) (a i : Nat) {t : Tok}, ts[i]? = some t → (placed a ts)[i]? = some ⟨t.kind, a + (wideL (ts.take i)).length + 6, a + (wideL (ts.take i)).length + 6 + t.text.length, t.text⟩
  | [], _, _, _, h => by simp at h
  | x :: r, a, 0, t, h => by
    simp at h; subst h
    rfl
  | x :: r, a, i + 1, t, h => by
    have hr := placed_at r (a + 6 + x.text.length) i (t := t) (by simpa using h)
    have e : (wideL ((x :: r).take (i + 1))).length = 6 + x.text.length + (wideL (r.take i)).length := by
      unfold wideL
      rw [List.take_succ_cons, List.flatMap_cons, List.length_append, List.length_append]
      rfl
    unfold placed
    rw [List.getElem?_cons_succ, hr, e]
    congr 2 <;> omega
theorem placed_key : ∀ (a : Nat) (ts : List Tok), (placed a ts).map (fun t => (t.kind, t.text)) = ts.map (fun t => (t.kind, t.text))
  | _, [] => rfl
  | a, t :: r => by unfold placed; rw [List.map_cons, List.map_cons, placed_key]
theorem wide_pcs (ts : List Tok) (hf : ∀ t ∈ ts, fine t) (a : Nat) : pcsAt a (wideL ts ++ lyB) = placed a ts := by
  obtain ⟨x, q, hbx, hsx⟩ := lyB_sep
  induction ts generalizing a with
  | nil =>
    have h2 := lyB_skip []
    rw [List.append_nil] at h2
    show pcsAt a lyB = []
    rw [pcsAt_end a _ (by rw [h2]; simp [skp])]
  | cons t r ih =>
    obtain ⟨c, u, htx, hc1, hc2, hk, hs⟩ := hf t List.mem_cons_self
    have hJ : wideL (t :: r) ++ lyB = lyB ++ (t.text ++ (wideL r ++ lyB)) := by simp [wideL]
    obtain ⟨y, hy⟩ : ∃ y, wideL r ++ lyB = x :: y := by
      cases r with
      | nil => exact ⟨q, by simp [wideL, hbx]⟩
      | cons t' r' => exact ⟨_, by simp only [wideL, List.flatMap_cons, hbx, List.append_assoc]; rfl⟩
    have hskip : skp false (lyB ++ (t.text ++ (wideL r ++ lyB))) = lyB.length := by
      rw [lyB_skip, htx, List.cons_append, skp_stop c _ hc1 (fun h => hc2 h.1), Nat.add_zero]
    have hdrop : (lyB ++ (t.text ++ (wideL r ++ lyB))).drop lyB.length = t.text ++ (wideL r ++ lyB) := List.drop_left
    have hne : t.text ≠ [] := by rw [htx]; simp
    have hk2 : kln (t.text ++ (wideL r ++ lyB)) = (t.kind, t.text.length) := by rw [hy, kln_app _ _ _ hsx hne hs, hk]
    rw [hJ, pcsAt_cons a _ (by rw [hskip, hdrop, htx]; simp), hskip, hdrop, hk2]
    simp only [List.take_left, List.drop_left]
    rw [ih (fun t' ht' => hf t' (List.mem_cons_of_mem _ ht'))]
    rfl
/-- The text of the law: all tokens, the end, too. -/
theorem wideL_toks (s : List UInt8) : wideL (toks s) = wideL (pcsAt 0 s) ++ lyB := by
  unfold toks wideL
  rw [List.flatMap_append]
  simp [endTok]
theorem toks_wide {s : List UInt8} (h : bad (toks s) 0 = none) : toks (wideL (toks s)) = placed 0 (pcsAt 0 s) ++ [endTok (wideL (toks s))] := by
  have h' := h
  rw [bad_toks] at h'
  show pcsAt 0 (wideL (toks s)) ++ _ = _
  rw [wideL_toks, wide_pcs _ (good_fine 0 s 0 h') 0]
theorem wide_good {s : List UInt8} (h : bad (toks s) 0 = none) : bad (toks (wideL (toks s))) 0 = none := by
  rw [toks_wide h]
  refine bad_key (toks s) _ 0 ?_ h
  unfold toks
  rw [List.map_append, List.map_append, placed_key]
  rfl
section
variable {s : List UInt8}
theorem tk_wide (h : bad (toks s) 0 = none) {j : Nat} (hj : j < (pcsAt 0 s).length) : tkAt ((toks (wideL (toks s))).map zTok) (j : Nat) = zTok ⟨(pcsAt 0 s)[j].kind, (wideL ((pcsAt 0 s).take j)).length + 6, (wideL ((pcsAt 0 s).take j)).length + 6 + (pcsAt 0 s)[j].text.length, (pcsAt 0 s)[j].text⟩ := by
  have e := placed_at (pcsAt 0 s) 0 j (List.getElem?_eq_getElem hj)
  rw [Nat.zero_add] at e
  exact tk_map (by rw [toks_wide h, List.getElem?_append_left (by rw [placed_length]; exact hj)]; exact e)
theorem tk_text {j : Nat} (hj : j < (pcsAt 0 s).length) : tkAt ((toks s).map zTok) (j : Nat) = zTok (pcsAt 0 s)[j] :=
  tk_map (by unfold toks; rw [List.getElem?_append_left hj]; exact List.getElem?_eq_getElem hj)
theorem tk_end : tkAt ((toks s).map zTok) ((pcsAt 0 s).length : Nat) = zTok (endTok s) :=
  tk_map (by unfold toks; rw [List.getElem?_append_right (Nat.le_refl _), Nat.sub_self]; rfl)
theorem tk_wide_end (h : bad (toks s) 0 = none) : tkAt ((toks (wideL (toks s))).map zTok) ((pcsAt 0 s).length : Nat) = zTok (endTok (wideL (toks s))) :=
  tk_map (by rw [toks_wide h, List.getElem?_append_right (by rw [placed_length]; exact Nat.le_refl _), placed_length, Nat.sub_self]; rfl)
theorem tk_neg {l : List TZ} {j : Int} (hj : j < 0) : tkAt l j = tz0 (endOf l) := tkAt_out (.inl hj)
/-- The same file, but for places. -/
theorem wide_alk (h : bad (toks s) 0 = none) : Alk (fun _ => 0) ((toks s).map zTok) ((toks (wideL (toks s))).map zTok) ((pcsAt 0 s).length : Nat) := by
  have cases_ : ∀ j : Int, j < ((pcsAt 0 s).length : Nat) → (tkAt ((toks (wideL (toks s))).map zTok) j).kind = (tkAt ((toks s).map zTok) j).kind ∧ (tkAt ((toks (wideL (toks s))).map zTok) j).text = (tkAt ((toks s).map zTok) j).text := by
    intro j hj
    by_cases h0 : j < 0
    · rw [tk_neg h0, tk_neg h0]; exact ⟨rfl, rfl⟩
    · obtain ⟨n, rfl⟩ : ∃ n : Nat, j = n := ⟨j.toNat, by omega⟩
      rw [tk_wide h (by omega), tk_text (by omega)]
      exact ⟨rfl, rfl⟩
  refine ⟨fun j hj => (cases_ j hj).1, fun j hj => (cases_ j hj).2, fun _ _ _ => rfl, fun _ _ _ => rfl, .inl ?_, .inl ?_⟩
  · rw [tk_end]; rfl
  · rw [tk_wide_end h]; rfl
theorem wide_lay (h : bad (toks s) 0 = none) (F fb f : Nat) : Lq (erF fun _ => 0) ((toks s).map zTok) ((toks (wideL (toks s))).map zTok) ((pcsAt 0 s).length : Nat) (fil ((toks s).map zTok) F fb f) (fil ((toks (wideL (toks s))).map zTok) F fb f) :=
  fil_lay (wide_alk h) (by omega) (by rw [tk_end]; rfl) (by rw [tk_wide_end h]; rfl) F fb f
/-- Where it is wrong. -/
theorem wide_pos (h : bad (toks s) 0 = none) {q : Int} (hq : q ≤ ((pcsAt 0 s).length : Nat)) {i : Nat} (hi : i < (pcsAt 0 s).length) (he : (tkAt ((toks s).map zTok) (i : Nat)).pos = (tkAt ((toks s).map zTok) q).pos) :
    (tkAt ((toks (wideL (toks s))).map zTok) q).pos = (((wideL ((pcsAt 0 s).take i)).length + 6 : Nat) : Int) := by
  have G := toks_good s
  have hw := G.wide i hi
  have hqi : q = i := by
    by_cases h0 : q < 0
    · have hl := G.mono ((pcsAt 0 s).length - i) i (by omega)
      rw [show i + ((pcsAt 0 s).length - i) = (pcsAt 0 s).length by omega] at hl
      have e1 : (tkAt ((toks s).map zTok) q).pos = (tkAt ((toks s).map zTok) ((pcsAt 0 s).length : Nat)).stop := by
        rw [tk_neg h0]
        show endOf _ = _
        have hlen : ((toks s).map zTok).length = (pcsAt 0 s).length + 1 := G.len
        have hsome : ((toks s).map zTok)[(pcsAt 0 s).length]? = some (zTok (endTok s)) := by
          rw [List.getElem?_map]; unfold toks; rw [List.getElem?_append_right (Nat.le_refl _), Nat.sub_self]; rfl
        rw [endOf_last hsome hlen, tk_end]
      have := hl.2.1
      omega
    · obtain ⟨n, rfl⟩ : ∃ n : Nat, q = n := ⟨q.toNat, by omega⟩
      have m1 := G.pos (i := i) (j := n) (by omega)
      have m2 := G.pos (i := n) (j := i) (by omega)
      rcases Nat.lt_trichotomy n i with hlt | heq | hgt
      · have := (m2 (by omega) (by omega)).2.2 (by omega)
        have hw2 := G.wide n (by omega)
        omega
      · rw [heq]
      · have := (m1 (by omega) (by omega)).2.2 (by omega)
        omega
  rw [hqi, tk_wide h hi]
  rfl
end
end Go.Proofs.YtlgaphopjdeklaaGreat
namespace Go.Proofs.YtlgaphopjdeklaaGreat
/-- A token's text stands in the text at its place. -/
def stands (s : List UInt8) (a : Nat) (t : Tok) : Prop := a ≤ t.pos ∧ t.stop = t.pos + t.text.length ∧ t.stop ≤ a + s.length ∧ (s.drop (t.pos - a)).take t.text.length = t.text
theorem pcs_stand (a : Nat) (s : List UInt8) : ∀ t ∈ pcsAt a s, stands s a t := by
  refine pcsAt_ind (P := fun a s => ∀ t ∈ pcsAt a s, stands s a t) (fun a l h t ht => ?_) (fun a l h ih t ht => ?_) a s
  · rw [pcsAt_end a l h] at ht; cases ht
  · rw [pcsAt_cons a l h] at ht
    have hk := kln_pos' h
    have hsk := skp_le false l
    have hdl : (l.drop (skp false l)).length = l.length - skp false l := List.length_drop
    rcases List.mem_cons.1 ht with rfl | ht
    · refine ⟨by simp only; omega, ?_, ?_, ?_⟩
      · simp only [List.length_take]; omega
      · simp only; omega
      · simp only [List.length_take]
        rw [show a + skp false l - a = skp false l by omega, Nat.min_eq_left hk.2]
    · obtain ⟨h1, h2, h3, h4⟩ := ih t ht
      simp only [List.length_drop] at h3
      refine ⟨by omega, h2, by omega, ?_⟩
      rw [List.drop_drop, List.drop_drop] at h4
      have e : skp false l + ((kln (l.drop (skp false l))).2 + (t.pos - (a + skp false l + (kln (l.drop (skp false l))).2))) = t.pos - a := by omega
      first
      | (rw [e] at h4; exact h4)
      | (rw [show skp false l + (kln (l.drop (skp false l))).2 + (t.pos - (a + skp false l + (kln (l.drop (skp false l))).2)) = t.pos - a by omega] at h4; exact h4)
/-- A name at a place of a text. -/
def namedL (s : List UInt8) (p : Int) (n : ByteArray) : Prop := n.data.toList ≠ [] ∧ 0 ≤ p ∧ p + (n.data.toList.length : Nat) ≤ (s.length : Nat) ∧ (s.drop p.toNat).take n.data.toList.length = n.data.toList
section
variable {s : List UInt8}
theorem tk_tok {q : Int} (hk : (tkAt ((toks s).map zTok) q).kind ≠ 0) : ∃ (n : Nat) (t : Tok), q = n ∧ n < (pcsAt 0 s).length ∧ (pcsAt 0 s)[n]? = some t ∧ tkAt ((toks s).map zTok) q = zTok t := by
  obtain ⟨h0, h1⟩ := (toks_good s).real hk
  obtain ⟨n, rfl⟩ : ∃ n : Nat, q = n := ⟨q.toNat, by omega⟩
  have hn : n < (pcsAt 0 s).length := by omega
  exact ⟨n, _, rfl, hn, List.getElem?_eq_getElem hn, tk_map (by unfold toks; rw [List.getElem?_append_left hn]; exact List.getElem?_eq_getElem hn)⟩
/-- A token that is none at the end stands in the text. -/
theorem tk_named {q : Int} (hk : (tkAt ((toks s).map zTok) q).kind ≠ 0) : namedL s (tkAt ((toks s).map zTok) q).pos (tkAt ((toks s).map zTok) q).text ∧ (tkAt ((toks s).map zTok) q).stop = (tkAt ((toks s).map zTok) q).pos + ((tkAt ((toks s).map zTok) q).text.data.toList.length : Nat) := by
  obtain ⟨n, t, rfl, hn, ht, e⟩ := tk_tok hk
  have hm : t ∈ pcsAt 0 s := List.mem_of_getElem? ht
  obtain ⟨h1, h2, h3, h4⟩ := pcs_stand 0 s t hm
  have hok := toks_ok s t (by unfold toks; exact List.mem_append_left _ hm)
  have hkt : t.kind ≠ 0 := by rw [e] at hk; exact hk
  rw [e]
  refine ⟨⟨?_, ?_, ?_, ?_⟩, ?_⟩
  · exact hok.2.2.2.2.2 hkt
  · show (0 : Int) ≤ (t.pos : Nat); omega
  · show ((t.pos : Nat) : Int) + (t.text.length : Nat) ≤ _; omega
  · show (s.drop ((t.pos : Nat) : Int).toNat).take t.text.length = t.text
    rw [Int.toNat_natCast]
    rw [Nat.sub_zero] at h4
    exact h4
  · show ((t.stop : Nat) : Int) = (t.pos : Nat) + (t.text.length : Nat); omega
/-- What is wrong at a token lies in the text. -/
theorem tk_in (q : Int) : 0 ≤ (tkAt ((toks s).map zTok) q).pos ∧ (tkAt ((toks s).map zTok) q).pos ≤ (s.length : Nat) := by
  by_cases hi : 0 ≤ q ∧ q < ((toks s).map zTok).length
  · obtain ⟨n, rfl⟩ : ∃ n : Nat, q = n := ⟨q.toNat, by omega⟩
    have hn : n < (toks s).length := by have := hi.2; rw [List.length_map] at this; omega
    rw [tk_map (List.getElem?_eq_getElem hn)]
    have := (toks_ok s _ (List.getElem_mem hn)).1
    show (0 : Int) ≤ (((toks s)[n].pos : Nat) : Int) ∧ (((toks s)[n].pos : Nat) : Int) ≤ _
    omega
  · rw [tkAt_out (by omega)]
    show 0 ≤ endOf _ ∧ endOf _ ≤ _
    have hlen : ((toks s).map zTok).length = (pcsAt 0 s).length + 1 := (toks_good s).len
    have hsome : ((toks s).map zTok)[(pcsAt 0 s).length]? = some (zTok (endTok s)) := by
      rw [List.getElem?_map]; unfold toks; rw [List.getElem?_append_right (Nat.le_refl _), Nat.sub_self]; rfl
    rw [endOf_last hsome hlen]
    show (0 : Int) ≤ ((s.length : Nat) : Int) ∧ ((s.length : Nat) : Int) ≤ _
    omega
/-- A declaration's last bracket is the text's byte ahead of its end. -/
theorem dat_byte {i : Int} {x : DX} {j : Int} (h : DAt ((toks s).map zTok) i x j) : 0 < x.stop ∧ x.stop ≤ (s.length : Nat) ∧ s[(x.stop - 1).toNat]? = some 125 := by
  have hl := h.last
  have hk : (tkAt ((toks s).map zTok) (j - 1)).kind = 4 := isS_kind hl
  obtain ⟨⟨n1, n2, n3, n4⟩, n5⟩ := tk_named (s := s) (q := j - 1) (by rw [hk]; decide)
  have ht : (tkAt ((toks s).map zTok) (j - 1)).text.data.toList = [125] := by
    unfold isS at hl
    simp only [Bool.and_eq_true, decide_eq_true_eq] at hl
    exact hl.2
  rw [ht] at n3 n4 n5
  rw [h.stop, n5]
  simp only [List.length_singleton] at *
  refine ⟨by omega, by omega, ?_⟩
  have e : ((s.drop (tkAt ((toks s).map zTok) (j - 1)).pos.toNat).take 1)[0]? = some 125 := by rw [n4]; rfl
  rw [List.getElem?_take, if_pos (by decide), List.getElem?_drop] at e
  rw [← e]
  congr 1
  omega
end
end Go.Proofs.YtlgaphopjdeklaaGreat
namespace Go.Proofs.YtlgaphopjdeklaaGreat
/-- Imports behind a place, and where they end; declarations behind a place. -/
def lieI (s : List UInt8) : Int → List (ByteArray × Int) → Prop
  | _, [] => True
  | a, n :: r => namedL s n.2 n.1 ∧ a < n.2 ∧ lieI s n.2 r
def endI : Int → List (ByteArray × Int) → Int
  | a, [] => a
  | _, n :: r => endI n.2 r
def lieD (s : List UInt8) : Int → List DX → Prop
  | _, [] => True
  | a, x :: r => namedL s x.pos x.name ∧ a < x.pos ∧ x.pos < x.stop ∧ x.stop ≤ (s.length : Nat) ∧ s[(x.stop - 1).toNat]? = some 125 ∧ (∀ y ∈ x.fields, namedL s y.pos y.name ∧ a < y.pos ∧ y.pos < x.stop) ∧ lieD s x.stop r
section
variable {s : List UInt8}
/-- Later tokens are behind. -/
theorem tk_lt {p q : Int} (hp : 0 ≤ p) (hpq : p < q) (hq : (tkAt ((toks s).map zTok) q).kind ≠ 0) : (tkAt ((toks s).map zTok) p).stop ≤ (tkAt ((toks s).map zTok) q).pos ∧ (tkAt ((toks s).map zTok) p).pos < (tkAt ((toks s).map zTok) p).stop := by
  have G := toks_good s
  obtain ⟨h0, h1⟩ := G.real hq
  refine ⟨(G.pos hp (by omega) (by omega)).2.2 hpq, ?_⟩
  obtain ⟨n, rfl⟩ : ∃ n : Nat, p = n := ⟨p.toNat, by omega⟩
  exact G.wide n (by omega)
theorem imps_lie : ∀ {xs : List (ByteArray × Int)} {i j : Int}, 1 ≤ i → IsAt ((toks s).map zTok) i xs j → ∀ q : Int, 0 ≤ q → q < i → lieI s (tkAt ((toks s).map zTok) q).pos xs ∧ ∃ q', 0 ≤ q' ∧ q' < j ∧ endI (tkAt ((toks s).map zTok) q).pos xs = (tkAt ((toks s).map zTok) q').pos
  | [], i, j, _, h, q, h0, hq => by
    have e : i = j := h
    exact ⟨trivial, q, h0, by omega, rfl⟩
  | n :: r, i, j, hi, h, q, h0, hq => by
    obtain ⟨h1, h2, h3, h4, h5⟩ := h
    have hk : (tkAt ((toks s).map zTok) (i + 1)).kind ≠ 0 := by rw [h3]; decide
    have hl := tk_lt (s := s) h0 (q := i + 1) (by omega) hk
    obtain ⟨r1, q', r2, r3, r4⟩ := imps_lie (by omega) h5 (i + 1) (by omega) (by omega)
    subst h4
    exact ⟨⟨(tk_named hk).1, by show _ < (tkAt ((toks s).map zTok) (i + 1)).pos; omega, r1⟩, q', r2, r3, r4⟩
theorem dcls_lie : ∀ {xs : List DX} {i : Int}, DsAt ((toks s).map zTok) i xs → ∀ (a q : Int), 0 ≤ q → q < i → (a = (tkAt ((toks s).map zTok) q).pos ∨ a = (tkAt ((toks s).map zTok) q).stop) → lieD s a xs
  | [], _, _, _, _, _, _, _ => trivial
  | x :: r, i, ⟨j, hd, hr⟩, a, q, h0, hq, ha => by
    obtain ⟨b1, b2, b3⟩ := dat_byte hd
    obtain ⟨c, c1, c2, c3, c4, c5, c6⟩ := hd.name
    have G := toks_good s
    have hkc : (tkAt ((toks s).map zTok) c).kind ≠ 0 := by rw [c3]; decide
    have hrc := G.real hkc
    have hki : (tkAt ((toks s).map zTok) i).kind ≠ 0 := by
      obtain ⟨n, rfl⟩ : ∃ n : Nat, i = n := ⟨i.toNat, by omega⟩
      exact G.kind n (by omega)
    have hl := tk_lt (s := s) h0 (q := i) hq hki
    have hi := tk_lt (s := s) (p := i) (q := c) (by omega) (by omega) hkc
    have hkl : (tkAt ((toks s).map zTok) (j - 1)).kind ≠ 0 := by rw [isS_kind hd.last]; decide
    have hc := tk_lt (s := s) (p := c) (q := j - 1) (by omega) (by omega) hkl
    have hw : (tkAt ((toks s).map zTok) (j - 1)).pos < (tkAt ((toks s).map zTok) (j - 1)).stop := by
      obtain ⟨g0, g1⟩ := G.real hkl
      obtain ⟨n, hn⟩ : ∃ n : Nat, j - 1 = n := ⟨(j - 1).toNat, by omega⟩
      rw [hn]
      exact G.wide n (by omega)
    have hs := hd.stop
    have ha2 : a < (tkAt ((toks s).map zTok) c).pos := by
      rcases ha with h | h <;> rw [h] <;> omega
    refine ⟨by rw [c4, c5]; exact (tk_named hkc).1, by rw [c5]; exact ha2, by rw [c5, hs]; omega, b2, b3, fun y hy => ?_, ?_⟩
    · obtain ⟨e, e1, e2, e3, e4, e5⟩ := c6 y hy
      have hke : (tkAt ((toks s).map zTok) e).kind ≠ 0 := by rw [e3]; decide
      have h1 := tk_lt (s := s) (p := c) (q := e) (by omega) (by omega) hke
      have h2 := tk_lt (s := s) (p := e) (q := j - 1) (by omega) (by omega) hkl
      exact ⟨by rw [e4, e5]; exact (tk_named hke).1, by rw [e5]; omega, by rw [e5, hs]; omega⟩
    · exact dcls_lie hr x.stop (j - 1) (by have := hd.far; omega) (by omega) (.inr hs)
/-- A file's names stand in the text. -/
theorem fil_lies {F fb f : Nat} {X : FX} {q : Int} (h : fil ((toks s).map zTok) F fb f = .ok X q) : namedL s X.pos X.name ∧ lieI s X.pos X.imports ∧ lieD s (endI X.pos X.imports) X.decls := by
  obtain ⟨⟨n1, n2, n3, n4⟩, i, hi, hd⟩ := fil_at h
  have hk : (tkAt ((toks s).map zTok) 1).kind ≠ 0 := by rw [n2]; decide
  obtain ⟨r1, q', r2, r3, r4⟩ := imps_lie (s := s) (by omega) hi 1 (by omega) (by omega)
  rw [n3, n4]
  exact ⟨(tk_named hk).1, r1, dcls_lie hd _ q' r2 r3 (.inl r4)⟩
end
end Go.Proofs.YtlgaphopjdeklaaGreat
namespace Go.Proofs.YtlgaphopjdeklaaGreat
def byS (n : ByteArray) : List UInt8 := n.data.toList
def flatD (x : DX) : List UInt8 := 59 :: (byS x.name ++ byS x.recv.name) ++ (x.fields.flatMap fun y => 44 :: byS y.name) ++ (x.methods.flatMap fun y => 44 :: byS y.name) ++ (x.body.flatMap fun y => 46 :: byS y.name)
def flatF (X : FX) : List UInt8 := byS X.name ++ (X.imports.flatMap fun n => 32 :: byS n.1) ++ X.decls.flatMap flatD
theorem erS_name (g : Int → Int) (x : SX) : (erS g x).name = x.name := by cases x; unfold erS; rfl
theorem erSL_names (g : Int → Int) : ∀ l : List SX, ((erSL g l).flatMap fun y => (46 :: byS y.name : List UInt8)) = l.flatMap fun y => 46 :: byS y.name
  | [] => by unfold erSL; rfl
  | x :: r => by unfold erSL; rw [List.flatMap_cons, List.flatMap_cons, erSL_names g r, erS_name]
theorem flatD_er (g : Int → Int) (x : DX) : flatD (erD g x) = flatD x := by
  unfold flatD erD
  simp only [erSL_names, List.flatMap_map]
  rfl
theorem flatF_er (g : Int → Int) (X : FX) : flatF (erF g X) = flatF X := by
  unfold flatF erF
  simp only [List.flatMap_map, flatD_er]
  rfl
/-- The same but for places: the same text. -/
theorem flat_same {g : Int → Int} {X Y : FX} (h : erF g X = erF g Y) : flatF X = flatF Y := by rw [← flatF_er g X, h, flatF_er]
/-- At most N parts of a kind, names of at most L bytes. -/
structure SlimD (N L : Nat) (x : DX) : Prop where
  name : x.name.size ≤ L
  recv : x.recv.name.size ≤ L
  fields : x.fields.length ≤ N ∧ ∀ y ∈ x.fields, y.name.size ≤ L
  methods : x.methods.length ≤ N ∧ ∀ y ∈ x.methods, y.name.size ≤ L
  body : x.body.length ≤ N ∧ ∀ y ∈ x.body, y.name.size ≤ L
structure SlimF (N L : Nat) (X : FX) : Prop where
  name : X.name.size ≤ L
  imports : X.imports.length ≤ N ∧ ∀ n ∈ X.imports, n.1.size ≤ L
  decls : X.decls.length ≤ N ∧ ∀ x ∈ X.decls, SlimD N L x
section
variable {l : List TZ} {L : Nat}
/-- Lists: no more than tokens are passed. -/
theorem seps_len {α : Type} {one : Int → EO α} (h1 : ∀ i x j, one i = .ok x j → i < j ∧ j ≤ l.length) {z : UInt8} : ∀ {f : Nat} {i : Int} {xs : List α} {j : Int}, seps l one z f i = .ok xs j → (xs.length : Int) ≤ j - i
  | 0, _, _, _, h => by rw [seps] at h; cases h
  | f + 1, i, xs, j, h => by
    rw [seps] at h
    obtain ⟨x, a, ha, h⟩ := thn_ok h
    have r1 := h1 _ _ _ ha
    split at h
    · obtain ⟨ys, b, hb, h⟩ := thn_ok h
      injection h with hx hj
      subst hx hj
      have := seps_len h1 hb
      rw [List.length_cons]; omega
    · obtain ⟨_, b, hb, h⟩ := thn_ok h
      injection h with hx hj
      subst hx hj
      have := sy_rng hb
      rw [List.length_singleton]; omega
theorem upto_len {α : Type} {one : Int → EO α} (h1 : ∀ i x j, one i = .ok x j → i < j ∧ j ≤ l.length) : ∀ {f : Nat} {i : Int} {xs : List α} {j : Int}, upto l one f i = .ok xs j → (xs.length : Int) ≤ j - i
  | 0, _, _, _, h => by rw [upto] at h; cases h
  | f + 1, i, xs, j, h => by
    rw [upto] at h
    split at h
    · injection h with hx hj
      subst hx hj
      rw [List.length_nil]; omega
    · obtain ⟨x, a, ha, h⟩ := thn_ok h
      obtain ⟨ys, b, hb, h⟩ := thn_ok h
      injection h with hx hj
      subst hx hj
      have r1 := h1 _ _ _ ha
      have := upto_len h1 hb
      rw [List.length_cons]; omega
theorem rows_names (hL : ∀ i, (tkAt l i).text.size ≤ L) {F : Nat} : ∀ {f d : Nat} {i : Int} {xs : List SX} {j : Int}, rows l F f d i = .ok xs j → (xs.length : Int) ≤ j - i ∧ ∀ y ∈ xs, y.name.size ≤ L
  | 0, _, _, _, _, h => by rw [rows] at h; cases h
  | f + 1, d, i, xs, j, h => by
    rw [rows_thn] at h
    split at h
    · injection h with hx hj
      subst hx hj
      exact ⟨by rw [List.length_nil]; omega, fun y hy => by cases hy⟩
    · obtain ⟨s, a, ha, h⟩ := thn_ok h
      obtain ⟨r, b, hb, h⟩ := thn_ok h
      injection h with hx hj
      subst hx hj
      have hr := (stm_rng (l := l) (F := F) f).2.2 _ _ _ _ ha
      obtain ⟨r1, r2⟩ := rows_names hL hb
      refine ⟨by rw [List.length_cons]; omega, fun y hy => ?_⟩
      rcases List.mem_cons.1 hy with rfl | hy
      · have h0 : (⟨#[]⟩ : ByteArray).size ≤ L := Nat.zero_le _
        cases f with
        | zero => rw [stm] at ha; cases ha
        | succ f =>
          rw [stm_thn] at ha
          have ext : ∀ {i : Int} {g : EX → SX} {s : SX} {j : Int}, (∀ x, (g x).name.size ≤ L) → exThen l F 59 i g = .ok s j → s.name.size ≤ L := fun hg h => by
            rw [exThen_thn] at h
            obtain ⟨x, _, _, h⟩ := thn_ok h
            obtain ⟨_, _, _, h⟩ := thn_ok h
            injection h with h _
            subst h
            exact hg x
          split at ha
          · obtain ⟨n, _, hn, ha⟩ := thn_ok ha
            obtain ⟨_, _, _, ha⟩ := thn_ok ha
            refine ext (fun x => ?_) ha
            show n.1.size ≤ L
            rw [(na_rng hn).2.2.2.2]
            exact hL _
          split at ha
          · split at ha
            · injection ha with ha _; subst ha; exact h0
            · refine ext ?_ ha; intro _; exact h0
          split at ha
          · obtain ⟨x, _, _, ha⟩ := thn_ok ha
            obtain ⟨b, _, _, ha⟩ := thn_ok ha
            split at ha
            · obtain ⟨c, _, _, ha⟩ := thn_ok ha
              injection ha with ha _; subst ha; exact h0
            · injection ha with ha _; subst ha; exact h0
          split at ha
          · obtain ⟨x, _, _, ha⟩ := thn_ok ha
            obtain ⟨b, _, _, ha⟩ := thn_ok ha
            injection ha with ha _; subst ha; exact h0
          split at ha
          · refine ext ?_ ha; intro _; exact hL _
          · refine ext ?_ ha; intro _; exact h0
      · exact r2 y hy
theorem blk_names (hL : ∀ i, (tkAt l i).text.size ≤ L) {F f d : Nat} {i : Int} {xs : List SX} {j : Int} (h : blk l F f d i = .ok xs j) : (xs.length : Int) ≤ j - i ∧ ∀ y ∈ xs, y.name.size ≤ L := by
  cases f with
  | zero => rw [blk] at h; cases h
  | succ f =>
    rw [blk_thn] at h
    split at h
    · split at h
      · cases h
      · have := rows_names hL h
        exact ⟨by omega, this.2⟩
    · cases h
theorem fields_slim (hL : ∀ i, (tkAt l i).text.size ≤ L) {i : Int} {x : DX} {j : Int} (h : DAt l i x j) : x.name.size ≤ L ∧ ∀ y ∈ x.fields, y.name.size ≤ L := by
  obtain ⟨a, _, _, _, a4, _, a6⟩ := h.name
  refine ⟨by rw [a4]; exact hL _, fun y hy => ?_⟩
  obtain ⟨q, _, _, _, q4, _⟩ := a6 y hy
  rw [q4]; exact hL _
theorem dty_slim (hL : ∀ i, (tkAt l i).text.size ≤ L) {f : Nat} {i : Int} {x : DX} {j : Int} (h : dty l f i = .ok x j) : SlimD l.length L x := by
  have hf := fields_slim hL (dty_at h)
  have hw := h
  unfold dty at h
  obtain ⟨n, a, h1, h⟩ := thn_ok h
  have hn := na_rng h1
  split at h
  · obtain ⟨_, b, h2, h⟩ := thn_ok h
    obtain ⟨ms, c, h3, h⟩ := thn_ok h
    injection h with hx hj
    subst hx
    have s2 := sy_rng h2
    have hu := upto_rng (fun _ _ _ h => mth_rng h) h3
    have hlen := upto_len (fun _ _ _ h => mth_rng h) h3
    refine ⟨hf.1, Nat.zero_le _, ⟨Nat.zero_le _, hf.2⟩, ⟨by show ms.length ≤ _; omega, fun y hy => ?_⟩, ⟨Nat.zero_le _, fun y hy => by cases hy⟩⟩
    obtain ⟨q, _, _, q3⟩ := upto_at (P := fun (y : MX) q => y.name.size ≤ L) (fun _ _ _ h => mth_rng h) (fun i x j h => by
      unfold mth at h
      obtain ⟨n, a, h1, h⟩ := thn_ok h
      obtain ⟨_, b, h2, h⟩ := thn_ok h
      obtain ⟨ts, c, h3, h⟩ := thn_ok h
      have hn := (na_rng h1).2.2.2.2
      split at h
      · injection h with hx _; subst hx; show n.1.size ≤ L; rw [hn]; exact hL _
      · obtain ⟨t, d, h4, h⟩ := thn_ok h
        obtain ⟨_, e, h5, h⟩ := thn_ok h
        injection h with hx _; subst hx; show n.1.size ≤ L; rw [hn]; exact hL _) h3 y hy
    exact q3
  · obtain ⟨_, b, h2, h⟩ := thn_ok h
    obtain ⟨_, c, h3, h⟩ := thn_ok h
    obtain ⟨fs, d, h4, h⟩ := thn_ok h
    injection h with hx hj
    subst hx
    have := wo_rng h2; have := sy_rng h3
    have hu := upto_rng (fun _ _ _ h => fld_rng h) h4
    have hlen := upto_len (fun _ _ _ h => fld_rng h) h4
    exact ⟨hf.1, Nat.zero_le _, ⟨by show fs.length ≤ _; omega, hf.2⟩, ⟨Nat.zero_le _, fun y hy => by cases hy⟩, ⟨Nat.zero_le _, fun y hy => by cases hy⟩⟩
theorem dfn_slim (hL : ∀ i, (tkAt l i).text.size ≤ L) {F fb f : Nat} {i : Int} {x : DX} {j : Int} (h : dfn l F fb f i = .ok x j) : SlimD l.length L x := by
  have hf := fields_slim hL (dfn_at h)
  unfold dfn at h
  obtain ⟨r, a, h1, h⟩ := thn_ok h
  obtain ⟨n, b, h2, h⟩ := thn_ok h
  obtain ⟨bs, c, h3, h⟩ := thn_ok h
  obtain ⟨_, d, h4, h⟩ := thn_ok h
  obtain ⟨ps, e, h5, h⟩ := thn_ok h
  obtain ⟨t, k, h6, h⟩ := thn_ok h
  obtain ⟨bd, q, h7, h⟩ := thn_ok h
  injection h with hx hj
  subst hx
  have r2 := na_rng h2; have r3 := bnds_rng h3; have r4 := sy_rng h4
  have r5 := sepn_rng (fun _ _ _ h => by have := prm_rng h; omega) h5; have r6 := res_rng h6; have r7 := (stm_rng (l := l) (F := F) fb).1 _ _ _ _ h7
  have hb := blk_names hL h7
  have hps : (ps.length : Int) ≤ e - d := by
    unfold sepn at h5
    split at h5
    · injection h5 with hx hj; subst hx hj; rw [List.length_nil]; omega
    · exact seps_len (fun _ _ _ h => by have := prm_rng h; omega) h5
  refine ⟨hf.1, ?_, ⟨by show ps.length ≤ _; omega, hf.2⟩, ⟨Nat.zero_le _, fun y hy => by cases hy⟩, ⟨by show bd.length ≤ _; omega, hb.2⟩⟩
  show r.2.name.size ≤ L
  unfold rcv at h1
  split at h1
  · obtain ⟨y, a, h8, h1⟩ := thn_ok h1
    obtain ⟨_, b, h9, h1⟩ := thn_ok h1
    injection h1 with hx _
    subst hx
    show y.name.size ≤ L
    rw [(prm_rng h8).2.2.2.1]
    exact hL _
  · injection h1 with hx _
    subst hx
    exact Nat.zero_le _
theorem dcls_slim (hL : ∀ i, (tkAt l i).text.size ≤ L) {F fb f : Nat} : ∀ {k : Nat} {i : Int} {xs : List DX} {j : Int}, dcls l F fb f k i = .ok xs j → ∀ x ∈ xs, SlimD l.length L x
  | 0, _, _, _, h => by rw [dcls] at h; cases h
  | k + 1, i, xs, j, h => by
    rw [dcls] at h
    split at h
    · injection h with hx _
      subst hx
      intro x hx; cases hx
    · obtain ⟨y, a, h1, h⟩ := thn_ok h
      obtain ⟨ys, b, h2, h⟩ := thn_ok h
      injection h with hx _
      subst hx
      intro x hx
      rcases List.mem_cons.1 hx with rfl | hx
      · unfold dcl at h1
        split at h1
        · exact dty_slim hL h1
        · obtain ⟨_, c, _, h1⟩ := thn_ok h1
          exact dfn_slim hL h1
      · exact dcls_slim hL h2 x hx
theorem imps_slim (hL : ∀ i, (tkAt l i).text.size ≤ L) : ∀ {xs : List (ByteArray × Int)} {i j : Int}, IsAt l i xs j → (xs.length : Int) ≤ j - i ∧ ∀ n ∈ xs, n.1.size ≤ L
  | [], i, j, h => by
    have e : i = j := h
    exact ⟨by rw [List.length_nil]; omega, fun n hn => by cases hn⟩
  | n :: r, i, j, h => by
    obtain ⟨_, _, _, h4, h5⟩ := h
    obtain ⟨r1, r2⟩ := imps_slim hL h5
    refine ⟨by rw [List.length_cons]; omega, fun m hm => ?_⟩
    rcases List.mem_cons.1 hm with rfl | hm
    · rw [h4]; exact hL _
    · exact r2 m hm
end
end Go.Proofs.YtlgaphopjdeklaaGreat
