/-
  Plain: expressions as trees; what the chapter says that tokens tell; parts lie within. No condition.
-/
import Derived.Test.YtoppknnjnfgbiaaParse
namespace Go.Proofs.Ytoppknnjnfgbiaa

/-- An expression as a plain tree. -/
inductive EX where
  | mk (kind pos stop num : Int) (name : ByteArray) (typ : TX) (args : List EX)

def EX.kind : EX → Int
  | .mk k _ _ _ _ _ _ => k
def EX.pos : EX → Int
  | .mk _ p _ _ _ _ _ => p
def EX.stop : EX → Int
  | .mk _ _ s _ _ _ _ => s
def EX.args : EX → List EX
  | .mk _ _ _ _ _ _ a => a

def noTX : TX := .leaf 0 0 ⟨#[]⟩ ⟨#[]⟩

inductive EO (α : Type) where
  | ok (x : α) (next : Int)
  | err (pos code : Int)
  | out

/-- The level of a token's operator; 0: it is none. -/
def lvlOf (t : TZ) : Nat :=
  if t.kind ≠ 4 then 0 else
  if t.text.data.toList = [38, 38] then 1 else
  if t.text.data.toList = [61, 61] ∨ t.text.data.toList = [60] then 2 else
  if t.text.data.toList = [43] ∨ t.text.data.toList = [45] then 3 else
  if t.text.data.toList = [42] then 4 else 0

def isD (c : UInt8) : Bool := decide (48 ≤ c.toNat) && decide (c.toNat ≤ 57)
def numOf (l : List UInt8) : Option Int := if 1 ≤ l.length ∧ l.length ≤ 15 ∧ l.all isD then some (l.foldl (fun n c => 10 * n + ((c.toNat : Int) - 48)) 0) else none
def quoted (l : List UInt8) : Bool := decide (2 ≤ l.length) && decide (l.head? = some 34) && decide (l.getLast? = some 34)
def unquote (l : List UInt8) : List UInt8 := (l.drop 1).take (l.length - 2)

def mkNot (p e : Int) (x : EX) : EX := .mk 10 p e 0 ⟨#[]⟩ noTX [x]
def mkBin (p e : Int) (op : ByteArray) (x y : EX) : EX := .mk 9 p e 0 op noTX [x, y]
def mkSel (p : Int) (x : EX) (n : ByteArray) (e : Int) : EX := .mk 5 p e 0 n noTX [x]
def mkCall (p : Int) (x : EX) (ys : List EX) (e : Int) : EX := .mk 6 p e 0 ⟨#[]⟩ noTX (x :: ys)
def mkIdx (p : Int) (x y : EX) (e : Int) : EX := .mk 7 p e 0 ⟨#[]⟩ noTX [x, y]

/-- A token of a kind and a text of one byte. -/
def isS (t : TZ) (c : UInt8) : Bool := decide (t.kind = 4) && decide (t.text.data.toList = [c])
def isW (t : TZ) (s : List UInt8) : Bool := decide (t.kind = 5) && decide (t.text.data.toList = s)

mutual
/-- An expression of a level (5: the last one), within so many; the first number is how many steps there may be. -/
def ex (l : List TZ) : Nat → Nat → Nat → Int → EO EX
  | 0, _, _, _ => .out
  | f + 1, k, d, i => if k = 5 then una l f d i else
    match ex l f (k + 1) d i with
    | .ok x j => binT l f k d i x j
    | .err p c => .err p c
    | .out => .out
def binT (l : List TZ) : Nat → Nat → Nat → Int → EX → Int → EO EX
  | 0, _, _, _, _, _ => .out
  | f + 1, k, d, a, x, i => if lvlOf (tkAt l i) = k then
      match ex l f (k + 1) d (i + 1) with
      | .ok y j => binT l f k d a (mkBin (tkAt l a).pos (tkAt l (j - 1)).stop (tkAt l i).text x y) j
      | .err p c => .err p c
      | .out => .out
    else .ok x i
def una (l : List TZ) : Nat → Nat → Int → EO EX
  | 0, _, _ => .out
  | f + 1, d, i => if isS (tkAt l i) 33 then
      if 30 ≤ d then .err (tkAt l i).pos 6 else
      match una l f (d + 1) (i + 1) with
      | .ok x j => .ok (mkNot (tkAt l i).pos (tkAt l (j - 1)).stop x) j
      | .err p c => .err p c
      | .out => .out
    else
      match prim l f d i with
      | .ok x j => post l f d i x j
      | .err p c => .err p c
      | .out => .out
def prim (l : List TZ) : Nat → Nat → Int → EO EX
  | 0, _, _ => .out
  | f + 1, d, i =>
    if (tkAt l i).kind = 2 then
      match numOf (tkAt l i).text.data.toList with
      | some n => .ok (.mk 1 (tkAt l i).pos (tkAt l i).stop n ⟨#[]⟩ noTX []) (i + 1)
      | none => .err (tkAt l i).pos 2
    else if (tkAt l i).kind = 3 then
      if quoted (tkAt l i).text.data.toList then .ok (.mk 2 (tkAt l i).pos (tkAt l i).stop 0 ⟨(unquote (tkAt l i).text.data.toList).toArray⟩ noTX []) (i + 1) else .err (tkAt l i).pos 3
    else if isW (tkAt l i) [116, 114, 117, 101] then .ok (.mk 3 (tkAt l i).pos (tkAt l i).stop 1 ⟨#[]⟩ noTX []) (i + 1)
    else if isW (tkAt l i) [102, 97, 108, 115, 101] then .ok (.mk 3 (tkAt l i).pos (tkAt l i).stop 0 ⟨#[]⟩ noTX []) (i + 1)
    else if (tkAt l i).kind = 1 then .ok (.mk 4 (tkAt l i).pos (tkAt l i).stop 0 (tkAt l i).text noTX []) (i + 1)
    else if isS (tkAt l i) 40 then
      if 30 ≤ d then .err (tkAt l i).pos 6 else
      match ex l f 1 (d + 1) (i + 1) with
      | .ok y j => if isS (tkAt l j) 41 then .ok y (j + 1) else .err (tkAt l j).pos 5
      | .err p c => .err p c
      | .out => .out
    else if isW (tkAt l i) [110, 101, 119] then
      match prs l 30 (i + 1) with
      | .ok t j => if isS (tkAt l j) 123 then
          match lst l f 125 d j with
          | .ok ys q => .ok (.mk 8 (tkAt l i).pos (tkAt l (q - 1)).stop 0 ⟨#[]⟩ t ys) q
          | .err p c => .err p c
          | .out => .out
        else .err (tkAt l j).pos 5
      | .err p c => .err p c
    else .err (tkAt l i).pos 5
def post (l : List TZ) : Nat → Nat → Int → EX → Int → EO EX
  | 0, _, _, _, _ => .out
  | f + 1, d, a, x, i =>
    if isS (tkAt l i) 46 then
      if (tkAt l (i + 1)).kind = 1 then post l f d a (mkSel (tkAt l a).pos x (tkAt l (i + 1)).text (tkAt l (i + 1)).stop) (i + 2) else .err (tkAt l (i + 1)).pos 5
    else if isS (tkAt l i) 40 then
      match lst l f 41 d i with
      | .ok ys q => post l f d a (mkCall (tkAt l a).pos x ys (tkAt l (q - 1)).stop) q
      | .err p c => .err p c
      | .out => .out
    else if isS (tkAt l i) 91 then
      if 30 ≤ d then .err (tkAt l i).pos 6 else
      match ex l f 1 (d + 1) (i + 1) with
      | .ok y j => if isS (tkAt l j) 93 then post l f d a (mkIdx (tkAt l a).pos x y (tkAt l j).stop) (j + 1) else .err (tkAt l j).pos 5
      | .err p c => .err p c
      | .out => .out
    else .ok x i
def lst (l : List TZ) : Nat → UInt8 → Nat → Int → EO (List EX)
  | 0, _, _, _ => .out
  | f + 1, z, d, i => if 30 ≤ d then .err (tkAt l i).pos 6 else
    if isS (tkAt l (i + 1)) z then .ok [] (i + 2) else items l f z d (i + 1)
def items (l : List TZ) : Nat → UInt8 → Nat → Int → EO (List EX)
  | 0, _, _, _ => .out
  | f + 1, z, d, i =>
    match ex l f 1 (d + 1) i with
    | .ok y j => if isS (tkAt l j) 44 then
        match items l f z d (j + 1) with
        | .ok ys q => .ok (y :: ys) q
        | .err p c => .err p c
        | .out => .out
      else if isS (tkAt l j) z then .ok [y] (j + 1) else .err (tkAt l j).pos 5
    | .err p c => .err p c
    | .out => .out
end

/-- The tokens of a text: an end behind them; each ends ahead of the next one. -/
structure Good (l : List TZ) (e : Nat) : Prop where
  len : l.length = e + 1
  kind : ∀ j : Nat, j < e → (tkAt l j).kind ≠ 0
  last : (tkAt l e).kind = 0
  wide : ∀ j : Nat, j < e → (tkAt l j).pos < (tkAt l j).stop
  flat : (tkAt l e).pos ≤ (tkAt l e).stop
  next : ∀ j : Nat, j < e → (tkAt l j).stop ≤ (tkAt l (j + 1 : Nat)).pos

theorem Good.real {l : List TZ} {e : Nat} (h : Good l e) {i : Int} (hk : (tkAt l i).kind ≠ 0) : 0 ≤ i ∧ i < e := by
  have hr := tkAt_real hk
  have hl := h.len
  refine ⟨hr.1, ?_⟩
  refine Classical.byContradiction fun hc => hk ?_
  rw [show i = (e : Nat) by omega]; exact h.last

theorem Good.mono {l : List TZ} {e : Nat} (h : Good l e) : ∀ (n i : Nat), i + n ≤ e → (tkAt l i).pos ≤ (tkAt l (i + n : Nat)).pos ∧ (tkAt l i).stop ≤ (tkAt l (i + n : Nat)).stop ∧ (0 < n → (tkAt l i).stop ≤ (tkAt l (i + n : Nat)).pos)
  | 0, i, _ => ⟨Int.le_refl _, Int.le_refl _, fun h => by omega⟩
  | n + 1, i, hi => by
    have h0 := Good.mono h n i (by omega)
    have h1 := h.next (i + n) (by omega)
    have h2 := h.wide (i + n) (by omega)
    have h3 : (tkAt l (i + n + 1 : Nat)).pos ≤ (tkAt l (i + n + 1 : Nat)).stop := by
      by_cases hc : i + n + 1 = e
      · rw [hc]; exact h.flat
      · exact Int.le_of_lt (h.wide (i + n + 1) (by omega))
    refine ⟨by rw [show i + (n + 1) = i + n + 1 by omega]; omega, by rw [show i + (n + 1) = i + n + 1 by omega]; omega, fun _ => by rw [show i + (n + 1) = i + n + 1 by omega]; omega⟩
theorem Good.pos {l : List TZ} {e : Nat} (h : Good l e) {i j : Int} (h0 : 0 ≤ i) (hij : i ≤ j) (hj : j ≤ e) : (tkAt l i).pos ≤ (tkAt l j).pos ∧ (tkAt l i).stop ≤ (tkAt l j).stop ∧ (i < j → (tkAt l i).stop ≤ (tkAt l j).pos) := by
  have := h.mono (j - i).toNat i.toNat (by omega)
  rw [show ((i.toNat + (j - i).toNat : Nat) : Int) = j by omega, show ((i.toNat : Nat) : Int) = i by omega] at this
  exact ⟨this.1, this.2.1, fun hl => this.2.2 (by omega)⟩

mutual
/-- Parts lie within, one behind the other. -/
def lies : EX → Prop
  | .mk _ p s _ _ _ args => p < s ∧ chain p s args
def chain (a b : Int) : List EX → Prop
  | [] => a ≤ b
  | y :: r => a ≤ y.pos ∧ lies y ∧ chain y.stop b r
end

theorem lies_wide {x : EX} (h : lies x) : x.pos < x.stop := by
  cases x
  unfold lies at h
  exact h.1
theorem chain_le {a b : Int} : ∀ {ys : List EX}, chain a b ys → a ≤ b
  | [], h => by unfold chain at h; exact h
  | y :: r, h => by
    unfold chain at h
    have := lies_wide h.2.1
    have := chain_le h.2.2
    omega
theorem chain_mono {a a' b b' : Int} (ha : a' ≤ a) (hb : b ≤ b') : ∀ {ys : List EX}, chain a b ys → chain a' b' ys
  | [], h => by unfold chain at h ⊢; omega
  | y :: r, h => by
    unfold chain at h ⊢
    exact ⟨by omega, h.2.1, chain_mono (Int.le_refl _) hb h.2.2⟩

/-- What was read from i on, up to j. -/
def Span (l : List TZ) (e : Nat) (x : EX) (i j : Int) : Prop := 0 ≤ i ∧ i < j ∧ j ≤ e ∧ (tkAt l i).pos ≤ x.pos ∧ x.stop ≤ (tkAt l (j - 1)).stop ∧ lies x

theorem isS_kind {t : TZ} {c : UInt8} (h : isS t c = true) : t.kind = 4 := by
  unfold isS at h
  simp only [Bool.and_eq_true, decide_eq_true_eq] at h
  exact h.1
theorem isW_kind {t : TZ} {c : List UInt8} (h : isW t c = true) : t.kind = 5 := by
  unfold isW at h
  simp only [Bool.and_eq_true, decide_eq_true_eq] at h
  exact h.1
theorem lvl_kind {t : TZ} (h : lvlOf t ≠ 0) : t.kind = 4 := by
  unfold lvlOf at h
  split at h
  · exact (h rfl).elim
  · next hk => exact Classical.byContradiction fun hc => hk hc

theorem elm_rng {l : List TZ} {i : Int} {x : TX} {m : Int} (h : elm l i = .ok x m) : 0 ≤ i ∧ i < m ∧ m ≤ l.length := by
  unfold elm at h
  split at h
  · next h1 =>
    have := tkAt_real (l := l) (i := i) (by rw [h1]; decide)
    split at h
    · split at h
      · next h3 =>
        have := tkAt_real (l := l) (i := i + 2) (by rw [h3]; decide)
        injection h with _ h; omega
      · cases h
    · injection h with _ h; omega
  · split at h
    · next h5 =>
      have := tkAt_real (l := l) (i := i) (by rw [h5.1]; decide)
      injection h with _ h; omega
    · cases h
theorem prs_rng {l : List TZ} : ∀ {k : Nat} {i : Int} {x : TX} {m : Int}, prs l k i = .ok x m → 0 ≤ i ∧ i < m ∧ m ≤ l.length
  | 0, i, x, m, h => by
    unfold prs at h
    split at h
    · cases h
    · exact elm_rng h
  | k + 1, i, x, m, h => by
    unfold prs at h
    split at h
    · next h1 =>
      have := isKT_real (by decide) h1
      split at h
      · cases hp : prs l k (i + 2) with
        | ok y n =>
          rw [hp] at h
          have := prs_rng hp
          injection h with _ h
          omega
        | err q d => rw [hp] at h; cases h
      · cases h
    · exact elm_rng h

section
variable {l : List TZ} {e : Nat}

theorem Good.sym (G : Good l e) {i : Int} {c : UInt8} (h : isS (tkAt l i) c = true) : 0 ≤ i ∧ i < e := G.real (by rw [isS_kind h]; decide)
theorem Good.word (G : Good l e) {i : Int} {c : List UInt8} (h : isW (tkAt l i) c = true) : 0 ≤ i ∧ i < e := G.real (by rw [isW_kind h]; decide)

theorem Good.one (G : Good l e) {i : Int} (h : 0 ≤ i ∧ i < e) (k n : Int) (m : ByteArray) (t : TX) : Span l e (.mk k (tkAt l i).pos (tkAt l i).stop n m t []) i (i + 1) := by
  have hw := G.wide i.toNat (by omega)
  rw [show ((i.toNat : Nat) : Int) = i by omega] at hw
  refine ⟨h.1, by omega, by omega, Int.le_refl _, by rw [show i + 1 - 1 = i by omega]; exact Int.le_refl _, ?_⟩
  unfold lies chain
  exact ⟨hw, Int.le_of_lt hw⟩

/-- What lies from a on up to i, and more behind it. -/
theorem Good.more (G : Good l e) {x : EX} {a i j : Int} (h : Span l e x a i) (hij : i < j) (hj : j ≤ e) {b : Int} (hb : b ≤ (tkAt l (j - 1)).stop) (k n : Int) (m : ByteArray) (t : TX) (ys : List EX) (hys : chain (tkAt l (i - 1)).stop b ys) :
    Span l e (.mk k (tkAt l a).pos b n m t (x :: ys)) a j := by
  have _ := G
  obtain ⟨h0, h1, h2, h3, h4, h5⟩ := h
  have hw := lies_wide h5
  have hc := chain_le hys
  refine ⟨h0, by omega, hj, Int.le_refl _, hb, ?_⟩
  unfold lies
  refine ⟨by omega, ?_⟩
  unfold chain
  exact ⟨h3, h5, chain_mono h4 (Int.le_refl _) hys⟩

/-- One part that was read behind a token. -/
theorem Good.part (G : Good l e) {y : EX} {i a j : Int} (h : Span l e y a j) (hi : 0 ≤ i) (hia : i < a) {b : Int} (hb : y.stop ≤ b) : chain (tkAt l i).stop b [y] := by
  obtain ⟨h0, h1, h2, h3, h4, h5⟩ := h
  have hp := (G.pos (i := i) (j := a) hi (by omega) (by omega)).2.2 hia
  unfold chain
  refine ⟨by omega, h5, ?_⟩
  unfold chain
  exact hb

theorem read_lies (G : Good l e) : ∀ f : Nat,
    (∀ k d i x j, k ≠ 0 → ex l f k d i = .ok x j → Span l e x i j) ∧
    (∀ k d x i z j a, k ≠ 0 → binT l f k d a x i = .ok z j → Span l e x a i → Span l e z a j) ∧
    (∀ d i x j, una l f d i = .ok x j → Span l e x i j) ∧
    (∀ d i x j, prim l f d i = .ok x j → Span l e x i j) ∧
    (∀ d x i z j a, post l f d a x i = .ok z j → Span l e x a i → Span l e z a j) ∧
    (∀ z d i ys j, lst l f z d i = .ok ys j → 0 ≤ i → i < j ∧ j ≤ e ∧ chain (tkAt l i).stop (tkAt l (j - 1)).stop ys) ∧
    (∀ z d i ys j, items l f z d i = .ok ys j → 0 ≤ i ∧ i < j ∧ j ≤ e ∧ chain (tkAt l i).pos (tkAt l (j - 1)).stop ys) := by
  intro f
  induction f with
  | zero =>
    refine ⟨?_, ?_, ?_, ?_, ?_, ?_, ?_⟩ <;> intros <;> simp [ex, binT, una, prim, post, lst, items] at *
  | succ f ih =>
    obtain ⟨iE, iB, iU, iP, iT, iL, iI⟩ := ih
    refine ⟨?_, ?_, ?_, ?_, ?_, ?_, ?_⟩
    · intro k d i x j hk h
      unfold ex at h
      split at h
      · exact iU _ _ _ _ h
      · split at h
        · next y q hq => exact iB _ _ _ _ _ _ _ hk h (iE _ _ _ _ _ (by omega) hq)
        · cases h
        · cases h
    · intro k d x i z j a hk h hs
      unfold binT at h
      split at h
      · next hl =>
        have hr := G.real (i := i) (by rw [lvl_kind (by rw [hl]; exact hk)]; decide)
        split at h
        · next y q hq =>
          have hy := iE _ _ _ _ _ (by omega) hq
          have ha := hs.1
          have hai := hs.2.1
          have hb := G.part (i := i - 1) hy (by omega) (by omega) hy.2.2.2.2.1
          exact iB _ _ _ _ _ _ _ hk h (G.more hs (by have := hy.2.1; omega) hy.2.2.1 (Int.le_refl _) 9 0 _ noTX _ hb)
        · cases h
        · cases h
      · injection h with h h'; subst h; subst h'; exact hs
    · intro d i x j h
      unfold una at h
      split at h
      · next hn =>
        have hr := G.sym hn
        split at h
        · cases h
        · split at h
          · next y q hq =>
            injection h with h h'; subst h; subst h'
            have hy := iU _ _ _ _ hq
            have hw := G.wide i.toNat (by omega)
            rw [show ((i.toNat : Nat) : Int) = i by omega] at hw
            have hc := G.part (i := i) hy hr.1 (by omega) hy.2.2.2.2.1
            have hle := chain_le hc
            refine ⟨hr.1, by have := hy.2.1; omega, hy.2.2.1, Int.le_refl _, Int.le_refl _, ?_⟩
            unfold mkNot lies
            exact ⟨by omega, chain_mono (Int.le_of_lt hw) (Int.le_refl _) hc⟩
          · cases h
          · cases h
      · split at h
        · next y q hq => exact iT _ _ _ _ _ _ h (iP _ _ _ _ hq)
        · cases h
        · cases h
    · intro d i x j h
      unfold prim at h
      split at h
      · next hk =>
        have hr := G.real (i := i) (by rw [hk]; decide)
        split at h
        · injection h with h h'; subst h; subst h'; exact G.one hr _ _ _ _
        · cases h
      split at h
      · next hk =>
        have hr := G.real (i := i) (by rw [hk]; decide)
        split at h
        · injection h with h h'; subst h; subst h'; exact G.one hr _ _ _ _
        · cases h
      split at h
      · next hk => injection h with h h'; subst h; subst h'; exact G.one (G.word hk) _ _ _ _
      split at h
      · next hk => injection h with h h'; subst h; subst h'; exact G.one (G.word hk) _ _ _ _
      split at h
      · next hk => injection h with h h'; subst h; subst h'; exact G.one (G.real (by rw [hk]; decide)) _ _ _ _
      split at h
      · next hk =>
        have hr := G.sym hk
        split at h
        · cases h
        · split at h
          · next y q hq =>
            split at h
            · next hc =>
              have hcr := G.sym hc
              injection h with h h'; subst h; subst h'
              obtain ⟨y0, y1, y2, y3, y4, y5⟩ := iE _ _ _ _ _ (by omega) hq
              have p1 := (G.pos (i := i) (j := i + 1) hr.1 (by omega) (by omega)).1
              have p2 := (G.pos (i := q - 1) (j := q) (by omega) (by omega) (by omega)).2.1
              exact ⟨hr.1, by omega, by omega, by omega, by rw [show q + 1 - 1 = q by omega]; omega, y5⟩
            · cases h
          · cases h
          · cases h
      split at h
      · next hk =>
        have hr := G.word hk
        split at h
        · next t q hq =>
          have hp := prs_rng hq
          split at h
          · next hc =>
            have hcr := G.sym hc
            split at h
            · next ys r hys =>
              injection h with h h'; subst h; subst h'
              obtain ⟨l0, l1, l2⟩ := iL _ _ _ _ _ hys (by omega)
              have hw := G.wide i.toNat (by omega)
              rw [show ((i.toNat : Nat) : Int) = i by omega] at hw
              have p1 := (G.pos (i := i) (j := r - 1) hr.1 (by omega) (by omega)).2.1
              have p2 := (G.pos (i := i) (j := q) hr.1 (by omega) (by omega)).2.1
              refine ⟨hr.1, by omega, l1, Int.le_refl _, Int.le_refl _, ?_⟩
              unfold lies
              exact ⟨by omega, chain_mono (by omega) (Int.le_refl _) l2⟩
            · cases h
            · cases h
          · cases h
        · cases h
      · cases h
    · intro d x i z j a h hs
      have ha := hs.1
      have hai := hs.2.1
      unfold post at h
      split at h
      · next hn =>
        have hr := G.sym hn
        split at h
        · next hk =>
          have hr2 := G.real (i := i + 1) (by rw [hk]; decide)
          refine iT _ _ _ _ _ _ h (G.more hs (by omega) (by omega) (by rw [show i + 2 - 1 = i + 1 by omega]; exact Int.le_refl _) 5 0 _ noTX [] ?_)
          unfold chain
          exact (G.pos (i := i - 1) (j := i + 1) (by omega) (by omega) (by omega)).2.1
        · cases h
      split at h
      · next hn =>
        have hr := G.sym hn
        split at h
        · next ys q hys =>
          obtain ⟨l0, l1, l2⟩ := iL _ _ _ _ _ hys hr.1
          refine iT _ _ _ _ _ _ h (G.more hs l0 l1 (Int.le_refl _) 6 0 _ noTX ys ?_)
          exact chain_mono (G.pos (i := i - 1) (j := i) (by omega) (by omega) (by omega)).2.1 (Int.le_refl _) l2
        · cases h
        · cases h
      split at h
      · next hn =>
        have hr := G.sym hn
        split at h
        · cases h
        · split at h
          · next y q hq =>
            split at h
            · next hc =>
              have hcr := G.sym hc
              have hy := iE _ _ _ _ _ (by omega) hq
              have hq1 := hy.2.1
              have p2 := (G.pos (i := q - 1) (j := q) (by omega) (by omega) (by omega)).2.1
              have hb := G.part (i := i - 1) hy (by omega) (by omega) (b := (tkAt l q).stop) (by have := hy.2.2.2.2.1; omega)
              exact iT _ _ _ _ _ _ h (G.more hs (by omega) (by omega) (by rw [show q + 1 - 1 = q by omega]; exact Int.le_refl _) 7 0 _ noTX _ hb)
            · cases h
          · cases h
          · cases h
      · injection h with h h'; subst h; subst h'; exact hs
    · intro z d i ys j h h0
      unfold lst at h
      split at h
      · cases h
      split at h
      · next hn =>
        have hr := G.sym hn
        injection h with h h'; subst h; subst h'
        refine ⟨by omega, by omega, ?_⟩
        unfold chain
        rw [show i + 2 - 1 = i + 1 by omega]
        exact (G.pos (i := i) (j := i + 1) (by omega) (by omega) (by omega)).2.1
      · obtain ⟨i0, i1, i2, i3⟩ := iI _ _ _ _ _ h
        have p := (G.pos (i := i) (j := i + 1) (by omega) (by omega) (by omega)).2.2 (by omega)
        exact ⟨by omega, i2, chain_mono p (Int.le_refl _) i3⟩
    · intro z d i ys j h
      unfold items at h
      split at h
      · next y q hq =>
        have hy := iE _ _ _ _ _ (by omega) hq
        obtain ⟨y0, y1, y2, y3, y4, y5⟩ := hy
        split at h
        · next hc =>
          have hcr := G.sym hc
          split at h
          · next zs r hr =>
            injection h with h h'; subst h; subst h'
            obtain ⟨i0, i1, i2, i3⟩ := iI _ _ _ _ _ hr
            have p := (G.pos (i := q - 1) (j := q + 1) (by omega) (by omega) (by omega)).2.2 (by omega)
            refine ⟨y0, by omega, i2, ?_⟩
            unfold chain
            exact ⟨y3, y5, chain_mono (by omega) (Int.le_refl _) i3⟩
          · cases h
          · cases h
        · split at h
          · next hc =>
            have hcr := G.sym hc
            injection h with h h'; subst h; subst h'
            have p := (G.pos (i := q - 1) (j := q) (by omega) (by omega) (by omega)).2.1
            refine ⟨y0, by omega, by omega, ?_⟩
            unfold chain
            refine ⟨y3, y5, ?_⟩
            unfold chain
            rw [show q + 1 - 1 = q by omega]
            omega
          · cases h
      · cases h
      · cases h
end

end Go.Proofs.Ytoppknnjnfgbiaa
