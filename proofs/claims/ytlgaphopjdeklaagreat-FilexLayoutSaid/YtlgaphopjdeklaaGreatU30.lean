/-
  Plain: the chapter's reading once more, cut as the program cuts it. No condition.
-/
import Derived.Test.YtlgaphopjdeklaaGreatU12
namespace Go.Proofs.YtlgaphopjdeklaaGreat
theorem thn_assoc {α β γ : Type} (r : EO α) (f : α → Int → EO β) (g : β → Int → EO γ) : thn (thn r f) g = thn r fun x j => thn (f x j) g := by
  cases r <;> rfl
theorem thn_congr {α β : Type} (r : EO α) {f g : α → Int → EO β} (h : ∀ x j, r = .ok x j → f x j = g x j) : thn r f = thn r g := by
  cases r with
  | ok x j => exact h x j rfl
  | err p q => rfl
  | out => rfl
section
variable {α : Type} {l : List TZ} {one : Int → EO α}
/-- One or more, with commas between. -/
def sepw (l : List TZ) (one : Int → EO α) : Nat → Int → EO (List α)
  | 0, _ => .out
  | g + 1, i => thn (one i) fun x j => if isS (tkAt l j) 44 then thn (sepw l one g (j + 1)) fun xs q => .ok (x :: xs) q else .ok [x] j
/-- Behind one of them. -/
def aftw (l : List TZ) (one : Int → EO α) (g : Nat) (j : Int) : EO (List α) := if isS (tkAt l j) 44 then sepw l one g (j + 1) else .ok [] j
theorem sepw_eq {g : Nat} {i : Int} : sepw l one (g + 1) i = thn (one i) fun x j => thn (aftw l one g j) fun xs q => .ok (x :: xs) q := by
  rw [sepw]
  refine thn_congr _ fun x j _ => ?_
  unfold aftw
  split <;> rfl
theorem seps_eq (z : UInt8) : ∀ (f : Nat) (i : Int), seps l one z f i = thn (sepw l one f i) fun xs j => thn (sy l z j) fun _ q => .ok xs q
  | 0, _ => rfl
  | f + 1, i => by
    rw [seps, sepw, thn_assoc]
    refine thn_congr _ fun x j _ => ?_
    split
    · rw [thn_assoc, seps_eq z f, thn_assoc]
      refine thn_congr _ fun xs q _ => ?_
      rw [thn_assoc]; rfl
    · rfl
/-- The brackets of a list, and what is in them. -/
def lstw (l : List TZ) (one : Int → EO α) (f : Nat) (i : Int) : EO (List α) := thn (sy l 40 i) fun _ j => sepn l one 41 f j
def midw (l : List TZ) (one : Int → EO α) (f : Nat) (j : Int) : EO (List α) := if isS (tkAt l j) 41 then .ok [] j else sepw l one f j
theorem sepn_eq (f : Nat) (j : Int) : sepn l one 41 f j = thn (midw l one f j) fun xs q => thn (sy l 41 q) fun _ r => .ok xs r := by
  unfold sepn midw
  cases h : isS (tkAt l j) 41
  · exact seps_eq 41 f j
  · show EO.ok [] (j + 1) = thn (sy l 41 j) fun _ r => EO.ok [] r
    unfold sy
    rw [if_pos h]; rfl
def memw (l : List TZ) (one : Int → EO α) (f : Nat) (i : Int) : EO (List α) := thn (sy l 123 i) fun _ j => upto l one f j
def preG (ys : List α) (r : EO (List α)) : EO (List α) := thn r fun zs q => .ok (ys ++ zs) q
theorem preG_nil (r : EO (List α)) : preG [] r = r := by cases r <;> rfl
theorem preG_snoc {ys : List α} {y : α} {r : EO (List α)} : preG ys (thn r fun zs q => .ok (y :: zs) q) = preG (ys ++ [y]) r := by
  cases r with
  | ok zs q => show EO.ok (ys ++ y :: zs) q = EO.ok (ys ++ [y] ++ zs) q; rw [List.append_assoc]; rfl
  | err p q => rfl
  | out => rfl
theorem upto_shut {f : Nat} {i : Int} (h : isS (tkAt l i) 125 = true) : upto l one (f + 1) i = .ok [] (i + 1) := by rw [upto, if_pos h]
theorem upto_more {f : Nat} {i : Int} (h : isS (tkAt l i) 125 = false) : upto l one (f + 1) i = thn (one i) fun x j => thn (upto l one f j) fun xs q => .ok (x :: xs) q := by rw [upto, if_neg (by rw [h]; decide)]
end
section
variable {l : List TZ}
/-- A result behind which a symbol stands. -/
def resw (l : List TZ) (z : UInt8) (i : Int) : EO (Bool × TX) := if isS (tkAt l i) z then .ok (false, noTX) i else thn (ty l i) fun t q => .ok (true, t) q
theorem res_eq (i : Int) : res l i = resw l 123 i := rfl
theorem mth_eq (f : Nat) (i : Int) : mth l f i = thn (na l i) fun n j => thn (lstw l (ty l) f j) fun ts j => thn (resw l 59 j) fun t j => thn (sy l 59 j) fun _ q => .ok ⟨n.1, n.2, ts, t.1, t.2⟩ q := by
  unfold mth
  refine thn_congr _ fun n j _ => ?_
  unfold lstw
  rw [thn_assoc]
  refine thn_congr _ fun _ j _ => ?_
  refine thn_congr _ fun ts j _ => ?_
  unfold resw
  cases h : isS (tkAt l j) 59
  · rw [if_neg (by decide), if_neg (by decide), thn_assoc]; rfl
  · rw [if_pos rfl, if_pos rfl]
    show _ = thn (sy l 59 j) fun _ q => EO.ok (⟨n.1, n.2, ts, false, noTX⟩ : MX) q
    unfold sy
    rw [if_pos h]; rfl
/-- A declaration that is told where it ends. -/
def shutD (x : DX) (s : Int) : DX := ⟨x.kind, x.pos, s, x.name, x.method, x.recv, x.bounds, x.fields, x.methods, x.has, x.result, x.body⟩
def dty0 (l : List TZ) (f : Nat) (i : Int) : EO DX := thn (na l i) fun n j =>
  if isW (tkAt l j) wStruct then thn (memw l (fld l) f (j + 1)) fun fs q => .ok ⟨1, n.2, 0, n.1, false, noPX, [], fs, [], false, noTX, []⟩ q
  else thn (wo l wInterface j) fun _ j => thn (memw l (mth l f) f j) fun ms q => .ok ⟨2, n.2, 0, n.1, false, noPX, [], [], ms, false, noTX, []⟩ q
theorem dty_eq (f : Nat) (i : Int) : dty l f i = thn (dty0 l f i) fun x q => .ok (shutD x (tkAt l (q - 1)).stop) q := by
  unfold dty dty0
  rw [thn_assoc]
  refine thn_congr _ fun n j _ => ?_
  cases hs : isW (tkAt l j) wStruct
  · rw [if_neg (c := (false : Bool) = true) (by decide)]
    cases hi : isW (tkAt l j) wInterface
    · rw [if_neg (by decide)]
      unfold wo
      rw [if_neg (by rw [hs]; decide), if_neg (by rw [hi]; decide)]
      rfl
    · rw [if_pos rfl]
      have e : wo l wInterface j = .ok () (j + 1) := by unfold wo; rw [if_pos hi]
      rw [e]
      unfold memw
      show _ = thn (thn (thn (sy l 123 (j + 1)) _) _) _
      rw [thn_assoc, thn_assoc]
      refine thn_congr _ fun _ j _ => ?_
      rfl
  · have hi : isW (tkAt l j) wInterface = false := by
      unfold isW at hs ⊢
      simp only [Bool.and_eq_true, decide_eq_true_eq] at hs
      rw [hs.2]
      simp [wStruct, wInterface]
    rw [hi, if_neg (by decide), if_pos rfl]
    have e : wo l wStruct j = .ok () (j + 1) := by unfold wo; rw [if_pos hs]
    rw [e]
    unfold memw
    show thn (sy l 123 (j + 1)) _ = _
    rw [thn_assoc, thn_assoc]
    refine thn_congr _ fun _ j _ => ?_
    rfl
def dfn0 (l : List TZ) (F fb f : Nat) (i : Int) : EO DX := thn (rcv l i) fun r j => thn (na l j) fun n j => thn (bnds l f j) fun bs j => thn (lstw l (prm l) f j) fun ps j =>
  thn (resw l 123 j) fun t j => thn (blk l F fb 0 j) fun b q => .ok ⟨3, n.2, 0, n.1, r.1, r.2, bs, ps, [], t.1, t.2, b⟩ q
theorem dfn_eq (F fb f : Nat) (i : Int) : dfn l F fb f i = thn (dfn0 l F fb f i) fun x q => .ok (shutD x (tkAt l (q - 1)).stop) q := by
  unfold dfn dfn0 lstw
  simp only [thn_assoc, res_eq]
  rfl
def dcl0 (l : List TZ) (F fb f : Nat) (i : Int) : EO DX := if isW (tkAt l i) wType then dty0 l f (i + 1) else thn (wo l wFunc i) fun _ j => dfn0 l F fb f j
theorem dcl_eq (F fb f : Nat) (i : Int) : dcl l F fb f i = thn (dcl0 l F fb f i) fun x q => .ok (shutD x (tkAt l (q - 1)).stop) q := by
  unfold dcl dcl0
  split
  · exact dty_eq f _
  · rw [thn_assoc]
    exact thn_congr _ fun _ j _ => dfn_eq F fb f j
/-- How far. -/
theorem dcl0_rng {F fb f : Nat} {i : Int} {x : DX} {q : Int} (h : dcl0 l F fb f i = .ok x q) : i < q ∧ 0 ≤ q - 1 ∧ q - 1 < l.length := by
  have hd : dcl l F fb f i = .ok (shutD x (tkAt l (q - 1)).stop) q := by rw [dcl_eq, h]; rfl
  have h1 := dcl_rng hd
  have h2 := isS_real (dcl_at hd).last
  omega
/-- An import behind its word. -/
def impw (l : List TZ) (i : Int) : EO (ByteArray × Int) := thn (na l i) fun n j => thn (sy l 59 j) fun _ q => .ok n q
theorem imps_step {g : Nat} {i : Int} (h : isW (tkAt l i) wImport = true) : imps l (g + 1) i = thn (impw l (i + 1)) fun n j => thn (imps l g j) fun xs q => .ok (n :: xs) q := by
  rw [imps, if_pos h]
  unfold impw
  simp only [thn_assoc]
  rfl
theorem imps_stop {g : Nat} {i : Int} (h : isW (tkAt l i) wImport = false) : imps l (g + 1) i = .ok [] i := by rw [imps, if_neg (by rw [h]; decide)]
theorem impw_rng {i : Int} {n : ByteArray × Int} {j : Int} (h : impw l i = .ok n j) : i < j ∧ j ≤ l.length := by
  unfold impw at h
  obtain ⟨n', a, h1, h⟩ := thn_ok h
  obtain ⟨_, b, h2, h⟩ := thn_ok h
  injection h with _ hj
  have := na_rng h1
  have := sy_rng h2
  omega
theorem dcls_step {F fb f g : Nat} {i : Int} (h : (tkAt l i).kind ≠ 0) : dcls l F fb f (g + 1) i = thn (dcl l F fb f i) fun x j => thn (dcls l F fb f g j) fun xs q => .ok (x :: xs) q := by rw [dcls, if_neg h]
theorem dcls_stop {F fb f g : Nat} {i : Int} (h : (tkAt l i).kind = 0) : dcls l F fb f (g + 1) i = .ok [] (i + 1) := by rw [dcls, if_pos h]
end
end Go.Proofs.YtlgaphopjdeklaaGreat
