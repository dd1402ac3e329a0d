/-
  TypexBehind answers true, whatever the tokens, the place and what stands behind. Condition: bulk at most 1,048,576.
-/
import Derived.Test.YtdmlelikmikflaaRow
import Derived.ProofKit
import Derived.OpenShut
import Derived.JoinedCond
import Derived.Carry
namespace Go.Proofs.Ytdmlelikmikflaa
open Go.RowKit
open Go.Lib hiding intOf

theorem elm_range {l : List TZ} {i : Int} {x : TX} {m : Int} (h : elm l i = .ok x m) : 0 ≤ i ∧ i < m ∧ m ≤ l.length := by
  unfold elm at h
  split at h
  · next h1 =>
    obtain ⟨a, b⟩ := tkAt_real (l := l) (i := i) (by rw [h1]; decide)
    split at h
    · next h2 =>
      split at h
      · next h3 =>
        obtain ⟨c, d⟩ := tkAt_real (l := l) (i := i + 2) (by rw [h3]; decide)
        injection h with _ h; omega
      · cases h
    · injection h with _ h; omega
  · split at h
    · next h5 =>
      obtain ⟨a, b⟩ := tkAt_real (l := l) (i := i) (by rw [h5.1]; decide)
      injection h with _ h; omega
    · cases h

theorem prs_range {l : List TZ} : ∀ {k : Nat} {i : Int} {x : TX} {m : Int}, prs l k i = .ok x m → 0 ≤ i ∧ i < m ∧ m ≤ l.length
  | 0, i, x, m, h => by
    unfold prs at h
    split at h
    · cases h
    · exact elm_range h
  | k + 1, i, x, m, h => by
    unfold prs at h
    split at h
    · next h1 =>
      have := isKT_real (by decide) h1
      split at h
      · cases hp : prs l k (i + 2) with
        | ok y n =>
          rw [hp] at h
          have := prs_range hp
          injection h with _ h
          omega
        | err q d => rw [hp] at h; cases h
      · cases h
    · exact elm_range h

theorem take_at {l more : List TZ} {m : Nat} (hm : m ≤ l.length) {i : Int} (h0 : 0 ≤ i) (h1 : i < m) : tkAt (l.take m ++ more) i = tkAt l i := by
  obtain ⟨k, rfl⟩ : ∃ k : Nat, i = k := ⟨i.toNat, by omega⟩
  have hk : k < m := by omega
  have e : (l.take m ++ more)[k]? = l[k]? := by
    rw [List.getElem?_append_left (by rw [List.length_take]; omega), List.getElem?_take_of_lt hk]
  have hl : l[k]? = some (l[k]'(by omega)) := List.getElem?_eq_getElem (by omega)
  rw [tkAt_in (e.trans hl), tkAt_in hl]

theorem behind_at {l more : List TZ} {m : Nat} (hm : m ≤ l.length) (hmore : ∀ t r, more = t :: r → (t.text.toList == [46]) = false) : isKT (tkAt (l.take m ++ more) (m : Nat)) 4 ⟨#[46]⟩ = false := by
  cases more with
  | nil =>
    rw [tkAt_out (by simp; omega)]
    rfl
  | cons t r =>
    rw [tkAt_in (t := t) (by rw [List.getElem?_append_right (by rw [List.length_take]; omega), List.length_take, show m - min m l.length = 0 by omega]; rfl)]
    have h := hmore t r rfl
    rw [ByteArray.toList_eq, beq_list] at h
    rw [isKT_eq]
    have e : (⟨#[46]⟩ : ByteArray).data.toList = [46] := rfl
    rw [e, h, Bool.and_false]

theorem elm_behind {l more : List TZ} {i : Int} {x : TX} {m : Int} (h : elm l i = .ok x m) (hmore : ∀ t r, more = t :: r → (t.text.toList == [46]) = false) {n : Nat} (hn : (n : Int) = m) (hnl : n ≤ l.length) : elm (l.take n ++ more) i = .ok x m := by
  obtain ⟨r0, r1, r2⟩ := elm_range h
  have t0 : tkAt (l.take n ++ more) i = tkAt l i := take_at hnl r0 (by omega)
  unfold elm at h ⊢
  rw [t0]
  split at h
  · next h1 =>
    rw [if_pos h1]
    split at h
    · next h2 =>
      split at h
      · next h3 =>
        injection h with h h'
        have t1 : tkAt (l.take n ++ more) (i + 1) = tkAt l (i + 1) := take_at hnl (by omega) (by omega)
        have t2 : tkAt (l.take n ++ more) (i + 2) = tkAt l (i + 2) := take_at hnl (by omega) (by omega)
        rw [t1, t2, if_pos h2, if_pos h3, h, h']
      · cases h
    · next h2 =>
      injection h with h h'
      have hb := behind_at hnl hmore
      rw [show ((n : Nat) : Int) = i + 1 by omega] at hb
      rw [hb, if_neg (by decide), h, h']
  · next h1 =>
    rw [if_neg h1]
    split at h
    · next h5 => rw [if_pos h5]; exact h
    · cases h

theorem prs_behind {l more : List TZ} (hmore : ∀ t r, more = t :: r → (t.text.toList == [46]) = false) {m : Int} {n : Nat} (hn : (n : Int) = m) (hnl : n ≤ l.length) : ∀ {k : Nat} {i : Int} {x : TX}, prs l k i = .ok x m → prs (l.take n ++ more) k i = .ok x m
  | 0, i, x, h => by
    obtain ⟨r0, r1, r2⟩ := prs_range h
    have t0 : tkAt (l.take n ++ more) i = tkAt l i := take_at hnl r0 (by omega)
    unfold prs at h ⊢
    rw [t0]
    split at h
    · cases h
    · next h1 => rw [if_neg h1]; exact elm_behind h hmore hn hnl
  | k + 1, i, x, h => by
    obtain ⟨r0, r1, r2⟩ := prs_range h
    have t0 : tkAt (l.take n ++ more) i = tkAt l i := take_at hnl r0 (by omega)
    unfold prs at h ⊢
    rw [t0]
    split at h
    · next h1 =>
      rw [if_pos h1]
      split at h
      · next h2 =>
        cases hp : prs l k (i + 2) with
        | ok y q =>
          rw [hp] at h
          injection h with h h'
          subst h'
          have hr := prs_range hp
          have t1 : tkAt (l.take n ++ more) (i + 1) = tkAt l (i + 1) := take_at hnl (by omega) (by omega)
          rw [t1, if_pos h2, prs_behind hmore hn hnl hp]
          show Res.ok _ _ = _
          rw [h]
        | err q d => rw [hp] at h; cases h
      · cases h
    · next h1 => rw [if_neg h1]; exact elm_behind h hmore hn hnl

theorem lit_row (w : World) (n : Nat) (hs : w.heap.size = n) : (w.alloc (.cells #[] 32)).ownsRow n 32 4 (.slice (some ⟨n, 0, none⟩) 0 0) 0 [] := by
  subst hs
  exact World.ownsRow_lit w #[] 0 (Nat.le_refl _) (Nat.zero_le _) rfl

theorem own_toks' {w : World} {base n : Nat} {v : Value} {l : List TZ} (hn : l.length = n) (h : w.ownsRow base 32 4 v l.length (tzsC l)) : ∃ o cap, v = .slice o n cap ∧ ZAt w o l ∧ w.ownsRow base 32 4 (.slice o n cap) l.length (tzsC l) := by
  subst hn
  obtain ⟨o, cap, rfl, hz, _⟩ := own_toks h
  exact ⟨o, cap, rfl, hz, h⟩

theorem blk_two (w : World) (o : Obj) (cs : Array Value) (t : TypeId) : Blk ((w.alloc o).alloc (.cells cs t)) (w.heap.size + 1) t cs := by
  have := Blk.new (w.alloc o) t cs
  simpa using this
theorem Blk.keepB {W W' : World} {B k : Nat} {t : TypeId} {cs : Array Value} (h : Blk W k t cs) (hb : Below B W W') (hk : k < B) : Blk W' k t cs := (hb.block k hk).trans h

theorem parse_more {l l2 : List TZ} {n : Nat} {i : Int} {x : TX} (hq : prs l 30 i = .ok x (n : Nat)) (hnl : n ≤ l.length) (hmore : ∀ t r, l2 = t :: r → (t.text.toList == [46]) = false) (hf : Fits l) (hf2 : Fits l2) (hb : l.length ≤ 1048576) (hb2 : l2.length ≤ 1048576) (o : Option Addr) (c : Nat) (W : World) (hz : ZAt W o (l.take n ++ l2)) :
    Calls Try.prog 9 #[.slice o (n + l2.length) c, .int .i64 i] W fun e w' => ∃ v, e = .returned v ∧ IsRes (W.heap.size + 2) w' (.ok x (n : Nat)) v ∧ Below W.heap.size W w' := by
  have hl : (l.take n ++ l2).length = n + l2.length := by rw [List.length_append, List.length_take]; omega
  have h := parse_any o c (l.take n ++ l2) i W hz (by omega) (fun t ht => by
    rcases List.mem_append.1 ht with h | h
    · exact hf t (List.mem_of_mem_take h)
    · exact hf2 t h)
  rwa [hl, prs_behind hmore rfl hnl hq] at h

theorem ZAt.take {w : World} {o : Option Addr} {l : List TZ} (h : ZAt w o l) (n : Nat) : ZAt w o (l.take n) := fun k t hk => by
  rw [List.getElem?_take] at hk
  split at hk
  · exact h k t hk
  · cases hk

end Go.Proofs.Ytdmlelikmikflaa
namespace Go.Proofs.Ytdmlelikmikflaa.typexBehind
open Go.ChangeShapes Go.WideShapes Go.ChangeAt Go.RowKit
open Go.Lib hiding intOf

theorem own : ownKnob Try.prog.godebug = none := by kernel_rfl

set_option maxRecDepth 20000 in
set_option maxHeartbeats 4000000 in
theorem walk (o : Option Addr) (l : List TZ) (cap : Nat) (i : Int) (o2 : Option Addr) (l2 : List TZ) (cap2 : Nat) (w : World) (h : ZAt w o l) (hnil : o = none → l = [] ∧ cap = 0) (hb : l.length ≤ 1048576) (hlc : l.length ≤ cap) (hf : Fits l)
    (h2 : ZAt w o2 l2) (hnil2 : o2 = none → l2 = [] ∧ cap2 = 0) (hb2 : l2.length ≤ 1048576) (hlc2 : l2.length ≤ cap2) (hf2 : Fits l2) :
    Calls Try.prog 6 #[.slice o l.length cap, .int .i64 i, .slice o2 l2.length cap2] w fun e w' => e = .returned (.bool true) ∧ Below w.heap.size w w' := by
  have HZ := Lib.hid h
  have HZ2 := Lib.hid h2
  have HN2 := Lib.hid hnil2
  have HP := Lib.hid (fun (W : World) (hz : ZAt W o l) => parse_any o cap l i W hz (by omega) hf)
  have HF := Lib.hid hf
  have HF2 := Lib.hid hf2
  have HN := Lib.hid hnil
  clear h h2 hnil2 hf hf2 hnil
  go_enter Try.func6, Try.ntmps6
  go_wp2_with fail
  refine (awake_any _).mono ?_
  rintro e w1 ⟨rfl, hB⟩
  have B1 := Lib.hid hB
  clear hB
  go_wp2_with fail
  refine (HP.out _ (HZ.out.below B1.out)).mono ?_
  rintro e w2 ⟨v, rfl, hr, hB⟩
  have B2 := Lib.hid (B1.out.trans (hB.mono B1.out.size))
  have hz2 := B2.out.size
  clear hB B1 HP
  obtain ⟨R, hq⟩ : ∃ R, prs l 30 i = R := ⟨_, rfl⟩
  have HQ := Lib.hid hq
  rw [hq] at hr
  clear hq
  cases R with
  | err p c =>
    obtain rfl : v = errV p c := hr
    have hc : c ≠ 0 := prs_code HQ.out
    have hc1 : (c == 0) = false := by simpa using hc
    have hc2 : (c != 0) = true := by simpa using hc
    clear hc
    unfold errV noType noText
    go_wp2
    go_ret
    exact ⟨by simp, (B2.out.alloc hz2 _).alloc (by simp; omega) _⟩
  | ok x m =>
    obtain ⟨hi0, him, hml⟩ := prs_range HQ.out
    obtain ⟨n, rfl⟩ : ∃ n : Nat, m = n := ⟨m.toNat, by omega⟩
    have hnl : n ≤ l.length := by omega
    obtain ⟨ad, rfl⟩ : ∃ ad, o = some ad := by
      cases o with
      | none => have := (HN.out rfl).1; subst this; simp at hnl; omega
      | some a => exact ⟨a, rfl⟩
    obtain ⟨y, rfl, hx⟩ := hr
    obtain ⟨k, p, g, s, o1, a1, rfl⟩ := hx.parts
    have X2 := Lib.hid hx
    have htl : (l.take n).length = n := by rw [List.length_take]; omega
    have HTL := Lib.hid htl
    have hn0 : (0 : Int) ≤ (n : Nat) := by omega
    have hn1 : ((n : Nat) : Int) ≤ (cap : Nat) := by omega
    have hn2 : ¬ ((n : Nat) : Int) ≤ i := by omega
    have hn3 : ¬ ((l.length : Nat) : Int) < (n : Nat) := by omega
    clear hx htl
    unfold okV
    cases l2 with
    | nil =>
      go_wp2_with (first | (refine wpList_append_toks rfl _ _ rfl (w2.heap.size + 1 + 1) _ [] (l.take n) rfl (lit_row _ _ (by simp)) (some ad) cap (by rw [HTL.out]; rfl) ((HZ.out.take n).below (((B2.out.alloc hz2 _).alloc (by simp; omega) _).alloc (by simp; omega) _)) (fun h => by cases h) (by rw [HTL.out, List.length_nil]; omega) (by simp) ?_; intro v3 w3 hown hB3; obtain ⟨o3, cap3, rfl, _, ho3⟩ := own_toks' HTL.out hown; have HO3 := Lib.hid ho3; have K3 := Lib.hid ((((Blk.new w2 26 #[.int .i64 k, .int .i64 p, .string g, .string s, .slice o1 a1 a1]).alloc _).alloc _).keepB hB3 (by omega)); have L3 := Lib.hid (((blk_two w2 _ zeroG 28).alloc _).keepB hB3 (by omega)); have B3 := Lib.hid ((((B2.out.alloc hz2 _).alloc (by simp; omega) _).alloc (by simp; omega) _).trans (hB3.mono (by omega))); have hz3 : w2.heap.size + 1 + 1 < w3.heap.size := (by have := hB3.size; simp at this; omega); have M3 := Lib.hid ((((((Below.refl w2.heap.size w2).alloc (Nat.le_refl _) _).alloc (by simp) _).alloc (by simp; omega) _)).trans (hB3.mono (by omega)));clear hown hB3 ho3) | (refine wpList_append_toks rfl _ _ rfl (w2.heap.size + 1 + 1) _ (l.take n) ([] : List TZ) rfl HO3.out o2 cap2 rfl (HZ2.out.below B3.out) (fun h => ⟨rfl, (HN2.out h).2⟩) (by rw [HTL.out]; omega) (by omega) ?_; intro v4 w4 hown hB4; obtain ⟨o4, cap4, rfl, hz4', _⟩ := own_toks' (n := n + ([] : List TZ).length) (by rw [List.length_append, HTL.out]) hown; have HZ4 := Lib.hid hz4'; have K4 := Lib.hid (K3.out.keepB hB4 (by omega)); have L4 := Lib.hid (L3.out.keepB hB4 (by omega)); have B4 := Lib.hid (B3.out.trans (hB4.mono (by omega))); have hz4 : w2.heap.size + 1 + 1 < w4.heap.size := Nat.lt_of_lt_of_le hz3 hB4.size; have X4 := Lib.hid (IsTX.below X2.out (M3.out.trans (hB4.mono (by omega)))); clear hown hB4 hz4'))
      refine (parse_more HQ.out hnl (fun t r h => by cases h) HF.out HF2.out hb hb2 o4 cap4 _ HZ4.out).mono ?_
      rintro e w5 ⟨v5, rfl, hr5, hB⟩
      obtain ⟨y5, rfl, hx5⟩ := hr5
      obtain ⟨k5, p5, g5, s5, o5, a5, rfl⟩ := hx5.parts
      have K5 := K4.out.below hB
      have L5 := L4.out.below hB
      have c8 := K5.cell
      have c10 := L5.cell
      have hz5 : w2.heap.size + 1 + 1 < w5.heap.size := Nat.lt_of_lt_of_le hz4 hB.size
      have hz6 : w2.heap.size + 1 < w5.heap.size := by omega
      have hz7 : w2.heap.size < w5.heap.size := by omega
      have B5 := Lib.hid (B4.out.trans (hB.mono B4.out.size))
      have HS := Lib.hid (fun (W : World) (hb : Below w5.heap.size w5 W) => sameT_any x _ _ _ _ W ((IsTX.below X4.out hB).below hb) (IsTX.below hx5 hb))
      clear hB hx5 K5 L5 B4 K4 L4 X4 HZ4
      unfold okV
      go_wp2_with fail
      refine (HS.out _ (((Below.refl _ _).alloc (Nat.le_refl _) _).alloc (by simp) _)).mono ?_
      rintro e w6 ⟨rfl, hB⟩
      obtain ⟨c5, c6, hz8, hz9, k5'⟩ := two_more hB
      have B6 := Lib.hid (B5.out.trans (k5'.mono B5.out.size))
      clear hB k5' B5 c5 c8 c10
      go_wp2
      go_ret
      exact ⟨by simp, B6.out⟩
    | cons t r =>
      obtain ⟨a2, rfl⟩ : ∃ a2, o2 = some a2 := by
        cases o2 with
        | none => cases (HN2.out rfl).1
        | some a => exact ⟨a, rfl⟩
      have HM : Hid (w.cell? ⟨a2.block, a2.off + 3, none⟩ = some (.string t.text)) := by
        obtain ⟨a, ha, _, _, _, h3⟩ := HZ2.out.tok (k := 0) (t := t) rfl
        cases ha
        have h4 : w.cell? ⟨a2.block, a2.off + 3, none⟩ = some (.string t.text) := by simpa [Addr.add] using h3
        exact Lib.hid h4
      have hlen : ((List.length (t :: r) : Nat) : Int) = (r.length : Int) + 1 := by simp
      have hlp : (0 : Int) < (r.length : Int) + 1 := by omega
      cases hx : (t.text.toList == [46])
      · go_wp2_with (first | (refine wpList_append_toks rfl _ _ rfl (w2.heap.size + 1 + 1) _ [] (l.take n) rfl (lit_row _ _ (by simp)) (some ad) cap (by rw [HTL.out]; rfl) ((HZ.out.take n).below (((B2.out.alloc hz2 _).alloc (by simp; omega) _).alloc (by simp; omega) _)) (fun h => by cases h) (by rw [HTL.out, List.length_nil]; omega) (by simp) ?_; intro v3 w3 hown hB3; obtain ⟨o3, cap3, rfl, _, ho3⟩ := own_toks' HTL.out hown; have HO3 := Lib.hid ho3; have K3 := Lib.hid ((((Blk.new w2 26 #[.int .i64 k, .int .i64 p, .string g, .string s, .slice o1 a1 a1]).alloc _).alloc _).keepB hB3 (by omega)); have L3 := Lib.hid (((blk_two w2 _ zeroG 28).alloc _).keepB hB3 (by omega)); have B3 := Lib.hid ((((B2.out.alloc hz2 _).alloc (by simp; omega) _).alloc (by simp; omega) _).trans (hB3.mono (by omega))); have hz3 : w2.heap.size + 1 + 1 < w3.heap.size := (by have := hB3.size; simp at this; omega); have M3 := Lib.hid ((((((Below.refl w2.heap.size w2).alloc (Nat.le_refl _) _).alloc (by simp) _).alloc (by simp; omega) _)).trans (hB3.mono (by omega)));have m3 := (B3.out.cell (p := ⟨a2.block, a2.off + 3, none⟩) (World.block_lt_of_cell? _ _ HM.out)).trans HM.out; clear hown hB3 ho3) | (refine wpList_append_toks rfl _ _ rfl (w2.heap.size + 1 + 1) _ (l.take n) (t :: r) rfl HO3.out (some a2) cap2 rfl (HZ2.out.below B3.out) (fun h => by cases h) (by rw [HTL.out]; omega) (by omega) ?_; intro v4 w4 hown hB4; obtain ⟨o4, cap4, rfl, hz4', _⟩ := own_toks' (n := n + (t :: r).length) (by rw [List.length_append, HTL.out]) hown; have HZ4 := Lib.hid hz4'; have K4 := Lib.hid (K3.out.keepB hB4 (by omega)); have L4 := Lib.hid (L3.out.keepB hB4 (by omega)); have B4 := Lib.hid (B3.out.trans (hB4.mono (by omega))); have hz4 : w2.heap.size + 1 + 1 < w4.heap.size := Nat.lt_of_lt_of_le hz3 hB4.size; have X4 := Lib.hid (IsTX.below X2.out (M3.out.trans (hB4.mono (by omega)))); clear hown hB4 hz4'))
        refine (parse_more HQ.out hnl (fun t' r' h => by cases h; exact hx) HF.out HF2.out hb hb2 o4 cap4 _ HZ4.out).mono ?_
        rintro e w5 ⟨v5, rfl, hr5, hB⟩
        obtain ⟨y5, rfl, hx5⟩ := hr5
        obtain ⟨k5, p5, g5, s5, o5, a5, rfl⟩ := hx5.parts
        have K5 := K4.out.below hB
        have L5 := L4.out.below hB
        have c8 := K5.cell
        have c10 := L5.cell
        have hz5 : w2.heap.size + 1 + 1 < w5.heap.size := Nat.lt_of_lt_of_le hz4 hB.size
        have hz6 : w2.heap.size + 1 < w5.heap.size := by omega
        have hz7 : w2.heap.size < w5.heap.size := by omega
        have B5 := Lib.hid (B4.out.trans (hB.mono B4.out.size))
        have HS := Lib.hid (fun (W : World) (hb : Below w5.heap.size w5 W) => sameT_any x _ _ _ _ W ((IsTX.below X4.out hB).below hb) (IsTX.below hx5 hb))
        clear hB hx5 K5 L5 B4 K4 L4 X4 HZ4
        unfold okV
        go_wp2_with fail
        refine (HS.out _ (((Below.refl _ _).alloc (Nat.le_refl _) _).alloc (by simp) _)).mono ?_
        rintro e w6 ⟨rfl, hB⟩
        obtain ⟨c5, c6, hz8, hz9, k5'⟩ := two_more hB
        have B6 := Lib.hid (B5.out.trans (k5'.mono B5.out.size))
        clear hB k5' B5 c5 c8 c10
        go_wp2
        go_ret
        exact ⟨by simp, B6.out⟩
      · go_wp2_with (refine wpList_append_toks rfl _ _ rfl (w2.heap.size + 1 + 1) _ [] (l.take n) rfl (lit_row _ _ (by simp)) (some ad) cap (by rw [HTL.out]; rfl) ((HZ.out.take n).below (((B2.out.alloc hz2 _).alloc (by simp; omega) _).alloc (by simp; omega) _)) (fun h => by cases h) (by rw [HTL.out, List.length_nil]; omega) (by simp) ?_; intro v3 w3 hown hB3; obtain ⟨o3, cap3, rfl, _, ho3⟩ := own_toks' HTL.out hown; have HO3 := Lib.hid ho3; have K3 := Lib.hid ((((Blk.new w2 26 #[.int .i64 k, .int .i64 p, .string g, .string s, .slice o1 a1 a1]).alloc _).alloc _).keepB hB3 (by omega)); have L3 := Lib.hid (((blk_two w2 _ zeroG 28).alloc _).keepB hB3 (by omega)); have B3 := Lib.hid ((((B2.out.alloc hz2 _).alloc (by simp; omega) _).alloc (by simp; omega) _).trans (hB3.mono (by omega))); have hz3 : w2.heap.size + 1 + 1 < w3.heap.size := (by have := hB3.size; simp at this; omega); have M3 := Lib.hid ((((((Below.refl w2.heap.size w2).alloc (Nat.le_refl _) _).alloc (by simp) _).alloc (by simp; omega) _)).trans (hB3.mono (by omega)));have m3 := (B3.out.cell (p := ⟨a2.block, a2.off + 3, none⟩) (World.block_lt_of_cell? _ _ HM.out)).trans HM.out; clear hown hB3 ho3)
        go_ret
        exact ⟨rfl, B3.out⟩

theorem laidOut : laidOutB Try.prog = true := by kernel_rfl

theorem part_le {H : Type} {l : List (DataW H)} {d : DataW H} (h : d ∈ l) : Rows.uptoBulk d ≤ Rows.uptoBulkAll l := by
  induction l with
  | nil => cases h
  | cons x r ih =>
    simp only [Rows.uptoBulkAll]
    rcases List.mem_cons.1 h with rfl | h
    · omega
    · have := ih h; omega

theorem contract (H : Type) (enc : TypeId × Value → H) (W : World) (base : Nat) (args : Array Value) (ds gs : List (DataW H)) (before : List MemPlace)
    (hval : ∀ (j : Nat) t v, Try.f6.params[j]? = some t → args[j]? = some v → Value.okWide Try.prog W .any base t v)
    (hW : DataW.Whole enc Try.prog Try.f6.params.toList Rows.typexBehindSpec.vars false W args.toList ds gs before) (hk : Rows.uptoSmall H (ds ++ gs) = true) :
    Calls Try.prog 6 args W fun e W' => ∃ v, e = .returned v ∧ Rows.typexBehindSpec.post enc Try.prog Try.f6 false true false false W args v W' := by
  have hpart : ∀ d ∈ ds, Rows.uptoBulk d ≤ 1048576 := fun d hd => by
    have h1 : Rows.uptoBulkAll (ds ++ gs) ≤ 1048576 := of_decide_eq_true hk
    have h2 := part_le (List.mem_append_left gs hd)
    omega
  have hW' := hW
  obtain ⟨p, q, hA0, hV, rfl, hfz, hnd⟩ := hW
  have hA : DataW.TrodAll enc Try.prog W 0 (fun _ => true) true Try.f6.params.toList args.toList ds p := hA0
  rw [Try.params6] at hA hval
  obtain ⟨v0, vs0, d0, ds0, p0, q0, hargs, rfl, rfl, h0, r0⟩ := trodAll_cons hA
  obtain ⟨v1, vs1, d1, ds1, p1, q1, rfl, rfl, rfl, h1, r1⟩ := trodAll_cons r0
  obtain ⟨v2, vs2, d2, ds2, p2, q2, rfl, rfl, rfl, h2, r2⟩ := trodAll_cons r1
  obtain ⟨rfl, rfl, rfl⟩ := trodAll_nil r2
  obtain rfl : args = #[v0, v1, v2] := by cases args; simp_all
  obtain ⟨rfl, rfl⟩ := trodVars_none hV
  have t0 := h0
  obtain ⟨o0, l0, c0, s0, rfl, z0, lc0, _, _, n0, e0⟩ := open_toks (hval 0 23 v0 rfl rfl) h0
  obtain ⟨b0, f0⟩ := toks_bulk e0 (hpart d0 (by simp))
  have lt0 : ∀ x ∈ p0, x.block < W.heap.size := fun x hx => by simpa using hW'.lt x (by simp [hx])
  obtain ⟨a1, rfl, rfl, rfl, w1⟩ := open_int Try.underlying3 (hval 1 3 v1 rfl rfl) h1
  have t2 := h2
  obtain ⟨o2, l2, c2, s2, rfl, z2, lc2, _, _, n2, e2⟩ := open_toks (hval 2 23 v2 rfl rfl) h2
  obtain ⟨b2, f2⟩ := toks_bulk e2 (hpart d2 (by simp))
  have lt2 : ∀ x ∈ p2, x.block < W.heap.size := fun x hx => by simpa using hW'.lt x (by simp [hx])
  clear hA0 hk
  simp only [List.append_nil] at hW'
  refine (walk o0 l0 c0 a1 o2 l2 c2 W z0 n0 b0 lc0 f0 z2 n2 b2 lc2 f2).mono fun e W' ⟨he, hg⟩ => ?_
  subst he
  exact ⟨_, rfl, _, _, _, [], _, [], hW', (trodAll_cons_mk (shut_bool Try.underlying4 _) trodAll_mk0), (trodAll_cons_mk (Below.trod laidOut (by kernel_rfl) (of_decide_eq_true (by kernel_rfl)) t0 hg lt0) (trodAll_cons_mk (shut_int Try.underlying3 w1) (trodAll_cons_mk (Below.trod laidOut (by kernel_rfl) (of_decide_eq_true (by kernel_rfl)) t2 hg lt2) trodAll_mk0))), rfl, hg.frame _, fun h => by cases h⟩

set_option maxRecDepth 100000 in
theorem lifted (os : Os) (started : os.Started) (H : Type) (enc : TypeId × Value → H) (F : Stop.Interp) :
    ReturnsInHanded {} Try.checked os 6 .any ((Rows.OpenSpec.upto Rows.typexBehindSpec).pre6 enc Try.prog Try.f6 Rows.typexBehindUptoRow.domain false) (((Rows.OpenSpec.upto Rows.typexBehindSpec).at F).post enc Try.prog Try.f6 false true false false) := by
  refine returnsInHanded_of_cond (C := Try.checked) (s := Rows.OpenSpec.upto Rows.typexBehindSpec) (k := Rows.uptoSmall) rfl own started (by kernel_rfl) Try.func6
    (OpenSpec.witness (enc := enc) (C := Try.checked) (s := Rows.OpenSpec.upto Rows.typexBehindSpec) (k := Rows.uptoSmall) rfl false ⟨#[], #[.slice none 0 0, .int .i64 0, .slice none 0 0], []⟩ 8 (by kernel_rfl) (by kernel_rfl) (by kernel_rfl)
      (x := ([.nil, .lit (.int .i64 0), .nil], [], [])) (by kernel_rfl) rfl (by kernel_rfl)) ?_
  intro W base args ds gs before hval hW _ hk _
  exact contract H enc W base args ds gs before hval hW hk

/-- TypexBehind answers true, where what it reads is of bulk at most 1,048,576. -/
theorem proved : Rows.TypexBehindUptoSaid :=
  OpenClaim.holds_of_cond 6 Try.f6 rfl rfl rfl rfl rfl rfl rfl ⟨rfl, rfl, rfl, rfl, rfl⟩ rfl rfl rfl rfl rfl (by kernel_rfl) Try.func6 (by kernel_rfl)
    (of_decide_eq_true (by kernel_rfl)) (by unfold Func.isWrapper; first | (rw [if_pos (by decide +kernel)]; kernel_rfl) | (rw [if_neg (by decide +kernel)]; exact ⟨rfl, rfl⟩))
    (fun os started H enc _ F => lifted os started H enc F)

end Go.Proofs.Ytdmlelikmikflaa.typexBehind
