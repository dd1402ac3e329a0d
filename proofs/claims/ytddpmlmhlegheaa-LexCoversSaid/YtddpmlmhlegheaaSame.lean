/-
  The walks of 'Same' and 'alike', where the lists are the same, or alike. Condition: the lists lie in memory as 'AtToks' says; at most 2^41 tokens.
-/
import Derived.Test.YtddpmlmhlegheaaAll
import Derived.Deep.QuietTactic
import Derived.BigQuiet
namespace Go.Proofs.Ytddpmlmhlegheaa
open Go.RowKit
open Go.Lib hiding intOf

/-- A list of tokens lies from an address on. -/
def AtToks (w : World) (o : Option Addr) (ts : List Tok) : Prop := ∀ j u, (toksC ts)[j]? = some u → ∃ g off, o = some ⟨g, off, none⟩ ∧ w.cell? ⟨g, off + j, none⟩ = some u

theorem AtToks.below {w w' : World} {o : Option Addr} {ts : List Tok} (h : AtToks w o ts) (hb : Below w.heap.size w w') : AtToks w' o ts := fun j u hu => by
  obtain ⟨g, off, h1, h2⟩ := h j u hu
  exact ⟨g, off, h1, (hb.cell (World.block_lt_of_cell? _ _ h2)).trans h2⟩

theorem IsToks.at_ {w : World} {v : Value} {ts : List Tok} (h : IsToks w v ts) : ∃ o cap, v = .slice o ts.length cap ∧ ts.length ≤ cap ∧ AtToks w o ts := by
  obtain ⟨o, cap, hv, hle, hc⟩ := h
  exact ⟨o, cap, hv, hle, fun j u hu => by obtain ⟨g, h1, h2⟩ := hc j u hu; exact ⟨g, 0, h1, by rw [Nat.zero_add]; exact h2⟩⟩

theorem toksC_at (ts : List Tok) (k : Nat) (t : Tok) (h : ts[k]? = some t) (j : Nat) (hj : j < 4) : (toksC ts)[k * 4 + j]? = (tokC t)[j]? := by
  induction ts generalizing k with
  | nil => simp at h
  | cons x r ih =>
    have hl : (tokC x).length = 4 := rfl
    cases k with
    | zero =>
      simp at h; subst h
      show (tokC x ++ toksC r)[0 * 4 + j]? = _
      rw [Nat.zero_mul, Nat.zero_add, List.getElem?_append_left (by rw [hl]; exact hj)]
    | succ k =>
      show (tokC x ++ toksC r)[(k + 1) * 4 + j]? = _
      rw [List.getElem?_append_right (by rw [hl]; omega), hl, show (k + 1) * 4 + j - 4 = k * 4 + j by omega]
      exact ih k (by simpa using h)

/-- The cells of one token. -/
theorem AtToks.tok {w : World} {o : Option Addr} {ts : List Tok} (h : AtToks w o ts) {k : Nat} {t : Tok} (ht : ts[k]? = some t) : ∃ g off, o = some ⟨g, off, none⟩ ∧
    w.cell? ⟨g, off + k * 4, none⟩ = some (.int .i64 t.kind) ∧ w.cell? ⟨g, off + k * 4 + 1, none⟩ = some (.int .i64 (t.pos : Nat)) ∧ w.cell? ⟨g, off + k * 4 + 2, none⟩ = some (.int .i64 (t.stop : Nat)) ∧ w.cell? ⟨g, off + k * 4 + 3, none⟩ = some (.string ⟨t.text.toArray⟩) := by
  obtain ⟨g, off, ho, h0⟩ := h (k * 4 + 0) _ ((toksC_at ts k t ht 0 (by omega)).trans rfl)
  refine ⟨g, off, ho, h0, ?_, ?_, ?_⟩
  · obtain ⟨g', off', ho', h1⟩ := h (k * 4 + 1) _ ((toksC_at ts k t ht 1 (by omega)).trans rfl)
    rw [ho] at ho'; cases ho'; exact h1
  · obtain ⟨g', off', ho', h1⟩ := h (k * 4 + 2) _ ((toksC_at ts k t ht 2 (by omega)).trans rfl)
    rw [ho] at ho'; cases ho'; exact h1
  · obtain ⟨g', off', ho', h1⟩ := h (k * 4 + 3) _ ((toksC_at ts k t ht 3 (by omega)).trans rfl)
    rw [ho] at ho'; cases ho'; exact h1

theorem below_drewN {B : Nat} {a w : World} (h : Below B a w) (n : Nat) : Below B a (w.drewN n) := h.trans ⟨rfl, rfl, rfl, Nat.le_refl _, fun _ _ => rfl⟩

set_option maxHeartbeats 1000000 in
theorem same_any (o o' : Option Addr) (c c' : Nat) (ts : List Tok) (w : World) (h1 : AtToks w o ts) (h2 : AtToks w o' ts) (hn : ts.length ≤ 2199023255553) :
    Calls Try.prog 12 #[.slice o ts.length c, .slice o' ts.length c'] w fun e w' => e = .returned (.bool true) ∧ Below w.heap.size w w' := by
  have H1 := Lib.hid h1
  have H2 := Lib.hid h2
  clear h1 h2
  go_enter Try.func12, Try.ntmps12
  go_wp2
  go_loopw [5] (fun i wr => ∃ k : Nat, k ≤ ts.length ∧ i = .int .i64 (k : Nat) ∧ Hid (Below w.heap.size w wr)) (fun i _ => ts.length - (RowKit.intOf i).toNat)
  case atStart => exact ⟨0, Nat.zero_le _, rfl, Lib.hid (Below.refl _ _)⟩
  case round =>
    obtain ⟨k, hk, rfl, HB⟩ := hrel
    by_cases hlt : k < ts.length
    · obtain ⟨g, off, rfl, a0, a1, a2, a3⟩ := (H1.out.below HB.out).tok (k := k) (List.getElem?_eq_getElem hlt)
      obtain ⟨g', off', rfl, b0, b1, b2, b3⟩ := (H2.out.below HB.out).tok (k := k) (List.getElem?_eq_getElem hlt)
      generalize ts[k] = t at *
      have hkz : (k : Int) < (ts.length : Nat) := by omega
      have hk0 : (0 : Int) ≤ (k : Nat) := by omega
      go_wp2
      go_quiet (fail)
      go_wp2
      go_roundw
      case rel => exact ⟨k + 1, hlt, by go_num, Lib.hid (below_drewN HB.out _)⟩
      case measure => simp [RowKit.intOf]; omega
    · go_wp2
      go_ret
      exact ⟨rfl, HB.out⟩

/-- Alike: the same but for places. -/
def key (t : Tok) : Int × List UInt8 := (t.kind, t.text)

theorem AtToks.drew {w w' : World} {o : Option Addr} {ts : List Tok} (h : AtToks w o ts) (hw : ∃ q, w' = w.drewN q) : AtToks w' o ts := by
  obtain ⟨q, rfl⟩ := hw
  exact h
theorem drew_more {w w' : World} (hw : ∃ q, w' = w.drewN q) (n : Nat) : ∃ q, w'.drewN n = w.drewN q := by
  obtain ⟨q, rfl⟩ := hw
  exact ⟨_, World.drewN_drewN _ _ _⟩

set_option maxHeartbeats 1000000 in
theorem alike_drew (o o' : Option Addr) (c c' : Nat) (ts us : List Tok) (w : World) (h1 : AtToks w o ts) (h2 : AtToks w o' us) (hkey : ts.map key = us.map key) (hn : ts.length ≤ 2199023255553) :
    Calls Try.prog 17 #[.slice o ts.length c, .slice o' us.length c'] w fun e w' => e = .returned (.bool true) ∧ ∃ n, w' = w.drewN n := by
  have hlen : us.length = ts.length := by have := congrArg List.length hkey; simpa using this.symm
  rw [hlen]
  have H1 := Lib.hid h1
  have H2 := Lib.hid h2
  have HK := Lib.hid hkey
  have HL := Lib.hid hlen
  clear h1 h2 hkey hlen
  go_enter Try.func17, Try.ntmps17
  go_wp2
  go_loopw [5] (fun i wr => ∃ k : Nat, k ≤ ts.length ∧ i = .int .i64 (k : Nat) ∧ Hid (∃ q, wr = w.drewN q)) (fun i _ => ts.length - (RowKit.intOf i).toNat)
  case atStart => exact ⟨0, Nat.zero_le _, rfl, Lib.hid ⟨0, rfl⟩⟩
  case round =>
    obtain ⟨k, hk, rfl, HB⟩ := hrel
    by_cases hlt : k < ts.length
    · have hlu : k < us.length := by rw [HL.out]; exact hlt
      obtain ⟨g, off, rfl, a0, a1, a2, a3⟩ := (AtToks.drew H1.out HB.out).tok (k := k) (List.getElem?_eq_getElem hlt)
      obtain ⟨g', off', rfl, b0, b1, b2, b3⟩ := (AtToks.drew H2.out HB.out).tok (k := k) (List.getElem?_eq_getElem hlu)
      have hk2 : key ts[k] = key us[k] := by
        have := congrArg (fun l => l[k]?) HK.out
        simp only [List.getElem?_map, List.getElem?_eq_getElem hlt, List.getElem?_eq_getElem hlu, Option.map_some] at this
        exact Option.some.inj this
      have hk3 : ts[k].kind = us[k].kind := congrArg Prod.fst hk2
      have hk4 : ts[k].text = us[k].text := congrArg Prod.snd hk2
      rw [← hk3] at b0
      rw [← hk4] at b3
      clear hk2 hk3 hk4 b1 b2 hlu
      generalize ts[k] = t at *
      have hkz : (k : Int) < (ts.length : Nat) := by omega
      have hk0 : (0 : Int) ≤ (k : Nat) := by omega
      go_wp2
      go_quiet (fail)
      go_wp2
      go_roundw
      case rel => exact ⟨k + 1, hlt, by go_num, Lib.hid (drew_more HB.out _)⟩
      case measure => simp [RowKit.intOf]; omega
    · go_wp2
      go_ret
      exact ⟨rfl, HB.out⟩

theorem alike_any (o o' : Option Addr) (c c' : Nat) (ts us : List Tok) (w : World) (h1 : AtToks w o ts) (h2 : AtToks w o' us) (hkey : ts.map key = us.map key) (hn : ts.length ≤ 2199023255553) :
    Calls Try.prog 17 #[.slice o ts.length c, .slice o' us.length c'] w fun e w' => e = .returned (.bool true) ∧ Below w.heap.size w w' :=
  (alike_drew o o' c c' ts us w h1 h2 hkey hn).mono fun _ _ ⟨he, n, hw⟩ => ⟨he, by rw [hw]; exact below_drewN (Below.refl _ _) n⟩

end Go.Proofs.Ytddpmlmhlegheaa
