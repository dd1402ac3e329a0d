/-
  LexJoins answers true for every text. No condition.
-/
import Derived.Test.YtddpmlmhlegheaaEnds
import Derived.Test.YtddpmlmhlegheaaConcat
import Derived.ProofKit
import Derived.OpenShut
namespace Go.Proofs.Ytddpmlmhlegheaa.lexJoins
open Go.ChangeShapes Go.WideShapes Go.ChangeAt Go.RowKit
open Go.ChangeMaps (open_string shut_string)

theorem own : ownKnob Try.prog.godebug = none := by kernel_rfl

/-- What has been joined. -/
def part (b : List UInt8) (ts : List Tok) (k : Nat) : List UInt8 := (ts.take k).flatMap (fun t => b ++ t.text)

theorem part_succ (b : List UInt8) (ts : List Tok) (k : Nat) (t : Tok) (h : ts[k]? = some t) : part b ts (k + 1) = part b ts k ++ b ++ t.text := by
  unfold part
  have hk : k < ts.length := (List.getElem?_eq_some_iff.1 h).1
  have ht : ts[k] = t := (List.getElem?_eq_some_iff.1 h).2
  rw [List.take_succ_eq_append_getElem hk, ht]
  simp

theorem part_len (b : List UInt8) (ts : List Tok) (k B : Nat) (hk : k ≤ ts.length) (hb : ∀ t ∈ ts, t.text.length ≤ B) : (part b ts k).length ≤ k * (b.length + B) := by
  induction k with
  | zero => simp [part]
  | succ k ih =>
    have ht : ts[k]? = some ts[k] := List.getElem?_eq_getElem (by omega)
    rw [part_succ b ts k _ ht, List.length_append, List.length_append]
    have := ih (by omega)
    have := hb ts[k] (List.getElem_mem _)
    rw [Nat.succ_mul]; omega

theorem arr_app (p : List UInt8) (b : ByteArray) : (⟨p.toArray⟩ : ByteArray) ++ b = ⟨(p ++ b.data.toList).toArray⟩ := by
  apply ByteArray.ext
  rw [ByteArray.data_append]
  simp

set_option maxHeartbeats 1000000 in
theorem joined_any (o : Option Addr) (c : Nat) (ts : List Tok) (b : ByteArray) (w : World) (h1 : AtToks w o ts) (hn : ts.length ≤ 2001) (ht : ∀ t ∈ ts, t.text.length ≤ 2000) (hb : b.size ≤ 9) :
    Calls Try.prog 16 #[.slice o ts.length c, .string b] w fun e w' => e = .returned (.string ⟨(joinL b.data.toList ts).toArray⟩) ∧ w = w' := by
  have H1 := Lib.hid h1
  have HT := Lib.hid ht
  clear h1 ht
  go_enter Try.func16, Try.ntmps16
  go_wp2
  go_loop [5, 6] (fun out i => ∃ k : Nat, k ≤ ts.length ∧ i = .int .i64 (k : Nat) ∧ out = .string ⟨(part b.data.toList ts k).toArray⟩) (fun _ i => ts.length - (RowKit.intOf i).toNat)
  case atStart => exact ⟨0, Nat.zero_le _, rfl, rfl⟩
  case round =>
    obtain ⟨k, hk, rfl, rfl⟩ := hrel
    by_cases hlt : k < ts.length
    · obtain ⟨g, off, rfl, a0, a1, a2, a3⟩ := H1.out.tok (k := k) (List.getElem?_eq_getElem hlt)
      have hp := part_succ b.data.toList ts k _ (List.getElem?_eq_getElem hlt)
      have hl := part_len b.data.toList ts k 2000 hk HT.out
      have HP := Lib.hid hp
      have htl := HT.out ts[k] (List.getElem_mem hlt)
      clear hp a0 a1 a2
      generalize ts[k] = t at *
      generalize part b.data.toList ts k = p at *
      have hpl : p.length ≤ 4020009 := by
        have h2 : k * (b.data.toList.length + 2000) ≤ 2001 * 2009 := Nat.mul_le_mul (by omega) (by rw [size_toList]; omega)
        omega
      clear hl
      go_wp2
      go_round
      case rel => exact ⟨k + 1, hlt, by go_num, by rw [HP.out, arr_app, arr_app]⟩
      case measure => simp [RowKit.intOf]; omega
    · obtain rfl : k = ts.length := by omega
      have hl := part_len b.data.toList ts ts.length 2000 hk HT.out
      have hpl : (part b.data.toList ts ts.length).length ≤ 4020009 := by
        have h2 : ts.length * (b.data.toList.length + 2000) ≤ 2001 * 2009 := Nat.mul_le_mul hn (by rw [size_toList]; omega)
        omega
      have HJ : Hid (joinL b.data.toList ts = part b.data.toList ts ts.length ++ b.data.toList) := by
        unfold joinL part; rw [List.take_length]; exact Lib.hid rfl
      clear hl
      generalize part b.data.toList ts ts.length = p at *
      go_wp2
      go_ret
      exact ⟨by rw [HJ.out, ← arr_app]; rfl, rfl⟩

def blank : ByteArray := ⟨#[32]⟩
def remark : ByteArray := ⟨#[47, 47, 32, 120, 34, 32, 47, 47, 10]⟩

theorem joined_at (o : Option Addr) (c : Nat) (ts : List Tok) (b s2 : ByteArray) (w : World) (h1 : AtToks w o ts) (hn : ts.length ≤ 2001) (ht : ∀ t ∈ ts, t.text.length ≤ 2000) (hb : b.size ≤ 9) (h2 : s2.data.toList = joinL b.data.toList ts) :
    Calls Try.prog 16 #[.slice o ts.length c, .string b] w fun e w' => e = .returned (.string s2) ∧ w = w' := by
  have h := joined_any o c ts b w h1 hn ht hb
  rw [← h2] at h
  exact h

theorem join_len (b : List UInt8) (ts : List Tok) (hn : ts.length ≤ 2001) (ht : ∀ t ∈ ts, t.text.length ≤ 2000) (hb : b.length ≤ 9) : (joinL b ts).length ≤ 4020018 := by
  have hl := part_len b ts ts.length 2000 (Nat.le_refl _) ht
  have h2 : ts.length * (b.length + 2000) ≤ 2001 * 2009 := Nat.mul_le_mul hn (by omega)
  have e : joinL b ts = part b ts ts.length ++ b := by unfold joinL part; rw [List.take_length]
  rw [e, List.length_append]; omega

set_option maxHeartbeats 2000000 in
theorem walk_long (s : ByteArray) (w : World) (hs : 2000 < s.size) : Calls Try.prog 6 #[.string s] w fun e w' => e = .returned (.bool true) ∧ Below w.heap.size w w' := by
  have hd : decide ((2000 : Int) < (s.size : Nat)) = true := by simp; omega
  go_enter Try.func6, Try.ntmps6
  go_wp2_with fail
  refine (awake_any _).mono ?_
  rintro e w1 ⟨rfl, hB⟩
  have B1 := Lib.hid hB
  clear hB
  go_wp2
  go_ret
  exact ⟨rfl, B1.out⟩

set_option maxHeartbeats 2000000 in
theorem walk_bad (s : ByteArray) (w : World) (hs : s.size ≤ 2000) (a : Nat) (c : Int) (hl : lexed s.data.toList = ([], a, c)) (hc : c ≠ 0) : Calls Try.prog 6 #[.string s] w fun e w' => e = .returned (.bool true) ∧ Below w.heap.size w w' := by
  have hd : decide ((2000 : Int) < (s.size : Nat)) = false := by simp; omega
  have HA := Lib.hid (fun w => all_at s [] a c hl w (by omega))
  have hc2 : (c == 0) = false := beq_eq_false_iff_ne.2 hc
  clear hl hc
  go_enter Try.func6, Try.ntmps6
  go_wp2_with fail
  refine (awake_any _).mono ?_
  rintro e w1 ⟨rfl, hB⟩
  have B1 := Lib.hid hB
  clear hB
  go_wp2_with fail
  refine (HA.out _).mono ?_
  rintro e w2 ⟨o, cap, rfl, _, hB, _⟩
  have B2 := Lib.hid (B1.out.trans (hB.mono B1.out.size))
  have hz := B2.out.size
  clear hB B1
  go_wp2
  go_ret
  exact ⟨rfl, B2.out.alloc hz _⟩

set_option maxHeartbeats 4000000 in
theorem walk_good (s : ByteArray) (w : World) (hs : s.size ≤ 2000) (ts us vs : List Tok) (s2 s3 : ByteArray) (hl : lexed s.data.toList = (ts, 0, 0)) (h2 : s2.data.toList = joinL blank.data.toList ts) (h3 : s3.data.toList = joinL remark.data.toList ts)
    (hu : lexed s2.data.toList = (us, 0, 0)) (hv : lexed s3.data.toList = (vs, 0, 0)) (ku : us.map key = ts.map key) (kv : vs.map key = ts.map key) (ht : ∀ t ∈ ts, t.text.length ≤ 2000) :
    Calls Try.prog 6 #[.string s] w fun e w' => e = .returned (.bool true) ∧ Below w.heap.size w w' := by
  have hlen := lexed_len hl
  have hlu := congrArg List.length ku
  have hlv := congrArg List.length kv
  simp only [List.length_map] at hlu hlv
  rw [size_toList] at hlen
  have hs2 : s2.size ≤ 4020018 := by rw [← size_toList, h2]; exact join_len _ _ (by omega) ht (by decide)
  have hs3 : s3.size ≤ 4020018 := by rw [← size_toList, h3]; exact join_len _ _ (by omega) ht (by decide)
  have hd : decide ((2000 : Int) < (s.size : Nat)) = false := by simp; omega
  have HA := Lib.hid (fun w => all_at s ts 0 0 hl w (by omega))
  have HU := Lib.hid (fun w => all_at s2 us 0 0 hu w (by omega))
  have HV := Lib.hid (fun w => all_at s3 vs 0 0 hv w (by omega))
  have HJ2 := Lib.hid (fun o c w (h : AtToks w o ts) => joined_at o c ts blank s2 w h (by omega) ht (by decide) h2)
  have HJ3 := Lib.hid (fun o c w (h : AtToks w o ts) => joined_at o c ts remark s3 w h (by omega) ht (by decide) h3)
  have HK2 := Lib.hid (fun o o' c c' w (h1 : AtToks w o us) (h2 : AtToks w o' ts) => alike_any o o' c c' us ts w h1 h2 ku (by omega))
  have HK3 := Lib.hid (fun o o' c c' w (h1 : AtToks w o vs) (h2 : AtToks w o' ts) => alike_any o o' c c' vs ts w h1 h2 kv (by omega))
  clear hl h2 h3 hu hv ku kv ht hlen hlu hlv hs2 hs3
  go_enter Try.func6, Try.ntmps6
  go_wp2_with fail
  refine (awake_any _).mono ?_
  rintro e w1 ⟨rfl, hB⟩
  have B1 := Lib.hid hB
  clear hB
  go_wp2_with fail
  refine (HA.out _).mono ?_
  rintro e w2 ⟨o, cap, rfl, hT, hB, _⟩
  have B2 := Lib.hid (B1.out.trans (hB.mono B1.out.size))
  have hb22 : Below w2.heap.size w2 (w2.alloc (.cells #[.int .i64 0, .int .i64 0] 25)) := (Below.refl _ _).alloc (Nat.le_refl _) _
  have T2 := Lib.hid (hT.below hb22)
  clear hB B1 hT
  go_wp2_with fail
  refine (HJ2.out _ _ _ T2.out).mono ?_
  rintro e w2' ⟨rfl, rfl⟩
  go_wp2_with fail
  refine (HU.out _).mono ?_
  rintro e w3 ⟨o3, cap3, rfl, hT, hB, _⟩
  have B3 := Lib.hid (below_box B2.out B2.out.size hB)
  have hb33 : Below w3.heap.size w3 (w3.alloc (.cells #[.int .i64 0, .int .i64 0] 25)) := (Below.refl _ _).alloc (Nat.le_refl _) _
  have T3 := Lib.hid ((T2.out.below hB).below hb33)
  have U3 := Lib.hid (hT.below hb33)
  clear hB B2 T2 hT hb22 hb33
  go_wp2_with fail
  refine (HJ3.out _ _ _ T3.out).mono ?_
  rintro e w3' ⟨rfl, rfl⟩
  go_wp2_with fail
  refine (HV.out _).mono ?_
  rintro e w4 ⟨o4, cap4, rfl, hT, hB, _⟩
  have B4 := Lib.hid (below_box B3.out B3.out.size hB)
  have hb44 : Below w4.heap.size w4 (w4.alloc (.cells #[.int .i64 0, .int .i64 0] 25)) := (Below.refl _ _).alloc (Nat.le_refl _) _
  have T4 := Lib.hid ((T3.out.below hB).below hb44)
  have U4 := Lib.hid ((U3.out.below hB).below hb44)
  have V4 := Lib.hid (hT.below hb44)
  have E4 := Lib.hid (box25 hB)
  have hz4 : w3.heap.size + 1 ≤ w4.heap.size := by have := hB.size; simpa using this
  clear hB B3 T3 U3 hT hb44
  go_wp2_with fail
  refine (HK2.out _ _ _ _ _ U4.out T4.out).mono ?_
  rintro e w5 ⟨rfl, hB⟩
  have B5 := Lib.hid (below_box B4.out B4.out.size hB)
  have T5 := Lib.hid (T4.out.below hB)
  have V5 := Lib.hid (V4.out.below hB)
  have F5 := Lib.hid (box25 hB)
  have b5 : Below w4.heap.size w4 w5 := below_box (Below.refl _ _) (Nat.le_refl _) hB
  have e50 : w5.cell? ⟨w3.heap.size, 0, none⟩ = some (.int .i64 0) := (b5.cell (p := ⟨w3.heap.size, 0, none⟩) (by simp only; omega)).trans E4.out.1
  have e51 : w5.cell? ⟨w3.heap.size, 1, none⟩ = some (.int .i64 0) := (b5.cell (p := ⟨w3.heap.size, 1, none⟩) (by simp only; omega)).trans E4.out.2
  have E50 := Lib.hid e50
  have E51 := Lib.hid e51
  clear hB B4 T4 U4 V4 E4 b5 hz4 e50 e51
  go_wp2_with fail
  refine (HK3.out _ _ _ _ _ V5.out T5.out).mono ?_
  rintro e w6 ⟨rfl, hB⟩
  have B6 := Lib.hid (B5.out.trans (hB.mono B5.out.size))
  have k := fun a v (h : w5.cell? a = some v) => (hB.cell (World.block_lt_of_cell? _ _ h)).trans h
  have e0 := k _ _ E50.out
  have e1 := k _ _ E51.out
  have f0 := k _ _ F5.out.1
  have f1 := k _ _ F5.out.2
  clear hB B5 T5 V5 k
  go_wp2
  go_ret
  exact ⟨by simp, B6.out⟩

theorem walk (s : ByteArray) (w : World) : Calls Try.prog 6 #[.string s] w fun e w' => e = .returned (.bool true) ∧ Below w.heap.size w w' := by
  by_cases hs : s.size ≤ 2000
  · rcases lexed_cases s.data.toList with ⟨h, hl⟩ | ⟨a, c, h, hl⟩
    · obtain ⟨k2, g2⟩ := toks_join [32] blank_skip blank_sep s.data.toList h
      obtain ⟨k3, g3⟩ := toks_join [47, 47, 32, 120, 34, 32, 47, 47, 10] remark_skip remark_sep s.data.toList h
      exact walk_good s w hs _ _ _ ⟨(joinL [32] (toks s.data.toList)).toArray⟩ ⟨(joinL [47, 47, 32, 120, 34, 32, 47, 47, 10] (toks s.data.toList)).toArray⟩ hl rfl rfl (lexed_good' g2) (lexed_good' g3) k2 k3
        (fun t ht => by have := (toks_ok s.data.toList t ht).2.2.1; rw [size_toList] at this; omega)
    · exact walk_bad s w hs a c hl (bad_some h).1
  · exact walk_long s w (by omega)

set_option maxRecDepth 100000 in
theorem lifted (os : Os) (started : os.Started) (H : Type) (enc : TypeId × Value → H) :
    ReturnsInHanded {} Try.checked os 6 .any (Rows.lexJoinsSpec.pre6 enc Try.prog Try.f6 Rows.lexJoinsRow.domain false) (Rows.lexJoinsSpec.post enc Try.prog Try.f6 false true false false) := by
  refine returnsInHanded_of_change (C := Try.checked) own started (by kernel_rfl) Try.func6
    (ChangeSpec.witness6 (enc := enc) (C := Try.checked) false ⟨#[], #[.string .empty], []⟩ 8 (by kernel_rfl) (by kernel_rfl) (by kernel_rfl) (by kernel_rfl)) ?_
  intro W base args ds gs before hval0 hW hcnd _
  have hval : ∀ (j : Nat) t v, Try.f6.params[j]? = some t → args[j]? = some v → Value.okWide Try.prog W .any base t v := hval0
  have hW' := hW
  obtain ⟨p, q, hA0, hV, rfl, hfz, hnd⟩ := hW
  have hA : DataW.TrodAll enc Try.prog W 0 (fun _ => true) true Try.f6.params.toList args.toList ds p := hA0
  rw [Try.params6] at hA hval
  obtain ⟨v0, vs0, d0, ds0, p0, q0, hargs, rfl, rfl, h0, r0⟩ := trodAll_cons hA
  obtain ⟨rfl, rfl, rfl⟩ := trodAll_nil r0
  obtain rfl : args = #[v0] := by cases args; simp_all
  obtain ⟨rfl, rfl⟩ := trodVars_none hV
  obtain ⟨a0, rfl, rfl, rfl, w0⟩ := open_string Try.underlying9 (hval 0 9 v0 rfl rfl) h0
  clear hA0 hval0
  simp only [List.append_nil] at hW'
  refine (walk a0 W).mono fun e W' ⟨he, hg⟩ => ?_
  subst he
  exact ⟨_, rfl, _, _, _, [], [], [], hW', (trodAll_cons_mk (shut_bool Try.underlying4 _) trodAll_mk0), (trodAll_cons_mk (shut_string Try.underlying9 w0) trodAll_mk0), rfl, hg.frame _, fun h => by cases h⟩

theorem over : Rows.lexJoinsRow.holds Try.pinned (OpenSpec.ofChange Rows.lexJoinsSpec) :=
  OpenClaim.holds_of_wide 6 Try.f6 rfl rfl rfl rfl rfl rfl rfl ⟨rfl, rfl, rfl, rfl, rfl⟩ rfl rfl rfl rfl rfl (by kernel_rfl) Try.func6 (by kernel_rfl)
    (of_decide_eq_true (by kernel_rfl)) (by unfold Func.isWrapper; first | (rw [if_pos (by decide +kernel)]; kernel_rfl) | (rw [if_neg (by decide +kernel)]; exact ⟨rfl, rfl⟩))
    (fun os started H enc _ => lifted os started H enc)

/-- LexJoins answers true. -/
theorem proved : Rows.LexJoinsSaid :=
  over

end Go.Proofs.Ytddpmlmhlegheaa.lexJoins
