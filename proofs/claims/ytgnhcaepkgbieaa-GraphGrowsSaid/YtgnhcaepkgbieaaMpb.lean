/-
  The program's own map of names to the first package of each. Condition: at most a thousand packages, of at most a thousand imports, and names of a length that the model's reader reads.
-/
import Derived.Test.YtgnhcaepkgbieaaMpa
import Derived.Carry
namespace Go.Proofs.Ytgnhcaepkgbieaa
open Go.RowKit Go.Maps

structure Few (xs : List ND) : Prop where
  len : xs.length ≤ 1000
  imps : ∀ n ∈ xs, n.imps.length ≤ 1000 ∧ n.name.size ≤ 281474976710656 ∧ ∀ s ∈ n.imps, s.size ≤ 281474976710656
theorem le_maxLen {k : Nat} (h : k ≤ 281474976710656) : k ≤ maxLen := Nat.le_trans h (by decide)
/-- The place of the first one of a name. -/
def firstI (l : List Nd) (a : Nm) : Option Nat := l.findIdx? (fun n => n.name == a)
theorem firstI_snoc (l : List Nd) (n : Nd) (a : Nm) : firstI (l ++ [n]) a = if (firstI l n.name).isSome then firstI l a else putF (firstI l) n.name l.length a := by
  unfold firstI putF
  rw [List.findIdx?_append]
  by_cases ha : a = n.name
  · subst ha
    cases hf : l.findIdx? (fun m => m.name == n.name) with
    | some i => simp
    | none => simp
  · have : ([n] : List Nd).findIdx? (fun m => m.name == a) = none := by
      rw [List.findIdx?_eq_none_iff]
      intro x hx
      rw [List.mem_singleton.1 hx]
      simpa using fun e => ha e.symm
    rw [this, if_neg ha]
    have e : ∀ x : Option Nat, x.or (Option.map (fun i => i + l.length) none) = x := fun x => by cases x <;> rfl
    rw [e]
    split <;> rfl
theorem firstI_some {l : List Nd} {a : Nm} {i : Nat} (h : firstI l a = some i) : ∃ n, l[i]? = some n ∧ nodeN l a = some n ∧ n.name = a := by
  unfold firstI at h
  rw [List.findIdx?_eq_some_iff_getElem] at h
  obtain ⟨hi, h1, h2⟩ := h
  refine ⟨l[i], List.getElem?_eq_getElem hi, ?_, by simpa using h1⟩
  unfold nodeN
  rw [List.find?_eq_some_iff_getElem]
  exact ⟨h1, i, hi, rfl, fun j hj => by simpa using h2 j hj⟩
theorem firstI_isSome {l : List Nd} {a : Nm} : (firstI l a).isSome = true ↔ a ∈ namesN l := by
  unfold firstI namesN
  rw [List.findIdx?_isSome, List.any_eq_true, List.mem_map]
  constructor
  · rintro ⟨n, h1, h2⟩; exact ⟨n, h1, by simpa using h2⟩
  · rintro ⟨n, h1, h2⟩; exact ⟨n, h1, by simpa using h2⟩
theorem firstI_lt {l : List Nd} {a : Nm} {i : Nat} (h : firstI l a = some i) : i < l.length := by
  obtain ⟨n, hn, _⟩ := firstI_some h
  exact (List.getElem?_eq_some_iff.1 hn).1

set_option maxRecDepth 100000 in
set_option maxHeartbeats 4000000 in
/-- The first of each name. -/
theorem firstsP_any (xs : List ND) (o : Option Addr) (c : Nat) (w : World) (h : AtD w o xs) (hf : Few xs) :
    Calls Try.prog 36 #[.slice o xs.length c] w fun e w' => e = .returned (.map (some w.heap.size)) ∧ IsM w' w.heap.size xs.length (firstI (xs.map toNd)) ∧ Below w.heap.size w w' := by
  have HX := Lib.hid h
  have HF := Lib.hid hf
  have hlen := hf.len
  have hmm := @run_makeMap Try.prog
  clear h hf
  go_enter Try.func36, Try.ntmps36
  go_wp2
  go_loopw [11] (fun i wr => ∃ j : Nat, i = .int .i64 (j : Nat) ∧ Hid (j ≤ xs.length) ∧ Hid (IsM wr w.heap.size j (firstI ((xs.take j).map toNd))) ∧ Hid (Below w.heap.size w wr)) (fun i _ => xs.length - (RowKit.intOf i).toNat)
  case atStart => exact ⟨0, rfl, Nat.zero_le _, IsM.made w, (Below.refl _ _).alloc (Nat.le_refl _) _⟩
  case round =>
    obtain ⟨j, rfl, HJ, HM, HB⟩ := hrel
    by_cases hj : j < xs.length
    · have hj' : ((j : Int) < (xs.length : Int)) := by omega
      have hj0 : (0 : Int) ≤ (j : Int) := by omega
      have hj1 : (j : Int) + 1 ≤ 9223372036854775807 := by omega
      have hj2 : -9223372036854775808 ≤ (j : Int) + 1 := by omega
      have HMX : Hid (j < maxLen) := by show _ < _; unfold maxLen; omega
      have HJ9 : Hid (j ≤ 9223372036854775807) := by show _ ≤ _; omega
      obtain ⟨a, oi, ci, ho, hc, hi, hil, his⟩ := HX.out j _ (List.getElem?_eq_getElem hj)
      subst ho
      have hq := (HB.out.cell (World.block_lt_of_cell? _ _ hc)).trans hc
      have hq2 := (HB.out.cell (World.block_lt_of_cell? _ _ hi)).trans hi
      have HSZ := Lib.hid (le_maxLen (HF.out.imps xs[j] (List.getElem_mem hj)).2.1)
      have HT : Hid (firstI ((xs.take (j + 1)).map toNd) = fun a => if (firstI ((xs.take j).map toNd) (nm xs[j].name)).isSome then firstI ((xs.take j).map toNd) a else putF (firstI ((xs.take j).map toNd)) (nm xs[j].name) j a) := by
        show _ = _
        funext a
        rw [List.take_add_one, List.getElem?_eq_getElem hj, Option.toList_some, List.map_append, List.map_singleton, firstI_snoc, List.length_map, List.length_take, Nat.min_eq_left (Nat.le_of_lt hj)]
        rfl
      have hbs := Lib.hid HB.out.size
      clear hc hi hil his
      generalize xs[j] = y at *
      generalize firstI ((xs.take j).map toNd) = F0 at *
      have HB1 : ∀ o1, Hid (Below w.heap.size w (wr.alloc o1)) := fun o1 => HB.out.alloc hbs.out o1
      have HM1 : ∀ o1, Hid (IsM (wr.alloc o1) w.heap.size j F0) := fun o1 => (Turn.refl (fun _ => False) wr).alloc o1 |>.isM HM.out (by simp)
      cases hs : (F0 (nm y.name)).isSome with
      | true =>
        have HT2 : Hid (firstI ((xs.take (j + 1)).map toNd) = F0) := by show _ = _; rw [HT.out]; funext a; rw [hs]; rfl
        clear HT
        go_wp2_with (at_lookup; refine wpList_look_ok _ rfl _ _ rfl w.heap.size j F0 rfl (HM1 _).out y.name rfl HSZ.out ?_; intro cc hcc; clear hcc; rw [hs])
        case roundEnd => exact ⟨⟨j + 1, by push_cast; rfl, by show _ ≤ _; omega, by rw [HT2.out]; exact (HM1 _).out.mono (by omega), HB1 _⟩, by simp [RowKit.intOf]; omega⟩
      | false =>
        have HT2 : Hid (firstI ((xs.take (j + 1)).map toNd) = putF F0 (nm y.name) j) := by show _ = _; rw [HT.out]; funext a; rw [hs]; rfl
        clear HT
        go_wp2_with (first
          | (at_lookup; refine wpList_look_ok _ rfl _ _ rfl w.heap.size j F0 rfl (HM1 _).out y.name rfl HSZ.out ?_; intro cc hcc; clear hcc; rw [hs])
          | (at_mapUpdate; refine wpList_put _ rfl _ _ _ rfl w.heap.size j F0 rfl (HM1 _).out HMX.out y.name rfl HSZ.out j rfl HJ9.out ?_; intro w2 hm2 hg2; have HM2 := Lib.hid hm2; have HB2 := Lib.hid ((HB1 _).out.grown hg2 (Nat.le_trans hbs.out (by simp)) (fun k hk => by cases hk; exact Nat.le_refl _)); clear hm2 hg2))
        case roundEnd => exact ⟨⟨j + 1, by push_cast; rfl, by show _ ≤ _; omega, by rw [HT2.out]; exact HM2.out, HB2⟩, by simp [RowKit.intOf]; omega⟩
    · have hj' : ¬ ((j : Int) < (xs.length : Int)) := by omega
      have hle := HJ.out
      obtain rfl : j = xs.length := by omega
      have hm := HM.out
      rw [List.take_length] at hm
      have HM2 := Lib.hid hm
      clear hm hle
      go_wp2
      go_ret
      exact ⟨rfl, HM2.out, HB.out⟩

end Go.Proofs.Ytgnhcaepkgbieaa
