/-
  The document's own list of the packages that count. Condition: at most a million.
-/
import Derived.Test.YtgnhcaepkgbieaaNmf
namespace Go.Proofs.Ytgnhcaepkgbieaa
open Go.RowKit

theorem names_nv (L : List NV) : nms (L.map (·.1.name)) = namesN (L.map fun p => toNd p.1) := by
  unfold nms namesN
  rw [List.map_map, List.map_map]
  rfl
theorem own_names_n {w : World} {base : Nat} {o : Option Addr} {n cap : Nat} {l : List ByteArray} (h : w.ownsRow base 9 1 (.slice o n cap) n (sC l)) (hl : l.length = n) : AtS w o l := by
  subst hl
  obtain ⟨o', cap', he, ha, _⟩ := own_names h
  simp only [Value.slice.injEq] at he
  obtain ⟨rfl, _, _⟩ := he
  exact ha

theorem fstep_in {out : List Nd} {n : Nd} (h : n.name ∈ namesN out) : fstep out n = out := if_pos h
theorem fstep_out {out : List Nd} {n : Nd} (h : n.name ∉ namesN out) : fstep out n = out ++ [n] := if_neg h
theorem apart_symm {a b : Value} (h : Apart a b) : Apart b a := by
  unfold Apart at h ⊢
  cases hb : b.ownBlock with
  | none => exact .inl rfl
  | some k =>
    right
    rcases h with h | h
    · rw [h]; simp
    · rw [hb] at h; exact fun e => h e.symm
set_option maxRecDepth 100000 in
set_option maxHeartbeats 4000000 in
/-- The packages that count. -/
theorem nodesR_any (xs : List ND) (o : Option Addr) (c : Nat) (w : World) (h : AtD w o xs) (hl : xs.length ≤ 800000) :
    Calls Try.prog 27 #[.slice o xs.length c] w fun e w' => ∃ (L : List NV) (o' : Option Addr) (n c' : Nat), e = .returned (.slice o' n c') ∧ L.length = n ∧ L.map (fun p => toNd p.1) = firstsN (xs.map toNd) ∧ n ≤ xs.length ∧
      w'.ownsRow w.heap.size 36 2 (.slice o' n c') n (dC L) ∧ Lies w' L ∧ Below w.heap.size w w' := by
  have HX := Lib.hid h
  clear h
  go_enter Try.func27, Try.ntmps27
  go_wp2
  go_loopw [3, 4, 5] (fun v u i wr => ∃ (j : Nat) (L : List NV) (ov ou : Option Addr) (n cv cu : Nat), v = .slice ov n cv ∧ u = .slice ou n cu ∧ i = .int .i64 (j : Nat) ∧ Hid (L.length = n) ∧ Hid (n ≤ j) ∧ Hid (j ≤ xs.length) ∧ Hid (L.map (fun p => toNd p.1) = ((xs.take j).map toNd).foldl fstep []) ∧
    Hid (wr.ownsRow w.heap.size 36 2 (.slice ov n cv) n (dC L)) ∧ Hid (wr.ownsRow w.heap.size 9 1 (.slice ou n cu) n (sC (L.map (·.1.name)))) ∧ Hid (Lies w L) ∧ Hid (Apart (.slice ov n cv) (.slice ou n cu)) ∧ Hid (Below w.heap.size w wr)) (fun _ _ i _ => xs.length - (RowKit.intOf i).toNat)
  case atStart => exact ⟨0, [], none, none, 0, 0, 0, rfl, rfl, rfl, by show _ = _; rfl, Nat.le_refl _, Nat.zero_le _, by show _ = _; rfl, World.ownsRow_nil _ _ _ _, World.ownsRow_nil _ _ _ _, by show Lies _ _; intro p hp; simp at hp, by show Apart _ _; exact Or.inl rfl, Below.refl _ _⟩
  case round =>
    obtain ⟨j, L, ov, ou, n, cv, cu, rfl, rfl, rfl, HLN, HNJ, HJ, HF, HR, HS, HL, HA, HB⟩ := hrel
    have hbs := Lib.hid HB.out.size
    have HLM : Hid ((L.map (·.1.name)).length = n) := by show _ = _; rw [List.length_map]; exact HLN.out
    by_cases hj : j < xs.length
    · have hj' : ((j : Int) < (xs.length : Int)) := by omega
      have hj0 : (0 : Int) ≤ (j : Int) := by omega
      have hj1 : (j : Int) + 1 ≤ 9223372036854775807 := by omega
      have hj2 : -9223372036854775808 ≤ (j : Int) + 1 := by omega
      have hn : n ≤ 800000 := by have := HNJ.out; omega
      have HN8 := Lib.hid hn
      obtain ⟨a, oi, ci, ho, hc, hi, hil, his⟩ := HX.out j _ (List.getElem?_eq_getElem hj)
      subst ho
      have hq := (HB.out.cell (World.block_lt_of_cell? _ _ hc)).trans hc
      have HT : Hid (((xs.take (j + 1)).map toNd).foldl fstep [] = fstep (((xs.take j).map toNd).foldl fstep []) (toNd xs[j])) := by
        show _ = _
        rw [List.take_add_one, List.getElem?_eq_getElem hj, Option.toList_some, List.map_append, List.foldl_append]
        rfl
      have HC := Lib.hid hc
      have HI := Lib.hid hi
      have HIS := Lib.hid his
      have HIL := Lib.hid hil
      generalize xs[j] = y at *
      have HH := Lib.hid (by
        have := hasR_any (L.map (·.1.name)) ou cu y.name wr (own_names_n HS.out HLM.out) (by rw [HLM.out]; omega)
        rw [HLM.out] at this
        exact this)
      have hmem : nm y.name ∈ nms (L.map (·.1.name)) ↔ (toNd y).name ∈ namesN (((xs.take j).map toNd).foldl fstep []) := by
        rw [names_nv, HF.out]
        exact Iff.rfl
      have HM := Lib.hid hmem
      clear hc hi hil his hmem hn
      go_wp2_with fail
      refine HH.out.mono ?_
      rintro e w2 ⟨rfl, hw⟩
      have hw' := hw.symm
      subst hw'
      clear hw HH
      by_cases hin : nm y.name ∈ nms (L.map (·.1.name))
      · have HT2 : Hid (L.map (fun p => toNd p.1) = ((xs.take (j + 1)).map toNd).foldl fstep []) := by
          show _ = _
          rw [HT.out, HF.out, fstep_in (HM.out.1 hin)]
        rw [decide_eq_true hin]
        clear HT HM hin
        go_wp2
        case roundEnd => exact ⟨⟨j + 1, L, ov, ou, n, cv, cu, rfl, rfl, by push_cast; rfl, HLN, by have := HNJ.out; show _ ≤ _; omega, by show _ ≤ _; omega, HT2, HR, HS, HL, HA, HB⟩, by simp [RowKit.intOf]; omega⟩
      · have HT2 : Hid ((L ++ [(y, oi, ci)]).map (fun p => toNd p.1) = ((xs.take (j + 1)).map toNd).foldl fstep []) := by
          show _ = _
          rw [HT.out, fstep_out (fun h => hin (HM.out.2 h)), ← HF.out, List.map_append]
          rfl
        have HLL : Hid (Lies w (L ++ [((y, oi, ci) : NV)])) := by
          intro p hp
          rcases List.mem_append.1 hp with hp | hp
          · exact HL.out p hp
          · rw [List.mem_singleton.1 hp]; exact ⟨HIL.out, HIS.out⟩
        have HP := Lib.hid (show (L ++ [((y, oi, ci) : NV)]).map (·.1.name) = L.map (·.1.name) ++ [y.name] by rw [List.map_append]; rfl)
        have HD := Lib.hid (show dC (L ++ [((y, oi, ci) : NV)]) = dC L ++ [.string y.name, .slice oi y.imps.length ci] by unfold dC; rw [List.flatMap_append]; rfl)
        have HS9 := Lib.hid (show sC (L.map (·.1.name) ++ [y.name]) = sC (L.map (·.1.name)) ++ [.string y.name] by unfold sC; rw [List.map_append]; rfl)
        have HQ := Lib.hid (fun (W : World) (hW : Below w.heap.size w W) => And.intro ((hW.cell (World.block_lt_of_cell? _ _ HC.out)).trans HC.out) ((hW.cell (World.block_lt_of_cell? _ _ HI.out)).trans HI.out))
        rw [decide_eq_false hin]
        clear HT HM hin hq
        have hq := (HQ.out wr HB.out).1
        go_wp2_with (first
          | (refine wpList_append_apart rfl _ _ 22 36 rfl (.agg #[.string ⟨#[]⟩, .slice none 0 0]) 2 40 Try.underlying22 info36s rfl (by decide) w.heap.size (.slice ov n cv) n (dC L) [.string y.name, .slice oi y.imps.length ci] rfl HR3.out rfl rfl (by simp [Value.oneCell']) hbs3.out (by have := HN8.out; omega) (by have := HN8.out; unfold maxLen; omega) ?_; intro o4 cap4 w4 hrow hbel hkeep; have HR4 := Lib.hid hrow; have HB4 := Lib.hid (HB3.out.trans hbel); have HK4 := Lib.hid (hkeep _ _ _ _ _ HS3.out HA3.out); have HL4 := Lib.hid hbel; clear hrow hbel hkeep)
          | (refine wpList_append_apart rfl _ _ 25 9 rfl (.string ⟨#[]⟩) 1 16 Try.underlying25 info9s rfl (by decide) w.heap.size (.slice ou n cu) n (sC (L.map (·.1.name))) [.string y.name] rfl HS.out rfl rfl (by simp [Value.oneCell']) hbs.out (by have := HN8.out; omega) (by have := HN8.out; unfold maxLen; omega) ?_; intro o3 cap3 w3 hrow hbel hkeep; have HS3 := Lib.hid hrow; have HB3 := Lib.hid (HB.out.trans hbel); have HK3 := hkeep _ _ _ _ _ HR.out HA.out; have HR3 := Lib.hid HK3.1; have HA3' := HK3.2; have HA3 := Lib.hid (apart_symm HA3'); have hbs3 := Lib.hid HB3.out.size; have hq1 := (HQ.out w3 HB3.out).1; have hq2 := (HQ.out w3 HB3.out).2; clear hrow hbel hkeep HK3 HA3'))
        case roundEnd => exact ⟨⟨j + 1, L ++ [(y, oi, ci)], o4, o3, n + 1, cap4, cap3, rfl, rfl, by push_cast; rfl, by have := HLN.out; show _ = _; simp; omega, by have := HNJ.out; show _ ≤ _; omega, by show _ ≤ _; omega, HT2, by rw [HD.out]; exact HR4, by rw [HP.out, HS9.out]; exact HK4.out.1, HLL, by exact Lib.hid (apart_symm HK4.out.2), HB4⟩, by simp [RowKit.intOf]; omega⟩
    · have hj' : ¬ ((j : Int) < (xs.length : Int)) := by omega
      have hle := HJ.out
      obtain rfl : j = xs.length := by omega
      have hf := HF.out
      rw [List.take_length] at hf
      have HF2 := Lib.hid hf
      clear hf hle
      go_wp2
      go_ret
      exact ⟨L, ov, n, cv, rfl, HLN.out, HF2.out, HNJ.out, HR.out, HL.out.below HB.out, HB.out⟩

end Go.Proofs.Ytgnhcaepkgbieaa
