/-
  The statements' own helper: nodes, cut to sixty, their imports to forty. Condition: none beside the lists' own lengths.
-/
import Derived.Test.YtgnhcaepkgbieaaLwa
import Derived.Deep.DeepCutAuto
namespace Go.Proofs.Ytgnhcaepkgbieaa
open Go.RowKit

/-- A list of packages lies there, each list of imports no longer than its room. -/
def AtE (w : World) (o : Option Addr) (xs : List ND) : Prop := ∀ (i : Nat) (n : ND), xs[i]? = some n → ∃ (a : Addr) (o' : Option Addr) (c : Nat), o = some a ∧ w.cell? (a.add (i * 2)) = some (.string n.name) ∧
  w.cell? ⟨(a.add (i * 2)).block, (a.add (i * 2)).off + 1, none⟩ = some (.slice o' n.imps.length c) ∧ AtS w o' n.imps ∧ n.imps.length ≤ c
def cut40 (n : ND) : ND := ⟨n.name, n.imps.take 40⟩
def fewD (xs : List ND) : List ND := (xs.take 60).map cut40
theorem fewD_take (xs : List ND) (j : Nat) (hj : j < xs.length) (h60 : j < 60) : (fewD xs).take (j + 1) = (fewD xs).take j ++ [cut40 xs[j]] := by
  have : (fewD xs)[j]? = some (cut40 xs[j]) := by
    unfold fewD
    rw [List.getElem?_map, List.getElem?_take, if_pos h60, List.getElem?_eq_getElem hj]
    rfl
  rw [List.take_add_one, this]
  rfl
theorem fewD_len (xs : List ND) : (fewD xs).length = min 60 xs.length := by unfold fewD; simp

set_option maxRecDepth 100000 in
set_option maxHeartbeats 4000000 in
/-- Few of them. -/
theorem fewL_any (xs : List ND) (o : Option Addr) (n c : Nat) (w : World) (hn : xs.length = n) (hnc : n ≤ c) (hc : c ≤ 9223372036854775807) (h : AtE w o xs) (hcs : ∀ x ∈ xs, x.imps.length ≤ 9223372036854775807) :
    Calls Try.prog 11 #[.slice o n c] w fun e w' => ∃ (L : List NV) (o' : Option Addr) (m c' : Nat), e = .returned (.slice o' m c') ∧ L.length = m ∧ L.map (·.1) = fewD xs ∧
      w'.ownsRow w.heap.size 36 2 (.slice o' m c') m (dC L) ∧ Lies w' L ∧ Below w.heap.size w w' := by
  have HX := Lib.hid h
  have HN := Lib.hid hn
  clear h hn
  go_enter Try.func11, Try.ntmps11
  go_upto_if 8 with fail
  go_cut [0] from 6 to 10 (fun v wx => ∃ N : Nat, v = .slice o N c ∧ Hid (N = min 60 n) ∧ wx = w)
  case first =>
    by_cases h60 : 60 < n
    · have h1 : (60 : Int) < (n : Int) := by omega
      have h2 : (60 : Int) ≤ (c : Int) := by omega
      go_wp2
      go_meet
      exact ⟨60, rfl, by show _ = _; omega, rfl⟩
    · have h1 : ¬ ((60 : Int) < (n : Int)) := by omega
      go_wp2
      go_meet
      exact ⟨n, rfl, by show _ = _; omega, rfl⟩
  case rest =>
    obtain ⟨N, rfl, HNN, rfl⟩ := hcut
    go_wp2
    go_loopw [3, 4] (fun v i wr => ∃ (j : Nat) (L : List NV) (o' : Option Addr) (cap : Nat), v = .slice o' j cap ∧ i = .int .i64 (j : Nat) ∧ Hid (j ≤ N) ∧ Hid (L.length = j) ∧ Hid (L.map (·.1) = (fewD xs).take j) ∧ Hid (wr.ownsRow wc.heap.size 36 2 (.slice o' j cap) j (dC L)) ∧ Hid (Lies wc L) ∧ Hid (Below wc.heap.size wc wr)) (fun _ i _ => N - (RowKit.intOf i).toNat)
    case atStart => exact ⟨0, [], none, 0, rfl, rfl, Nat.zero_le _, by show _ = _; rfl, by show _ = _; rfl, World.ownsRow_nil _ _ _ _, by show Lies _ _; intro p hp; simp at hp, Below.refl _ _⟩
    case round =>
      obtain ⟨j, L, o', cap, rfl, rfl, HJ, HLN, HF, HR, HL, HB⟩ := hrel
      have hbs := Lib.hid HB.out.size
      by_cases hj : j < N
      · have hj' : ((j : Int) < (N : Int)) := by omega
        have hj0 : (0 : Int) ≤ (j : Int) := by omega
        have hN := HNN.out
        have hwj := IntWalk.i64_in ((j : Int) + 1) ⟨by omega, by omega⟩
        have hjx : j < xs.length := by have := HN.out; omega
        obtain ⟨a, oi, ci, ho, hcn, hci, his, hle⟩ := HX.out j _ (List.getElem?_eq_getElem hjx)
        subst ho
        have HT := Lib.hid (fewD_take xs j hjx (by omega))
        have hq := (HB.out.cell (World.block_lt_of_cell? _ _ hcn)).trans hcn
        have hq2 := (HB.out.cell (World.block_lt_of_cell? _ _ hci)).trans hci
        have HIS := Lib.hid his
        have HCN := Lib.hid hcn
        have HCI := Lib.hid hci
        have HJN := Lib.hid hj
        have hkm := hcs _ (List.getElem_mem hjx)
        generalize xs[j] = y at *
        generalize hk : y.imps.length = k at *
        have HK := Lib.hid hk
        have HLL : Hid (Lies wc (L ++ [((cut40 y, oi, ci) : NV)])) := by
          intro p hp
          rcases List.mem_append.1 hp with hp | hp
          · exact HL.out p hp
          · rw [List.mem_singleton.1 hp]
            refine ⟨?_, HIS.out.take 40⟩
            show (y.imps.take 40).length ≤ _
            rw [List.length_take]
            omega
        clear hcn hci his hk hj hjx hN
        by_cases h40 : 40 < k
        · have h1 : (40 : Int) < (k : Int) := by omega
          have HDC : Hid (dC (L ++ [((cut40 y, oi, ci) : NV)]) = dC L ++ [.string y.name, .slice oi 40 ci]) := by
            show _ = _
            unfold dC
            rw [List.flatMap_append]
            have e : (cut40 y).imps.length = 40 := by show (y.imps.take 40).length = _; rw [List.length_take]; have := HK.out; omega
            simp [e]
            rfl
          have h2 : (40 : Int) ≤ (ci : Int) := by omega
          go_wp2_with (refine wpList_append_apart rfl _ _ 22 36 rfl (.agg #[.string ⟨#[]⟩, .slice none 0 0]) 2 40 Try.underlying22 info36s rfl (by decide) wc.heap.size (.slice o' j cap) j (dC L) [.string y.name, .slice oi 40 ci] rfl (HR.out.alloc _) (by rw [World.size_alloc]; rfl) rfl (by simp [Value.oneCell']) (by rw [World.size_alloc]; have := hbs.out; omega) (by have := HJN.out; have := HNN.out; omega) (by have := HJN.out; have := HNN.out; unfold maxLen; omega) ?_; intro o4 cap4 w4 hrow hbel _; have HR4 := Lib.hid hrow; have HB4 := Lib.hid (HB.out.trans (((Below.refl wc.heap.size wr).alloc hbs.out _).trans hbel)); clear hrow hbel)
          case roundEnd =>
            have := HJN.out
            exact ⟨⟨j + 1, L ++ [((cut40 y, oi, ci) : NV)], o4, cap4, rfl, by push_cast; rfl, by show _ ≤ _; omega, by show _ = _; rw [List.length_append, HLN.out]; rfl, by show _ = _; rw [List.map_append, HF.out, HT.out]; rfl, by show World.ownsRow _ _ _ _ _ _ _; rw [HDC.out]; exact HR4.out, HLL, HB4⟩, by simp [RowKit.intOf]; omega⟩
        · have h1 : ¬ ((40 : Int) < (k : Int)) := by omega
          have HDC : Hid (dC (L ++ [((cut40 y, oi, ci) : NV)]) = dC L ++ [.string y.name, .slice oi k ci]) := by
            show _ = _
            unfold dC
            rw [List.flatMap_append]
            have e : (cut40 y).imps.length = k := by show (y.imps.take 40).length = _; rw [List.length_take]; have := HK.out; omega
            simp [e]
            rfl
          go_wp2_with (refine wpList_append_apart rfl _ _ 22 36 rfl (.agg #[.string ⟨#[]⟩, .slice none 0 0]) 2 40 Try.underlying22 info36s rfl (by decide) wc.heap.size (.slice o' j cap) j (dC L) [.string y.name, .slice oi k ci] rfl (HR.out.alloc _) (by rw [World.size_alloc]; rfl) rfl (by simp [Value.oneCell']) (by rw [World.size_alloc]; have := hbs.out; omega) (by have := HJN.out; have := HNN.out; omega) (by have := HJN.out; have := HNN.out; unfold maxLen; omega) ?_; intro o4 cap4 w4 hrow hbel _; have HR4 := Lib.hid hrow; have HB4 := Lib.hid (HB.out.trans (((Below.refl wc.heap.size wr).alloc hbs.out _).trans hbel)); clear hrow hbel)
          case roundEnd =>
            have := HJN.out
            exact ⟨⟨j + 1, L ++ [((cut40 y, oi, ci) : NV)], o4, cap4, rfl, by push_cast; rfl, by show _ ≤ _; omega, by show _ = _; rw [List.length_append, HLN.out]; rfl, by show _ = _; rw [List.map_append, HF.out, HT.out]; rfl, by show World.ownsRow _ _ _ _ _ _ _; rw [HDC.out]; exact HR4.out, HLL, HB4⟩, by simp [RowKit.intOf]; omega⟩
      · have hj' : ¬ ((j : Int) < (N : Int)) := by omega
        have hle := HJ.out
        obtain rfl : j = N := by omega
        go_wp2
        go_ret
        refine ⟨L, o', j, cap, rfl, HLN.out, ?_, HR.out, HL.out.below HB.out, HB.out⟩
        rw [HF.out]
        exact List.take_of_length_le (by rw [fewD_len, HN.out, HNN.out]; omega)

end Go.Proofs.Ytgnhcaepkgbieaa
