/-
  Packages in memory; the document's own list of their names. Condition: at most a million.
-/
import Derived.Test.YtgnhcaepkgbieaaNmc
namespace Go.Proofs.Ytgnhcaepkgbieaa
open Go.RowKit

/-- A package, with the bytes of its names. -/
structure ND where
  name : ByteArray
  imps : List ByteArray
def toNd (n : ND) : Nd := ⟨nm n.name, nms n.imps⟩
/-- A list of packages lies there. -/
def AtD (w : World) (o : Option Addr) (xs : List ND) : Prop := ∀ (i : Nat) (n : ND), xs[i]? = some n → ∃ (a : Addr) (o' : Option Addr) (c : Nat), o = some a ∧ w.cell? (a.add (i * 2)) = some (.string n.name) ∧
  w.cell? ⟨(a.add (i * 2)).block, (a.add (i * 2)).off + 1, none⟩ = some (.slice o' n.imps.length c) ∧ n.imps.length ≤ 900000 ∧ AtS w o' n.imps
theorem AtD.below {w w' : World} {o : Option Addr} {xs : List ND} (h : AtD w o xs) (hb : Below w.heap.size w w') : AtD w' o xs := fun i n hn => by
  obtain ⟨a, o', c, ho, h1, h2, h3, h4⟩ := h i n hn
  exact ⟨a, o', c, ho, (hb.cell (World.block_lt_of_cell? _ _ h1)).trans h1, (hb.cell (World.block_lt_of_cell? _ _ h2)).trans h2, h3, h4.below hb⟩
theorem AtD.take {w : World} {o : Option Addr} {xs : List ND} (h : AtD w o xs) (k : Nat) : AtD w o (xs.take k) := fun i n hn => by
  rw [List.getElem?_take] at hn
  split at hn
  · exact h i n hn
  · cases hn
theorem names_nd (xs : List ND) : nms (xs.map (·.name)) = namesN (xs.map toNd) := by
  unfold nms namesN
  rw [List.map_map, List.map_map]
  rfl

set_option maxRecDepth 100000 in
set_option maxHeartbeats 4000000 in
/-- The names of packages. -/
theorem namesR_any (xs : List ND) (o : Option Addr) (c : Nat) (w : World) (h : AtD w o xs) (hl : xs.length ≤ 900000) :
    Calls Try.prog 22 #[.slice o xs.length c] w fun e w' => ∃ o' c', e = .returned (.slice o' xs.length c') ∧ w'.ownsRow w.heap.size 9 1 (.slice o' xs.length c') xs.length (sC (xs.map (·.name))) ∧ Below w.heap.size w w' := by
  have HX := Lib.hid h
  clear h
  go_enter Try.func22, Try.ntmps22
  go_wp2
  go_loopw [3, 4] (fun v i wr => ∃ (j : Nat) (o' : Option Addr) (cap : Nat), v = .slice o' j cap ∧ i = .int .i64 (j : Nat) ∧ Hid (j ≤ xs.length) ∧ Hid (wr.ownsRow w.heap.size 9 1 (.slice o' j cap) j (sC ((xs.take j).map (·.name)))) ∧ Hid (Below w.heap.size w wr)) (fun _ i _ => xs.length - (RowKit.intOf i).toNat)
  case atStart => exact ⟨0, none, 0, rfl, rfl, Nat.zero_le _, World.ownsRow_nil _ _ _ _, Below.refl _ _⟩
  case round =>
    obtain ⟨j, o', cap, rfl, rfl, HJ, HR, HB⟩ := hrel
    have hbs := Lib.hid HB.out.size
    by_cases hj : j < xs.length
    · have hj' : ((j : Int) < (xs.length : Int)) := by omega
      have hj0 : (0 : Int) ≤ (j : Int) := by omega
      have hj1 : (j : Int) + 1 ≤ 9223372036854775807 := by omega
      have hj2 : -9223372036854775808 ≤ (j : Int) + 1 := by omega
      obtain ⟨a, o2, c2, ho, hc, _⟩ := HX.out j _ (List.getElem?_eq_getElem hj)
      subst ho
      have hq := (HB.out.cell (World.block_lt_of_cell? _ _ hc)).trans hc
      have HT : Hid ((xs.take (j + 1)).map (·.name) = (xs.take j).map (·.name) ++ [xs[j].name]) := by
        show _ = _
        rw [List.take_add_one, List.getElem?_eq_getElem hj, Option.toList_some, List.map_append]
        rfl
      have HLN : Hid (((xs.take j).map (·.name)).length = j) := by show _ = _; rw [List.length_map, List.length_take]; omega
      clear hc
      generalize xs[j].name = y at *
      generalize (xs.take j).map (·.name) = L at *
      go_wp2_with (refine wpList_append_name rfl _ _ rfl w.heap.size (.slice o' j cap) j L y rfl HLN.out HR.out rfl hbs.out (by omega) ?_; intro o3 cap3 w' hrow hbel; have HR' := Lib.hid hrow; have HB' := Lib.hid (HB.out.trans hbel); clear hrow hbel)
      case roundEnd => exact ⟨⟨j + 1, o3, cap3, rfl, by push_cast; rfl, by show _ ≤ _; omega, by rw [HT.out]; exact HR', HB'⟩, by simp [RowKit.intOf]; omega⟩
    · have hj' : ¬ ((j : Int) < (xs.length : Int)) := by omega
      have hle := HJ.out
      obtain rfl : j = xs.length := by omega
      have hr := HR.out
      rw [List.take_length] at hr
      have HR2 := Lib.hid hr
      clear hr hle
      go_wp2
      go_ret
      exact ⟨o', cap, rfl, HR2.out, HB.out⟩

end Go.Proofs.Ytgnhcaepkgbieaa
