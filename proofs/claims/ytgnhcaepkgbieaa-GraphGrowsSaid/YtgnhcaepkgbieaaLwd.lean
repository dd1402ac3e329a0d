/-
  What the statements call, their lengths by letters; an argument that is a list of packages. No condition.
-/
import Derived.Test.YtgnhcaepkgbieaaLwc
import Derived.Test.YtgnhcaepkgbieaaMpe
import Derived.Test.YtgnhcaepkgbieaaNmi
namespace Go.Proofs.Ytgnhcaepkgbieaa
open Go.RowKit

structure Arg (w : World) (o : Option Addr) (l : List ND) (n c : Nat) : Prop where
  len : l.length = n
  cap : n ≤ c
  max : c ≤ 9223372036854775807
  at_ : AtE w o l
  imps : ∀ x ∈ l, x.imps.length ≤ 9223372036854775807
  small : ∀ x ∈ l, x.name.size ≤ 281474976710656 ∧ ∀ s ∈ x.imps, s.size ≤ 281474976710656
theorem AtE.below {w w' : World} {o : Option Addr} {l : List ND} (h : AtE w o l) (hb : Below w.heap.size w w') : AtE w' o l := fun i n hn => by
  obtain ⟨a, o', c, ho, h1, h2, h3, h4⟩ := h i n hn
  exact ⟨a, o', c, ho, (hb.cell (World.block_lt_of_cell? _ _ h1)).trans h1, (hb.cell (World.block_lt_of_cell? _ _ h2)).trans h2, h3.below hb, h4⟩
theorem few_fewD {l : List ND} (h : ∀ x ∈ l, x.name.size ≤ 281474976710656 ∧ ∀ s ∈ x.imps, s.size ≤ 281474976710656) : Few (fewD l) := by
  refine ⟨by rw [fewD_len]; omega, fun x hx => ?_⟩
  unfold fewD at hx
  obtain ⟨y, hy, rfl⟩ := List.mem_map.1 hx
  have hs := h y (List.mem_of_mem_take hy)
  refine ⟨?_, hs.1, fun s hs' => hs.2 s (List.mem_of_mem_take hs')⟩
  show (y.imps.take 40).length ≤ _
  rw [List.length_take]
  omega
/-- Few of an argument. -/
theorem fewA_any {w : World} {o : Option Addr} {l : List ND} {n c : Nat} (h : Arg w o l n c) (W : World) (hb : Below w.heap.size w W) :
    Calls Try.prog 11 #[.slice o n c] W fun e w' => ∃ (o' : Option Addr) (m c' : Nat), e = .returned (.slice o' m c') ∧ (fewD l).length = m ∧ m ≤ 60 ∧ m ≤ c' ∧ c' ≤ 9223372036854775807 ∧ AtD w' o' (fewD l) ∧ Below W.heap.size W w' := by
  refine (fewL_any l o n c W h.len h.cap h.max (h.at_.below hb) h.imps).mono ?_
  rintro e w' ⟨L, o', m, c', rfl, hL, hf, hrow, hlies, hB⟩
  have hm : (fewD l).length = m := by rw [← hf, List.length_map]; exact hL
  have h60 : m ≤ 60 := by rw [← hm, fewD_len]; omega
  have hc : m ≤ c' ∧ c' ≤ 9223372036854775807 := by
    rcases hrow.2 with ⟨hv, h0⟩ | ⟨g, cap', cur, hv, _, _, h4, h5, _⟩
    · simp only [Value.slice.injEq] at hv
      omega
    · simp only [Value.slice.injEq] at hv
      have : maxLen = 9223372036854775807 := rfl
      omega
  exact ⟨o', m, c', rfl, hm, h60, hc.1, hc.2, by rw [← hf]; exact own_nodes hrow hL hlies, hB⟩
theorem orderN {xs : List ND} {o : Option Addr} {m c : Nat} {w : World} (hm : xs.length = m) (h : AtD w o xs) (hf : Few xs) :
    Calls Try.prog 12 #[.slice o m c] w fun e w' => ∃ (O S : List ByteArray) (o1 o2 : Option Addr) (n1 n2 c1 c2 : Nat), e = .returned (.tuple #[.slice o1 n1 c1, .slice o2 n2 c2]) ∧ O.length = n1 ∧ S.length = n2 ∧ n1 ≤ 1000 ∧ n2 ≤ 1000 ∧ RunN (xs.map toNd) [] (nms O) ∧ StkIs (xs.map toNd) (nms O) (nms S) ∧
      AtS w' o1 O ∧ AtS w' o2 S ∧ Below w.heap.size w w' ∧ n1 ≤ c1 := by
  subst hm
  exact orderP_any xs o c w h hf
theorem cyclicN {xs : List ND} {o : Option Addr} {m c : Nat} {w : World} (hm : xs.length = m) (h : AtD w o xs) (hf : Few xs) :
    Calls Try.prog 15 #[.slice o m c] w fun e w' => ∃ (Y : List ByteArray) (o1 : Option Addr) (n1 c1 : Nat), e = .returned (.slice o1 n1 c1) ∧ Y.length = n1 ∧ n1 ≤ 1000 ∧ CycIs (xs.map toNd) (nms Y) ∧ AtS w' o1 Y ∧ Below w.heap.size w w' := by
  subst hm
  exact cyclicP_any xs o c w h hf
theorem readyN {xs : List ND} {o : Option Addr} {m c : Nat} {ds : List ByteArray} {od : Option Addr} {nd cd : Nat} {w : World} (hm : xs.length = m) (h : AtD w o xs) (hf : Few xs) (hnd : ds.length = nd) (hd : AtS w od ds) (hdl : nd ≤ 100000) (hds : ∀ s ∈ ds, s.size ≤ maxLen) :
    Calls Try.prog 17 #[.slice o m c, .slice od nd cd] w fun e w' => ∃ (R : List ByteArray) (o' : Option Addr) (n c' : Nat), e = .returned (.slice o' n c') ∧ R.length = n ∧ IsReady (xs.map toNd) (nms ds) (nms R) ∧ n ≤ 1000 ∧ AtS w' o' R ∧ Below w.heap.size w w' := by
  subst hm
  subst hnd
  exact readyP_any xs o c ds od cd w h hf hd hdl hds
theorem usersN {xs : List ND} {o : Option Addr} {m c : Nat} {s : ByteArray} {w : World} (hm : xs.length = m) (h : AtD w o xs) (hf : Few xs) :
    Calls Try.prog 19 #[.slice o m c, .string s] w fun e w' => ∃ (R : List ByteArray) (o' : Option Addr) (n c' : Nat), e = .returned (.slice o' n c') ∧ R.length = n ∧ UsersIs (xs.map toNd) (nm s) (nms R) ∧ n ≤ 1000 ∧ AtS w' o' R ∧ Below w.heap.size w w' := by
  subst hm
  exact usersP_any xs o c s w h hf
theorem namesT {xs : List ND} {o : Option Addr} {m c : Nat} {w : World} (hm : xs.length = m) (h : AtD w o xs) (hl : m ≤ 900000) :
    Calls Try.prog 22 #[.slice o m c] w fun e w' => ∃ (o' : Option Addr) (c' : Nat), e = .returned (.slice o' m c') ∧ AtS w' o' (xs.map (·.name)) ∧ (xs.map (·.name)).length = m ∧ Below w.heap.size w w' := by
  subst hm
  refine (namesR_any xs o c w h hl).mono ?_
  rintro e w' ⟨o', c', rfl, hrow, hB⟩
  exact ⟨o', c', rfl, own_names_n hrow (by simp), by simp, hB⟩

end Go.Proofs.Ytgnhcaepkgbieaa
