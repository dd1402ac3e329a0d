/-
  The statements' own head: what the program answers for four packages. No condition.
-/
import Derived.Test.YtgnhcaepkgbieaaLwb
import Derived.Test.YtgnhcaepkgbieaaCyf
namespace Go.Proofs.Ytgnhcaepkgbieaa
open Go.RowKit

def b1 (x : UInt8) : ByteArray := ⟨#[x]⟩
def l4 : List ND := [⟨b1 97, [b1 98]⟩, ⟨b1 98, [b1 97]⟩, ⟨b1 99, [b1 98]⟩, ⟨b1 100, []⟩]
def n4 : List Nd := [⟨[97], [[98]]⟩, ⟨[98], [[97]]⟩, ⟨[99], [[98]]⟩, ⟨[100], []⟩]
theorem l4_n4 : l4.map toNd = n4 := rfl
theorem nms_inj : ∀ {a b : List ByteArray}, nms a = nms b → a = b
  | [], [], _ => rfl
  | x :: a, y :: b, h => by
    simp only [nms, List.map_cons, List.cons.injEq] at h
    rw [nm_inj h.1, nms_inj (a := a) (b := b) h.2]
  | [], _ :: _, h => by simp [nms] at h
  | _ :: _, [], h => by simp [nms] at h
theorem rdy4 : IsReady n4 [] [[100]] := by
  have h := readyF_is n4 []
  rwa [show readyF n4 [] = [[100]] by decide] at h
theorem run4 : RunN n4 [] [[100]] := by
  refine .step rdy4.first (.stop fun a => ?_)
  have h := readyF_is n4 [[100]]
  rw [show readyF n4 [[100]] = [] by decide] at h
  exact h.none a
theorem stk4 : StkIs n4 [[100]] [[97], [98], [99]] := by
  refine ⟨by simp [Srt]; decide, fun a => ?_⟩
  simp only [namesN, n4, List.map_cons, List.map_nil, List.mem_cons, List.not_mem_nil, or_false]
  constructor
  · rintro (rfl | rfl | rfl) <;> decide
  · rintro ⟨rfl | rfl | rfl | rfl, h⟩
    · simp
    · simp
    · simp
    · exact absurd rfl h
theorem RchN.last {l : List Nd} {a b : Nm} (h : RchN l a b) : ∃ z, Imp l z b := by
  induction h with
  | one h => exact ⟨_, h⟩
  | more _ _ ih => exact ih
theorem cyc4 : CycIs n4 [[97], [98]] := by
  have h1 : Imp n4 [97] [98] := ⟨⟨[97], [[98]]⟩, rfl, by decide, by decide⟩
  have h2 : Imp n4 [98] [97] := ⟨⟨[98], [[97]]⟩, rfl, by decide, by decide⟩
  refine ⟨by simp [Srt]; decide, fun a => ?_⟩
  constructor
  · intro h
    simp only [List.mem_cons, List.not_mem_nil, or_false] at h
    rcases h with rfl | rfl
    · exact .more h1 (.one h2)
    · exact .more h2 (.one h1)
  · intro h
    obtain ⟨z, n, hn, hb, _⟩ := h.last
    have hm := (node_name hn).2
    simp only [n4, List.mem_cons, List.not_mem_nil, or_false] at hm
    rcases hm with rfl | rfl | rfl | rfl <;> simp at hb <;> simp [hb]
theorem use4 : UsersIs n4 [98] [[97], [99]] := by
  have h := usersF_is n4 [98]
  rwa [show usersF n4 [98] = [[97], [99]] by decide] at h

theorem one4 {W : World} {g : Nat} {x : UInt8} (h : W.heap[g]? = some (.cells #[.string (b1 x)] 9)) : AtS W (some ⟨g, 0, none⟩) [b1 x] := fun i s hs => by
  match i, hs with
  | 0, hs =>
    simp only [List.getElem?_cons_zero, Option.some.injEq] at hs
    subst hs
    exact ⟨_, rfl, by simp [World.cell?, Addr.add, h]⟩
  | i + 1, hs => simp at hs
theorem at4 {W : World} {g0 g1 g2 g3 : Nat} (h0 : W.heap[g0]? = some (.cells #[.string (b1 98)] 9)) (h1 : W.heap[g1]? = some (.cells #[.string (b1 97)] 9)) (h2 : W.heap[g2]? = some (.cells #[.string (b1 98)] 9))
    (h3 : W.heap[g3]? = some (.cells #[.string (b1 97), .slice (some ⟨g0, 0, none⟩) 1 1, .string (b1 98), .slice (some ⟨g1, 0, none⟩) 1 1, .string (b1 99), .slice (some ⟨g2, 0, none⟩) 1 1, .string (b1 100), .slice none 0 0] 36)) : AtD W (some ⟨g3, 0, none⟩) l4 := fun i n hn => by
  match i, hn with
  | 0, hn =>
    simp only [l4, List.getElem?_cons_zero, Option.some.injEq] at hn
    subst hn
    exact ⟨⟨g3, 0, none⟩, _, 1, rfl, by simp [World.cell?, Addr.add, h3], by simp [World.cell?, Addr.add, h3], by decide, one4 h0⟩
  | 1, hn =>
    simp only [l4, List.getElem?_cons_succ, List.getElem?_cons_zero, Option.some.injEq] at hn
    subst hn
    exact ⟨⟨g3, 0, none⟩, _, 1, rfl, by simp [World.cell?, Addr.add, h3], by simp [World.cell?, Addr.add, h3], by decide, one4 h1⟩
  | 2, hn =>
    simp only [l4, List.getElem?_cons_succ, List.getElem?_cons_zero, Option.some.injEq] at hn
    subst hn
    exact ⟨⟨g3, 0, none⟩, _, 1, rfl, by simp [World.cell?, Addr.add, h3], by simp [World.cell?, Addr.add, h3], by decide, one4 h2⟩
  | 3, hn =>
    simp only [l4, List.getElem?_cons_succ, List.getElem?_cons_zero, Option.some.injEq] at hn
    subst hn
    exact ⟨⟨g3, 0, none⟩, none, 0, rfl, by simp [World.cell?, Addr.add, h3], by simp [World.cell?, Addr.add, h3], by decide, AtS.nil _ _⟩
  | i + 4, hn => simp [l4] at hn
theorem b1_small (x : UInt8) : (b1 x).size ≤ 281474976710656 := by
  show 1 ≤ _
  decide
theorem few4 : Few l4 := ⟨by decide, fun n hn => by
  simp only [l4, List.mem_cons, List.not_mem_nil, or_false] at hn
  rcases hn with rfl | rfl | rfl | rfl
  · exact ⟨by decide, b1_small _, fun s hs => by rw [List.mem_singleton.1 hs]; exact b1_small _⟩
  · exact ⟨by decide, b1_small _, fun s hs => by rw [List.mem_singleton.1 hs]; exact b1_small _⟩
  · exact ⟨by decide, b1_small _, fun s hs => by rw [List.mem_singleton.1 hs]; exact b1_small _⟩
  · exact ⟨by decide, b1_small _, fun s hs => by simp at hs⟩⟩

set_option maxRecDepth 100000 in
set_option maxHeartbeats 4000000 in
/-- Awake. -/
theorem awakeL_any (w : World) : Calls Try.prog 10 #[] w fun e w' => e = .returned (.bool true) ∧ Below w.heap.size w w' := by
  go_enter Try.func10, Try.ntmps10
  go_wp2_with fail
  have s1 : (w.alloc (.cells #[.string (b1 98)] 9)).heap.size = w.heap.size + 1 := World.size_alloc ..
  have s2 : ((w.alloc (.cells #[.string (b1 98)] 9)).alloc (.cells #[.string (b1 97)] 9)).heap.size = w.heap.size + 1 + 1 := by rw [World.size_alloc, s1]
  have s3 : (((w.alloc (.cells #[.string (b1 98)] 9)).alloc (.cells #[.string (b1 97)] 9)).alloc (.cells #[.string (b1 98)] 9)).heap.size = w.heap.size + 1 + 1 + 1 := by rw [World.size_alloc, s2]
  have h0 := heap_alloc_new w (.cells #[.string (b1 98)] 9)
  have h1 := heap_alloc_new (w.alloc (.cells #[.string (b1 98)] 9)) (.cells #[.string (b1 97)] 9)
  rw [s1] at h1
  have h2 := heap_alloc_new ((w.alloc (.cells #[.string (b1 98)] 9)).alloc (.cells #[.string (b1 97)] 9)) (.cells #[.string (b1 98)] 9)
  rw [s2] at h2
  have h3 := heap_alloc_new (((w.alloc (.cells #[.string (b1 98)] 9)).alloc (.cells #[.string (b1 97)] 9)).alloc (.cells #[.string (b1 98)] 9)) (.cells #[.string (b1 97), .slice (some ⟨w.heap.size, 0, none⟩) 1 1, .string (b1 98), .slice (some ⟨w.heap.size + 1, 0, none⟩) 1 1, .string (b1 99), .slice (some ⟨w.heap.size + 1 + 1, 0, none⟩) 1 1, .string (b1 100), .slice none 0 0] 36)
  rw [s3] at h3
  have hA := at4 ((Below.heap_alloc _ _ _ (by omega)).trans ((Below.heap_alloc _ _ _ (by omega)).trans ((Below.heap_alloc _ _ _ (by omega)).trans h0))) ((Below.heap_alloc _ _ _ (by omega)).trans ((Below.heap_alloc _ _ _ (by omega)).trans h1)) ((Below.heap_alloc _ _ _ (by omega)).trans h2) h3
  have HB : Hid (Below w.heap.size w ((((w.alloc (.cells #[.string (b1 98)] 9)).alloc (.cells #[.string (b1 97)] 9)).alloc (.cells #[.string (b1 98)] 9)).alloc (.cells #[.string (b1 97), .slice (some ⟨w.heap.size, 0, none⟩) 1 1, .string (b1 98), .slice (some ⟨w.heap.size + 1, 0, none⟩) 1 1, .string (b1 99), .slice (some ⟨w.heap.size + 1 + 1, 0, none⟩) 1 1, .string (b1 100), .slice none 0 0] 36))) :=
    ((((Below.refl _ w).alloc (Nat.le_refl _) _).alloc (by omega) _).alloc (by omega) _).alloc (by omega) _
  clear s1 s2 s3 h0 h1 h2 h3
  have HA := Lib.hid hA
  clear hA
  change Calls _ _ _ ((((w.alloc (.cells #[.string (b1 98)] 9)).alloc (.cells #[.string (b1 97)] 9)).alloc (.cells #[.string (b1 98)] 9)).alloc (.cells #[.string (b1 97), .slice (some ⟨w.heap.size, 0, none⟩) 1 1, .string (b1 98), .slice (some ⟨w.heap.size + 1, 0, none⟩) 1 1, .string (b1 99), .slice (some ⟨w.heap.size + 1 + 1, 0, none⟩) 1 1, .string (b1 100), .slice none 0 0] 36)) _
  generalize ((((w.alloc (.cells #[.string (b1 98)] 9)).alloc (.cells #[.string (b1 97)] 9)).alloc (.cells #[.string (b1 98)] 9)).alloc (.cells #[.string (b1 97), .slice (some ⟨w.heap.size, 0, none⟩) 1 1, .string (b1 98), .slice (some ⟨w.heap.size + 1, 0, none⟩) 1 1, .string (b1 99), .slice (some ⟨w.heap.size + 1 + 1, 0, none⟩) 1 1, .string (b1 100), .slice none 0 0] 36)) = w1 at *
  refine (orderP_any l4 _ 4 w1 HA.out few4).mono ?_
  rintro e w2 ⟨O, S, o1, o2, n1, n2, c1, c2, rfl, hO, hS, _, _, hr, hs, hAO, hAS, hB, _⟩
  rw [l4_n4] at hr hs
  have hOe : nms O = [[100]] := hr.unique run4
  rw [hOe] at hs
  have hSe : nms S = [[97], [98], [99]] := Srt.ext hs.1 stk4.1 fun x => (hs.2 x).trans (stk4.2 x).symm
  have hO1 : O = [b1 100] := nms_inj hOe
  have hS1 : S = [b1 97, b1 98, b1 99] := nms_inj hSe
  have hn1 : n1 = 1 := by rw [← hO, hO1]; rfl
  have hn2 : n2 = 3 := by rw [← hS, hS1]; rfl
  clear hO hS
  subst hO1
  subst hS1
  subst hn1
  subst hn2
  have HAO := Lib.hid hAO
  have HAS := Lib.hid hAS
  have HA2 := Lib.hid (HA.out.below hB)
  have HB2 := Lib.hid (HB.out.trans (hB.mono HB.out.size))
  clear hr hs hOe hSe hAO hAS hB HA HB
  go_wp2_with fail
  refine (cyclicP_any l4 _ 4 w2 HA2.out few4).mono ?_
  rintro e w3 ⟨Y, o3, n3, c3, rfl, hY, _, hc, hAY, hB⟩
  rw [l4_n4] at hc
  have hYe : nms Y = [[97], [98]] := Srt.ext hc.1 cyc4.1 fun x => (hc.2 x).trans (cyc4.2 x).symm
  have hY1 : Y = [b1 97, b1 98] := nms_inj hYe
  have hn3 : n3 = 2 := by rw [← hY, hY1]; rfl
  clear hY
  subst hY1
  subst hn3
  have HAO3 := Lib.hid (HAO.out.below hB)
  have HAS3 := Lib.hid (HAS.out.below hB)
  have HAY := Lib.hid hAY
  have HA3 := Lib.hid (HA2.out.below hB)
  have HB3 := Lib.hid (HB2.out.trans (hB.mono HB2.out.size))
  clear hc hYe hAY hB HAO HAS HA2 HB2
  go_wp2_with fail
  refine (readyP_any l4 _ 4 [] none 0 w3 HA3.out few4 (AtS.nil _ _) (by decide) (by simp)).mono ?_
  rintro e w4 ⟨R, o4, n4', c4, rfl, hR, hr, _, hAR, hB⟩
  rw [l4_n4] at hr
  have hRe : nms R = [[100]] := hr.eq rdy4
  have hR1 : R = [b1 100] := nms_inj hRe
  have hn4 : n4' = 1 := by rw [← hR, hR1]; rfl
  clear hR
  subst hR1
  subst hn4
  have HAO4 := Lib.hid (HAO3.out.below hB)
  have HAS4 := Lib.hid (HAS3.out.below hB)
  have HAY4 := Lib.hid (HAY.out.below hB)
  have HA4 := Lib.hid (HA3.out.below hB)
  have HB4 := Lib.hid (HB3.out.trans (hB.mono HB3.out.size))
  clear hr hRe hAR hB HAO3 HAS3 HAY HA3 HB3
  go_wp2_with fail
  refine (usersP_any l4 _ 4 (b1 98) w4 HA4.out few4).mono ?_
  rintro e w5 ⟨V, o5, n5, c5, rfl, hV, hu, _, hAV, hB⟩
  rw [l4_n4] at hu
  have hVe : nms V = [[97], [99]] := hu.eq use4
  have hV1 : V = [b1 97, b1 99] := nms_inj hVe
  have hn5 : n5 = 2 := by rw [← hV, hV1]; rfl
  clear hV
  subst hV1
  subst hn5
  obtain ⟨p1, rfl, e1⟩ := (HAO4.out.below hB) 0 (b1 100) rfl
  obtain ⟨p2, rfl, e2⟩ := (HAS4.out.below hB) 2 (b1 99) rfl
  obtain ⟨p3, rfl, e3⟩ := (HAY4.out.below hB) 1 (b1 98) rfl
  obtain ⟨p5, rfl, e5⟩ := hAV 1 (b1 99) rfl
  have HB5 := Lib.hid (HB4.out.trans (hB.mono HB4.out.size))
  have z0 : p1.add 0 = p1 := by obtain ⟨a, b, c⟩ := p1; cases c <;> simp [Addr.add]
  rw [z0] at e1
  have z2 : p2.add 2 = ⟨p2.block, p2.off + 2, none⟩ := by obtain ⟨a, b, c⟩ := p2; cases c <;> simp [Addr.add]
  have z3 : p3.add 1 = ⟨p3.block, p3.off + 1, none⟩ := by obtain ⟨a, b, c⟩ := p3; cases c <;> simp [Addr.add]
  have z5 : p5.add 1 = ⟨p5.block, p5.off + 1, none⟩ := by obtain ⟨a, b, c⟩ := p5; cases c <;> simp [Addr.add]
  rw [z2] at e2
  rw [z3] at e3
  rw [z5] at e5
  have y0 : (b1 100).toList = [100] := by rw [ByteArray.toList_eq]; rfl
  have y2 : (b1 99).toList = [99] := by rw [ByteArray.toList_eq]; rfl
  have y3 : (b1 98).toList = [98] := by rw [ByteArray.toList_eq]; rfl
  clear z0 z2 z3 z5
  clear hu hVe hAV hB HAO4 HAS4 HAY4 HA4 HB4
  go_wp2
  go_ret
  exact ⟨rfl, HB5.out⟩

end Go.Proofs.Ytgnhcaepkgbieaa
