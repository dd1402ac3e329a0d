/-
  A walk from one node on, in memory. Condition: at most a thousand nodes, of at most a million ways.
-/
import Derived.Test.YtgnhcaepkgbieaaCya
import Derived.Test.YtgnhcaepkgbieaaOda
namespace Go.Proofs.Ytgnhcaepkgbieaa
open Go.RowKit

theorem Turn.then_new {S S2 : Nat → Prop} {a b c : World} (h : Turn S a b) (k : Turn S2 b c) (hn : ∀ i, S2 i → a.heap.size ≤ i) : Turn S a c :=
  ⟨k.os.trans h.os, k.tape.trans h.tape, k.output.trans h.output, Nat.le_trans h.size k.size, fun i hi hs => (k.block i (Nat.lt_of_lt_of_le hi h.size) fun h2 => by have := hn i h2; omega).trans (h.block i hi hs)⟩
theorem row_some {w : World} {base n cap : Nat} {e : TypeId} {o : Option Addr} {l : List Nat} (h : w.ownsRow base e 1 (.slice o n cap) n (iC l)) (hn : 0 < n) : ∃ g, o = some ⟨g, 0, none⟩ ∧ n ≤ cap ∧ cap ≤ maxLen := by
  rcases h.2 with ⟨hv, h0⟩ | ⟨g, cap', cur, hv, _, _, h4, h5, _⟩
  · omega
  · obtain ⟨rfl, rfl⟩ : o = some ⟨g, 0, none⟩ ∧ cap = cap' := by simpa using hv
    exact ⟨g, rfl, h4, h5⟩
theorem one_row (w : World) (s : Nat) : (w.alloc (.cells #[.int .i64 (s : Int)] 3)).ownsRow w.heap.size 3 1 (.slice (some ⟨w.heap.size, 0, none⟩) 1 1) 1 (iC [s]) :=
  World.ownsRow_lit w #[.int .i64 (s : Int)] 1 (Nat.le_refl _) (by decide) rfl
theorem split_last {l : List Nat} {m : Nat} (h : l.length = m + 1) : l = l.take m ++ [getH l m] := by
  conv => lhs; rw [← List.take_append_drop m l]
  congr 1
  have hd : l.drop m = l[m]'(by omega) :: l.drop (m + 1) := List.drop_eq_getElem_cons (by omega)
  have hg := getH_at (l := l) (i := m) (by omega)
  rw [List.getElem?_eq_getElem (by omega)] at hg
  rw [hd, List.drop_of_length_le (by omega), Option.some.inj hg]
theorem DfsI.room {ways : List (List Nat)} {n : Nat} {M : List Nat} {s : Nat} {met : List Bool} {tried path left : List Nat} (h : DfsI ways n M s met tried path left) : M.length + left.length + path.length ≤ n := by
  have := few_below h.nd h.mlt
  simp only [List.length_append] at this
  exact this

set_option maxRecDepth 100000 in
set_option maxHeartbeats 8000000 in
/-- A walk from one node on. -/
theorem fromP_any (ways : List (List Nat)) (b bt bm n s : Nat) (ow : Option Addr) (tried : List Nat) (met : List Bool) (M : List Nat) (w0 w : World) (hA : AtR w0 ow ways) (hB : Below w0.heap.size w0 w) (hbt : w0.heap.size ≤ bt) (hbm : w0.heap.size ≤ bm) (h : IsWk w b bt bm n ow tried met)
    (hI : BtwI ways n M met tried) (hs : s < n) (hn : n ≤ 1000) (hf : ∀ i, (waysAt ways i).length ≤ 1000000) :
    Calls Try.prog 31 #[.pointer (some ⟨b, 0, none⟩), .int .i64 (s : Int)] w fun e w' => (s ∈ M ∧ e = .returned (.slice none 0 0) ∧ w' = w) ∨
      (s ∉ M ∧ ∃ (G : List Nat) (o : Option Addr) (m cap : Nat) (met' : List Bool) (tried' : List Nat), e = .returned (.slice o m cap) ∧ G.length = m ∧ BtwI ways n (M ++ G) met' tried' ∧ s ∈ G ∧ (∀ x ∈ G, AvR ways M s x) ∧ IsWk w' b bt bm n ow tried' met' ∧ w'.ownsRow w.heap.size 3 1 (.slice o m cap) m (iC G) ∧ Turn (fun k => k = bt ∨ k = bm) w w') := by
  have HA := Lib.hid hA
  have HB := Lib.hid hB
  have HBT := Lib.hid hbt
  have HBM := Lib.hid hbm
  have HK := Lib.hid h
  have HI := Lib.hid hI
  have HS := Lib.hid hs
  have HN := Lib.hid hn
  have HF := Lib.hid hf
  obtain ⟨x0, x1, x2⟩ := cells3 h.box
  obtain ⟨cM, fM⟩ := h.cellM hs
  have hs' : ((s : Int) < (n : Int)) := by omega
  have hs0 : (0 : Int) ≤ (s : Int) := by omega
  clear hA hB hbt hbm h hI hs hn hf
  by_cases hm : s ∈ M
  · rw [(HI.out.is s HS.out).2 hm] at cM
    have HM := Lib.hid hm
    clear hm
    go_enter Try.func31, Try.ntmps31
    go_wp2
    go_ret
    exact .inl ⟨HM.out, rfl, rfl⟩
  · have hb0 : bitAt met s = false := by
      cases hc : bitAt met s with
      | false => rfl
      | true => exact absurd ((HI.out.is s HS.out).1 hc) hm
    rw [hb0] at cM
    have HM := Lib.hid hm
    have HD0 := Lib.hid (DfsI.start HI.out HS.out hm)
    have HS0 := Lib.hid (HK.out.setM s true)
    clear hm hb0
    go_enter Try.func31, Try.ntmps31
    go_wp2_with fail
    have HSZ : Hid ((w.setCell ⟨bm, s, none⟩ (.bool true)).heap.size = w.heap.size) := by show _ = _; simp
    have HT0 := Lib.hid ((HS0.out.2.mono fun k _ hk => Or.inr hk : Turn (fun k => k = bt ∨ k = bm) w (w.setCell ⟨bm, s, none⟩ (.bool true))).alloc (.cells #[.int .i64 (s : Int)] 3))
    have HW0 := Lib.hid (HS0.out.1.turn (Turn.of_grown (World.grownBy_alloc _ (.cells #[.int .i64 (s : Int)] 3) none)) (fun h => by cases h) (fun h => by cases h) (fun h => by cases h))
    have HR0 : Hid (((w.setCell ⟨bm, s, none⟩ (.bool true)).alloc (.cells #[.int .i64 (s : Int)] 3)).ownsRow w.heap.size 3 1 (.slice (some ⟨w.heap.size, 0, none⟩) 1 1) 1 (iC [s])) := by
      have := one_row (w.setCell ⟨bm, s, none⟩ (.bool true)) s
      rw [HSZ.out] at this
      exact this
    have HZ0 : Hid (w.heap.size ≤ ((w.setCell ⟨bm, s, none⟩ (.bool true)).alloc (.cells #[.int .i64 (s : Int)] 3)).heap.size) := by show _ ≤ _; rw [World.size_alloc, HSZ.out]; omega
    have HL := Lib.hid HK.out.lts
    clear x0 x1 x2 cM fM hs' hs0
    go_loopw [5, 6] (fun v u wr => ∃ (path left tried : List Nat) (met : List Bool) (op ol : Option Addr) (np nl cp cl : Nat), v = .slice op np cp ∧ u = .slice ol nl cl ∧ Hid (path.length = np ∧ left.length = nl) ∧ Hid (DfsI ways n M s met tried path left) ∧ Hid (IsWk wr b bt bm n ow tried met) ∧
      Hid (wr.ownsRow w.heap.size 3 1 (.slice op np cp) np (iC path)) ∧ Hid (wr.ownsRow w.heap.size 3 1 (.slice ol nl cl) nl (iC left)) ∧ Hid (∀ k, (Value.slice op np cp).ownBlock = some k → (Value.slice ol nl cl).ownBlock ≠ some k) ∧ Hid (Turn (fun k => k = bt ∨ k = bm) w wr)) (fun v u _ => 2 * (n - (M.length + lenV u + lenV v)) + lenV v)
    case atStart => exact ⟨[s], [], tried, _, _, none, 1, 0, 1, 0, rfl, rfl, ⟨rfl, rfl⟩, HD0, HW0, HR0, World.ownsRow_nil _ _ _ _, (by show ∀ k, _; intro k _ h; cases h), HT0⟩
    case round =>
      clear HT0 HW0 HR0 HZ0 HSZ HD0 HS0
      obtain ⟨path, left, tried', met', op, ol, np, nl, cp, cl, rfl, rfl, HLEN, HD, HW, HRP, HRL, HAP, HT⟩ := hrel
      by_cases hp : np = 0
      · subst hp
        obtain rfl : path = [] := List.length_eq_zero_iff.1 HLEN.out.1
        have HDN := Lib.hid HD.out.done
        go_wp2
        go_ret
        exact .inr ⟨HM.out, left, ol, nl, cl, met', tried', rfl, HLEN.out.2, HDN.out.1, HDN.out.2.1, HDN.out.2.2, HW.out, HRL.out, HT.out⟩
      · obtain ⟨m, rfl⟩ : ∃ m, np = m + 1 := ⟨np - 1, by omega⟩
        obtain ⟨gp, hgp, hcap, hmx⟩ := row_some HRP.out (by omega)
        subst hgp
        have HPE := Lib.hid (split_last HLEN.out.1)
        have hrm := HD.out.room
        rw [HLEN.out.1, HLEN.out.2] at hrm
        have cl0 := RowI.cell HRP.out HLEN.out.1 (i := m) (by omega)
        have hnn := HN.out
        have hwm := IntWalk.i64_in (m : Int) ⟨by omega, by omega⟩
        have hm0 : (0 : Int) < (m : Int) + 1 := by omega
        have hcm : (m : Int) ≤ (cp : Int) := by omega
        have HRM := Lib.hid hrm
        have hd := HD.out
        rw [HPE.out] at hd
        have HD1 := Lib.hid hd
        have hxm : getH path m ∈ M ++ left ++ (path.take m ++ [getH path m]) := by simp
        have HXN := Lib.hid (hd.mlt _ hxm)
        have HXF := Lib.hid (hd.few (getH path m) (by simp))
        have HRS := Lib.hid (RowI.shrink HRP.out (m := m) (by omega) HLEN.out.1)
        generalize getH path m = x at *
        have HNX := Lib.hid (nextP_any ways b bt bm n x ow tried' met' w0 wr HA.out (HB.out.trans (HT.out.below HB.out.size fun k hk => by have := HBT.out; have := HBM.out; omega)) HBT.out HBM.out HW.out HI.out.lw HI.out.rng HXN.out HN.out (HF.out x) HXF.out)
        clear hp hrm hnn hd hxm
        go_wp2_with fail
        refine HNX.out.mono ?_
        rintro e w2 ⟨t, hNI, hT2, ⟨y, hy, hby, rfl, hW2⟩ | ⟨rfl, rfl, hW2⟩⟩
        · obtain ⟨hyn, _, hD2⟩ := HD1.out.push hNI hy hby
          rw [← HPE.out] at hD2
          have HD2 := Lib.hid hD2
          have HW2 := Lib.hid hW2
          have hkp : ∀ k, w.heap.size ≤ k → ¬ (k = bt ∨ k = bm) := fun k hk h => by have := HL.out; omega
          have HRP2 := Lib.hid (hT2.row HRP.out fun k hk => hkp k (HRP.out.lt k hk).1)
          have HRL2 := Lib.hid (hT2.row HRL.out fun k hk => hkp k (HRL.out.lt k hk).1)
          have HT2 := Lib.hid (HT.out.trans hT2)
          clear hNI hT2 hy hby hW2 hD2 hyn hkp HNX HD1 HRS HW HD
          go_wp2_with (refine wpList_append_one rfl _ _ 42 3 rfl (.int .i64 0) (.int .i64 (y : Int)) 8 Try.underlying42 info3s rfl w.heap.size (.slice (some ⟨gp, 0, none⟩) (m + 1) cp) (m + 1) (iC path) rfl HRP2.out rfl rfl HT2.out.size (by have := HRM.out; have := HN.out; omega) (by have := HRM.out; have := HN.out; unfold maxLen; omega) ?_; intro o5 c5 w5 hrow hT5 hwh; have HRW5 := Lib.hid hrow; have HT5 := Lib.hid hT5; have HWH := Lib.hid hwh; clear hrow hT5 hwh)
          case roundEnd =>
            have hin : ∀ k, (Value.slice (some ⟨gp, 0, none⟩) (m + 1) cp).ownBlock = some k → w.heap.size ≤ k := fun k hk => (HRP2.out.lt k hk).1
            refine ⟨⟨path ++ [y], left, _, _, o5, ol, m + 1 + 1, nl, c5, cl, rfl, rfl, ⟨by rw [List.length_append, HLEN.out.1]; rfl, HLEN.out.2⟩, HD2, HW2.out.turn HT5.out (fun h => by have := hin _ h; have := HL.out; omega) (fun h => by have := hin _ h; have := HL.out; omega) (fun h => by have := hin _ h; have := HL.out; omega), ?_, HT5.out.row HRL2.out fun k hk hS => HAP.out k hS hk, fun k hk h2 => ?_, HT2.out.then_new HT5.out hin⟩, ?_⟩
            · rw [iC_app]; exact HRW5.out
            · rcases HWH.out k hk with h3 | h3
              · exact HAP.out k h3 h2
              · have := (HRL2.out.lt k h2).2; omega
            · have h1 := HD2.out.room
              rw [List.length_append, HLEN.out.1, HLEN.out.2] at h1
              simp only [List.length_singleton] at h1
              simp only [lenV]
              omega
        · obtain ⟨_, hD2⟩ := HD1.out.pop hNI
          have HD2 := Lib.hid hD2
          have HW2 := Lib.hid hW2
          have hkp : ∀ k, w.heap.size ≤ k → ¬ (k = bt ∨ k = bm) := fun k hk h => by have := HL.out; omega
          have HRP2 := Lib.hid (hT2.row HRS.out fun k hk => hkp k (by have := (RowI.lt HRS.out).1; simp only [Value.ownBlock, Option.some.injEq] at hk; omega))
          have HRL2 := Lib.hid (hT2.row HRL.out fun k hk => hkp k (HRL.out.lt k hk).1)
          have HT2 := Lib.hid (HT.out.trans hT2)
          clear hNI hT2 hW2 hD2 hkp HNX HD1 HRS HW HD
          go_wp2_with (refine wpList_append_one rfl _ _ 42 3 rfl (.int .i64 0) (.int .i64 (x : Int)) 8 Try.underlying42 info3s rfl w.heap.size (.slice ol nl cl) nl (iC left) rfl HRL2.out rfl rfl HT2.out.size (by have := HRM.out; have := HN.out; omega) (by have := HRM.out; have := HN.out; unfold maxLen; omega) ?_; intro o5 c5 w5 hrow hT5 hwh; have HRW5 := Lib.hid hrow; have HT5 := Lib.hid hT5; have HWH := Lib.hid hwh; clear hrow hT5 hwh)
          case roundEnd =>
            have hin : ∀ k, (Value.slice ol nl cl).ownBlock = some k → w.heap.size ≤ k := fun k hk => (HRL2.out.lt k hk).1
            refine ⟨⟨path.take m, left ++ [x], _, _, some ⟨gp, 0, none⟩, o5, m, nl + 1, cp, c5, rfl, rfl, ⟨by rw [List.length_take, HLEN.out.1]; omega, by rw [List.length_append, HLEN.out.2]; rfl⟩, HD2, HW2.out.turn HT5.out (fun h => by have := hin _ h; have := HL.out; omega) (fun h => by have := hin _ h; have := HL.out; omega) (fun h => by have := hin _ h; have := HL.out; omega), HT5.out.row HRP2.out fun k hk hS => HAP.out k hk hS, ?_, fun k hk h2 => ?_, HT2.out.then_new HT5.out hin⟩, ?_⟩
            · rw [iC_app]; exact HRW5.out
            · rcases HWH.out k h2 with h3 | h3
              · exact HAP.out k hk h3
              · have := (HRP2.out.lt k hk).2; omega
            · have h1 := HD2.out.room
              rw [List.length_append, List.length_take, HLEN.out.1, HLEN.out.2] at h1
              simp only [List.length_singleton] at h1
              simp only [lenV]
              omega

end Go.Proofs.Ytgnhcaepkgbieaa
