/-
  The program's own map of names to the first method of each. Condition: names that the model's reader reads, at most 2^62 elements.
-/
import Derived.Test.YtmnhilgifjaocaaSnb
import Derived.Carry
namespace Go.Proofs.Ytmnhilgifjaocaa.sg
open Go.RowKit Go.Shelf
open Go.Lib hiding intOf

attribute [local go_sem] Oper.semAt_some

/-- The place of the first one of a name, counted from k on. -/
def firstN : List Nm → Nat → Nm → Option Nat
  | [], _, _ => none
  | a :: r, k, x => if x = a then some k else firstN r (k + 1) x
theorem firstN_drop {l : List Nm} {k : Nat} {a : Nm} (h : l[k]? = some a) : firstN (l.drop k) k = putF (firstN (l.drop (k + 1)) (k + 1)) a k := by
  obtain ⟨hk, e⟩ := List.getElem?_eq_some_iff.1 h
  rw [List.drop_eq_getElem_cons hk, e]
  rfl
theorem le_maxLen {k : Nat} (h : k ≤ 281474976710656) : k ≤ maxLen := Nat.le_trans h (by decide)
theorem makeMap_len (n : Nat) (hn : n ≤ 4611686018427387904) (W : World) : (Instr.makeMap 87 (some (.int .i64 (n : Int)))).run Try.prog W = .ok (.map (some W.heap.size)) (W.alloc (.map #[] 0)) := by
  have h1 : ¬ ((n : Int) < 0) := by omega
  have h2 : (n : Int) ≤ 9223372036854775807 := by omega
  simp [Instr.makeMap, go_sem]
  try omega
theorem run_putI (w : World) (b n : Nat) (F : Nm → Option Nat) (h : IsM mkI w b n F) (hn : n < maxLen) (s : ByteArray) (hs : s.size ≤ maxLen) (j : Nat) :
    ∃ w', (Instr.mapUpdate 87 (.map (some b)) (.string s) (.int .i64 (j : Int))).run Try.prog w = .ok () w' ∧ IsM mkI w' b (n + 1) (putF F (nm s) j) ∧ w.grownBy w' (some b) := run_put mkI w b n F h hn s hs j trivial
/-- The cells of a method. -/
def IsHd (c : List Value) : Prop := ∃ (s : ByteArray) (o : Option Addr) (l k : Nat) (a : Int) (p q : ByteArray) (n : Int) (o' : Option Addr) (e k' : Nat), c = [.string s, .slice o l k, .int .i64 a, .string p, .string q, .int .i64 n, .slice o' e k'] ∧ s.size ≤ 281474976710656
/-- A method's name. -/
def nmD : List Value → Nm
  | .string s :: _ => nm s
  | _ => []

/-- Behind some rounds. -/
def FirstD (w : World) (m : Nat) (o : Option Addr) (cap : Nat) (L : List (List Value)) (pre : List (Nat × (List Value))) (W : World) : Prop :=
  ∃ i, i ≤ m ∧ pre ++ bks L i = bks L L.length ∧ IsM mkI W (w.heap.size + 1) (m - i) (firstN ((L.map nmD).drop i) i) ∧ Blk W (w.heap.size + 1 + 1) 87 #[.map (some (w.heap.size + 1))] ∧ Blk W w.heap.size 33 #[.slice o m cap] ∧ Below w.heap.size w W
theorem firstD_own (w : World) (m : Nat) (o : Option Addr) (cap : Nat) (L : List (List Value)) (D : Nat) (hD : w.heap.size + 1 + 1 ≤ D) : OwnFrom D (FirstD w m o cap L) := by
  rintro pre W W' row ⟨i, h1, h2, h3, h4, h5, h6⟩ hg hr
  have hne : ∀ k, k < D → some k ≠ row := fun k hk e => by have := (hr k e.symm).1; omega
  exact ⟨i, h1, h2, h3.same (hg.block _ h3.lt (hne _ (by omega))), h4.kept hg (fun e => by
      obtain ⟨_, o, ho, hc⟩ := hr _ e.symm
      unfold Blk at h4
      rw [h4] at ho
      cases ho
      cases hc), h5.kept hg (hne _ (by omega)), h6.trans ⟨hg.os, hg.tape, hg.output, hg.size, fun k hk => hg.block k (by have := h6.size; omega) (hne k (by omega))⟩⟩

theorem firstD_step {w W Z w9 : World} {m n1 D : Nat} {L : List (List Value)} {pre : List (Nat × (List Value))} {x : Nat × (List Value)} {o : Option Addr} {cap : Nat} {v : Value} (hD : w.heap.size + 1 + 1 + 1 ≤ D) (h3 : ∃ es c, W.heap[w.heap.size + 1]? = some (.map es c)) (hx : L[x.1]? = some x.2) (h1 : x.1 + 1 ≤ m) (hp : (pre ++ [x]) ++ bks L x.1 = bks L L.length)
    (h4 : Blk W (w.heap.size + 1 + 1) 87 #[.map (some (w.heap.size + 1))]) (h5 : Blk W w.heap.size 33 #[.slice o m cap]) (h6 : Below w.heap.size w W) (hZ : Below W.heap.size W Z) (hg : Z.grownBy w9 (some (w.heap.size + 1))) (hM : IsM mkI w9 (w.heap.size + 1) n1 (putF (firstN ((L.map nmD).drop (x.1 + 1)) (x.1 + 1)) (nmD x.2) x.1)) (hn : n1 = m - (x.1 + 1) + 1) :
    KeepsFrom D W w9 ∧ (Bk (fun W => RowN 7 W o L) 33 (w.heap.size + 1 + 1 + 1) v W → Bk (fun W => RowN 7 W o L) 33 (w.heap.size + 1 + 1 + 1) v w9) ∧ FirstD w m o cap L (pre ++ [x]) w9 := by
  have hT : Turn (fun i => i = w.heap.size + 1) W w9 := ⟨hg.os.trans hZ.os, hg.tape.trans hZ.tape, hg.output.trans hZ.output, Nat.le_trans hZ.size hg.size, fun i hi hn => (hg.block i (Nat.lt_of_lt_of_le hi hZ.size) (fun e => hn (Option.some.inj e))).trans (hZ.block i hi)⟩
  refine ⟨⟨hT.size, fun i ob hi hob _ => (hT.block i (lt_of_some hob) (by omega)).trans hob⟩, fun hB => ⟨?_, rowN_kept 7 o L W w9 ?_ hB.row⟩, x.1, by omega, hp, ?_, ?_, ?_, ?_⟩
  · exact (hT.block _ hB.box.lt (by omega)).trans hB.box
  · intro a u hc
    refine (World.cell?_of_block (hT.block a.block (World.block_lt_of_cell? _ _ hc) ?_)).trans hc
    intro e
    obtain ⟨es, c, he⟩ := h3
    unfold World.cell? at hc
    rw [e, he] at hc
    cases hc
  · rw [firstN_drop (a := nmD x.2) (by rw [List.getElem?_map, hx]; rfl)]
    exact hM.mono (by omega)
  · exact (hT.block _ h4.lt (by omega)).trans h4
  · exact (hT.block _ h5.lt (by omega)).trans h5
  · exact h6.trans ⟨hT.os, hT.tape, hT.output, hT.size, fun i hi => hT.block i (by have := h6.size; omega) (by omega)⟩

theorem blk_b {W W' : World} {k : Nat} {t : TypeId} {cs : Array Value} (h : Blk W k t cs) (hb : Below W.heap.size W W') : Blk W' k t cs := (hb.block k h.lt).trans h
/-- What the map's making leaves. -/
def Srch (w : World) (o : Option Addr) (m cap : Nat) (L : List (List Value)) (w' : World) : Prop := IsM mkI w' (w.heap.size + 1) m (firstN (L.map nmD) 0) ∧ Blk w' (w.heap.size + 1 + 1) 87 #[.map (some (w.heap.size + 1))] ∧ Blk w' w.heap.size 33 #[.slice o m cap]
set_option maxRecDepth 100000 in
set_option maxHeartbeats 4000000 in
/-- The first of each name. -/
theorem searching_any (L : List (List Value)) (o : Option Addr) (m cap : Nat) (w : World) (hL : L.length = m) (hm : m ≤ 4611686018427387904) (hs : ∀ c ∈ L, IsHd c) (hR : (fun W => RowN 7 W o L) w) :
    Calls Try.prog 46 #[.slice o m cap] w fun e w' => e = .returned (.func (.func 59) #[] #[.pointer (some ⟨w.heap.size + 1 + 1, 0, none⟩), .pointer (some ⟨w.heap.size, 0, none⟩)]) ∧ Srch w o m cap L w' ∧ Below w.heap.size w w' := by
  have hmm := makeMap_len m (by omega)
  have hB1 : Below w.heap.size w (((w.alloc (.cells #[.slice o m cap] 33)).alloc (.map #[] 0)).alloc (.cells #[.map (some (w.heap.size + 1))] 87)) := (((Below.refl _ w).alloc (Nat.le_refl _) _).alloc (by simp) _).alloc (by simp; omega) _
  have k1 : Below (w.alloc (.cells #[.slice o m cap] 33)).heap.size (w.alloc (.cells #[.slice o m cap] 33)) (((w.alloc (.cells #[.slice o m cap] 33)).alloc (.map #[] 0)).alloc (.cells #[.map (some (w.heap.size + 1))] 87)) := ((Below.refl _ _).alloc (Nat.le_refl _) _).alloc (by simp) _
  have b1 : Blk (((w.alloc (.cells #[.slice o m cap] 33)).alloc (.map #[] 0)).alloc (.cells #[.map (some (w.heap.size + 1))] 87)) w.heap.size 33 #[.slice o m cap] := blk_b (Blk.new w _ _) k1
  have b2 : Blk (((w.alloc (.cells #[.slice o m cap] 33)).alloc (.map #[] 0)).alloc (.cells #[.map (some (w.heap.size + 1))] 87)) (w.heap.size + 1 + 1) 87 #[.map (some (w.heap.size + 1))] := by
    have := Blk.new ((w.alloc (.cells #[.slice o m cap] 33)).alloc (.map #[] 0)) 87 #[.map (some (w.heap.size + 1))]
    rwa [World.size_alloc, World.size_alloc] at this
  have m1 : IsM mkI (((w.alloc (.cells #[.slice o m cap] 33)).alloc (.map #[] 0)).alloc (.cells #[.map (some (w.heap.size + 1))] 87)) (w.heap.size + 1) 0 (fun _ => none) := by
    have := (IsM.made mkI (w.alloc (.cells #[.slice o m cap] 33))).below ((Below.refl _ _).alloc (Nat.le_refl _) (.cells #[.map (some (w.heap.size + 1))] 87))
    rwa [World.size_alloc] at this
  have hz1 : (((w.alloc (.cells #[.slice o m cap] 33)).alloc (.map #[] 0)).alloc (.cells #[.map (some (w.heap.size + 1))] 87)).heap.size = w.heap.size + 1 + 1 + 1 := by simp
  have HB1 := Lib.hid hB1
  have H1 := Lib.hid b1
  have H2 := Lib.hid b2
  have HM1 := Lib.hid m1
  have HZ1 := Lib.hid hz1
  have HL := Lib.hid hL
  have HM := Lib.hid hm
  have HS := Lib.hid hs
  have HR := Lib.hid hR
  clear hB1 b1 b2 m1 hz1 hL hm hs hR k1
  refine (callsIn_wide (n := 6)).1 ?_
  refine callsIn_of_wp_marks Try.func46 rfl trivial ?_ rfl
  simp only [Try.ntmps46, List.size_toArray, List.length_cons, List.length_nil, Nat.reduceAdd, Nat.reduceSub, Array.replicate_succ, Array.replicate_zero, List.push_toArray, List.append_toArray, List.nil_append, List.cons_append]
  refine wpIn_wide.2 ?_
  go_wp2_with fail
  generalize (((w.alloc (.cells #[.slice o m cap] 33)).alloc (.map #[] 0)).alloc (.cells #[.map (some (w.heap.size + 1))] 87)) = w1 at *
  refine (backwardM_any o m cap _).mono ?_
  rintro e w2 ⟨rfl, rfl⟩
  have hk2 : Below w1.heap.size w1 (w1.alloc (.cells #[.slice o m cap] 33)) := (Below.refl _ _).alloc (Nat.le_refl _) _
  have HX2 : Hid (Bk (fun W => RowN 7 W o L) 33 (w.heap.size + 1 + 1 + 1) (.slice o m cap) (w1.alloc (.cells #[.slice o m cap] 33))) :=
    ⟨by have := Blk.new w1 33 #[.slice o m cap]; rwa [HZ1.out] at this, rowN_kept 7 o L _ _ (fun _ _ hc => ((HB1.out.trans (hk2.mono HB1.out.size)).cell (World.block_lt_of_cell? _ _ hc)).trans hc) HR.out⟩
  have HI0 : Hid (FirstD w m o cap L [] (w1.alloc (.cells #[.slice o m cap] 33))) := ⟨m, Nat.le_refl _, by rw [HL.out]; rfl, by
      rw [Nat.sub_self, List.drop_of_length_le (by rw [List.length_map, HL.out]; exact Nat.le_refl _)]
      exact HM1.out.below hk2, blk_b H2.out hk2, blk_b H1.out hk2, HB1.out.trans (hk2.mono HB1.out.size)⟩
  have HZ2 : Hid ((w1.alloc (.cells #[.slice o m cap] 33)).heap.size = w.heap.size + 1 + 1 + 1 + 1) := by show _ = _; rw [World.size_alloc, HZ1.out]
  clear hk2 HB1 H1 H2 HM1
  rw [HZ1.out]
  clear HZ1
  generalize w1.alloc (.cells #[.slice o m cap] 33) = w2 at *
  go_wp2_with fail
  refine wpIn_wide.1 (range_back (iterM_ok (w.heap.size + 1 + 1 + 1) o m cap L HL.out HM.out) entersM (Bk.own (rowN_kept 7 o L) _ _ _ _) HX2.out rfl rfl (FirstD w m o cap L) (firstD_own w m o cap L _ (by rw [HZ2.out]; omega)) HI0.out (fun x a' W => ∃ Bx, w.heap.size + 1 + 1 < Bx ∧ Blk W Bx 50 x.2.toArray ∧ a' = { tmps := #[.slice o m cap, .pointer (some ⟨w.heap.size, 0, none⟩), .nilFunc, .pointer (some ⟨w.heap.size + 1 + 1, 0, none⟩), .int .i64 (x.1 : Int), .pointer (some ⟨Bx, 0, none⟩), .slice o m cap, .int .i64 (m : Int), .map (some (w.heap.size + 1)), .slice o m cap, .func (.func 61) #[] #[.pointer (some ⟨w.heap.size + 1 + 1 + 1, 0, none⟩)], .int .i64 (x.1 : Int), .agg x.2.toArray, undef, undef, undef, undef, undef], defers := [] }) ?hAx ?assign ?body ?done)
  case hAx =>
    rintro x a' _ X Y row ⟨Bx, h1, h2, h3⟩ hg hr
    refine ⟨Bx, h1, h2.kept hg fun e => ?_, h3⟩
    obtain ⟨_, ob, ho, hc⟩ := hr Bx e.symm
    unfold Blk at h2
    rw [h2] at ho
    cases ho
    cases hc
  case assign =>
    intro l pre x W K hi hpre hK
    obtain ⟨x1, x2⟩ := x
    obtain ⟨hlt, s, o1, n1, k1, ia, p1, q1, ib, o2, n2, k2, rfl, hsz⟩ : w.heap.size + 1 + 1 < W.heap.size ∧ IsHd x2 := by
      obtain ⟨i, h1, h2, h3, h4, h5, h6⟩ := hi
      obtain ⟨k, rfl, hk, hLk, hp2⟩ := bks_next (by rw [HL.out]; exact h1) h2 hpre
      exact ⟨h4.lt, HS.out _ (List.mem_of_getElem? hLk)⟩
    have HK := Lib.hid (hK _ (W.alloc (.cells #[.string s, .slice o1 n1 k1, .int .i64 ia, .string p1, .string q1, .int .i64 ib, .slice o2 n2 k2] 50)) ((KeepsOthers.alloc _ _).from _) (fun h => h.below (rowN_kept 7 o L) ((Below.refl _ _).alloc (Nat.le_refl _) _))
      ((firstD_own w m o cap L w2.heap.size (by rw [HZ2.out]; omega)).alloc _ hi) ⟨W.heap.size, hlt, Blk.new W _ _, rfl⟩)
    clear hK hi hpre hsz hlt
    unfold encB
    gi_wp2
    exact HK.out
  case body =>
    intro l pre x a' W hi hax hpre
    obtain ⟨i, h1, h2, h3, h4, h5, h6⟩ := hi
    obtain ⟨k, rfl, hk, hLk, hp2⟩ := bks_next (by rw [HL.out]; exact h1) h2 hpre
    obtain ⟨x1, x2⟩ := x
    obtain ⟨Bx, hBx, bX, rfl⟩ := hax
    simp only at hk hLk bX
    subst hk
    obtain ⟨s, o1, n1, k1, ia, p1, q1, ib, o2, n2, k2, rfl, hs9⟩ := HS.out x2 (List.mem_of_getElem? hLk)
    have hsz := le_maxLen hs9
    have c5 := h4.cell 0
    have cX := bX.cell
    obtain ⟨w9, hrun, hM9, hg9⟩ := run_putI W (w.heap.size + 1) (m - (x1 + 1)) _ h3 (by have := HM.out; unfold maxLen; omega) s hsz x1
    have HSTEP := Lib.hid (firstD_step (x := (x1, [.string s, .slice o1 n1 k1, .int .i64 ia, .string p1, .string q1, .int .i64 ib, .slice o2 n2 k2])) (o := o) (D := w2.heap.size) (v := .slice o m cap) (n1 := m - (x1 + 1) + 1) (by rw [HZ2.out]; omega) h3.blk hLk h1 hp2 h4 h5 h6 (Z := W) (Below.refl _ _) hg9 hM9 rfl)
    clear h1 h2 h3 h4 h5 h6 hp2 hpre hLk hsz hs9 bX hBx hg9 hM9
    gi_wp2
    exact HSTEP.out
  case done =>
    intro D W hD hI hdef
    obtain ⟨i, h1, h2, h3, h4, h5, h6⟩ := hI
    obtain rfl := bks_end (by rw [HL.out]; exact h1) h2
    rw [Nat.sub_zero, List.drop_zero] at h3
    have HDW := Lib.hid hdef
    have H3 := Lib.hid h3
    have H4 := Lib.hid h4
    have H5 := Lib.hid h5
    have H6 := Lib.hid h6
    have HDD := Lib.hid hD
    clear h1 h2 h3 h4 h5 h6 hdef hD
    go_wp2_with fail
    refine ⟨by simp, .inl ⟨_, _, rfl, run_takeDeferred HDW.out, ?_⟩⟩
    have hne : ∀ k, k ≤ w.heap.size + 1 + 1 → k ≠ D := fun k hk => by have := HDD.out; have := HZ2.out; omega
    refine ⟨.func (.func 59) #[] #[.pointer (some ⟨w.heap.size + 1 + 1, 0, none⟩), .pointer (some ⟨w.heap.size, 0, none⟩)], by simp [results, Try.results46, go_sem], rfl, ⟨?_, ?_, ?_⟩, ?_⟩
    · exact H3.out.same (World.putObj_heap_other (by have := HDD.out; have := HZ2.out; omega))
    · exact (World.putObj_heap_other (by have := HDD.out; have := HZ2.out; omega)).trans H4.out
    · exact (World.putObj_heap_other (by have := HDD.out; have := HZ2.out; omega)).trans H5.out
    · have hT : Turn (fun i => some i = some D) W (W.putObj D (.deferred none)) := Turn.of_grown (grownBy_putObj' W D (.deferred none))
      exact H6.out.trans ⟨hT.os, hT.tape, hT.output, hT.size, fun i hi => hT.block i (by have := H6.out.size; omega) (fun e => by have := Option.some.inj e; have := HDD.out; have := HZ2.out; omega)⟩

end Go.Proofs.Ytmnhilgifjaocaa.sg
