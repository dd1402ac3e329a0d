/-
  FilexLies answers true, whatever the text. Condition: none beside the form's own reach.
-/
import Derived.Test.YtlgaphopjdeklaaGreatU40
import Derived.Test.YtlgaphopjdeklaaGreatU42
import Derived.ProofKit
import Derived.OpenShut
import Derived.SizedLaws
namespace Go.Proofs.YtlgaphopjdeklaaGreat.filexLies
open Go.ChangeShapes Go.WideShapes Go.ChangeAt Go.RowKit
open Go.ChangeMaps (open_string shut_string)
open Go.Lib hiding intOf
theorem own : ownKnob Tryz.prog.godebug = none := by kernel_rfl
theorem ok_lies {s : List UInt8} {X : FX} {j : Int} (h : txtAll s = .ok X j) : namedL s X.pos X.name ∧ lieI s X.pos X.imports ∧ lieD s (endI X.pos X.imports) X.decls := by
  unfold txtAll txt at h
  split at h
  · exact fil_lies h
  · cases h
set_option maxRecDepth 100000 in
set_option maxHeartbeats 8000000 in
theorem walk_err (s : ByteArray) (w : World) (hs : s.size ≤ 281474976710656) (p q : Int) (h : txtAll s.data.toList = .err p q) :
    Calls Tryz.prog 4 #[.string s] w fun e w' => e = .returned (.bool true) ∧ Below w.heap.size w w' := by
  have e2 : s.data.toList.length = s.size := by rw [Array.length_toList]; rfl
  obtain ⟨h1, h2, h3⟩ := txt_err h
  rw [e2] at h3
  have g1 : (q != 0) = true := by simpa using h1
  have HT := Lib.hid (fun W : World => (textF_all s hs W).mono fun e w' ⟨v, he, hr, hb⟩ => (⟨by rw [h] at hr; exact he.trans (congrArg Ending.returned hr), hb⟩ : e = Ending.returned (.tuple #[.agg #[.string ⟨#[]⟩, .int .i64 0, .slice none 0 0, .slice none 0 0], .agg #[.int .i64 p, .int .i64 q]]) ∧ Below W.heap.size W w'))
  clear h h1 e2
  go_enter Tryz.func4, Tryz.ntmps4
  go_wp2_with fail
  refine (awakeF_any _).mono ?_
  rintro e w1 ⟨rfl, hB⟩
  have B1 := Lib.hid hB
  clear hB
  go_wp2_with fail
  refine (HT.out _).mono ?_
  rintro e w2 ⟨rfl, hB⟩
  have B2 := Lib.hid (B1.out.trans (hB.mono B1.out.size))
  have b2 := B2.out.size
  clear hB HT B1
  go_wp2
  go_ret
  exact ⟨by simp, (B2.out.alloc b2 _).alloc (by simp; omega) _⟩
set_option maxRecDepth 100000 in
set_option maxHeartbeats 8000000 in
theorem walk_ok (s : ByteArray) (w : World) (hs : s.size ≤ 281474976710656) (X : FX) (j : Int) (h : txtAll s.data.toList = .ok X j) :
    Calls Tryz.prog 4 #[.string s] w fun e w' => e = .returned (.bool true) ∧ Below w.heap.size w w' := by
  have e2 : s.data.toList.length = s.size := by rw [Array.length_toList]; rfl
  obtain ⟨h1, h2, h3⟩ := ok_lies h
  have hz := txt_slim h
  have hzi := hz.imports.1
  have hzd := hz.decls.1
  have HZ := Lib.hid (fun (x : DX) (hx : x ∈ X.decls) => (hz.decls.2 x hx).fields.1)
  clear hz
  have HN := Lib.hid (fun (n : ByteArray) (p : Int) (hn : namedL s.data.toList p n) (W : World) => namedF s n p hs hn W)
  have HT := Lib.hid (fun W : World => (textF_all s hs W).mono fun e w' ⟨v, he, hr, hb⟩ => (⟨v, he, by rw [h] at hr; exact hr, hb⟩ : ∃ v, e = Ending.returned v ∧ FParRes W.heap.size w' (.ok X j) v ∧ Below W.heap.size W w'))
  have HL := Lib.hid (And.intro h2 h3)
  have H1 := Lib.hid h1
  clear h h1 h2 h3
  go_enter Tryz.func4, Tryz.ntmps4
  go_wp2_with fail
  refine (awakeF_any _).mono ?_
  rintro e w1 ⟨rfl, hB⟩
  have B1 := Lib.hid hB
  clear hB
  go_wp2_with fail
  refine (HT.out _).mono ?_
  rintro e w2 ⟨v, rfl, hr, hB⟩
  obtain ⟨vx, rfl, ⟨oi, ci, od, cd, rfl, hri, hrd⟩, _⟩ := hr
  have B2 := Lib.hid (B1.out.trans (hB.mono B1.out.size))
  have b2 := B2.out.size
  have k2 : Below w2.heap.size w2 ((w2.alloc (.cells #[.string X.name, .int .i64 X.pos, .slice oi X.imports.length ci, .slice od X.decls.length cd] 26)).alloc (.cells #[.int .i64 0, .int .i64 0] 28)) := ((Below.refl _ _).alloc (Nat.le_refl _) _).alloc (by simp) _
  have HI := Lib.hid (rowBelow (E := eltN) (P := fun q => w1.heap.size ≤ q) hri k2)
  have HD := Lib.hid (rowBelow (E := eltD) (P := fun q => w1.heap.size ≤ q) hrd k2)
  have X2 : Hid (Blk ((w2.alloc (.cells #[.string X.name, .int .i64 X.pos, .slice oi X.imports.length ci, .slice od X.decls.length cd] 26)).alloc (.cells #[.int .i64 0, .int .i64 0] 28)) w2.heap.size 26 #[.string X.name, .int .i64 X.pos, .slice oi X.imports.length ci, .slice od X.decls.length cd]) := (Blk.new w2 _ _).alloc _
  have W0 := Lib.hid (B2.out.trans (k2.mono b2))
  clear hB HT B1 B2 hri hrd k2 b2
  go_wp2_with (go_at_call 9; refine (HN.out _ _ H1.out _).mono ?_; rintro e w' ⟨rfl, rfl⟩)
  generalize ((w2.alloc (.cells #[.string X.name, .int .i64 X.pos, .slice oi X.imports.length ci, .slice od X.decls.length cd] 26)).alloc (.cells #[.int .i64 0, .int .i64 0] 28)) = w0 at *
  obtain ⟨gf, hgf⟩ : ∃ gf, gf = w2.heap.size := ⟨_, rfl⟩
  rw [← hgf] at X2 ⊢
  clear hgf H1
  go_loopg [7, 8, 9] X.imports.length (fun g at_ i _ wr => ∃ (k : Nat) (a : Int), at_ = .int .i64 a ∧ i = .int .i64 (k : Nat) ∧ k + g = X.imports.length ∧ Hid (lieI s.data.toList a (X.imports.drop k) ∧ lieD s.data.toList (endI a (X.imports.drop k)) X.decls) ∧ Hid (Below w0.heap.size w0 wr))
  case atStart => exact ⟨0, X.pos, rfl, rfl, by omega, HL, Lib.hid (Below.refl _ _)⟩
  case round =>
    clear HL
    obtain ⟨k, a, rfl, rfl, hk, HL, hbr⟩ := hrel
    have x1 := (X2.out.below hbr.out).cell
    by_cases hlt : k < X.imports.length
    · obtain ⟨gg, rfl⟩ : ∃ gg, gk = gg + 1 := ⟨gk - 1, by omega⟩
      have hxk := List.getElem?_eq_getElem hlt
      obtain ⟨b, cs, rfl, _, hl, hc, hy⟩ := (rowBelow (E := eltN) (P := fun q => w1.heap.size ≤ q) HI.out hbr.out).at_ k hxk
      obtain rfl := aggL (a := #[.string (X.imports[k]).1, .int .i64 (X.imports[k]).2]) hy
      rw [Nat.zero_add] at hc
      have c0 : wr.cell? ⟨b, k * 2, none⟩ = some (.string (X.imports[k]).1) := hc 0 _ rfl
      have c1 : wr.cell? ⟨b, k * 2 + 1, none⟩ = some (.int .i64 (X.imports[k]).2) := hc 1 _ rfl
      have hL := HL.out
      rw [List.drop_eq_getElem_cons hlt] at hL
      obtain ⟨⟨hn, ha, hr⟩, hd⟩ := hL
      have hlt2 : ((k : Nat) : Int) < (X.imports.length : Nat) := by omega
      have hk0 : (0 : Int) ≤ (k : Nat) := by omega
      have ha2 : ¬ (X.imports[k]).2 ≤ a := by omega
      have HNK := Lib.hid hn
      have HL2 : Hid (lieI s.data.toList (X.imports[k]).2 (X.imports.drop (k + 1)) ∧ lieD s.data.toList (endI (X.imports[k]).2 (X.imports.drop (k + 1))) X.decls) := ⟨hr, hd⟩
      clear hc hl hy hn hr hd HL ha
      generalize X.imports[k] = y at *
      clear hxk
      go_wp2_with fail
      refine wp_region_still_tail 13 (by kernel_rfl) (by kernel_rfl) ?_
      simp only [List.take_succ_cons, List.take_zero, List.drop_succ_cons, List.drop_zero]
      iterate 13 still_step
      refine wpStill_nil ?_
      change wpList _ _ _ _ _ wr.drew
      have hbd := Lib.hid hbr.out.drew
      have d0 : wr.drew.cell? ⟨b, k * 2, none⟩ = some (.string y.1) := c0
      have d1 : wr.drew.cell? ⟨b, k * 2 + 1, none⟩ = some (.int .i64 y.2) := c1
      have x2 := (X2.out.below hbd.out).cell
      clear c0 c1 x1
      generalize wr.drew = w5 at *
      go_wp2_with (go_at_call 9; refine (HN.out _ _ HNK.out _).mono ?_; rintro e w' ⟨rfl, rfl⟩)
      go_roundg gg
      case measure => omega
      case rel => exact ⟨k + 1, y.2, rfl, by go_num, by omega, HL2, hbd⟩
    · have hlt2 : ¬ ((k : Nat) : Int) < (X.imports.length : Nat) := by omega
      have hL := HL.out.2
      rw [List.drop_of_length_le (by omega)] at hL
      have HL2 : Hid (lieD s.data.toList a (X.decls.drop 0)) := hL
      obtain ⟨w3, rfl⟩ : ∃ w3, w3 = wr := ⟨wr, rfl⟩
      have X3 := Lib.hid (X2.out.below hbr.out)
      have HD3 := Lib.hid (rowBelow (E := eltD) (P := fun q => w1.heap.size ≤ q) HD.out hbr.out)
      have W3 := Lib.hid (W0.out.trans (hbr.out.mono W0.out.size))
      clear HL hL X2 HD HI W0
      go_wp2_with fail
      clear x1
      go_loopg [7, 10, 11, 12, 13, 14] X.decls.length (fun g at_ i _ _ _ _ wr => ∃ (k : Nat) (a : Int), at_ = .int .i64 a ∧ i = .int .i64 (k : Nat) ∧ k + g = X.decls.length ∧ Hid (lieD s.data.toList a (X.decls.drop k)) ∧ Hid (Below w3.heap.size w3 wr))
      case atStart => exact ⟨0, a, rfl, rfl, by omega, HL2, Lib.hid (Below.refl _ _)⟩
      case round =>
        clear HL2 hlt hlt2 hk hbr
        obtain ⟨k, a, rfl, rfl, hk, HL, hbr⟩ := hrel
        obtain ⟨w4, rfl⟩ : ∃ w4, w4 = wr := ⟨wr, rfl⟩
        have x1 := (X3.out.below hbr.out).cell
        have l1 := (X3.out.below hbr.out).lt
        by_cases hlt : k < X.decls.length
        · obtain ⟨gg, rfl⟩ : ∃ gg, gk = gg + 1 := ⟨gk - 1, by omega⟩
          have hxk := List.getElem?_eq_getElem hlt
          obtain ⟨b, cs, rfl, _, hl, hc, hy⟩ := (rowBelow (E := eltD) (P := fun q => w1.heap.size ≤ q) HD3.out hbr.out).at_ k hxk
          obtain ⟨rn, rp, rk, rq, rg, rm, rz, ra, ob, cb, of, cf, om, cm, tk, tp, tg, tn, tz, ta, os, cs, he, _, _, hfs, _⟩ := hy
          obtain rfl := aggL he
          rw [Nat.zero_add] at hc
          have C1 := Lib.hid hc
          have hL := HL.out
          rw [List.drop_eq_getElem_cons hlt] at hL
          obtain ⟨hn, ha, hps, hse, hby, hfl, hr⟩ := hL
          have hn0 := hn.2.1
          have hlt2 : ((k : Nat) : Int) < (X.decls.length : Nat) := by omega
          have hk0 : (0 : Int) ≤ (k : Nat) := by omega
          rw [e2] at hse
          have ha2 : ¬ (X.decls[k]).pos ≤ a := by omega
          have ha3 : ¬ (X.decls[k]).stop ≤ (X.decls[k]).pos := by omega
          have ha4 : ¬ ((s.size : Nat) : Int) < (X.decls[k]).stop := by omega
          have HNK := Lib.hid hn
          have HL2 := Lib.hid hr
          have HFL := Lib.hid hfl
          have hzf := HZ.out _ (List.mem_of_getElem? hxk)
          have HFS := Lib.hid hfs
          clear hc hl hn hr HL ha hfl hfs he
          generalize X.decls[k] = x at *
          clear hxk
          obtain ⟨m, hm⟩ : ∃ m : Nat, x.stop = ((m + 1 : Nat) : Int) := ⟨(x.stop - 1).toNat, by omega⟩
          have g4 : IntKind.i64.wrap (x.stop - 1) = (m : Nat) := by rw [hm]; rw [IntWalk.i64_in _ (by omega)]; omega
          have hmb : s.data.toList[m]? = some 125 := by rw [show (x.stop - 1).toNat = m by omega] at hby; exact hby
          have hms : m < s.size := by omega
          have hms2 : s[m] = 125 := by
            rw [List.getElem?_eq_some_iff] at hmb
            obtain ⟨_, h⟩ := hmb
            exact h
          have X4 : Hid (Blk (w4.alloc (.cells #[.int .i64 x.kind, .int .i64 x.pos, .int .i64 x.stop, .string x.name, .bool x.method, .string rn, .int .i64 rp, .int .i64 rk, .int .i64 rq, .string rg, .string rm, .slice rz ra ra, .slice ob x.bounds.length cb, .slice of x.fields.length cf, .slice om x.methods.length cm, .bool x.has, .int .i64 tk, .int .i64 tp, .string tg, .string tn, .slice tz ta ta, .slice os x.body.length cs] 43)) w4.heap.size 43 #[.int .i64 x.kind, .int .i64 x.pos, .int .i64 x.stop, .string x.name, .bool x.method, .string rn, .int .i64 rp, .int .i64 rk, .int .i64 rq, .string rg, .string rm, .slice rz ra ra, .slice ob x.bounds.length cb, .slice of x.fields.length cf, .slice om x.methods.length cm, .bool x.has, .int .i64 tk, .int .i64 tp, .string tg, .string tn, .slice tz ta ta, .slice os x.body.length cs]) := Blk.new _ _ _
          have k4 : Below w4.heap.size w4 (w4.alloc (.cells #[.int .i64 x.kind, .int .i64 x.pos, .int .i64 x.stop, .string x.name, .bool x.method, .string rn, .int .i64 rp, .int .i64 rk, .int .i64 rq, .string rg, .string rm, .slice rz ra ra, .slice ob x.bounds.length cb, .slice of x.fields.length cf, .slice om x.methods.length cm, .bool x.has, .int .i64 tk, .int .i64 tp, .string tg, .string tn, .slice tz ta ta, .slice os x.body.length cs] 43)) := (Below.refl _ _).alloc (Nat.le_refl _) _
          have HFS4 := Lib.hid (rowBelow (E := eltP) (P := fun q => w1.heap.size ≤ q) HFS.out k4)
          have B4 := Lib.hid (hbr.out.trans (k4.mono hbr.out.size))
          have hm2 : ((m : Nat) : Int) < (s.size : Nat) := by omega
          clear hby hmb HFS k4 hm
          go_wp2_with (first | (refine boxLoadAt 43 22 size22 Tryz.underlying43 rfl _ rfl b (k * 22) rfl (cs := [.int .i64 x.kind, .int .i64 x.pos, .int .i64 x.stop, .string x.name, .bool x.method, .string rn, .int .i64 rp, .int .i64 rk, .int .i64 rq, .string rg, .string rm, .slice rz ra ra, .slice ob x.bounds.length cb, .slice of x.fields.length cf, .slice om x.methods.length cm, .bool x.has, .int .i64 tk, .int .i64 tp, .string tg, .string tn, .slice tz ta ta, .slice os x.body.length cs]) C1.out rfl ?_) | (refine boxNew 43 22 size22 rfl _ _ rfl rfl [.int .i64 x.kind, .int .i64 x.pos, .int .i64 x.stop, .string x.name, .bool x.method, .string rn, .int .i64 rp, .int .i64 rk, .int .i64 rq, .string rg, .string rm, .slice rz ra ra, .slice ob x.bounds.length cb, .slice of x.fields.length cf, .slice om x.methods.length cm, .bool x.has, .int .i64 tk, .int .i64 tp, .string tg, .string tn, .slice tz ta ta, .slice os x.body.length cs] rfl rfl rfl rfl ?_) | (go_at_call 9; refine (HN.out _ _ HNK.out _).mono ?_; rintro e w' ⟨rfl, rfl⟩))
          generalize w4.alloc (.cells #[.int .i64 x.kind, .int .i64 x.pos, .int .i64 x.stop, .string x.name, .bool x.method, .string rn, .int .i64 rp, .int .i64 rk, .int .i64 rq, .string rg, .string rm, .slice rz ra ra, .slice ob x.bounds.length cb, .slice of x.fields.length cf, .slice om x.methods.length cm, .bool x.has, .int .i64 tk, .int .i64 tp, .string tg, .string tn, .slice tz ta ta, .slice os x.body.length cs] 43) = w6 at *
          clear C1 x1 HNK
          go_loopg [13, 14] x.fields.length (fun g i _ wr => ∃ m : Nat, i = .int .i64 (m : Nat) ∧ m + g = x.fields.length ∧ Hid (Below w6.heap.size w6 wr))
          case atStart => exact ⟨0, rfl, by omega, Lib.hid (Below.refl _ _)⟩
          case round =>
            obtain ⟨n, rfl, hnk, hbi⟩ := hrel
            have y1 := (X4.out.below hbi.out).cell
            by_cases hln : n < x.fields.length
            · obtain ⟨g2, rfl⟩ : ∃ g2, gk = g2 + 1 := ⟨gk - 1, by omega⟩
              have hyn := List.getElem?_eq_getElem hln
              obtain ⟨q, cs', rfl, _, hl, hc, hy⟩ := (rowBelow (E := eltP) (P := fun q => w1.heap.size ≤ q) HFS4.out hbi.out).at_ n hyn
              obtain ⟨_, _, _, _, _, _, hv, _⟩ := hy
              obtain rfl := aggL hv
              rw [Nat.zero_add] at hc
              have c0 : wr.cell? ⟨q, n * 7, none⟩ = some (.string (x.fields[n]).name) := hc 0 _ rfl
              have c1 : wr.cell? ⟨q, n * 7 + 1, none⟩ = some (.int .i64 (x.fields[n]).pos) := hc 1 _ rfl
              obtain ⟨f1, f2, f3⟩ := HFL.out _ (List.getElem_mem hln)
              have HF1 := Lib.hid f1
              have hln2 : ((n : Nat) : Int) < (x.fields.length : Nat) := by omega
              have hn00 : (0 : Int) ≤ (n : Nat) := by omega
              have f4 : ¬ (x.fields[n]).pos ≤ a := by omega
              have f5 : ¬ x.stop ≤ (x.fields[n]).pos := by omega
              clear hc hl hv f1 f2 f3
              generalize x.fields[n] = y at *
              clear hyn
              go_wp2_with fail
              refine wp_region_still_tail 13 (by kernel_rfl) (by kernel_rfl) ?_
              simp only [List.take_succ_cons, List.take_zero, List.drop_succ_cons, List.drop_zero]
              iterate 13 still_step
              refine wpStill_nil ?_
              change wpList _ _ _ _ _ wr.drew
              have hbd := Lib.hid hbi.out.drew
              have d0 : wr.drew.cell? ⟨q, n * 7, none⟩ = some (.string y.name) := c0
              have d1 : wr.drew.cell? ⟨q, n * 7 + 1, none⟩ = some (.int .i64 y.pos) := c1
              have y2 := (X4.out.below hbd.out).cell
              clear c0 c1 y1
              generalize wr.drew = w7 at *
              go_wp2_with fail
              refine (HN.out _ _ HF1.out _).mono ?_
              rintro e w' ⟨rfl, rfl⟩
              go_wp2_with fail
              go_quiet (fail)
              have hbq := Lib.hid (below_drewN hbd.out nq)
              clear d0 d1 y2
              go_wp2
              go_roundg g2
              case measure => omega
              case rel => exact ⟨n + 1, by go_num, by omega, hbq⟩
            · have hln2 : ¬ ((n : Nat) : Int) < (x.fields.length : Nat) := by omega
              have hb9 := Lib.hid (B4.out.trans (hbi.out.mono B4.out.size))
              go_wp2
              go_roundg gg
              case measure => omega
              case rel => exact ⟨k + 1, x.stop, rfl, by go_num, by omega, HL2, hb9⟩
        · have hlt2 : ¬ ((k : Nat) : Int) < (X.decls.length : Nat) := by omega
          have hb := Lib.hid (W3.out.trans (hbr.out.mono W3.out.size))
          go_wp2
          go_ret
          exact ⟨rfl, hb.out⟩
end Go.Proofs.YtlgaphopjdeklaaGreat.filexLies
