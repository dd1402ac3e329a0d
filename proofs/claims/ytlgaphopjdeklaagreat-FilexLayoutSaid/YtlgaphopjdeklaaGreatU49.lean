/-
  FilexLayout's walk. Condition: none beside the form's own reach.
-/
import Derived.Test.YtlgaphopjdeklaaGreatU40
import Derived.Test.YtlgaphopjdeklaaGreatU48
import Derived.ProofKit
import Derived.OpenShut
import Derived.SizedLaws
import Derived.Deep.DeepCutAuto
namespace Go.Proofs.YtlgaphopjdeklaaGreat.filexLayout
open Go.ChangeShapes Go.WideShapes Go.ChangeAt Go.RowKit
open Go.ChangeMaps (open_string shut_string)
open Go.Lib hiding intOf
theorem own : ownKnob Tryz.prog.godebug = none := by kernel_rfl
def eltI : Elt Int := ⟨1, by decide, fun _ _ x v => v = .agg #[.int .i64 x], fun _ _ _ _ h => h, fun h => ⟨_, h, rfl, rfl⟩⟩
theorem infoI : (Tryz.prog.info? 3).map (fun i => (i.zero, i.size, i.bytes)) = some (some (.int .i64 0), eltI.k, 8) := by kernel_rfl
/-- The places so far. -/
def plc (ts : List Tok) (k : Nat) : List Int := (List.range k).map fun i => (((wideL (ts.take i)).length + 6 : Nat) : Int)
theorem plc_len (ts : List Tok) (k : Nat) : (plc ts k).length = k := by unfold plc; simp
theorem plc_succ (ts : List Tok) (k : Nat) : plc ts (k + 1) = plc ts k ++ [(((wideL (ts.take k)).length + 6 : Nat) : Int)] := by unfold plc; rw [List.range_succ, List.map_append]; rfl
theorem plc_at (ts : List Tok) {k n : Nat} (h : k < n) : (plc ts n)[k]? = some (((wideL (ts.take k)).length + 6 : Nat) : Int) := by unfold plc; simp [h]
set_option maxRecDepth 100000 in
set_option maxHeartbeats 8000000 in
theorem walk_long (s : ByteArray) (w : World) (hs : 2000 < s.size) (hs2 : s.size ≤ 281474976710656) :
    Calls Tryz.prog 5 #[.string s] w fun e w' => e = .returned (.bool true) ∧ Below w.heap.size w w' := by
  have h1 : (2000 : Int) < (s.size : Nat) := by omega
  clear hs
  go_enter Tryz.func5, Tryz.ntmps5
  go_wp2_with (go_at_call 7; refine (awakeF_any _).mono ?_; rintro e w1 ⟨rfl, hB⟩)
  go_ret
  exact ⟨rfl, hB⟩
set_option maxRecDepth 100000 in
set_option maxHeartbeats 8000000 in
theorem walk_bad (s : ByteArray) (w : World) (hs : s.size ≤ 2000) (a : Nat) (c : Int) (h : lexed s.data.toList = ([], a, c)) (hc : c ≠ 0) :
    Calls Tryz.prog 5 #[.string s] w fun e w' => e = .returned (.bool true) ∧ Below w.heap.size w w' := by
  have g1 : ¬ (2000 : Int) < (s.size : Nat) := by omega
  have HA : Hid (∀ W : World, Calls Tryz.prog 10 #[.string s] W fun e w' => ∃ o cap, e = .returned (.tuple #[.slice o 0 cap, .agg #[.int .i64 (a : Nat), .int .i64 c]]) ∧ Below W.heap.size W w') :=
    fun W => (all_at s _ a c h W (by omega)).mono fun e w' ⟨o, cap, he, ht, hb, _⟩ => ⟨o, cap, he, hb⟩
  have q1 : (c != 0) = true := by simpa using hc
  clear h hc
  go_enter Tryz.func5, Tryz.ntmps5
  go_wp2_with fail
  refine (awakeF_any _).mono ?_
  rintro e w1 ⟨rfl, hB⟩
  have B1 := Lib.hid hB
  clear hB
  go_wp2_with fail
  refine (HA.out _).mono ?_
  rintro e w2 ⟨o, cap, rfl, hB⟩
  have B2 := Lib.hid (B1.out.trans (hB.mono B1.out.size))
  have b2 := B2.out.size
  clear hB B1 HA
  go_wp2
  go_ret
  exact ⟨rfl, B2.out.alloc b2 _⟩
set_option maxRecDepth 100000 in
set_option maxHeartbeats 16000000 in
theorem walk_good (s : ByteArray) (w : World) (hs : s.size ≤ 2000) (ts : List Tok) (hle : lexed s.data.toList = (ts, 0, 0)) (hfew : ts.length ≤ 4001) (hne : 0 < ts.length) (htx : ∀ t ∈ ts, t.text.length ≤ 2000) (X Y : FX) (p p' c : Int) (T1 : Ans s.data.toList X p c) (T2 : Ans (wideL ts) Y p' c) (hXY : flatF X = flatF Y) (hX : SlimF 4001 8026006 X) (hY : SlimF 4001 8026006 Y)
    (hpl : c ≠ 0 → ∀ (i : Nat) (t : Tok), i + 1 < ts.length → ts[i]? = some t → ((t.pos : Nat) : Int) = p → p' = (((wideL (ts.take i)).length + 6 : Nat) : Int)) :
    Calls Tryz.prog 5 #[.string s] w fun e w' => e = .returned (.bool true) ∧ Below w.heap.size w w' := by
  have g1 : ¬ (2000 : Int) < (s.size : Nat) := by omega
  have HA : Hid (∀ W : World, Calls Tryz.prog 10 #[.string s] W fun e w' => ∃ o cap, e = .returned (.tuple #[.slice o ts.length cap, .agg #[.int .i64 0, .int .i64 0]]) ∧ AtToks w' o ts ∧ Below W.heap.size W w') :=
    fun W => (all_at s _ 0 0 hle W (by omega)).mono fun e w' ⟨o, cap, he, ht, hb, _⟩ => ⟨o, cap, he, ht, hb⟩
  have HT1 : Hid (∀ W : World, Calls Tryz.prog 8 #[.string s] W fun e w' => ∃ (oi : Option Addr) (ci : Nat) (od : Option Addr) (cd : Nat), e = .returned (.tuple #[.agg #[.string X.name, .int .i64 X.pos, .slice oi X.imports.length ci, .slice od X.decls.length cd], .agg #[.int .i64 p, .int .i64 c]]) ∧ InRow 2 IsNX Tr w' oi 0 X.imports ∧ InRow 22 (IsDX Tr w') Tr w' od 0 X.decls ∧ Below W.heap.size W w') := fun W => T1 W
  have HT2 := Lib.hid T2
  have HTX := Lib.hid htx
  have HPL := Lib.hid hpl
  have HFX := Lib.hid (fun (v : Value) (W : World) (hv : IsFX Tr W X v) => flatW X (flat_len hX) hX.imports.1 hX.decls.1 (fun x hx => ⟨(hX.decls.2 x hx).fields.1, (hX.decls.2 x hx).methods.1, (hX.decls.2 x hx).body.1⟩) Tr v W hv)
  have HFY := Lib.hid (fun (v : Value) (W : World) (hv : IsFX Tr W Y v) => flatW Y (flat_len hY) hY.imports.1 hY.decls.1 (fun x hx => ⟨(hY.decls.2 x hx).fields.1, (hY.decls.2 x hx).methods.1, (hY.decls.2 x hx).body.1⟩) Tr v W hv)
  rw [← hXY] at HFY
  clear T1 T2 htx hle hpl hXY hX hY
  go_enter Tryz.func5, Tryz.ntmps5
  go_wp2_with fail
  refine (awakeF_any _).mono ?_
  rintro e w1 ⟨rfl, hB⟩
  have B1 := Lib.hid hB
  clear hB
  go_wp2_with fail
  refine (HA.out _).mono ?_
  rintro e w2 ⟨o, cap, rfl, hT, hB⟩
  have k2 : Hid (Below w2.heap.size w2 (w2.alloc (.cells #[.int .i64 0, .int .i64 0] 28))) := (Below.refl _ _).alloc (Nat.le_refl _) _
  have T0 := Lib.hid (hT.below k2.out)
  have B2 := Lib.hid (B1.out.trans ((hB.trans (k2.out.mono hB.size)).mono B1.out.size))
  clear hT hB HA B1 k2
  go_wp2_with fail
  generalize (w2.alloc (.cells #[.int .i64 0, .int .i64 0] 28)) = w0 at *
  obtain ⟨gd, hgd⟩ : ∃ gd, gd = w2.heap.size := ⟨_, rfl⟩
  rw [← hgd]
  clear hgd
  go_loopg [6, 7, 8] ts.length (fun g wd pl i wr => ∃ (k : Nat) (u : ByteArray) (o' : Option Addr) (cap' : Nat), wd = .string u ∧ pl = .slice o' k cap' ∧ i = .int .i64 (k : Nat) ∧ k + g = ts.length ∧ Hid (u.data.toList = wideL (ts.take k)) ∧ Hid (RowG eltI 3 w0.heap.size wr (.slice o' k cap') (plc ts k)) ∧ Hid (Below w0.heap.size w0 wr))
  case atStart => exact ⟨0, ⟨#[]⟩, none, 0, rfl, rfl, rfl, by omega, Lib.hid rfl, RowG.nil _ _, Lib.hid (Below.refl _ _)⟩
  case round =>
    obtain ⟨k, u, o', cap', rfl, rfl, rfl, hk, HU, HV, hbr⟩ := hrel
    have hul : Hid (u.size = (wideL (ts.take k)).length) := by
      show _ = _
      rw [← HU.out, Array.length_toList]; rfl
    by_cases hlt : k < ts.length
    · obtain ⟨gg, rfl⟩ : ∃ gg, gk = gg + 1 := ⟨gk - 1, by omega⟩
      have hxk := List.getElem?_eq_getElem hlt
      obtain ⟨g, off, rfl, _, _, _, a3⟩ := T0.out.tok hxk
      have hgl : g < w0.heap.size := World.block_lt_of_cell? _ _ a3
      have A3 := Lib.hid a3
      have htl := HTX.out _ (List.mem_of_getElem? hxk)
      have hWT := Lib.hid (wide_take ts k _ hxk)
      have hub : u.size ≤ 8026006 := by
        have h1 := wide_len (ts.take k) 2000 (fun t ht => HTX.out t (List.mem_of_mem_take ht))
        have h2 : (ts.take k).length * (6 + 2000) ≤ 4001 * 2006 := Nat.mul_le_mul (by rw [List.length_take]; omega) (by omega)
        have h3 := hul.out
        omega
      have hlt2 : ((k : Nat) : Int) < (ts.length : Nat) := by omega
      have hk0 : (0 : Int) ≤ (k : Nat) := by omega
      have OL := Lib.hid HV.out.own_lt
      have hz0 := hbr.out.size
      have HLB : Hid ((plc ts k).length + 1 ≤ 1073741825) := by show _ ≤ _; rw [plc_len]; omega
      clear a3
      generalize ts[k] = t at *
      clear hxk
      have s1 : u.size + 6 ≤ 9223372036854775807 := by omega
      have s2 : u.size + 6 + t.text.length ≤ 9223372036854775807 := by omega
      have s3 : ((u.size : Nat) : Int) + 6 ≤ 9223372036854775807 := by omega
      go_wp2_with (refine boxAppend (E := eltI) (T := 3) Tryz.underlying48 infoI rfl (by decide) rfl _ _ rfl w0.heap.size wr (.slice o' k cap') (plc ts k) rfl rfl HV.out wr.heap.size hz0 OL.out (((u.size : Nat) : Int) + 6) [.int .i64 (((u.size : Nat) : Int) + 6)] rfl rfl rfl (Nat.le_refl _) HLB.out ?_; intro v' w' hrow hbel; obtain ⟨o2, cap2, rfl⟩ := hrow.slice; have V5 := Lib.hid hrow; have K5 := Lib.hid ((hbr.out.alloc hz0 (.cells #[.int .i64 (((u.size : Nat) : Int) + 6)] 3)).trans hbel); have a3 := (K5.out.cell (p := ⟨g, off + k * 4 + 3, none⟩) hgl).trans A3.out; clear hrow hbel)
      go_roundg gg
      case measure => omega
      case rel =>
        have e8 : (plc ts k ++ [((u.size : Nat) : Int) + 6]).length = k + 1 := by rw [List.length_append, plc_len]; rfl
        have e9 : plc ts (k + 1) = plc ts k ++ [((u.size : Nat) : Int) + 6] := by rw [plc_succ, ← hul.out]; rfl
        refine ⟨k + 1, _, o2, cap2, rfl, by rw [plc_len], by go_num, by omega, Lib.hid ?_, ?_, K5⟩
        · rw [hWT.out, ← HU.out]
          simp [ByteArray.data_append, lyB]
        · rw [e9]
          have h := V5.out
          rw [e8] at h
          exact h
    · have hke : k = ts.length := by omega
      have hlt2 : ¬ ((k : Nat) : Int) < (ts.length : Nat) := by omega
      have HUE : Hid (u = ⟨(wideL ts).toArray⟩) := by
        show _ = _
        apply ByteArray.ext
        have h := HU.out
        rw [hke, List.take_length] at h
        rw [← h]
      have HKE := Lib.hid hke
      obtain ⟨w3, rfl⟩ : ∃ w3, w3 = wr := ⟨wr, rfl⟩
      have T3 := Lib.hid (T0.out.below hbr.out)
      have B3 := Lib.hid (B2.out.trans (hbr.out.mono B2.out.size))
      obtain ⟨oq, cq, hq, hrw⟩ := HV.out.row
      injection hq with hq1 hq2 hq3
      clear hq2
      subst hq1 hq3
      have R3 := Lib.hid hrw
      clear HU HV hul hrw hbr hk B2 T0 hlt hke
      go_wp2_with fail
      refine (HT1.out _).mono ?_
      rintro e w4 ⟨oi, ci, od, cd, rfl, hi4, hd4, hB⟩
      have k4 : Hid (Below w4.heap.size w4 ((w4.alloc (.cells #[.string X.name, .int .i64 X.pos, .slice oi X.imports.length ci, .slice od X.decls.length cd] 26)).alloc (.cells #[.int .i64 p, .int .i64 c] 28))) := ((Below.refl _ _).alloc (Nat.le_refl _) _).alloc (by simp) _
      have X4 : Hid (Blk ((w4.alloc (.cells #[.string X.name, .int .i64 X.pos, .slice oi X.imports.length ci, .slice od X.decls.length cd] 26)).alloc (.cells #[.int .i64 p, .int .i64 c] 28)) w4.heap.size 26 #[.string X.name, .int .i64 X.pos, .slice oi X.imports.length ci, .slice od X.decls.length cd]) := (Blk.new w4 _ _).alloc _
      have E4 : Hid (Blk ((w4.alloc (.cells #[.string X.name, .int .i64 X.pos, .slice oi X.imports.length ci, .slice od X.decls.length cd] 26)).alloc (.cells #[.int .i64 p, .int .i64 c] 28)) (w4.heap.size + 1) 28 #[.int .i64 p, .int .i64 c]) := by
        have := Blk.new (w4.alloc (.cells #[.string X.name, .int .i64 X.pos, .slice oi X.imports.length ci, .slice od X.decls.length cd] 26)) 28 #[.int .i64 p, .int .i64 c]
        show Blk _ _ _ _
        rwa [World.size_alloc] at this
      have T4 := Lib.hid ((T3.out.below hB).below k4.out)
      have R4 := Lib.hid (rowBelow (E := eltI) (P := fun q => w0.heap.size ≤ q) (rowBelow (E := eltI) (P := fun q => w0.heap.size ≤ q) R3.out hB) k4.out)
      have I4 := Lib.hid (rowBelow (E := eltN) (P := Tr) hi4 k4.out)
      have J4 := Lib.hid (rowBelow (E := eltD) (P := Tr) hd4 k4.out)
      have B4 := Lib.hid (B3.out.trans ((hB.trans (k4.out.mono hB.size)).mono B3.out.size))
      clear hi4 hd4 hB k4 T3 R3 B3 HT1
      go_wp2_with fail
      rw [HUE.out]
      refine (HT2.out _).mono ?_
      rintro e w5 ⟨oi', ci', od', cd', rfl, hi5, hd5, hB⟩
      have k5 : Hid (Below w5.heap.size w5 ((w5.alloc (.cells #[.string Y.name, .int .i64 Y.pos, .slice oi' Y.imports.length ci', .slice od' Y.decls.length cd'] 26)).alloc (.cells #[.int .i64 p', .int .i64 c] 28))) := ((Below.refl _ _).alloc (Nat.le_refl _) _).alloc (by simp) _
      have X5 := Lib.hid ((X4.out.below hB).below k5.out)
      have E5 := Lib.hid ((E4.out.below hB).below k5.out)
      have Y5 : Hid (Blk ((w5.alloc (.cells #[.string Y.name, .int .i64 Y.pos, .slice oi' Y.imports.length ci', .slice od' Y.decls.length cd'] 26)).alloc (.cells #[.int .i64 p', .int .i64 c] 28)) w5.heap.size 26 #[.string Y.name, .int .i64 Y.pos, .slice oi' Y.imports.length ci', .slice od' Y.decls.length cd']) := (Blk.new w5 _ _).alloc _
      have H5 : Hid (Blk ((w5.alloc (.cells #[.string Y.name, .int .i64 Y.pos, .slice oi' Y.imports.length ci', .slice od' Y.decls.length cd'] 26)).alloc (.cells #[.int .i64 p', .int .i64 c] 28)) (w5.heap.size + 1) 28 #[.int .i64 p', .int .i64 c]) := by
        have := Blk.new (w5.alloc (.cells #[.string Y.name, .int .i64 Y.pos, .slice oi' Y.imports.length ci', .slice od' Y.decls.length cd'] 26)) 28 #[.int .i64 p', .int .i64 c]
        show Blk _ _ _ _
        rwa [World.size_alloc] at this
      have T5 := Lib.hid ((T4.out.below hB).below k5.out)
      have R5 := Lib.hid (rowBelow (E := eltI) (P := fun q => w0.heap.size ≤ q) (rowBelow (E := eltI) (P := fun q => w0.heap.size ≤ q) R4.out hB) k5.out)
      have I5 := Lib.hid (rowBelow (E := eltN) (P := Tr) (rowBelow (E := eltN) (P := Tr) I4.out hB) k5.out)
      have J5 := Lib.hid (rowBelow (E := eltD) (P := Tr) (rowBelow (E := eltD) (P := Tr) J4.out hB) k5.out)
      have I6 := Lib.hid (rowBelow (E := eltN) (P := Tr) hi5 k5.out)
      have J6 := Lib.hid (rowBelow (E := eltD) (P := Tr) hd5 k5.out)
      have B5 := Lib.hid (B4.out.trans ((hB.trans (k5.out.mono hB.size)).mono B4.out.size))
      have x6 := X5.out.cell
      have e6 := E5.out.cell
      have y6 := Y5.out.cell
      have h6 := H5.out.cell
      have l6 := H5.out.lt
      have l7 := E5.out.lt
      have l8 := Y5.out.lt
      have l9 := X5.out.lt
      clear hi5 hd5 hB k5 X4 E4 T4 R4 I4 J4 B4 HT2 HUE
      go_wp2_with fail
      generalize ((w5.alloc (.cells #[.string Y.name, .int .i64 Y.pos, .slice oi' Y.imports.length ci', .slice od' Y.decls.length cd'] 26)).alloc (.cells #[.int .i64 p', .int .i64 c] 28)) = w6 at *
      have HCX := Lib.hid (fun (W : World) (hb : Below w6.heap.size w6 W) => HFX.out (.agg #[.string X.name, .int .i64 X.pos, .slice oi X.imports.length ci, .slice od X.decls.length cd]) W ⟨oi, ci, od, cd, rfl, rowBelow (E := eltN) (P := Tr) I5.out hb, rowBelow (E := eltD) (P := Tr) J5.out hb⟩)
      have HCY := Lib.hid (fun (W : World) (hb : Below w6.heap.size w6 W) => HFY.out (.agg #[.string Y.name, .int .i64 Y.pos, .slice oi' Y.imports.length ci', .slice od' Y.decls.length cd']) W ⟨oi', ci', od', cd', rfl, rowBelow (E := eltN) (P := Tr) I6.out hb, rowBelow (E := eltD) (P := Tr) J6.out hb⟩)
      clear I5 J5 I6 J6 HFX HFY
      go_cut [69] (fun v wx => v = .bool false ∧ Hid (Below w6.heap.size w6 wx))
      case first =>
        have p0 : w6.cell? ⟨w4.heap.size + 1, 1, none⟩ = some (.int .i64 c) := E5.out.cell 1
        have p1 : w6.cell? ⟨w5.heap.size + 1, 1, none⟩ = some (.int .i64 c) := H5.out.cell 1
        have p2 : w6.cell? ⟨w4.heap.size, 0, none⟩ = some (.string X.name) := X5.out.cell 0
        have p3 : w6.cell? ⟨w4.heap.size, 1, none⟩ = some (.int .i64 X.pos) := X5.out.cell 1
        have p4 : w6.cell? ⟨w4.heap.size, 2, none⟩ = some (.slice oi X.imports.length ci) := X5.out.cell 2
        have p5 : w6.cell? ⟨w4.heap.size, 3, none⟩ = some (.slice od X.decls.length cd) := X5.out.cell 3
        have p6 : w6.cell? ⟨w5.heap.size, 0, none⟩ = some (.string Y.name) := Y5.out.cell 0
        have p7 : w6.cell? ⟨w5.heap.size, 1, none⟩ = some (.int .i64 Y.pos) := Y5.out.cell 1
        have p8 : w6.cell? ⟨w5.heap.size, 2, none⟩ = some (.slice oi' Y.imports.length ci') := Y5.out.cell 2
        have p9 : w6.cell? ⟨w5.heap.size, 3, none⟩ = some (.slice od' Y.decls.length cd') := Y5.out.cell 3
        clear x6 e6 y6 h6
        go_region_held3 (fun w' => w'.cell? ⟨w4.heap.size + 1, 1, none⟩ = some (.int .i64 c) ∧ w'.cell? ⟨w5.heap.size + 1, 1, none⟩ = some (.int .i64 c) ∧ w'.cell? ⟨w4.heap.size, 0, none⟩ = some (.string X.name) ∧ w'.cell? ⟨w4.heap.size, 1, none⟩ = some (.int .i64 X.pos) ∧ w'.cell? ⟨w4.heap.size, 2, none⟩ = some (.slice oi X.imports.length ci) ∧ w'.cell? ⟨w4.heap.size, 3, none⟩ = some (.slice od X.decls.length cd) ∧ w'.cell? ⟨w5.heap.size, 0, none⟩ = some (.string Y.name) ∧ w'.cell? ⟨w5.heap.size, 1, none⟩ = some (.int .i64 Y.pos) ∧ w'.cell? ⟨w5.heap.size, 2, none⟩ = some (.slice oi' Y.imports.length ci') ∧ w'.cell? ⟨w5.heap.size, 3, none⟩ = some (.slice od' Y.decls.length cd')) (refine ⟨?_, ?_, ?_, ?_, ?_, ?_, ?_, ?_, ?_, ?_⟩ <;> (first | with_reducible assumption | (simp [p0, p1, p2, p3, p4, p5, p6, p7, p8, p9]; done))) ((go_at_call 11; (first | (refine (HCY.out _ KB.out).mono ?_) | (refine (HCX.out _ (Below.refl _ _).drew).mono ?_)); rintro e w7 ⟨rfl, hB⟩; (first | (have KC := Lib.hid (KB.out.trans (hB.mono KB.out.size)); clear KB; have KB := KC) | (have KB := Lib.hid hB.undrew)); have q0 : w7.cell? ⟨w4.heap.size + 1, 1, none⟩ = some (.int .i64 c) := (E5.out.below KB.out).cell 1; have q1 : w7.cell? ⟨w5.heap.size + 1, 1, none⟩ = some (.int .i64 c) := (H5.out.below KB.out).cell 1; have q2 : w7.cell? ⟨w4.heap.size, 0, none⟩ = some (.string X.name) := (X5.out.below KB.out).cell 0; have q3 : w7.cell? ⟨w4.heap.size, 1, none⟩ = some (.int .i64 X.pos) := (X5.out.below KB.out).cell 1; have q4 : w7.cell? ⟨w4.heap.size, 2, none⟩ = some (.slice oi X.imports.length ci) := (X5.out.below KB.out).cell 2; have q5 : w7.cell? ⟨w4.heap.size, 3, none⟩ = some (.slice od X.decls.length cd) := (X5.out.below KB.out).cell 3; have q6 : w7.cell? ⟨w5.heap.size, 0, none⟩ = some (.string Y.name) := (Y5.out.below KB.out).cell 0; have q7 : w7.cell? ⟨w5.heap.size, 1, none⟩ = some (.int .i64 Y.pos) := (Y5.out.below KB.out).cell 1; have q8 : w7.cell? ⟨w5.heap.size, 2, none⟩ = some (.slice oi' Y.imports.length ci') := (Y5.out.below KB.out).cell 2; have q9 : w7.cell? ⟨w5.heap.size, 3, none⟩ = some (.slice od' Y.decls.length cd') := (Y5.out.below KB.out).cell 3; clear hB))
        all_goals go_wp2_with fail
        all_goals go_meet
        all_goals exact ⟨by simp, KB⟩
      case rest =>
        obtain ⟨rfl, hbx⟩ := hcut
        clear x6 e6 y6 h6 HCX HCY X5 Y5
        go_wp2_with fail
        go_loopg [13] ts.length (fun g i wr => ∃ m : Nat, i = .int .i64 (m : Nat) ∧ m + g = ts.length ∧ Hid (Below w6.heap.size w6 wr))
        case atStart => exact ⟨0, rfl, by omega, hbx⟩
        case round =>
          clear hlt2
          obtain ⟨m, rfl, hm, hbi⟩ := hrel
          have e8 := (E5.out.below hbi.out).cell
          have h8 := (H5.out.below hbi.out).cell
          by_cases hlm : m < ts.length
          · obtain ⟨g2, rfl⟩ : ∃ g2, gk = g2 + 1 := ⟨gk - 1, by omega⟩
            have hxm := List.getElem?_eq_getElem hlm
            obtain ⟨g, off, rfl, _, a1, _, _⟩ := (T5.out.below hbi.out).tok hxm
            obtain ⟨b, cs, rfl, _, _, hc, hv⟩ := (rowBelow (E := eltI) (P := fun q => w0.heap.size ≤ q) R5.out hbi.out).at_ m (y := (((wideL (ts.take m)).length + 6 : Nat) : Int)) (by rw [HKE.out]; exact plc_at ts hlm)
            obtain rfl := aggL (a := #[.int .i64 (((wideL (ts.take m)).length + 6 : Nat) : Int)]) hv
            have b1 : wr.cell? ⟨b, m, none⟩ = some (.int .i64 (((wideL (ts.take m)).length + 6 : Nat) : Int)) := by
              have h := hc 0 _ rfl
              rwa [show (0 + m) * eltI.k + 0 = m by show (0 + m) * 1 + 0 = m; omega] at h
            have hlm2 : ((m : Nat) : Int) < (ts.length : Nat) := by omega
            have hlm3 : ((m : Nat) : Int) < (k : Nat) := by have := HKE.out; omega
            have hm0 : (0 : Int) ≤ (m : Nat) := by omega
            have hw1 : IntKind.i64.wrap (((ts.length : Nat) : Int) - 1) = ((ts.length : Nat) : Int) - 1 := IntWalk.i64_in _ (by omega)
            have hpm := fun (h0 : c ≠ 0) (h1 : m + 1 < ts.length) (h2 : (((ts[m]).pos : Nat) : Int) = p) => HPL.out h0 m (ts[m]) h1 hxm h2
            clear hc hv
            generalize (((wideL (ts.take m)).length + 6 : Nat) : Int) = pm at *
            generalize ts[m] = t at *
            clear hxm
            by_cases hc0 : c = 0
            · have q1 : (c != 0) = false := by simpa using hc0
              clear hc0 hpm
              go_wp2_with fail
              go_quiet (fail)
              have hbq := Lib.hid (below_drewN hbi.out nq)
              clear a1 b1 h8 e8
              go_wp2
              go_roundg g2
              case measure => omega
              case rel => exact ⟨m + 1, by go_num, by omega, hbq⟩
            · have q1 : (c != 0) = true := by simpa using hc0
              by_cases htp : ((t.pos : Nat) : Int) = p
              · have q2 : (((t.pos : Nat) : Int) == p) = true := by simpa using htp
                by_cases hlast : m + 1 < ts.length
                · have q3 : ((m : Nat) : Int) < ((ts.length : Nat) : Int) - 1 := by omega
                  have q4 : (p' != pm) = false := by simpa using hpm hc0 hlast htp
                  clear hc0 htp hpm
                  go_wp2_with fail
                  go_quiet (fail)
                  have hbq := Lib.hid (below_drewN hbi.out nq)
                  clear a1 b1 h8 e8
                  go_wp2
                  go_roundg g2
                  case measure => omega
                  case rel => exact ⟨m + 1, by go_num, by omega, hbq⟩
                · have q3 : decide (((m : Nat) : Int) < ((ts.length : Nat) : Int) - 1) = false := decide_eq_false (by omega)
                  clear hc0 htp hpm
                  go_wp2_with fail
                  go_quiet (fail)
                  have hbq := Lib.hid (below_drewN hbi.out nq)
                  clear a1 b1 h8 e8
                  go_wp2
                  go_roundg g2
                  case measure => omega
                  case rel => exact ⟨m + 1, by go_num, by omega, hbq⟩
              · have q2 : (((t.pos : Nat) : Int) == p) = false := by simpa using htp
                clear hc0 htp hpm
                go_wp2_with fail
                go_quiet (fail)
                have hbq := Lib.hid (below_drewN hbi.out nq)
                clear a1 b1 h8 e8
                go_wp2
                go_roundg g2
                case measure => omega
                case rel => exact ⟨m + 1, by go_num, by omega, hbq⟩
          · have hlm2 : ¬ ((m : Nat) : Int) < (ts.length : Nat) := by omega
            have hb9 := Lib.hid (B5.out.trans (hbi.out.mono B5.out.size))
            go_wp2
            go_ret
            exact ⟨rfl, hb9.out⟩
end Go.Proofs.YtlgaphopjdeklaaGreat.filexLayout
