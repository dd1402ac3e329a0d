/-
  The walk of the law's own 'flat'. Condition: the file lies in memory as said, and its text has at most 2^62 bytes.
-/
import Derived.Test.YtlgaphopjdeklaaGreatU44
import Derived.Test.YtlgaphopjdeklaaGreatU41
namespace Go.Proofs.YtlgaphopjdeklaaGreat
open Go.RowKit
open Go.Lib hiding intOf
set_option maxRecDepth 100000 in
set_option maxHeartbeats 16000000 in
theorem flatW (X : FX) (hl : (flatF X).length ≤ 4611686018427387904) (hzi : X.imports.length ≤ 4001) (hzd : X.decls.length ≤ 4001) (hz : ∀ x ∈ X.decls, x.fields.length ≤ 4001 ∧ x.methods.length ≤ 4001 ∧ x.body.length ≤ 4001) (P : Nat → Prop) (v : Value) (w : World) (hv : IsFX P w X v) :
    Calls Tryz.prog 11 #[v] w fun e w' => e = .returned (.string ⟨(flatF X).toArray⟩) ∧ Below w.heap.size w w' := by
  obtain ⟨oi, ci, od, cd, rfl, h1, h2⟩ := hv
  have k0 : Below w.heap.size w (w.alloc (.cells #[.string X.name, .int .i64 X.pos, .slice oi X.imports.length ci, .slice od X.decls.length cd] 26)) := (Below.refl _ _).alloc (Nat.le_refl _) _
  have HI := Lib.hid (rowBelow (E := eltN) (P := P) h1 k0)
  have HD0 := Lib.hid (rowBelow (E := eltD) (P := P) h2 k0)
  have X0 := Lib.hid (Blk.new w 26 #[.string X.name, .int .i64 X.pos, .slice oi X.imports.length ci, .slice od X.decls.length cd])
  have HZ := Lib.hid hz
  have W0 := Lib.hid k0
  have HU : Hid (X.name.data.toList ++ (((X.imports.drop 0).flatMap (fun n => (32 :: byS n.1 : List UInt8))) ++ X.decls.flatMap flatD) = flatF X) := by show _ = _; unfold flatF; rw [List.append_assoc]; rfl
  clear h1 h2 hz k0
  go_enter Tryz.func11, Tryz.ntmps11
  go_wp2_with fail
  obtain ⟨gf, hgf⟩ : ∃ gf, gf = w.heap.size := ⟨_, rfl⟩
  generalize w.alloc (.cells #[.string X.name, .int .i64 X.pos, .slice oi X.imports.length ci, .slice od X.decls.length cd] 26) = w0 at *
  rw [← hgf] at X0 ⊢
  clear hgf
  go_loopg [3, 4] X.imports.length (fun g out i wr => ∃ (k : Nat) (u : ByteArray), out = .string u ∧ i = .int .i64 (k : Nat) ∧ k + g = X.imports.length ∧ Hid (u.data.toList ++ (((X.imports.drop k).flatMap (fun n => (32 :: byS n.1 : List UInt8))) ++ X.decls.flatMap flatD) = flatF X) ∧ Hid (Below w0.heap.size w0 wr))
  case atStart => exact ⟨0, _, rfl, rfl, by omega, HU, Lib.hid (Below.refl _ _)⟩
  case round =>
    clear HU
    obtain ⟨k, u, rfl, rfl, hk, HU, hbr⟩ := hrel
    have x1 := (X0.out.below hbr.out).cell
    by_cases hlt : k < X.imports.length
    · obtain ⟨gg, rfl⟩ : ∃ gg, gk = gg + 1 := ⟨gk - 1, by omega⟩
      have hxk := List.getElem?_eq_getElem hlt
      obtain ⟨b, cs, rfl, _, _, hc, hy⟩ := (rowBelow (E := eltN) (P := P) HI.out hbr.out).at_ k hxk
      obtain rfl := aggL (a := #[.string (X.imports[k]).1, .int .i64 (X.imports[k]).2]) hy
      rw [Nat.zero_add] at hc
      have c0 : wr.cell? ⟨b, k * 2, none⟩ = some (.string (X.imports[k]).1) := hc 0 _ rfl
      have hD : u.data.toList ++ ((32 :: byS (X.imports[k]).1) ++ (((X.imports.drop (k + 1)).flatMap (fun n => (32 :: byS n.1 : List UInt8))) ++ X.decls.flatMap flatD)) = flatF X := by
        have h := HU.out
        rw [List.drop_eq_getElem_cons hlt, List.flatMap_cons, List.append_assoc] at h
        exact h
      have hS := congrArg List.length hD
      simp only [List.length_append, List.length_cons, byS, Array.length_toList] at hS
      have s1 : u.size + 1 ≤ 9223372036854775807 := by have : u.data.size = u.size := rfl; omega
      have s2 : u.size + 1 + (X.imports[k]).1.size ≤ 9223372036854775807 := by have : u.data.size = u.size := rfl; have : (X.imports[k]).1.data.size = (X.imports[k]).1.size := rfl; omega
      have HD := Lib.hid hD
      have hlt2 : ((k : Nat) : Int) < (X.imports.length : Nat) := by omega
      have hk0 : (0 : Int) ≤ (k : Nat) := by omega
      clear hc hD hS HU
      generalize X.imports[k] = y at *
      clear hxk
      go_wp2
      go_roundg gg
      case measure => omega
      case rel => exact ⟨k + 1, _, rfl, by go_num, by omega, Lib.hid (by have h := HD.out; rw [← h]; simp [byS, List.append_assoc]), hbr⟩
    · have hlt2 : ¬ ((k : Nat) : Int) < (X.imports.length : Nat) := by omega
      have HV := HU.out
      rw [List.drop_of_length_le (by omega), List.flatMap_nil, List.nil_append] at HV
      have HU2 : Hid (u.data.toList ++ (X.decls.drop 0).flatMap flatD = flatF X) := HV
      obtain ⟨w3, rfl⟩ : ∃ w3, w3 = wr := ⟨wr, rfl⟩
      have X3 := Lib.hid (X0.out.below hbr.out)
      have HD3 := Lib.hid (rowBelow (E := eltD) (P := P) HD0.out hbr.out)
      have W3 := Lib.hid (W0.out.trans (hbr.out.mono W0.out.size))
      clear HU HV X0 HD0 HI W0
      go_wp2_with fail
      clear x1
      go_loopg [3, 5, 6, 7, 8, 9] X.decls.length (fun g out i _ _ _ _ wr => ∃ (k : Nat) (u : ByteArray), out = .string u ∧ i = .int .i64 (k : Nat) ∧ k + g = X.decls.length ∧ Hid (u.data.toList ++ (X.decls.drop k).flatMap flatD = flatF X) ∧ Hid (Below w3.heap.size w3 wr))
      case atStart => exact ⟨0, _, rfl, rfl, by omega, HU2, Lib.hid (Below.refl _ _)⟩
      case round =>
        clear HU2 hlt hlt2 hk hbr
        obtain ⟨k, u, rfl, rfl, hk, HU, hbr⟩ := hrel
        obtain ⟨w4, rfl⟩ : ∃ w4, w4 = wr := ⟨wr, rfl⟩
        have x1 := (X3.out.below hbr.out).cell
        by_cases hlt : k < X.decls.length
        · obtain ⟨gg, rfl⟩ : ∃ gg, gk = gg + 1 := ⟨gk - 1, by omega⟩
          have hxk := List.getElem?_eq_getElem hlt
          obtain ⟨b, cs, rfl, _, hl2, hc, hy⟩ := (rowBelow (E := eltD) (P := P) HD3.out hbr.out).at_ k hxk
          obtain ⟨rn, rp, rk, rq, rg, rm, rz, ra, ob, cb, of, cf, om, cm, tk, tp, tg, tn, tz, ta, os, cs, he, hpx, _, hfs, hms, _, hbs⟩ := hy
          obtain ⟨_, _, _, _, _, _, hpe, _⟩ := hpx
          simp only [Value.agg.injEq, Array.mk.injEq, List.cons.injEq, Value.string.injEq, Value.int.injEq, true_and, and_true] at hpe
          have hr1 := hpe.1
          have hr2 := hpe.2.1
          clear hpe
          subst hr1 hr2
          obtain rfl := aggL he
          rw [Nat.zero_add] at hc
          have C1 := Lib.hid hc
          have hzx := HZ.out _ (List.mem_of_getElem? hxk)
          obtain ⟨hz1, hz2, hz3⟩ := hzx
          have hD := HU.out
          rw [List.drop_eq_getElem_cons hlt, List.flatMap_cons] at hD
          have hlt2 : ((k : Nat) : Int) < (X.decls.length : Nat) := by omega
          have hk0 : (0 : Int) ≤ (k : Nat) := by omega
          clear hc he hl2 HU
          generalize X.decls[k] = x at *
          clear hxk
          have hfx : flatD x = 59 :: (byS x.name ++ byS x.recv.name) ++ x.fields.flatMap (fun y => (44 :: byS y.name : List UInt8)) ++ x.methods.flatMap (fun y => (44 :: byS y.name : List UInt8)) ++ x.body.flatMap (fun y => (46 :: byS y.name : List UInt8)) := rfl
          rw [hfx] at hD
          clear hfx
          simp only [List.append_assoc, List.cons_append] at hD
          have hS := congrArg List.length hD
          simp only [List.length_append, List.length_cons, byS, Array.length_toList] at hS
          have s1 : u.size + 1 ≤ 9223372036854775807 := by have : u.data.size = u.size := rfl; omega
          have s2 : u.size + 1 + x.name.size ≤ 9223372036854775807 := by have : u.data.size = u.size := rfl; have : x.name.data.size = x.name.size := rfl; omega
          have s3 : u.size + 1 + x.name.size + x.recv.name.size ≤ 9223372036854775807 := by have : u.data.size = u.size := rfl; have : x.name.data.size = x.name.size := rfl; have : x.recv.name.data.size = x.recv.name.size := rfl; omega
          have HU : Hid ((u ++ ⟨#[59]⟩ ++ x.name ++ x.recv.name).data.toList ++ ((x.fields.drop 0).flatMap (fun y => (44 :: byS y.name : List UInt8)) ++ (x.methods.flatMap (fun y => (44 :: byS y.name : List UInt8)) ++ (x.body.flatMap (fun y => (46 :: byS y.name : List UInt8)) ++ (X.decls.drop (k + 1)).flatMap flatD))) = flatF X) := by
            show _ = _
            rw [← hD]
            simp [byS, ByteArray.data_append, List.append_assoc]
          have X4 : Hid (Blk (w4.alloc (.cells #[.int .i64 x.kind, .int .i64 x.pos, .int .i64 x.stop, .string x.name, .bool x.method, .string x.recv.name, .int .i64 x.recv.pos, .int .i64 rk, .int .i64 rq, .string rg, .string rm, .slice rz ra ra, .slice ob x.bounds.length cb, .slice of x.fields.length cf, .slice om x.methods.length cm, .bool x.has, .int .i64 tk, .int .i64 tp, .string tg, .string tn, .slice tz ta ta, .slice os x.body.length cs] 43)) w4.heap.size 43 #[.int .i64 x.kind, .int .i64 x.pos, .int .i64 x.stop, .string x.name, .bool x.method, .string x.recv.name, .int .i64 x.recv.pos, .int .i64 rk, .int .i64 rq, .string rg, .string rm, .slice rz ra ra, .slice ob x.bounds.length cb, .slice of x.fields.length cf, .slice om x.methods.length cm, .bool x.has, .int .i64 tk, .int .i64 tp, .string tg, .string tn, .slice tz ta ta, .slice os x.body.length cs]) := Blk.new _ _ _
          have k4 : Below w4.heap.size w4 (w4.alloc (.cells #[.int .i64 x.kind, .int .i64 x.pos, .int .i64 x.stop, .string x.name, .bool x.method, .string x.recv.name, .int .i64 x.recv.pos, .int .i64 rk, .int .i64 rq, .string rg, .string rm, .slice rz ra ra, .slice ob x.bounds.length cb, .slice of x.fields.length cf, .slice om x.methods.length cm, .bool x.has, .int .i64 tk, .int .i64 tp, .string tg, .string tn, .slice tz ta ta, .slice os x.body.length cs] 43)) := (Below.refl _ _).alloc (Nat.le_refl _) _
          have HF0 := Lib.hid (rowBelow (E := eltP) (P := P) hfs k4)
          have HM0 := Lib.hid (rowBelow (E := eltM) (P := P) hms k4)
          have HS0 := Lib.hid (IsSPs.below hbs k4)
          have B4 := Lib.hid (hbr.out.trans (k4.mono hbr.out.size))
          clear hfs hms hbs k4 hD hS
          go_wp2_with (first | (refine boxLoadAt 43 22 size22 Tryz.underlying43 rfl _ rfl b (k * 22) rfl (cs := [.int .i64 x.kind, .int .i64 x.pos, .int .i64 x.stop, .string x.name, .bool x.method, .string x.recv.name, .int .i64 x.recv.pos, .int .i64 rk, .int .i64 rq, .string rg, .string rm, .slice rz ra ra, .slice ob x.bounds.length cb, .slice of x.fields.length cf, .slice om x.methods.length cm, .bool x.has, .int .i64 tk, .int .i64 tp, .string tg, .string tn, .slice tz ta ta, .slice os x.body.length cs]) C1.out rfl ?_) | (refine boxNew 43 22 size22 rfl _ _ rfl rfl [.int .i64 x.kind, .int .i64 x.pos, .int .i64 x.stop, .string x.name, .bool x.method, .string x.recv.name, .int .i64 x.recv.pos, .int .i64 rk, .int .i64 rq, .string rg, .string rm, .slice rz ra ra, .slice ob x.bounds.length cb, .slice of x.fields.length cf, .slice om x.methods.length cm, .bool x.has, .int .i64 tk, .int .i64 tp, .string tg, .string tn, .slice tz ta ta, .slice os x.body.length cs] rfl rfl rfl rfl ?_))
          generalize w4.alloc (.cells #[.int .i64 x.kind, .int .i64 x.pos, .int .i64 x.stop, .string x.name, .bool x.method, .string x.recv.name, .int .i64 x.recv.pos, .int .i64 rk, .int .i64 rq, .string rg, .string rm, .slice rz ra ra, .slice ob x.bounds.length cb, .slice of x.fields.length cf, .slice om x.methods.length cm, .bool x.has, .int .i64 tk, .int .i64 tp, .string tg, .string tn, .slice tz ta ta, .slice os x.body.length cs] 43) = w6 at *
          clear C1 x1 s1 s2 s3
          have HF := Lib.hid (fun (W : World) (h : Below w6.heap.size w6 W) => rowBelow (E := eltP) (P := P) HF0.out h)
          have HM := Lib.hid (fun (W : World) (h : Below w6.heap.size w6 W) => rowBelow (E := eltM) (P := P) HM0.out h)
          have HS := Lib.hid (fun (W : World) (h : Below w6.heap.size w6 W) => IsSPs.below HS0.out h)
          have HBI := Lib.hid (Below.refl w6.heap.size w6)
          clear HF0 HM0 HS0
          go_loopg [3, 7] x.fields.length (fun g out i wr => ∃ (m : Nat) (u : ByteArray), out = .string u ∧ i = .int .i64 (m : Nat) ∧ m + g = x.fields.length ∧ Hid (u.data.toList ++ ((x.fields.drop m).flatMap (fun y => (44 :: byS y.name : List UInt8)) ++ ((x.methods.flatMap (fun y => (44 :: byS y.name : List UInt8)) ++ (x.body.flatMap (fun y => (46 :: byS y.name : List UInt8)) ++ (X.decls.drop (k + 1)).flatMap flatD)))) = flatF X) ∧ Hid (Below w6.heap.size w6 wr))
          case atStart => exact ⟨0, _, rfl, rfl, by omega, HU, HBI⟩
          case round =>
            clear HU HBI
            obtain ⟨m, u, rfl, rfl, hm, HU, hbi⟩ := hrel
            have y1 := (X4.out.below hbi.out).cell
            by_cases hlm : m < x.fields.length
            · obtain ⟨g2, rfl⟩ : ∃ g2, gk = g2 + 1 := ⟨gk - 1, by omega⟩
              have hxm := List.getElem?_eq_getElem hlm
              obtain ⟨b, cs', rfl, _, _, hc, hy⟩ := (HF.out _ hbi.out).at_ m hxm
              obtain ⟨_, _, _, _, _, _, hv, _⟩ := hy
              obtain rfl := aggL hv
              rw [Nat.zero_add] at hc
              have c0 : wr.cell? ⟨b, m * 7, none⟩ = some (.string (x.fields[m]).name) := hc 0 _ rfl
              have hD : u.data.toList ++ ((44 :: byS (x.fields[m]).name) ++ ((x.fields.drop (m + 1)).flatMap (fun y => (44 :: byS y.name : List UInt8)) ++ (x.methods.flatMap (fun y => (44 :: byS y.name : List UInt8)) ++ (x.body.flatMap (fun y => (46 :: byS y.name : List UInt8)) ++ (X.decls.drop (k + 1)).flatMap flatD)))) = flatF X := by
                have h := HU.out
                rw [List.drop_eq_getElem_cons hlm, List.flatMap_cons, List.append_assoc] at h
                exact h
              clear hc hv
              have hS := congrArg List.length hD
              simp only [List.length_append, List.length_cons, byS, Array.length_toList] at hS
              have s1 : u.size + 1 ≤ 9223372036854775807 := by have : u.data.size = u.size := rfl; omega
              have s2 : u.size + 1 + (x.fields[m]).name.size ≤ 9223372036854775807 := by have : u.data.size = u.size := rfl; have : (x.fields[m]).name.data.size = (x.fields[m]).name.size := rfl; omega
              have HD := Lib.hid hD
              have hlm2 : ((m : Nat) : Int) < (x.fields.length : Nat) := by omega
              have hm0 : (0 : Int) ≤ (m : Nat) := by omega
              clear hD hS HU
              generalize x.fields[m] = y at *
              clear hxm
              go_wp2
              go_roundg g2
              case measure => omega
              case rel => exact ⟨m + 1, _, rfl, by go_num, by omega, Lib.hid (by have h := HD.out; rw [← h]; simp [byS, List.append_assoc]), hbi⟩
            · have hlm2 : ¬ ((m : Nat) : Int) < (x.fields.length : Nat) := by omega
              have HV := HU.out
              rw [List.drop_of_length_le (by omega), List.flatMap_nil, List.nil_append] at HV
              have HU := Lib.hid HV
              have HBI := hbi
              clear HV
              go_wp2_with fail
              clear y1 hbi
              go_loopg [3, 8] x.methods.length (fun g out i wr => ∃ (m : Nat) (u : ByteArray), out = .string u ∧ i = .int .i64 (m : Nat) ∧ m + g = x.methods.length ∧ Hid (u.data.toList ++ ((x.methods.drop m).flatMap (fun y => (44 :: byS y.name : List UInt8)) ++ ((x.body.flatMap (fun y => (46 :: byS y.name : List UInt8)) ++ (X.decls.drop (k + 1)).flatMap flatD))) = flatF X) ∧ Hid (Below w6.heap.size w6 wr))
              case atStart => exact ⟨0, _, rfl, rfl, by omega, HU, HBI⟩
              case round =>
                clear HU HBI
                obtain ⟨m, u, rfl, rfl, hm, HU, hbi⟩ := hrel
                have y1 := (X4.out.below hbi.out).cell
                by_cases hlm : m < x.methods.length
                · obtain ⟨g2, rfl⟩ : ∃ g2, gk = g2 + 1 := ⟨gk - 1, by omega⟩
                  have hxm := List.getElem?_eq_getElem hlm
                  obtain ⟨b, cs', rfl, _, _, hc, hy⟩ := (HM.out _ hbi.out).at_ m hxm
                  obtain ⟨_, _, _, _, _, _, _, _, hv, _⟩ := hy
                  obtain rfl := aggL hv
                  rw [Nat.zero_add] at hc
                  have c0 : wr.cell? ⟨b, m * 9, none⟩ = some (.string (x.methods[m]).name) := hc 0 _ rfl
                  have hD : u.data.toList ++ ((44 :: byS (x.methods[m]).name) ++ ((x.methods.drop (m + 1)).flatMap (fun y => (44 :: byS y.name : List UInt8)) ++ (x.body.flatMap (fun y => (46 :: byS y.name : List UInt8)) ++ (X.decls.drop (k + 1)).flatMap flatD))) = flatF X := by
                    have h := HU.out
                    rw [List.drop_eq_getElem_cons hlm, List.flatMap_cons, List.append_assoc] at h
                    exact h
                  clear hc hv
                  have hS := congrArg List.length hD
                  simp only [List.length_append, List.length_cons, byS, Array.length_toList] at hS
                  have s1 : u.size + 1 ≤ 9223372036854775807 := by have : u.data.size = u.size := rfl; omega
                  have s2 : u.size + 1 + (x.methods[m]).name.size ≤ 9223372036854775807 := by have : u.data.size = u.size := rfl; have : (x.methods[m]).name.data.size = (x.methods[m]).name.size := rfl; omega
                  have HD := Lib.hid hD
                  have hlm2 : ((m : Nat) : Int) < (x.methods.length : Nat) := by omega
                  have hm0 : (0 : Int) ≤ (m : Nat) := by omega
                  clear hD hS HU
                  generalize x.methods[m] = y at *
                  clear hxm
                  go_wp2
                  go_roundg g2
                  case measure => omega
                  case rel => exact ⟨m + 1, _, rfl, by go_num, by omega, Lib.hid (by have h := HD.out; rw [← h]; simp [byS, List.append_assoc]), hbi⟩
                · have hlm2 : ¬ ((m : Nat) : Int) < (x.methods.length : Nat) := by omega
                  have HV := HU.out
                  rw [List.drop_of_length_le (by omega), List.flatMap_nil, List.nil_append] at HV
                  have HU := Lib.hid HV
                  have HBI := hbi
                  clear HV
                  go_wp2_with fail
                  clear y1 hbi
                  go_loopg [3, 9] x.body.length (fun g out i wr => ∃ (m : Nat) (u : ByteArray), out = .string u ∧ i = .int .i64 (m : Nat) ∧ m + g = x.body.length ∧ Hid (u.data.toList ++ ((x.body.drop m).flatMap (fun y => (46 :: byS y.name : List UInt8)) ++ ((X.decls.drop (k + 1)).flatMap flatD)) = flatF X) ∧ Hid (Below w6.heap.size w6 wr))
                  case atStart => exact ⟨0, _, rfl, rfl, by omega, HU, HBI⟩
                  case round =>
                    clear HU HBI
                    obtain ⟨m, u, rfl, rfl, hm, HU, hbi⟩ := hrel
                    have y1 := (X4.out.below hbi.out).cell
                    by_cases hlm : m < x.body.length
                    · obtain ⟨g2, rfl⟩ : ∃ g2, gk = g2 + 1 := ⟨gk - 1, by omega⟩
                      have hxm := List.getElem?_eq_getElem hlm
                      have hat := (HS.out _ hbi.out).at_ m hxm
                      rw [Nat.zero_add] at hat
                      unfold IsSPs at hat
                      obtain ⟨⟨b, c0, c1, c2, c3, c4, c5, c6, c7, c8, c9, c10, c11, c12, c13, c14, c15, c16, rfl, _, h0, h1, h2, _, _, _, _, _, _, _, _, _, _, _, _, _, _, hye⟩, _⟩ := hat
                      obtain ⟨e0, e1, e2, e3, e4, e5, e6, e7, e8, e9, e10, o1, n1, o2, n2, he, _⟩ := hye.parts
                      simp only [Value.agg.injEq, Array.mk.injEq, List.cons.injEq, and_true] at he
                      obtain ⟨_, _, rfl, _⟩ := he
                      have c0 : wr.cell? ⟨b, m * 17 + 2, none⟩ = some (.string (x.body[m]).name) := h2
                      have hD : u.data.toList ++ ((46 :: byS (x.body[m]).name) ++ ((x.body.drop (m + 1)).flatMap (fun y => (46 :: byS y.name : List UInt8)) ++ (X.decls.drop (k + 1)).flatMap flatD)) = flatF X := by
                        have h := HU.out
                        rw [List.drop_eq_getElem_cons hlm, List.flatMap_cons, List.append_assoc] at h
                        exact h
                      clear hye h0 h1 h2
                      have hS := congrArg List.length hD
                      simp only [List.length_append, List.length_cons, byS, Array.length_toList] at hS
                      have s1 : u.size + 1 ≤ 9223372036854775807 := by have : u.data.size = u.size := rfl; omega
                      have s2 : u.size + 1 + (x.body[m]).name.size ≤ 9223372036854775807 := by have : u.data.size = u.size := rfl; have : (x.body[m]).name.data.size = (x.body[m]).name.size := rfl; omega
                      have HD := Lib.hid hD
                      have hlm2 : ((m : Nat) : Int) < (x.body.length : Nat) := by omega
                      have hm0 : (0 : Int) ≤ (m : Nat) := by omega
                      clear hD hS HU
                      generalize x.body[m] = y at *
                      clear hxm
                      go_wp2
                      go_roundg g2
                      case measure => omega
                      case rel => exact ⟨m + 1, _, rfl, by go_num, by omega, Lib.hid (by have h := HD.out; rw [← h]; simp [byS, List.append_assoc]), hbi⟩
                    · have hlm2 : ¬ ((m : Nat) : Int) < (x.body.length : Nat) := by omega
                      have HV := HU.out
                      rw [List.drop_of_length_le (by omega), List.flatMap_nil, List.nil_append] at HV
                      have HU := Lib.hid HV
                      have HBI := hbi
                      clear HV
                      have hb9 := Lib.hid (B4.out.trans (hbi.out.mono B4.out.size))
                      go_wp2
                      go_roundg gg
                      case measure => omega
                      case rel => exact ⟨k + 1, u, rfl, by go_num, by omega, HU, hb9⟩
        · have hlt2 : ¬ ((k : Nat) : Int) < (X.decls.length : Nat) := by omega
          have hb := Lib.hid (W3.out.trans (hbr.out.mono W3.out.size))
          have HV := HU.out
          rw [List.drop_of_length_le (by omega), List.flatMap_nil, List.append_nil] at HV
          have HE : Hid (u = ⟨(flatF X).toArray⟩) := by
            show _ = _
            apply ByteArray.ext
            rw [← HV]
          clear HV HU
          obtain rfl := HE.out
          go_wp2
          go_ret
          exact ⟨rfl, hb.out⟩
end Go.Proofs.YtlgaphopjdeklaaGreat
