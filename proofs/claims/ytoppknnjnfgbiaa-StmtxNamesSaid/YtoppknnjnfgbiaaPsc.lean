/-
  What the parser's methods promise; the walks of 'level' and 'negated', out of what they call. Condition: the parser lies in memory as said.
-/
import Derived.Test.YtoppknnjnfgbiaaPsb
import Derived.Test.YtoppknnjnfgbiaaPsn
import Derived.Deep.LoopGhost
import Derived.RegionDies
namespace Go.Proofs.Ytoppknnjnfgbiaa
open Go.RowKit
open Go.Lib hiding intOf

/-- What a method that reads an expression leaves, begun in w. -/
def Tel (b : Nat) (o : Option Addr) (c m : Nat) (l : List TZ) (d : Nat) (w : World) (r : EO EX) (e : Ending) (w' : World) : Prop :=
  match r with
  | .ok x j => ∃ v, e = .returned v ∧ IsEX w.heap.size w' x v ∧ PS b o c m l j d w' ∧ Kp b w w'
  | .err p q => e = .panicked (thrown p q) ∧ Kp b w w'
  | .out => True

def LevC (b : Nat) (o : Option Addr) (c m : Nat) (l : List TZ) (f : Nat) : Prop :=
  ∀ (k : Nat) (kk : Int) (d : Nat) (i : Int) (w : World), kk = (k : Nat) → 1 ≤ k → k ≤ 5 → d ≤ 30 → PS b o c m l i d w → ex l f k d i ≠ .out →
    Calls Try.prog 64 #[.pointer (some ⟨b, 0, none⟩), .int .i64 kk] w (Tel b o c m l d w (ex l f k d i))
def NegC (b : Nat) (o : Option Addr) (c m : Nat) (l : List TZ) (f : Nat) : Prop :=
  ∀ (d : Nat) (i : Int) (w : World), d ≤ 30 → PS b o c m l i d w → una l f d i ≠ .out →
    Calls Try.prog 65 #[.pointer (some ⟨b, 0, none⟩)] w (Tel b o c m l d w (una l f d i))

section
variable {b c m : Nat} {o : Option Addr} {l : List TZ}

def zeroE : Array Value := #[.int .i64 0, .int .i64 0, .int .i64 0, .string ⟨#[]⟩, .int .i64 0, .int .i64 0, .int .i64 0, .string ⟨#[]⟩, .string ⟨#[]⟩, .slice none 0 0, .slice none 0 0]

set_option maxRecDepth 20000 in
set_option maxHeartbeats 2000000 in
theorem level5_any {f : Nat} (HN : NegC b o c m l f) (d : Nat) (i : Int) (w : World) (hd : d ≤ 30) (S : PS b o c m l i d w) (hr : una l f d i ≠ .out) :
    Calls Try.prog 64 #[.pointer (some ⟨b, 0, none⟩), .int .i64 5] w (Tel b o c m l d w (una l f d i)) := by
  have H := Lib.hid (HN d i _ hd (S.alloc (.cells zeroE 41)) hr)
  have hbl := S.lt
  clear HN S hd
  cases hq : una l f d i with
  | ok x j =>
    rw [hq] at H
    clear hq hr
    go_enter Try.func64, Try.ntmps64
    go_wp2_with fail
    refine H.out.mono ?_
    rintro e w1 ⟨v, rfl, hx, hS, hK⟩
    obtain ⟨n, nm, tk, tp, tg, tn, tz, ta, o', c', rfl, _⟩ := hx.parts
    have HX := Lib.hid hx
    have S1 := Lib.hid hS
    have K1 := Lib.hid (((Kp.refl b w).alloc _).trans hK)
    have hB1 := (Blk.new w 41 zeroE).kp hK (by omega)
    have c1 := hB1.cell
    simp only [zeroE] at c1
    have f1 := hB1.frozen
    clear hx hS hK hB1
    go_wp2
    refine bodyPost_ret (v := .agg #[.int .i64 x.kind, .int .i64 x.pos, .int .i64 x.stop, .string nm, .int .i64 n, .int .i64 tk, .int .i64 tp, .string tg, .string tn, .slice tz ta ta, .slice o' x.args.length c']) (by simp [results, Try.results64, go_sem, c1]) rfl ?_
    refine ⟨_, rfl, ?_, ?_, ?_⟩
    · exact (HX.out.set11 (by simp) _ _ _ _ _ _ _ _ _ _ _).mono (by simp)
    · exact S1.out.set11 hbl _ _ _ _ _ _ _ _ _ _ _
    · exact set11_kp K1.out (.inl (Nat.le_refl _)) _ _ _ _ _ _ _ _ _ _ _
  | err p q =>
    rw [hq] at H
    clear hq hr
    go_enter Try.func64, Try.ntmps64
    go_wp2_with fail
    refine H.out.mono ?_
    rintro e w1 ⟨rfl, hK⟩
    have K1 := Lib.hid (((Kp.refl b w).alloc _).trans hK)
    clear hK
    go_wp2
    exact ⟨rfl, rfl, K1.out⟩
  | out => exact (hr hq).elim

end

end Go.Proofs.Ytoppknnjnfgbiaa
