/-
  What a text's file is made of: how many parts, how long names; what is wrong lies in the text. No condition.
-/
import Derived.Test.YtlgaphopjdeklaaGreatU41
import Derived.Test.YtlgaphopjdeklaaGreatU12
import Derived.Test.YtlgaphopjdeklaaGreatU35
namespace Go.Proofs.YtlgaphopjdeklaaGreat
theorem txt_slim {F fb f : Nat} {s : List UInt8} {X : FX} {j : Int} (h : txt F fb f s = .ok X j) : SlimF 4001 s.length X := by
  unfold txt at h
  split at h
  · rename_i hb
    have hs := fil_slim (L := s.length) (fun i => text5 i) h
    have hl := few5 hb
    have e : ((toks s).map zTok).length ≤ 4001 := by rw [List.length_map]; exact hl
    exact ⟨hs.name, ⟨Nat.le_trans hs.imports.1 e, hs.imports.2⟩, ⟨Nat.le_trans hs.decls.1 e, fun x hx => by
      have hd := hs.decls.2 x hx
      exact ⟨hd.name, hd.recv, ⟨Nat.le_trans hd.fields.1 e, hd.fields.2⟩, ⟨Nat.le_trans hd.methods.1 e, hd.methods.2⟩, ⟨Nat.le_trans hd.body.1 e, hd.body.2⟩⟩⟩⟩
  · cases h
theorem txt_err {F fb f : Nat} {s : List UInt8} {p q : Int} (h : txt F fb f s = .err p q) : q ≠ 0 ∧ 0 ≤ p ∧ p ≤ (s.length : Nat) := by
  unfold txt at h
  split at h
  · obtain ⟨⟨i, rfl⟩, hc⟩ := fil_bad h
    exact ⟨hc, tk_in i⟩
  · rename_i a c hb
    injection h with h1 h2
    subst h1 h2
    obtain ⟨hc, t, ht, rfl, _⟩ := bad_some hb
    have := (toks_ok s t ht).1
    exact ⟨hc, by omega, by omega⟩
end Go.Proofs.YtlgaphopjdeklaaGreat
