/-
  The chapter on sets, plainly: what a type is declared to be, its fields and methods; alike, meets, fits; what follows. No condition.
-/
import Derived.Test.YtmnhilgifjaocaaTya
namespace Go.Proofs.Ytmnhilgifjaocaa

def GY.pkg : GY → ByteArray | .mk _ p _ _ _ => p
def GY.name : GY → ByteArray | .mk _ _ m _ _ => m
def GY.n : GY → Int | .mk _ _ _ n _ => n
structure MD where
  name : ByteArray
  params : List GY
  result : GY
structure TD where
  name : ByteArray
  strct : Bool
  fields : List (ByteArray × GY)
  meths : List MD
structure IF where
  pkg : ByteArray
  types : List TD
structure SCP where
  W : List IF
  bounds : List GY
abbrev noB : ByteArray := ⟨#[]⟩
def zeroD : TD := ⟨noB, false, [], []⟩
def zeroY : GY := .mk 0 noB noB 0 []

def declI (p : IF) (m : ByteArray) : Option TD := p.types.find? fun d => decide (d.name = m)
def findS (W : List IF) (t : GY) : Option TD := if t.kind = 4 then (W.find? fun p => decide (p.pkg = t.pkg)).bind fun p => declI p t.name else none
def ifaceS (W : List IF) (t : GY) : Bool := match findS W t with | some d => !d.strct | none => false
def methD (W : List IF) (t : GY) : List MD := ((findS W t).getD zeroD).meths
def methS (s : SCP) (t : GY) : List MD :=
  if t.kind = 6 then
    if t.n < 0 ∨ (s.bounds.length : Int) ≤ t.n then [] else
      if ifaceS s.W (s.bounds.getD t.n.toNat zeroY) then methD s.W (s.bounds.getD t.n.toNat zeroY) else []
  else methD s.W t
def fieldS (W : List IF) (t : GY) (m : ByteArray) : Option GY := match findS W t with | some d => if d.strct then (d.fields.find? fun f => decide (f.1 = m)).map (·.2) else none | none => none
mutual
def alikeY : GY → GY → Bool
  | .mk k p m n l, .mk k' p' m' n' l' => if k = 0 ∨ k' = 0 then true else if k = 5 ∧ k' = 5 then alikeYs l l' else sameY (.mk k p m n l) (.mk k' p' m' n' l')
def alikeYs : List GY → List GY → Bool
  | [], [] => true
  | a :: r, b :: q => alikeY a b && alikeYs r q
  | _, _ => false
end
def hasM (l : List MD) (m : ByteArray) : Option MD := l.find? fun o => decide (o.name = m)
def okM (l : List MD) (m : MD) : Bool := match hasM l m.name with | some o => alikeYs o.params m.params && alikeY o.result m.result | none => false
def meetsS (s : SCP) (t i : GY) : Bool := ifaceS s.W i && (methS s i).all (okM (methS s t))
def assignS (s : SCP) (f t : GY) : Bool := !decide (f.kind = 7) && !decide (t.kind = 7) && (alikeY f t || meetsS s f t)

/-! ### what follows -/
theorem alikes_len : ∀ {l q : List GY}, alikeYs l q = true → l.length = q.length
  | [], [], _ => rfl
  | a :: r, b :: q, h => by
    rw [alikeYs, Bool.and_eq_true] at h
    rw [List.length_cons, List.length_cons, alikes_len h.2]
  | [], _ :: _, h => by simp [alikeYs] at h
  | _ :: _, [], h => by simp [alikeYs] at h
theorem alikes_ne {l q : List GY} (h : l.length ≠ q.length) : alikeYs l q = false := by
  cases e : alikeYs l q with
  | false => rfl
  | true => exact (h (alikes_len e)).elim
mutual
theorem alike_symm : ∀ a b : GY, alikeY a b = alikeY b a
  | .mk k p m n l, .mk k' p' m' n' l' => by
    have h1 := alikes_symm l l'
    have h2 := same_symm (.mk k p m n l) (.mk k' p' m' n' l')
    rw [alikeY, alikeY, h1, h2]
    by_cases h : k = 0 ∨ k' = 0
    · rw [if_pos h, if_pos h.symm]
    · have h' : ¬ (k' = 0 ∨ k = 0) := fun e => h e.symm
      rw [if_neg h, if_neg h']
      by_cases h3 : k = 5 ∧ k' = 5
      · rw [if_pos h3, if_pos h3.symm]
      · have h4 : ¬ (k' = 5 ∧ k = 5) := fun e => h3 e.symm
        rw [if_neg h3, if_neg h4]
theorem alikes_symm : ∀ l q : List GY, alikeYs l q = alikeYs q l
  | [], [] => rfl
  | [], _ :: _ => by rw [alikeYs, alikeYs] <;> simp
  | _ :: _, [] => by rw [alikeYs, alikeYs] <;> simp
  | a :: r, b :: q => by rw [alikeYs, alikeYs, alike_symm a b, alikes_symm r q]
end
mutual
theorem alike_same : ∀ a b : GY, sameY a b = true → alikeY a b = true
  | .mk k p m n l, .mk k' p' m' n' l', h => by
    have h1 := h
    rw [same_iff] at h1
    obtain ⟨rfl, _, _, h2⟩ := h1
    rw [alikeY]
    split
    · rfl
    · split
      · rename_i h3
        exact alikes_same l l' (h2 (.inl h3.1))
      · exact h
theorem alikes_same : ∀ l q : List GY, sameYs l q = true → alikeYs l q = true
  | [], [], _ => by rw [alikeYs]
  | a :: r, b :: q, h => by
    rw [sameYs, Bool.and_eq_true] at h
    rw [alikeYs, alike_same a b h.1, alikes_same r q h.2]; rfl
  | [], _ :: _, h => by simp [sameYs] at h
  | _ :: _, [], h => by simp [sameYs] at h
end
theorem alike_refl (a : GY) : alikeY a a = true := alike_same a a (same_refl a)
theorem alikes_refl (l : List GY) : alikeYs l l = true := alikes_same l l (sames_refl l)

/-! A part that could not be made out. -/
mutual
def badY : GY → Bool
  | .mk k _ _ _ l => decide (k = 0) || badYs l
def badYs : List GY → Bool
  | [] => false
  | y :: r => badY y || badYs r
end
def badM (m : MD) : Bool := badY m.result || badYs m.params
mutual
theorem alike_good : ∀ a b : GY, badY a = false → badY b = false → alikeY a b = true → sameY a b = true
  | .mk k p m n l, .mk k' p' m' n' l', ha, hb, h => by
    rw [badY, Bool.or_eq_false_iff, decide_eq_false_iff_not] at ha hb
    rw [alikeY, if_neg (by rintro (e | e) <;> simp_all)] at h
    split at h
    · rename_i h3
      obtain ⟨rfl, rfl⟩ := h3
      have := alikes_good l l' ha.2 hb.2 h
      rw [same_iff]
      exact ⟨rfl, by rintro (e | e) <;> simp [knownK] at e, by rintro (e | e) <;> simp [knownK] at e, fun _ => this⟩
    · exact h
theorem alikes_good : ∀ l q : List GY, badYs l = false → badYs q = false → alikeYs l q = true → sameYs l q = true
  | [], [], _, _, _ => by rw [sameYs]
  | a :: r, b :: q, ha, hb, h => by
    rw [alikeYs, Bool.and_eq_true] at h
    rw [badYs, Bool.or_eq_false_iff] at ha hb
    rw [sameYs, alike_good a b ha.1 hb.1 h.1, alikes_good r q ha.2 hb.2 h.2]; rfl
  | [], _ :: _, _, _, h => by simp [alikeYs] at h
  | _ :: _, [], _, _, h => by simp [alikeYs] at h
end
theorem hasM_some {l : List MD} {m : ByteArray} {o : MD} (h : hasM l m = some o) : o ∈ l ∧ o.name = m := by
  unfold hasM at h
  exact ⟨List.mem_of_find?_eq_some h, of_decide_eq_true (p := o.name = m) (List.find?_some (p := fun o : MD => decide (o.name = m)) h)⟩
theorem meets_trans {s : SCP} {t i j : GY} (hb : ∀ x ∈ [t, i, j], ∀ m ∈ methS s x, badM m = false) (h1 : meetsS s t i = true) (h2 : meetsS s i j = true) : meetsS s t j = true := by
  unfold meetsS at *
  rw [Bool.and_eq_true, List.all_eq_true] at *
  refine ⟨h2.1, fun m hm => ?_⟩
  have h3 := h2.2 m hm
  unfold okM at h3
  cases e : hasM (methS s i) m.name with
  | none => rw [e] at h3; cases h3
  | some o =>
    rw [e] at h3
    obtain ⟨ho, hn⟩ := hasM_some e
    have h4 := h1.2 o ho
    unfold okM at h4
    rw [hn] at h4
    cases e2 : hasM (methS s t) m.name with
    | none => rw [e2] at h4; cases h4
    | some q =>
      rw [e2] at h4
      obtain ⟨hq, _⟩ := hasM_some e2
      have b1 := hb t (by simp) q hq
      have b2 := hb i (by simp) o ho
      have b3 := hb j (by simp) m hm
      unfold badM at b1 b2 b3
      simp only [Bool.or_eq_false_iff] at b1 b2 b3
      simp only [Bool.and_eq_true] at h3 h4
      unfold okM
      rw [e2]
      simp only [Bool.and_eq_true]
      exact ⟨alikes_same _ _ (sames_trans _ _ _ (alikes_good _ _ b1.2 b2.2 h4.1) (alikes_good _ _ b2.2 b3.2 h3.1)), alike_same _ _ (same_trans _ _ _ (alike_good _ _ b1.1 b2.1 h4.2) (alike_good _ _ b2.1 b3.1 h3.2))⟩
theorem meets_none {s : SCP} {t i : GY} (hi : ifaceS s.W i = true) (h : methS s i = []) : meetsS s t i = true := by
  unfold meetsS; rw [hi, h]; rfl
theorem meets_no {s : SCP} {t i : GY} (hi : ifaceS s.W i = false) : meetsS s t i = false := by
  unfold meetsS; rw [hi]; rfl
theorem hasM_self : ∀ {l : List MD} {m : MD}, (l.map (·.name)).Nodup → m ∈ l → hasM l m.name = some m
  | [], _, _, h => by cases h
  | x :: r, m, hn, h => by
    rw [List.map_cons, List.nodup_cons] at hn
    unfold hasM
    rw [List.find?_cons]
    rcases List.mem_cons.1 h with rfl | h
    · simp
    · have : ¬ x.name = m.name := fun e => hn.1 (e ▸ List.mem_map_of_mem h)
      rw [decide_eq_false this]
      exact hasM_self hn.2 h
theorem meets_self {s : SCP} {i : GY} (hi : ifaceS s.W i = true) (h : ((methS s i).map (·.name)).Nodup) : meetsS s i i = true := by
  unfold meetsS
  rw [hi, Bool.true_and, List.all_eq_true]
  intro m hm
  unfold okM
  rw [hasM_self h hm]
  simp only [alikes_refl, alike_refl, Bool.and_self]
/-! More behind. -/
theorem find_more {W more : List IF} {t : GY} {d : TD} (h : findS W t = some d) : findS (W ++ more) t = some d := by
  unfold findS at h ⊢
  split at h
  · rename_i hk
    rw [if_pos hk]
    obtain ⟨p, h1, h2⟩ := Option.bind_eq_some_iff.1 h
    rw [List.find?_append, h1, Option.some_or, Option.bind_some]
    exact h2
  · cases h
theorem find_kind {W : List IF} {t : GY} {d : TD} (h : findS W t = some d) : t.kind = 4 := by
  unfold findS at h
  split at h
  · assumption
  · cases h
theorem meth_found {s : SCP} {t : GY} {d : TD} (h : findS s.W t = some d) : methS s t = d.meths := by
  unfold methS methD
  rw [if_neg (by rw [find_kind h]; decide), h, Option.getD_some]
theorem assign_more {s : SCP} {more : List IF} {a b : GY} {d e : TD} (ha : findS s.W a = some d) (hb : findS s.W b = some e) : assignS ⟨s.W ++ more, s.bounds⟩ a b = assignS s a b := by
  have ha' := find_more (more := more) ha
  have hb' := find_more (more := more) hb
  unfold assignS meetsS
  rw [meth_found (s := s) ha, meth_found (s := s) hb, meth_found (s := ⟨s.W ++ more, s.bounds⟩) ha', meth_found (s := ⟨s.W ++ more, s.bounds⟩) hb']
  unfold ifaceS
  rw [hb, hb']
end Go.Proofs.Ytmnhilgifjaocaa
