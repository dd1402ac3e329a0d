/-
  Plain: one declaration more behind a text. No condition.
  Plain: a text with one declaration more is the file with that one behind it, or wrong. No condition.
  Plain: a file has no more parts than there are tokens; how long its names are. No condition.
-/
import Derived.Test.YtlgaphopjdeklaaGreatU12
namespace Go.Proofs.YtlgaphopjdeklaaGreat
/-- The declaration of a struct; of a function. -/
def zS : List UInt8 := [116, 121, 112, 101, 32, 90, 32, 115, 116, 114, 117, 99, 116, 32, 123, 32, 122, 32, 105, 110, 116, 59, 32, 125]
def zF : List UInt8 := [102, 117, 110, 99, 32, 90, 40, 122, 32, 105, 110, 116, 41, 32, 123, 32, 122, 59, 32, 125]
section
variable {M : List TZ} {e : Int} {n : Int} {F fb f k : Nat}
theorem ty_int {i p s : Int} (h : tkAt M i = ⟨5, p, s, ⟨#[105, 110, 116]⟩⟩) : ty M i = .ok (.leaf 1 p ⟨#[]⟩ ⟨#[]⟩) (i + 1) := by
  rw [ty_eq, prs_elm M 30 i (by rw [h]; rfl)]
  unfold elm
  rw [h]
  rfl
theorem na_at {i p s : Int} {t : ByteArray} (h : tkAt M i = ⟨1, p, s, t⟩) : na M i = .ok (t, p) (i + 1) := by
  unfold na
  rw [h]
  rfl
theorem sy_at {i p s : Int} {z : UInt8} (h : tkAt M i = ⟨4, p, s, ⟨#[z]⟩⟩) : sy M z i = .ok () (i + 1) := by
  unfold sy
  have : isS (tkAt M i) z = true := by
    rw [h]; unfold isS
    simp
  rw [if_pos this]
theorem wo_at {i p s : Int} {w : List UInt8} (h : tkAt M i = ⟨5, p, s, ⟨w.toArray⟩⟩) : wo M w i = .ok () (i + 1) := by
  unfold wo
  have : isW (tkAt M i) w = true := by
    rw [h]; unfold isW
    simp
  rw [if_pos this]
theorem dcls_zS (t0 : tkAt M e = ⟨5, n, n + 4, ⟨#[116, 121, 112, 101]⟩⟩) (t1 : tkAt M (e + 1) = ⟨1, n + 5, n + 6, ⟨#[90]⟩⟩) (t2 : tkAt M (e + 2) = ⟨5, n + 7, n + 13, ⟨#[115, 116, 114, 117, 99, 116]⟩⟩) (t3 : tkAt M (e + 3) = ⟨4, n + 14, n + 15, ⟨#[123]⟩⟩) (t4 : tkAt M (e + 4) = ⟨1, n + 16, n + 17, ⟨#[122]⟩⟩)
    (t5 : tkAt M (e + 5) = ⟨5, n + 18, n + 21, ⟨#[105, 110, 116]⟩⟩) (t6 : tkAt M (e + 6) = ⟨4, n + 21, n + 22, ⟨#[59]⟩⟩) (t7 : tkAt M (e + 7) = ⟨4, n + 23, n + 24, ⟨#[125]⟩⟩) (t8 : tkAt M (e + 8) = ⟨0, n + 24, n + 24, ⟨#[]⟩⟩) (hf : 2 ≤ f) (hk : 2 ≤ k) :
    dcls M F fb f k e = .ok [⟨1, n + 5, n + 24, ⟨#[90]⟩, false, noPX, [], [⟨⟨#[122]⟩, n + 16, .leaf 1 (n + 18) ⟨#[]⟩ ⟨#[]⟩⟩], [], false, noTX, []⟩] (e + 9) := by
  obtain ⟨k, rfl⟩ : ∃ q, k = q + 1 + 1 := ⟨k - 2, by omega⟩
  obtain ⟨f, rfl⟩ : ∃ q, f = q + 1 + 1 := ⟨f - 2, by omega⟩
  have hfl : fld M (e + 4) = .ok ⟨⟨#[122]⟩, n + 16, .leaf 1 (n + 18) ⟨#[]⟩ ⟨#[]⟩⟩ (e + 7) := by
    unfold fld prm
    rw [na_at t4, show e + 4 + 1 = e + 5 by omega]
    show thn (thn (ty M (e + 5)) _) _ = _
    rw [ty_int t5, show e + 5 + 1 = e + 6 by omega]
    show thn (sy M 59 (e + 6)) _ = _
    rw [sy_at t6, show e + 6 + 1 = e + 7 by omega]
    rfl
  have hup : upto M (fld M) (f + 1 + 1) (e + 4) = .ok [⟨⟨#[122]⟩, n + 16, .leaf 1 (n + 18) ⟨#[]⟩ ⟨#[]⟩⟩] (e + 8) := by
    rw [upto, if_neg (by rw [t4]; show ¬ isS _ 125 = true; intro h; cases h), hfl]
    show thn (upto M (fld M) (f + 1) (e + 7)) _ = _
    rw [upto, if_pos (by rw [t7]; rfl), show e + 7 + 1 = e + 8 by omega]
    rfl
  have hd : dcl M F fb (f + 1 + 1) e = .ok ⟨1, n + 5, n + 24, ⟨#[90]⟩, false, noPX, [], [⟨⟨#[122]⟩, n + 16, .leaf 1 (n + 18) ⟨#[]⟩ ⟨#[]⟩⟩], [], false, noTX, []⟩ (e + 8) := by
    unfold dcl
    rw [if_pos (by rw [t0]; rfl)]
    unfold dty
    rw [na_at t1, show e + 1 + 1 = e + 2 by omega]
    show (if isW (tkAt M (e + 2)) wInterface = true then _ else _) = _
    rw [if_neg (by rw [t2]; intro h; cases h), wo_at (w := wStruct) t2, show e + 2 + 1 = e + 3 by omega]
    show thn (sy M 123 (e + 3)) _ = _
    rw [sy_at t3, show e + 3 + 1 = e + 4 by omega]
    show thn (upto M (fld M) (f + 1 + 1) (e + 4)) _ = _
    rw [hup]
    show EO.ok _ _ = _
    rw [show e + 8 - 1 = e + 7 by omega, t7]
  rw [dcls, if_neg (by rw [t0]; show ¬ (5 : Int) = 0; decide), hd]
  show thn (dcls M F fb (f + 1 + 1) (k + 1) (e + 8)) _ = _
  rw [dcls, if_pos (by rw [t8]), show e + 8 + 1 = e + 9 by omega]
  rfl
theorem ex_name {i p s p2 s2 : Int} {t : ByteArray} (h : tkAt M i = ⟨1, p, s, t⟩) (h2 : tkAt M (i + 1) = ⟨4, p2, s2, ⟨#[59]⟩⟩) (hF : 8 ≤ F) : ex M F 1 0 i = .ok (.mk 4 p s 0 t noTX []) (i + 1) := by
  obtain ⟨g, rfl⟩ : ∃ g, F = g + 8 := ⟨F - 8, by omega⟩
  have hl : lvlOf (tkAt M (i + 1)) = 0 := by rw [h2]; rfl
  have hb : ∀ (q k a : Nat) (x : EX), k ≠ 0 → binT M (q + 1) k 0 i x (i + 1) = .ok x (i + 1) := fun q k a x hk => by rw [binT, if_neg (by rw [hl]; omega)]
  have hs : ∀ c, c ≠ (59 : UInt8) → isS (tkAt M (i + 1)) c = false := fun c hc => by
    rw [h2]; unfold isS
    simp [Ne.symm hc]
  have hp : prim M (g + 2) 0 i = .ok (.mk 4 p s 0 t noTX []) (i + 1) := by
    rw [prim, if_neg (by rw [h]; show ¬ (1 : Int) = 2; decide), if_neg (by rw [h]; show ¬ (1 : Int) = 3; decide), if_neg (by rw [h]; intro e; cases e), if_neg (by rw [h]; intro e; cases e), if_pos (by rw [h]), h]
  have hq : post M (g + 2) 0 i (.mk 4 p s 0 t noTX []) (i + 1) = .ok (.mk 4 p s 0 t noTX []) (i + 1) := by
    rw [post, if_neg (by rw [hs _ (by decide)]; decide), if_neg (by rw [hs _ (by decide)]; decide), if_neg (by rw [hs _ (by decide)]; decide)]
  have hu : una M (g + 3) 0 i = .ok (.mk 4 p s 0 t noTX []) (i + 1) := by
    rw [una, if_neg (by rw [h]; intro e; cases e), hp]
    exact hq
  have h5 : ex M (g + 4) 5 0 i = .ok (.mk 4 p s 0 t noTX []) (i + 1) := by rw [ex, if_pos rfl, hu]
  have h4 : ex M (g + 5) 4 0 i = .ok (.mk 4 p s 0 t noTX []) (i + 1) := by rw [ex, if_neg (by decide), h5]; exact hb (g + 3) 4 0 _ (by decide)
  have h3 : ex M (g + 6) 3 0 i = .ok (.mk 4 p s 0 t noTX []) (i + 1) := by rw [ex, if_neg (by decide), h4]; exact hb (g + 4) 3 0 _ (by decide)
  have h2 : ex M (g + 7) 2 0 i = .ok (.mk 4 p s 0 t noTX []) (i + 1) := by rw [ex, if_neg (by decide), h3]; exact hb (g + 5) 2 0 _ (by decide)
  rw [ex, if_neg (by decide), h2]; exact hb (g + 6) 1 0 _ (by decide)
theorem dcls_zF (t0 : tkAt M e = ⟨5, n, n + 4, ⟨#[102, 117, 110, 99]⟩⟩) (t1 : tkAt M (e + 1) = ⟨1, n + 5, n + 6, ⟨#[90]⟩⟩) (t2 : tkAt M (e + 2) = ⟨4, n + 6, n + 7, ⟨#[40]⟩⟩) (t3 : tkAt M (e + 3) = ⟨1, n + 7, n + 8, ⟨#[122]⟩⟩) (t4 : tkAt M (e + 4) = ⟨5, n + 9, n + 12, ⟨#[105, 110, 116]⟩⟩)
    (t5 : tkAt M (e + 5) = ⟨4, n + 12, n + 13, ⟨#[41]⟩⟩) (t6 : tkAt M (e + 6) = ⟨4, n + 14, n + 15, ⟨#[123]⟩⟩) (t7 : tkAt M (e + 7) = ⟨1, n + 16, n + 17, ⟨#[122]⟩⟩) (t8 : tkAt M (e + 8) = ⟨4, n + 17, n + 18, ⟨#[59]⟩⟩) (t9 : tkAt M (e + 9) = ⟨4, n + 19, n + 20, ⟨#[125]⟩⟩) (t10 : tkAt M (e + 10) = ⟨0, n + 20, n + 20, ⟨#[]⟩⟩)
    (hF : 8 ≤ F) (hfb : 4 ≤ fb) (hf : 2 ≤ f) (hk : 2 ≤ k) :
    dcls M F fb f k e = .ok [⟨3, n + 5, n + 20, ⟨#[90]⟩, false, noPX, [], [⟨⟨#[122]⟩, n + 7, .leaf 1 (n + 9) ⟨#[]⟩ ⟨#[]⟩⟩], [], false, noTX, [.mk 6 (n + 16) ⟨#[]⟩ false (.mk 4 (n + 16) (n + 17) 0 ⟨#[122]⟩ noTX []) [] []]⟩] (e + 11) := by
  obtain ⟨k, rfl⟩ : ∃ q, k = q + 1 + 1 := ⟨k - 2, by omega⟩
  obtain ⟨f, rfl⟩ : ∃ q, f = q + 1 + 1 := ⟨f - 2, by omega⟩
  obtain ⟨fb, rfl⟩ : ∃ q, fb = q + 1 + 1 + 1 + 1 := ⟨fb - 4, by omega⟩
  have hps : sepn M (prm M) 41 (f + 1 + 1) (e + 3) = .ok [⟨⟨#[122]⟩, n + 7, .leaf 1 (n + 9) ⟨#[]⟩ ⟨#[]⟩⟩] (e + 6) := by
    have hp : prm M (e + 3) = .ok ⟨⟨#[122]⟩, n + 7, .leaf 1 (n + 9) ⟨#[]⟩ ⟨#[]⟩⟩ (e + 5) := by
      unfold prm
      rw [na_at t3, show e + 3 + 1 = e + 4 by omega]
      show thn (ty M (e + 4)) _ = _
      rw [ty_int t4, show e + 4 + 1 = e + 5 by omega]
      rfl
    unfold sepn
    rw [if_neg (by rw [t3]; intro h; cases h), seps, hp]
    show (if isS (tkAt M (e + 5)) 44 = true then _ else _) = _
    rw [if_neg (by rw [t5]; intro h; cases h), sy_at t5, show e + 5 + 1 = e + 6 by omega]
    rfl
  have hst : stm M F (fb + 1 + 1) 0 (e + 7) = .ok (.mk 6 (n + 16) ⟨#[]⟩ false (.mk 4 (n + 16) (n + 17) 0 ⟨#[122]⟩ noTX []) [] []) (e + 9) := by
    have hw : ∀ w, isW (tkAt M (e + 7)) w = false := fun w => by rw [t7]; rfl
    have hset : isSet M (e + 7) = false := by
      unfold isSet
      rw [show e + 7 + 1 = e + 8 by omega, t8]
      rw [t7]; rfl
    rw [stm, if_neg (by rw [hw]; decide), if_neg (by rw [hw]; decide), if_neg (by rw [hw]; decide), if_neg (by rw [hw]; decide), if_neg (by rw [hset]; decide)]
    unfold exThen
    rw [ex_name t7 (by rw [show e + 7 + 1 = e + 8 by omega]; exact t8) hF, show e + 7 + 1 = e + 8 by omega]
    show (if isS (tkAt M (e + 8)) 59 = true then _ else _) = _
    rw [if_pos (by rw [t8]; rfl), t7, show e + 8 + 1 = e + 9 by omega]
  have hbl : blk M F (fb + 1 + 1 + 1 + 1) 0 (e + 6) = .ok [.mk 6 (n + 16) ⟨#[]⟩ false (.mk 4 (n + 16) (n + 17) 0 ⟨#[122]⟩ noTX []) [] []] (e + 10) := by
    rw [blk, if_pos (by rw [t6]; rfl), if_neg (by decide), show e + 6 + 1 = e + 7 by omega, rows, if_neg (by rw [t7]; intro h; cases h), hst]
    show (match rows M F (fb + 1 + 1) 0 (e + 9) with | .ok r q => EO.ok (_ :: r) q | .err p c => .err p c | .out => .out) = _
    rw [rows, if_pos (by rw [t9]; rfl), show e + 9 + 1 = e + 10 by omega]
  have hd : dcl M F (fb + 1 + 1 + 1 + 1) (f + 1 + 1) e = .ok ⟨3, n + 5, n + 20, ⟨#[90]⟩, false, noPX, [], [⟨⟨#[122]⟩, n + 7, .leaf 1 (n + 9) ⟨#[]⟩ ⟨#[]⟩⟩], [], false, noTX, [.mk 6 (n + 16) ⟨#[]⟩ false (.mk 4 (n + 16) (n + 17) 0 ⟨#[122]⟩ noTX []) [] []]⟩ (e + 10) := by
    unfold dcl
    rw [if_neg (by rw [t0]; intro h; cases h), wo_at (w := wFunc) t0]
    show dfn M F (fb + 1 + 1 + 1 + 1) (f + 1 + 1) (e + 1) = _
    unfold dfn
    have h1 : rcv M (e + 1) = .ok (false, noPX) (e + 1) := by unfold rcv; rw [if_neg (by rw [t1]; intro h; cases h)]
    rw [h1]
    show thn (na M (e + 1)) _ = _
    rw [na_at t1, show e + 1 + 1 = e + 2 by omega]
    show thn (bnds M (f + 1 + 1) (e + 2)) _ = _
    have h2 : bnds M (f + 1 + 1) (e + 2) = .ok [] (e + 2) := by unfold bnds; rw [if_neg (by rw [t2]; intro h; cases h)]
    rw [h2]
    show thn (sy M 40 (e + 2)) _ = _
    rw [sy_at t2, show e + 2 + 1 = e + 3 by omega]
    show thn (sepn M (prm M) 41 (f + 1 + 1) (e + 3)) _ = _
    rw [hps]
    show thn (res M (e + 6)) _ = _
    have h3 : res M (e + 6) = .ok (false, noTX) (e + 6) := by unfold res; rw [if_pos (by rw [t6]; rfl)]
    rw [h3]
    show thn (blk M F (fb + 1 + 1 + 1 + 1) 0 (e + 6)) _ = _
    rw [hbl]
    show EO.ok _ _ = _
    rw [show e + 10 - 1 = e + 9 by omega, t9]
  rw [dcls, if_neg (by rw [t0]; show ¬ (5 : Int) = 0; decide), hd]
  show thn (dcls M F (fb + 1 + 1 + 1 + 1) (f + 1 + 1) (k + 1) (e + 10)) _ = _
  rw [dcls, if_pos (by rw [t10]), show e + 10 + 1 = e + 11 by omega]
  rfl
end
end Go.Proofs.YtlgaphopjdeklaaGreat
namespace Go.Proofs.YtlgaphopjdeklaaGreat
theorem toks_zS : toks zS = [⟨5, 0, 4, [116, 121, 112, 101]⟩, ⟨1, 5, 6, [90]⟩, ⟨5, 7, 13, [115, 116, 114, 117, 99, 116]⟩, ⟨4, 14, 15, [123]⟩, ⟨1, 16, 17, [122]⟩, ⟨5, 18, 21, [105, 110, 116]⟩, ⟨4, 21, 22, [59]⟩, ⟨4, 23, 24, [125]⟩, ⟨0, 24, 24, []⟩] := by kernel_rfl
theorem toks_zF : toks zF = [⟨5, 0, 4, [102, 117, 110, 99]⟩, ⟨1, 5, 6, [90]⟩, ⟨4, 6, 7, [40]⟩, ⟨1, 7, 8, [122]⟩, ⟨5, 9, 12, [105, 110, 116]⟩, ⟨4, 12, 13, [41]⟩, ⟨4, 14, 15, [123]⟩, ⟨1, 16, 17, [122]⟩, ⟨4, 17, 18, [59]⟩, ⟨4, 19, 20, [125]⟩, ⟨0, 20, 20, []⟩] := by kernel_rfl
section
variable {s z : List UInt8}
theorem tk_more_in (h : bad (toks s) 0 = none) {j : Int} (h0 : 0 ≤ j) (hj : j < ((pcsAt 0 s).length : Nat)) : tkAt ((toks (s ++ 10 :: z)).map zTok) j = tkAt ((toks s).map zTok) j := by
  obtain ⟨n, rfl⟩ : ∃ n : Nat, j = n := ⟨j.toNat, by omega⟩
  have hn : n < (pcsAt 0 s).length := by omega
  rw [tk_map (ts := toks s) (t := (pcsAt 0 s)[n]) (by unfold toks; rw [List.getElem?_append_left hn]; exact List.getElem?_eq_getElem hn)]
  exact tk_map (by rw [toks_app s z h, List.getElem?_append_left hn]; exact List.getElem?_eq_getElem hn)
theorem tk_more_out (h : bad (toks s) 0 = none) {k : Nat} {t : Tok} (ht : (toks z)[k]? = some t) : tkAt ((toks (s ++ 10 :: z)).map zTok) (((pcsAt 0 s).length : Nat) + (k : Nat)) = zTok (sh (s.length + 1) t) := by
  have := tk_map (ts := toks (s ++ 10 :: z)) (j := (pcsAt 0 s).length + k) (t := sh (s.length + 1) t) (by
    rw [toks_app s z h, List.getElem?_append_right (by omega), show (pcsAt 0 s).length + k - (pcsAt 0 s).length = k by omega, List.getElem?_map, ht]; rfl)
  rw [← this]
  congr 1
theorem tk_last : tkAt ((toks s).map zTok) ((pcsAt 0 s).length : Nat) = zTok (endTok s) :=
  tk_map (by unfold toks; rw [List.getElem?_append_right (Nat.le_refl _), Nat.sub_self]; rfl)
theorem more_alk (h : bad (toks s) 0 = none) (hz : ∃ t, (toks z)[0]? = some t ∧ t.kind = 5 ∧ (t.text = wType ∨ t.text = wFunc)) : Alk id ((toks s).map zTok) ((toks (s ++ 10 :: z)).map zTok) ((pcsAt 0 s).length : Nat) := by
  have both : ∀ j : Int, j < ((pcsAt 0 s).length : Nat) → (tkAt ((toks (s ++ 10 :: z)).map zTok) j).kind = (tkAt ((toks s).map zTok) j).kind ∧ (tkAt ((toks (s ++ 10 :: z)).map zTok) j).text = (tkAt ((toks s).map zTok) j).text := by
    intro j hj
    by_cases h0 : 0 ≤ j
    · rw [tk_more_in h h0 hj]; exact ⟨rfl, rfl⟩
    · rw [tkAt_out (.inl (by omega)), tkAt_out (.inl (by omega))]; exact ⟨rfl, rfl⟩
  refine ⟨fun j hj => (both j hj).1, fun j hj => (both j hj).2, fun j h0 hj => by rw [tk_more_in h h0 hj], fun j h0 hj => by rw [tk_more_in h h0 hj], .inl ?_, .inr ?_⟩
  · rw [tk_last]; rfl
  · obtain ⟨t, ht, hk, hw⟩ := hz
    have e := tk_more_out h ht
    rw [show (((pcsAt 0 s).length : Nat) : Int) + ((0 : Nat) : Int) = ((pcsAt 0 s).length : Nat) by omega] at e
    rw [e]
    exact ⟨hk, hw⟩
theorem DsAt.len {l : List TZ} : ∀ {xs : List DX} {i : Int}, 0 ≤ i → DsAt l i xs → xs.length ≤ l.length
  | [], _, _, _ => Nat.zero_le _
  | x :: r, i, h0, ⟨j, hd, hr⟩ => by
    have key : ∀ {xs : List DX} {i : Int}, 0 ≤ i → DsAt l i xs → (xs.length : Int) + i ≤ l.length ∨ xs = [] := by
      intro xs
      induction xs with
      | nil => intro i _ _; exact .inr rfl
      | cons y ys ih =>
        intro i h0 h
        obtain ⟨j, hd, hr⟩ := h
        have h1 := hd.far; have h2 := hd.near
        rcases ih (by omega) hr with h3 | h3
        · left; rw [List.length_cons]; omega
        · left; rw [h3, List.length_cons, List.length_nil]; omega
    rcases key (xs := x :: r) h0 ⟨j, hd, hr⟩ with h | h
    · omega
    · cases h
/-- The steps of more. -/
theorem more_ok {F fb f : Nat} (h : bad (toks s) 0 = none) (hz : z = zS ∨ z = zF) (hF : 8 ≤ F) (hfb : 4 ≤ fb) (hf : (toks s).length + 2 ≤ f) {X : FX} {q : Int} (hx : fil ((toks s).map zTok) F fb f = .ok X q) :
    ∃ Z r, fil ((toks (s ++ 10 :: z)).map zTok) F fb f = .ok ⟨X.name, X.pos, X.imports, X.decls ++ [Z]⟩ r ∧ Z.name = ⟨#[90]⟩ ∧ Z.fields.length = 1 ∧ Z.stop = ((s.length + 1 + z.length : Nat) : Int) := by
  have G := toks_good s
  have hk : ∀ j : Int, 0 ≤ j → j < ((pcsAt 0 s).length : Nat) → (tkAt ((toks s).map zTok) j).kind ≠ 0 := fun j h0 hj => by
    obtain ⟨n, rfl⟩ : ∃ n : Nat, j = n := ⟨j.toNat, by omega⟩
    exact G.kind n (by omega)
  have hlen : X.decls.length + 2 ≤ f := by
    obtain ⟨_, i, hi, hd⟩ := fil_at hx
    have := DsAt.len (by have := hi.le; omega) hd
    rw [List.length_map] at this
    omega
  have hl0 : (tkAt ((toks s).map zTok) ((pcsAt 0 s).length : Nat)).kind = 0 := by rw [tk_last]; rfl
  rcases hz with rfl | rfl
  · have A := more_alk (z := zS) h ⟨_, by rw [toks_zS]; rfl, rfl, .inl rfl⟩
    have T := fun k t ht => tk_more_out (z := zS) h (k := k) (t := t) (by rw [toks_zS]; exact ht)
    have hd : ∀ k, 2 ≤ k → dcls ((toks (s ++ 10 :: zS)).map zTok) F fb f k ((pcsAt 0 s).length : Nat) = .ok [_] _ := fun k hk => dcls_zS (n := ((s.length + 1 : Nat) : Int))
      (by have := T 0 _ rfl; rw [show (((pcsAt 0 s).length : Nat) : Int) + ((0 : Nat) : Int) = ((pcsAt 0 s).length : Nat) by omega] at this; rw [this]; unfold zTok sh; simp only [TZ.mk.injEq, true_and, and_true]; constructor <;> omega)
      ((T 1 _ rfl).trans (by unfold zTok sh; simp only [TZ.mk.injEq, true_and, and_true]; constructor <;> omega)) ((T 2 _ rfl).trans (by unfold zTok sh; simp only [TZ.mk.injEq, true_and, and_true]; constructor <;> omega)) ((T 3 _ rfl).trans (by unfold zTok sh; simp only [TZ.mk.injEq, true_and, and_true]; constructor <;> omega))
      ((T 4 _ rfl).trans (by unfold zTok sh; simp only [TZ.mk.injEq, true_and, and_true]; constructor <;> omega)) ((T 5 _ rfl).trans (by unfold zTok sh; simp only [TZ.mk.injEq, true_and, and_true]; constructor <;> omega)) ((T 6 _ rfl).trans (by unfold zTok sh; simp only [TZ.mk.injEq, true_and, and_true]; constructor <;> omega))
      ((T 7 _ rfl).trans (by unfold zTok sh; simp only [TZ.mk.injEq, true_and, and_true]; constructor <;> omega)) ((T 8 _ rfl).trans (by unfold zTok sh; simp only [TZ.mk.injEq, true_and, and_true]; constructor <;> omega)) (by omega) hk
    exact ⟨_, _, fil_more A (by omega) hl0 hk hd hx hlen, rfl, rfl, by show ((s.length + 1 : Nat) : Int) + 24 = _; rw [show zS.length = 24 from rfl]; omega⟩
  · have A := more_alk (z := zF) h ⟨_, by rw [toks_zF]; rfl, rfl, .inr rfl⟩
    have T := fun k t ht => tk_more_out (z := zF) h (k := k) (t := t) (by rw [toks_zF]; exact ht)
    have hd : ∀ k, 2 ≤ k → dcls ((toks (s ++ 10 :: zF)).map zTok) F fb f k ((pcsAt 0 s).length : Nat) = .ok [_] _ := fun k hk => dcls_zF (n := ((s.length + 1 : Nat) : Int))
      (by have := T 0 _ rfl; rw [show (((pcsAt 0 s).length : Nat) : Int) + ((0 : Nat) : Int) = ((pcsAt 0 s).length : Nat) by omega] at this; rw [this]; unfold zTok sh; simp only [TZ.mk.injEq, true_and, and_true]; constructor <;> omega)
      ((T 1 _ rfl).trans (by unfold zTok sh; simp only [TZ.mk.injEq, true_and, and_true]; constructor <;> omega)) ((T 2 _ rfl).trans (by unfold zTok sh; simp only [TZ.mk.injEq, true_and, and_true]; constructor <;> omega)) ((T 3 _ rfl).trans (by unfold zTok sh; simp only [TZ.mk.injEq, true_and, and_true]; constructor <;> omega))
      ((T 4 _ rfl).trans (by unfold zTok sh; simp only [TZ.mk.injEq, true_and, and_true]; constructor <;> omega)) ((T 5 _ rfl).trans (by unfold zTok sh; simp only [TZ.mk.injEq, true_and, and_true]; constructor <;> omega)) ((T 6 _ rfl).trans (by unfold zTok sh; simp only [TZ.mk.injEq, true_and, and_true]; constructor <;> omega))
      ((T 7 _ rfl).trans (by unfold zTok sh; simp only [TZ.mk.injEq, true_and, and_true]; constructor <;> omega)) ((T 8 _ rfl).trans (by unfold zTok sh; simp only [TZ.mk.injEq, true_and, and_true]; constructor <;> omega)) ((T 9 _ rfl).trans (by unfold zTok sh; simp only [TZ.mk.injEq, true_and, and_true]; constructor <;> omega)) ((T 10 _ rfl).trans (by unfold zTok sh; simp only [TZ.mk.injEq, true_and, and_true]; constructor <;> omega)) hF hfb (by omega) hk
    exact ⟨_, _, fil_more A (by omega) hl0 hk hd hx hlen, rfl, rfl, by show ((s.length + 1 : Nat) : Int) + 20 = _; rw [show zF.length = 20 from rfl]; omega⟩
theorem more_wrong {F fb f : Nat} (h : bad (toks s) 0 = none) (hz : z = zS ∨ z = zF) {p c : Int} (hx : fil ((toks s).map zTok) F fb f = .err p c) : ∃ p', fil ((toks (s ++ 10 :: z)).map zTok) F fb f = .err p' c := by
  have G := toks_good s
  have hk : ∀ j : Int, 0 ≤ j → j < ((pcsAt 0 s).length : Nat) → (tkAt ((toks s).map zTok) j).kind ≠ 0 := fun j h0 hj => by
    obtain ⟨n, rfl⟩ : ∃ n : Nat, j = n := ⟨j.toNat, by omega⟩
    exact G.kind n (by omega)
  have A : Alk id ((toks s).map zTok) ((toks (s ++ 10 :: z)).map zTok) ((pcsAt 0 s).length : Nat) := by
    rcases hz with rfl | rfl
    · exact more_alk h ⟨_, by rw [toks_zS]; rfl, rfl, .inl rfl⟩
    · exact more_alk h ⟨_, by rw [toks_zF]; rfl, rfl, .inr rfl⟩
  exact fil_wrong A (by omega) (by rw [tk_last]; rfl) hk hx
/-- .. of tokens that are right. -/
theorem more_good (h : bad (toks s) 0 = none) (hz : z = zS ∨ z = zF) (hs : s.length ≤ 3000) : bad (toks (s ++ 10 :: z)) 0 = none := by
  have hb : bad (toks z) 0 = none := by rcases hz with rfl | rfl <;> kernel_rfl
  have hm : z.length ≤ 24 := by rcases hz with rfl | rfl <;> decide
  have h1 := pcs_len s.length 0 s
  have h2 := pcs_len z.length 0 z
  rw [toks_app s z h]
  rw [bad_toks] at h hb
  rw [bad_append _ _ _ h, bad_shift, bad_toks, Nat.zero_add]
  rw [bad_move (pcsAt 0 z) (pcsAt 0 s).length 0 (by unfold pcsAt at *; omega) (by unfold pcsAt at *; omega), hb]
  rfl
theorem more_bad (h : bad (toks s) 0 ≠ none) : bad (toks (s ++ 10 :: z)) 0 ≠ none := fun e => h (cut_toks e)
end
end Go.Proofs.YtlgaphopjdeklaaGreat
namespace Go.Proofs.YtlgaphopjdeklaaGreat
section
variable {l : List TZ} {L : Nat}
theorem IsAt.few : ∀ {xs : List (ByteArray × Int)} {i j : Int}, IsAt l i xs j → xs = [] ∨ (xs.length : Int) + i ≤ (l.length : Nat)
  | [], _, _, _ => .inl rfl
  | n :: r, i, j, h => by
    obtain ⟨h1, h2, h3, h4, h5⟩ := h
    right
    rcases IsAt.few h5 with h | h
    · rw [h, List.length_singleton]; omega
    · rw [List.length_cons]; omega
theorem fil_slim (hL : ∀ i, (tkAt l i).text.size ≤ L) {F fb f : Nat} {X : FX} {q : Int} (h : fil l F fb f = .ok X q) : SlimF l.length L X := by
  obtain ⟨hn, i, hi, hd⟩ := fil_at h
  have hi0 := hi.le
  refine ⟨by rw [hn.2.2.1]; exact hL _, ⟨?_, (imps_slim hL hi).2⟩, ⟨DsAt.len (by omega) hd, ?_⟩⟩
  · rcases hi.few with h | h
    · rw [h]; exact Nat.zero_le _
    · omega
  · unfold fil at h
    obtain ⟨_, a, _, h⟩ := thn_ok h
    obtain ⟨n, b, _, h⟩ := thn_ok h
    obtain ⟨_, c, _, h⟩ := thn_ok h
    obtain ⟨is, d, _, h⟩ := thn_ok h
    obtain ⟨ds, e, h5, h⟩ := thn_ok h
    injection h with hx hj
    subst hx
    exact dcls_slim hL h5
end
end Go.Proofs.YtlgaphopjdeklaaGreat
