/- Joined: PlainTree2. -/
import Derived.Test.YtfaljekgpnbmiaaGreatH27
/-
  The program's reading of an expression against the pile of what is wanted.
-/
namespace Go.Proofs.YtfaljekgpnbmiaaGreat.Pl
set_option linter.unusedVariables false
set_option linter.unusedSimpArgs false

structure EnvR (tl : List (List UInt8)) (names : List DeclM) (r : RdM) : Prop where
  toks : r.toks = tl
  rel : RelL names r.ents
  ne : NE r.ents
  nm : ∀ e ∈ r.ents, rName e.1 = true
  num : ∀ e ∈ r.ents, (number e.1).2 = false
  pos : r.pos ≤ tl.length
theorem EnvR.at' {toks : List (List UInt8)} {names : List DeclM} {r : RdM} (h : EnvR toks names r) (N : List NodeM) (q : Nat) (hq : q ≤ toks.length) : EnvR toks names ⟨r.ins, N, r.outs, toks, q, r.ents⟩ := ⟨rfl, h.rel, h.ne, h.nm, h.num, hq⟩
theorem EnvR.skip {toks : List (List UInt8)} {names : List DeclM} {r : RdM} (h : EnvR toks names r) (hp : atR toks r.pos ≠ []) : r.skip = ⟨r.ins, r.nodes, r.outs, toks, r.pos + 1, r.ents⟩ ∧ r.pos + 1 ≤ toks.length ∧ r.pos < 600 := by
  have := skip_pos (r := r) (by rw [peek_atR, h.toks]; exact hp)
  rw [h.toks] at this
  have := atR_lt hp
  exact ⟨by assumption, by omega, this.2⟩
def cOf (tag : Bool) : UInt8 := if tag = true then 67 else 69
def Rds (toks : List (List UInt8)) (names : List DeclM) (tag : Bool) (f : RdM → Option Int × RdM) (lim : Nat) : Prop :=
  ∀ r, EnvR toks names r → lim ≤ r.pos →
    (∃ r1, f r = (none, r1) ∧ ∀ P, Fails toks names r.pos (P ++ [cOf tag]) r1.pos) ∨
    (∃ n m ex q, f r = (some n, ⟨r.ins, r.nodes ++ m, r.outs, toks, q, r.ents⟩) ∧ r.pos < q ∧ q ≤ toks.length ∧ q ≤ 600 ∧ Par toks names tag r.pos ex q ∧ Laid r.ents r.nodes ex n m ∧ ∀ P, Goes toks names r.pos (P ++ [cOf tag]) q P)
section
variable {toks : List (List UInt8)} {names : List DeclM} {tag : Bool} {f g : RdM → Option Int × RdM} {lim : Nat}
theorem one_sim (hf : Rds toks names tag f lim) (mk : Int → NodeM) (r : RdM) (he : EnvR toks names r) (hl : lim ≤ r.pos) :
    (∃ r1, oneR f mk r = (none, r1) ∧ ∀ P, Fails toks names r.pos (P ++ [cOf tag]) r1.pos) ∨
    (∃ m x a q, oneR f mk r = (some ((r.nodes ++ m).length : Int), ⟨r.ins, r.nodes ++ (m ++ [mk x]), r.outs, toks, q, r.ents⟩) ∧ r.pos < q ∧ q ≤ toks.length ∧ q ≤ 600 ∧ Par toks names tag r.pos a q ∧ Laid r.ents r.nodes a x m ∧ ∀ P, Goes toks names r.pos (P ++ [cOf tag]) q P) := by
  unfold oneR
  rcases hf r he hl with ⟨r1, h1, h2⟩ | ⟨n, m, ex, q, h1, h2, h3, h4, h5, h6, h7⟩
  · left; exact ⟨r1, by rw [h1], h2⟩
  · right
    refine ⟨m, n, ex, q, ?_, h2, h3, h4, h5, h6, h7⟩
    rw [h1]
    simp [RdM.addNode]
theorem pair_sim (hf : Rds toks names tag f lim) (op : Int) (r : RdM) (he : EnvR toks names r) (hl : lim ≤ r.pos) :
    (∃ r1, pairR f op r = (none, r1) ∧ ∀ P, Fails toks names r.pos (P ++ [cOf tag, cOf tag]) r1.pos) ∨
    (∃ m m' x y a b p q, pairR f op r = (some ((r.nodes ++ m ++ m').length : Int), ⟨r.ins, r.nodes ++ (m ++ m' ++ [⟨op, x, y, 0, 0, []⟩]), r.outs, toks, q, r.ents⟩) ∧ r.pos < q ∧ q ≤ toks.length ∧ q ≤ 600 ∧ Par toks names tag r.pos a p ∧ Par toks names tag p b q ∧ Laid r.ents r.nodes a x m ∧ Laid r.ents (r.nodes ++ m) b y m' ∧ ∀ P, Goes toks names r.pos (P ++ [cOf tag, cOf tag]) q P) := by
  unfold pairR
  have hpl : ∀ P : List UInt8, P ++ [cOf tag, cOf tag] = (P ++ [cOf tag]) ++ [cOf tag] := by intro P; simp
  rcases hf r he hl with ⟨r1, h1, h2⟩ | ⟨n, m, ex, q, h1, h2, h3, h4, h5, h6, h7⟩
  · left; exact ⟨r1, by rw [h1], fun P => by rw [hpl]; exact h2 _⟩
  · rw [h1]
    simp only
    rcases one_sim hf (fun b => ⟨op, n, b, 0, 0, []⟩) ⟨r.ins, r.nodes ++ m, r.outs, toks, q, r.ents⟩ (he.at' _ _ h3) (by simp only; omega) with ⟨r1, k1, k2⟩ | ⟨m', y, b, q', k1, k2, k3, k4, k5, k6, k7⟩
    · left; exact ⟨r1, k1, fun P => by rw [hpl]; exact (h7 _).fails (k2 P)⟩
    · right
      simp only at k1 k2 k5 k6 k7
      refine ⟨m, m', n, y, ex, b, q, q', ?_, by omega, k3, k4, h5, k5, h6, k6, fun P => by rw [hpl]; exact (h7 _).trans (k7 P)⟩
      rw [k1]; simp
theorem choice_sim (hg : Rds toks names true g lim) (hf : Rds toks names false f lim) (r : RdM) (he : EnvR toks names r) (hl : lim ≤ r.pos) :
    (∃ r1, choiceR g f r = (none, r1) ∧ ∀ P, Fails toks names r.pos (P ++ [69, 69, 67]) r1.pos) ∨
    (∃ m m' m'' x y z c a b p q k, choiceR g f r = (some ((r.nodes ++ m ++ m' ++ m'').length : Int), ⟨r.ins, r.nodes ++ (m ++ m' ++ m'' ++ [⟨7, x, y, z, 0, []⟩]), r.outs, toks, k, r.ents⟩) ∧ r.pos < k ∧ k ≤ toks.length ∧ k ≤ 600 ∧ Par toks names true r.pos c p ∧ Par toks names false p a q ∧ Par toks names false q b k ∧ Laid r.ents r.nodes c x m ∧ Laid r.ents (r.nodes ++ m) a y m' ∧ Laid r.ents (r.nodes ++ m ++ m') b z m'' ∧ ∀ P, Goes toks names r.pos (P ++ [69, 69, 67]) k P) := by
  unfold choiceR
  have hpl : ∀ P : List UInt8, P ++ [69, 69, 67] = ((P ++ [cOf false]) ++ [cOf false]) ++ [cOf true] := by intro P; simp [cOf]
  rcases hg r he hl with ⟨r1, h1, h2⟩ | ⟨n, m, ex, q, h1, h2, h3, h4, h5, h6, h7⟩
  · left; exact ⟨r1, by rw [h1], fun P => by rw [hpl]; exact h2 _⟩
  · rw [h1]
    simp only
    rcases hf ⟨r.ins, r.nodes ++ m, r.outs, toks, q, r.ents⟩ (he.at' _ _ h3) (by simp only; omega) with ⟨r1, k1, k2⟩ | ⟨n', m', ex', q', k1, k2, k3, k4, k5, k6, k7⟩
    · left; exact ⟨r1, by rw [k1], fun P => by rw [hpl]; exact (h7 _).fails (k2 _)⟩
    · simp only at k1 k2 k5 k6 k7
      rw [k1]
      simp only
      rcases one_sim hf (fun c => ⟨7, n, n', c, 0, []⟩) ⟨r.ins, r.nodes ++ m ++ m', r.outs, toks, q', r.ents⟩ (he.at' _ _ k3) (by simp only; omega) with ⟨r1, j1, j2⟩ | ⟨m'', y, b, q'', j1, j2, j3, j4, j5, j6, j7⟩
      · left; exact ⟨r1, j1, fun P => by rw [hpl]; exact ((h7 _).trans (k7 _)).fails (j2 P)⟩
      · right
        simp only at j1 j2 j5 j6 j7
        refine ⟨m, m', m'', n, n', y, ex, ex', b, q, q', q'', ?_, by omega, j3, j4, h5, k5, j5, h6, k6, j6, fun P => by rw [hpl]; exact ((h7 _).trans (k7 _)).trans (j7 P)⟩
        rw [j1]; simp
theorem product_sim (hf : Rds toks names false f lim) (r : RdM) (he : EnvR toks names r) (hl : lim ≤ r.pos) :
    (∃ r1, productR f r = (none, r1) ∧ ∀ P, Fails toks names r.pos (P ++ [69, 75]) r1.pos) ∨
    (∃ m x a q, within (atR toks r.pos) (-1000) 1000 = true ∧ productR f r = (some ((r.nodes ++ m).length : Int), ⟨r.ins, r.nodes ++ (m ++ [⟨4, x, 0, 0, (number (atR toks r.pos)).1, []⟩]), r.outs, toks, q, r.ents⟩) ∧ r.pos < q ∧ q ≤ toks.length ∧ q ≤ 600 ∧ Par toks names false (r.pos + 1) a q ∧ Laid r.ents r.nodes a x m ∧ ∀ P, Goes toks names r.pos (P ++ [69, 75]) q P) := by
  unfold productR
  have hpl : ∀ P : List UInt8, P ++ [69, 75] = (P ++ [cOf false]) ++ [75] := by intro P; simp [cOf]
  rw [num_within, peek_atR, he.toks]
  cases hw : within (atR toks r.pos) (-1000) 1000 with
  | false =>
    left
    refine ⟨r, by simp, fun P => ?_⟩
    rw [hpl]
    exact fails_tok (by unfold isMid; decide) he.pos (by show yesD (within (atR toks r.pos) (-1000) 1000) = []; rw [hw]; rfl)
  | true =>
    have hne : atR toks r.pos ≠ [] := number_ne (by unfold within at hw; simp at hw; exact hw.1.1)
    obtain ⟨hs, hs2, _⟩ := he.skip hne
    rw [if_pos rfl]
    simp only
    rw [hs]
    have hgo : ∀ P, Goes toks names r.pos (P ++ [69, 75]) (r.pos + 1) (P ++ [cOf false]) := fun P => by
      rw [hpl]
      exact goes_tok (s := [45]) (by unfold isMid; decide) hne (by show yesD (within (atR toks r.pos) (-1000) 1000) = [45]; rw [hw]; rfl) (by decide)
    rcases one_sim hf (fun a => ⟨4, a, 0, 0, (number (atR toks r.pos)).1, []⟩) ⟨r.ins, r.nodes, r.outs, toks, r.pos + 1, r.ents⟩ (he.at' _ _ hs2) (by simp only; omega) with ⟨r1, j1, j2⟩ | ⟨m, y, b, q, j1, j2, j3, j4, j5, j6, j7⟩
    · left; exact ⟨r1, j1, fun P => (hgo P).fails (j2 P)⟩
    · right
      simp only at j1 j2 j5 j6 j7
      exact ⟨m, y, b, q, trivial, j1, by omega, j3, j4, j5, j6, fun P => (hgo P).trans (j7 P)⟩
theorem rounding_holds (t : List UInt8) : (roundingOf t).isSome = holdsW roundText t ∨ ¬ NoSp t := by
  by_cases h : NoSp t
  · left
    have := holds_pad [kDown, kUp, kZero, kNear] t h (by intro w hw; revert w; unfold NoSp; decide)
    unfold holdsW
    rw [show roundText = pad [kDown, kUp, kZero, kNear] by decide, show ([32] ++ t ++ [32] : List UInt8) = 32 :: (t ++ [32]) from rfl, this]
    unfold roundingOf
    by_cases h1 : t = kDown
    · subst h1; decide
    by_cases h2 : t = kUp
    · subst h2; decide
    by_cases h3 : t = kZero
    · subst h3; decide
    by_cases h4 : t = kNear
    · subst h4; decide
    rw [if_neg h1, if_neg h2, if_neg h3, if_neg h4]
    simp [h1, h2, h3, h4]
  · exact .inr h
theorem roundingOf_ne {t : List UInt8} {op : Int} (h : roundingOf t = some op) : t ≠ [] ∧ (op = 8 ∨ op = 9 ∨ op = 10 ∨ op = 11) := by
  unfold roundingOf at h
  split at h
  · rename_i e; cases h; subst e; exact ⟨by decide, by simp⟩
  split at h
  · rename_i e; cases h; subst e; exact ⟨by decide, by simp⟩
  split at h
  · rename_i e; cases h; subst e; exact ⟨by decide, by simp⟩
  split at h
  · rename_i e; cases h; subst e; exact ⟨by decide, by simp⟩
  · cases h
theorem quotient_sim (hsp : ∀ t ∈ toks, NoSp t) (hf : Rds toks names false f lim) (r : RdM) (he : EnvR toks names r) (hl : lim ≤ r.pos) :
    (∃ r1, quotientR f r = (none, r1) ∧ ∀ P, Fails toks names r.pos (P ++ [68, 69, 77]) r1.pos) ∨
    (∃ m x a p op, roundingOf (atR toks r.pos) = some op ∧ within (atR toks p) 1 1000000 = true ∧ quotientR f r = (some ((r.nodes ++ m).length : Int), ⟨r.ins, r.nodes ++ (m ++ [⟨op, x, 0, 0, (number (atR toks p)).1, []⟩]), r.outs, toks, p + 1, r.ents⟩) ∧ r.pos < p + 1 ∧ p + 1 ≤ toks.length ∧ p + 1 ≤ 600 ∧ Par toks names false (r.pos + 1) a p ∧ Laid r.ents r.nodes a x m ∧ ∀ P, Goes toks names r.pos (P ++ [68, 69, 77]) (p + 1) P) := by
  unfold quotientR
  have hpl : ∀ P : List UInt8, P ++ [68, 69, 77] = ((P ++ [68]) ++ [cOf false]) ++ [77] := by intro P; simp [cOf]
  rw [peek_atR, he.toks]
  have hns : NoSp (atR toks r.pos) := by
    unfold atR
    split
    · rename_i h; rw [List.getD_eq_getElem?_getD, List.getElem?_eq_getElem h.1]; exact hsp _ (List.getElem_mem _)
    · intro x hx; simp at hx
  have hro : (roundingOf (atR toks r.pos)).isSome = holdsW roundText (atR toks r.pos) := by
    rcases rounding_holds (atR toks r.pos) with h | h
    · exact h
    · exact absurd hns h
  cases hr : roundingOf (atR toks r.pos) with
  | none =>
    left
    rw [hr] at hro
    refine ⟨r, by simp, fun P => ?_⟩
    rw [hpl]
    exact fails_tok (by unfold isMid; decide) he.pos (by show yesD (holdsW roundText (atR toks r.pos)) = []; rw [← hro]; rfl)
  | some op =>
    rw [hr] at hro
    obtain ⟨hne, hop⟩ := roundingOf_ne hr
    obtain ⟨hs, hs2, _⟩ := he.skip hne
    simp only
    rw [hs]
    have hgo : ∀ P, Goes toks names r.pos (P ++ [68, 69, 77]) (r.pos + 1) ((P ++ [68]) ++ [cOf false]) := fun P => by
      rw [hpl]
      exact goes_tok (s := [45]) (by unfold isMid; decide) hne (by show yesD (holdsW roundText (atR toks r.pos)) = [45]; rw [← hro]; rfl) (by decide)
    rcases hf ⟨r.ins, r.nodes, r.outs, toks, r.pos + 1, r.ents⟩ (he.at' _ _ hs2) (by simp only; omega) with ⟨r1, j1, j2⟩ | ⟨n, m, ex, q, j1, j2, j3, j4, j5, j6, j7⟩
    · left; exact ⟨r1, by rw [j1], fun P => (hgo P).fails (j2 _)⟩
    · simp only at j1 j2 j5 j6 j7
      rw [j1]
      simp only
      rw [num_within, peek_atR]
      simp only
      cases hw : within (atR toks q) 1 1000000 with
      | false =>
        left
        refine ⟨⟨r.ins, r.nodes ++ m, r.outs, toks, q, r.ents⟩, by simp, fun P => ((hgo P).trans (j7 _)).fails ?_⟩
        exact fails_tok (by unfold isMid; decide) j3 (by show yesD (within (atR toks q) 1 1000000) = []; rw [hw]; rfl)
      | true =>
        right
        have hne2 : atR toks q ≠ [] := number_ne (by unfold within at hw; simp at hw; exact hw.1.1)
        obtain ⟨ks, ks2, ks3⟩ := (he.at' (r.nodes ++ m) q j3).skip hne2
        simp only at ks ks2 ks3
        refine ⟨m, n, ex, q, op, rfl, hw, ?_, by omega, ks2, by omega, j5, j6, fun P => ((hgo P).trans (j7 _)).trans ?_⟩
        · rw [if_pos rfl]
          simp only
          rw [ks]
          simp [RdM.addNode]
        · exact goes_tok (s := [45]) (by unfold isMid; decide) hne2 (by show yesD (within (atR toks q) 1 1000000) = [45]; rw [hw]; rfl) (by decide)
end
end Go.Proofs.YtfaljekgpnbmiaaGreat.Pl
