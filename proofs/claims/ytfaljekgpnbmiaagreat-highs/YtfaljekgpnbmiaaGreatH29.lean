/- Joined: PlainTree3. -/
import Derived.Test.YtfaljekgpnbmiaaGreatH28
/-
  The program's reading of an expression against the pile: tables, leaves, words; any expression, any condition.
-/
namespace Go.Proofs.YtfaljekgpnbmiaaGreat.Pl
set_option linter.unusedVariables false
set_option linter.unusedSimpArgs false

section
variable {toks : List (List UInt8)} {names : List DeclM} {f g : RdM → Option Int × RdM} {lim : Nat}
theorem bands_sim (n : Nat) : ∀ (least : Int) (acc : List (Int × Int)) (r : RdM), EnvR toks names r → r.pos ≤ 600 →
    (∃ r1, bandsR n least acc r = (none, r1) ∧ ∀ P nm bg, Ends toks ⟨r.pos, P ++ bandsD n, names, least, nm, bg⟩ (.inr r1.pos)) ∨
    (∃ l, bandsR n least acc r = (some (acc ++ l), ⟨r.ins, r.nodes, r.outs, toks, r.pos + 2 * n, r.ents⟩) ∧ l.length = n ∧ BandsAt toks r.pos l ∧ (∀ p ∈ l, -1000000000 ≤ p.1 ∧ p.1 ≤ 1000000000 ∧ -1000 ≤ p.2 ∧ p.2 ≤ 1000) ∧ r.pos + 2 * n ≤ toks.length ∧ r.pos + 2 * n ≤ 600 ∧ ∀ P nm bg, ∃ last', ∀ res, Ends toks ⟨r.pos + 2 * n, P, names, last', nm, bg⟩ res → Ends toks ⟨r.pos, P ++ bandsD n, names, least, nm, bg⟩ res) := by
  induction n with
  | zero =>
    intro least acc r he h6
    right
    refine ⟨[], ?_, rfl, trivial, by simp, he.pos, h6, fun P nm bg => ⟨least, fun res hr => by rw [bandsD, List.append_nil]; exact hr⟩⟩
    rw [bandsR, List.append_nil]
    obtain ⟨i, n, o, t, p, e⟩ := r
    have := he.toks
    simp only at this
    subst this
    rfl
  | succ n ih =>
    intro least acc r he h6
    have hpl : ∀ P : List UInt8, P ++ bandsD (n + 1) = ((P ++ bandsD n) ++ [82]) ++ [84] := by intro P; simp [bandsD]
    rw [bandsR]
    unfold bandR
    rw [num_within, peek_atR, he.toks]
    cases hw : within (atR toks r.pos) least 1000000000 with
    | false =>
      left
      refine ⟨r, by simp, fun P nm bg => ?_⟩
      rw [hpl]
      exact ends_fail he.pos (by decide) (fun h => absurd h (by decide)) (by show yesD (within (atR toks r.pos) least 1000000000) = []; rw [hw]; rfl)
    | true =>
      have hb := number_bd (atR toks r.pos)
      have hnu : (number (atR toks r.pos)).2 = true := by unfold within at hw; simp at hw; exact hw.1.1
      have hne : atR toks r.pos ≠ [] := number_ne hnu
      obtain ⟨hs, hs2, hs3⟩ := he.skip hne
      rw [if_pos rfl]
      simp only
      rw [hs, num_within, peek_atR]
      simp only
      have hT : ∀ (P : List UInt8) nm bg res, Ends toks ⟨r.pos + 1, (P ++ bandsD n) ++ [82], names, (number (atR toks r.pos)).1 + 1, nm, bg⟩ res → Ends toks ⟨r.pos, P ++ bandsD (n + 1), names, least, nm, bg⟩ res := by
        intro P nm bg res h
        rw [hpl]
        exact ends_tok (s := [45]) (by decide) hne (by show yesD (within (atR toks r.pos) least 1000000000) = [45]; rw [hw]; rfl) (by decide) h
      cases hw2 : within (atR toks (r.pos + 1)) (-1000) 1000 with
      | false =>
        left
        refine ⟨⟨r.ins, r.nodes, r.outs, toks, r.pos + 1, r.ents⟩, by simp, fun P nm bg => hT P nm bg _ ?_⟩
        exact ends_fail hs2 (by decide) (fun h => absurd h (by decide)) (by show yesD (within (atR toks (r.pos + 1)) (-1000) 1000) = []; rw [hw2]; rfl)
      | true =>
        have hnu2 : (number (atR toks (r.pos + 1))).2 = true := by unfold within at hw2; simp at hw2; exact hw2.1.1
        have hb2 : -1000 ≤ (number (atR toks (r.pos + 1))).1 ∧ (number (atR toks (r.pos + 1))).1 ≤ 1000 := by unfold within at hw2; simp at hw2; exact ⟨hw2.1.2, hw2.2⟩
        have hne2 : atR toks (r.pos + 1) ≠ [] := number_ne hnu2
        have he1 := he.at' r.nodes (r.pos + 1) hs2
        obtain ⟨ks, ks2, ks3⟩ := he1.skip hne2
        simp only at ks ks2 ks3
        rw [if_pos rfl]
        simp only
        rw [ks]
        have hR : ∀ (P : List UInt8) nm bg res, Ends toks ⟨r.pos + 2, P ++ bandsD n, names, (number (atR toks r.pos)).1 + 1, nm, bg⟩ res → Ends toks ⟨r.pos, P ++ bandsD (n + 1), names, least, nm, bg⟩ res := by
          intro P nm bg res h
          refine hT P nm bg res ?_
          exact ends_tok (s := [45]) (by decide) hne2 (by show yesD (within (atR toks (r.pos + 1)) (-1000) 1000) = [45]; rw [hw2]; rfl) (by decide) h
        rcases ih ((number (atR toks r.pos)).1 + 1) (acc ++ [((number (atR toks r.pos)).1, (number (atR toks (r.pos + 1))).1)]) ⟨r.ins, r.nodes, r.outs, toks, r.pos + 1 + 1, r.ents⟩ (he.at' _ _ ks2) (by simp only; omega) with ⟨r1, j1, j2⟩ | ⟨l, j1, j2, j3, j4, j5, j6, j7⟩
        · left; exact ⟨r1, j1, fun P nm bg => hR P nm bg _ (j2 P nm bg)⟩
        · right
          simp only at j1 j3 j5 j6 j7
          refine ⟨((number (atR toks r.pos)).1, (number (atR toks (r.pos + 1))).1) :: l, ?_, by simp [j2], ⟨Prod.ext rfl hnu, Prod.ext rfl hnu2, hb2.1, hb2.2, j3⟩, ?_, by omega, by omega, fun P nm bg => ?_⟩
          · rw [j1, show r.pos + 1 + 1 + 2 * n = r.pos + 2 * (n + 1) by omega]; simp
          · intro p hp
            rcases List.mem_cons.1 hp with rfl | hp
            · exact ⟨hb.1, hb.2, hb2.1, hb2.2⟩
            · exact j4 p hp
          · obtain ⟨l1, h1⟩ := j7 P nm bg
            refine ⟨l1, fun res hr => hR P nm bg res (h1 res ?_)⟩
            rw [show r.pos + 1 + 1 + 2 * n = r.pos + 2 * (n + 1) by omega]
            exact hr
theorem bandsD_ne {n : Nat} (h : 1 ≤ n) : bandsD n ≠ [] ∧ bandsD n ≠ [45] := by
  obtain ⟨k, rfl⟩ : ∃ k, n = k + 1 := ⟨n - 1, by omega⟩
  rw [bandsD]
  constructor
  · simp
  · intro e
    have := congrArg List.getLast? e
    simp at this
theorem table_sim (hf : Rds toks names false f lim) (r : RdM) (he : EnvR toks names r) (hl : lim ≤ r.pos) :
    (∃ r1, tableR f r = (none, r1) ∧ ∀ P, Fails toks names r.pos (P ++ [78, 69]) r1.pos) ∨
    (∃ m x a p l, number (atR toks p) = ((l.length : Int), true) ∧ 1 ≤ l.length ∧ l.length ≤ 6 ∧ BandsAt toks (p + 1) l ∧ (∀ p ∈ l, -1000000000 ≤ p.1 ∧ p.1 ≤ 1000000000 ∧ -1000 ≤ p.2 ∧ p.2 ≤ 1000) ∧ tableR f r = (some ((r.nodes ++ m).length : Int), ⟨r.ins, r.nodes ++ (m ++ [⟨12, x, 0, 0, 0, l⟩]), r.outs, toks, p + 1 + 2 * l.length, r.ents⟩) ∧ r.pos < p + 1 + 2 * l.length ∧ p + 1 + 2 * l.length ≤ toks.length ∧ p + 1 + 2 * l.length ≤ 600 ∧ Par toks names false r.pos a p ∧ Laid r.ents r.nodes a x m ∧ ∀ P, Goes toks names r.pos (P ++ [78, 69]) (p + 1 + 2 * l.length) P) := by
  unfold tableR
  have hpl : ∀ P : List UInt8, P ++ [78, 69] = (P ++ [78]) ++ [cOf false] := by intro P; simp [cOf]
  rcases hf r he hl with ⟨r1, h1, h2⟩ | ⟨n, m, ex, q, h1, h2, h3, h4, h5, h6, h7⟩
  · left; exact ⟨r1, by rw [h1], fun P => by rw [hpl]; exact h2 _⟩
  · rw [h1]
    simp only
    rw [num_within, peek_atR]
    simp only
    have hlead : ∀ last, leadsD names last 78 (atR toks q) = if within (atR toks q) 1 6 = true then bandsD (number (atR toks q)).1.toNat else [] := fun _ => rfl
    cases hw : within (atR toks q) 1 6 with
    | false =>
      left
      refine ⟨⟨r.ins, r.nodes ++ m, r.outs, toks, q, r.ents⟩, by simp, fun P => by rw [hpl]; exact (h7 _).fails (fails_tok (by unfold isMid; decide) h3 (by rw [hlead, hw]; rfl))⟩
    | true =>
      have hnu : (number (atR toks q)).2 = true := by unfold within at hw; simp at hw; exact hw.1.1
      have hb : 1 ≤ (number (atR toks q)).1 ∧ (number (atR toks q)).1 ≤ 6 := by unfold within at hw; simp at hw; exact ⟨hw.1.2, hw.2⟩
      have hne : atR toks q ≠ [] := number_ne hnu
      obtain ⟨hs, hs2, hs3⟩ := (he.at' (r.nodes ++ m) q h3).skip hne
      simp only at hs hs2 hs3
      rw [if_pos rfl]
      simp only
      rw [hs]
      obtain ⟨k, hk⟩ : ∃ k : Nat, (number (atR toks q)).1 = (k : Int) := ⟨(number (atR toks q)).1.toNat, by omega⟩
      have hkn : (number (atR toks q)).1.toNat = k := by omega
      have hbn := bandsD_ne (n := k) (by omega)
      rw [hkn]
      have hN : ∀ P last nm bg res, Ends toks ⟨q + 1, P ++ bandsD k, names, -1000000000, nm, bg⟩ res → Ends toks ⟨q, P ++ [78], names, last, nm, bg⟩ res := by
        intro P last nm bg res h
        refine ends_tok (s := bandsD k) (by decide) hne (by rw [hlead, hw, hkn]; rfl) hbn.1 ?_
        rw [if_neg hbn.2]
        exact h
      rcases bands_sim k (-1000000000) [] ⟨r.ins, r.nodes ++ m, r.outs, toks, q + 1, r.ents⟩ (he.at' _ _ hs2) (by simp only; omega) with ⟨r1, j1, j2⟩ | ⟨l, j1, j2, j3, j4, j5, j6, j7⟩
      · left
        refine ⟨r1, by rw [j1], fun P => by rw [hpl]; exact (h7 _).fails (fun last nm bg => hN P last nm bg _ (j2 P nm bg))⟩
      · right
        simp only at j1 j3 j5 j6 j7
        subst j2
        refine ⟨m, n, ex, q, l, Prod.ext hk hnu, by omega, by omega, j3, j4, ?_, by omega, j5, j6, h5, h6, fun P => ?_⟩
        · rw [j1]; simp [RdM.addNode]
        · rw [hpl]
          refine (h7 _).trans ?_
          intro last nm bg
          obtain ⟨l1, k1⟩ := j7 P nm bg
          exact ⟨l1, fun res hr => hN P last nm bg res (k1 res hr)⟩
theorem leaf_sim (r : RdM) (he : EnvR toks names r) (hw : exprD names (atR toks r.pos) = yesD ((number (atR toks r.pos)).2 || isOf names (atR toks r.pos) 105 118)) :
    (∃ r1, RdM.leaf r = (none, r1) ∧ ∀ P, Fails toks names r.pos (P ++ [cOf false]) r1.pos) ∨
    (∃ n m ex q, RdM.leaf r = (some n, ⟨r.ins, r.nodes ++ m, r.outs, toks, q, r.ents⟩) ∧ r.pos < q ∧ q ≤ toks.length ∧ q ≤ 600 ∧ Par toks names false r.pos ex q ∧ Laid r.ents r.nodes ex n m ∧ ∀ P, Goes toks names r.pos (P ++ [cOf false]) q P) := by
  have hfit : fitsR names 65 (atR toks r.pos) = ((number (atR toks r.pos)).2 || isOf names (atR toks r.pos) 105 118) := by unfold fitsR; rw [if_pos rfl]
  rw [← hfit] at hw
  have hr := leaf_reads names r he.rel he.ne
  rw [he.toks] at hr
  rcases hr with ⟨h1, h2⟩ | ⟨h1, hne, a, m, h2, h3⟩
  · left
    refine ⟨r, h2, fun P => fails_tok (by unfold isMid; decide) he.pos ?_⟩
    show exprD names (atR toks r.pos) = []
    rw [hw, h1]; rfl
  · right
    have hlt := atR_lt hne
    have hgo : ∀ P, Goes toks names r.pos (P ++ [cOf false]) (r.pos + 1) P := fun P => goes_tok (s := [45]) (by unfold isMid; decide) hne (by show exprD names (atR toks r.pos) = [45]; rw [hw, h1]; rfl) (by decide)
    rcases h2 with ⟨hn, rfl, rfl⟩ | ⟨hn, rfl, hk⟩
    · exact ⟨_, _, .num (number (atR toks r.pos)).1, r.pos + 1, h3, by omega, by omega, by omega, .num _ hn, .num _ _ (number_bd _), hgo⟩
    · unfold knownOf at hk
      split at hk
      · cases hk
      · rename_i e hee
        obtain ⟨hl, rfl⟩ := List.getElem?_eq_some_iff.1 hee
        split at hk
        · rename_i h0
          cases hk
          have hnm := findEnt_name hl
          obtain ⟨hd, hkr, _⟩ := he.rel.kindAt _ hl
          have hfd : findD names (atR toks r.pos) = ((findEnt r.ents (atR toks r.pos) : Nat) : Int) := by unfold findD; rw [he.rel.find, if_pos hl]; simp
          have hrn : rName (atR toks r.pos) = true := by have := he.nm _ (List.getElem_mem hl); rw [hnm] at this; exact this
          refine ⟨_, _, .var (findEnt r.ents (atR toks r.pos)), r.pos + 1, h3, by omega, by omega, by omega, .var _ _ hrn hn hfd hd ?_, .var _ _ hl h0, hgo⟩
          rw [h0] at hkr
          rcases hkr with ⟨h, _⟩ | ⟨_, h⟩ | ⟨_, h⟩
          · exact h
          · omega
          · omega
        · cases hk
theorem expr_sim (hsp : ∀ t ∈ toks, NoSp t) (hg : Rds toks names true g lim) (hf : Rds toks names false f lim) (lim' : Nat) (hlim : lim ≤ lim' + 1) : Rds toks names false (exprR g f) lim' := by
  intro r he hl
  have hpair : ∀ op : Int, (op = 2 ∨ op = 3 ∨ op = 5 ∨ op = 6) → twoOf (atR toks r.pos) = some op → exprD names (atR toks r.pos) = [69, 69] → atR toks r.pos ≠ [] →
      (∃ r1, pairR f op r.skip = (none, r1) ∧ ∀ P, Fails toks names r.pos (P ++ [cOf false]) r1.pos) ∨
      (∃ n m ex q, pairR f op r.skip = (some n, ⟨r.ins, r.nodes ++ m, r.outs, toks, q, r.ents⟩) ∧ r.pos < q ∧ q ≤ toks.length ∧ q ≤ 600 ∧ Par toks names false r.pos ex q ∧ Laid r.ents r.nodes ex n m ∧ ∀ P, Goes toks names r.pos (P ++ [cOf false]) q P) := by
    intro op ho h2 hx hne
    obtain ⟨hs, hs2, hs3⟩ := he.skip hne
    rw [hs]
    have hgo : ∀ P, Goes toks names r.pos (P ++ [cOf false]) (r.pos + 1) (P ++ [cOf false, cOf false]) := fun P => goes_tok (s := [69, 69]) (by unfold isMid; decide) hne hx (by decide)
    rcases pair_sim hf op ⟨r.ins, r.nodes, r.outs, toks, r.pos + 1, r.ents⟩ (he.at' _ _ hs2) (by simp only; omega) with ⟨r1, k1, k2⟩ | ⟨m, m', x, y, a, b, p, q, k1, k2, k3, k4, k5, k6, k7, k8, k9⟩
    · left; exact ⟨r1, k1, fun P => (hgo P).fails (k2 P)⟩
    · right
      simp only at k1 k2 k5 k6 k7 k8 k9
      exact ⟨_, _, .two op a b, q, k1, by omega, k3, k4, .two _ _ _ _ _ _ h2 k5 k6, .two _ _ _ _ _ _ _ _ (by omega) k7 k8, fun P => (hgo P).trans (k9 P)⟩
  unfold exprR
  rw [peek_atR, he.toks]
  by_cases h1 : atR toks r.pos = kAdd
  · rw [if_pos h1]; exact hpair 2 (by omega) (by rw [h1]; decide) (by rw [h1]; rfl) (by rw [h1]; decide)
  rw [if_neg h1]
  by_cases h2 : atR toks r.pos = kSub
  · rw [if_pos h2]; exact hpair 3 (by omega) (by rw [h2]; decide) (by rw [h2]; rfl) (by rw [h2]; decide)
  rw [if_neg h2]
  by_cases h3 : atR toks r.pos = kMin
  · rw [if_pos h3]; exact hpair 5 (by omega) (by rw [h3]; decide) (by rw [h3]; rfl) (by rw [h3]; decide)
  rw [if_neg h3]
  by_cases h4 : atR toks r.pos = kMax
  · rw [if_pos h4]; exact hpair 6 (by omega) (by rw [h4]; decide) (by rw [h4]; rfl) (by rw [h4]; decide)
  rw [if_neg h4]
  by_cases h5 : atR toks r.pos = kMul
  · rw [if_pos h5]
    have hne : atR toks r.pos ≠ [] := by rw [h5]; decide
    obtain ⟨hs, hs2, hs3⟩ := he.skip hne
    rw [hs]
    have hgo : ∀ P, Goes toks names r.pos (P ++ [cOf false]) (r.pos + 1) (P ++ [69, 75]) := fun P => goes_tok (s := [69, 75]) (by unfold isMid; decide) hne (by rw [h5]; rfl) (by decide)
    rcases product_sim hf ⟨r.ins, r.nodes, r.outs, toks, r.pos + 1, r.ents⟩ (he.at' _ _ hs2) (by simp only; omega) with ⟨r1, k1, k2⟩ | ⟨m, x, a, q, hw, k1, k2, k3, k4, k5, k6, k7⟩
    · left; exact ⟨r1, k1, fun P => (hgo P).fails (k2 P)⟩
    · right
      simp only at hw k1 k2 k5 k6 k7
      have hb : -1000 ≤ (number (atR toks (r.pos + 1))).1 ∧ (number (atR toks (r.pos + 1))).1 ≤ 1000 := by have := hw; unfold within at this; simp at this; exact ⟨this.1.2, this.2⟩
      exact ⟨_, _, _, q, k1, by omega, k3, k4, .mul _ _ _ h5 hw k5, .mul _ _ _ _ _ hb k6, fun P => (hgo P).trans (k7 P)⟩
  rw [if_neg h5]
  by_cases h6 : atR toks r.pos = kIf
  · rw [if_pos h6]
    have hne : atR toks r.pos ≠ [] := by rw [h6]; decide
    obtain ⟨hs, hs2, hs3⟩ := he.skip hne
    rw [hs]
    have hgo : ∀ P, Goes toks names r.pos (P ++ [cOf false]) (r.pos + 1) (P ++ [69, 69, 67]) := fun P => goes_tok (s := [69, 69, 67]) (by unfold isMid; decide) hne (by rw [h6]; rfl) (by decide)
    rcases choice_sim hg hf ⟨r.ins, r.nodes, r.outs, toks, r.pos + 1, r.ents⟩ (he.at' _ _ hs2) (by simp only; omega) with ⟨r1, k1, k2⟩ | ⟨m, m', m'', x, y, z, c, a, b, p, q, k, k1, k2, k3, k4, k5, k6, k7, k8, k9, k10, k11⟩
    · left; exact ⟨r1, k1, fun P => (hgo P).fails (k2 P)⟩
    · right
      simp only at k1 k2 k5 k6 k7 k8 k9 k10 k11
      exact ⟨_, _, _, k, k1, by omega, k3, k4, .cho _ _ _ _ _ _ _ h6 k5 k6 k7, .cho _ _ _ _ _ _ _ _ _ _ k8 k9 k10, fun P => (hgo P).trans (k11 P)⟩
  rw [if_neg h6]
  by_cases h7 : atR toks r.pos = kDiv
  · rw [if_pos h7]
    have hne : atR toks r.pos ≠ [] := by rw [h7]; decide
    obtain ⟨hs, hs2, hs3⟩ := he.skip hne
    rw [hs]
    have hgo : ∀ P, Goes toks names r.pos (P ++ [cOf false]) (r.pos + 1) (P ++ [68, 69, 77]) := fun P => goes_tok (s := [68, 69, 77]) (by unfold isMid; decide) hne (by rw [h7]; rfl) (by decide)
    rcases quotient_sim hsp hf ⟨r.ins, r.nodes, r.outs, toks, r.pos + 1, r.ents⟩ (he.at' _ _ hs2) (by simp only; omega) with ⟨r1, k1, k2⟩ | ⟨m, x, a, p, op, ho, hw, k1, k2, k3, k4, k5, k6, k7⟩
    · left; exact ⟨r1, k1, fun P => (hgo P).fails (k2 P)⟩
    · right
      simp only at ho k1 k2 k5 k6 k7
      have hb : 1 ≤ (number (atR toks p)).1 ∧ (number (atR toks p)).1 ≤ 1000000 := by have := hw; unfold within at this; simp at this; exact ⟨this.1.2, this.2⟩
      exact ⟨_, _, _, p + 1, k1, by omega, k3, k4, .quo _ _ _ _ h7 ho k5 hw, .quo _ _ _ _ _ _ (roundingOf_ne ho).2 hb k6, fun P => (hgo P).trans (k7 P)⟩
  rw [if_neg h7]
  by_cases h8 : atR toks r.pos = kTab
  · rw [if_pos h8]
    have hne : atR toks r.pos ≠ [] := by rw [h8]; decide
    obtain ⟨hs, hs2, hs3⟩ := he.skip hne
    rw [hs]
    have hgo : ∀ P, Goes toks names r.pos (P ++ [cOf false]) (r.pos + 1) (P ++ [78, 69]) := fun P => goes_tok (s := [78, 69]) (by unfold isMid; decide) hne (by rw [h8]; rfl) (by decide)
    rcases table_sim hf ⟨r.ins, r.nodes, r.outs, toks, r.pos + 1, r.ents⟩ (he.at' _ _ hs2) (by simp only; omega) with ⟨r1, k1, k2⟩ | ⟨m, x, a, p, l, b1, b2, b3, b4, b5, k1, k2, k3, k4, k5, k6, k7⟩
    · left; exact ⟨r1, k1, fun P => (hgo P).fails (k2 P)⟩
    · right
      simp only at k1 k2 k5 k6 k7
      exact ⟨_, _, _, _, k1, by omega, k3, k4, .tab _ _ _ _ h8 k5 b1 b2 b3 b4, .tab _ _ _ _ _ b3 b5 k6, fun P => (hgo P).trans (k7 P)⟩
  rw [if_neg h8]
  exact leaf_sim r he (by unfold exprD; rw [if_neg (by simp [h1, h2, h3, h4]), if_neg h5, if_neg h6, if_neg h7, if_neg h8])
theorem cond_sim (hg : Rds toks names true g lim) (hf : Rds toks names false f lim) (lim' : Nat) (hlim : lim ≤ lim' + 1) : Rds toks names true (condR g f) lim' := by
  intro r he hl
  have hcmp : ∀ op : Int, (op = 13 ∨ op = 14 ∨ op = 15) → cmpOf (atR toks r.pos) = some op → condD (atR toks r.pos) = [69, 69] → atR toks r.pos ≠ [] →
      (∃ r1, pairR f op r.skip = (none, r1) ∧ ∀ P, Fails toks names r.pos (P ++ [cOf true]) r1.pos) ∨
      (∃ n m ex q, pairR f op r.skip = (some n, ⟨r.ins, r.nodes ++ m, r.outs, toks, q, r.ents⟩) ∧ r.pos < q ∧ q ≤ toks.length ∧ q ≤ 600 ∧ Par toks names true r.pos ex q ∧ Laid r.ents r.nodes ex n m ∧ ∀ P, Goes toks names r.pos (P ++ [cOf true]) q P) := by
    intro op ho h2 hx hne
    obtain ⟨hs, hs2, hs3⟩ := he.skip hne
    rw [hs]
    have hgo : ∀ P, Goes toks names r.pos (P ++ [cOf true]) (r.pos + 1) (P ++ [cOf false, cOf false]) := fun P => goes_tok (s := [69, 69]) (by unfold isMid; decide) hne hx (by decide)
    rcases pair_sim hf op ⟨r.ins, r.nodes, r.outs, toks, r.pos + 1, r.ents⟩ (he.at' _ _ hs2) (by simp only; omega) with ⟨r1, k1, k2⟩ | ⟨m, m', x, y, a, b, p, q, k1, k2, k3, k4, k5, k6, k7, k8, k9⟩
    · left; exact ⟨r1, k1, fun P => (hgo P).fails (k2 P)⟩
    · right
      simp only at k1 k2 k5 k6 k7 k8 k9
      exact ⟨_, _, .two op a b, q, k1, by omega, k3, k4, .cmp _ _ _ _ _ _ h2 k5 k6, .two _ _ _ _ _ _ _ _ (by omega) k7 k8, fun P => (hgo P).trans (k9 P)⟩
  have hjoin : ∀ op : Int, (op = 16 ∨ op = 17) → joinOf (atR toks r.pos) = some op → condD (atR toks r.pos) = [67, 67] → atR toks r.pos ≠ [] →
      (∃ r1, pairR g op r.skip = (none, r1) ∧ ∀ P, Fails toks names r.pos (P ++ [cOf true]) r1.pos) ∨
      (∃ n m ex q, pairR g op r.skip = (some n, ⟨r.ins, r.nodes ++ m, r.outs, toks, q, r.ents⟩) ∧ r.pos < q ∧ q ≤ toks.length ∧ q ≤ 600 ∧ Par toks names true r.pos ex q ∧ Laid r.ents r.nodes ex n m ∧ ∀ P, Goes toks names r.pos (P ++ [cOf true]) q P) := by
    intro op ho h2 hx hne
    obtain ⟨hs, hs2, hs3⟩ := he.skip hne
    rw [hs]
    have hgo : ∀ P, Goes toks names r.pos (P ++ [cOf true]) (r.pos + 1) (P ++ [cOf true, cOf true]) := fun P => goes_tok (s := [67, 67]) (by unfold isMid; decide) hne hx (by decide)
    rcases pair_sim hg op ⟨r.ins, r.nodes, r.outs, toks, r.pos + 1, r.ents⟩ (he.at' _ _ hs2) (by simp only; omega) with ⟨r1, k1, k2⟩ | ⟨m, m', x, y, a, b, p, q, k1, k2, k3, k4, k5, k6, k7, k8, k9⟩
    · left; exact ⟨r1, k1, fun P => (hgo P).fails (k2 P)⟩
    · right
      simp only at k1 k2 k5 k6 k7 k8 k9
      exact ⟨_, _, .two op a b, q, k1, by omega, k3, k4, .join _ _ _ _ _ _ h2 k5 k6, .two _ _ _ _ _ _ _ _ (by omega) k7 k8, fun P => (hgo P).trans (k9 P)⟩
  unfold condR
  rw [peek_atR, he.toks]
  by_cases h1 : atR toks r.pos = kLt
  · rw [if_pos h1]; exact hcmp 13 (by omega) (by rw [h1]; decide) (by rw [h1]; rfl) (by rw [h1]; decide)
  rw [if_neg h1]
  by_cases h2 : atR toks r.pos = kLe
  · rw [if_pos h2]; exact hcmp 14 (by omega) (by rw [h2]; decide) (by rw [h2]; rfl) (by rw [h2]; decide)
  rw [if_neg h2]
  by_cases h3 : atR toks r.pos = kEq
  · rw [if_pos h3]; exact hcmp 15 (by omega) (by rw [h3]; decide) (by rw [h3]; rfl) (by rw [h3]; decide)
  rw [if_neg h3]
  by_cases h4 : atR toks r.pos = kAnd
  · rw [if_pos h4]; exact hjoin 16 (by omega) (by rw [h4]; decide) (by rw [h4]; rfl) (by rw [h4]; decide)
  rw [if_neg h4]
  by_cases h5 : atR toks r.pos = kOr
  · rw [if_pos h5]; exact hjoin 17 (by omega) (by rw [h5]; decide) (by rw [h5]; rfl) (by rw [h5]; decide)
  rw [if_neg h5]
  by_cases h6 : atR toks r.pos = kNot
  · rw [if_pos h6]
    have hne : atR toks r.pos ≠ [] := by rw [h6]; decide
    obtain ⟨hs, hs2, hs3⟩ := he.skip hne
    rw [hs]
    have hgo : ∀ P, Goes toks names r.pos (P ++ [cOf true]) (r.pos + 1) (P ++ [cOf true]) := fun P => goes_tok (s := [67]) (by unfold isMid; decide) hne (by rw [h6]; rfl) (by decide)
    rcases one_sim hg (fun a => ⟨18, a, 0, 0, 0, []⟩) ⟨r.ins, r.nodes, r.outs, toks, r.pos + 1, r.ents⟩ (he.at' _ _ hs2) (by simp only; omega) with ⟨r1, k1, k2⟩ | ⟨m, x, a, q, k1, k2, k3, k4, k5, k6, k7⟩
    · left; exact ⟨r1, k1, fun P => (hgo P).fails (k2 P)⟩
    · right
      simp only at k1 k2 k5 k6 k7
      exact ⟨_, _, _, q, k1, by omega, k3, k4, .neg _ _ _ h6 k5, .neg _ _ _ _ k6, fun P => (hgo P).trans (k7 P)⟩
  rw [if_neg h6]
  left
  refine ⟨r, rfl, fun P => fails_tok (by unfold isMid; decide) he.pos ?_⟩
  show condD (atR toks r.pos) = []
  unfold condD
  rw [if_neg (by simp [h1, h2, h3]), if_neg (by simp [h4, h5]), if_neg h6]
theorem read_sim (hsp : ∀ t ∈ toks, NoSp t) (m : Nat) : ∀ tag, Rds toks names tag (read m tag) (600 - m) := by
  induction m with
  | zero =>
    intro tag r he hl
    have h0 : atR toks r.pos = [] := by unfold atR; rw [if_neg (by omega)]
    cases tag with
    | false => exact leaf_sim r he (by rw [h0]; rfl)
    | true =>
      left
      refine ⟨r, rfl, fun P => fails_tok (by unfold isMid; decide) he.pos ?_⟩
      rw [h0]; rfl
  | succ m ih =>
    intro tag
    cases tag with
    | false => exact expr_sim hsp (ih true) (ih false) _ (by omega)
    | true => exact cond_sim (ih true) (ih false) _ (by omega)
end
end Go.Proofs.YtfaljekgpnbmiaaGreat.Pl
