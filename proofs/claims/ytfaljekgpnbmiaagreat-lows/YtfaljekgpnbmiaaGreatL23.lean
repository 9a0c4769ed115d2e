/- Joined: Eq4. -/
import Derived.Test.YtfaljekgpnbmiaaGreatL22
/-
  A step and an out of the low form: the program reads them as the reference does.
-/
namespace Go.Proofs.YtfaljekgpnbmiaaGreat.Pl

/-- The nodes that a step lays whose arguments begin at token p. -/
def StepN (es : List (List UInt8 × Int × Int)) (nodes : List NodeM) (toks : List (List UInt8)) (p : Nat) (op : Int) (more : List NodeM) : Prop :=
  ((op = 2 ∨ op = 3 ∨ op = 13 ∨ op = 14 ∨ op = 15) ∧ ∃ a m b m', ArgN es nodes (atR toks p) a m ∧ ArgN es (nodes ++ m) (atR toks (p + 1)) b m' ∧ more = m ++ m' ++ [⟨op, a, b, 0, 0, []⟩]) ∨
  (op = 4 ∧ within (atR toks p) (-1000) 1000 = true ∧ ∃ a m, ArgN es nodes (atR toks (p + 1)) a m ∧ more = m ++ [⟨4, a, 0, 0, (number (atR toks p)).1, []⟩]) ∨
  (op = 8 ∧ within (atR toks (p + 1)) 1 1000000 = true ∧ ∃ a m, ArgN es nodes (atR toks p) a m ∧ more = m ++ [⟨8, a, 0, 0, (number (atR toks (p + 1))).1, []⟩]) ∨
  (op = 7 ∧ ∃ a m b m' d m'', FlagN es nodes (atR toks p) a m ∧ ArgN es (nodes ++ m) (atR toks (p + 1)) b m' ∧ ArgN es (nodes ++ m ++ m') (atR toks (p + 1 + 1)) d m'' ∧ more = m ++ m' ++ m'' ++ [⟨7, a, b, d, 0, []⟩]) ∨
  ((op = 16 ∨ op = 17) ∧ ∃ a m b m', FlagN es nodes (atR toks p) a m ∧ FlagN es (nodes ++ m) (atR toks (p + 1)) b m' ∧ more = m ++ m' ++ [⟨op, a, b, 0, 0, []⟩]) ∨
  (op = 18 ∧ ∃ a m, FlagN es nodes (atR toks p) a m ∧ more = m ++ [⟨18, a, 0, 0, 0, []⟩])
/-- The word, the operation and what is wanted belong together. -/
def WordOp (t : List UInt8) (op : Int) (ws : List UInt8) (k : UInt8) : Prop :=
  opOf t = some op ∧ formsR t = ws ++ [k] ∧
  (((op = 2 ∨ op = 3) ∧ ws = [65, 65] ∧ k = 118) ∨ (op = 4 ∧ ws = [75, 65] ∧ k = 118) ∨ (op = 8 ∧ ws = [65, 68] ∧ k = 118) ∨ (op = 7 ∧ ws = [70, 65, 65] ∧ k = 118) ∨
    ((op = 13 ∨ op = 14 ∨ op = 15) ∧ ws = [65, 65] ∧ k = 102) ∨ ((op = 16 ∨ op = 17) ∧ ws = [70, 70] ∧ k = 102) ∨ (op = 18 ∧ ws = [70] ∧ k = 102))
theorem wordOp_of (t : List UInt8) : (opOf t = none ∧ formsR t = []) ∨ ∃ op ws k, WordOp t op ws k := by
  by_cases h1 : t = kAdd
  · subst h1; exact .inr ⟨2, [65, 65], 118, by decide, by decide, by simp⟩
  by_cases h2 : t = kSub
  · subst h2; exact .inr ⟨3, [65, 65], 118, by decide, by decide, by simp⟩
  by_cases h3 : t = kMul
  · subst h3; exact .inr ⟨4, [75, 65], 118, by decide, by decide, by simp⟩
  by_cases h4 : t = kFlr
  · subst h4; exact .inr ⟨8, [65, 68], 118, by decide, by decide, by simp⟩
  by_cases h5 : t = kSel
  · subst h5; exact .inr ⟨7, [70, 65, 65], 118, by decide, by decide, by simp⟩
  by_cases h6 : t = kLt
  · subst h6; exact .inr ⟨13, [65, 65], 102, by decide, by decide, by simp⟩
  by_cases h7 : t = kLe
  · subst h7; exact .inr ⟨14, [65, 65], 102, by decide, by decide, by simp⟩
  by_cases h8 : t = kEq
  · subst h8; exact .inr ⟨15, [65, 65], 102, by decide, by decide, by simp⟩
  by_cases h9 : t = kAnd
  · subst h9; exact .inr ⟨16, [70, 70], 102, by decide, by decide, by simp⟩
  by_cases h10 : t = kOr
  · subst h10; exact .inr ⟨17, [70, 70], 102, by decide, by decide, by simp⟩
  by_cases h11 : t = kNot
  · subst h11; exact .inr ⟨18, [70], 102, by decide, by decide, by simp⟩
  left
  constructor
  · unfold opOf; rw [if_neg h1, if_neg h2, if_neg h3, if_neg h4, if_neg h5, if_neg h6, if_neg h7, if_neg h8, if_neg h9, if_neg h10, if_neg h11]
  · unfold formsR; simp [h1, h2, h3, h4, h5, h6, h7, h8, h9, h10, h11]
theorem result_eq {t : List UInt8} {op : Int} {ws : List UInt8} {k : UInt8} (hw : WordOp t op ws k) (names : List DeclM) (r : RdM) (hR : RelL names r.ents) (hN : NE r.ents) :
    (∃ q, badR r.toks names r.pos ws = some q ∧ (resultLR op r).1 = none ∧ (resultLR op r).2.pos = q) ∨
    (badR r.toks names r.pos ws = none ∧ atR r.toks (r.pos + ws.length - 1) ≠ [] ∧ ∃ more, StepN r.ents r.nodes r.toks r.pos op more ∧ more ≠ [] ∧
      resultLR op r = (some (((r.nodes ++ more).length : Int) - 1), ⟨r.ins, r.nodes ++ more, r.outs, r.toks, r.pos + ws.length, r.ents⟩)) := by
  obtain ⟨_, _, hw⟩ := hw
  have fin : ∀ (pre : List NodeM) (x : NodeM), (some ((r.nodes ++ pre).length : Int)) = some (((r.nodes ++ (pre ++ [x])).length : Int) - 1) := by
    intro pre x; simp; omega
  unfold resultLR
  rcases hw with ⟨ho, rfl, rfl⟩ | ⟨rfl, rfl, rfl⟩ | ⟨rfl, rfl, rfl⟩ | ⟨rfl, rfl, rfl⟩ | ⟨ho, rfl, rfl⟩ | ⟨ho, rfl, rfl⟩ | ⟨rfl, rfl, rfl⟩
  · rw [if_neg (by omega), if_neg (by omega), if_neg (by omega), if_neg (by omega), if_neg (by omega)]
    rcases pair_eq leaf_reads op names r hR hN with h | ⟨h1, hne, a, m, b, m', h2, h3, h4⟩
    · exact .inl h
    · refine .inr ⟨h1, hne, m ++ m' ++ [⟨op, a, b, 0, 0, []⟩], .inl ⟨by omega, a, m, b, m', h2, h3, rfl⟩, by simp, ?_⟩
      rw [h4, ← fin (m ++ m')]; simp
  · rw [if_pos rfl]
    rcases product_eq leaf_reads names r hR hN with h | ⟨h1, hne, hwi, a, m, h2, h4⟩
    · exact .inl h
    · refine .inr ⟨h1, hne, m ++ [⟨4, a, 0, 0, (number (atR r.toks r.pos)).1, []⟩], .inr (.inl ⟨rfl, hwi, a, m, h2, rfl⟩), by simp, ?_⟩
      rw [h4, ← fin m]; simp
  · rw [if_neg (by omega), if_pos rfl]
    rcases quot_eq names r hR hN with h | ⟨h1, hne, hwi, a, m, h2, h4⟩
    · exact .inl h
    · refine .inr ⟨h1, hne, m ++ [⟨8, a, 0, 0, (number (atR r.toks (r.pos + 1))).1, []⟩], .inr (.inr (.inl ⟨rfl, hwi, a, m, h2, rfl⟩)), by simp, ?_⟩
      rw [h4, ← fin m]; simp
  · rw [if_neg (by omega), if_neg (by omega), if_pos rfl]
    rcases choice_eq flag_reads leaf_reads names r hR hN with h | ⟨h1, hne, a, m, b, m', d, m'', h2, h3, h5, h4⟩
    · exact .inl h
    · refine .inr ⟨h1, hne, m ++ m' ++ m'' ++ [⟨7, a, b, d, 0, []⟩], .inr (.inr (.inr (.inl ⟨rfl, a, m, b, m', d, m'', h2, h3, h5, rfl⟩))), by simp, ?_⟩
      rw [h4, ← fin (m ++ m' ++ m'')]; simp
  · rw [if_neg (by omega), if_neg (by omega), if_neg (by omega), if_neg (by omega), if_neg (by omega)]
    rcases pair_eq leaf_reads op names r hR hN with h | ⟨h1, hne, a, m, b, m', h2, h3, h4⟩
    · exact .inl h
    · refine .inr ⟨h1, hne, m ++ m' ++ [⟨op, a, b, 0, 0, []⟩], .inl ⟨by omega, a, m, b, m', h2, h3, rfl⟩, by simp, ?_⟩
      rw [h4, ← fin (m ++ m')]; simp
  · rw [if_neg (by omega), if_neg (by omega), if_neg (by omega), if_pos ho]
    rcases pair_eq flag_reads op names r hR hN with h | ⟨h1, hne, a, m, b, m', h2, h3, h4⟩
    · exact .inl h
    · refine .inr ⟨h1, hne, m ++ m' ++ [⟨op, a, b, 0, 0, []⟩], .inr (.inr (.inr (.inr (.inl ⟨ho, a, m, b, m', h2, h3, rfl⟩)))), by simp, ?_⟩
      rw [h4, ← fin (m ++ m')]; simp
  · rw [if_neg (by omega), if_neg (by omega), if_neg (by omega), if_neg (by omega), if_pos rfl]
    rcases one_eq flag_reads (fun a => ⟨18, a, 0, 0, 0, []⟩) names r hR hN with h | ⟨h1, hne, a, m, h2, h4⟩
    · exact .inl h
    · refine .inr ⟨h1, hne, m ++ [⟨18, a, 0, 0, 0, []⟩], .inr (.inr (.inr (.inr (.inr ⟨rfl, a, m, h2, rfl⟩)))), by simp, ?_⟩
      rw [h4, ← fin m]; simp
theorem atR_lt {toks : List (List UInt8)} {i : Nat} (h : atR toks i ≠ []) : i < toks.length ∧ i < 600 := by
  unfold atR at h
  split at h
  · assumption
  · exact absurd rfl h
theorem kind_of_word {t : List UInt8} {op : Int} {ws : List UInt8} {k : UInt8} (hw : WordOp t op ws k) : KR k.toNat (kindOf op) ∧ k.toNat ≠ 105 ∧ k.toNat ≠ 111 ∧ 1 ≤ ws.length ∧ ws.length ≤ 3 := by
  obtain ⟨_, _, hw⟩ := hw
  rcases hw with ⟨ho | ho, rfl, rfl⟩ | ⟨rfl, rfl, rfl⟩ | ⟨rfl, rfl, rfl⟩ | ⟨rfl, rfl, rfl⟩ | ⟨ho | ho | ho, rfl, rfl⟩ | ⟨ho | ho, rfl, rfl⟩ | ⟨rfl, rfl, rfl⟩ <;> (try subst ho) <;> (unfold KR; decide)
theorem step_eq {names : List DeclM} {r : RdM} {i : Nat} (hR : RelL names r.ents) (hN : NE r.ents) (hp : r.pos = i + 1) :
    (∃ p, setD r.toks names i = .inr p ∧ (stepR r).1 = false ∧ (stepR r).2.pos = p) ∨
    (∃ op ws k more, WordOp (atR r.toks (i + 2)) op ws k ∧ StepN r.ents r.nodes r.toks (i + 3) op more ∧ more ≠ [] ∧ atR r.toks (i + 1) ≠ [] ∧ i + 3 + ws.length ≤ r.toks.length ∧ i + 3 + ws.length ≤ 600 ∧
      setD r.toks names i = .inl ⟨atR r.toks (i + 1), k.toNat, 0, 0, (i : Int) + 2⟩ ∧
      stepR r = (true, ⟨r.ins, r.nodes ++ more, r.outs, r.toks, i + 3 + ws.length, r.ents ++ [(atR r.toks (i + 1), kindOf op, ((r.nodes ++ more).length : Int) - 1)]⟩)) := by
  obtain ⟨ins, nodes, outs, toks, pos, ents⟩ := r
  simp only at hR hp hN ⊢
  subst hp
  have hnn := RelL.newName (r := ⟨ins, nodes, outs, toks, i + 1, ents⟩) hR
  simp only at hnn
  unfold setD stepR
  rw [hnn]
  cases hf : fresh names (atR toks (i + 1)) with
  | false => left; exact ⟨i + 1, by rw [if_pos rfl], by simp⟩
  | true =>
    have hne := hR.fresh_ne hf
    rw [if_neg (by simp), if_pos rfl]
    simp only
    have hs1 : RdM.skip ⟨ins, nodes, outs, toks, i + 1, ents⟩ = ⟨ins, nodes, outs, toks, i + 2, ents⟩ := skip_pos (by rw [peek_atR]; exact hne)
    rw [hs1, peek_atR]
    simp only
    rcases wordOp_of (atR toks (i + 2)) with ⟨h1, h2⟩ | ⟨op, ws, k, hw⟩
    · left; exact ⟨i + 2, by rw [if_pos h2], by rw [h1], by rw [h1]⟩
    · have hw0 := hw
      obtain ⟨ho, hfm, _⟩ := hw
      have hne2 : atR toks (i + 2) ≠ [] := opOf_some ho
      have hs2 : RdM.skip ⟨ins, nodes, outs, toks, i + 2, ents⟩ = ⟨ins, nodes, outs, toks, i + 3, ents⟩ := skip_pos (by rw [peek_atR]; exact hne2)
      rw [if_neg (by rw [hfm]; simp), ho, hfm]
      simp only
      rw [hs2, List.dropLast_concat]
      have hk := kind_of_word hw0
      rcases result_eq hw0 names ⟨ins, nodes, outs, toks, i + 3, ents⟩ hR hN with ⟨q, h3, h4, h5⟩ | ⟨h3, hne3, more, h4, hm, h5⟩
      · left
        simp only at h3
        refine ⟨q, by rw [h3], ?_⟩
        cases hres : resultLR op ⟨ins, nodes, outs, toks, i + 3, ents⟩ with
        | mk o r1 =>
          rw [hres] at h4 h5
          simp only at h4 h5
          subst h4
          exact ⟨rfl, h5⟩
      · right
        simp only at h3 h4 h5 hne3
        have hl := atR_lt hne3
        refine ⟨op, ws, k, more, hw0, h4, hm, hne, by omega, by omega, ?_, ?_⟩
        · rw [h3]; simp only [List.getLastD_concat]
        · rw [h5]; rfl
theorem out_eq {names : List DeclM} {r : RdM} {i : Nat} (hR : RelL names r.ents) (hN : NE r.ents) (hp : r.pos = i + 1) :
    (∃ p, outD r.toks names i = .inr p ∧ (outLR r).1 = false ∧ (outLR r).2.pos = p) ∨
    (∃ a m, ArgN r.ents r.nodes (atR r.toks (i + 2)) a m ∧ atR r.toks (i + 1) ≠ [] ∧ i + 3 ≤ r.toks.length ∧ i + 3 ≤ 600 ∧
      outD r.toks names i = .inl ⟨atR r.toks (i + 1), 111, 0, 0, (i : Int) + 2⟩ ∧
      outLR r = (true, ⟨r.ins, r.nodes ++ m, r.outs ++ [a], r.toks, i + 3, r.ents ++ [(atR r.toks (i + 1), 2, a)]⟩)) := by
  obtain ⟨ins, nodes, outs, toks, pos, ents⟩ := r
  simp only at hR hp hN ⊢
  subst hp
  have hnn := RelL.newName (r := ⟨ins, nodes, outs, toks, i + 1, ents⟩) hR
  simp only at hnn
  unfold outD outLR
  rw [hnn]
  cases hf : fresh names (atR toks (i + 1)) with
  | false => left; exact ⟨i + 1, by rw [if_pos rfl], by simp⟩
  | true =>
    have hne := hR.fresh_ne hf
    rw [if_neg (by simp), if_pos rfl]
    simp only
    have hs1 : RdM.skip ⟨ins, nodes, outs, toks, i + 1, ents⟩ = ⟨ins, nodes, outs, toks, i + 2, ents⟩ := skip_pos (by rw [peek_atR]; exact hne)
    rw [hs1]
    rcases leaf_reads names ⟨ins, nodes, outs, toks, i + 2, ents⟩ hR hN with ⟨h1, h2⟩ | ⟨h1, hne2, a, m, h2, h3⟩
    · left
      simp only at h1
      refine ⟨i + 2, by unfold badR; rw [if_neg (by simp [h1])], ?_⟩
      rw [h2]; exact ⟨rfl, rfl⟩
    · right
      simp only at h1 h2 h3 hne2
      have hl := atR_lt hne2
      refine ⟨a, m, h2, hne, by omega, by omega, by unfold badR; rw [if_pos h1]; rfl, ?_⟩
      rw [h3]; rfl

end Go.Proofs.YtfaljekgpnbmiaaGreat.Pl
