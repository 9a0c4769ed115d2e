/- Joined: Eq4 Eq5 Ref13. -/
import Derived.Test.YtcgkndfnhjcdnaaGreatJ20
/-
  A step and an out of the low form: the program reads them as the reference does.
-/
namespace Go.Proofs.YtcgkndfnhjcdnaaGreat.Pl

/-- The nodes that a step lays whose arguments begin at token p. -/
def StepN (es : List (List UInt8 × Int × Int)) (nodes : List NodeM) (toks : List (List UInt8)) (p : Nat) (op : Int) (more : List NodeM) : Prop :=
  ((op = 2 ∨ op = 3 ∨ op = 13 ∨ op = 14 ∨ op = 15) ∧ ∃ a m b m', ArgN es nodes (atR toks p) a m ∧ ArgN es (nodes ++ m) (atR toks (p + 1)) b m' ∧ more = m ++ m' ++ [⟨op, a, b, 0, 0, []⟩]) ∨
  (op = 4 ∧ within (atR toks p) (-1000) 1000 = true ∧ ∃ a m, ArgN es nodes (atR toks (p + 1)) a m ∧ more = m ++ [⟨4, a, 0, 0, (number (atR toks p)).1, []⟩]) ∨
  (op = 8 ∧ within (atR toks (p + 1)) 1 1000000 = true ∧ ∃ a m, ArgN es nodes (atR toks p) a m ∧ more = m ++ [⟨8, a, 0, 0, (number (atR toks (p + 1))).1, []⟩]) ∨
  (op = 7 ∧ ∃ a m b m' d m'', FlagN es nodes (atR toks p) a m ∧ ArgN es (nodes ++ m) (atR toks (p + 1)) b m' ∧ ArgN es (nodes ++ m ++ m') (atR toks (p + 1 + 1)) d m'' ∧ more = m ++ m' ++ m'' ++ [⟨7, a, b, d, 0, []⟩]) ∨
  ((op = 16 ∨ op = 17) ∧ ∃ a m b m', FlagN es nodes (atR toks p) a m ∧ FlagN es (nodes ++ m) (atR toks (p + 1)) b m' ∧ more = m ++ m' ++ [⟨op, a, b, 0, 0, []⟩]) ∨
  (op = 18 ∧ ∃ a m, FlagN es nodes (atR toks p) a m ∧ more = m ++ [⟨18, a, 0, 0, 0, []⟩])
/-- The word, the operation and what is wanted belong together. -/
def WordOp (t : List UInt8) (op : Int) (ws : List UInt8) (k : UInt8) : Prop :=
  opOf t = some op ∧ formsR t = ws ++ [k] ∧
  (((op = 2 ∨ op = 3) ∧ ws = [65, 65] ∧ k = 118) ∨ (op = 4 ∧ ws = [75, 65] ∧ k = 118) ∨ (op = 8 ∧ ws = [65, 68] ∧ k = 118) ∨ (op = 7 ∧ ws = [70, 65, 65] ∧ k = 118) ∨
    ((op = 13 ∨ op = 14 ∨ op = 15) ∧ ws = [65, 65] ∧ k = 102) ∨ ((op = 16 ∨ op = 17) ∧ ws = [70, 70] ∧ k = 102) ∨ (op = 18 ∧ ws = [70] ∧ k = 102))
theorem wordOp_of (t : List UInt8) : (opOf t = none ∧ formsR t = []) ∨ ∃ op ws k, WordOp t op ws k := by
  by_cases h1 : t = kAdd
  · subst h1; exact .inr ⟨2, [65, 65], 118, by decide, by decide, by simp⟩
  by_cases h2 : t = kSub
  · subst h2; exact .inr ⟨3, [65, 65], 118, by decide, by decide, by simp⟩
  by_cases h3 : t = kMul
  · subst h3; exact .inr ⟨4, [75, 65], 118, by decide, by decide, by simp⟩
  by_cases h4 : t = kFlr
  · subst h4; exact .inr ⟨8, [65, 68], 118, by decide, by decide, by simp⟩
  by_cases h5 : t = kSel
  · subst h5; exact .inr ⟨7, [70, 65, 65], 118, by decide, by decide, by simp⟩
  by_cases h6 : t = kLt
  · subst h6; exact .inr ⟨13, [65, 65], 102, by decide, by decide, by simp⟩
  by_cases h7 : t = kLe
  · subst h7; exact .inr ⟨14, [65, 65], 102, by decide, by decide, by simp⟩
  by_cases h8 : t = kEq
  · subst h8; exact .inr ⟨15, [65, 65], 102, by decide, by decide, by simp⟩
  by_cases h9 : t = kAnd
  · subst h9; exact .inr ⟨16, [70, 70], 102, by decide, by decide, by simp⟩
  by_cases h10 : t = kOr
  · subst h10; exact .inr ⟨17, [70, 70], 102, by decide, by decide, by simp⟩
  by_cases h11 : t = kNot
  · subst h11; exact .inr ⟨18, [70], 102, by decide, by decide, by simp⟩
  left
  constructor
  · unfold opOf; rw [if_neg h1, if_neg h2, if_neg h3, if_neg h4, if_neg h5, if_neg h6, if_neg h7, if_neg h8, if_neg h9, if_neg h10, if_neg h11]
  · unfold formsR; simp [h1, h2, h3, h4, h5, h6, h7, h8, h9, h10, h11]
theorem result_eq {t : List UInt8} {op : Int} {ws : List UInt8} {k : UInt8} (hw : WordOp t op ws k) (names : List DeclM) (r : RdM) (hR : RelL names r.ents) (hN : NE r.ents) :
    (∃ q, badR r.toks names r.pos ws = some q ∧ (resultLR op r).1 = none ∧ (resultLR op r).2.pos = q) ∨
    (badR r.toks names r.pos ws = none ∧ atR r.toks (r.pos + ws.length - 1) ≠ [] ∧ ∃ more, StepN r.ents r.nodes r.toks r.pos op more ∧ more ≠ [] ∧
      resultLR op r = (some (((r.nodes ++ more).length : Int) - 1), ⟨r.ins, r.nodes ++ more, r.outs, r.toks, r.pos + ws.length, r.ents⟩)) := by
  obtain ⟨_, _, hw⟩ := hw
  have fin : ∀ (pre : List NodeM) (x : NodeM), (some ((r.nodes ++ pre).length : Int)) = some (((r.nodes ++ (pre ++ [x])).length : Int) - 1) := by
    intro pre x; simp; omega
  unfold resultLR
  rcases hw with ⟨ho, rfl, rfl⟩ | ⟨rfl, rfl, rfl⟩ | ⟨rfl, rfl, rfl⟩ | ⟨rfl, rfl, rfl⟩ | ⟨ho, rfl, rfl⟩ | ⟨ho, rfl, rfl⟩ | ⟨rfl, rfl, rfl⟩
  · rw [if_neg (by omega), if_neg (by omega), if_neg (by omega), if_neg (by omega), if_neg (by omega)]
    rcases pair_eq leaf_reads op names r hR hN with h | ⟨h1, hne, a, m, b, m', h2, h3, h4⟩
    · exact .inl h
    · refine .inr ⟨h1, hne, m ++ m' ++ [⟨op, a, b, 0, 0, []⟩], .inl ⟨by omega, a, m, b, m', h2, h3, rfl⟩, by simp, ?_⟩
      rw [h4, ← fin (m ++ m')]; simp
  · rw [if_pos rfl]
    rcases product_eq leaf_reads names r hR hN with h | ⟨h1, hne, hwi, a, m, h2, h4⟩
    · exact .inl h
    · refine .inr ⟨h1, hne, m ++ [⟨4, a, 0, 0, (number (atR r.toks r.pos)).1, []⟩], .inr (.inl ⟨rfl, hwi, a, m, h2, rfl⟩), by simp, ?_⟩
      rw [h4, ← fin m]; simp
  · rw [if_neg (by omega), if_pos rfl]
    rcases quot_eq names r hR hN with h | ⟨h1, hne, hwi, a, m, h2, h4⟩
    · exact .inl h
    · refine .inr ⟨h1, hne, m ++ [⟨8, a, 0, 0, (number (atR r.toks (r.pos + 1))).1, []⟩], .inr (.inr (.inl ⟨rfl, hwi, a, m, h2, rfl⟩)), by simp, ?_⟩
      rw [h4, ← fin m]; simp
  · rw [if_neg (by omega), if_neg (by omega), if_pos rfl]
    rcases choice_eq flag_reads leaf_reads names r hR hN with h | ⟨h1, hne, a, m, b, m', d, m'', h2, h3, h5, h4⟩
    · exact .inl h
    · refine .inr ⟨h1, hne, m ++ m' ++ m'' ++ [⟨7, a, b, d, 0, []⟩], .inr (.inr (.inr (.inl ⟨rfl, a, m, b, m', d, m'', h2, h3, h5, rfl⟩))), by simp, ?_⟩
      rw [h4, ← fin (m ++ m' ++ m'')]; simp
  · rw [if_neg (by omega), if_neg (by omega), if_neg (by omega), if_neg (by omega), if_neg (by omega)]
    rcases pair_eq leaf_reads op names r hR hN with h | ⟨h1, hne, a, m, b, m', h2, h3, h4⟩
    · exact .inl h
    · refine .inr ⟨h1, hne, m ++ m' ++ [⟨op, a, b, 0, 0, []⟩], .inl ⟨by omega, a, m, b, m', h2, h3, rfl⟩, by simp, ?_⟩
      rw [h4, ← fin (m ++ m')]; simp
  · rw [if_neg (by omega), if_neg (by omega), if_neg (by omega), if_pos ho]
    rcases pair_eq flag_reads op names r hR hN with h | ⟨h1, hne, a, m, b, m', h2, h3, h4⟩
    · exact .inl h
    · refine .inr ⟨h1, hne, m ++ m' ++ [⟨op, a, b, 0, 0, []⟩], .inr (.inr (.inr (.inr (.inl ⟨ho, a, m, b, m', h2, h3, rfl⟩)))), by simp, ?_⟩
      rw [h4, ← fin (m ++ m')]; simp
  · rw [if_neg (by omega), if_neg (by omega), if_neg (by omega), if_neg (by omega), if_pos rfl]
    rcases one_eq flag_reads (fun a => ⟨18, a, 0, 0, 0, []⟩) names r hR hN with h | ⟨h1, hne, a, m, h2, h4⟩
    · exact .inl h
    · refine .inr ⟨h1, hne, m ++ [⟨18, a, 0, 0, 0, []⟩], .inr (.inr (.inr (.inr (.inr ⟨rfl, a, m, h2, rfl⟩)))), by simp, ?_⟩
      rw [h4, ← fin m]; simp
theorem atR_lt {toks : List (List UInt8)} {i : Nat} (h : atR toks i ≠ []) : i < toks.length ∧ i < 600 := by
  unfold atR at h
  split at h
  · assumption
  · exact absurd rfl h
theorem kind_of_word {t : List UInt8} {op : Int} {ws : List UInt8} {k : UInt8} (hw : WordOp t op ws k) : KR k.toNat (kindOf op) ∧ k.toNat ≠ 105 ∧ k.toNat ≠ 111 ∧ 1 ≤ ws.length ∧ ws.length ≤ 3 := by
  obtain ⟨_, _, hw⟩ := hw
  rcases hw with ⟨ho | ho, rfl, rfl⟩ | ⟨rfl, rfl, rfl⟩ | ⟨rfl, rfl, rfl⟩ | ⟨rfl, rfl, rfl⟩ | ⟨ho | ho | ho, rfl, rfl⟩ | ⟨ho | ho, rfl, rfl⟩ | ⟨rfl, rfl, rfl⟩ <;> (try subst ho) <;> (unfold KR; decide)
theorem step_eq {names : List DeclM} {r : RdM} {i : Nat} (hR : RelL names r.ents) (hN : NE r.ents) (hp : r.pos = i + 1) :
    (∃ p, setD r.toks names i = .inr p ∧ (stepR r).1 = false ∧ (stepR r).2.pos = p) ∨
    (∃ op ws k more, WordOp (atR r.toks (i + 2)) op ws k ∧ StepN r.ents r.nodes r.toks (i + 3) op more ∧ more ≠ [] ∧ atR r.toks (i + 1) ≠ [] ∧ i + 3 + ws.length ≤ r.toks.length ∧ i + 3 + ws.length ≤ 600 ∧
      setD r.toks names i = .inl ⟨atR r.toks (i + 1), k.toNat, 0, 0, (i : Int) + 2⟩ ∧
      stepR r = (true, ⟨r.ins, r.nodes ++ more, r.outs, r.toks, i + 3 + ws.length, r.ents ++ [(atR r.toks (i + 1), kindOf op, ((r.nodes ++ more).length : Int) - 1)]⟩)) := by
  obtain ⟨ins, nodes, outs, toks, pos, ents⟩ := r
  simp only at hR hp hN ⊢
  subst hp
  have hnn := RelL.newName (r := ⟨ins, nodes, outs, toks, i + 1, ents⟩) hR
  simp only at hnn
  unfold setD stepR
  rw [hnn]
  cases hf : fresh names (atR toks (i + 1)) with
  | false => left; exact ⟨i + 1, by rw [if_pos rfl], by simp⟩
  | true =>
    have hne := hR.fresh_ne hf
    rw [if_neg (by simp), if_pos rfl]
    simp only
    have hs1 : RdM.skip ⟨ins, nodes, outs, toks, i + 1, ents⟩ = ⟨ins, nodes, outs, toks, i + 2, ents⟩ := skip_pos (by rw [peek_atR]; exact hne)
    rw [hs1, peek_atR]
    simp only
    rcases wordOp_of (atR toks (i + 2)) with ⟨h1, h2⟩ | ⟨op, ws, k, hw⟩
    · left; exact ⟨i + 2, by rw [if_pos h2], by rw [h1], by rw [h1]⟩
    · have hw0 := hw
      obtain ⟨ho, hfm, _⟩ := hw
      have hne2 : atR toks (i + 2) ≠ [] := opOf_some ho
      have hs2 : RdM.skip ⟨ins, nodes, outs, toks, i + 2, ents⟩ = ⟨ins, nodes, outs, toks, i + 3, ents⟩ := skip_pos (by rw [peek_atR]; exact hne2)
      rw [if_neg (by rw [hfm]; simp), ho, hfm]
      simp only
      rw [hs2, List.dropLast_concat]
      have hk := kind_of_word hw0
      rcases result_eq hw0 names ⟨ins, nodes, outs, toks, i + 3, ents⟩ hR hN with ⟨q, h3, h4, h5⟩ | ⟨h3, hne3, more, h4, hm, h5⟩
      · left
        simp only at h3
        refine ⟨q, by rw [h3], ?_⟩
        cases hres : resultLR op ⟨ins, nodes, outs, toks, i + 3, ents⟩ with
        | mk o r1 =>
          rw [hres] at h4 h5
          simp only at h4 h5
          subst h4
          exact ⟨rfl, h5⟩
      · right
        simp only at h3 h4 h5 hne3
        have hl := atR_lt hne3
        refine ⟨op, ws, k, more, hw0, h4, hm, hne, by omega, by omega, ?_, ?_⟩
        · rw [h3]; simp only [List.getLastD_concat]
        · rw [h5]; rfl
theorem out_eq {names : List DeclM} {r : RdM} {i : Nat} (hR : RelL names r.ents) (hN : NE r.ents) (hp : r.pos = i + 1) :
    (∃ p, outD r.toks names i = .inr p ∧ (outLR r).1 = false ∧ (outLR r).2.pos = p) ∨
    (∃ a m, ArgN r.ents r.nodes (atR r.toks (i + 2)) a m ∧ atR r.toks (i + 1) ≠ [] ∧ i + 3 ≤ r.toks.length ∧ i + 3 ≤ 600 ∧
      outD r.toks names i = .inl ⟨atR r.toks (i + 1), 111, 0, 0, (i : Int) + 2⟩ ∧
      outLR r = (true, ⟨r.ins, r.nodes ++ m, r.outs ++ [a], r.toks, i + 3, r.ents ++ [(atR r.toks (i + 1), 2, a)]⟩)) := by
  obtain ⟨ins, nodes, outs, toks, pos, ents⟩ := r
  simp only at hR hp hN ⊢
  subst hp
  have hnn := RelL.newName (r := ⟨ins, nodes, outs, toks, i + 1, ents⟩) hR
  simp only at hnn
  unfold outD outLR
  rw [hnn]
  cases hf : fresh names (atR toks (i + 1)) with
  | false => left; exact ⟨i + 1, by rw [if_pos rfl], by simp⟩
  | true =>
    have hne := hR.fresh_ne hf
    rw [if_neg (by simp), if_pos rfl]
    simp only
    have hs1 : RdM.skip ⟨ins, nodes, outs, toks, i + 1, ents⟩ = ⟨ins, nodes, outs, toks, i + 2, ents⟩ := skip_pos (by rw [peek_atR]; exact hne)
    rw [hs1]
    rcases leaf_reads names ⟨ins, nodes, outs, toks, i + 2, ents⟩ hR hN with ⟨h1, h2⟩ | ⟨h1, hne2, a, m, h2, h3⟩
    · left
      simp only at h1
      refine ⟨i + 2, by unfold badR; rw [if_neg (by simp [h1])], ?_⟩
      rw [h2]; exact ⟨rfl, rfl⟩
    · right
      simp only at h1 h2 h3 hne2
      have hl := atR_lt hne2
      refine ⟨a, m, h2, hne, by omega, by omega, by unfold badR; rw [if_pos h1]; rfl, ?_⟩
      rw [h3]; rfl

end Go.Proofs.YtcgkndfnhjcdnaaGreat.Pl

/-
  The whole text of the low form: the program's three loops against the reference's one.
-/
namespace Go.Proofs.YtcgkndfnhjcdnaaGreat.Pl

/-- How names and nodes came to be, declaration by declaration. -/
inductive Built (toks : List (List UInt8)) : List DeclM → RdM → Prop
  | start : Built toks [] ⟨[], [], [], toks, 0, []⟩
  | input {names : List DeclM} {r : RdM} (h : Built toks names r) (d : DeclM) (i : Nat) (hk : d.kind = 105) (hn : names.length = r.ins.length) (h1 : -1000000000 ≤ d.lo) (h2 : d.lo ≤ d.hi) (h3 : d.hi ≤ 1000000000) (hne : d.name ≠ []) (hfr : fresh names d.name = true) :
      Built toks (names ++ [d]) ⟨r.ins ++ [(d.lo, d.hi)], r.nodes ++ [⟨1, 0, 0, 0, r.ins.length, []⟩], r.outs, toks, i + 4, r.ents ++ [(d.name, 0, (r.nodes.length : Int))]⟩
  | step {names : List DeclM} {r : RdM} (h : Built toks names r) (i : Nat) (op : Int) (ws : List UInt8) (k : UInt8) (more : List NodeM) (name : List UInt8) (hw : WordOp (atR toks (i + 2)) op ws k) (hs : StepN r.ents r.nodes toks (i + 3) op more) (hm : more ≠ []) (hne : name ≠ []) (hl : i + 3 + ws.length ≤ toks.length) (hl6 : i + 3 + ws.length ≤ 600) (hfr : fresh names name = true) :
      Built toks (names ++ [⟨name, k.toNat, 0, 0, (i : Int) + 2⟩]) ⟨r.ins, r.nodes ++ more, r.outs, toks, i + 3 + ws.length, r.ents ++ [(name, kindOf op, ((r.nodes ++ more).length : Int) - 1)]⟩
  | out {names : List DeclM} {r : RdM} (h : Built toks names r) (i : Nat) (a : Int) (m : List NodeM) (name : List UInt8) (ha : ArgN r.ents r.nodes (atR toks (i + 2)) a m) (hne : name ≠ []) (hl : i + 3 ≤ toks.length) (hl6 : i + 3 ≤ 600) (hfr : fresh names name = true) :
      Built toks (names ++ [⟨name, 111, 0, 0, (i : Int) + 2⟩]) ⟨r.ins, r.nodes ++ m, r.outs ++ [a], toks, i + 3, r.ents ++ [(name, 2, a)]⟩
theorem Built.rel {toks : List (List UInt8)} {names : List DeclM} {r : RdM} (h : Built toks names r) : RelL names r.ents ∧ NE r.ents ∧ r.toks = toks := by
  have ne : ∀ {es : List (List UInt8 × Int × Int)} {n : List UInt8} {k a : Int}, NE es → n ≠ [] → NE (es ++ [(n, k, a)]) := by
    intro es n k a h1 h2 e he
    rcases List.mem_append.1 he with he | he
    · exact h1 e he
    · rw [List.mem_singleton] at he; subst he; exact h2
  induction h with
  | start => exact ⟨trivial, fun e he => by simp at he, rfl⟩
  | input h d i hk hn h1 h2 h3 hne hfr ih => exact ⟨ih.1.snoc _ _ rfl (.inl ⟨.inl hk, rfl⟩), ne ih.2.1 hne, rfl⟩
  | step h i op ws k more name hw hs hm hne hl hl6 hfr ih => exact ⟨ih.1.snoc _ _ rfl (kind_of_word hw).1, ne ih.2.1 hne, rfl⟩
  | out h i a m name ha hne hl hl6 hfr ih => exact ⟨ih.1.snoc _ _ rfl (.inr (.inr ⟨rfl, rfl⟩)), ne ih.2.1 hne, rfl⟩
theorem countD_snoc (names : List DeclM) (d : DeclM) (k : Nat) : countD (names ++ [d]) k = countD names k + (if d.kind = k then 1 else 0) := by
  induction names with
  | nil => simp [countD]
  | cons e names ih => rw [List.cons_append, countD, countD, ih]; omega
theorem lowD_in {toks : List (List UInt8)} {f : Nat} {names : List DeclM} {i : Nat} (hi : i < toks.length) : lowD toks (f + 1) names i = match declaredD toks names i with | .inr p => .inr p | .inl d => lowD toks f (names ++ [d]) (i + longD toks d) := by
  rw [lowD, if_pos hi]; cases declaredD toks names i <;> rfl
theorem lowD_end {toks : List (List UInt8)} {f : Nat} {names : List DeclM} {i : Nat} (hi : ¬ i < toks.length) : lowD toks (f + 1) names i = if countD names 111 = 0 then .inr i else .inl names := by
  rw [lowD, if_neg hi]
theorem input_fresh {toks : List (List UInt8)} {names : List DeclM} {i : Nat} {d : DeclM} (h : inputD toks names i = .inl d) : fresh names d.name = true := by
  unfold inputD at h
  split at h
  · cases h
  rename_i hf
  split at h
  · cases h
  split at h
  · cases h
  cases h; simpa using hf
theorem set_fresh {toks : List (List UInt8)} {names : List DeclM} {i : Nat} {d : DeclM} (h : setD toks names i = .inl d) : fresh names d.name = true := by
  unfold setD at h
  split at h
  · cases h
  rename_i hf
  split at h
  · cases h
  split at h
  · cases h
  cases h; simpa using hf
theorem out_fresh {toks : List (List UInt8)} {names : List DeclM} {i : Nat} {d : DeclM} (h : outD toks names i = .inl d) : fresh names d.name = true := by
  unfold outD at h
  split at h
  · cases h
  rename_i hf
  split at h
  · cases h
  cases h; simpa using hf

theorem inputs_eq (toks : List (List UInt8)) (n : Nat) : ∀ (names : List DeclM) (r : RdM) (f : Nat), Built toks names r → names.length = countD names 105 → names.length = r.ins.length → countD names 111 = 0 → names.length + n = 4 → toks.length - r.pos < f →
    (∃ p, lowD toks f names r.pos = .inr p ∧ (inputsR n (decide (0 < names.length)) r).1 = false ∧ (inputsR n (decide (0 < names.length)) r).2.pos = p) ∨
    (∃ names' r' f', inputsR n (decide (0 < names.length)) r = (true, r') ∧ Built toks names' r' ∧ names'.length = countD names' 105 ∧ countD names' 111 = 0 ∧ 1 ≤ names'.length ∧ names'.length ≤ 4 ∧ lowD toks f names r.pos = lowD toks f' names' r'.pos ∧ toks.length - r'.pos < f' ∧ (atR toks r'.pos ≠ kIn ∨ names'.length = 4)) := by
  induction n with
  | zero =>
    intro names r f hB hc hi ho hn hf
    right
    exact ⟨names, r, f, rfl, hB, hc, ho, by omega, by omega, rfl, hf, .inr (by omega)⟩
  | succ n ih =>
    intro names r f hB hc hi ho hn hf
    obtain ⟨hR, hN, ht⟩ := hB.rel
    obtain ⟨f, rfl⟩ : ∃ f', f = f' + 1 := ⟨f - 1, by omega⟩
    rw [inputsR, peek_atR, ht]
    by_cases hin : atR toks r.pos = kIn
    · have hne : atR toks r.pos ≠ [] := by rw [hin]; decide
      have hlt := atR_lt hne
      rw [if_pos hin]
      have hsk : r.skip = ⟨r.ins, r.nodes, r.outs, r.toks, r.pos + 1, r.ents⟩ := skip_pos (by rw [peek_atR, ht]; exact hne)
      rw [hsk]
      have hdec : declaredD toks names r.pos = inputD toks names r.pos := by unfold declaredD; rw [if_pos ⟨hin, by omega, ho, by omega⟩]
      rw [lowD_in hlt.1, hdec]
      rcases input_eq (names := names) (r := ⟨r.ins, r.nodes, r.outs, r.toks, r.pos + 1, r.ents⟩) (i := r.pos) hR rfl with ⟨p, h1, h2, h3⟩ | ⟨d, h1, hk, hdn, _, hd1, hd2, hd3, hl6, hl, h2⟩
      · left
        simp only [ht] at h1 h2 h3
        refine ⟨p, by rw [h1], ?_⟩
        cases hq : inputR ⟨r.ins, r.nodes, r.outs, toks, r.pos + 1, r.ents⟩ with
        | mk o r1 =>
          rw [hq] at h2 h3
          simp only at h2 h3
          subst h2
          rw [ht, hq]
          exact ⟨rfl, h3⟩
      · simp only [ht] at h1 h2 hl
        rw [ht, h1, h2]
        simp only
        have hlong : longD toks d = 4 := by unfold longD; rw [if_pos hk]
        rw [hlong]
        have hB' := Built.input hB d r.pos hk hi hd1 hd2 hd3 hdn (input_fresh h1)
        have hany : decide (0 < (names ++ [d]).length) = true := by simp
        have := ih (names ++ [d]) _ f hB' (by rw [countD_snoc, if_pos hk, List.length_append]; simp; omega) (by simp; omega) (by rw [countD_snoc, if_neg (by omega)]; omega) (by simp; omega) (by simp only; omega)
        rw [hany] at this
        exact this
    · rw [if_neg hin]
      by_cases h0 : 0 < names.length
      · right
        rw [decide_eq_true h0]
        exact ⟨names, r, f + 1, rfl, hB, hc, ho, h0, by omega, rfl, hf, .inl hin⟩
      · left
        rw [decide_eq_false h0]
        refine ⟨r.pos, ?_, rfl, rfl⟩
        by_cases hlt : r.pos < toks.length
        · have hdec : declaredD toks names r.pos = .inr r.pos := by unfold declaredD; rw [if_neg (fun h => hin h.1), if_neg (by omega), if_neg (by omega)]
          rw [lowD_in hlt, hdec]
        · rw [lowD_end hlt, if_pos ho]

theorem steps_eq (toks : List (List UInt8)) (c : Nat) (hc1 : 1 ≤ c) (n : Nat) : ∀ (names : List DeclM) (r : RdM) (f : Nat), Built toks names r → countD names 105 = c → countD names 111 = 0 → c ≤ names.length → names.length + n = c + 80 → toks.length - r.pos < f → (names.length = c → atR toks r.pos ≠ kIn ∨ c = 4) →
    (∃ p, lowD toks f names r.pos = .inr p ∧ (stepsR n r).1 = false ∧ (stepsR n r).2.pos = p) ∨
    (∃ names' r' f', stepsR n r = (true, r') ∧ Built toks names' r' ∧ countD names' 105 = c ∧ countD names' 111 = 0 ∧ c ≤ names'.length ∧ names'.length ≤ c + 80 ∧ lowD toks f names r.pos = lowD toks f' names' r'.pos ∧ toks.length - r'.pos < f' ∧ (names'.length = c → atR toks r'.pos ≠ kIn ∨ c = 4) ∧ (atR toks r'.pos ≠ kSet ∨ names'.length = c + 80)) := by
  induction n with
  | zero =>
    intro names r f hB hc ho hcl hn hf hin
    right
    exact ⟨names, r, f, rfl, hB, hc, ho, hcl, by omega, rfl, hf, hin, .inr (by omega)⟩
  | succ n ih =>
    intro names r f hB hc ho hcl hn hf hin
    obtain ⟨hR, hN, ht⟩ := hB.rel
    obtain ⟨f, rfl⟩ : ∃ f', f = f' + 1 := ⟨f - 1, by omega⟩
    rw [stepsR, peek_atR, ht]
    by_cases hse : atR toks r.pos = kSet
    · have hne : atR toks r.pos ≠ [] := by rw [hse]; decide
      have hlt := atR_lt hne
      rw [if_pos hse]
      have hsk : r.skip = ⟨r.ins, r.nodes, r.outs, r.toks, r.pos + 1, r.ents⟩ := skip_pos (by rw [peek_atR, ht]; exact hne)
      rw [hsk]
      have hdec : declaredD toks names r.pos = setD toks names r.pos := by
        unfold declaredD
        rw [if_neg (fun h => by rw [hse] at h; exact absurd h.1 (by decide)), if_pos ⟨hse, by omega, ho, by omega⟩]
      rw [lowD_in hlt.1, hdec]
      rcases step_eq (names := names) (r := ⟨r.ins, r.nodes, r.outs, r.toks, r.pos + 1, r.ents⟩) (i := r.pos) hR hN rfl with ⟨p, h1, h2, h3⟩ | ⟨op, ws, k, more, hw, hs, hm, hnn, hl, hl6, h1, h2⟩
      · left
        simp only [ht] at h1 h2 h3
        refine ⟨p, by rw [h1], ?_⟩
        cases hq : stepR ⟨r.ins, r.nodes, r.outs, toks, r.pos + 1, r.ents⟩ with
        | mk o r1 =>
          rw [hq] at h2 h3
          simp only at h2 h3
          subst h2
          rw [ht, hq]
          exact ⟨rfl, h3⟩
      · simp only [ht] at h1 h2 hl hw hs hnn
        have hkw := kind_of_word hw
        rw [ht, h1, h2]
        simp only
        have hpos : ((r.pos : Int) + 2).toNat = r.pos + 2 := by omega
        have hg : toks.getD (r.pos + 2) [] = atR toks (r.pos + 2) := by unfold atR; rw [if_pos (by omega)]
        have hlong : longD toks ⟨atR toks (r.pos + 1), k.toNat, 0, 0, (r.pos : Int) + 2⟩ = 3 + ws.length := by
          unfold longD
          rw [if_neg hkw.2.1, if_neg hkw.2.2.1, hpos, hg, hw.2.1]
          simp; omega
        rw [hlong, show r.pos + (3 + ws.length) = r.pos + 3 + ws.length by omega]
        have hB' := Built.step hB r.pos op ws k more _ hw hs hm hnn hl hl6 (set_fresh h1)
        have h105 : k.toNat ≠ 105 := hkw.2.1
        have h111 : k.toNat ≠ 111 := hkw.2.2.1
        exact ih _ _ f hB' (by rw [countD_snoc, if_neg h105]; omega) (by rw [countD_snoc, if_neg h111]; omega) (by simp; omega) (by simp; omega) (by simp only; omega) (by intro hh; simp at hh; omega)
    · rw [if_neg hse]
      right
      exact ⟨names, r, f + 1, rfl, hB, hc, ho, hcl, by omega, rfl, hf, hin, .inl hse⟩

theorem outs_eq (toks : List (List UInt8)) (c s : Nat) (hc1 : 1 ≤ c) (n : Nat) : ∀ (names : List DeclM) (r : RdM) (f o : Nat), Built toks names r → countD names 105 = c → countD names 111 = o → names.length = c + s + o → o + n = 4 → toks.length - r.pos < f → (o = 0 → (s = 0 → atR toks r.pos ≠ kIn ∨ c = 4) ∧ (atR toks r.pos ≠ kSet ∨ s = 80)) →
    (∃ p, lowD toks f names r.pos = .inr p ∧ (outsLR n (decide (0 < o)) r).1 = false ∧ (outsLR n (decide (0 < o)) r).2.pos = p) ∨
    (∃ names' r', lowD toks f names r.pos = .inl names' ∧ outsLR n (decide (0 < o)) r = (true, r') ∧ Built toks names' r') := by
  have hbad : ∀ (names : List DeclM) (r : RdM) (o : Nat), countD names 105 = c → countD names 111 = o → names.length = c + s + o → (o = 0 → (s = 0 → atR toks r.pos ≠ kIn ∨ c = 4) ∧ (atR toks r.pos ≠ kSet ∨ s = 80)) → (atR toks r.pos ≠ kOut ∨ 4 ≤ o) → declaredD toks names r.pos = .inr r.pos := by
    intro names r o h1 h2 h3 h4 h5
    unfold declaredD
    rw [if_neg, if_neg, if_neg]
    · intro h; rcases h5 with h5 | h5
      · exact h5 h.1
      · omega
    · intro h
      have := (h4 (by omega)).2
      rcases this with h6 | h6
      · exact h6 h.1
      · omega
    · intro h
      have := (h4 (by omega)).1 (by omega)
      rcases this with h6 | h6
      · exact h6 h.1
      · omega
  induction n with
  | zero =>
    intro names r f o hB hc ho hnl hn hf hin
    obtain ⟨hR, hN, ht⟩ := hB.rel
    obtain ⟨f, rfl⟩ : ∃ f', f = f' + 1 := ⟨f - 1, by omega⟩
    rw [outsLR, ht]
    by_cases hlt : r.pos < toks.length
    · left
      refine ⟨r.pos, ?_, by simp; omega, rfl⟩
      rw [lowD_in hlt, hbad names r o hc ho hnl hin (.inr (by omega))]
    · right
      refine ⟨names, r, ?_, by rw [decide_eq_true (by omega)], hB⟩
      rw [lowD_end hlt, if_neg (by omega)]
  | succ n ih =>
    intro names r f o hB hc ho hnl hn hf hin
    obtain ⟨hR, hN, ht⟩ := hB.rel
    obtain ⟨f, rfl⟩ : ∃ f', f = f' + 1 := ⟨f - 1, by omega⟩
    rw [outsLR, ht, peek_atR, ht]
    by_cases hend : decide (0 < o) = true ∧ toks.length ≤ r.pos
    · rw [if_pos hend]
      right
      refine ⟨names, r, ?_, rfl, hB⟩
      have : 0 < o := by simpa using hend.1
      rw [lowD_end (by omega), if_neg (by omega)]
    · rw [if_neg hend]
      by_cases hou : atR toks r.pos = kOut
      · have hne : atR toks r.pos ≠ [] := by rw [hou]; decide
        have hlt := atR_lt hne
        rw [if_pos hou]
        have hsk : r.skip = ⟨r.ins, r.nodes, r.outs, r.toks, r.pos + 1, r.ents⟩ := skip_pos (by rw [peek_atR, ht]; exact hne)
        rw [hsk]
        have hdec : declaredD toks names r.pos = outD toks names r.pos := by
          unfold declaredD
          rw [if_neg (fun h => by rw [hou] at h; exact absurd h.1 (by decide)), if_neg (fun h => by rw [hou] at h; exact absurd h.1 (by decide)), if_pos ⟨hou, by omega, by omega⟩]
        rw [lowD_in hlt.1, hdec]
        rcases out_eq (names := names) (r := ⟨r.ins, r.nodes, r.outs, r.toks, r.pos + 1, r.ents⟩) (i := r.pos) hR hN rfl with ⟨p, h1, h2, h3⟩ | ⟨a, m, ha, hnn, hl, hl6, h1, h2⟩
        · left
          simp only [ht] at h1 h2 h3
          refine ⟨p, by rw [h1], ?_⟩
          cases hq : outLR ⟨r.ins, r.nodes, r.outs, toks, r.pos + 1, r.ents⟩ with
          | mk oo r1 =>
            rw [hq] at h2 h3
            simp only at h2 h3
            subst h2
            rw [ht, hq]
            exact ⟨rfl, h3⟩
        · simp only [ht] at h1 h2 hl ha hnn
          rw [ht, h1, h2]
          simp only
          have hlong : longD toks ⟨atR toks (r.pos + 1), 111, 0, 0, (r.pos : Int) + 2⟩ = 3 := rfl
          rw [hlong]
          have hB' := Built.out hB r.pos a m _ ha hnn hl hl6 (out_fresh h1)
          have := ih _ _ f (o + 1) hB' (by rw [countD_snoc, if_neg (by simp)]; omega) (by rw [countD_snoc, if_pos rfl]; omega) (by simp; omega) (by omega) (by simp only; omega) (by omega)
          rw [decide_eq_true (by omega : 0 < o + 1)] at this
          exact this
      · rw [if_neg hou]
        left
        refine ⟨r.pos, ?_, rfl, rfl⟩
        by_cases hlt : r.pos < toks.length
        · rw [lowD_in hlt, hbad names r o hc ho hnl hin (.inl hou)]
        · have ho0 : o = 0 := by
            apply Classical.byContradiction
            intro hne
            exact hend ⟨by simp; omega, by omega⟩
          rw [lowD_end hlt, if_pos (by omega)]

theorem low_eq (toks : List (List UInt8)) :
    (∃ p, lowD toks (toks.length + 1) [] 0 = .inr p ∧ (lowR ⟨[], [], [], toks, 0, []⟩).1 = false ∧ (lowR ⟨[], [], [], toks, 0, []⟩).2.pos = p) ∨
    (∃ ds r', lowD toks (toks.length + 1) [] 0 = .inl ds ∧ lowR ⟨[], [], [], toks, 0, []⟩ = (true, r') ∧ Built toks ds r') := by
  unfold lowR
  have h0 := inputs_eq toks 4 [] ⟨[], [], [], toks, 0, []⟩ (toks.length + 1) .start rfl rfl rfl rfl (by simp)
  simp only [List.length_nil, Nat.lt_irrefl, decide_false] at h0
  rcases h0 with ⟨p, h1, h2, h3⟩ | ⟨names, r, f, h1, hB, hc, ho, hn1, hn4, h2, hf, hin⟩
  · left
    refine ⟨p, h1, ?_⟩
    cases hq : inputsR 4 false ⟨[], [], [], toks, 0, []⟩ with
    | mk o r1 => rw [hq] at h2 h3; simp only at h2 h3; subst h2; exact ⟨rfl, h3⟩
  · rw [h1]
    simp only
    rcases steps_eq toks names.length hn1 80 names r f hB hc.symm ho (Nat.le_refl _) rfl hf (fun _ => hin) with ⟨p, h3, h4, h5⟩ | ⟨names2, r2, f2, h3, hB2, hc2, ho2, hl2, hu2, h4, hf2, hin2, hse2⟩
    · left
      refine ⟨p, h2.trans h3, ?_⟩
      cases hq : stepsR 80 r with
      | mk o r1 => rw [hq] at h4 h5; simp only at h4 h5; subst h4; exact ⟨rfl, h5⟩
    · rw [h3]
      simp only
      rcases outs_eq toks names.length (names2.length - names.length) hn1 4 names2 r2 f2 0 hB2 hc2 ho2 (by omega) rfl hf2 (fun _ => ⟨fun hs => hin2 (by omega), by rcases hse2 with h | h; exact .inl h; exact .inr (by omega)⟩) with ⟨p, h5, h6, h7⟩ | ⟨names3, r3, h5, h6, hB3⟩
      · left
        exact ⟨p, (h2.trans h4).trans h5, h6, h7⟩
      · right
        exact ⟨names3, r3, (h2.trans h4).trans h5, h6, hB3⟩

end Go.Proofs.YtcgkndfnhjcdnaaGreat.Pl

/-
  Contracts of the reference's done and reach: what a step comes to, and how great that may become.
-/
namespace Go.Proofs.YtcgkndfnhjcdnaaGreat
open Go.RowKit

def b2i (b : Bool) : Int := if b then 1 else 0
/-- What a step comes to, by its word and what its arguments come to. -/
def Pl.doneV (op : List UInt8) (a b c : Int) : Int :=
  if op = Pl.kNot then b2i (decide (a = 0)) else if op = Pl.kAdd then wrap64 (a + b) else if op = Pl.kSub then wrap64 (a - b) else if op = Pl.kMul then wrap64 (a * b)
  else if op = Pl.kFlr then a / b else if op = Pl.kSel then (if a = 1 then b else c) else if op = Pl.kLt then b2i (decide (a < b)) else if op = Pl.kLe then b2i (decide (a ≤ b))
  else if op = Pl.kEq then b2i (decide (a = b)) else if op = Pl.kAnd then b2i (decide (a = 1) && decide (b = 1)) else b2i (decide (a = 1) || decide (b = 1))
def Pl.doneR (toks : List (List UInt8)) (names : List Pl.DeclM) (known : List Int) (i : Nat) : Int :=
  Pl.doneV (toks.getD i []) (Pl.valueR toks names known (i + 1)) (Pl.valueR toks names known (i + 2)) (Pl.valueR toks names known (i + 3))
theorem text_shape {w : World} {vt vn vk : Value} {toks : List (List UInt8)} {names : List Pl.DeclM} {known : List Int} (h : TextAt w vt vn vk toks names known) : ∃ a1 c1 a2 c2 a3 c3, vt = .slice a1 toks.length c1 ∧ vn = .slice a2 names.length c2 ∧ vk = .slice a3 known.length c3 := by
  obtain ⟨a1, c1, h1⟩ := h.toks.shape
  obtain ⟨a2, c2, h2⟩ := h.names.shape
  obtain ⟨a3, c3, h3, _⟩ := h.known
  exact ⟨a1, c1, a2, c2, a3, c3, h1, h2, h3⟩
end Go.Proofs.YtcgkndfnhjcdnaaGreat
