/- Joined: Eq5 Ref13. -/
import Derived.Test.YtfaljekgpnbmiaaGreatL23
/-
  The whole text of the low form: the program's three loops against the reference's one.
-/
namespace Go.Proofs.YtfaljekgpnbmiaaGreat.Pl
set_option linter.unusedVariables false

/-- How names and nodes came to be, declaration by declaration. -/
def Built (toks : List (List UInt8)) (x1 : List DeclM) (x2 : RdM) : Prop :=
  ∀ motive : List DeclM → RdM → Prop, (motive [] ⟨[], [], [], toks, 0, []⟩) → (∀ (names : List DeclM) (r : RdM) (h : motive names r) (d : DeclM) (i : Nat) (hk : d.kind = 105) (hn : names.length = r.ins.length) (h1 : -1000000000 ≤ d.lo) (h2 : d.lo ≤ d.hi) (h3 : d.hi ≤ 1000000000) (hne : d.name ≠ []) (hfr : fresh names d.name = true), motive (names ++ [d]) ⟨r.ins ++ [(d.lo, d.hi)], r.nodes ++ [⟨1, 0, 0, 0, r.ins.length, []⟩], r.outs, toks, i + 4, r.ents ++ [(d.name, 0, (r.nodes.length : Int))]⟩) → (∀ (names : List DeclM) (r : RdM) (h : motive names r) (i : Nat) (op : Int) (ws : List UInt8) (k : UInt8) (more : List NodeM) (name : List UInt8) (hw : WordOp (atR toks (i + 2)) op ws k) (hs : StepN r.ents r.nodes toks (i + 3) op more) (hm : more ≠ []) (hne : name ≠ []) (hl : i + 3 + ws.length ≤ toks.length) (hl6 : i + 3 + ws.length ≤ 600) (hfr : fresh names name = true), motive (names ++ [⟨name, k.toNat, 0, 0, (i : Int) + 2⟩]) ⟨r.ins, r.nodes ++ more, r.outs, toks, i + 3 + ws.length, r.ents ++ [(name, kindOf op, ((r.nodes ++ more).length : Int) - 1)]⟩) → (∀ (names : List DeclM) (r : RdM) (h : motive names r) (i : Nat) (a : Int) (m : List NodeM) (name : List UInt8) (ha : ArgN r.ents r.nodes (atR toks (i + 2)) a m) (hne : name ≠ []) (hl : i + 3 ≤ toks.length) (hl6 : i + 3 ≤ 600) (hfr : fresh names name = true), motive (names ++ [⟨name, 111, 0, 0, (i : Int) + 2⟩]) ⟨r.ins, r.nodes ++ m, r.outs ++ [a], toks, i + 3, r.ents ++ [(name, 2, a)]⟩) → motive x1 x2
theorem Built.start {toks : List (List UInt8)}  : Built toks [] ⟨[], [], [], toks, 0, []⟩ := fun motive m1 m2 m3 m4 => m1 
theorem Built.input {toks : List (List UInt8)} {names : List DeclM} {r : RdM} (h : Built toks names r) (d : DeclM) (i : Nat) (hk : d.kind = 105) (hn : names.length = r.ins.length) (h1 : -1000000000 ≤ d.lo) (h2 : d.lo ≤ d.hi) (h3 : d.hi ≤ 1000000000) (hne : d.name ≠ []) (hfr : fresh names d.name = true) : Built toks (names ++ [d]) ⟨r.ins ++ [(d.lo, d.hi)], r.nodes ++ [⟨1, 0, 0, 0, r.ins.length, []⟩], r.outs, toks, i + 4, r.ents ++ [(d.name, 0, (r.nodes.length : Int))]⟩ := fun motive m1 m2 m3 m4 => m2 names r (h motive m1 m2 m3 m4) d i hk hn h1 h2 h3 hne hfr
theorem Built.step {toks : List (List UInt8)} {names : List DeclM} {r : RdM} (h : Built toks names r) (i : Nat) (op : Int) (ws : List UInt8) (k : UInt8) (more : List NodeM) (name : List UInt8) (hw : WordOp (atR toks (i + 2)) op ws k) (hs : StepN r.ents r.nodes toks (i + 3) op more) (hm : more ≠ []) (hne : name ≠ []) (hl : i + 3 + ws.length ≤ toks.length) (hl6 : i + 3 + ws.length ≤ 600) (hfr : fresh names name = true) : Built toks (names ++ [⟨name, k.toNat, 0, 0, (i : Int) + 2⟩]) ⟨r.ins, r.nodes ++ more, r.outs, toks, i + 3 + ws.length, r.ents ++ [(name, kindOf op, ((r.nodes ++ more).length : Int) - 1)]⟩ := fun motive m1 m2 m3 m4 => m3 names r (h motive m1 m2 m3 m4) i op ws k more name hw hs hm hne hl hl6 hfr
theorem Built.out {toks : List (List UInt8)} {names : List DeclM} {r : RdM} (h : Built toks names r) (i : Nat) (a : Int) (m : List NodeM) (name : List UInt8) (ha : ArgN r.ents r.nodes (atR toks (i + 2)) a m) (hne : name ≠ []) (hl : i + 3 ≤ toks.length) (hl6 : i + 3 ≤ 600) (hfr : fresh names name = true) : Built toks (names ++ [⟨name, 111, 0, 0, (i : Int) + 2⟩]) ⟨r.ins, r.nodes ++ m, r.outs ++ [a], toks, i + 3, r.ents ++ [(name, 2, a)]⟩ := fun motive m1 m2 m3 m4 => m4 names r (h motive m1 m2 m3 m4) i a m name ha hne hl hl6 hfr
theorem Built.ind {toks : List (List UInt8)} {motive : ∀ (x1 : List DeclM) (x2 : RdM), Built toks x1 x2 → Prop}
    (start : motive [] ⟨[], [], [], toks, 0, []⟩ Built.start)
    (input : ∀ {names : List DeclM} {r : RdM} (h : Built toks names r) (d : DeclM) (i : Nat) (hk : d.kind = 105) (hn : names.length = r.ins.length) (h1 : -1000000000 ≤ d.lo) (h2 : d.lo ≤ d.hi) (h3 : d.hi ≤ 1000000000) (hne : d.name ≠ []) (hfr : fresh names d.name = true), motive names r h → motive (names ++ [d]) ⟨r.ins ++ [(d.lo, d.hi)], r.nodes ++ [⟨1, 0, 0, 0, r.ins.length, []⟩], r.outs, toks, i + 4, r.ents ++ [(d.name, 0, (r.nodes.length : Int))]⟩ (Built.input h d i hk hn h1 h2 h3 hne hfr))
    (step : ∀ {names : List DeclM} {r : RdM} (h : Built toks names r) (i : Nat) (op : Int) (ws : List UInt8) (k : UInt8) (more : List NodeM) (name : List UInt8) (hw : WordOp (atR toks (i + 2)) op ws k) (hs : StepN r.ents r.nodes toks (i + 3) op more) (hm : more ≠ []) (hne : name ≠ []) (hl : i + 3 + ws.length ≤ toks.length) (hl6 : i + 3 + ws.length ≤ 600) (hfr : fresh names name = true), motive names r h → motive (names ++ [⟨name, k.toNat, 0, 0, (i : Int) + 2⟩]) ⟨r.ins, r.nodes ++ more, r.outs, toks, i + 3 + ws.length, r.ents ++ [(name, kindOf op, ((r.nodes ++ more).length : Int) - 1)]⟩ (Built.step h i op ws k more name hw hs hm hne hl hl6 hfr))
    (out : ∀ {names : List DeclM} {r : RdM} (h : Built toks names r) (i : Nat) (a : Int) (m : List NodeM) (name : List UInt8) (ha : ArgN r.ents r.nodes (atR toks (i + 2)) a m) (hne : name ≠ []) (hl : i + 3 ≤ toks.length) (hl6 : i + 3 ≤ 600) (hfr : fresh names name = true), motive names r h → motive (names ++ [⟨name, 111, 0, 0, (i : Int) + 2⟩]) ⟨r.ins, r.nodes ++ m, r.outs ++ [a], toks, i + 3, r.ents ++ [(name, 2, a)]⟩ (Built.out h i a m name ha hne hl hl6 hfr))
    {x1 : List DeclM} {x2 : RdM} (t : Built toks x1 x2) : motive x1 x2 t := by
  have key : ∃ h : Built toks x1 x2, motive x1 x2 h := by
    refine t (fun x1 x2 => ∃ h : Built toks x1 x2, motive x1 x2 h) ?_ ?_ ?_ ?_
    · skip
      exact ⟨Built.start , start ⟩
    · intro names r h d i hk hn h1 h2 h3 hne hfr
      obtain ⟨h, hi⟩ := h
      exact ⟨Built.input h d i hk hn h1 h2 h3 hne hfr, input h d i hk hn h1 h2 h3 hne hfr hi⟩
    · intro names r h i op ws k more name hw hs hm hne hl hl6 hfr
      obtain ⟨h, hi⟩ := h
      exact ⟨Built.step h i op ws k more name hw hs hm hne hl hl6 hfr, step h i op ws k more name hw hs hm hne hl hl6 hfr hi⟩
    · intro names r h i a m name ha hne hl hl6 hfr
      obtain ⟨h, hi⟩ := h
      exact ⟨Built.out h i a m name ha hne hl hl6 hfr, out h i a m name ha hne hl hl6 hfr hi⟩
  obtain ⟨_, k⟩ := key
  exact k
theorem Built.rel {toks : List (List UInt8)} {names : List DeclM} {r : RdM} (h : Built toks names r) : RelL names r.ents ∧ NE r.ents ∧ r.toks = toks := by
  have ne : ∀ {es : List (List UInt8 × Int × Int)} {n : List UInt8} {k a : Int}, NE es → n ≠ [] → NE (es ++ [(n, k, a)]) := by
    intro es n k a h1 h2 e he
    rcases List.mem_append.1 he with he | he
    · exact h1 e he
    · rw [List.mem_singleton] at he; subst he; exact h2
  induction h using Built.ind with
  | start => exact ⟨trivial, fun e he => by simp at he, rfl⟩
  | input h d i hk hn h1 h2 h3 hne hfr ih => exact ⟨ih.1.snoc _ _ rfl (.inl ⟨.inl hk, rfl⟩), ne ih.2.1 hne, rfl⟩
  | step h i op ws k more name hw hs hm hne hl hl6 hfr ih => exact ⟨ih.1.snoc _ _ rfl (kind_of_word hw).1, ne ih.2.1 hne, rfl⟩
  | out h i a m name ha hne hl hl6 hfr ih => exact ⟨ih.1.snoc _ _ rfl (.inr (.inr ⟨rfl, rfl⟩)), ne ih.2.1 hne, rfl⟩
theorem countD_snoc (names : List DeclM) (d : DeclM) (k : Nat) : countD (names ++ [d]) k = countD names k + (if d.kind = k then 1 else 0) := by
  induction names with
  | nil => simp [countD]
  | cons e names ih => rw [List.cons_append, countD, countD, ih]; omega
theorem lowD_in {toks : List (List UInt8)} {f : Nat} {names : List DeclM} {i : Nat} (hi : i < toks.length) : lowD toks (f + 1) names i = match declaredD toks names i with | .inr p => .inr p | .inl d => lowD toks f (names ++ [d]) (i + longD toks d) := by
  rw [lowD, if_pos hi]; cases declaredD toks names i <;> rfl
theorem lowD_end {toks : List (List UInt8)} {f : Nat} {names : List DeclM} {i : Nat} (hi : ¬ i < toks.length) : lowD toks (f + 1) names i = if countD names 111 = 0 then .inr i else .inl names := by
  rw [lowD, if_neg hi]
theorem input_fresh {toks : List (List UInt8)} {names : List DeclM} {i : Nat} {d : DeclM} (h : inputD toks names i = .inl d) : fresh names d.name = true := by
  unfold inputD at h
  split at h
  · cases h
  rename_i hf
  split at h
  · cases h
  split at h
  · cases h
  cases h; simpa using hf
theorem set_fresh {toks : List (List UInt8)} {names : List DeclM} {i : Nat} {d : DeclM} (h : setD toks names i = .inl d) : fresh names d.name = true := by
  unfold setD at h
  split at h
  · cases h
  rename_i hf
  split at h
  · cases h
  split at h
  · cases h
  cases h; simpa using hf
theorem out_fresh {toks : List (List UInt8)} {names : List DeclM} {i : Nat} {d : DeclM} (h : outD toks names i = .inl d) : fresh names d.name = true := by
  unfold outD at h
  split at h
  · cases h
  rename_i hf
  split at h
  · cases h
  cases h; simpa using hf

theorem inputs_eq (toks : List (List UInt8)) (n : Nat) : ∀ (names : List DeclM) (r : RdM) (f : Nat), Built toks names r → names.length = countD names 105 → names.length = r.ins.length → countD names 111 = 0 → names.length + n = 4 → toks.length - r.pos < f →
    (∃ p, lowD toks f names r.pos = .inr p ∧ (inputsR n (decide (0 < names.length)) r).1 = false ∧ (inputsR n (decide (0 < names.length)) r).2.pos = p) ∨
    (∃ names' r' f', inputsR n (decide (0 < names.length)) r = (true, r') ∧ Built toks names' r' ∧ names'.length = countD names' 105 ∧ countD names' 111 = 0 ∧ 1 ≤ names'.length ∧ names'.length ≤ 4 ∧ lowD toks f names r.pos = lowD toks f' names' r'.pos ∧ toks.length - r'.pos < f' ∧ (atR toks r'.pos ≠ kIn ∨ names'.length = 4)) := by
  induction n with
  | zero =>
    intro names r f hB hc hi ho hn hf
    right
    exact ⟨names, r, f, rfl, hB, hc, ho, by omega, by omega, rfl, hf, .inr (by omega)⟩
  | succ n ih =>
    intro names r f hB hc hi ho hn hf
    obtain ⟨hR, hN, ht⟩ := hB.rel
    obtain ⟨f, rfl⟩ : ∃ f', f = f' + 1 := ⟨f - 1, by omega⟩
    rw [inputsR, peek_atR, ht]
    by_cases hin : atR toks r.pos = kIn
    · have hne : atR toks r.pos ≠ [] := by rw [hin]; decide
      have hlt := atR_lt hne
      rw [if_pos hin]
      have hsk : r.skip = ⟨r.ins, r.nodes, r.outs, r.toks, r.pos + 1, r.ents⟩ := skip_pos (by rw [peek_atR, ht]; exact hne)
      rw [hsk]
      have hdec : declaredD toks names r.pos = inputD toks names r.pos := by unfold declaredD; rw [if_pos ⟨hin, by omega, ho, by omega⟩]
      rw [lowD_in hlt.1, hdec]
      rcases input_eq (names := names) (r := ⟨r.ins, r.nodes, r.outs, r.toks, r.pos + 1, r.ents⟩) (i := r.pos) hR rfl with ⟨p, h1, h2, h3⟩ | ⟨d, h1, hk, hdn, _, hd1, hd2, hd3, hl6, hl, h2⟩
      · left
        simp only [ht] at h1 h2 h3
        refine ⟨p, by rw [h1], ?_⟩
        cases hq : inputR ⟨r.ins, r.nodes, r.outs, toks, r.pos + 1, r.ents⟩ with
        | mk o r1 =>
          rw [hq] at h2 h3
          simp only at h2 h3
          subst h2
          rw [ht, hq]
          exact ⟨rfl, h3⟩
      · simp only [ht] at h1 h2 hl
        rw [ht, h1, h2]
        simp only
        have hlong : longD toks d = 4 := by unfold longD; rw [if_pos hk]
        rw [hlong]
        have hB' := Built.input hB d r.pos hk hi hd1 hd2 hd3 hdn (input_fresh h1)
        have hany : decide (0 < (names ++ [d]).length) = true := by simp
        have := ih (names ++ [d]) _ f hB' (by rw [countD_snoc, if_pos hk, List.length_append]; simp; omega) (by simp; omega) (by rw [countD_snoc, if_neg (by omega)]; omega) (by simp; omega) (by simp only; omega)
        rw [hany] at this
        exact this
    · rw [if_neg hin]
      by_cases h0 : 0 < names.length
      · right
        rw [decide_eq_true h0]
        exact ⟨names, r, f + 1, rfl, hB, hc, ho, h0, by omega, rfl, hf, .inl hin⟩
      · left
        rw [decide_eq_false h0]
        refine ⟨r.pos, ?_, rfl, rfl⟩
        by_cases hlt : r.pos < toks.length
        · have hdec : declaredD toks names r.pos = .inr r.pos := by unfold declaredD; rw [if_neg (fun h => hin h.1), if_neg (by omega), if_neg (by omega)]
          rw [lowD_in hlt, hdec]
        · rw [lowD_end hlt, if_pos ho]

theorem steps_eq (toks : List (List UInt8)) (c : Nat) (hc1 : 1 ≤ c) (n : Nat) : ∀ (names : List DeclM) (r : RdM) (f : Nat), Built toks names r → countD names 105 = c → countD names 111 = 0 → c ≤ names.length → names.length + n = c + 80 → toks.length - r.pos < f → (names.length = c → atR toks r.pos ≠ kIn ∨ c = 4) →
    (∃ p, lowD toks f names r.pos = .inr p ∧ (stepsR n r).1 = false ∧ (stepsR n r).2.pos = p) ∨
    (∃ names' r' f', stepsR n r = (true, r') ∧ Built toks names' r' ∧ countD names' 105 = c ∧ countD names' 111 = 0 ∧ c ≤ names'.length ∧ names'.length ≤ c + 80 ∧ lowD toks f names r.pos = lowD toks f' names' r'.pos ∧ toks.length - r'.pos < f' ∧ (names'.length = c → atR toks r'.pos ≠ kIn ∨ c = 4) ∧ (atR toks r'.pos ≠ kSet ∨ names'.length = c + 80)) := by
  induction n with
  | zero =>
    intro names r f hB hc ho hcl hn hf hin
    right
    exact ⟨names, r, f, rfl, hB, hc, ho, hcl, by omega, rfl, hf, hin, .inr (by omega)⟩
  | succ n ih =>
    intro names r f hB hc ho hcl hn hf hin
    obtain ⟨hR, hN, ht⟩ := hB.rel
    obtain ⟨f, rfl⟩ : ∃ f', f = f' + 1 := ⟨f - 1, by omega⟩
    rw [stepsR, peek_atR, ht]
    by_cases hse : atR toks r.pos = kSet
    · have hne : atR toks r.pos ≠ [] := by rw [hse]; decide
      have hlt := atR_lt hne
      rw [if_pos hse]
      have hsk : r.skip = ⟨r.ins, r.nodes, r.outs, r.toks, r.pos + 1, r.ents⟩ := skip_pos (by rw [peek_atR, ht]; exact hne)
      rw [hsk]
      have hdec : declaredD toks names r.pos = setD toks names r.pos := by
        unfold declaredD
        rw [if_neg (fun h => by rw [hse] at h; exact absurd h.1 (by decide)), if_pos ⟨hse, by omega, ho, by omega⟩]
      rw [lowD_in hlt.1, hdec]
      rcases step_eq (names := names) (r := ⟨r.ins, r.nodes, r.outs, r.toks, r.pos + 1, r.ents⟩) (i := r.pos) hR hN rfl with ⟨p, h1, h2, h3⟩ | ⟨op, ws, k, more, hw, hs, hm, hnn, hl, hl6, h1, h2⟩
      · left
        simp only [ht] at h1 h2 h3
        refine ⟨p, by rw [h1], ?_⟩
        cases hq : stepR ⟨r.ins, r.nodes, r.outs, toks, r.pos + 1, r.ents⟩ with
        | mk o r1 =>
          rw [hq] at h2 h3
          simp only at h2 h3
          subst h2
          rw [ht, hq]
          exact ⟨rfl, h3⟩
      · simp only [ht] at h1 h2 hl hw hs hnn
        have hkw := kind_of_word hw
        rw [ht, h1, h2]
        simp only
        have hpos : ((r.pos : Int) + 2).toNat = r.pos + 2 := by omega
        have hg : toks.getD (r.pos + 2) [] = atR toks (r.pos + 2) := by unfold atR; rw [if_pos (by omega)]
        have hlong : longD toks ⟨atR toks (r.pos + 1), k.toNat, 0, 0, (r.pos : Int) + 2⟩ = 3 + ws.length := by
          unfold longD
          rw [if_neg hkw.2.1, if_neg hkw.2.2.1, hpos, hg, hw.2.1]
          simp; omega
        rw [hlong, show r.pos + (3 + ws.length) = r.pos + 3 + ws.length by omega]
        have hB' := Built.step hB r.pos op ws k more _ hw hs hm hnn hl hl6 (set_fresh h1)
        have h105 : k.toNat ≠ 105 := hkw.2.1
        have h111 : k.toNat ≠ 111 := hkw.2.2.1
        exact ih _ _ f hB' (by rw [countD_snoc, if_neg h105]; omega) (by rw [countD_snoc, if_neg h111]; omega) (by simp; omega) (by simp; omega) (by simp only; omega) (by intro hh; simp at hh; omega)
    · rw [if_neg hse]
      right
      exact ⟨names, r, f + 1, rfl, hB, hc, ho, hcl, by omega, rfl, hf, hin, .inl hse⟩

theorem outs_eq (toks : List (List UInt8)) (c s : Nat) (hc1 : 1 ≤ c) (n : Nat) : ∀ (names : List DeclM) (r : RdM) (f o : Nat), Built toks names r → countD names 105 = c → countD names 111 = o → names.length = c + s + o → o + n = 4 → toks.length - r.pos < f → (o = 0 → (s = 0 → atR toks r.pos ≠ kIn ∨ c = 4) ∧ (atR toks r.pos ≠ kSet ∨ s = 80)) →
    (∃ p, lowD toks f names r.pos = .inr p ∧ (outsLR n (decide (0 < o)) r).1 = false ∧ (outsLR n (decide (0 < o)) r).2.pos = p) ∨
    (∃ names' r', lowD toks f names r.pos = .inl names' ∧ outsLR n (decide (0 < o)) r = (true, r') ∧ Built toks names' r') := by
  have hbad : ∀ (names : List DeclM) (r : RdM) (o : Nat), countD names 105 = c → countD names 111 = o → names.length = c + s + o → (o = 0 → (s = 0 → atR toks r.pos ≠ kIn ∨ c = 4) ∧ (atR toks r.pos ≠ kSet ∨ s = 80)) → (atR toks r.pos ≠ kOut ∨ 4 ≤ o) → declaredD toks names r.pos = .inr r.pos := by
    intro names r o h1 h2 h3 h4 h5
    unfold declaredD
    rw [if_neg, if_neg, if_neg]
    · intro h; rcases h5 with h5 | h5
      · exact h5 h.1
      · omega
    · intro h
      have := (h4 (by omega)).2
      rcases this with h6 | h6
      · exact h6 h.1
      · omega
    · intro h
      have := (h4 (by omega)).1 (by omega)
      rcases this with h6 | h6
      · exact h6 h.1
      · omega
  induction n with
  | zero =>
    intro names r f o hB hc ho hnl hn hf hin
    obtain ⟨hR, hN, ht⟩ := hB.rel
    obtain ⟨f, rfl⟩ : ∃ f', f = f' + 1 := ⟨f - 1, by omega⟩
    rw [outsLR, ht]
    by_cases hlt : r.pos < toks.length
    · left
      refine ⟨r.pos, ?_, by simp; omega, rfl⟩
      rw [lowD_in hlt, hbad names r o hc ho hnl hin (.inr (by omega))]
    · right
      refine ⟨names, r, ?_, by rw [decide_eq_true (by omega)], hB⟩
      rw [lowD_end hlt, if_neg (by omega)]
  | succ n ih =>
    intro names r f o hB hc ho hnl hn hf hin
    obtain ⟨hR, hN, ht⟩ := hB.rel
    obtain ⟨f, rfl⟩ : ∃ f', f = f' + 1 := ⟨f - 1, by omega⟩
    rw [outsLR, ht, peek_atR, ht]
    by_cases hend : decide (0 < o) = true ∧ toks.length ≤ r.pos
    · rw [if_pos hend]
      right
      refine ⟨names, r, ?_, rfl, hB⟩
      have : 0 < o := by simpa using hend.1
      rw [lowD_end (by omega), if_neg (by omega)]
    · rw [if_neg hend]
      by_cases hou : atR toks r.pos = kOut
      · have hne : atR toks r.pos ≠ [] := by rw [hou]; decide
        have hlt := atR_lt hne
        rw [if_pos hou]
        have hsk : r.skip = ⟨r.ins, r.nodes, r.outs, r.toks, r.pos + 1, r.ents⟩ := skip_pos (by rw [peek_atR, ht]; exact hne)
        rw [hsk]
        have hdec : declaredD toks names r.pos = outD toks names r.pos := by
          unfold declaredD
          rw [if_neg (fun h => by rw [hou] at h; exact absurd h.1 (by decide)), if_neg (fun h => by rw [hou] at h; exact absurd h.1 (by decide)), if_pos ⟨hou, by omega, by omega⟩]
        rw [lowD_in hlt.1, hdec]
        rcases out_eq (names := names) (r := ⟨r.ins, r.nodes, r.outs, r.toks, r.pos + 1, r.ents⟩) (i := r.pos) hR hN rfl with ⟨p, h1, h2, h3⟩ | ⟨a, m, ha, hnn, hl, hl6, h1, h2⟩
        · left
          simp only [ht] at h1 h2 h3
          refine ⟨p, by rw [h1], ?_⟩
          cases hq : outLR ⟨r.ins, r.nodes, r.outs, toks, r.pos + 1, r.ents⟩ with
          | mk oo r1 =>
            rw [hq] at h2 h3
            simp only at h2 h3
            subst h2
            rw [ht, hq]
            exact ⟨rfl, h3⟩
        · simp only [ht] at h1 h2 hl ha hnn
          rw [ht, h1, h2]
          simp only
          have hlong : longD toks ⟨atR toks (r.pos + 1), 111, 0, 0, (r.pos : Int) + 2⟩ = 3 := rfl
          rw [hlong]
          have hB' := Built.out hB r.pos a m _ ha hnn hl hl6 (out_fresh h1)
          have := ih _ _ f (o + 1) hB' (by rw [countD_snoc, if_neg (by simp)]; omega) (by rw [countD_snoc, if_pos rfl]; omega) (by simp; omega) (by omega) (by simp only; omega) (by omega)
          rw [decide_eq_true (by omega : 0 < o + 1)] at this
          exact this
      · rw [if_neg hou]
        left
        refine ⟨r.pos, ?_, rfl, rfl⟩
        by_cases hlt : r.pos < toks.length
        · rw [lowD_in hlt, hbad names r o hc ho hnl hin (.inl hou)]
        · have ho0 : o = 0 := by
            apply Classical.byContradiction
            intro hne
            exact hend ⟨by simp; omega, by omega⟩
          rw [lowD_end hlt, if_pos (by omega)]

theorem low_eq (toks : List (List UInt8)) :
    (∃ p, lowD toks (toks.length + 1) [] 0 = .inr p ∧ (lowR ⟨[], [], [], toks, 0, []⟩).1 = false ∧ (lowR ⟨[], [], [], toks, 0, []⟩).2.pos = p) ∨
    (∃ ds r', lowD toks (toks.length + 1) [] 0 = .inl ds ∧ lowR ⟨[], [], [], toks, 0, []⟩ = (true, r') ∧ Built toks ds r') := by
  unfold lowR
  have h0 := inputs_eq toks 4 [] ⟨[], [], [], toks, 0, []⟩ (toks.length + 1) .start rfl rfl rfl rfl (by simp)
  simp only [List.length_nil, Nat.lt_irrefl, decide_false] at h0
  rcases h0 with ⟨p, h1, h2, h3⟩ | ⟨names, r, f, h1, hB, hc, ho, hn1, hn4, h2, hf, hin⟩
  · left
    refine ⟨p, h1, ?_⟩
    cases hq : inputsR 4 false ⟨[], [], [], toks, 0, []⟩ with
    | mk o r1 => rw [hq] at h2 h3; simp only at h2 h3; subst h2; exact ⟨rfl, h3⟩
  · rw [h1]
    simp only
    rcases steps_eq toks names.length hn1 80 names r f hB hc.symm ho (Nat.le_refl _) rfl hf (fun _ => hin) with ⟨p, h3, h4, h5⟩ | ⟨names2, r2, f2, h3, hB2, hc2, ho2, hl2, hu2, h4, hf2, hin2, hse2⟩
    · left
      refine ⟨p, h2.trans h3, ?_⟩
      cases hq : stepsR 80 r with
      | mk o r1 => rw [hq] at h4 h5; simp only at h4 h5; subst h4; exact ⟨rfl, h5⟩
    · rw [h3]
      simp only
      rcases outs_eq toks names.length (names2.length - names.length) hn1 4 names2 r2 f2 0 hB2 hc2 ho2 (by omega) rfl hf2 (fun _ => ⟨fun hs => hin2 (by omega), by rcases hse2 with h | h; exact .inl h; exact .inr (by omega)⟩) with ⟨p, h5, h6, h7⟩ | ⟨names3, r3, h5, h6, hB3⟩
      · left
        exact ⟨p, (h2.trans h4).trans h5, h6, h7⟩
      · right
        exact ⟨names3, r3, (h2.trans h4).trans h5, h6, hB3⟩

end Go.Proofs.YtfaljekgpnbmiaaGreat.Pl

/-
  Contracts of the reference's done and reach: what a step comes to, and how great that may become.
-/
namespace Go.Proofs.YtfaljekgpnbmiaaGreat
open Go.RowKit

def b2i (b : Bool) : Int := if b then 1 else 0
/-- What a step comes to, by its word and what its arguments come to. -/
def Pl.doneV (op : List UInt8) (a b c : Int) : Int :=
  if op = Pl.kNot then b2i (decide (a = 0)) else if op = Pl.kAdd then wrap64 (a + b) else if op = Pl.kSub then wrap64 (a - b) else if op = Pl.kMul then wrap64 (a * b)
  else if op = Pl.kFlr then a / b else if op = Pl.kSel then (if a = 1 then b else c) else if op = Pl.kLt then b2i (decide (a < b)) else if op = Pl.kLe then b2i (decide (a ≤ b))
  else if op = Pl.kEq then b2i (decide (a = b)) else if op = Pl.kAnd then b2i (decide (a = 1) && decide (b = 1)) else b2i (decide (a = 1) || decide (b = 1))
def Pl.doneR (toks : List (List UInt8)) (names : List Pl.DeclM) (known : List Int) (i : Nat) : Int :=
  Pl.doneV (toks.getD i []) (Pl.valueR toks names known (i + 1)) (Pl.valueR toks names known (i + 2)) (Pl.valueR toks names known (i + 3))
theorem text_shape {w : World} {vt vn vk : Value} {toks : List (List UInt8)} {names : List Pl.DeclM} {known : List Int} (h : TextAt w vt vn vk toks names known) : ∃ a1 c1 a2 c2 a3 c3, vt = .slice a1 toks.length c1 ∧ vn = .slice a2 names.length c2 ∧ vk = .slice a3 known.length c3 := by
  obtain ⟨a1, c1, h1⟩ := h.toks.shape
  obtain ⟨a2, c2, h2⟩ := h.names.shape
  obtain ⟨a3, c3, h3, _⟩ := h.known
  exact ⟨a1, c1, a2, c2, a3, c3, h1, h2, h3⟩
end Go.Proofs.YtfaljekgpnbmiaaGreat
