/-
  Of what is read: no table has more than six bands; a right text has an out.
-/
import Derived.Test.YtfaljekgpnbmiaaPlainRead
namespace Go.Proofs.Ytfaljekgpnbmiaa.Pl

def Bd (r : RdM) : Prop := ∀ n ∈ r.nodes, n.bands.length ≤ 6
def Pres (f : RdM → Option Int × RdM) : Prop := ∀ r, Bd r → Bd (f r).2
theorem Bd.skip {r : RdM} (h : Bd r) : Bd r.skip := by unfold Bd at *; rw [(skip_same r).1]; exact h
theorem Bd.addNode {r : RdM} (h : Bd r) (n : NodeM) (hn : n.bands.length ≤ 6) : Bd (r.addNode n) := by
  intro m hm
  rcases List.mem_append.1 hm with hm | hm
  · exact h m hm
  · rw [List.mem_singleton] at hm; subst hm; exact hn
theorem Bd.addEnt {r : RdM} (h : Bd r) (t : List UInt8) (k n : Int) : Bd (r.addEnt t k n) := h
theorem Bd.addOut {r : RdM} (h : Bd r) (n : Int) : Bd (r.addOut n) := h
theorem Bd.addIn {r : RdM} (h : Bd r) (p : Int × Int) : Bd (r.addIn p) := h
theorem pres_of {f : RdM → Option Int × RdM} (hf : Pres f) {r r1 : RdM} {o : Option Int} (h : Bd r) (e : f r = (o, r1)) : Bd r1 := by have := hf r h; rw [e] at this; exact this

section
variable {f g : RdM → Option Int × RdM}
theorem oneR_bd (hf : Pres f) (mk : Int → NodeM) (hm : ∀ a, (mk a).bands.length ≤ 6) : Pres (oneR f mk) := by
  intro r h
  unfold oneR
  split
  · rename_i e; exact pres_of hf h e
  · rename_i e; exact (pres_of hf h e).addNode _ (hm _)
theorem pairR_bd (hf : Pres f) (op : Int) : Pres (pairR f op) := by
  intro r h
  unfold pairR
  split
  · rename_i e; exact pres_of hf h e
  · rename_i e; exact oneR_bd hf _ (fun _ => by simp) _ (pres_of hf h e)
theorem productR_bd (hf : Pres f) : Pres (productR f) := by
  intro r h
  unfold productR
  split
  · exact h
  · exact oneR_bd hf _ (fun _ => by simp) _ h.skip
theorem choiceR_bd (hg : Pres g) (hf : Pres f) : Pres (choiceR g f) := by
  intro r h
  unfold choiceR
  split
  · rename_i e; exact pres_of hg h e
  · rename_i e
    have h1 := pres_of hg h e
    split
    · rename_i e; exact pres_of hf h1 e
    · rename_i e; exact oneR_bd hf _ (fun _ => by simp) _ (pres_of hf h1 e)
theorem quotientR_bd (hf : Pres f) : Pres (quotientR f) := by
  intro r h
  unfold quotientR
  split
  · exact h
  · split
    · rename_i e; exact pres_of hf h.skip e
    · rename_i e
      have h1 := pres_of hf h.skip e
      split
      · exact h1
      · exact h1.skip.addNode _ (by simp)
theorem bandR_nodes (least : Int) (r : RdM) : (bandR least r).2.nodes = r.nodes := by
  unfold bandR
  split
  · rfl
  · split
    · exact (skip_same r).1
    · exact ((skip_same _).1).trans (skip_same r).1
theorem bandsR_nodes (n : Nat) : ∀ (least : Int) (acc : List (Int × Int)) (r : RdM), (bandsR n least acc r).2.nodes = r.nodes ∧ ∀ l, (bandsR n least acc r).1 = some l → l.length = acc.length + n := by
  induction n with
  | zero => intro least acc r; exact ⟨rfl, fun l h => by cases h; rfl⟩
  | succ n ih =>
    intro least acc r
    have hb := bandR_nodes least r
    unfold bandsR
    split
    · rename_i e; rw [e] at hb; exact ⟨hb, fun l h => by cases h⟩
    · rename_i p r1 e
      rw [e] at hb
      have h2 := ih (p.1 + 1) (acc ++ [p]) r1
      exact ⟨h2.1.trans hb, fun l h => by have := h2.2 l h; simp at this; omega⟩
theorem tableR_bd (hf : Pres f) : Pres (tableR f) := by
  intro r h
  unfold tableR
  split
  · rename_i e; exact pres_of hf h e
  · rename_i e
    have h1 := pres_of hf h e
    split
    · exact h1
    · rename_i n hn
      have hn6 := num_some hn
      split
      · rename_i r2 e2
        have h3 : ∀ r1 : RdM, Bd r1 → bandsR n.toNat (-1000000000) [] r1.skip = (none, r2) → Bd r2 := fun r1 hr e => by
          have hb := bandsR_nodes n.toNat (-1000000000) [] r1.skip
          rw [e] at hb
          unfold Bd; rw [hb.1]; exact hr.skip
        exact h3 _ h1 e2
      · rename_i l r2 e2
        have h3 : ∀ r1 : RdM, Bd r1 → bandsR n.toNat (-1000000000) [] r1.skip = (some l, r2) → Bd r2 ∧ l.length ≤ 6 := fun r1 hr e => by
          have hb := bandsR_nodes n.toNat (-1000000000) [] r1.skip
          rw [e] at hb
          refine ⟨by unfold Bd; rw [hb.1]; exact hr.skip, ?_⟩
          have := hb.2 l rfl
          simp at this; omega
        have h4 := h3 _ h1 e2
        exact h4.1.addNode _ h4.2
theorem knownStep_bd (k : Int) : Pres (RdM.knownStep k) := by
  intro r h
  unfold RdM.knownStep
  split
  · exact h
  · exact h.skip
theorem leaf_bd : Pres RdM.leaf := by
  intro r h
  unfold RdM.leaf RdM.constant
  split
  · rename_i e
    split at e
    · cases e
    · cases e; exact h.skip.addNode _ (by simp)
  · exact knownStep_bd 0 r h
theorem exprR_bd (hg : Pres g) (hf : Pres f) : Pres (exprR g f) := by
  intro r h
  unfold exprR
  split
  · exact pairR_bd hf _ _ h.skip
  split
  · exact pairR_bd hf _ _ h.skip
  split
  · exact pairR_bd hf _ _ h.skip
  split
  · exact pairR_bd hf _ _ h.skip
  split
  · exact productR_bd hf _ h.skip
  split
  · exact choiceR_bd hg hf _ h.skip
  split
  · exact quotientR_bd hf _ h.skip
  split
  · exact tableR_bd hf _ h.skip
  · exact leaf_bd r h
theorem condR_bd (hg : Pres g) (hf : Pres f) : Pres (condR g f) := by
  intro r h
  unfold condR
  split
  · exact pairR_bd hf _ _ h.skip
  split
  · exact pairR_bd hf _ _ h.skip
  split
  · exact pairR_bd hf _ _ h.skip
  split
  · exact pairR_bd hg _ _ h.skip
  split
  · exact pairR_bd hg _ _ h.skip
  split
  · exact oneR_bd hg _ (fun _ => by simp) _ h.skip
  · exact h
end
theorem read_bd (m : Nat) : ∀ tag, Pres (read m tag) := by
  induction m with
  | zero =>
    intro tag
    cases tag
    · exact leaf_bd
    · exact fun r h => h
  | succ m ih =>
    intro tag
    cases tag
    · exact exprR_bd (ih true) (ih false)
    · exact condR_bd (ih true) (ih false)
theorem inputR_bd (r : RdM) (h : Bd r) : Bd (inputR r).2 := by
  unfold inputR
  split
  · exact h
  · split
    · exact h.skip
    · split
      · exact h.skip.skip
      · exact ((h.skip.skip.skip.addIn _).addNode _ (by simp)).addEnt _ _ _
theorem inputsR_bd (n : Nat) : ∀ (any : Bool) (r : RdM), Bd r → Bd (inputsR n any r).2 := by
  induction n with
  | zero => intro _ r h; exact h
  | succ n ih =>
    intro any r h
    rw [inputsR]
    split
    · have hk := inputR_bd r.skip h.skip
      split
      · rename_i e; rw [e] at hk; exact hk
      · rename_i e; rw [e] at hk; exact ih _ _ hk
    · exact h
theorem namedR_bd (r : RdM) (h : Bd r) : Bd (namedR r).2 := by
  unfold namedR
  split
  · exact h
  · have hk := read_bd 600 false r.skip h.skip
    split
    · rename_i e; rw [e] at hk; exact hk
    · rename_i e; rw [e] at hk; exact hk
theorem letsR_bd (n : Nat) : ∀ (r : RdM), Bd r → Bd (letsR n r).2 := by
  induction n with
  | zero => intro r h; exact h
  | succ n ih =>
    intro r h
    rw [letsR]
    split
    · have hk := namedR_bd r.skip h.skip
      split
      · rename_i e; rw [e] at hk; exact hk
      · rename_i e; rw [e] at hk; exact ih _ (hk.addEnt _ _ _)
    · exact h
theorem outsR_bd (n : Nat) : ∀ (any : Bool) (r : RdM), Bd r → Bd (outsR n any r).2 := by
  induction n with
  | zero => intro _ r h; exact h
  | succ n ih =>
    intro any r h
    rw [outsR]
    split
    · exact h
    · split
      · have hk := namedR_bd r.skip h.skip
        split
        · rename_i e; rw [e] at hk; exact hk
        · rename_i e; rw [e] at hk; exact ih _ _ ((hk.addEnt _ _ _).addOut _)
      · exact h
theorem textR_bd (r : RdM) (h : Bd r) : Bd (textR r).2 := by
  unfold textR
  have h1 := inputsR_bd 4 false r h
  split
  · rename_i e; rw [e] at h1; exact h1
  · rename_i r1 e
    rw [e] at h1
    have h2 := letsR_bd 16 r1 h1
    split
    · rename_i e; rw [e] at h2; exact h2
    · rename_i e; rw [e] at h2; exact outsR_bd 4 false _ h2
theorem quotLR_bd : Pres quotLR := by
  intro r h
  unfold quotLR
  split
  · rename_i e; exact pres_of leaf_bd h e
  · rename_i e
    have h1 := pres_of leaf_bd h e
    split
    · exact h1
    · exact h1.skip.addNode _ (by simp)
theorem resultLR_bd (op : Int) : Pres (resultLR op) := by
  intro r h
  unfold resultLR
  split
  · exact productR_bd leaf_bd r h
  split
  · exact quotLR_bd r h
  split
  · exact choiceR_bd (knownStep_bd 1) leaf_bd r h
  split
  · exact pairR_bd (knownStep_bd 1) _ r h
  split
  · exact oneR_bd (knownStep_bd 1) _ (fun _ => by simp) r h
  · exact pairR_bd leaf_bd _ r h
theorem stepR_bd (r : RdM) (h : Bd r) : Bd (stepR r).2 := by
  unfold stepR
  split
  · exact h
  · split
    · exact h.skip
    · rename_i op _
      have hk := resultLR_bd op r.skip.skip h.skip.skip
      split
      · rename_i e; rw [e] at hk; exact hk
      · rename_i e; rw [e] at hk; exact hk.addEnt _ _ _
theorem stepsR_bd (n : Nat) : ∀ (r : RdM), Bd r → Bd (stepsR n r).2 := by
  induction n with
  | zero => intro r h; exact h
  | succ n ih =>
    intro r h
    rw [stepsR]
    split
    · have hk := stepR_bd r.skip h.skip
      split
      · rename_i e; rw [e] at hk; exact hk
      · rename_i e; rw [e] at hk; exact ih _ hk
    · exact h
theorem outLR_bd (r : RdM) (h : Bd r) : Bd (outLR r).2 := by
  unfold outLR
  split
  · exact h
  · have hk := leaf_bd r.skip h.skip
    split
    · rename_i e; rw [e] at hk; exact hk
    · rename_i e; rw [e] at hk; exact (hk.addEnt _ _ _).addOut _
theorem outsLR_bd (n : Nat) : ∀ (any : Bool) (r : RdM), Bd r → Bd (outsLR n any r).2 := by
  induction n with
  | zero => intro _ r h; exact h
  | succ n ih =>
    intro any r h
    rw [outsLR]
    split
    · exact h
    · split
      · have hk := outLR_bd r.skip h.skip
        split
        · rename_i e; rw [e] at hk; exact hk
        · rename_i e; rw [e] at hk; exact ih _ _ hk
      · exact h
theorem lowR_bd (r : RdM) (h : Bd r) : Bd (lowR r).2 := by
  unfold lowR
  have h1 := inputsR_bd 4 false r h
  split
  · rename_i e; rw [e] at h1; exact h1
  · rename_i r1 e
    rw [e] at h1
    have h2 := stepsR_bd 80 r1 h1
    split
    · rename_i e; rw [e] at h2; exact h2
    · rename_i e; rw [e] at h2; exact outsLR_bd 4 false _ h2
theorem start_bd (l : List UInt8) : Bd (startR l) := by intro n hn; simp [startR] at hn
theorem text_bands (l : List UInt8) : ∀ n ∈ (textR (startR l)).2.nodes, n.bands.length ≤ 1000 := fun n hn => by have := textR_bd _ (start_bd l) n hn; omega
theorem low_bands (l : List UInt8) : ∀ n ∈ (lowR (startR l)).2.nodes, n.bands.length ≤ 1000 := fun n hn => by have := lowR_bd _ (start_bd l) n hn; omega

/-- A right text has an out. -/
theorem outsR_some (n : Nat) : ∀ (any : Bool) (r r' : RdM), outsR n any r = (true, r') → (any = true ∨ n = 0 → r.outs ≠ []) → r'.outs ≠ [] := by
  induction n with
  | zero => intro any r r' e h; rw [outsR, Prod.mk.injEq] at e; rw [← e.2]; exact h (.inr rfl)
  | succ n ih =>
    intro any r r' e h
    rw [outsR] at e
    split at e
    · rename_i hc; cases e; exact h (.inl hc.1)
    · split at e
      · split at e
        · cases e
        · exact ih _ _ _ e (fun _ => by simp [RdM.addOut])
      · cases e
theorem textR_some (r r' : RdM) (e : textR r = (true, r')) : r'.outs ≠ [] := by
  unfold textR at e
  split at e
  · cases e
  · split at e
    · cases e
    · exact outsR_some 4 false _ _ e (by simp)
theorem outsLR_some (n : Nat) : ∀ (any : Bool) (r r' : RdM), outsLR n any r = (true, r') → (any = true ∨ n = 0 → r.outs ≠ []) → r'.outs ≠ [] := by
  induction n with
  | zero => intro any r r' e h; rw [outsLR, Prod.mk.injEq] at e; rw [← e.2]; exact h (.inr rfl)
  | succ n ih =>
    intro any r r' e h
    rw [outsLR] at e
    split at e
    · rename_i hc; cases e; exact h (.inl hc.1)
    · split at e
      · split at e
        · cases e
        · rename_i r1 e1
          refine ih _ _ _ e (fun _ => ?_)
          unfold outLR at e1
          split at e1
          · cases e1
          · split at e1
            · cases e1
            · cases e1; simp [RdM.addOut]
      · cases e
theorem lowR_some (r r' : RdM) (e : lowR r = (true, r')) : r'.outs ≠ [] := by
  unfold lowR at e
  split at e
  · cases e
  · split at e
    · cases e
    · exact outsLR_some 4 false _ _ e (by simp)
/-- What is told is not empty just if there is no error. -/
theorem told_len (T : Bool × RdM) (l : List UInt8) (home : List Int) (hT : ∀ r', T = (true, r') → r'.outs ≠ []) :
    ((toldR (readWith T l).1 (readWith T l).2.2 home).1 = 0 ↔ 0 < (toldR (readWith T l).1 (readWith T l).2.2 home).2.length) ∧ ((readWith T l).1 = 0 → (toldR (readWith T l).1 (readWith T l).2.2 home).1 = 0 ∨ (toldR (readWith T l).1 (readWith T l).2.2 home).1 = 4) := by
  obtain ⟨o, r⟩ := T
  have ho : (readWith (o, r) l).1 = 0 → o = true := by
    intro h
    unfold readWith at h
    split at h
    · simp at h
    · simp only [resultR] at h
      cases o
      · simp at h
      · rfl
  by_cases h0 : (readWith (o, r) l).1 = 0
  · have e2 := (readWith_zero _ _ h0).2
    have hne := hT r (by rw [ho h0])
    unfold toldR
    rw [h0, e2]
    simp only [ne_eq, not_true_eq_false, if_false]
    split
    · refine ⟨?_, fun _ => .inl rfl⟩
      cases hr : r.outs with
      | nil => exact absurd hr hne
      | cons x xs => simp [runW]
    · simp
  · unfold toldR
    rw [if_pos h0]
    simp [h0]

end Go.Proofs.Ytfaljekgpnbmiaa.Pl
