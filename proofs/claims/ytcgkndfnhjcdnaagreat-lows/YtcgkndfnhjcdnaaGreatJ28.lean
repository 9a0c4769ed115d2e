/- Joined: Eq6 Eq7 PlainBand2. -/
import Derived.Test.YtcgkndfnhjcdnaaGreatJ27
/-
  What was built is in order: every argument has been told; the inputs are those of the plan.
-/
namespace Go.Proofs.YtcgkndfnhjcdnaaGreat.Pl

theorem findFrom_append (a b : List DeclM) (t : List UInt8) : ∀ i : Int, 0 ≤ i → 0 ≤ findFrom a t i → findFrom (a ++ b) t i = findFrom a t i := by
  induction a with
  | nil => intro i hi h; rw [findFrom] at h; omega
  | cons d a ih =>
    intro i hi h
    rw [List.cons_append, findFrom]
    rw [findFrom] at h ⊢
    by_cases hn : d.name = t
    · rw [if_pos hn, if_pos hn]
    · rw [if_neg hn] at h ⊢
      rw [if_neg hn]
      exact ih (i + 1) (by omega) h
theorem Told.more {toks : List (List UInt8)} {names : List DeclM} {n i : Nat} (h : Told toks names n i) (b : List DeclM) : Told toks (names ++ b) n i := by
  refine ⟨h.1, ?_⟩
  rcases h.2 with h | ⟨k, h1, h2⟩
  · exact .inl h
  · refine .inr ⟨k, ?_, h2⟩
    unfold findD at *
    rw [findFrom_append _ _ _ 0 (by omega) (by omega), h1]
theorem StepOk.more {toks : List (List UInt8)} {names : List DeclM} {n p kind : Nat} (h : StepOk toks names n p kind) (b : List DeclM) : StepOk toks (names ++ b) n p kind := by
  refine ⟨h.1, ?_⟩
  rcases h.2 with ⟨h1, h2, h3, h4⟩ | ⟨h1, h2, h3, h4, h5⟩ | ⟨h1, h2, h3, h4⟩ | ⟨h1, h2, h3⟩
  · exact .inl ⟨h1, h2, h3.more b, h4.more b⟩
  · exact .inr (.inl ⟨h1, h2, h3.more b, h4.more b, h5.more b⟩)
  · exact .inr (.inr (.inl ⟨h1, h2, h3.more b, h4.more b⟩))
  · exact .inr (.inr (.inr ⟨h1, h2, h3.more b⟩))
theorem DeclOk.more {toks : List (List UInt8)} {names : List DeclM} {n : Nat} {d : DeclM} (h : DeclOk toks names n d) (b : List DeclM) : DeclOk toks (names ++ b) n d := by
  rcases h with h | ⟨h, p, h1, h2⟩ | ⟨h, p, h1, h2⟩
  · exact .inl h
  · exact .inr (.inl ⟨h, p, h1, h2.more b⟩)
  · exact .inr (.inr ⟨h, p, h1, h2.more b⟩)
theorem WF.snoc {toks : List (List UInt8)} {names : List DeclM} {d : DeclM} (h : WF toks names) (hd : DeclOk toks names names.length d) : WF toks (names ++ [d]) := by
  intro j hj
  by_cases hl : j < names.length
  · rw [List.getElem_append_left hl]; exact (h j hl).more [d]
  · have : j = names.length := by simp at hj; omega
    subst this
    simp only [List.getElem_concat_length]
    exact hd.more [d]
theorem getD_atR {toks : List (List UInt8)} {p : Nat} (h1 : p < toks.length) (h2 : p < 600) : toks.getD p [] = atR toks p := by unfold atR; rw [if_pos ⟨h1, h2⟩]
theorem known_told {toks : List (List UInt8)} {names : List DeclM} {es : List (List UInt8 × Int × Int)} (hR : RelL names es) {p : Nat} (h1 : p < toks.length) (h2 : p < 600) {kd a : Int} (hk : knownOf es (atR toks p) kd = some a) : Told toks names names.length p := by
  refine ⟨h1, .inr ?_⟩
  rw [getD_atR h1 h2]
  unfold knownOf at hk
  split at hk
  · cases hk
  · rename_i e he
    have hl : findEnt es (atR toks p) < es.length := (List.getElem?_eq_some_iff.1 he).1
    refine ⟨findEnt es (atR toks p), ?_, by rw [hR.len]; exact hl⟩
    unfold findD
    rw [hR.find, if_pos hl]; omega
theorem arg_told {toks : List (List UInt8)} {names : List DeclM} {es : List (List UInt8 × Int × Int)} (hR : RelL names es) {p : Nat} (h1 : p < toks.length) (h2 : p < 600) {nodes m : List NodeM} {a : Int} (h : ArgN es nodes (atR toks p) a m) : Told toks names names.length p := by
  rcases h with ⟨hn, _, _⟩ | ⟨_, _, hk⟩
  · exact ⟨h1, .inl (by rw [getD_atR h1 h2]; exact hn)⟩
  · exact known_told hR h1 h2 hk
theorem num_told {toks : List (List UInt8)} (names : List DeclM) (n : Nat) {p : Nat} (h1 : p < toks.length) (h2 : p < 600) {lo hi : Int} (h : within (atR toks p) lo hi = true) : Told toks names n p :=
  ⟨h1, .inl (by rw [getD_atR h1 h2]; unfold within at h; simp at h; exact h.1.1)⟩
theorem opOf_word {t : List UInt8} {op : Int} (h : opOf t = some op) : (op = 2 → t = kAdd) ∧ (op = 3 → t = kSub) ∧ (op = 4 → t = kMul) ∧ (op = 8 → t = kFlr) ∧ (op = 7 → t = kSel) ∧ (op = 13 → t = kLt) ∧ (op = 14 → t = kLe) ∧ (op = 15 → t = kEq) ∧ (op = 16 → t = kAnd) ∧ (op = 17 → t = kOr) ∧ (op = 18 → t = kNot) := by
  unfold opOf at h
  repeat' split at h
  all_goals first
    | (cases h; refine ⟨?_, ?_, ?_, ?_, ?_, ?_, ?_, ?_, ?_, ?_, ?_⟩ <;> intro hc <;> first | assumption | exact absurd hc (by decide))
    | cases h
theorem step_ok {toks : List (List UInt8)} {names : List DeclM} {es : List (List UInt8 × Int × Int)} {nodes more : List NodeM} {i : Nat} {op : Int} {ws : List UInt8} {k : UInt8} (name : List UInt8) (hR : RelL names es) (hw : WordOp (atR toks (i + 2)) op ws k) (hs : StepN es nodes toks (i + 3) op more) (hl : i + 3 + ws.length ≤ toks.length) (hl6 : i + 3 + ws.length ≤ 600) : DeclOk toks names names.length ⟨name, k.toNat, 0, 0, (i : Int) + 2⟩ := by
  refine .inr (.inr ?_)
  have hkw := kind_of_word hw
  have hp : i + 2 < toks.length ∧ i + 2 < 600 := by omega
  have hg := getD_atR hp.1 hp.2
  obtain ⟨ho, hfm, hcs⟩ := hw
  have hwd := opOf_word ho
  refine ⟨?_, i + 2, by simp, hp.1, ?_⟩
  · rcases hcs with ⟨_, _, rfl⟩ | ⟨_, _, rfl⟩ | ⟨_, _, rfl⟩ | ⟨_, _, rfl⟩ | ⟨_, _, rfl⟩ | ⟨_, _, rfl⟩ | ⟨_, _, rfl⟩ <;> simp
  · rw [hg]
    rcases hcs with ⟨hop, rfl, rfl⟩ | ⟨rfl, rfl, rfl⟩ | ⟨rfl, rfl, rfl⟩ | ⟨rfl, rfl, rfl⟩ | ⟨hop, rfl, rfl⟩ | ⟨hop, rfl, rfl⟩ | ⟨rfl, rfl, rfl⟩
    · rcases hs with ⟨_, a, m, b, m', h1, h2, _⟩ | ⟨h, _⟩ | ⟨h, _⟩ | ⟨h, _⟩ | ⟨h, _⟩ | ⟨h, _⟩ <;> try omega
      refine .inl ⟨?_, rfl, arg_told hR (by simp at hl; omega) (by simp at hl6; omega) h1, arg_told hR (by simp at hl; omega) (by simp at hl6; omega) h2⟩
      rcases hop with hop | hop
      · exact .inl (hwd.1 hop)
      · exact .inr (.inl (hwd.2.1 hop))
    · rcases hs with ⟨h, _⟩ | ⟨_, hwi, a, m, h1, _⟩ | ⟨h, _⟩ | ⟨h, _⟩ | ⟨h, _⟩ | ⟨h, _⟩ <;> try omega
      exact .inl ⟨.inr (.inr (.inl (hwd.2.2.1 rfl))), rfl, num_told _ _ (by simp at hl; omega) (by simp at hl6; omega) hwi, arg_told hR (by simp at hl; omega) (by simp at hl6; omega) h1⟩
    · rcases hs with ⟨h, _⟩ | ⟨h, _⟩ | ⟨_, hwi, a, m, h1, _⟩ | ⟨h, _⟩ | ⟨h, _⟩ | ⟨h, _⟩ <;> try omega
      exact .inl ⟨.inr (.inr (.inr (hwd.2.2.2.1 rfl))), rfl, arg_told hR (by simp at hl; omega) (by simp at hl6; omega) h1, num_told _ _ (by simp at hl; omega) (by simp at hl6; omega) hwi⟩
    · rcases hs with ⟨h, _⟩ | ⟨h, _⟩ | ⟨h, _⟩ | ⟨_, a, m, b, m', d, m'', h1, h2, h3, _⟩ | ⟨h, _⟩ | ⟨h, _⟩ <;> try omega
      exact .inr (.inl ⟨hwd.2.2.2.2.1 rfl, rfl, known_told hR (by simp at hl; omega) (by simp at hl6; omega) h1.2, arg_told hR (by simp at hl; omega) (by simp at hl6; omega) h2, arg_told hR (by simp at hl; omega) (by simp at hl6; omega) h3⟩)
    · rcases hs with ⟨_, a, m, b, m', h1, h2, _⟩ | ⟨h, _⟩ | ⟨h, _⟩ | ⟨h, _⟩ | ⟨h, _⟩ | ⟨h, _⟩ <;> try omega
      refine .inr (.inr (.inl ⟨?_, rfl, arg_told hR (by simp at hl; omega) (by simp at hl6; omega) h1, arg_told hR (by simp at hl; omega) (by simp at hl6; omega) h2⟩))
      rcases hop with hop | hop | hop
      · exact .inl (hwd.2.2.2.2.2.1 hop)
      · exact .inr (.inl (hwd.2.2.2.2.2.2.1 hop))
      · exact .inr (.inr (.inl (hwd.2.2.2.2.2.2.2.1 hop)))
    · rcases hs with ⟨h, _⟩ | ⟨h, _⟩ | ⟨h, _⟩ | ⟨h, _⟩ | ⟨_, a, m, b, m', h1, h2, _⟩ | ⟨h, _⟩ <;> try omega
      refine .inr (.inr (.inl ⟨?_, rfl, known_told hR (by simp at hl; omega) (by simp at hl6; omega) h1.2, known_told hR (by simp at hl; omega) (by simp at hl6; omega) h2.2⟩))
      rcases hop with hop | hop
      · exact .inr (.inr (.inr (.inl (hwd.2.2.2.2.2.2.2.2.1 hop))))
      · exact .inr (.inr (.inr (.inr (hwd.2.2.2.2.2.2.2.2.2.1 hop))))
    · rcases hs with ⟨h, _⟩ | ⟨h, _⟩ | ⟨h, _⟩ | ⟨h, _⟩ | ⟨h, _⟩ | ⟨_, a, m, h1, _⟩ <;> try omega
      exact .inr (.inr (.inr ⟨hwd.2.2.2.2.2.2.2.2.2.2 rfl, rfl, known_told hR (by simp at hl; omega) (by simp at hl6; omega) h1.2⟩))
theorem Built.wf {toks : List (List UInt8)} {names : List DeclM} {r : RdM} (h : Built toks names r) : WF toks names := by
  induction h with
  | start => intro j hj; simp at hj
  | input h d i hk hn h1 h2 h3 hne hfr ih => exact ih.snoc (.inl ⟨hk, h1, by omega, by omega, h3⟩)
  | @step names r h i op ws k more name hw hs hm hne hl hl6 hfr ih => exact ih.snoc (step_ok name h.rel.1 hw hs hl hl6)
  | @out names r h i a m name ha hne hl hl6 hfr ih =>
    obtain ⟨hR, _, _⟩ := h.rel
    exact ih.snoc (.inr (.inl ⟨rfl, i + 2, by simp, arg_told hR (by omega) (by omega) ha⟩))
/-- The inputs stand first, and are those of the plan. -/
theorem Built.inputs {toks : List (List UInt8)} {names : List DeclM} {r : RdM} (h : Built toks names r) : (names.take r.ins.length).map (fun d => (d.lo, d.hi)) = r.ins ∧ r.ins.length ≤ names.length ∧ countD names 105 = r.ins.length ∧ ∀ j, (hj : j < names.length) → (names[j].kind = 105 ↔ j < r.ins.length) := by
  have keep : ∀ {names : List DeclM} {ins : List (Int × Int)} (d : DeclM), d.kind ≠ 105 → ((names.take ins.length).map (fun d => (d.lo, d.hi)) = ins ∧ ins.length ≤ names.length ∧ countD names 105 = ins.length ∧ ∀ j, (hj : j < names.length) → (names[j].kind = 105 ↔ j < ins.length)) →
      (((names ++ [d]).take ins.length).map (fun d => (d.lo, d.hi)) = ins ∧ ins.length ≤ (names ++ [d]).length ∧ countD (names ++ [d]) 105 = ins.length ∧ ∀ j, (hj : j < (names ++ [d]).length) → ((names ++ [d])[j].kind = 105 ↔ j < ins.length)) := by
    intro names ins d hd ⟨h1, h2, h3, h4⟩
    refine ⟨by rw [List.take_append_of_le_length h2]; exact h1, by simp; omega, by rw [countD_snoc, if_neg hd]; omega, fun j hj => ?_⟩
    by_cases hl : j < names.length
    · rw [List.getElem_append_left hl]; exact h4 j hl
    · have : j = names.length := by simp at hj; omega
      subst this
      simp only [List.getElem_concat_length]
      exact ⟨fun h => absurd h hd, fun h => by omega⟩
  induction h with
  | start => exact ⟨rfl, Nat.le_refl _, rfl, fun j hj => by simp at hj⟩
  | @input names r h d i hk hn h1 h2 h3 hne hfr ih =>
    obtain ⟨q1, q2, q3, q4⟩ := ih
    refine ⟨?_, by simp; omega, by rw [countD_snoc, if_pos hk]; simp; omega, fun j hj => ?_⟩
    · simp only [List.length_append, List.length_singleton]
      rw [List.take_of_length_le (by simp; omega), List.map_append]
      rw [List.take_of_length_le (by omega)] at q1
      rw [q1]; rfl
    · by_cases hl : j < names.length
      · rw [List.getElem_append_left hl]; have := q4 j hl; simp; omega
      · have : j = names.length := by simp at hj; omega
        subst this
        simp only [List.getElem_concat_length]
        exact ⟨fun _ => by simp; omega, fun _ => hk⟩
  | step h i op ws k more name hw hs hm hne hl hl6 hfr ih => exact keep _ (kind_of_word hw).2.1 ih
  | out h i a m name ha hne hl hl6 hfr ih => exact keep _ (by simp) ih
theorem fitsF_home (n : Nat) : ∀ (names : List DeclM) (home : List Int), n ≤ names.length → home.length = n → fitsF n names home = homeFrom ((names.take n).map fun d => (d.lo, d.hi)) home := by
  induction n with
  | zero => intro names home _ _; cases home <;> rfl
  | succ n ih =>
    intro names home h1 h2
    cases names with
    | nil => simp at h1
    | cons d names =>
      cases home with
      | nil => simp at h2
      | cons x home =>
        rw [fitsF, ih names home (by simpa using h1) (by simpa using h2)]
        rfl
theorem Built.fits {toks : List (List UInt8)} {names : List DeclM} {r : RdM} (h : Built toks names r) (home : List Int) : fitsD names home = isHomeB r.ins home := by
  obtain ⟨h1, h2, h3, _⟩ := h.inputs
  unfold fitsD isHomeB
  rw [h3]
  by_cases hl : home.length = r.ins.length
  · rw [fitsF_home _ names home h2 hl, h1]
  · rw [decide_eq_false hl, Bool.false_and, Bool.false_and]

end Go.Proofs.YtcgkndfnhjcdnaaGreat.Pl

/-
  The bounds: the program's big is the reference's wide.
-/
namespace Go.Proofs.YtcgkndfnhjcdnaaGreat.Pl
open Go.RowKit

theorem pickL_zeros (l : List Int) (k : Nat) (i : Int) : pickL (l ++ List.replicate k 0) i = pickL l i := by
  unfold pickL
  by_cases h : 0 ≤ i ∧ i < l.length
  · rw [if_pos (by simp; omega), if_pos h, List.getD_eq_getElem?_getD, List.getD_eq_getElem?_getD, List.getElem?_append_left (by omega)]
  · rw [if_neg h]
    split
    · rename_i hc
      rw [List.getD_eq_getElem?_getD, List.getElem?_append_right (by omega)]
      rw [List.getElem?_replicate]
      split <;> rfl
    · rfl
theorem nodeBound_zeros (ins : List (Int × Int)) (n : NodeM) (bs : List Int) (k : Nat) : nodeBoundW ins n (bs ++ List.replicate k 0) = nodeBoundW ins n bs := by
  unfold nodeBoundW; simp only [pickL_zeros]
theorem nodeValue_zeros (n : NodeM) (vs home : List Int) (k : Nat) : nodeValueW n (vs ++ List.replicate k 0) home = nodeValueW n vs home := by
  unfold nodeValueW; simp only [pickL_zeros]
def boundsF (ins : List (Int × Int)) : List NodeM → List Int → List Int
  | [], bs => bs
  | n :: l, bs => boundsF ins l (bs ++ [nodeBoundW ins n bs])
def valsF (home : List Int) : List NodeM → List Int → List Int
  | [], vs => vs
  | n :: l, vs => valsF home l (vs ++ [nodeValueW n vs home])
theorem valuesFrom_eq (len : Nat) (home : List Int) (l : List NodeM) : ∀ vs, valuesFrom len home l vs = valsF home l vs := by
  induction l with
  | nil => intro vs; rfl
  | cons n l ih => intro vs; rw [valuesFrom, valsF, nodeValue_zeros, ih]
theorem boundsF_append (ins : List (Int × Int)) (a b : List NodeM) : ∀ bs, boundsF ins (a ++ b) bs = boundsF ins b (boundsF ins a bs) := by
  induction a with
  | nil => intro bs; rfl
  | cons n a ih => intro bs; rw [List.cons_append, boundsF, boundsF, ih]
theorem valsF_append (home : List Int) (a b : List NodeM) : ∀ vs, valsF home (a ++ b) vs = valsF home b (valsF home a vs) := by
  induction a with
  | nil => intro vs; rfl
  | cons n a ih => intro vs; rw [List.cons_append, valsF, valsF, ih]
theorem boundsF_ext (ins : List (Int × Int)) (a : List NodeM) : ∀ bs, ∃ t, boundsF ins a bs = bs ++ t ∧ t.length = a.length := by
  induction a with
  | nil => intro bs; exact ⟨[], by simp [boundsF], rfl⟩
  | cons n a ih => intro bs; obtain ⟨t, h, h2⟩ := ih (bs ++ [nodeBoundW ins n bs]); exact ⟨nodeBoundW ins n bs :: t, by rw [boundsF, h]; simp, by simp [h2]⟩
theorem valsF_ext (home : List Int) (a : List NodeM) : ∀ vs, ∃ t, valsF home a vs = vs ++ t ∧ t.length = a.length := by
  induction a with
  | nil => intro vs; exact ⟨[], by simp [valsF], rfl⟩
  | cons n a ih => intro vs; obtain ⟨t, h, h2⟩ := ih (vs ++ [nodeValueW n vs home]); exact ⟨nodeValueW n vs home :: t, by rw [valsF, h]; simp, by simp [h2]⟩
theorem pickL_append {l t : List Int} {i : Int} (h : i < l.length) : pickL (l ++ t) i = pickL l i := by
  unfold pickL
  by_cases h0 : 0 ≤ i
  · rw [if_pos (by simp; omega), if_pos ⟨h0, h⟩, List.getD_eq_getElem?_getD, List.getD_eq_getElem?_getD, List.getElem?_append_left (by omega)]
  · rw [if_neg (by omega), if_neg (by omega)]
theorem pickL_last (l : List Int) (x : Int) : pickL (l ++ [x]) l.length = x := by
  unfold pickL; rw [if_pos (by simp; omega)]; simp
def over (b : Int) : Bool := decide (1000000000000000 < b)
theorem bigFrom_eq (ins : List (Int × Int)) (len : Nat) (l : List NodeM) : ∀ bs t, boundsF ins l bs = bs ++ t → bigFrom ins len l bs = t.any over := by
  induction l with
  | nil => intro bs t h; rw [boundsF] at h; have : t = [] := List.append_right_eq_self.1 h.symm; rw [this]; rfl
  | cons n l ih =>
    intro bs t h
    rw [boundsF] at h
    rw [bigFrom, nodeBound_zeros]
    obtain ⟨t', h2, _⟩ := boundsF_ext ins l (bs ++ [nodeBoundW ins n bs])
    have ht : t = nodeBoundW ins n bs :: t' := by
      rw [h2, List.append_assoc] at h
      exact (List.append_cancel_left h).symm
    rw [ht, List.any_cons, ih _ _ h2]
    unfold over
    by_cases hb : 1000000000000000 < nodeBoundW ins n bs
    · rw [if_pos hb, decide_eq_true hb]; rfl
    · rw [if_neg hb, decide_eq_false hb]; rfl
def wKnown (toks : List (List UInt8)) (names : List DeclM) : List DeclM → List Int → List Int
  | [], known => known
  | d :: r, known => wKnown toks names r (known ++ [wideOf toks names d known])
theorem wKnown_ext (toks : List (List UInt8)) (names l : List DeclM) : ∀ known, ∃ t, wKnown toks names l known = known ++ t ∧ t.length = l.length := by
  induction l with
  | nil => intro known; exact ⟨[], by simp [wKnown], rfl⟩
  | cons d l ih => intro known; obtain ⟨t, h, h2⟩ := ih (known ++ [wideOf toks names d known]); exact ⟨wideOf toks names d known :: t, by rw [wKnown, h]; simp, by simp [h2]⟩
theorem wideFrom_eq (toks : List (List UInt8)) (names l : List DeclM) : ∀ known t, wKnown toks names l known = known ++ t → wideFrom toks names l known = t.any over := by
  induction l with
  | nil => intro bs t h; rw [wKnown] at h; have : t = [] := List.append_right_eq_self.1 h.symm; rw [this]; rfl
  | cons d l ih =>
    intro known t h
    rw [wKnown] at h
    rw [wideFrom]
    obtain ⟨t', h2, _⟩ := wKnown_ext toks names l (known ++ [wideOf toks names d known])
    have ht : t = wideOf toks names d known :: t' := by
      rw [h2, List.append_assoc] at h
      exact (List.append_cancel_left h).symm
    rw [ht, List.any_cons, ih _ _ h2]
    unfold over
    by_cases hb : 1000000000000000 < wideOf toks names d known
    · rw [if_pos hb, decide_eq_true hb]; rfl
    · rw [if_neg hb, decide_eq_false hb]; rfl
/-- What is told of a token does not hang on names behind. -/
theorem bound_more {toks : List (List UInt8)} {names : List DeclM} {n i : Nat} (h : Told toks names n i) (b : List DeclM) (known : List Int) : boundR toks (names ++ b) known i = boundR toks names known i := by
  unfold boundR
  rcases h.2 with h | ⟨k, h1, _⟩
  · rw [if_pos h, if_pos h]
  · have : findD (names ++ b) (toks.getD i []) = findD names (toks.getD i []) := by unfold findD at *; rw [findFrom_append _ _ _ 0 (by omega) (by omega)]
    rw [this]
theorem value_more {toks : List (List UInt8)} {names : List DeclM} {n i : Nat} (h : Told toks names n i) (b : List DeclM) (known : List Int) : valueR toks (names ++ b) known i = valueR toks names known i := by
  unfold valueR
  rcases h.2 with h | ⟨k, h1, _⟩
  · rw [if_pos h, if_pos h]
  · have : findD (names ++ b) (toks.getD i []) = findD names (toks.getD i []) := by unfold findD at *; rw [findFrom_append _ _ _ 0 (by omega) (by omega)]
    rw [this]

end Go.Proofs.YtcgkndfnhjcdnaaGreat.Pl

/-
  The text of one table is read as a plan of two nodes: the input and the table.
-/
namespace Go.Proofs.YtcgkndfnhjcdnaaGreat.Pl

theorem newName_at {r : RdM} {t : List UInt8} {ts : List (List UInt8)} (h : r.toks.drop r.pos = t :: ts) (hp : r.pos < 600) (hn : isName t = true) (hf : findEnt r.ents t = r.ents.length) : r.newName = some t := by
  unfold RdM.newName
  rw [peek_at h hp, if_pos ⟨hn, hf⟩]
theorem read_input (W ts : List (List UInt8)) (hW : W = kIn :: [120] :: tLo :: tHi :: ts) : inputR ⟨[], [], [], W, 1, []⟩ = (true, ⟨[(-200000, 200000)], [⟨1, 0, 0, 0, 0, []⟩], [], W, 4, [([120], 0, 0)]⟩) := by
  have d1 : W.drop 1 = [120] :: tLo :: tHi :: ts := by rw [hW]; rfl
  have d2 := drop_next d1
  have d3 := drop_next d2
  unfold inputR
  rw [newName_at (r := ⟨[], [], [], W, 1, []⟩) d1 (by simp) (by decide) rfl]
  simp only
  rw [skip_at (r := ⟨[], [], [], W, 1, []⟩) d1 (by simp) (by decide)]
  rw [num_at (r := ⟨[], [], [], W, 1 + 1, []⟩) d2 (by simp) (-1000000000) 1000000000 (-200000) (by decide) (by omega) (by omega)]
  simp only
  rw [skip_at (r := ⟨[], [], [], W, 1 + 1, []⟩) d2 (by simp) (by decide)]
  rw [num_at (r := ⟨[], [], [], W, 1 + 1 + 1, []⟩) d3 (by simp) (-200000) 1000000000 200000 (by decide) (by omega) (by omega)]
  simp only
  rw [skip_at (r := ⟨[], [], [], W, 1 + 1 + 1, []⟩) d3 (by simp) (by decide)]
  rfl
theorem read_x (m : Nat) (r : RdM) (ts : List (List UInt8)) (h : r.toks.drop r.pos = [120] :: ts) (hp : r.pos < 600) (he : r.ents = [([120], 0, 0)]) : read m false r = (some 0, { r with pos := r.pos + 1 }) := by
  have hpk := peek_at h hp
  have hleaf : r.leaf = (some 0, { r with pos := r.pos + 1 }) := by
    unfold RdM.leaf RdM.constant
    have hn : r.num (-1000000000) 1000000000 = none := by unfold RdM.num; rw [hpk, if_neg (by decide)]
    rw [hn]
    simp only
    have hk : r.known 0 = some 0 := by unfold RdM.known; rw [hpk, he]; rfl
    unfold RdM.knownStep
    rw [hk]
    simp only
    rw [skip_at h hp (by decide)]
  cases m with
  | zero => exact hleaf
  | succ m =>
    show exprR _ _ r = _
    unfold exprR
    rw [hpk, if_neg (by decide), if_neg (by decide), if_neg (by decide), if_neg (by decide), if_neg (by decide), if_neg (by decide), if_neg (by decide), if_neg (by decide), hleaf]
theorem read_band (l : List (Int × Int)) (h1 : 1 ≤ l.length) (h6 : l.length ≤ 6) (hr : Rising (-1000000000) l) :
    textR (startR (bandText l)) = (true, ⟨[(-200000, 200000)], [⟨1, 0, 0, 0, 0, []⟩, ⟨12, 0, 0, 0, 0, l⟩], [1], bandWords l, 9 + 2 * l.length, [([120], 0, 0), ([116], 2, 1)]⟩) := by
  have hst : startR (bandText l) = ⟨[], [], [], bandWords l, 0, []⟩ := by unfold startR bandText; rw [tokens_unwords _ (bandWords_good l h6 hr)]
  rw [hst]
  have hlen : (bandWords l).length = 9 + 2 * l.length := by unfold bandWords; simp [bandToks_len]; omega
  generalize hW : bandWords l = W at *
  have d0 : W.drop 0 = kIn :: [120] :: tLo :: tHi :: kOut :: [116] :: kTab :: [120] :: decimalOf l.length :: bandToks l := by rw [← hW]; rfl
  have d4 : W.drop 4 = kOut :: [116] :: kTab :: [120] :: decimalOf l.length :: bandToks l := by rw [← hW]; rfl
  have d5 := drop_next d4
  have d6 := drop_next d5
  have d7 := drop_next d6
  have d8 := drop_next d7
  have d9 := drop_next d8
  have hI := read_input W _ (by rw [← hW]; rfl)
  have p4 : ∀ ins nodes outs ents, RdM.peek ⟨ins, nodes, outs, W, 4, ents⟩ = kOut := fun ins nodes outs ents => peek_at (r := ⟨ins, nodes, outs, W, 4, ents⟩) d4 (by simp)
  have hin : inputsR 4 false ⟨[], [], [], W, 0, []⟩ = (true, ⟨[(-200000, 200000)], [⟨1, 0, 0, 0, 0, []⟩], [], W, 4, [([120], 0, 0)]⟩) := by
    rw [inputsR, peek_at (r := ⟨[], [], [], W, 0, []⟩) d0 (by simp), if_pos rfl, skip_at (r := ⟨[], [], [], W, 0, []⟩) d0 (by simp) (by decide)]
    show (match inputR ⟨[], [], [], W, 1, []⟩ with | (false, r1) => (false, r1) | (true, r1) => inputsR 3 true r1) = _
    rw [hI]
    show inputsR 3 true _ = _
    rw [inputsR, p4, if_neg (by decide)]
  have hlet : letsR 16 ⟨[(-200000, 200000)], [⟨1, 0, 0, 0, 0, []⟩], [], W, 4, [([120], 0, 0)]⟩ = (true, ⟨[(-200000, 200000)], [⟨1, 0, 0, 0, 0, []⟩], [], W, 4, [([120], 0, 0)]⟩) := by
    rw [letsR, p4, if_neg (by decide)]
  have hN := number_decimal (l.length : Int) (by omega) (by omega)
  have hdN := (decimal_tok (l.length : Int) (by omega) (by omega)).1
  have htab : read 600 false ⟨[(-200000, 200000)], [⟨1, 0, 0, 0, 0, []⟩], [], W, 6, [([120], 0, 0)]⟩ = (some 1, ⟨[(-200000, 200000)], [⟨1, 0, 0, 0, 0, []⟩, ⟨12, 0, 0, 0, 0, l⟩], [], W, 9 + 2 * l.length, [([120], 0, 0)]⟩) := by
    show exprR (read 599 true) (read 599 false) _ = _
    unfold exprR
    rw [peek_at (r := ⟨[(-200000, 200000)], [⟨1, 0, 0, 0, 0, []⟩], [], W, 6, [([120], 0, 0)]⟩) d6 (by simp)]
    rw [if_neg (by decide), if_neg (by decide), if_neg (by decide), if_neg (by decide), if_neg (by decide), if_neg (by decide), if_neg (by decide), if_pos rfl]
    rw [skip_at (r := ⟨[(-200000, 200000)], [⟨1, 0, 0, 0, 0, []⟩], [], W, 6, [([120], 0, 0)]⟩) d6 (by simp) (by decide)]
    unfold tableR
    rw [read_x 599 ⟨[(-200000, 200000)], [⟨1, 0, 0, 0, 0, []⟩], [], W, 6 + 1, [([120], 0, 0)]⟩ _ d7 (by simp) rfl]
    simp only
    rw [num_at (r := ⟨[(-200000, 200000)], [⟨1, 0, 0, 0, 0, []⟩], [], W, 6 + 1 + 1, [([120], 0, 0)]⟩) d8 (by simp) 1 6 l.length hN (by omega) (by omega)]
    simp only [Int.toNat_natCast]
    rw [skip_at (r := ⟨[(-200000, 200000)], [⟨1, 0, 0, 0, 0, []⟩], [], W, 6 + 1 + 1, [([120], 0, 0)]⟩) d8 (by simp) hdN]
    rw [bandsR_at l ⟨[(-200000, 200000)], [⟨1, 0, 0, 0, 0, []⟩], [], W, 6 + 1 + 1 + 1, [([120], 0, 0)]⟩ [] (-1000000000) [] (by rw [List.append_nil]; exact d9) (by simp only; omega) (by omega) hr]
    simp only [List.nil_append]
    rfl
  have hnm : namedR ⟨[(-200000, 200000)], [⟨1, 0, 0, 0, 0, []⟩], [], W, 5, [([120], 0, 0)]⟩ = (some ([116], 1), ⟨[(-200000, 200000)], [⟨1, 0, 0, 0, 0, []⟩, ⟨12, 0, 0, 0, 0, l⟩], [], W, 9 + 2 * l.length, [([120], 0, 0)]⟩) := by
    unfold namedR
    rw [newName_at (r := ⟨[(-200000, 200000)], [⟨1, 0, 0, 0, 0, []⟩], [], W, 5, [([120], 0, 0)]⟩) d5 (by simp) (by decide) (by show findEnt [([120], 0, 0)] [116] = 1; decide)]
    simp only
    rw [skip_at (r := ⟨[(-200000, 200000)], [⟨1, 0, 0, 0, 0, []⟩], [], W, 5, [([120], 0, 0)]⟩) d5 (by simp) (by decide)]
    simp only
    rw [htab]
  unfold textR
  rw [hin]
  simp only
  rw [hlet]
  simp only
  rw [outsR, if_neg (by simp), p4, if_pos rfl, skip_at (r := ⟨[(-200000, 200000)], [⟨1, 0, 0, 0, 0, []⟩], [], W, 4, [([120], 0, 0)]⟩) d4 (by simp) (by decide)]
  show (match namedR ⟨[(-200000, 200000)], [⟨1, 0, 0, 0, 0, []⟩], [], W, 5, [([120], 0, 0)]⟩ with | (none, r1) => (false, r1) | (some p, r1) => outsR 3 true ((r1.addEnt p.1 2 p.2).addOut p.2)) = _
  rw [hnm]
  show outsR 3 true _ = _
  rw [outsR, if_pos ⟨rfl, by show W.length ≤ _; rw [hlen]; exact Nat.le_refl _⟩]
  rfl

end Go.Proofs.YtcgkndfnhjcdnaaGreat.Pl
