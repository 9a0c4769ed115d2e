/- Joined: Eq7 PlainBand3 Eq8. -/
import Derived.Test.YtfaljekgpnbmiaaGreatL32
/-
  The bounds: the program's big is the reference's wide.
-/
namespace Go.Proofs.YtfaljekgpnbmiaaGreat.Pl
open Go.RowKit

theorem pickL_zeros (l : List Int) (k : Nat) (i : Int) : pickL (l ++ List.replicate k 0) i = pickL l i := by
  unfold pickL
  by_cases h : 0 ≤ i ∧ i < l.length
  · rw [if_pos (by simp; omega), if_pos h, List.getD_eq_getElem?_getD, List.getD_eq_getElem?_getD, List.getElem?_append_left (by omega)]
  · rw [if_neg h]
    split
    · rename_i hc
      rw [List.getD_eq_getElem?_getD, List.getElem?_append_right (by omega)]
      rw [List.getElem?_replicate]
      split <;> rfl
    · rfl
theorem nodeBound_zeros (ins : List (Int × Int)) (n : NodeM) (bs : List Int) (k : Nat) : nodeBoundW ins n (bs ++ List.replicate k 0) = nodeBoundW ins n bs := by
  unfold nodeBoundW; simp only [pickL_zeros]
theorem nodeValue_zeros (n : NodeM) (vs home : List Int) (k : Nat) : nodeValueW n (vs ++ List.replicate k 0) home = nodeValueW n vs home := by
  unfold nodeValueW; simp only [pickL_zeros]
def boundsF (ins : List (Int × Int)) : List NodeM → List Int → List Int
  | [], bs => bs
  | n :: l, bs => boundsF ins l (bs ++ [nodeBoundW ins n bs])
def valsF (home : List Int) : List NodeM → List Int → List Int
  | [], vs => vs
  | n :: l, vs => valsF home l (vs ++ [nodeValueW n vs home])
theorem valuesFrom_eq (len : Nat) (home : List Int) (l : List NodeM) : ∀ vs, valuesFrom len home l vs = valsF home l vs := by
  induction l with
  | nil => intro vs; rfl
  | cons n l ih => intro vs; rw [valuesFrom, valsF, nodeValue_zeros, ih]
theorem boundsF_append (ins : List (Int × Int)) (a b : List NodeM) : ∀ bs, boundsF ins (a ++ b) bs = boundsF ins b (boundsF ins a bs) := by
  induction a with
  | nil => intro bs; rfl
  | cons n a ih => intro bs; rw [List.cons_append, boundsF, boundsF, ih]
theorem valsF_append (home : List Int) (a b : List NodeM) : ∀ vs, valsF home (a ++ b) vs = valsF home b (valsF home a vs) := by
  induction a with
  | nil => intro vs; rfl
  | cons n a ih => intro vs; rw [List.cons_append, valsF, valsF, ih]
theorem boundsF_ext (ins : List (Int × Int)) (a : List NodeM) : ∀ bs, ∃ t, boundsF ins a bs = bs ++ t ∧ t.length = a.length := by
  induction a with
  | nil => intro bs; exact ⟨[], by simp [boundsF], rfl⟩
  | cons n a ih => intro bs; obtain ⟨t, h, h2⟩ := ih (bs ++ [nodeBoundW ins n bs]); exact ⟨nodeBoundW ins n bs :: t, by rw [boundsF, h]; simp, by simp [h2]⟩
theorem valsF_ext (home : List Int) (a : List NodeM) : ∀ vs, ∃ t, valsF home a vs = vs ++ t ∧ t.length = a.length := by
  induction a with
  | nil => intro vs; exact ⟨[], by simp [valsF], rfl⟩
  | cons n a ih => intro vs; obtain ⟨t, h, h2⟩ := ih (vs ++ [nodeValueW n vs home]); exact ⟨nodeValueW n vs home :: t, by rw [valsF, h]; simp, by simp [h2]⟩
theorem pickL_append {l t : List Int} {i : Int} (h : i < l.length) : pickL (l ++ t) i = pickL l i := by
  unfold pickL
  by_cases h0 : 0 ≤ i
  · rw [if_pos (by simp; omega), if_pos ⟨h0, h⟩, List.getD_eq_getElem?_getD, List.getD_eq_getElem?_getD, List.getElem?_append_left (by omega)]
  · rw [if_neg (by omega), if_neg (by omega)]
theorem pickL_last (l : List Int) (x : Int) : pickL (l ++ [x]) l.length = x := by
  unfold pickL; rw [if_pos (by simp; omega)]; simp
def over (b : Int) : Bool := decide (1000000000000000 < b)
theorem bigFrom_eq (ins : List (Int × Int)) (len : Nat) (l : List NodeM) : ∀ bs t, boundsF ins l bs = bs ++ t → bigFrom ins len l bs = t.any over := by
  induction l with
  | nil => intro bs t h; rw [boundsF] at h; have : t = [] := List.append_right_eq_self.1 h.symm; rw [this]; rfl
  | cons n l ih =>
    intro bs t h
    rw [boundsF] at h
    rw [bigFrom, nodeBound_zeros]
    obtain ⟨t', h2, _⟩ := boundsF_ext ins l (bs ++ [nodeBoundW ins n bs])
    have ht : t = nodeBoundW ins n bs :: t' := by
      rw [h2, List.append_assoc] at h
      exact (List.append_cancel_left h).symm
    rw [ht, List.any_cons, ih _ _ h2]
    unfold over
    by_cases hb : 1000000000000000 < nodeBoundW ins n bs
    · rw [if_pos hb, decide_eq_true hb]; rfl
    · rw [if_neg hb, decide_eq_false hb]; rfl
def wKnown (toks : List (List UInt8)) (names : List DeclM) : List DeclM → List Int → List Int
  | [], known => known
  | d :: r, known => wKnown toks names r (known ++ [wideOf toks names d known])
theorem wKnown_ext (toks : List (List UInt8)) (names l : List DeclM) : ∀ known, ∃ t, wKnown toks names l known = known ++ t ∧ t.length = l.length := by
  induction l with
  | nil => intro known; exact ⟨[], by simp [wKnown], rfl⟩
  | cons d l ih => intro known; obtain ⟨t, h, h2⟩ := ih (known ++ [wideOf toks names d known]); exact ⟨wideOf toks names d known :: t, by rw [wKnown, h]; simp, by simp [h2]⟩
theorem wideFrom_eq (toks : List (List UInt8)) (names l : List DeclM) : ∀ known t, wKnown toks names l known = known ++ t → wideFrom toks names l known = t.any over := by
  induction l with
  | nil => intro bs t h; rw [wKnown] at h; have : t = [] := List.append_right_eq_self.1 h.symm; rw [this]; rfl
  | cons d l ih =>
    intro known t h
    rw [wKnown] at h
    rw [wideFrom]
    obtain ⟨t', h2, _⟩ := wKnown_ext toks names l (known ++ [wideOf toks names d known])
    have ht : t = wideOf toks names d known :: t' := by
      rw [h2, List.append_assoc] at h
      exact (List.append_cancel_left h).symm
    rw [ht, List.any_cons, ih _ _ h2]
    unfold over
    by_cases hb : 1000000000000000 < wideOf toks names d known
    · rw [if_pos hb, decide_eq_true hb]; rfl
    · rw [if_neg hb, decide_eq_false hb]; rfl
/-- What is told of a token does not hang on names behind. -/
theorem bound_more {toks : List (List UInt8)} {names : List DeclM} {n i : Nat} (h : Told toks names n i) (b : List DeclM) (known : List Int) : boundR toks (names ++ b) known i = boundR toks names known i := by
  unfold boundR
  rcases h.2 with h | ⟨k, h1, _⟩
  · rw [if_pos h, if_pos h]
  · have : findD (names ++ b) (toks.getD i []) = findD names (toks.getD i []) := by unfold findD at *; rw [findFrom_append _ _ _ 0 (by omega) (by omega)]
    rw [this]
theorem value_more {toks : List (List UInt8)} {names : List DeclM} {n i : Nat} (h : Told toks names n i) (b : List DeclM) (known : List Int) : valueR toks (names ++ b) known i = valueR toks names known i := by
  unfold valueR
  rcases h.2 with h | ⟨k, h1, _⟩
  · rw [if_pos h, if_pos h]
  · have : findD (names ++ b) (toks.getD i []) = findD names (toks.getD i []) := by unfold findD at *; rw [findFrom_append _ _ _ 0 (by omega) (by omega)]
    rw [this]

end Go.Proofs.YtfaljekgpnbmiaaGreat.Pl

/-
  What the table of the text comes to: 0 at its first threshold; from each number to the next it grows by the band's rate.
-/
namespace Go.Proofs.YtfaljekgpnbmiaaGreat.Pl
open Go.RowKit

theorem wrap_id (n : Int) (h : -9223372036854775808 ≤ n) (h' : n ≤ 9223372036854775807) : wrap64 n = n := by unfold wrap64; omega
theorem absW_small (n : Int) (h : -1000000000 ≤ n) (h' : n ≤ 1000000000) : absW n = if n < 0 then -n else n := by
  unfold absW; split
  · exact wrap_id _ (by omega) (by omega)
  · rfl
end Go.Proofs.YtfaljekgpnbmiaaGreat.Pl

/-
  The program's big is the reference's wide.
-/
namespace Go.Proofs.YtfaljekgpnbmiaaGreat.Pl
open Go.RowKit

/-- The bounds so far: of the nodes bs, of the names K. -/
structure BSem (toks : List (List UInt8)) (names : List DeclM) (es : List (List UInt8 × Int × Int)) (ins : List (Int × Int)) (nodes : List NodeM) (bs K : List Int) : Prop where
  bounds : bs = boundsF ins nodes []
  len : K.length = names.length
  told : ∀ j, (hj : j < names.length) → (hk : j < K.length) → K[j] = wideOf toks names names[j] (K.take j)
  node : ∀ j, (hj : j < es.length) → (hk : j < K.length) → es[j].2.1 ≠ 2 → 0 ≤ es[j].2.2 ∧ es[j].2.2 < bs.length ∧ pickL bs es[j].2.2 = K[j]
  big : bs.any over = K.any over
  inp : ∀ n ∈ nodes, n.op = 1 → 0 ≤ n.k ∧ n.k < ins.length
theorem boundsF_len (ins : List (Int × Int)) (nodes : List NodeM) : (boundsF ins nodes []).length = nodes.length := by
  obtain ⟨t, h, h2⟩ := boundsF_ext ins nodes []
  rw [h]; simpa using h2
theorem absW_num (n : Int) (h : -1000000000 ≤ n ∧ n ≤ 1000000000) : absW n = absv n := by
  rw [absW_small n h.1 h.2]; rfl
theorem over_small {b : Int} (h : b ≤ 1000000000) : over b = false := by unfold over; rw [decide_eq_false_iff_not]; omega
theorem absv_small {n : Int} (h : -1000000000 ≤ n ∧ n ≤ 1000000000) : absv n ≤ 1000000000 := by unfold absv; split <;> omega
/-- An argument: what is laid for it, its bound, its place. -/
theorem arg_bound {toks : List (List UInt8)} {names : List DeclM} {es : List (List UInt8 × Int × Int)} {ins : List (Int × Int)} {bs K : List Int} {nodes m : List NodeM} {a : Int} {p : Nat}
    (hR : RelL names es) (hK : K.length = names.length) (hnode : ∀ j, (hj : j < es.length) → (hk : j < K.length) → es[j].2.1 ≠ 2 → 0 ≤ es[j].2.2 ∧ es[j].2.2 < bs.length ∧ pickL bs es[j].2.2 = K[j]) (hbl : bs.length = nodes.length)
    (h1 : p < toks.length) (h2 : p < 600) (h : ArgN es nodes (atR toks p) a m) :
    ∃ t, boundsF ins m bs = bs ++ t ∧ t.length = m.length ∧ t.any over = false ∧ 0 ≤ a ∧ a < (bs ++ t).length ∧ pickL (bs ++ t) a = boundR toks names K p ∧ (∀ n ∈ m, n.op ≠ 1) := by
  have hg := getD_atR h1 h2
  unfold boundR
  rw [hg]
  rcases h with ⟨hn, rfl, rfl⟩ | ⟨hn, rfl, hk⟩
  · have hb := number_bd (atR toks p)
    refine ⟨[absv (number (atR toks p)).1], ?_, rfl, ?_, by omega, by simp [hbl]; omega, ?_, ?_⟩
    · show bs ++ [absW (number (atR toks p)).1] = _
      rw [absW_num _ hb]
    · simp [over_small (absv_small hb)]
    · rw [if_pos hn, ← hbl, pickL_last]
    · intro n hn; simp at hn; subst hn; simp
  · rw [if_neg (by simp [hn])]
    unfold knownOf at hk
    split at hk
    · cases hk
    · rename_i e he
      obtain ⟨hl, rfl⟩ := List.getElem?_eq_some_iff.1 he
      split at hk
      · rename_i h0
        cases hk
        have hj : findEnt es (atR toks p) < K.length := by rw [hK, hR.len]; exact hl
        obtain ⟨q1, q2, q3⟩ := hnode _ hl hj (by omega)
        refine ⟨[], by simp [boundsF], rfl, rfl, q1, by simpa using q2, ?_, by simp⟩
        rw [List.append_nil, q3]
        unfold knownAt findD
        rw [hR.find, if_pos hl]
        simp only [Int.zero_add, Int.toNat_natCast]
        rw [List.getD_eq_getElem?_getD, List.getElem?_eq_getElem hj]; rfl
      · cases hk
theorem node_more {es : List (List UInt8 × Int × Int)} {bs K : List Int} (hnode : ∀ j, (hj : j < es.length) → (hk : j < K.length) → es[j].2.1 ≠ 2 → 0 ≤ es[j].2.2 ∧ es[j].2.2 < bs.length ∧ pickL bs es[j].2.2 = K[j]) (t : List Int) : ∀ j, (hj : j < es.length) → (hk : j < K.length) → es[j].2.1 ≠ 2 → 0 ≤ es[j].2.2 ∧ es[j].2.2 < (bs ++ t).length ∧ pickL (bs ++ t) es[j].2.2 = K[j] := by
  intro j hj hk h2
  obtain ⟨q1, q2, q3⟩ := hnode j hj hk h2
  exact ⟨q1, by simp; omega, by rw [pickL_append q2]; exact q3⟩
theorem wideOf_more {toks : List (List UInt8)} {names : List DeclM} {n : Nat} {d : DeclM} (h : DeclOk toks names n d) (b : List DeclM) (known : List Int) : wideOf toks (names ++ b) d known = wideOf toks names d known := by
  unfold wideOf
  by_cases h1 : d.kind = 105
  · rw [if_pos h1, if_pos h1]
  rw [if_neg h1, if_neg h1]
  by_cases h2 : d.kind = 118
  · rw [if_pos h2, if_pos h2]
    rcases h with ⟨h3, _⟩ | ⟨h3, _⟩ | ⟨_, p, hp, hs⟩
    · exact absurd h3 h1
    · omega
    · rw [hp, Int.toNat_natCast]
      rw [h2] at hs
      unfold reachR reachV
      rcases hs.2 with ⟨ho, _, t1, t2⟩ | ⟨ho, _, t1, t2, t3⟩ | ⟨_, hk, _⟩ | ⟨_, hk, _⟩
      · rw [bound_more t1, bound_more t2]
        rcases ho with ho | ho | ho | ho <;> rw [ho] <;> rfl
      · rw [bound_more t2, bound_more t3, ho]; rfl
      · omega
      · omega
  · rw [if_neg h2, if_neg h2]
/-- One name more. -/
theorem BSem.snoc {toks : List (List UInt8)} {names : List DeclM} {es : List (List UInt8 × Int × Int)} {ins ins' : List (Int × Int)} {nodes more : List NodeM} {bs K : List Int} (h : BSem toks names es ins nodes bs K) (hR : RelL names es) (hwf : WF toks names) (d : DeclM) (kd a : Int) (name : List UInt8) (t : List Int)
    (hins : boundsF ins' nodes [] = bs) (hil : ins.length ≤ ins'.length) (ht : boundsF ins' more bs = bs ++ t) (hb : t.any over = over (wideOf toks names d K)) (hd : DeclOk toks names names.length d) (ha : kd ≠ 2 → 0 ≤ a ∧ a < (bs ++ t).length ∧ pickL (bs ++ t) a = wideOf toks names d K) (hi : ∀ n ∈ more, n.op = 1 → 0 ≤ n.k ∧ n.k < ins'.length) :
    BSem toks (names ++ [d]) (es ++ [(name, kd, a)]) ins' (nodes ++ more) (bs ++ t) (K ++ [wideOf toks names d K]) := by
  have hel : es.length = names.length := hR.len.symm
  refine ⟨by rw [boundsF_append, hins, ht], by simp [h.len], ?_, ?_, ?_, ?_⟩
  · intro j hj hk
    by_cases hl : j < names.length
    · have hlK : j < K.length := by rw [h.len]; exact hl
      rw [List.getElem_append_left hlK, List.getElem_append_left hl, List.take_append_of_le_length (by omega), wideOf_more (hwf j hl) [d]]
      exact h.told j hl hlK
    · have hj2 : j = names.length := by simp at hj; omega
      subst hj2
      have e1 : (K ++ [wideOf toks names d K])[names.length] = wideOf toks names d K := by
        rw [List.getElem_append_right (by rw [h.len]; exact Nat.le_refl _)]; simp [h.len]
      rw [e1, List.getElem_concat_length rfl, List.take_append_of_le_length (by rw [h.len]; exact Nat.le_refl _), List.take_of_length_le (by rw [h.len]; exact Nat.le_refl _), wideOf_more hd [d]]
  · intro j hj hk h2
    by_cases hl : j < es.length
    · have hlK : j < K.length := by rw [h.len]; omega
      simp only [List.getElem_append_left hl] at h2 ⊢
      rw [List.getElem_append_left hlK]
      exact node_more h.node t j hl hlK h2
    · have hj2 : j = es.length := by simp at hj; omega
      subst hj2
      simp only [List.getElem_concat_length] at h2 ⊢
      have e1 : (K ++ [wideOf toks names d K])[es.length] = wideOf toks names d K := by
        rw [List.getElem_append_right (by rw [h.len]; omega)]; simp [h.len, hel]
      rw [e1]
      exact ha h2
  · rw [List.any_append, List.any_append, h.big, hb]; simp
  · intro n hn h1
    rcases List.mem_append.1 hn with hn | hn
    · have := h.inp n hn h1; omega
    · exact hi n hn h1
theorem boundsF_ins (ins : List (Int × Int)) (x : Int × Int) (nodes : List NodeM) (h : ∀ n ∈ nodes, n.op = 1 → 0 ≤ n.k ∧ n.k < ins.length) : ∀ bs, boundsF (ins ++ [x]) nodes bs = boundsF ins nodes bs := by
  induction nodes with
  | nil => intro bs; rfl
  | cons n nodes ih =>
    intro bs
    have e : nodeBoundW (ins ++ [x]) n bs = nodeBoundW ins n bs := by
      unfold nodeBoundW
      by_cases h1 : n.op = 1
      · have hk := h n (by simp) h1
        have h0 : ¬ n.op = 0 := by omega
        rw [if_neg h0, if_neg h0, if_pos h1, if_pos h1]
        unfold inputBoundW
        rw [if_pos (by simp; omega), if_pos ⟨hk.1, hk.2⟩, List.getD_eq_getElem?_getD, List.getElem?_append_left (by omega), ← List.getD_eq_getElem?_getD]
      · by_cases h0 : n.op = 0
        · rw [if_pos h0, if_pos h0]
        · rw [if_neg h0, if_neg h0, if_neg h1, if_neg h1]
    rw [boundsF, boundsF, e, ih (fun m hm => h m (by simp [hm]))]
end Go.Proofs.YtfaljekgpnbmiaaGreat.Pl
