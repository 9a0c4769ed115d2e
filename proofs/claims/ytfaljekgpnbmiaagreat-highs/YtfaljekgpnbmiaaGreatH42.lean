/- Joined: PlainTree7. -/
import Derived.Test.YtfaljekgpnbmiaaGreatH41
/-
  The whole text of the high form: bounds and values of all that was built, the program's against the reference's.
-/
namespace Go.Proofs.YtfaljekgpnbmiaaGreat.Pl
open Go.RowKit
set_option linter.unusedSimpArgs false
set_option linter.unusedVariables false

def hB (K : List Int) (d : DeclM) (e : Ex) : Int := if d.kind = 105 then most (absv d.lo) (absv d.hi) else refB K e
def bigH : List DeclM → List Ex → List Int → Bool
  | d :: ds, e :: es, K => if hB K d e = 1000000000000001 then true else bigH ds es (K ++ [hB K d e])
  | _, _, _ => false
def kH : List DeclM → List Ex → List Int → List Int
  | d :: ds, e :: es, K => kH ds es (K ++ [hB K d e])
  | _, _, K => K
def stepV (home K : List Int) (e : Ex) : Int := if K.length < home.length then home.getD K.length 0 else exV K e
def vH (home : List Int) : List Ex → List Int → List Int
  | e :: es, K => vH home es (K ++ [stepV home K e])
  | [], K => K
def fineH (home : List Int) : List Ex → List Int → Prop
  | e :: es, K => (home.length ≤ K.length → Fine K e) ∧ fineH home es (K ++ [stepV home K e])
  | [], _ => True
/-- The trees of the names that are no inputs. -/
structure Trees (toks : List (List UInt8)) (names : List DeclM) (exs : List Ex) : Prop where
  len : exs.length = names.length
  inp : ∀ j, (hj : j < names.length) → -1000000000 ≤ names[j].lo ∧ names[j].lo ≤ 1000000000 ∧ -1000000000 ≤ names[j].hi ∧ names[j].hi ≤ 1000000000
  tree : ∀ j, (hj : j < names.length) → (hk : j < exs.length) → names[j].kind ≠ 105 → ∃ i q : Nat, names[j].pos = (i : Int) ∧ Par toks (names.take j) false i exs[j] q
theorem bigH_append (ds ds' : List DeclM) : ∀ (es es' : List Ex) (K : List Int), ds.length = es.length → bigH (ds ++ ds') (es ++ es') K = (bigH ds es K || bigH ds' es' (kH ds es K)) := by
  induction ds with
  | nil => intro es es' K h; have : es = [] := List.eq_nil_of_length_eq_zero h.symm; subst this; simp [bigH, kH]
  | cons d ds ih =>
    intro es es' K h
    cases es with
    | nil => simp at h
    | cons e es =>
      rw [List.cons_append, List.cons_append, bigH, bigH, kH]
      split
      · rfl
      · exact ih es es' _ (by simpa using h)
theorem kH_append (ds ds' : List DeclM) : ∀ (es es' : List Ex) (K : List Int), ds.length = es.length → kH (ds ++ ds') (es ++ es') K = kH ds' es' (kH ds es K) := by
  induction ds with
  | nil => intro es es' K h; have : es = [] := List.eq_nil_of_length_eq_zero h.symm; subst this; simp [kH]
  | cons d ds ih =>
    intro es es' K h
    cases es with
    | nil => simp at h
    | cons e es =>
      rw [List.cons_append, List.cons_append, kH, kH]
      exact ih es es' _ (by simpa using h)
theorem vH_append (home : List Int) (es es' : List Ex) : ∀ K, vH home (es ++ es') K = vH home es' (vH home es K) := by
  induction es with
  | nil => intro K; rfl
  | cons e es ih => intro K; rw [List.cons_append, vH, vH, ih]
theorem fineH_append (home : List Int) (es es' : List Ex) : ∀ K, fineH home es K → fineH home es' (vH home es K) → fineH home (es ++ es') K := by
  induction es with
  | nil => intro K _ h; exact h
  | cons e es ih => intro K h h'; rw [List.cons_append, fineH]; exact ⟨h.1, ih _ h.2 h'⟩
theorem Trees.snoc {toks : List (List UInt8)} {names : List DeclM} {exs : List Ex} (h : Trees toks names exs) (d : DeclM) (e : Ex) (hi : -1000000000 ≤ d.lo ∧ d.lo ≤ 1000000000 ∧ -1000000000 ≤ d.hi ∧ d.hi ≤ 1000000000) (ht : d.kind ≠ 105 → ∃ i q : Nat, d.pos = (i : Int) ∧ Par toks names false i e q) : Trees toks (names ++ [d]) (exs ++ [e]) := by
  refine ⟨by simp [h.len], fun j hj => ?_, fun j hj hk => ?_⟩
  · rcases snoc_cases hj with ⟨hl, e⟩ | ⟨rfl, e⟩
    · rw [e]; exact h.inp j hl
    · rw [e]; exact hi
  · rcases snoc_cases hj with ⟨hl, e1⟩ | ⟨rfl, e1⟩
    · rw [e1, List.take_append_of_le_length (by omega), List.getElem_append_left (by rw [h.len]; exact hl)]
      exact h.tree j hl _
    · have e2 : (exs ++ [e])[names.length] = e := by rw [List.getElem_append_right (by rw [h.len]; exact Nat.le_refl _)]; simp [h.len]
      rw [e1, e2, List.take_append_of_le_length (by omega), List.take_of_length_le (by omega)]
      exact ht
theorem HBuilt.rel {toks : List (List UInt8)} {names : List DeclM} {r : RdM} (h : HBuilt toks names r) : RelL names r.ents := by
  induction h using HBuilt.ind with
  | start => exact trivial
  | input h d q hk hn h1 h2 h3 hne hfr ih => exact ih.snoc _ _ rfl (.inl ⟨.inl hk, rfl⟩)
  | let' h i q name n m ex hp hl hne hfr ih => exact ih.snoc _ _ rfl (.inl ⟨.inr rfl, rfl⟩)
  | out h i q name n m ex hp hl hne hfr ih => exact ih.snoc _ _ rfl (.inr (.inr ⟨rfl, rfl⟩))
theorem HBuilt.inputs {toks : List (List UInt8)} {names : List DeclM} {r : RdM} (h : HBuilt toks names r) : (names.take r.ins.length).map (fun d => (d.lo, d.hi)) = r.ins ∧ r.ins.length ≤ names.length ∧ countD names 105 = r.ins.length ∧ ∀ j, (hj : j < names.length) → (names[j].kind = 105 ↔ j < r.ins.length) := by
  have keep : ∀ {names : List DeclM} {ins : List (Int × Int)} (d : DeclM), d.kind ≠ 105 → ((names.take ins.length).map (fun d => (d.lo, d.hi)) = ins ∧ ins.length ≤ names.length ∧ countD names 105 = ins.length ∧ ∀ j, (hj : j < names.length) → (names[j].kind = 105 ↔ j < ins.length)) →
      (((names ++ [d]).take ins.length).map (fun d => (d.lo, d.hi)) = ins ∧ ins.length ≤ (names ++ [d]).length ∧ countD (names ++ [d]) 105 = ins.length ∧ ∀ j, (hj : j < (names ++ [d]).length) → ((names ++ [d])[j].kind = 105 ↔ j < ins.length)) := by
    intro names ins d hd ⟨h1, h2, h3, h4⟩
    refine ⟨by rw [List.take_append_of_le_length h2]; exact h1, by simp; omega, by rw [countD_snoc, if_neg hd]; omega, fun j hj => ?_⟩
    rcases snoc_cases hj with ⟨hl, e⟩ | ⟨rfl, e⟩
    · rw [e]; exact h4 j hl
    · rw [e]; exact ⟨fun h => absurd h hd, fun h => by omega⟩
  induction h using HBuilt.ind with
  | start => exact ⟨rfl, Nat.le_refl _, rfl, fun j hj => by simp at hj⟩
  | @input names r h d i hk hn h1 h2 h3 hne hfr ih =>
    obtain ⟨q1, q2, q3, q4⟩ := ih
    refine ⟨?_, by simp; omega, by rw [countD_snoc, if_pos hk]; simp; omega, fun j hj => ?_⟩
    · simp only [List.length_append, List.length_singleton]
      rw [List.take_of_length_le (by simp; omega), List.map_append]
      rw [List.take_of_length_le (by omega)] at q1
      rw [q1]; rfl
    · rcases snoc_cases hj with ⟨hl, e⟩ | ⟨rfl, e⟩
      · rw [e]; have := q4 j hl; simp; omega
      · rw [e]; simp [hk]; omega
  | let' h i q name n m ex hp hl hne hfr ih => exact keep _ (by simp) ih
  | out h i q name n m ex hp hl hne hfr ih => exact keep _ (by simp) ih
theorem HBuilt.fits {toks : List (List UInt8)} {names : List DeclM} {r : RdM} (h : HBuilt toks names r) (home : List Int) : fitsD names home = isHomeB r.ins home := by
  obtain ⟨h1, h2, h3, _⟩ := h.inputs
  unfold fitsD isHomeB
  rw [h3]
  by_cases hl : home.length = r.ins.length
  · rw [fitsF_home _ names home h2 hl, h1]
  · rw [decide_eq_false hl, Bool.false_and, Bool.false_and]
/-- Of bounds: as long as nothing is big. -/
structure HS (names : List DeclM) (es : List (List UInt8 × Int × Int)) (ins : List (Int × Int)) (nodes : List NodeM) (exs : List Ex) (KB : List Int) : Prop where
  known : KB = kH names exs []
  len : KB.length = names.length
  small : ∀ j, j < KB.length → 0 ≤ KB.getD j 0 ∧ KB.getD j 0 ≤ 1000000000000000
  node : NodesV es (boundsF ins nodes []) KB
  big : (boundsF ins nodes []).any over = false
  bigR : bigH names exs [] = false
/-- Of values. -/
structure HV (home : List Int) (names : List DeclM) (es : List (List UInt8 × Int × Int)) (nodes : List NodeM) (os : List Int) (exs : List Ex) (KB K : List Int) : Prop where
  known : K = vH home exs []
  len : K.length = names.length
  small : ∀ j, j < KB.length → -KB.getD j 0 ≤ K.getD j 0 ∧ K.getD j 0 ≤ KB.getD j 0
  node : NodesV es (valsF home nodes []) K
  fine : fineH home exs []
  outs : ∀ o ∈ os, 0 ≤ o ∧ o < (valsF home nodes []).length
  outv : os.map (pickL (valsF home nodes [])) = outVals names K
theorem valsF_len (home : List Int) (nodes : List NodeM) : (valsF home nodes []).length = nodes.length := by
  obtain ⟨t, h, h2⟩ := valsF_ext home nodes []
  rw [h]; simpa using h2
theorem getD_snoc_lt {l : List Int} {x : Int} {j : Nat} (h : j < l.length) : (l ++ [x]).getD j 0 = l.getD j 0 := by
  rw [List.getD_eq_getElem?_getD, List.getD_eq_getElem?_getD, List.getElem?_append_left h]
theorem getD_snoc_last (l : List Int) (x : Int) : (l ++ [x]).getD l.length 0 = x := by simp
theorem NodesV.snoc {es : List (List UInt8 × Int × Int)} {vs K : List Int} (h : NodesV es vs K) (hl : es.length = K.length) (name : List UInt8) (kd a v : Int) (ha : kd = 0 → 0 ≤ a ∧ a < vs.length ∧ pickL vs a = v) : NodesV (es ++ [(name, kd, a)]) vs (K ++ [v]) := by
  intro j hj h0
  rcases snoc_cases hj with ⟨hlt, e⟩ | ⟨rfl, e⟩
  · rw [e] at h0 ⊢
    rw [getD_snoc_lt (by omega)]
    exact h j hlt h0
  · rw [e] at h0 ⊢
    rw [hl, getD_snoc_last]
    exact ha h0
theorem HS.snoc {names : List DeclM} {es : List (List UInt8 × Int × Int)} {ins ins' : List (Int × Int)} {nodes m : List NodeM} {exs : List Ex} {KB t : List Int} (h : HS names es ins nodes exs KB) (hl : exs.length = names.length) (hel : es.length = names.length) (d : DeclM) (e : Ex) (name : List UInt8) (kd a : Int)
    (hi : boundsF ins' nodes [] = boundsF ins nodes []) (ht : boundsF ins' m (boundsF ins nodes []) = boundsF ins nodes [] ++ t) (hb : t.any over = false) (h0 : 0 ≤ hB KB d e ∧ hB KB d e ≤ 1000000000000000) (ha : kd = 0 → 0 ≤ a ∧ a < (boundsF ins nodes [] ++ t).length ∧ pickL (boundsF ins nodes [] ++ t) a = hB KB d e) :
    HS (names ++ [d]) (es ++ [(name, kd, a)]) ins' (nodes ++ m) (exs ++ [e]) (KB ++ [hB KB d e]) := by
  have hk := h.known
  have eb : boundsF ins' (nodes ++ m) [] = boundsF ins nodes [] ++ t := by rw [boundsF_append, hi, ht]
  refine ⟨by rw [kH_append _ _ _ _ _ hl.symm, ← hk]; rfl, by simp [h.len], fun j hj => ?_, ?_, by rw [eb, List.any_append, h.big, hb]; rfl, ?_⟩
  · by_cases hlt : j < KB.length
    · rw [getD_snoc_lt hlt]; exact h.small j hlt
    · have : j = KB.length := by simp at hj; omega
      subst this; rw [getD_snoc_last]; exact h0
  · rw [eb]
    exact (h.node.more t).snoc (by rw [h.len, hel]) name kd a _ ha
  · rw [bigH_append _ _ _ _ _ hl.symm, h.bigR, ← hk, bigH, if_neg (by omega)]; rfl
theorem HV.snoc {home : List Int} {names : List DeclM} {es : List (List UInt8 × Int × Int)} {nodes m : List NodeM} {os os' : List Int} {exs : List Ex} {KB K t : List Int} (h : HV home names es nodes os exs KB K) (hbl : KB.length = names.length) (hel : es.length = names.length) (d : DeclM) (e : Ex) (name : List UInt8) (kd a WB : Int)
    (ht : valsF home m (valsF home nodes []) = valsF home nodes [] ++ t) (hf : home.length ≤ K.length → Fine K e) (hw : -WB ≤ stepV home K e ∧ stepV home K e ≤ WB) (ha : kd = 0 → 0 ≤ a ∧ a < (valsF home nodes [] ++ t).length ∧ pickL (valsF home nodes [] ++ t) a = stepV home K e)
    (ho : ∀ o ∈ os', 0 ≤ o ∧ o < (valsF home nodes [] ++ t).length) (hov : os'.map (pickL (valsF home nodes [] ++ t)) = if d.kind = 111 then [stepV home K e] else []) :
    HV home (names ++ [d]) (es ++ [(name, kd, a)]) (nodes ++ m) (os ++ os') (exs ++ [e]) (KB ++ [WB]) (K ++ [stepV home K e]) := by
  have hk := h.known
  have eb : valsF home (nodes ++ m) [] = valsF home nodes [] ++ t := by rw [valsF_append, ht]
  refine ⟨by rw [vH_append, ← hk]; rfl, by simp [h.len], fun j hj => ?_, ?_, fineH_append _ _ _ _ h.fine (by rw [← hk]; exact ⟨hf, trivial⟩), ?_, ?_⟩
  · by_cases hlt : j < KB.length
    · rw [getD_snoc_lt hlt, getD_snoc_lt (by rw [h.len]; omega)]; exact h.small j hlt
    · have : j = KB.length := by simp at hj; omega
      subst this
      rw [getD_snoc_last, show KB.length = K.length by rw [h.len, hbl], getD_snoc_last]; exact hw
  · rw [eb]
    exact (h.node.more t).snoc (by rw [h.len, hel]) name kd a _ ha
  · rw [eb]
    intro o hm
    rcases List.mem_append.1 hm with hm | hm
    · have := h.outs o hm; simp; omega
    · exact ho o hm
  · rw [eb, outVals_snoc names d _ K h.len, List.map_append, hov, ← h.outv]
    congr 1
    apply List.map_congr_left
    intro o hm
    exact pickL_append (h.outs o hm).2
def HomeAt (home : List Int) (names : List DeclM) (ins : List (Int × Int)) : Prop := HomeOk ins home ∧ (names.length = ins.length ∨ home.length ≤ ins.length)
/-- All that was built: either both find it big, or neither; and then the values are the same. -/
theorem HBuilt.sem {toks : List (List UInt8)} {names : List DeclM} {r : RdM} (h : HBuilt toks names r) : ∃ exs, Trees toks names exs ∧ (∀ n ∈ r.nodes, n.op = 1 → 0 ≤ n.k ∧ n.k < r.ins.length) ∧
    (((boundsF r.ins r.nodes []).any over = true ∧ bigH names exs [] = true) ∨ ∃ KB, HS names r.ents r.ins r.nodes exs KB ∧ ∀ home, HomeAt home names r.ins → ∃ K, HV home names r.ents r.nodes r.outs exs KB K) := by
  have lay : ∀ {names : List DeclM} {r : RdM} (hB : HBuilt toks names r) (d : DeclM) (i q : Nat) (kd n : Int) (m : List NodeM) (ex : Ex) (exs : List Ex) (os' : List Int), d.kind ≠ 105 → d.lo = 0 ∧ d.hi = 0 → d.pos = (i : Int) → Par toks names false i ex q → Laid r.ents r.nodes ex n m → (os' = if d.kind = 111 then [n] else []) → Trees toks names exs → (∀ n ∈ r.nodes, n.op = 1 → 0 ≤ n.k ∧ n.k < r.ins.length) →
      (((boundsF r.ins r.nodes []).any over = true ∧ bigH names exs [] = true) ∨ ∃ KB, HS names r.ents r.ins r.nodes exs KB ∧ ∀ home, HomeAt home names r.ins → ∃ K, HV home names r.ents r.nodes r.outs exs KB K) →
      ∃ exs', Trees toks (names ++ [d]) exs' ∧ (∀ n ∈ r.nodes ++ m, n.op = 1 → 0 ≤ n.k ∧ n.k < r.ins.length) ∧
        (((boundsF r.ins (r.nodes ++ m) []).any over = true ∧ bigH (names ++ [d]) exs' [] = true) ∨ ∃ KB, HS (names ++ [d]) (r.ents ++ [(d.name, kd, n)]) r.ins (r.nodes ++ m) exs' KB ∧ ∀ home, HomeAt home (names ++ [d]) r.ins → ∃ K, HV home (names ++ [d]) (r.ents ++ [(d.name, kd, n)]) (r.nodes ++ m) (r.outs ++ os') exs' KB K) := by
    intro names r hB' d i q kd n m ex exs os' hk hlo hpos hp hl hos hT hin hS
    have hR := hB'.rel
    have hel : r.ents.length = names.length := hR.len.symm
    refine ⟨exs ++ [ex], hT.snoc d ex (by omega) (fun _ => ⟨i, q, hpos, hp⟩), ?_, ?_⟩
    · intro x hx h1
      rcases List.mem_append.1 hx with hx | hx
      · exact hin x hx h1
      · exact absurd h1 (hl.noIn x hx)
    rcases hS with ⟨b1, b2⟩ | ⟨KB, hS, hV⟩
    · left
      obtain ⟨t, e1, _⟩ := boundsF_ext r.ins m (boundsF r.ins r.nodes [])
      exact ⟨by rw [boundsF_append, e1, List.any_append, b1]; rfl, by rw [bigH_append _ _ _ _ _ hT.len.symm, b2]; rfl⟩
    · have hk2 : hB KB d ex = refB KB ex := by unfold hB; rw [if_neg hk]
      have hKB : ∀ j, j < names.length → 0 ≤ KB.getD j 0 ∧ KB.getD j 0 ≤ 1000000000000000 := fun j hj => hS.small j (by rw [hS.len]; exact hj)
      have hrb := hp.refB hKB
      obtain ⟨t, e1, e2, e3, e4, e5, e6⟩ := hl.bound r.ins KB (boundsF r.ins r.nodes []) (boundsF_len _ _) hS.node
      cases hbig : exBig KB ex with
      | true =>
        left
        refine ⟨by rw [boundsF_append, e1, List.any_append, e3, hbig]; simp, ?_⟩
        rw [bigH_append _ _ _ _ _ hT.len.symm, hS.bigR, ← hS.known, bigH, hk2, if_pos (hrb.big hbig)]; rfl
      | false =>
        right
        have hsame := hrb.same hbig rfl
        refine ⟨KB ++ [hB KB d ex], hS.snoc hT.len hel d ex d.name kd n rfl e1 (by rw [e3, hbig]) (by rw [hk2]; exact ⟨hrb.nn, hrb.small hbig⟩) (fun _ => ⟨e4, e5, by rw [hk2, e6, hsame]⟩), fun home hh => ?_⟩
        have hin2 := hB'.inputs
        have hhl : home.length ≤ r.ins.length := by
          rcases hh.2 with h | h
          · simp at h; omega
          · exact h
        obtain ⟨K, hK⟩ := hV home ⟨hh.1, .inr hhl⟩
        have hst : stepV home K ex = exV K ex := by unfold stepV; rw [if_neg (by rw [hK.len]; omega)]
        have hvb := hp.valB hKB (fun j hj => hK.small j (by rw [hS.len]; exact hj)) hbig
        have hv := hvb.val rfl
        obtain ⟨t2, g1, g2, g3, g4, g5⟩ := hl.value home K (valsF home r.nodes []) (valsF_len _ _) hK.node
        refine ⟨_, hK.snoc hS.len hel d ex d.name kd n (hB KB d ex) g1 (fun _ => hvb.fine) (by rw [hst, hk2, ← hsame]; exact ⟨hv.1, hv.2.1⟩) (fun _ => ⟨g3, g4, by rw [g5, hst]⟩) ?_ ?_⟩
        · intro o ho
          rw [hos] at ho
          split at ho
          · rw [List.mem_singleton] at ho; subst ho; exact ⟨g3, g4⟩
          · simp at ho
        · rw [hos, hst]
          split
          · rw [List.map_cons, List.map_nil, g5]
          · rfl
  induction h using HBuilt.ind with
  | start =>
    refine ⟨[], ⟨rfl, fun j hj => by simp at hj, fun j hj => by simp at hj⟩, fun n hn => by simp at hn, .inr ⟨[], ⟨rfl, rfl, fun j hj => by simp at hj, fun j hj => by simp at hj, rfl, rfl⟩, fun home hh => ⟨[], ⟨rfl, rfl, fun j hj => by simp at hj, fun j hj => by simp at hj, trivial, fun o ho => by simp at ho, rfl⟩⟩⟩⟩
  | @input names r h d q hk hn h1 h2 h3 hne hfr ih =>
    obtain ⟨exs, hT, hin, hS⟩ := ih
    have hR := h.rel
    have hel : r.ents.length = names.length := hR.len.symm
    have e0 : boundsF (r.ins ++ [(d.lo, d.hi)]) r.nodes [] = boundsF r.ins r.nodes [] := boundsF_ins _ _ _ hin []
    refine ⟨exs ++ [.num 0], hT.snoc d (.num 0) (by omega) (fun hc => absurd hk hc), ?_, ?_⟩
    · intro x hx h1
      rcases List.mem_append.1 hx with hx | hx
      · have := hin x hx h1; simp; omega
      · rw [List.mem_singleton] at hx; subst hx; simp; omega
    rcases hS with ⟨b1, b2⟩ | ⟨KB, hS, hV⟩
    · left
      obtain ⟨t, e1, _⟩ := boundsF_ext (r.ins ++ [(d.lo, d.hi)]) [⟨1, 0, 0, 0, r.ins.length, []⟩] (boundsF r.ins r.nodes [])
      exact ⟨by rw [boundsF_append, e0, e1, List.any_append, b1]; rfl, by rw [bigH_append _ _ _ _ _ hT.len.symm, b2]; rfl⟩
    · right
      have hW : hB KB d (.num 0) = most (absv d.lo) (absv d.hi) := by unfold hB; rw [if_pos hk]
      have hWb : 0 ≤ hB KB d (.num 0) ∧ hB KB d (.num 0) ≤ 1000000000 := by rw [hW]; unfold most absv; (repeat' split) <;> omega
      have e1 : nodeBoundW (r.ins ++ [(d.lo, d.hi)]) ⟨1, 0, 0, 0, r.ins.length, []⟩ (boundsF r.ins r.nodes [] ++ []) = hB KB d (.num 0) := by
        rw [hW]
        unfold nodeBoundW
        rw [if_neg (by simp), if_pos (by simp)]
        unfold inputBoundW
        rw [if_pos (by simp; omega)]
        simp only [Int.toNat_natCast, List.getD_eq_getElem?_getD, List.getElem?_concat_length, Option.getD_some]
        rw [absW_num _ ⟨h1, by omega⟩, absW_num _ ⟨by omega, h3⟩, greater_most]
      obtain ⟨t, f1, f2, f0, f3, f4, f5⟩ := BL.fin (ins := r.ins ++ [(d.lo, d.hi)]) (bs := boundsF r.ins r.nodes []) (t := []) (N := r.nodes) (pre := []) (big := false) (by simp [boundsF]) rfl (boundsF_len _ _) rfl e1
      rw [List.nil_append] at f1
      rw [List.append_nil] at f3 f4 f5
      refine ⟨KB ++ [hB KB d (.num 0)], hS.snoc hT.len hel d (.num 0) d.name 0 r.nodes.length e0 f1 (by rw [f0, over_small hWb.2]; rfl) (by omega) (fun _ => ⟨f3, f4, f5⟩), fun home hh => ?_⟩
      obtain ⟨K, hK⟩ := hV home ⟨hh.1.init, .inl hn⟩
      have hhl : r.ins.length < home.length := by have := hh.1.1; simp at this; omega
      have hho := hh.1.2 r.ins.length (by simp) hhl
      simp only [List.getElem_concat_length] at hho
      have hst : stepV home K (.num 0) = home[r.ins.length] := by
        unfold stepV
        rw [hK.len, hn, if_pos hhl, List.getD_eq_getElem?_getD, List.getElem?_eq_getElem hhl]; rfl
      have hx : nodeValueW ⟨1, 0, 0, 0, r.ins.length, []⟩ (valsF home r.nodes [] ++ []) home = stepV home K (.num 0) := by
        rw [hst]
        unfold nodeValueW
        rw [if_neg (by simp), if_pos (by simp)]
        unfold pickL
        rw [if_pos (by simp only; omega)]
        simp only [Int.toNat_natCast]
        rw [List.getD_eq_getElem?_getD, List.getElem?_eq_getElem hhl]; rfl
      obtain ⟨t2, g1, g2, g3, g4, g5⟩ := VL.fin (home := home) (vs := valsF home r.nodes []) (t := []) (N := r.nodes) (pre := []) (by simp [valsF]) rfl (valsF_len _ _) hx
      rw [List.nil_append] at g1
      rw [List.append_nil] at g3 g4 g5
      have := hK.snoc (os' := []) hS.len hel d (.num 0) d.name 0 r.nodes.length (hB KB d (.num 0)) g1 (fun _ => trivial) (by rw [hst, hW]; unfold most absv; (repeat' split) <;> omega) (fun _ => ⟨g3, g4, g5⟩) (by simp) (by rw [if_neg (by omega)]; rfl)
      rw [List.append_nil] at this
      exact ⟨_, this⟩
  | @let' names r h i q name n m ex hp hl hne hfr ih =>
    obtain ⟨exs, hT, hin, hS⟩ := ih
    have := lay h ⟨name, 118, 0, 0, i⟩ i q 0 n m ex exs [] (by simp) ⟨rfl, rfl⟩ rfl hp hl (by simp) hT hin hS
    simpa using this
  | @out names r h i q name n m ex hp hl hne hfr ih =>
    obtain ⟨exs, hT, hin, hS⟩ := ih
    exact lay h ⟨name, 111, 0, 0, i⟩ i q 2 n m ex exs [n] (by simp) ⟨rfl, rfl⟩ rfl hp hl (by simp) hT hin hS
/-- The text is big for both or for neither. -/
theorem HBuilt.all {toks : List (List UInt8)} {names : List DeclM} {r : RdM} (h : HBuilt toks names r) : ∃ exs, Trees toks names exs ∧ bigH names exs [] = isBigW r.ins r.nodes ∧ (isBigW r.ins r.nodes = false → ∀ home, isHomeB r.ins home = true → outVals names (vH home exs []) = runW r.nodes r.outs home ∧ fineH home exs []) := by
  obtain ⟨exs, hT, hin, hS⟩ := h.sem
  have e2 : isBigW r.ins r.nodes = (boundsF r.ins r.nodes []).any over := by
    unfold isBigW
    exact bigFrom_eq _ _ _ [] (boundsF r.ins r.nodes []) (by rw [List.nil_append])
  refine ⟨exs, hT, ?_, fun hb home hh => ?_⟩
  · rcases hS with ⟨b1, b2⟩ | ⟨KB, hS, _⟩
    · rw [e2, b1, b2]
    · rw [e2, hS.big, hS.bigR]
  · rcases hS with ⟨b1, b2⟩ | ⟨KB, hS, hV⟩
    · rw [e2, b1] at hb; cases hb
    · unfold isHomeB at hh
      simp only [Bool.and_eq_true, decide_eq_true_eq] at hh
      obtain ⟨K, hK⟩ := hV home ⟨HomeOk.of _ _ hh.1 hh.2, .inr (by omega)⟩
      refine ⟨?_, hK.fine⟩
      rw [← hK.known, ← hK.outv]
      unfold runW
      rw [valuesFrom_eq]
end Go.Proofs.YtfaljekgpnbmiaaGreat.Pl
