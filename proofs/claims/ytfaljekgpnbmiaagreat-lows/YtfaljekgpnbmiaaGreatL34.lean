/- Joined: Eq9 Eq10. -/
import Derived.Test.YtfaljekgpnbmiaaGreatL33
/-
  The program's big is the reference's wide: of all that was built.
-/
namespace Go.Proofs.YtfaljekgpnbmiaaGreat.Pl
open Go.RowKit

theorem last_bound {ins : List (Int × Int)} {bs t : List Int} {nodes pre : List NodeM} {x : NodeM} {W : Int} (h : boundsF ins pre bs = bs ++ t) (hl : t.length = pre.length) (hbl : bs.length = nodes.length) (ho : t.any over = false) (hx : nodeBoundW ins x (bs ++ t) = W) :
    ∃ t', boundsF ins (pre ++ [x]) bs = bs ++ t' ∧ t'.any over = over W ∧ 0 ≤ ((nodes ++ (pre ++ [x])).length : Int) - 1 ∧ ((nodes ++ (pre ++ [x])).length : Int) - 1 < (bs ++ t').length ∧ pickL (bs ++ t') (((nodes ++ (pre ++ [x])).length : Int) - 1) = W := by
  refine ⟨t ++ [W], ?_, ?_, by simp; omega, by simp; omega, ?_⟩
  · rw [boundsF_append, h, boundsF, boundsF, hx, List.append_assoc]
  · rw [List.any_append, ho]; simp
  · have e : ((nodes ++ (pre ++ [x])).length : Int) - 1 = ((bs ++ t).length : Int) := by simp; omega
    rw [e, ← List.append_assoc, pickL_last]
theorem args_bound {toks : List (List UInt8)} {names : List DeclM} {es : List (List UInt8 × Int × Int)} {ins : List (Int × Int)} {bs K : List Int} {nodes m m' : List NodeM} {a b : Int} {p : Nat}
    (hR : RelL names es) (hK : K.length = names.length) (hnode : ∀ j, (hj : j < es.length) → (hk : j < K.length) → es[j].2.1 ≠ 2 → 0 ≤ es[j].2.2 ∧ es[j].2.2 < bs.length ∧ pickL bs es[j].2.2 = K[j]) (hbl : bs.length = nodes.length)
    (h1 : p + 1 < toks.length) (h2 : p + 1 < 600) (h : ArgN es nodes (atR toks p) a m) (h' : ArgN es (nodes ++ m) (atR toks (p + 1)) b m') :
    ∃ t, boundsF ins (m ++ m') bs = bs ++ t ∧ t.length = (m ++ m').length ∧ t.any over = false ∧ pickL (bs ++ t) a = boundR toks names K p ∧ pickL (bs ++ t) b = boundR toks names K (p + 1) ∧ (∀ n ∈ m ++ m', n.op ≠ 1) := by
  obtain ⟨t, e1, e2, e3, e4, e5, e6, e7⟩ := arg_bound (ins := ins) hR hK hnode hbl (by omega) (by omega) h
  obtain ⟨t', f1, f2, f3, f4, f5, f6, f7⟩ := arg_bound (ins := ins) hR hK (node_more hnode t) (nodes := nodes ++ m) (by simp; omega) h1 h2 h'
  refine ⟨t ++ t', by rw [boundsF_append, e1, f1, List.append_assoc], by simp [e2, f2], by rw [List.any_append, e3, f3]; rfl, ?_, by rw [← List.append_assoc]; exact f6, ?_⟩
  · rw [← List.append_assoc, pickL_append e5]; exact e6
  · intro n hn
    rcases List.mem_append.1 hn with hn | hn
    · exact e7 n hn
    · exact f7 n hn
theorem any_snoc_ne {l : List NodeM} {x : NodeM} (h : ∀ n ∈ l, n.op ≠ 1) (hx : x.op ≠ 1) : ∀ n ∈ l ++ [x], n.op ≠ 1 := by
  intro n hn
  rcases List.mem_append.1 hn with hn | hn
  · exact h n hn
  · rw [List.mem_singleton] at hn; subst hn; exact hx
theorem greater_most (a b : Int) : greater a b = most a b := rfl
theorem step_bound {toks : List (List UInt8)} {names : List DeclM} {es : List (List UInt8 × Int × Int)} {ins : List (Int × Int)} {bs K : List Int} {nodes more : List NodeM} {i : Nat} {op : Int} {ws : List UInt8} {k : UInt8} (name : List UInt8)
    (hR : RelL names es) (hK : K.length = names.length) (hnode : ∀ j, (hj : j < es.length) → (hk : j < K.length) → es[j].2.1 ≠ 2 → 0 ≤ es[j].2.2 ∧ es[j].2.2 < bs.length ∧ pickL bs es[j].2.2 = K[j]) (hbl : bs.length = nodes.length)
    (hw : WordOp (atR toks (i + 2)) op ws k) (hs : StepN es nodes toks (i + 3) op more) (hl : i + 3 + ws.length ≤ toks.length) (hl6 : i + 3 + ws.length ≤ 600) :
    (∃ t, boundsF ins more bs = bs ++ t ∧ t.any over = over (wideOf toks names ⟨name, k.toNat, 0, 0, (i : Int) + 2⟩ K) ∧ 0 ≤ ((nodes ++ more).length : Int) - 1 ∧ ((nodes ++ more).length : Int) - 1 < (bs ++ t).length ∧ pickL (bs ++ t) (((nodes ++ more).length : Int) - 1) = wideOf toks names ⟨name, k.toNat, 0, 0, (i : Int) + 2⟩ K) ∧ (∀ n ∈ more, n.op ≠ 1) := by
  have hp : i + 2 < toks.length ∧ i + 2 < 600 := by have := (kind_of_word hw).2.2.2; omega
  have hg := getD_atR hp.1 hp.2
  obtain ⟨ho, hfm, hcs⟩ := hw
  have hwd := opOf_word ho
  have ei : ((i : Int) + 2).toNat = i + 2 := by omega
  have hv : ∀ op' : List UInt8, atR toks (i + 2) = op' → wideOf toks names ⟨name, 118, 0, 0, (i : Int) + 2⟩ K = reachV op' (boundR toks names K (i + 3)) (boundR toks names K (i + 4)) (boundR toks names K (i + 5)) := by
    intro op' h
    unfold wideOf
    rw [if_neg (by simp), if_pos (by simp)]
    simp only [ei]
    unfold reachR
    rw [hg, h]
  have hf : wideOf toks names ⟨name, 102, 0, 0, (i : Int) + 2⟩ K = 0 := by unfold wideOf; simp
  rcases hcs with ⟨hop, rfl, rfl⟩ | ⟨rfl, rfl, rfl⟩ | ⟨rfl, rfl, rfl⟩ | ⟨rfl, rfl, rfl⟩ | ⟨hop, rfl, rfl⟩ | ⟨hop, rfl, rfl⟩ | ⟨rfl, rfl, rfl⟩
  · rcases hs with ⟨_, a, m, b, m', h1, h2, rfl⟩ | ⟨h, _⟩ | ⟨h, _⟩ | ⟨h, _⟩ | ⟨h, _⟩ | ⟨h, _⟩ <;> try omega
    simp only [List.length_cons, List.length_nil] at hl hl6
    obtain ⟨t, e1, e2, e3, e4, e5, e6⟩ := args_bound (ins := ins) hR hK hnode hbl (by omega) (by omega) h1 h2
    refine ⟨last_bound e1 e2 hbl e3 ?_, any_snoc_ne e6 (by simp only; omega)⟩
    unfold nodeBoundW
    simp only
    rw [if_neg (by omega), if_neg (by omega), if_pos (by omega), e4, e5]
    rcases hop with hop | hop
    · exact (hv _ (hwd.1 hop)).symm
    · exact (hv _ (hwd.2.1 hop)).symm
  · rcases hs with ⟨h, _⟩ | ⟨_, hwi, a, m, h1, rfl⟩ | ⟨h, _⟩ | ⟨h, _⟩ | ⟨h, _⟩ | ⟨h, _⟩ <;> try omega
    simp only [List.length_cons, List.length_nil] at hl hl6
    obtain ⟨t, e1, e2, e3, e4, e5, e6, e7⟩ := arg_bound (ins := ins) hR hK hnode hbl (by omega) (by omega) h1
    refine ⟨last_bound e1 e2 hbl e3 ?_, any_snoc_ne e7 (by simp)⟩
    have hb := number_bd (atR toks (i + 3))
    have hn : (number (atR toks (i + 3))).2 = true := by unfold within at hwi; simp at hwi; exact hwi.1.1
    have hb3 : boundR toks names K (i + 3) = absv (number (atR toks (i + 3))).1 := by unfold boundR; rw [getD_atR (by omega) (by omega), if_pos hn]
    rw [show ((118 : UInt8).toNat) = 118 from rfl, hv _ (hwd.2.2.1 rfl)]
    unfold nodeBoundW
    simp only
    rw [if_neg (by omega), if_neg (by omega), if_neg (by omega), if_pos trivial, e6, absW_num _ hb, ← hb3]
    rfl
  · rcases hs with ⟨h, _⟩ | ⟨h, _⟩ | ⟨_, hwi, a, m, h1, rfl⟩ | ⟨h, _⟩ | ⟨h, _⟩ | ⟨h, _⟩ <;> try omega
    simp only [List.length_cons, List.length_nil] at hl hl6
    obtain ⟨t, e1, e2, e3, e4, e5, e6, e7⟩ := arg_bound (ins := ins) hR hK hnode hbl (by omega) (by omega) h1
    refine ⟨last_bound e1 e2 hbl e3 ?_, any_snoc_ne e7 (by simp)⟩
    rw [show ((118 : UInt8).toNat) = 118 from rfl, hv _ (hwd.2.2.2.1 rfl)]
    unfold nodeBoundW
    simp only
    rw [if_neg (by omega), if_neg (by omega), if_neg (by omega), if_neg (by omega), if_neg (by omega), if_neg (by omega), if_pos (by simp), e6]
    rfl
  · rcases hs with ⟨h, _⟩ | ⟨h, _⟩ | ⟨h, _⟩ | ⟨_, a, m, b, m', d, m'', h1, h2, h3, rfl⟩ | ⟨h, _⟩ | ⟨h, _⟩ <;> try omega
    simp only [List.length_cons, List.length_nil] at hl hl6
    obtain ⟨rfl, h1⟩ := h1
    rw [List.append_nil] at h2 h3
    obtain ⟨t, e1, e2, e3, e4, e5, e6⟩ := args_bound (p := i + 3 + 1) (ins := ins) hR hK hnode hbl (by omega) (by omega) h2 h3
    rw [List.nil_append]
    refine ⟨last_bound e1 e2 hbl e3 ?_, any_snoc_ne e6 (by simp)⟩
    rw [show ((118 : UInt8).toNat) = 118 from rfl, hv _ (hwd.2.2.2.2.1 rfl)]
    unfold nodeBoundW
    simp only
    rw [if_neg (by omega), if_neg (by omega), if_neg (by omega), if_neg (by omega), if_neg (by omega), if_pos trivial, e4, e5, greater_most]
    rfl
  · rcases hs with ⟨_, a, m, b, m', h1, h2, rfl⟩ | ⟨h, _⟩ | ⟨h, _⟩ | ⟨h, _⟩ | ⟨h, _⟩ | ⟨h, _⟩ <;> try omega
    simp only [List.length_cons, List.length_nil] at hl hl6
    obtain ⟨t, e1, e2, e3, e4, e5, e6⟩ := args_bound (ins := ins) hR hK hnode hbl (by omega) (by omega) h1 h2
    refine ⟨last_bound e1 e2 hbl e3 ?_, any_snoc_ne e6 (by simp only; omega)⟩
    rw [show ((102 : UInt8).toNat) = 102 from rfl, hf]
    unfold nodeBoundW
    simp only
    rw [if_neg (by omega), if_neg (by omega), if_neg (by omega), if_neg (by omega), if_neg (by omega), if_neg (by omega), if_neg (by omega), if_neg (by omega)]
  · rcases hs with ⟨h, _⟩ | ⟨h, _⟩ | ⟨h, _⟩ | ⟨h, _⟩ | ⟨_, a, m, b, m', h1, h2, rfl⟩ | ⟨h, _⟩ <;> try omega
    obtain ⟨rfl, h1⟩ := h1
    obtain ⟨rfl, h2⟩ := h2
    refine ⟨last_bound (t := []) (by simp [boundsF]) rfl hbl rfl ?_, any_snoc_ne (by simp) (by simp only; omega)⟩
    rw [show ((102 : UInt8).toNat) = 102 from rfl, hf]
    unfold nodeBoundW
    simp only
    rw [if_neg (by omega), if_neg (by omega), if_neg (by omega), if_neg (by omega), if_neg (by omega), if_neg (by omega), if_neg (by omega), if_neg (by omega)]
  · rcases hs with ⟨h, _⟩ | ⟨h, _⟩ | ⟨h, _⟩ | ⟨h, _⟩ | ⟨h, _⟩ | ⟨_, a, m, h1, rfl⟩ <;> try omega
    obtain ⟨rfl, h1⟩ := h1
    refine ⟨last_bound (t := []) (by simp [boundsF]) rfl hbl rfl ?_, any_snoc_ne (by simp) (by simp)⟩
    rw [show ((102 : UInt8).toNat) = 102 from rfl, hf]
    unfold nodeBoundW
    simp only
    rw [if_neg (by omega), if_neg (by omega), if_neg (by omega), if_neg (by omega), if_neg (by omega), if_neg (by omega), if_neg (by omega), if_neg (by omega)]
theorem Built.bounds {toks : List (List UInt8)} {names : List DeclM} {r : RdM} (h : Built toks names r) : ∃ bs K, BSem toks names r.ents r.ins r.nodes bs K := by
  induction h using Built.ind with
  | start => exact ⟨[], [], rfl, rfl, fun j hj => by simp at hj, fun j hj => by simp at hj, rfl, fun n hn => by simp at hn⟩
  | @input names r h d i hk hn h1 h2 h3 hne hfr ih =>
    obtain ⟨bs, K, hS⟩ := ih
    obtain ⟨hR, _, _⟩ := h.rel
    have hbl : bs.length = r.nodes.length := by rw [hS.bounds, boundsF_len]
    have e0 : boundsF (r.ins ++ [(d.lo, d.hi)]) r.nodes [] = bs := by rw [boundsF_ins _ _ _ hS.inp, ← hS.bounds]
    have hW : wideOf toks names d K = most (absv d.lo) (absv d.hi) := by unfold wideOf; rw [if_pos hk]
    have e1 : nodeBoundW (r.ins ++ [(d.lo, d.hi)]) ⟨1, 0, 0, 0, r.ins.length, []⟩ bs = wideOf toks names d K := by
      rw [hW]
      unfold nodeBoundW
      rw [if_neg (by simp), if_pos (by simp)]
      unfold inputBoundW
      rw [if_pos (by simp; omega)]
      simp only [Int.toNat_natCast, List.getD_eq_getElem?_getD, List.getElem?_concat_length, Option.getD_some]
      rw [absW_num _ ⟨h1, by omega⟩, absW_num _ ⟨by omega, h3⟩, greater_most]
    obtain ⟨t, f1, f2, f3, f4, f5⟩ := last_bound (ins := r.ins ++ [(d.lo, d.hi)]) (bs := bs) (t := []) (nodes := r.nodes) (pre := []) (x := ⟨1, 0, 0, 0, r.ins.length, []⟩) (W := wideOf toks names d K) (by simp [boundsF]) rfl hbl rfl (by rw [List.append_nil]; exact e1)
    rw [List.nil_append] at f1 f3 f4 f5
    refine ⟨_, _, hS.snoc hR h.wf d 0 _ d.name t e0 (by simp) f1 f2 (.inl ⟨hk, h1, by omega, by omega, h3⟩) (fun _ => ?_) ?_⟩
    · have e : ((r.nodes ++ [(⟨1, 0, 0, 0, r.ins.length, []⟩ : NodeM)]).length : Int) - 1 = r.nodes.length := by simp
      rw [e] at f3 f4 f5
      exact ⟨f3, f4, f5⟩
    · intro n hn _
      rw [List.mem_singleton] at hn; subst hn
      simp; omega
  | @step names r h i op ws k more name hw hs hm hne hl hl6 hfr ih =>
    obtain ⟨bs, K, hS⟩ := ih
    obtain ⟨hR, _, _⟩ := h.rel
    have hbl : bs.length = r.nodes.length := by rw [hS.bounds, boundsF_len]
    obtain ⟨⟨t, f1, f2, f3, f4, f5⟩, f6⟩ := step_bound (ins := r.ins) name hR hS.len hS.node hbl hw hs hl hl6
    exact ⟨_, _, hS.snoc hR h.wf ⟨name, k.toNat, 0, 0, (i : Int) + 2⟩ _ _ name t hS.bounds.symm (Nat.le_refl _) f1 f2 (step_ok name hR hw hs hl hl6) (fun _ => ⟨f3, f4, f5⟩) (fun n hn h1 => absurd h1 (f6 n hn))⟩
  | @out names r h i a m name ha hne hl hl6 hfr ih =>
    obtain ⟨bs, K, hS⟩ := ih
    obtain ⟨hR, _, _⟩ := h.rel
    have hbl : bs.length = r.nodes.length := by rw [hS.bounds, boundsF_len]
    obtain ⟨t, e1, e2, e3, e4, e5, e6, e7⟩ := arg_bound (ins := r.ins) hR hS.len hS.node hbl (by omega) (by omega) ha
    exact ⟨_, _, hS.snoc hR h.wf ⟨name, 111, 0, 0, (i : Int) + 2⟩ 2 a name t hS.bounds.symm (Nat.le_refl _) e1 (by rw [e3]; rfl) (.inr (.inl ⟨rfl, i + 2, by simp, arg_told hR (by omega) (by omega) ha⟩)) (fun hc => absurd rfl hc) (fun n hn h1 => absurd h1 (e7 n hn))⟩
theorem wKnown_take (toks : List (List UInt8)) (names : List DeclM) (K : List Int) (hl : K.length = names.length) (h : ∀ j, (hj : j < names.length) → (hk : j < K.length) → K[j] = wideOf toks names names[j] (K.take j)) : ∀ (l pre : List DeclM), pre ++ l = names → wKnown toks names l (K.take pre.length) = K := by
  intro l
  induction l with
  | nil => intro pre hp; rw [List.append_nil] at hp; subst hp; rw [wKnown, List.take_of_length_le (by omega)]
  | cons d l ih =>
    intro pre hp
    have hpl : pre.length < names.length := by rw [← hp]; simp
    have hd : names[pre.length] = d := by subst hp; simp
    rw [wKnown]
    have e := h pre.length hpl (by omega)
    rw [hd] at e
    rw [← e, List.take_append_getElem (by omega)]
    have := ih (pre ++ [d]) (by rw [List.append_assoc]; exact hp)
    simpa using this
/-- The program's big is the reference's wide. -/
theorem Built.big {toks : List (List UInt8)} {names : List DeclM} {r : RdM} (h : Built toks names r) : wideFrom toks names names [] = isBigW r.ins r.nodes := by
  obtain ⟨bs, K, hS⟩ := h.bounds
  have e1 : wideFrom toks names names [] = K.any over := by
    refine wideFrom_eq toks names names [] K ?_
    have := wKnown_take toks names K hS.len hS.told names [] rfl
    simpa using this
  have e2 : isBigW r.ins r.nodes = bs.any over := by
    unfold isBigW
    exact bigFrom_eq _ _ _ [] bs (by rw [List.nil_append]; exact hS.bounds.symm)
  rw [e1, e2, hS.big]
end Go.Proofs.YtfaljekgpnbmiaaGreat.Pl

/-
  Values: what the program reckons is what the reference reckons. An argument, a flag.
-/
namespace Go.Proofs.YtfaljekgpnbmiaaGreat.Pl
open Go.RowKit

/-- A name is no number. -/
theorem rName_number {t : List UInt8} (h : rName t = true) : (number t).2 = false := by
  unfold rName at h
  simp only [Bool.and_eq_true] at h
  obtain ⟨⟨⟨h1, _⟩, h3⟩, _⟩ := h
  cases t with
  | nil => simp at h1
  | cons c r =>
    rw [namedFrom] at h3
    simp only [Bool.and_eq_true] at h3
    have hl : isLet c = true := by
      have := h3.1
      unfold okAt at this
      simpa using this
    have hc : 97 ≤ c.toNat := by unfold isLet at hl; simp at hl; exact hl.1
    have h45 : c ≠ 45 := by rintro rfl; exact absurd hc (by decide)
    have h48 : c ≠ 48 := by rintro rfl; exact absurd hc (by decide)
    have hd : isDig c = false := by unfold isDig; rw [decide_eq_false_iff_not]; omega
    rw [number_pos c r h45 (by intro h; cases h; exact h48 rfl) h48, numRest_none _ _ (by rw [numLoop, if_neg (by simp [hd])])]
theorem findEnt_name {es : List (List UInt8 × Int × Int)} {t : List UInt8} (h : findEnt es t < es.length) : es[findEnt es t].1 = t := by
  induction es with
  | nil => simp at h
  | cons e es ih =>
    by_cases he : e.1 = t
    · have : findEnt (e :: es) t = 0 := by rw [findEnt, if_pos he]
      simp only [this]; exact he
    · have e1 : findEnt (e :: es) t = findEnt es t + 1 := by rw [findEnt, if_neg he]
      simp only [e1, List.getElem_cons_succ]
      rw [e1] at h
      exact ih (by simpa using h)
/-- The values so far, of the nodes vs, of the names K, and the bounds KB. -/
structure Env (names : List DeclM) (es : List (List UInt8 × Int × Int)) (KB vs K : List Int) : Prop where
  rel : RelL names es
  len : K.length = names.length
  lenB : KB.length = names.length
  node : ∀ j, (hj : j < es.length) → (hk : j < K.length) → es[j].2.1 ≠ 2 → 0 ≤ es[j].2.2 ∧ es[j].2.2 < vs.length ∧ pickL vs es[j].2.2 = K[j]
  flag : ∀ j, (hj : j < es.length) → (hk : j < K.length) → es[j].2.1 = 1 → K[j] = 0 ∨ K[j] = 1
  small : ∀ j, (hj : j < es.length) → (hk : j < K.length) → (hb : j < KB.length) → es[j].2.1 = 0 → -KB[j] ≤ K[j] ∧ K[j] ≤ KB[j] ∧ KB[j] ≤ 1000000000000000
  num : ∀ e ∈ es, (number e.1).2 = false
theorem Env.more {names : List DeclM} {es : List (List UInt8 × Int × Int)} {KB vs K : List Int} (E : Env names es KB vs K) (t : List Int) : Env names es KB (vs ++ t) K :=
  ⟨E.rel, E.len, E.lenB, node_more E.node t, E.flag, E.small, E.num⟩
theorem arg_value {toks : List (List UInt8)} {names : List DeclM} {es : List (List UInt8 × Int × Int)} {home KB vs K : List Int} {nodes m : List NodeM} {a : Int} {p : Nat} (E : Env names es KB vs K) (hvl : vs.length = nodes.length)
    (h1 : p < toks.length) (h2 : p < 600) (h : ArgN es nodes (atR toks p) a m) :
    ∃ t, valsF home m vs = vs ++ t ∧ t.length = m.length ∧ 0 ≤ a ∧ a < (vs ++ t).length ∧ pickL (vs ++ t) a = valueR toks names K p ∧
      -boundR toks names KB p ≤ valueR toks names K p ∧ valueR toks names K p ≤ boundR toks names KB p ∧ boundR toks names KB p ≤ 1000000000000000 := by
  have hg := getD_atR h1 h2
  unfold boundR valueR
  rw [hg]
  rcases h with ⟨hn, rfl, rfl⟩ | ⟨hn, rfl, hk⟩
  · have hb := number_bd (atR toks p)
    have hs := absv_small hb
    rw [if_pos hn, if_pos hn]
    refine ⟨[(number (atR toks p)).1], rfl, rfl, by omega, by simp [hvl]; omega, ?_, ?_, ?_, by omega⟩
    · rw [← hvl, pickL_last]
    · unfold absv; split <;> omega
    · unfold absv; split <;> omega
  · rw [if_neg (by simp [hn]), if_neg (by simp [hn])]
    unfold knownOf at hk
    split at hk
    · cases hk
    · rename_i e he
      obtain ⟨hl, rfl⟩ := List.getElem?_eq_some_iff.1 he
      split at hk
      · rename_i h0
        cases hk
        have hj : findEnt es (atR toks p) < K.length := by rw [E.len, E.rel.len]; exact hl
        have hjb : findEnt es (atR toks p) < KB.length := by rw [E.lenB, E.rel.len]; exact hl
        obtain ⟨q1, q2, q3⟩ := E.node _ hl hj (by omega)
        obtain ⟨s1, s2, s3⟩ := E.small _ hl hj hjb h0
        have ek : knownAt K (findD names (atR toks p)) = K[findEnt es (atR toks p)] := by
          unfold knownAt findD
          rw [E.rel.find, if_pos hl]
          simp only [Int.zero_add, Int.toNat_natCast]
          rw [List.getD_eq_getElem?_getD, List.getElem?_eq_getElem hj]; rfl
        have ekb : knownAt KB (findD names (atR toks p)) = KB[findEnt es (atR toks p)] := by
          unfold knownAt findD
          rw [E.rel.find, if_pos hl]
          simp only [Int.zero_add, Int.toNat_natCast]
          rw [List.getD_eq_getElem?_getD, List.getElem?_eq_getElem hjb]; rfl
        rw [ek, ekb]
        exact ⟨[], by simp [valsF], rfl, q1, by simpa using q2, by rw [List.append_nil]; exact q3, s1, s2, s3⟩
      · cases hk
theorem flag_value {toks : List (List UInt8)} {names : List DeclM} {es : List (List UInt8 × Int × Int)} {KB vs K : List Int} {nodes m : List NodeM} {a : Int} {p : Nat} (E : Env names es KB vs K)
    (h1 : p < toks.length) (h2 : p < 600) (h : FlagN es nodes (atR toks p) a m) :
    m = [] ∧ 0 ≤ a ∧ a < vs.length ∧ pickL vs a = valueR toks names K p ∧ (valueR toks names K p = 0 ∨ valueR toks names K p = 1) := by
  have hg := getD_atR h1 h2
  obtain ⟨hm, hk⟩ := h
  unfold knownOf at hk
  split at hk
  · cases hk
  · rename_i e he
    obtain ⟨hl, rfl⟩ := List.getElem?_eq_some_iff.1 he
    split at hk
    · rename_i h0
      cases hk
      have hj : findEnt es (atR toks p) < K.length := by rw [E.len, E.rel.len]; exact hl
      obtain ⟨q1, q2, q3⟩ := E.node _ hl hj (by omega)
      have hn : (number (atR toks p)).2 = false := by
        have := E.num _ (List.getElem_mem hl)
        rw [findEnt_name hl] at this; exact this
      have ek : valueR toks names K p = K[findEnt es (atR toks p)] := by
        unfold valueR
        rw [hg, if_neg (by simp [hn])]
        unfold knownAt findD
        rw [E.rel.find, if_pos hl]
        simp only [Int.zero_add, Int.toNat_natCast]
        rw [List.getD_eq_getElem?_getD, List.getElem?_eq_getElem hj]; rfl
      rw [ek]
      exact ⟨hm, q1, q2, q3, E.flag _ hl hj h0⟩
    · cases hk
theorem args_value {toks : List (List UInt8)} {names : List DeclM} {es : List (List UInt8 × Int × Int)} {home KB vs K : List Int} {nodes m m' : List NodeM} {a b : Int} {p : Nat} (E : Env names es KB vs K) (hvl : vs.length = nodes.length)
    (h1 : p + 1 < toks.length) (h2 : p + 1 < 600) (h : ArgN es nodes (atR toks p) a m) (h' : ArgN es (nodes ++ m) (atR toks (p + 1)) b m') :
    ∃ t, valsF home (m ++ m') vs = vs ++ t ∧ t.length = (m ++ m').length ∧ pickL (vs ++ t) a = valueR toks names K p ∧ pickL (vs ++ t) b = valueR toks names K (p + 1) ∧
      -boundR toks names KB p ≤ valueR toks names K p ∧ valueR toks names K p ≤ boundR toks names KB p ∧ boundR toks names KB p ≤ 1000000000000000 ∧
      -boundR toks names KB (p + 1) ≤ valueR toks names K (p + 1) ∧ valueR toks names K (p + 1) ≤ boundR toks names KB (p + 1) ∧ boundR toks names KB (p + 1) ≤ 1000000000000000 := by
  obtain ⟨t, e1, e2, e3, e4, e5, e6⟩ := arg_value (home := home) E hvl (by omega) (by omega) h
  obtain ⟨t', f1, f2, f3, f4, f5, f6⟩ := arg_value (home := home) (E.more t) (nodes := nodes ++ m) (by simp; omega) h1 h2 h'
  refine ⟨t ++ t', by rw [valsF_append, e1, f1, List.append_assoc], by simp [e2, f2], ?_, by rw [← List.append_assoc]; exact f5, e6.1, e6.2.1, e6.2.2, f6⟩
  rw [← List.append_assoc, pickL_append e4]; exact e5
theorem last_value {home vs t : List Int} {nodes pre : List NodeM} {x : NodeM} {W : Int} (h : valsF home pre vs = vs ++ t) (hl : t.length = pre.length) (hvl : vs.length = nodes.length) (hx : nodeValueW x (vs ++ t) home = W) :
    ∃ t', valsF home (pre ++ [x]) vs = vs ++ t' ∧ 0 ≤ ((nodes ++ (pre ++ [x])).length : Int) - 1 ∧ ((nodes ++ (pre ++ [x])).length : Int) - 1 < (vs ++ t').length ∧ pickL (vs ++ t') (((nodes ++ (pre ++ [x])).length : Int) - 1) = W := by
  refine ⟨t ++ [W], ?_, by simp; omega, by simp; omega, ?_⟩
  · rw [valsF_append, h, valsF, valsF, hx, List.append_assoc]
  · have e : ((nodes ++ (pre ++ [x])).length : Int) - 1 = ((vs ++ t).length : Int) := by simp; omega
    rw [e, ← List.append_assoc, pickL_last]
theorem mul_abs (n v B : Int) (h : -B ≤ v) (h' : v ≤ B) : -(absv n * B) ≤ n * v ∧ n * v ≤ absv n * B := by
  unfold absv
  split
  · have a := Int.mul_le_mul_of_nonneg_left h' (show 0 ≤ -n by omega)
    have b := Int.mul_le_mul_of_nonneg_left h (show 0 ≤ -n by omega)
    simp only [Int.neg_mul, Int.mul_neg] at *
    omega
  · have a := Int.mul_le_mul_of_nonneg_left h' (show 0 ≤ n by omega)
    have b := Int.mul_le_mul_of_nonneg_left h (show 0 ≤ n by omega)
    simp only [Int.mul_neg] at *
    omega
theorem floorW_small (a d : Int) (hd : 1 ≤ d) (ha : -1000000000000000 ≤ a) (ha' : a ≤ 1000000000000000) : floorW a d = a / d := by
  have e := floor_tdiv a d hd
  have b := tdiv_bd a d 1000000000000000 ha ha'
  unfold floorI at e
  rw [if_neg (by omega)] at e
  unfold floorW
  rw [if_neg (by omega), e, wrap_id (a.tdiv d) (by omega) (by omega), wrap_id (a.tdiv d - 1) (by omega) (by omega)]
theorem div_bd (a d A : Int) (hd : 1 ≤ d) (h : -A ≤ a) (h' : a ≤ A) : -A ≤ a / d ∧ a / d ≤ A := by
  have hA : A ≤ A * d := by
    have := Int.mul_le_mul_of_nonneg_left hd (show 0 ≤ A by omega)
    omega
  refine ⟨Int.le_ediv_of_mul_le (by omega) ?_, Int.ediv_le_of_le_mul (by omega) (by omega)⟩
  rw [Int.neg_mul]; omega
end Go.Proofs.YtfaljekgpnbmiaaGreat.Pl
