/- Joined: PlainTree4. -/
import Derived.Test.YtfaljekgpnbmiaaGreatH29
/-
  The whole text of the high form: the program's loops against the pile.
-/
namespace Go.Proofs.YtfaljekgpnbmiaaGreat.Pl
set_option linter.unusedSimpArgs false
set_option linter.unusedVariables false

/-- How names and nodes of a text of the high form came to be. -/
def HBuilt (toks : List (List UInt8)) (x1 : List DeclM) (x2 : RdM) : Prop :=
  ∀ motive : List DeclM → RdM → Prop, (motive [] ⟨[], [], [], toks, 0, []⟩) → (∀ (names : List DeclM) (r : RdM) (h : motive names r) (d : DeclM) (q : Nat) (hk : d.kind = 105) (hn : names.length = r.ins.length) (h1 : -1000000000 ≤ d.lo) (h2 : d.lo ≤ d.hi) (h3 : d.hi ≤ 1000000000) (hne : d.name ≠ []) (hfr : fresh names d.name = true), motive (names ++ [d]) ⟨r.ins ++ [(d.lo, d.hi)], r.nodes ++ [⟨1, 0, 0, 0, r.ins.length, []⟩], r.outs, toks, q, r.ents ++ [(d.name, 0, (r.nodes.length : Int))]⟩) → (∀ (names : List DeclM) (r : RdM) (h : motive names r) (i q : Nat) (name : List UInt8) (n : Int) (m : List NodeM) (ex : Ex) (hp : Par toks names false i ex q) (hl : Laid r.ents r.nodes ex n m) (hne : name ≠ []) (hfr : fresh names name = true), motive (names ++ [⟨name, 118, 0, 0, i⟩]) ⟨r.ins, r.nodes ++ m, r.outs, toks, q, r.ents ++ [(name, 0, n)]⟩) → (∀ (names : List DeclM) (r : RdM) (h : motive names r) (i q : Nat) (name : List UInt8) (n : Int) (m : List NodeM) (ex : Ex) (hp : Par toks names false i ex q) (hl : Laid r.ents r.nodes ex n m) (hne : name ≠ []) (hfr : fresh names name = true), motive (names ++ [⟨name, 111, 0, 0, i⟩]) ⟨r.ins, r.nodes ++ m, r.outs ++ [n], toks, q, r.ents ++ [(name, 2, n)]⟩) → motive x1 x2
theorem HBuilt.start {toks : List (List UInt8)}  : HBuilt toks [] ⟨[], [], [], toks, 0, []⟩ := fun motive m1 m2 m3 m4 => m1 
theorem HBuilt.input {toks : List (List UInt8)} {names : List DeclM} {r : RdM} (h : HBuilt toks names r) (d : DeclM) (q : Nat) (hk : d.kind = 105) (hn : names.length = r.ins.length) (h1 : -1000000000 ≤ d.lo) (h2 : d.lo ≤ d.hi) (h3 : d.hi ≤ 1000000000) (hne : d.name ≠ []) (hfr : fresh names d.name = true) : HBuilt toks (names ++ [d]) ⟨r.ins ++ [(d.lo, d.hi)], r.nodes ++ [⟨1, 0, 0, 0, r.ins.length, []⟩], r.outs, toks, q, r.ents ++ [(d.name, 0, (r.nodes.length : Int))]⟩ := fun motive m1 m2 m3 m4 => m2 names r (h motive m1 m2 m3 m4) d q hk hn h1 h2 h3 hne hfr
theorem HBuilt.let' {toks : List (List UInt8)} {names : List DeclM} {r : RdM} (h : HBuilt toks names r) (i q : Nat) (name : List UInt8) (n : Int) (m : List NodeM) (ex : Ex) (hp : Par toks names false i ex q) (hl : Laid r.ents r.nodes ex n m) (hne : name ≠ []) (hfr : fresh names name = true) : HBuilt toks (names ++ [⟨name, 118, 0, 0, i⟩]) ⟨r.ins, r.nodes ++ m, r.outs, toks, q, r.ents ++ [(name, 0, n)]⟩ := fun motive m1 m2 m3 m4 => m3 names r (h motive m1 m2 m3 m4) i q name n m ex hp hl hne hfr
theorem HBuilt.out {toks : List (List UInt8)} {names : List DeclM} {r : RdM} (h : HBuilt toks names r) (i q : Nat) (name : List UInt8) (n : Int) (m : List NodeM) (ex : Ex) (hp : Par toks names false i ex q) (hl : Laid r.ents r.nodes ex n m) (hne : name ≠ []) (hfr : fresh names name = true) : HBuilt toks (names ++ [⟨name, 111, 0, 0, i⟩]) ⟨r.ins, r.nodes ++ m, r.outs ++ [n], toks, q, r.ents ++ [(name, 2, n)]⟩ := fun motive m1 m2 m3 m4 => m4 names r (h motive m1 m2 m3 m4) i q name n m ex hp hl hne hfr
theorem HBuilt.ind {toks : List (List UInt8)} {motive : ∀ (x1 : List DeclM) (x2 : RdM), HBuilt toks x1 x2 → Prop}
    (start : motive [] ⟨[], [], [], toks, 0, []⟩ HBuilt.start)
    (input : ∀ {names : List DeclM} {r : RdM} (h : HBuilt toks names r) (d : DeclM) (q : Nat) (hk : d.kind = 105) (hn : names.length = r.ins.length) (h1 : -1000000000 ≤ d.lo) (h2 : d.lo ≤ d.hi) (h3 : d.hi ≤ 1000000000) (hne : d.name ≠ []) (hfr : fresh names d.name = true), motive names r h → motive (names ++ [d]) ⟨r.ins ++ [(d.lo, d.hi)], r.nodes ++ [⟨1, 0, 0, 0, r.ins.length, []⟩], r.outs, toks, q, r.ents ++ [(d.name, 0, (r.nodes.length : Int))]⟩ (HBuilt.input h d q hk hn h1 h2 h3 hne hfr))
    (let' : ∀ {names : List DeclM} {r : RdM} (h : HBuilt toks names r) (i q : Nat) (name : List UInt8) (n : Int) (m : List NodeM) (ex : Ex) (hp : Par toks names false i ex q) (hl : Laid r.ents r.nodes ex n m) (hne : name ≠ []) (hfr : fresh names name = true), motive names r h → motive (names ++ [⟨name, 118, 0, 0, i⟩]) ⟨r.ins, r.nodes ++ m, r.outs, toks, q, r.ents ++ [(name, 0, n)]⟩ (HBuilt.let' h i q name n m ex hp hl hne hfr))
    (out : ∀ {names : List DeclM} {r : RdM} (h : HBuilt toks names r) (i q : Nat) (name : List UInt8) (n : Int) (m : List NodeM) (ex : Ex) (hp : Par toks names false i ex q) (hl : Laid r.ents r.nodes ex n m) (hne : name ≠ []) (hfr : fresh names name = true), motive names r h → motive (names ++ [⟨name, 111, 0, 0, i⟩]) ⟨r.ins, r.nodes ++ m, r.outs ++ [n], toks, q, r.ents ++ [(name, 2, n)]⟩ (HBuilt.out h i q name n m ex hp hl hne hfr))
    {x1 : List DeclM} {x2 : RdM} (t : HBuilt toks x1 x2) : motive x1 x2 t := by
  have key : ∃ h : HBuilt toks x1 x2, motive x1 x2 h := by
    refine t (fun x1 x2 => ∃ h : HBuilt toks x1 x2, motive x1 x2 h) ?_ ?_ ?_ ?_
    · skip
      exact ⟨HBuilt.start , start ⟩
    · intro names r h d q hk hn h1 h2 h3 hne hfr
      obtain ⟨h, hi⟩ := h
      exact ⟨HBuilt.input h d q hk hn h1 h2 h3 hne hfr, input h d q hk hn h1 h2 h3 hne hfr hi⟩
    · intro names r h i q name n m ex hp hl hne hfr
      obtain ⟨h, hi⟩ := h
      exact ⟨HBuilt.let' h i q name n m ex hp hl hne hfr, let' h i q name n m ex hp hl hne hfr hi⟩
    · intro names r h i q name n m ex hp hl hne hfr
      obtain ⟨h, hi⟩ := h
      exact ⟨HBuilt.out h i q name n m ex hp hl hne hfr, out h i q name n m ex hp hl hne hfr hi⟩
  obtain ⟨_, k⟩ := key
  exact k
theorem fresh_rName {names : List DeclM} {t : List UInt8} (h : fresh names t = true) : rName t = true := by
  unfold fresh at h
  simp only [Bool.and_eq_true] at h
  exact h.1
theorem EnvR.more {toks : List (List UInt8)} {names : List DeclM} {r : RdM} (h : EnvR toks names r) (d : DeclM) (kd n : Int) (ins : List (Int × Int)) (N : List NodeM) (outs : List Int) (q : Nat) (hq : q ≤ toks.length) (hk : KR d.kind kd) (hfr : fresh names d.name = true) : EnvR toks (names ++ [d]) ⟨ins, N, outs, toks, q, r.ents ++ [(d.name, kd, n)]⟩ := by
  have hr := fresh_rName hfr
  refine ⟨rfl, h.rel.snoc _ _ rfl hk, ?_, ?_, ?_, hq⟩
  · intro e he
    rcases List.mem_append.1 he with he | he
    · exact h.ne e he
    · rw [List.mem_singleton] at he; subst he; exact h.rel.fresh_ne hfr
  · intro e he
    rcases List.mem_append.1 he with he | he
    · exact h.nm e he
    · rw [List.mem_singleton] at he; subst he; exact hr
  · intro e he
    rcases List.mem_append.1 he with he | he
    · exact h.num e he
    · rw [List.mem_singleton] at he; subst he; exact rName_number hr
def GoesN (toks : List (List UInt8)) (pos : Nat) (names : List DeclM) (q : Nat) (names' : List DeclM) : Prop :=
  ∀ last nm bg, ∃ last' nm' bg', ∀ res, Ends toks ⟨q, [72], names', last', nm', bg'⟩ res → Ends toks ⟨pos, [72], names, last, nm, bg⟩ res
def FailsN (toks : List (List UInt8)) (pos : Nat) (names : List DeclM) (p : Nat) : Prop := ∀ last nm bg, Ends toks ⟨pos, [72], names, last, nm, bg⟩ (.inr p)
theorem GoesN.refl {toks : List (List UInt8)} {pos : Nat} {names : List DeclM} : GoesN toks pos names pos names := fun last nm bg => ⟨last, nm, bg, fun _ h => h⟩
theorem GoesN.trans {toks : List (List UInt8)} {a b d : Nat} {n1 n2 n3 : List DeclM} (h : GoesN toks a n1 b n2) (k : GoesN toks b n2 d n3) : GoesN toks a n1 d n3 := by
  intro last nm bg
  obtain ⟨l1, m1, b1, h1⟩ := h last nm bg
  obtain ⟨l2, m2, b2, h2⟩ := k l1 m1 b1
  exact ⟨l2, m2, b2, fun res hr => h1 res (h2 res hr)⟩
theorem GoesN.fails {toks : List (List UInt8)} {a b p : Nat} {n1 n2 : List DeclM} (h : GoesN toks a n1 b n2) (k : FailsN toks b n2 p) : FailsN toks a n1 p := by
  intro last nm bg
  obtain ⟨l1, m1, b1, h1⟩ := h last nm bg
  exact h1 _ (k l1 m1 b1)
section
variable {toks : List (List UInt8)} {names : List DeclM}
theorem input_sim (r : RdM) (he : EnvR toks names r) :
    (∃ r1, inputR r = (false, r1) ∧ ∀ last nm bg, Ends toks ⟨r.pos, [72, 73, 98, 97, 105], names, last, nm, bg⟩ (.inr r1.pos)) ∨
    (∃ d : DeclM, d.kind = 105 ∧ d.name ≠ [] ∧ fresh names d.name = true ∧ -1000000000 ≤ d.lo ∧ d.lo ≤ d.hi ∧ d.hi ≤ 1000000000 ∧ r.pos + 3 ≤ toks.length ∧
      inputR r = (true, ⟨r.ins ++ [(d.lo, d.hi)], r.nodes ++ [⟨1, 0, 0, 0, r.ins.length, []⟩], r.outs, toks, r.pos + 3, r.ents ++ [(d.name, 0, (r.nodes.length : Int))]⟩) ∧
      ∀ last nm bg, ∃ last' nm' bg', ∀ res, Ends toks ⟨r.pos + 3, [72], names ++ [d], last', nm', bg'⟩ res → Ends toks ⟨r.pos, [72, 73, 98, 97, 105], names, last, nm, bg⟩ res) := by
  have hnn := RelL.newName (r := r) he.rel
  rw [he.toks] at hnn
  unfold inputR
  rw [hnn]
  have p0 : ([72, 73, 98, 97, 105] : List UInt8) = [72, 73, 98, 97] ++ [105] := rfl
  cases hf : fresh names (atR toks r.pos) with
  | false =>
    left
    refine ⟨r, by simp, fun last nm bg => ?_⟩
    rw [p0]
    exact ends_fail he.pos (by decide) (fun h => absurd h (by decide)) (by show yesD (fresh names (atR toks r.pos)) = []; rw [hf]; rfl)
  | true =>
    have hne := he.rel.fresh_ne hf
    obtain ⟨hs, hs2, hs3⟩ := he.skip hne
    rw [if_pos rfl]
    simp only
    rw [hs, num_wide, peek_atR]
    simp only
    have g1 : ∀ last nm bg res, Ends toks ⟨r.pos + 1, [72, 73, 98] ++ [97], names, last, atR toks r.pos, r.pos + 1⟩ res → Ends toks ⟨r.pos, [72, 73, 98, 97, 105], names, last, nm, bg⟩ res := by
      intro last nm bg res h
      rw [p0]
      exact ends_tok (s := [45]) (by decide) hne (by show yesD (fresh names (atR toks r.pos)) = [45]; rw [hf]; rfl) (by decide) h
    have hb2 := number_bd (atR toks (r.pos + 1))
    have w2 : within (atR toks (r.pos + 1)) (-1000000000) 1000000000 = (number (atR toks (r.pos + 1))).2 := by unfold within; simp [hb2.1, hb2.2]
    cases hn2 : (number (atR toks (r.pos + 1))).2 with
    | false =>
      left
      refine ⟨_, by simp; rfl, fun last nm bg => g1 _ _ _ _ ?_⟩
      exact ends_fail hs2 (by decide) (fun h => absurd h (by decide)) (by show yesD (within (atR toks (r.pos + 1)) (-1000000000) 1000000000) = []; rw [w2, hn2]; rfl)
    | true =>
      have hne2 := number_ne hn2
      obtain ⟨ks, ks2, ks3⟩ := (he.at' r.nodes (r.pos + 1) hs2).skip hne2
      simp only at ks ks2 ks3
      rw [if_pos rfl]
      simp only
      rw [ks, num_within, peek_atR]
      simp only
      have g2 : ∀ last nm bg res, Ends toks ⟨r.pos + 2, [72, 73] ++ [98], names, (number (atR toks (r.pos + 1))).1, atR toks r.pos, r.pos + 1⟩ res → Ends toks ⟨r.pos, [72, 73, 98, 97, 105], names, last, nm, bg⟩ res := by
        intro last nm bg res h
        refine g1 last nm bg res ?_
        exact ends_tok (s := [45]) (by decide) hne2 (by show yesD (within (atR toks (r.pos + 1)) (-1000000000) 1000000000) = [45]; rw [w2, hn2]; rfl) (by decide) h
      have hb3 := number_bd (atR toks (r.pos + 1 + 1))
      cases hw : within (atR toks (r.pos + 1 + 1)) (number (atR toks (r.pos + 1))).1 1000000000 with
      | false =>
        left
        refine ⟨_, by simp; rfl, fun last nm bg => g2 last _ _ _ ?_⟩
        exact ends_fail ks2 (by decide) (fun h => absurd h (by decide)) (by show yesD (within (atR toks (r.pos + 2)) (number (atR toks (r.pos + 1))).1 1000000000) = []; rw [show r.pos + 2 = r.pos + 1 + 1 from rfl, hw]; rfl)
      | true =>
        right
        have hw3 : (number (atR toks (r.pos + 1 + 1))).2 = true ∧ (number (atR toks (r.pos + 1))).1 ≤ (number (atR toks (r.pos + 1 + 1))).1 := by have := hw; unfold within at this; simp at this; exact this.1
        have hne3 := number_ne hw3.1
        obtain ⟨js, js2, js3⟩ := (he.at' r.nodes (r.pos + 1 + 1) ks2).skip hne3
        simp only at js js2 js3
        rw [if_pos rfl]
        simp only
        rw [js]
        have e1 : atR toks (r.pos + 1) = toks.getD (r.pos + 1) [] := by unfold atR; rw [if_pos (by omega)]
        have e2 : atR toks (r.pos + 1 + 1) = toks.getD (r.pos + 1 + 1) [] := by unfold atR; rw [if_pos (by omega)]
        refine ⟨declD toks (atR toks r.pos) (r.pos + 1) 73, rfl, hne, hf, ?_, ?_, ?_, by omega, ?_, fun last nm bg => ?_⟩
        · show -1000000000 ≤ (number (toks.getD (r.pos + 1) [])).1; rw [← e1]; exact hb2.1
        · show (number (toks.getD (r.pos + 1) [])).1 ≤ (number (toks.getD (r.pos + 1 + 1) [])).1; rw [← e1, ← e2]; exact hw3.2
        · show (number (toks.getD (r.pos + 1 + 1) [])).1 ≤ 1000000000; rw [← e2]; exact hb3.2
        · show _ = (true, (⟨r.ins ++ [((number (toks.getD (r.pos + 1) [])).1, (number (toks.getD (r.pos + 1 + 1) [])).1)], _, _, _, _, _⟩ : RdM))
          rw [← e1, ← e2]; rfl
        · refine ⟨(number (atR toks (r.pos + 1))).1, atR toks r.pos, r.pos + 1, fun res hr => g2 last nm bg res ?_⟩
          refine ends_tok (s := [45]) (by decide) hne3 (by show yesD (within (atR toks (r.pos + 1 + 1)) (number (atR toks (r.pos + 1))).1 1000000000) = [45]; rw [hw]; rfl) (by decide) ?_
          rw [if_pos rfl, if_neg (by decide), if_neg (by decide)]
          exact .name _ [72] 73 res rfl (by decide) (fun _ => by simp only; omega) hr
theorem named_sim (hsp : ∀ t ∈ toks, NoSp t) (c1 c2 : UInt8) (hc : (c1 = 108 ∧ c2 = 86) ∨ (c1 = 111 ∧ c2 = 79)) (r : RdM) (he : EnvR toks names r) :
    (∃ r1, namedR r = (none, r1) ∧ ∀ last nm bg, Ends toks ⟨r.pos, [72, c2, 69, c1], names, last, nm, bg⟩ (.inr r1.pos)) ∨
    (∃ name n m ex q, namedR r = (some (name, n), ⟨r.ins, r.nodes ++ m, r.outs, toks, q, r.ents⟩) ∧ fresh names name = true ∧ name ≠ [] ∧ Par toks names false (r.pos + 1) ex q ∧ Laid r.ents r.nodes ex n m ∧ q ≤ toks.length ∧ q ≤ 600 ∧
      ∀ last nm bg, ∃ last' nm' bg', ∀ res, Ends toks ⟨q, [72], names ++ [declD toks name (r.pos + 1) c2], last', nm', bg'⟩ res → Ends toks ⟨r.pos, [72, c2, 69, c1], names, last, nm, bg⟩ res) := by
  have hnn := RelL.newName (r := r) he.rel
  rw [he.toks] at hnn
  unfold namedR
  rw [hnn]
  have p0 : ([72, c2, 69, c1] : List UInt8) = [72, c2, 69] ++ [c1] := rfl
  have hc1 : isNew c1 ∧ ¬ isEnd c1 ∧ c1 ≠ 72 ∧ isEnd c2 ∧ c2 ≠ 73 := by rcases hc with ⟨rfl, rfl⟩ | ⟨rfl, rfl⟩ <;> decide
  have hlead : ∀ last, leadsD names last c1 (atR toks r.pos) = yesD (fresh names (atR toks r.pos)) := by intro last; rcases hc with ⟨rfl, rfl⟩ | ⟨rfl, rfl⟩ <;> rfl
  have hlast : ∀ last, lastD last c1 (atR toks r.pos) = last := by intro last; rcases hc with ⟨rfl, rfl⟩ | ⟨rfl, rfl⟩ <;> rfl
  cases hf : fresh names (atR toks r.pos) with
  | false =>
    left
    refine ⟨r, by simp, fun last nm bg => ?_⟩
    rw [p0]
    exact ends_fail he.pos hc1.2.1 (fun h => absurd h hc1.2.2.1) (by rw [hlead, hf]; rfl)
  | true =>
    have hne := he.rel.fresh_ne hf
    obtain ⟨hs, hs2, hs3⟩ := he.skip hne
    rw [if_pos rfl]
    simp only
    rw [hs]
    have g1 : ∀ last nm bg res, Ends toks ⟨r.pos + 1, [72, c2] ++ [cOf false], names, last, atR toks r.pos, r.pos + 1⟩ res → Ends toks ⟨r.pos, [72, c2, 69, c1], names, last, nm, bg⟩ res := by
      intro last nm bg res h
      rw [p0]
      refine ends_tok (s := [45]) hc1.2.1 hne (by rw [hlead, hf]; rfl) (by decide) ?_
      rw [if_pos rfl, if_pos hc1.1, if_pos hc1.1, hlast]
      exact h
    rcases read_sim hsp 600 false ⟨r.ins, r.nodes, r.outs, toks, r.pos + 1, r.ents⟩ (he.at' _ _ hs2) (by omega) with ⟨r1, k1, k2⟩ | ⟨n, m, ex, q, k1, k2, k3, k4, k5, k6, k7⟩
    · left
      exact ⟨r1, by rw [k1], fun last nm bg => g1 last nm bg _ (k2 [72, c2] last _ _)⟩
    · right
      simp only at k1 k2 k5 k6 k7
      refine ⟨atR toks r.pos, n, m, ex, q, by rw [k1], hf, hne, k5, k6, k3, k4, fun last nm bg => ?_⟩
      obtain ⟨l1, h1⟩ := k7 [72, c2] last (atR toks r.pos) (r.pos + 1)
      refine ⟨l1, atR toks r.pos, r.pos + 1, fun res hr => g1 last nm bg res (h1 res ?_)⟩
      exact .name _ [72] c2 res rfl hc1.2.2.2.1 (fun h => absurd h hc1.2.2.2.2) hr
theorem head_fails (r : RdM) (he : EnvR toks names r) (hc : countD names 111 = 0 ∨ r.pos < toks.length) (hh : headsD names (atR toks r.pos) = []) : FailsN toks r.pos names r.pos := by
  intro last nm bg
  exact ends_fail (P := []) he.pos (by decide) (fun _ h => by rcases hc with h2 | h2; exact h2; omega) hh
theorem head_goes (r : RdM) (he : EnvR toks names r) (hne : atR toks r.pos ≠ []) {s : List UInt8} (hh : headsD names (atR toks r.pos) = 72 :: s) (hs : s ≠ []) : ∀ last nm bg res, Ends toks ⟨r.pos + 1, 72 :: s, names, last, nm, bg⟩ res → Ends toks ⟨r.pos, [72], names, last, nm, bg⟩ res := by
  intro last nm bg res h
  refine ends_tok (P := []) (s := 72 :: s) (by decide) hne hh (by simp) ?_
  rw [if_neg (by simp), if_neg (by decide), if_neg (by decide)]
  exact h
end
theorem hinputs_eq (toks : List (List UInt8)) (n : Nat) : ∀ (names : List DeclM) (r : RdM), HBuilt toks names r → EnvR toks names r → names.length = countD names 105 → countD names 118 = 0 → countD names 111 = 0 → names.length = r.ins.length → names.length + n = 4 →
    (∃ r1, inputsR n (decide (0 < names.length)) r = (false, r1) ∧ FailsN toks r.pos names r1.pos) ∨
    (∃ names' r', inputsR n (decide (0 < names.length)) r = (true, r') ∧ HBuilt toks names' r' ∧ EnvR toks names' r' ∧ countD names' 105 = names'.length ∧ countD names' 118 = 0 ∧ countD names' 111 = 0 ∧ 1 ≤ names'.length ∧ names'.length ≤ 4 ∧ GoesN toks r.pos names r'.pos names' ∧ (atR toks r'.pos ≠ kIn ∨ names'.length = 4)) := by
  induction n with
  | zero =>
    intro names r hB he hc hv ho hi hn
    right
    exact ⟨names, r, rfl, hB, he, by omega, hv, ho, by omega, by omega, .refl, .inr (by omega)⟩
  | succ n ih =>
    intro names r hB he hc hv ho hi hn
    rw [inputsR, peek_atR, he.toks]
    by_cases hin : atR toks r.pos = kIn
    · have hne : atR toks r.pos ≠ [] := by rw [hin]; decide
      rw [if_pos hin]
      obtain ⟨hs, hs2, hs3⟩ := he.skip hne
      rw [hs]
      have hh : headsD names (atR toks r.pos) = [72, 73, 98, 97, 105] := by unfold headsD; rw [if_pos ⟨hin, hv, ho, by omega⟩]
      have hg := head_goes r he hne hh (by simp)
      rcases input_sim ⟨r.ins, r.nodes, r.outs, toks, r.pos + 1, r.ents⟩ (he.at' _ _ hs2) with ⟨r1, k1, k2⟩ | ⟨d, d1, d2, d3, d4, d5, d6, d7, k1, k2⟩
      · left
        exact ⟨r1, by rw [k1], fun last nm bg => hg last nm bg _ (k2 last nm bg)⟩
      · simp only at d7 k1 k2
        rw [k1]
        simp only
        have hB' := HBuilt.input hB d (r.pos + 1 + 3) d1 hi d4 d5 d6 d2 d3
        have he' := he.more d 0 (r.nodes.length : Int) (r.ins ++ [(d.lo, d.hi)]) (r.nodes ++ [⟨1, 0, 0, 0, r.ins.length, []⟩]) r.outs (r.pos + 1 + 3) d7 (.inl ⟨.inl d1, rfl⟩) d3
        have hgn : GoesN toks r.pos names (r.pos + 1 + 3) (names ++ [d]) := by
          intro last nm bg
          obtain ⟨l1, m1, b1, h1⟩ := k2 last nm bg
          exact ⟨l1, m1, b1, fun res hr => hg last nm bg res (h1 res hr)⟩
        have hany : decide (0 < (names ++ [d]).length) = true := by simp
        have := ih (names ++ [d]) _ hB' he' (by rw [countD_snoc, if_pos d1, List.length_append]; simp; omega) (by rw [countD_snoc, if_neg (by omega)]; omega) (by rw [countD_snoc, if_neg (by omega)]; omega) (by simp; omega) (by simp; omega)
        rw [hany] at this
        rcases this with ⟨r1, j1, j2⟩ | ⟨n', r', j1, j2, j3, j4, j5, j6, j7, j8, j9, j10⟩
        · left; exact ⟨r1, j1, hgn.fails j2⟩
        · right; exact ⟨n', r', j1, j2, j3, j4, j5, j6, j7, j8, hgn.trans j9, j10⟩
    · rw [if_neg hin]
      by_cases h0 : 0 < names.length
      · right
        rw [decide_eq_true h0]
        exact ⟨names, r, rfl, hB, he, by omega, hv, ho, h0, by omega, .refl, .inl hin⟩
      · left
        rw [decide_eq_false h0]
        refine ⟨r, rfl, head_fails r he (.inl ho) ?_⟩
        unfold headsD; rw [if_neg (fun h => hin h.1), if_neg (by omega), if_neg (by omega)]
theorem hlets_eq (toks : List (List UInt8)) (hsp : ∀ t ∈ toks, NoSp t) (c : Nat) (hc1 : 1 ≤ c) (n : Nat) : ∀ (names : List DeclM) (r : RdM), HBuilt toks names r → EnvR toks names r → countD names 105 = c → countD names 111 = 0 → countD names 118 + n = 16 → (countD names 118 = 0 → atR toks r.pos ≠ kIn ∨ c = 4) →
    (∃ r1, letsR n r = (false, r1) ∧ FailsN toks r.pos names r1.pos) ∨
    (∃ names' r', letsR n r = (true, r') ∧ HBuilt toks names' r' ∧ EnvR toks names' r' ∧ countD names' 105 = c ∧ countD names' 111 = 0 ∧ countD names' 118 ≤ 16 ∧ GoesN toks r.pos names r'.pos names' ∧ (countD names' 118 = 0 → atR toks r'.pos ≠ kIn ∨ c = 4) ∧ (atR toks r'.pos ≠ kLet ∨ countD names' 118 = 16)) := by
  induction n with
  | zero =>
    intro names r hB he hc ho hn hin
    right
    exact ⟨names, r, rfl, hB, he, hc, ho, by omega, .refl, hin, .inr (by omega)⟩
  | succ n ih =>
    intro names r hB he hc ho hn hin
    rw [letsR, peek_atR, he.toks]
    by_cases hse : atR toks r.pos = kLet
    · have hne : atR toks r.pos ≠ [] := by rw [hse]; decide
      rw [if_pos hse]
      obtain ⟨hs, hs2, hs3⟩ := he.skip hne
      rw [hs]
      have hh : headsD names (atR toks r.pos) = [72, 86, 69, 108] := by
        unfold headsD
        rw [if_neg (fun h => by rw [hse] at h; exact absurd h.1 (by decide)), if_pos ⟨hse, by omega, ho, by omega⟩]
      have hg := head_goes r he hne hh (by simp)
      rcases named_sim hsp 108 86 (.inl ⟨rfl, rfl⟩) ⟨r.ins, r.nodes, r.outs, toks, r.pos + 1, r.ents⟩ (he.at' _ _ hs2) with ⟨r1, k1, k2⟩ | ⟨name, a, m, ex, q, k1, k2, k3, k4, k5, k6, k6', k7⟩
      · left
        exact ⟨r1, by rw [k1], fun last nm bg => hg last nm bg _ (k2 last nm bg)⟩
      · simp only at k1 k4 k5 k7
        rw [k1]
        simp only
        have hB' := HBuilt.let' hB (r.pos + 1 + 1) q name a m ex k4 k5 k3 k2
        have he' := he.more ⟨name, 118, 0, 0, ((r.pos + 1 + 1 : Nat) : Int)⟩ 0 a r.ins (r.nodes ++ m) r.outs q k6 (.inl ⟨.inr rfl, rfl⟩) k2
        have hgn : GoesN toks r.pos names q (names ++ [⟨name, 118, 0, 0, ((r.pos + 1 + 1 : Nat) : Int)⟩]) := by
          intro last nm bg
          obtain ⟨l1, m1, b1, h1⟩ := k7 last nm bg
          exact ⟨l1, m1, b1, fun res hr => hg last nm bg res (h1 res hr)⟩
        rcases ih _ _ hB' he' (by rw [countD_snoc, if_neg (by simp)]; omega) (by rw [countD_snoc, if_neg (by simp)]; omega) (by rw [countD_snoc, if_pos rfl]; omega) (by rw [countD_snoc, if_pos rfl]; omega) with ⟨r1, j1, j2⟩ | ⟨n', r', j1, j2, j3, j4, j5, j6, j7, j8, j9⟩
        · left; exact ⟨r1, j1, hgn.fails j2⟩
        · right; exact ⟨n', r', j1, j2, j3, j4, j5, j6, hgn.trans j7, j8, j9⟩
    · rw [if_neg hse]
      right
      exact ⟨names, r, rfl, hB, he, hc, ho, by omega, .refl, hin, .inl hse⟩
theorem houts_eq (toks : List (List UInt8)) (hsp : ∀ t ∈ toks, NoSp t) (c : Nat) (hc1 : 1 ≤ c) (n : Nat) : ∀ (names : List DeclM) (r : RdM) (o : Nat), HBuilt toks names r → EnvR toks names r → countD names 105 = c → countD names 111 = o → o + n = 4 → (o = 0 → (countD names 118 = 0 → atR toks r.pos ≠ kIn ∨ c = 4) ∧ (atR toks r.pos ≠ kLet ∨ countD names 118 = 16)) →
    (∃ r1, outsR n (decide (0 < o)) r = (false, r1) ∧ FailsN toks r.pos names r1.pos) ∨
    (∃ names' r', outsR n (decide (0 < o)) r = (true, r') ∧ HBuilt toks names' r' ∧ (0 < countD names' 111 ∧ countD names' 111 ≤ 4 ∧ countD names' 105 = c ∧ countD names' 118 = countD names 118) ∧ ∀ last nm bg, Ends toks ⟨r.pos, [72], names, last, nm, bg⟩ (.inl names')) := by
  have hbad : ∀ (names : List DeclM) (r : RdM) (o : Nat), countD names 105 = c → countD names 111 = o → (o = 0 → (countD names 118 = 0 → atR toks r.pos ≠ kIn ∨ c = 4) ∧ (atR toks r.pos ≠ kLet ∨ countD names 118 = 16)) → (atR toks r.pos ≠ kOut ∨ 4 ≤ o) → headsD names (atR toks r.pos) = [] := by
    intro names r o h1 h2 h4 h5
    unfold headsD
    rw [if_neg, if_neg, if_neg]
    · intro h; rcases h5 with h5 | h5
      · exact h5 h.1
      · omega
    · intro h
      rcases (h4 (by omega)).2 with h6 | h6
      · exact h6 h.1
      · omega
    · intro h
      rcases (h4 (by omega)).1 (by omega) with h6 | h6
      · exact h6 h.1
      · omega
  induction n with
  | zero =>
    intro names r o hB he hc ho hn hin
    rw [outsR, he.toks]
    by_cases hlt : r.pos < toks.length
    · left
      exact ⟨r, by rw [decide_eq_false (by omega)], head_fails r he (.inr hlt) (hbad names r o hc ho hin (.inr (by omega)))⟩
    · right
      have hp := he.pos
      exact ⟨names, r, by rw [decide_eq_true (by omega)], hB, ⟨by omega, by omega, hc, rfl⟩, fun last nm bg => .good _ [] rfl (by simp only; omega) (by simp only; omega)⟩
  | succ n ih =>
    intro names r o hB he hc ho hn hin
    rw [outsR, peek_atR, he.toks]
    by_cases hend : decide (0 < o) = true ∧ toks.length ≤ r.pos
    · rw [if_pos hend]
      right
      have hp := he.pos
      have : 0 < o := by simpa using hend.1
      exact ⟨names, r, rfl, hB, ⟨by omega, by omega, hc, rfl⟩, fun last nm bg => .good _ [] rfl (by simp only; omega) (by simp only; omega)⟩
    · rw [if_neg hend]
      by_cases hou : atR toks r.pos = kOut
      · have hne : atR toks r.pos ≠ [] := by rw [hou]; decide
        rw [if_pos hou]
        obtain ⟨hs, hs2, hs3⟩ := he.skip hne
        rw [hs]
        have hh : headsD names (atR toks r.pos) = [72, 79, 69, 111] := by
          unfold headsD
          rw [if_neg (fun h => by rw [hou] at h; exact absurd h.1 (by decide)), if_neg (fun h => by rw [hou] at h; exact absurd h.1 (by decide)), if_pos ⟨hou, by omega, by omega⟩]
        have hg := head_goes r he hne hh (by simp)
        rcases named_sim hsp 111 79 (.inr ⟨rfl, rfl⟩) ⟨r.ins, r.nodes, r.outs, toks, r.pos + 1, r.ents⟩ (he.at' _ _ hs2) with ⟨r1, k1, k2⟩ | ⟨name, a, m, ex, q, k1, k2, k3, k4, k5, k6, k6', k7⟩
        · left
          exact ⟨r1, by rw [k1], fun last nm bg => hg last nm bg _ (k2 last nm bg)⟩
        · simp only at k1 k4 k5 k7
          rw [k1]
          simp only
          have hB' := HBuilt.out hB (r.pos + 1 + 1) q name a m ex k4 k5 k3 k2
          have he' := he.more ⟨name, 111, 0, 0, ((r.pos + 1 + 1 : Nat) : Int)⟩ 2 a r.ins (r.nodes ++ m) (r.outs ++ [a]) q k6 (.inr (.inr ⟨rfl, rfl⟩)) k2
          have hgn : GoesN toks r.pos names q (names ++ [⟨name, 111, 0, 0, ((r.pos + 1 + 1 : Nat) : Int)⟩]) := by
            intro last nm bg
            obtain ⟨l1, m1, b1, h1⟩ := k7 last nm bg
            exact ⟨l1, m1, b1, fun res hr => hg last nm bg res (h1 res hr)⟩
          have := ih _ _ (o + 1) hB' he' (by rw [countD_snoc, if_neg (by simp)]; omega) (by rw [countD_snoc, if_pos rfl]; omega) (by omega) (by omega)
          rw [decide_eq_true (by omega : 0 < o + 1)] at this
          rcases this with ⟨r1, j1, j2⟩ | ⟨n', r', j1, j2, j3, j4⟩
          · left; exact ⟨r1, j1, hgn.fails j2⟩
          · right
            refine ⟨n', r', j1, j2, ⟨j3.1, j3.2.1, j3.2.2.1, by rw [j3.2.2.2, countD_snoc, if_neg (by simp)]; rfl⟩, fun last nm bg => ?_⟩
            obtain ⟨l1, m1, b1, h1⟩ := hgn last nm bg
            exact h1 _ (j4 l1 m1 b1)
      · rw [if_neg hou]
        left
        refine ⟨r, rfl, head_fails r he ?_ (hbad names r o hc ho hin (.inl hou))⟩
        by_cases h0 : o = 0
        · left; omega
        · right
          apply Classical.byContradiction
          intro hcn
          exact hend ⟨by simp; omega, by omega⟩
theorem HBuilt.kinds {toks : List (List UInt8)} {names : List DeclM} {r : RdM} (h : HBuilt toks names r) : names.length = countD names 105 + countD names 118 + countD names 111 ∧ r.outs.length ≤ names.length := by
  induction h using HBuilt.ind with
  | start => exact ⟨rfl, by simp⟩
  | input h d q hk hn h1 h2 h3 hne hfr ih => rw [countD_snoc, countD_snoc, countD_snoc, if_pos hk, if_neg (by omega), if_neg (by omega)]; simp; omega
  | let' h i q name n m ex hp hl hne hfr ih => rw [countD_snoc, countD_snoc, countD_snoc, if_neg (by simp), if_pos rfl, if_neg (by simp)]; simp; omega
  | out h i q name n m ex hp hl hne hfr ih => rw [countD_snoc, countD_snoc, countD_snoc, if_neg (by simp), if_neg (by simp), if_pos rfl]; simp; omega
/-- The whole text. -/
theorem high_eq (toks : List (List UInt8)) (hsp : ∀ t ∈ toks, NoSp t) :
    (∃ r1, textR ⟨[], [], [], toks, 0, []⟩ = (false, r1) ∧ FailsN toks 0 [] r1.pos) ∨
    (∃ names r, textR ⟨[], [], [], toks, 0, []⟩ = (true, r) ∧ HBuilt toks names r ∧ names.length ≤ 24 ∧ ∀ last nm bg, Ends toks ⟨0, [72], [], last, nm, bg⟩ (.inl names)) := by
  unfold textR
  have he0 : EnvR toks [] ⟨[], [], [], toks, 0, []⟩ := ⟨rfl, trivial, fun e he => by simp at he, fun e he => by simp at he, fun e he => by simp at he, by simp⟩
  rcases hinputs_eq toks 4 [] ⟨[], [], [], toks, 0, []⟩ .start he0 rfl rfl rfl rfl rfl with ⟨r1, h1, h2⟩ | ⟨names, r, h1, hB, he, c1, c2, c3, c4, c5, hg, hin⟩
  · left
    simp only [List.length_nil, Nat.lt_irrefl, decide_false] at h1
    exact ⟨r1, by rw [h1], h2⟩
  · simp only [List.length_nil, Nat.lt_irrefl, decide_false] at h1
    rw [h1]
    simp only
    rcases hlets_eq toks hsp names.length c4 16 names r hB he c1 c3 (by omega) (fun _ => hin) with ⟨r1, k1, k2⟩ | ⟨names', r', k1, hB', he', d1, d2, d3, hg', hin', hle⟩
    · left; exact ⟨r1, by rw [k1], hg.fails k2⟩
    · rw [k1]
      simp only
      rcases houts_eq toks hsp names.length c4 4 names' r' 0 hB' he' d1 d2 rfl (fun _ => ⟨hin', hle⟩) with ⟨r1, j1, j2⟩ | ⟨n2, r2, j1, hB2, jc, j2⟩
      · left
        simp only [Nat.lt_irrefl, decide_false] at j1
        exact ⟨r1, j1, (hg.trans hg').fails j2⟩
      · right
        simp only [Nat.lt_irrefl, decide_false] at j1
        refine ⟨n2, r2, j1, hB2, by have := hB2.kinds.1; omega, fun last nm bg => ?_⟩
        obtain ⟨l1, m1, b1, h1⟩ := (hg.trans hg') last nm bg
        exact h1 _ (j2 l1 m1 b1)
end Go.Proofs.YtfaljekgpnbmiaaGreat.Pl
