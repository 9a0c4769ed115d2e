/-
  How the program reads the high form, as plain functions on the reader's data; how many nodes and names there may be.
-/
import Derived.Test.YtfaljekgpnbmiaaPlainRd
namespace Go.Proofs.Ytfaljekgpnbmiaa.Pl

def RdM.sz (r : RdM) : Nat := r.nodes.length + r.ents.length + r.ins.length + r.outs.length
structure Ok (s : Nat) (r : RdM) : Prop where
  size : r.sz + s ≤ r.pos
  pos : r.pos ≤ 600
  toks : ∀ t ∈ r.toks, t.length ≤ 6000

theorem Ok.peek_len {s : Nat} {r : RdM} (h : Ok s r) : r.peek.length ≤ 6000 := by
  unfold RdM.peek
  split
  · simp
  · rw [List.getD_eq_getElem?_getD, List.getElem?_eq_getElem (by omega)]
    exact h.toks _ (List.getElem_mem _)
theorem skip_of {r : RdM} (h : r.peek ≠ []) : r.skip = { r with pos := r.pos + 1 } ∧ r.pos < 600 := by
  refine ⟨by unfold RdM.skip; rw [if_neg h], ?_⟩
  unfold RdM.peek at h
  split at h
  · exact absurd rfl h
  · omega
theorem skip_of' {r : RdM} {t : List UInt8} (h : r.peek = t) (ht : t ≠ []) : r.skip = { r with pos := r.pos + 1 } ∧ r.pos < 600 := skip_of (by rw [h]; exact ht)
theorem Ok.step {s : Nat} {r : RdM} (h : Ok s r) (hp : r.peek ≠ []) : Ok (s + 1) r.skip := by
  obtain ⟨e, hl⟩ := skip_of hp
  rw [e]
  exact ⟨by have := h.size; simp only [RdM.sz] at *; omega, by simp only; omega, h.toks⟩
theorem Ok.skip {s : Nat} {r : RdM} (h : Ok s r) : Ok s r.skip := by
  by_cases hp : r.peek = []
  · unfold RdM.skip; rw [if_pos hp]; exact h
  · have := h.step hp; exact ⟨by have := this.size; omega, this.pos, this.toks⟩
theorem Ok.less {s s' : Nat} {r : RdM} (h : Ok s r) (hs : s' ≤ s) : Ok s' r := ⟨by have := h.size; omega, h.pos, h.toks⟩
theorem Ok.addNode {s : Nat} {r : RdM} (h : Ok (s + 1) r) (n : NodeM) : Ok s (r.addNode n) := by
  refine ⟨?_, h.pos, h.toks⟩
  have := h.size
  simp [RdM.sz, RdM.addNode] at *; omega
theorem number_nil : number [] = (0, false) := by decide
theorem num_some {r : RdM} {lo hi m : Int} (h : r.num lo hi = some m) : r.peek ≠ [] ∧ lo ≤ m ∧ m ≤ hi := by
  unfold RdM.num at h
  split at h
  · rename_i hc
    cases h
    refine ⟨?_, hc.2⟩
    intro e; rw [e, number_nil] at hc; simp at hc
  · cases h

def RdM.constant (r : RdM) : Option Int × RdM :=
  match r.num (-1000000000) 1000000000 with
  | none => (none, r)
  | some k => (some r.nodes.length, r.skip.addNode ⟨0, 0, 0, 0, k, []⟩)
def RdM.knownStep (k : Int) (r : RdM) : Option Int × RdM :=
  match r.known k with
  | none => (none, r)
  | some n => (some n, r.skip)
def RdM.leaf (r : RdM) : Option Int × RdM :=
  match r.constant with
  | (some n, r1) => (some n, r1)
  | (none, _) => r.knownStep 0
def oneR (f : RdM → Option Int × RdM) (mk : Int → NodeM) (r : RdM) : Option Int × RdM :=
  match f r with
  | (none, r1) => (none, r1)
  | (some a, r1) => (some r1.nodes.length, r1.addNode (mk a))
def pairR (f : RdM → Option Int × RdM) (op : Int) (r : RdM) : Option Int × RdM :=
  match f r with
  | (none, r1) => (none, r1)
  | (some a, r1) => oneR f (fun b => ⟨op, a, b, 0, 0, []⟩) r1
def productR (f : RdM → Option Int × RdM) (r : RdM) : Option Int × RdM :=
  match r.num (-1000) 1000 with
  | none => (none, r)
  | some k => oneR f (fun a => ⟨4, a, 0, 0, k, []⟩) r.skip
def choiceR (g f : RdM → Option Int × RdM) (r : RdM) : Option Int × RdM :=
  match g r with
  | (none, r1) => (none, r1)
  | (some a, r1) =>
    match f r1 with
    | (none, r2) => (none, r2)
    | (some b, r2) => oneR f (fun c => ⟨7, a, b, c, 0, []⟩) r2
def roundingOf (t : List UInt8) : Option Int :=
  if t = kDown then some 8 else if t = kUp then some 9 else if t = kZero then some 10 else if t = kNear then some 11 else none
def quotientR (f : RdM → Option Int × RdM) (r : RdM) : Option Int × RdM :=
  match roundingOf r.peek with
  | none => (none, r)
  | some op =>
    match f r.skip with
    | (none, r1) => (none, r1)
    | (some a, r1) =>
      match r1.num 1 1000000 with
      | none => (none, r1)
      | some d => (some r1.nodes.length, r1.skip.addNode ⟨op, a, 0, 0, d, []⟩)
def bandR (least : Int) (r : RdM) : Option (Int × Int) × RdM :=
  match r.num least 1000000000 with
  | none => (none, r)
  | some t =>
    match r.skip.num (-1000) 1000 with
    | none => (none, r.skip)
    | some k => (some (t, k), r.skip.skip)
def bandsR : Nat → Int → List (Int × Int) → RdM → Option (List (Int × Int)) × RdM
  | 0, _, acc, r => (some acc, r)
  | n + 1, least, acc, r =>
    match bandR least r with
    | (none, r1) => (none, r1)
    | (some p, r1) => bandsR n (p.1 + 1) (acc ++ [p]) r1
def tableR (f : RdM → Option Int × RdM) (r : RdM) : Option Int × RdM :=
  match f r with
  | (none, r1) => (none, r1)
  | (some a, r1) =>
    match r1.num 1 6 with
    | none => (none, r1)
    | some n =>
      match bandsR n.toNat (-1000000000) [] r1.skip with
      | (none, r2) => (none, r2)
      | (some l, r2) => (some r2.nodes.length, r2.addNode ⟨12, a, 0, 0, 0, l⟩)
def exprR (g f : RdM → Option Int × RdM) (r : RdM) : Option Int × RdM :=
  if r.peek = kAdd then pairR f 2 r.skip
  else if r.peek = kSub then pairR f 3 r.skip
  else if r.peek = kMin then pairR f 5 r.skip
  else if r.peek = kMax then pairR f 6 r.skip
  else if r.peek = kMul then productR f r.skip
  else if r.peek = kIf then choiceR g f r.skip
  else if r.peek = kDiv then quotientR f r.skip
  else if r.peek = kTab then tableR f r.skip
  else r.leaf
def condR (g f : RdM → Option Int × RdM) (r : RdM) : Option Int × RdM :=
  if r.peek = kLt then pairR f 13 r.skip
  else if r.peek = kLe then pairR f 14 r.skip
  else if r.peek = kEq then pairR f 15 r.skip
  else if r.peek = kAnd then pairR g 16 r.skip
  else if r.peek = kOr then pairR g 17 r.skip
  else if r.peek = kNot then oneR g (fun a => ⟨18, a, 0, 0, 0, []⟩) r.skip
  else (none, r)
/-- tag true: a condition; false: an expression. -/
def read : Nat → Bool → RdM → Option Int × RdM
  | 0, false, r => r.leaf
  | 0, true, r => (none, r)
  | m + 1, false, r => exprR (read m true) (read m false) r
  | m + 1, true, r => condR (read m true) (read m false) r

/-- What a reading step keeps: it reads on, the slack does not shrink, the names stand. -/
structure Keeps (r r' : RdM) : Prop where
  ok : ∀ s, Ok s r → Ok s r'
  pos : r.pos ≤ r'.pos
  ents : r'.ents = r.ents
  toks : r'.toks = r.toks
  ins : r'.ins = r.ins
  outs : r'.outs = r.outs
theorem Keeps.refl (r : RdM) : Keeps r r := ⟨fun _ h => h, Nat.le_refl _, rfl, rfl, rfl, rfl⟩
theorem Keeps.trans {a b c : RdM} (h : Keeps a b) (k : Keeps b c) : Keeps a c :=
  ⟨fun s h1 => k.ok s (h.ok s h1), Nat.le_trans h.pos k.pos, k.ents.trans h.ents, k.toks.trans h.toks, k.ins.trans h.ins, k.outs.trans h.outs⟩
theorem Keeps.skip (r : RdM) : Keeps r r.skip := by
  refine ⟨fun s h => h.skip, ?_, ?_, ?_, ?_, ?_⟩ <;> (unfold RdM.skip; split <;> simp)
/-- A token is read and behind what is kept one node is laid. -/
theorem Keeps.node {r r' : RdM} (hp : r.peek ≠ []) (h : Keeps r.skip r') (n : NodeM) : Keeps r (r'.addNode n) := by
  have k := (Keeps.skip r).trans h
  exact ⟨fun s hs => (h.ok _ (hs.step hp)).addNode n, k.pos, k.ents, k.toks, k.ins, k.outs⟩

/-- The same at the cost of one token that was read ahead. -/
structure Keeps1 (r r' : RdM) : Prop where
  ok : ∀ s, Ok (s + 1) r → Ok s r'
  pos : r.pos ≤ r'.pos
  ents : r'.ents = r.ents
  toks : r'.toks = r.toks
  ins : r'.ins = r.ins
  outs : r'.outs = r.outs
theorem Keeps.less {r r' : RdM} (h : Keeps r r') : Keeps1 r r' := ⟨fun s hs => (h.ok _ hs).less (by omega), h.pos, h.ents, h.toks, h.ins, h.outs⟩
theorem Keeps.then1 {a b c : RdM} (h : Keeps a b) (k : Keeps1 b c) : Keeps1 a c :=
  ⟨fun s h1 => k.ok s (h.ok _ h1), Nat.le_trans h.pos k.pos, k.ents.trans h.ents, k.toks.trans h.toks, k.ins.trans h.ins, k.outs.trans h.outs⟩
theorem Keeps1.add (r : RdM) (n : NodeM) : Keeps1 r (r.addNode n) := ⟨fun _ h => h.addNode n, Nat.le_refl _, rfl, rfl, rfl, rfl⟩
theorem Keeps1.up {r r' : RdM} (hp : r.peek ≠ []) (h : Keeps1 r.skip r') : Keeps r r' := by
  have k := Keeps.skip r
  exact ⟨fun s hs => h.ok s (hs.step hp), Nat.le_trans k.pos h.pos, h.ents.trans k.ents, h.toks.trans k.toks, h.ins.trans k.ins, h.outs.trans k.outs⟩

section
variable {f g : RdM → Option Int × RdM}
theorem oneR_keeps (hf : ∀ r, Keeps r (f r).2) (mk : Int → NodeM) (r : RdM) : Keeps1 r (oneR f mk r).2 := by
  have h := hf r
  unfold oneR
  split
  · rename_i e; rw [e] at h; exact h.less
  · rename_i e; rw [e] at h; exact h.then1 (.add _ _)
theorem pairR_keeps (hf : ∀ r, Keeps r (f r).2) (op : Int) (r : RdM) : Keeps1 r (pairR f op r).2 := by
  have h := hf r
  unfold pairR
  split
  · rename_i e; rw [e] at h; exact h.less
  · rename_i e; rw [e] at h; exact h.then1 (oneR_keeps hf _ _)
theorem productR_keeps (hf : ∀ r, Keeps r (f r).2) (r : RdM) : Keeps1 r (productR f r).2 := by
  unfold productR
  split
  · exact (Keeps.refl r).less
  · exact (Keeps.skip r).then1 (oneR_keeps hf _ _)
theorem choiceR_keeps (hg : ∀ r, Keeps r (g r).2) (hf : ∀ r, Keeps r (f r).2) (r : RdM) : Keeps1 r (choiceR g f r).2 := by
  have h := hg r
  unfold choiceR
  split
  · rename_i e; rw [e] at h; exact h.less
  · rename_i a r1 e
    rw [e] at h
    have h2 := hf r1
    split
    · rename_i e; rw [e] at h2; exact (h.trans h2).less
    · rename_i e; rw [e] at h2; exact (h.trans h2).then1 (oneR_keeps hf _ _)
theorem quotientR_keeps (hf : ∀ r, Keeps r (f r).2) (r : RdM) : Keeps1 r (quotientR f r).2 := by
  have h := hf r.skip
  unfold quotientR
  split
  · exact (Keeps.refl r).less
  · split
    · rename_i e; rw [e] at h; exact ((Keeps.skip r).trans h).less
    · rename_i e
      rw [e] at h
      split
      · exact ((Keeps.skip r).trans h).less
      · exact (((Keeps.skip r).trans h).trans (Keeps.skip _)).then1 (.add _ _)
theorem bandR_keeps (least : Int) (r : RdM) : Keeps r (bandR least r).2 := by
  unfold bandR
  split
  · exact Keeps.refl r
  · split
    · exact Keeps.skip r
    · exact (Keeps.skip r).trans (Keeps.skip _)
theorem bandsR_keeps (n : Nat) (least : Int) (acc : List (Int × Int)) (r : RdM) : Keeps r (bandsR n least acc r).2 := by
  induction n generalizing least acc r with
  | zero => exact Keeps.refl r
  | succ n ih =>
    have h := bandR_keeps least r
    unfold bandsR
    split
    · rename_i e; rw [e] at h; exact h
    · rename_i e; rw [e] at h; exact h.trans (ih _ _ _)
theorem tableR_keeps (hf : ∀ r, Keeps r (f r).2) (r : RdM) : Keeps1 r (tableR f r).2 := by
  have h := hf r
  unfold tableR
  split
  · rename_i e; rw [e] at h; exact h.less
  · rename_i a r1 e
    rw [e] at h
    split
    · exact h.less
    · rename_i n _
      have hb := bandsR_keeps n.toNat (-1000000000) [] r1.skip
      split
      · rename_i e; rw [e] at hb; exact ((h.trans (Keeps.skip _)).trans hb).less
      · rename_i e; rw [e] at hb; exact ((h.trans (Keeps.skip _)).trans hb).then1 (.add _ _)
theorem constant_keeps (r : RdM) : Keeps r r.constant.2 := by
  unfold RdM.constant
  split
  · exact Keeps.refl r
  · rename_i h; exact (Keeps1.add _ _).up (num_some h).1
theorem knownStep_keeps (k : Int) (r : RdM) : Keeps r (r.knownStep k).2 := by
  unfold RdM.knownStep
  split
  · exact Keeps.refl r
  · exact Keeps.skip r
theorem leaf_keeps (r : RdM) : Keeps r r.leaf.2 := by
  have h := constant_keeps r
  unfold RdM.leaf
  split
  · rename_i e; rw [e] at h; exact h
  · exact knownStep_keeps 0 r
theorem exprR_keeps (hg : ∀ r, Keeps r (g r).2) (hf : ∀ r, Keeps r (f r).2) (r : RdM) : Keeps r (exprR g f r).2 := by
  unfold exprR
  split
  · rename_i h; exact (pairR_keeps hf _ _).up (by rw [h]; decide)
  split
  · rename_i h; exact (pairR_keeps hf _ _).up (by rw [h]; decide)
  split
  · rename_i h; exact (pairR_keeps hf _ _).up (by rw [h]; decide)
  split
  · rename_i h; exact (pairR_keeps hf _ _).up (by rw [h]; decide)
  split
  · rename_i h; exact (productR_keeps hf _).up (by rw [h]; decide)
  split
  · rename_i h; exact (choiceR_keeps hg hf _).up (by rw [h]; decide)
  split
  · rename_i h; exact (quotientR_keeps hf _).up (by rw [h]; decide)
  split
  · rename_i h; exact (tableR_keeps hf _).up (by rw [h]; decide)
  · exact leaf_keeps r
theorem condR_keeps (hg : ∀ r, Keeps r (g r).2) (hf : ∀ r, Keeps r (f r).2) (r : RdM) : Keeps r (condR g f r).2 := by
  unfold condR
  split
  · rename_i h; exact (pairR_keeps hf _ _).up (by rw [h]; decide)
  split
  · rename_i h; exact (pairR_keeps hf _ _).up (by rw [h]; decide)
  split
  · rename_i h; exact (pairR_keeps hf _ _).up (by rw [h]; decide)
  split
  · rename_i h; exact (pairR_keeps hg _ _).up (by rw [h]; decide)
  split
  · rename_i h; exact (pairR_keeps hg _ _).up (by rw [h]; decide)
  split
  · rename_i h; exact (oneR_keeps hg _ _).up (by rw [h]; decide)
  · exact Keeps.refl r
end
theorem read_keeps (m : Nat) : ∀ tag r, Keeps r (read m tag r).2 := by
  induction m with
  | zero =>
    intro tag r
    cases tag
    · exact leaf_keeps r
    · exact Keeps.refl r
  | succ m ih =>
    intro tag r
    cases tag
    · exact exprR_keeps (ih true) (ih false) r
    · exact condR_keeps (ih true) (ih false) r

end Go.Proofs.Ytfaljekgpnbmiaa.Pl
