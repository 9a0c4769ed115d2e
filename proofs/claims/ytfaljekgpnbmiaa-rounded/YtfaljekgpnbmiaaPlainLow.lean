/-
  How the program reads the low form, as plain functions on the reader's data.
-/
import Derived.Test.YtfaljekgpnbmiaaPlainText
namespace Go.Proofs.Ytfaljekgpnbmiaa.Pl

def RdM.flag (r : RdM) : Option Int × RdM := r.knownStep 1
def quotLR (r : RdM) : Option Int × RdM :=
  match r.leaf with
  | (none, r1) => (none, r1)
  | (some a, r1) =>
    match r1.num 1 1000000 with
    | none => (none, r1)
    | some d => (some r1.nodes.length, r1.skip.addNode ⟨8, a, 0, 0, d, []⟩)
def opOf (t : List UInt8) : Option Int :=
  if t = kAdd then some 2 else if t = kSub then some 3 else if t = kMul then some 4 else if t = kFlr then some 8 else if t = kSel then some 7
  else if t = kLt then some 13 else if t = kLe then some 14 else if t = kEq then some 15 else if t = kAnd then some 16 else if t = kOr then some 17
  else if t = kNot then some 18 else none
def isFlagB (op : Int) : Bool := decide (op = 13 ∨ op = 14 ∨ op = 15 ∨ op = 16 ∨ op = 17 ∨ op = 18)
def resultLR (op : Int) (r : RdM) : Option Int × RdM :=
  if op = 4 then productR RdM.leaf r
  else if op = 8 then quotLR r
  else if op = 7 then choiceR RdM.flag RdM.leaf r
  else if op = 16 ∨ op = 17 then pairR RdM.flag op r
  else if op = 18 then oneR RdM.flag (fun a => ⟨18, a, 0, 0, 0, []⟩) r
  else pairR RdM.leaf op r
def kindOf (op : Int) : Int := if isFlagB op = true then 1 else 0
def stepR (r : RdM) : Bool × RdM :=
  match r.newName with
  | none => (false, r)
  | some name =>
    match opOf r.skip.peek with
    | none => (false, r.skip)
    | some op =>
      match resultLR op r.skip.skip with
      | (none, r1) => (false, r1)
      | (some n, r1) => (true, r1.addEnt name (kindOf op) n)
def stepsR : Nat → RdM → Bool × RdM
  | 0, r => (true, r)
  | k + 1, r =>
    if r.peek = kSet then
      match stepR r.skip with
      | (false, r1) => (false, r1)
      | (true, r1) => stepsR k r1
    else (true, r)
def outLR (r : RdM) : Bool × RdM :=
  match r.newName with
  | none => (false, r)
  | some name =>
    match r.skip.leaf with
    | (none, r1) => (false, r1)
    | (some n, r1) => (true, (r1.addEnt name 2 n).addOut n)
def outsLR : Nat → Bool → RdM → Bool × RdM
  | 0, _, r => (decide (r.toks.length ≤ r.pos), r)
  | k + 1, any, r =>
    if any = true ∧ r.toks.length ≤ r.pos then (true, r)
    else if r.peek = kOut then
      match outLR r.skip with
      | (false, r1) => (false, r1)
      | (true, r1) => outsLR k true r1
    else (false, r)
def lowR (r : RdM) : Bool × RdM :=
  match inputsR 4 false r with
  | (false, r1) => (false, r1)
  | (true, r1) =>
    match stepsR 80 r1 with
    | (false, r2) => (false, r2)
    | (true, r2) => outsLR 4 false r2

theorem flag_keeps (r : RdM) : Keeps r r.flag.2 := knownStep_keeps 1 r
theorem quotLR_keeps (r : RdM) : Keeps1 r (quotLR r).2 := by
  have h := leaf_keeps r
  unfold quotLR
  split
  · rename_i e; rw [e] at h; exact h.less
  · rename_i e
    rw [e] at h
    split
    · exact h.less
    · exact (h.trans (Keeps.skip _)).then1 (.add _ _)
theorem resultLR_keeps (op : Int) (r : RdM) : Keeps1 r (resultLR op r).2 := by
  unfold resultLR
  split
  · exact productR_keeps leaf_keeps r
  split
  · exact quotLR_keeps r
  split
  · exact choiceR_keeps flag_keeps leaf_keeps r
  split
  · exact pairR_keeps flag_keeps _ r
  split
  · exact oneR_keeps flag_keeps _ r
  · exact pairR_keeps leaf_keeps _ r
theorem opOf_some {t : List UInt8} {op : Int} (h : opOf t = some op) : t ≠ [] := by
  rintro rfl
  have e : opOf [] = none := by decide
  rw [e] at h; cases h
theorem stepR_ok {s : Nat} {r : RdM} (h : Ok s r) : Ok s (stepR r).2 := by
  unfold stepR
  split
  · exact h
  · rename_i name hn
    have h1 := h.step (newName_some hn).1
    split
    · exact h1.less (by omega)
    · rename_i op ho
      have h2 := h1.step (opOf_some ho)
      have hk := resultLR_keeps op r.skip.skip
      split
      · rename_i e; rw [e] at hk; exact (hk.ok _ h2).less (by omega)
      · rename_i e; rw [e] at hk; exact ((hk.ok _ h2).addEnt _ _ _).less (by omega)
theorem stepsR_ok (n : Nat) : ∀ (r : RdM), Ok 0 r → Ok 0 (stepsR n r).2 := by
  induction n with
  | zero => intro r h; exact h
  | succ n ih =>
    intro r h
    rw [stepsR]
    split
    · have hk := stepR_ok h.skip
      split
      · rename_i e; rw [e] at hk; exact hk
      · rename_i e; rw [e] at hk; exact ih _ hk
    · exact h
theorem outLR_ok {s : Nat} {r : RdM} (h : Ok (s + 1) r) : Ok s (outLR r).2 := by
  unfold outLR
  split
  · exact h.less (by omega)
  · rename_i name hn
    have h1 := h.step (newName_some hn).1
    have hk := leaf_keeps r.skip
    split
    · rename_i e; rw [e] at hk; exact (hk.ok _ h1).less (by omega)
    · rename_i e; rw [e] at hk; exact ((hk.ok _ h1).addEnt _ _ _).addOut _
theorem outsLR_ok (n : Nat) : ∀ (any : Bool) (r : RdM), Ok 0 r → Ok 0 (outsLR n any r).2 := by
  induction n with
  | zero => intro _ r h; exact h
  | succ n ih =>
    intro any r h
    rw [outsLR]
    split
    · exact h
    · split
      · rename_i hp
        have hk := outLR_ok (h.step (by rw [hp]; decide))
        split
        · rename_i e; rw [e] at hk; exact hk
        · rename_i e; rw [e] at hk; exact ih _ _ hk
      · exact h

end Go.Proofs.Ytfaljekgpnbmiaa.Pl
