/-
  How the program reads a whole text of the high form, as plain functions.
-/
import Derived.Test.YtfaljekgpnbmiaaPlainHigh
namespace Go.Proofs.Ytfaljekgpnbmiaa.Pl

def inputR (r : RdM) : Bool × RdM :=
  match r.newName with
  | none => (false, r)
  | some name =>
    match r.skip.num (-1000000000) 1000000000 with
    | none => (false, r.skip)
    | some lo =>
      match r.skip.skip.num lo 1000000000 with
      | none => (false, r.skip.skip)
      | some hi => (true, ((r.skip.skip.skip.addIn (lo, hi)).addNode ⟨1, 0, 0, 0, r.ins.length, []⟩).addEnt name 0 r.nodes.length)
def inputsR : Nat → Bool → RdM → Bool × RdM
  | 0, _, r => (true, r)
  | k + 1, any, r =>
    if r.peek = kIn then
      match inputR r.skip with
      | (false, r1) => (false, r1)
      | (true, r1) => inputsR k true r1
    else (any, r)
def namedR (r : RdM) : Option (List UInt8 × Int) × RdM :=
  match r.newName with
  | none => (none, r)
  | some name =>
    match read 600 false r.skip with
    | (none, r1) => (none, r1)
    | (some n, r1) => (some (name, n), r1)
def letsR : Nat → RdM → Bool × RdM
  | 0, r => (true, r)
  | k + 1, r =>
    if r.peek = kLet then
      match namedR r.skip with
      | (none, r1) => (false, r1)
      | (some p, r1) => letsR k (r1.addEnt p.1 0 p.2)
    else (true, r)
def outsR : Nat → Bool → RdM → Bool × RdM
  | 0, _, r => (decide (r.toks.length ≤ r.pos), r)
  | k + 1, any, r =>
    if any = true ∧ r.toks.length ≤ r.pos then (true, r)
    else if r.peek = kOut then
      match namedR r.skip with
      | (none, r1) => (false, r1)
      | (some p, r1) => outsR k true ((r1.addEnt p.1 2 p.2).addOut p.2)
    else (false, r)
def textR (r : RdM) : Bool × RdM :=
  match inputsR 4 false r with
  | (false, r1) => (false, r1)
  | (true, r1) =>
    match letsR 16 r1 with
    | (false, r2) => (false, r2)
    | (true, r2) => outsR 4 false r2

theorem Ok.addEnt {s : Nat} {r : RdM} (h : Ok (s + 1) r) (t : List UInt8) (k n : Int) : Ok s (r.addEnt t k n) := by
  refine ⟨?_, h.pos, h.toks⟩
  have := h.size
  simp [RdM.sz, RdM.addEnt] at *; omega
theorem Ok.addOut {s : Nat} {r : RdM} (h : Ok (s + 1) r) (n : Int) : Ok s (r.addOut n) := by
  refine ⟨?_, h.pos, h.toks⟩
  have := h.size
  simp [RdM.sz, RdM.addOut] at *; omega
theorem Ok.addIn {s : Nat} {r : RdM} (h : Ok (s + 1) r) (p : Int × Int) : Ok s (r.addIn p) := by
  refine ⟨?_, h.pos, h.toks⟩
  have := h.size
  simp [RdM.sz, RdM.addIn] at *; omega
theorem newName_some {r : RdM} {t : List UInt8} (h : r.newName = some t) : r.peek ≠ [] ∧ t = r.peek := by
  unfold RdM.newName at h
  split at h
  · rename_i hc
    cases h
    refine ⟨?_, rfl⟩
    intro e; rw [e] at hc; exact absurd hc.1 (by decide)
  · cases h
theorem skip_same (r : RdM) : r.skip.nodes = r.nodes ∧ r.skip.ins = r.ins ∧ r.skip.ents = r.ents ∧ r.skip.outs = r.outs ∧ r.skip.toks = r.toks := by
  unfold RdM.skip; split <;> exact ⟨rfl, rfl, rfl, rfl, rfl⟩
theorem inputR_ok {s : Nat} {r : RdM} (h : Ok s r) : Ok s (inputR r).2 := by
  unfold inputR
  split
  · exact h
  · rename_i name hn
    have h1 := h.step (newName_some hn).1
    split
    · exact h1.less (by omega)
    · rename_i lo hlo
      have h2 := h1.step (num_some hlo).1
      split
      · exact h2.less (by omega)
      · rename_i hi hhi
        have h3 := h2.step (num_some hhi).1
        exact ((h3.addIn _).addNode _).addEnt _ _ _
theorem namedR_keeps (r : RdM) : Keeps r (namedR r).2 := by
  unfold namedR
  split
  · exact Keeps.refl r
  · have h := read_keeps 600 false r.skip
    split
    · rename_i e; rw [e] at h; exact (Keeps.skip r).trans h
    · rename_i e; rw [e] at h; exact (Keeps.skip r).trans h
theorem namedR_more {s : Nat} {r r1 : RdM} {p : List UInt8 × Int} (h : Ok s r) (e : namedR r = (some p, r1)) : Ok (s + 1) r1 := by
  unfold namedR at e
  split at e
  · cases e
  · rename_i name hn
    have h1 := h.step (newName_some hn).1
    have hk := read_keeps 600 false r.skip
    split at e
    · cases e
    · rename_i e2
      rw [e2] at hk
      cases e
      exact hk.ok _ h1

theorem inputR_even {r : RdM} (h : r.ents.length = r.ins.length) : (inputR r).2.ents.length = (inputR r).2.ins.length := by
  unfold inputR
  split
  · exact h
  · split
    · rw [(skip_same _).2.2.1, (skip_same _).2.1]; exact h
    · split
      · rw [(skip_same _).2.2.1, (skip_same _).2.1, (skip_same _).2.2.1, (skip_same _).2.1]; exact h
      · simp only [RdM.addEnt, RdM.addNode, RdM.addIn, List.length_append, List.length_singleton]
        rw [(skip_same _).2.2.1, (skip_same _).2.1, (skip_same _).2.2.1, (skip_same _).2.1, (skip_same _).2.2.1, (skip_same _).2.1, h]
end Go.Proofs.Ytfaljekgpnbmiaa.Pl
