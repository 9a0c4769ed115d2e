/-
  The reader and the plan of the program, as plain data, and what each step of the reader does to them.
-/
import Derived.Test.YtfaljekgpnbmiaaPlainName
import Derived.Test.YtfaljekgpnbmiaaPlainScan
namespace Go.Proofs.Ytfaljekgpnbmiaa.Pl

structure NodeM where
  op : Int
  a : Int
  b : Int
  c : Int
  k : Int
  bands : List (Int × Int)
structure RdM where
  ins : List (Int × Int)
  nodes : List NodeM
  outs : List Int
  toks : List (List UInt8)
  pos : Nat
  ents : List (List UInt8 × Int × Int)

def RdM.peek (r : RdM) : List UInt8 := if r.toks.length ≤ r.pos ∨ 600 ≤ r.pos then [] else r.toks.getD r.pos []
def RdM.skip (r : RdM) : RdM := if r.peek = [] then r else { r with pos := r.pos + 1 }
def RdM.addEnt (r : RdM) (t : List UInt8) (k n : Int) : RdM := { r with ents := r.ents ++ [(t, k, n)] }
def RdM.addNode (r : RdM) (n : NodeM) : RdM := { r with nodes := r.nodes ++ [n] }
def RdM.addIn (r : RdM) (p : Int × Int) : RdM := { r with ins := r.ins ++ [p] }
def RdM.addOut (r : RdM) (n : Int) : RdM := { r with outs := r.outs ++ [n] }
def findEnt : List (List UInt8 × Int × Int) → List UInt8 → Nat
  | [], _ => 0
  | e :: r, t => if e.1 = t then 0 else findEnt r t + 1

theorem findEnt_le (l : List (List UInt8 × Int × Int)) (t : List UInt8) : findEnt l t ≤ l.length := by
  induction l with
  | nil => simp [findEnt]
  | cons e l ih => rw [findEnt]; split <;> simp; omega
theorem findEnt_hit (l : List (List UInt8 × Int × Int)) (t : List UInt8) (k : Nat) (h : k < l.length) (he : l[k].1 = t) : findEnt (l.drop k) t = 0 := by
  rw [List.drop_eq_getElem_cons h, findEnt, if_pos he]
theorem findEnt_miss (l : List (List UInt8 × Int × Int)) (t : List UInt8) (k : Nat) (h : k < l.length) (he : l[k].1 ≠ t) : findEnt (l.drop k) t = findEnt (l.drop (k + 1)) t + 1 := by
  rw [List.drop_eq_getElem_cons h, findEnt, if_neg he]
theorem findEnt_end (l : List (List UInt8 × Int × Int)) (t : List UInt8) (k : Nat) (h : l.length ≤ k) : findEnt (l.drop k) t = 0 := by
  rw [List.drop_eq_nil_of_le h]; rfl

/-- The names of the outs; the names of the inputs, which stand first. -/
def outNames (l : List (List UInt8 × Int × Int)) : List (List UInt8) := (l.filter fun e => e.2.1 == 2).map fun e => e.1
def inNames (n : Nat) (l : List (List UInt8 × Int × Int)) : List (List UInt8) := (l.take n).map fun e => e.1
theorem outNames_snoc (l : List (List UInt8 × Int × Int)) (t : List UInt8) (k n : Int) (hk : k ≠ 2) : outNames (l ++ [(t, k, n)]) = outNames l := by
  have : (k == 2) = false := by simpa using hk
  simp [outNames, this]
theorem outNames_out (l : List (List UInt8 × Int × Int)) (t : List UInt8) (n : Int) : outNames (l ++ [(t, 2, n)]) = outNames l ++ [t] := by simp [outNames]
theorem inNames_snoc (m : Nat) (l : List (List UInt8 × Int × Int)) (e : List UInt8 × Int × Int) (h : m ≤ l.length) : inNames m (l ++ [e]) = inNames m l := by
  simp [inNames, List.take_append_of_le_length h]
theorem inNames_in (l : List (List UInt8 × Int × Int)) (e : List UInt8 × Int × Int) : inNames (l.length + 1) (l ++ [e]) = inNames l.length l ++ [e.1] := by
  have h : (l ++ [e]).take (l.length + 1) = l ++ [e] := List.take_of_length_le (by simp)
  simp [inNames, h]
theorem outNames_len (l : List (List UInt8 × Int × Int)) : (outNames l).length ≤ l.length := by
  unfold outNames; rw [List.length_map]; exact List.length_filter_le _ _
theorem inNames_len (m : Nat) (l : List (List UInt8 × Int × Int)) : (inNames m l).length ≤ l.length := by
  unfold inNames; rw [List.length_map, List.length_take]; omega
/-- lx are the names of the inputs, ly those of the outs. -/
structure Named (r : RdM) (lx ly : List (List UInt8)) : Prop where
  ins : lx = inNames r.ins.length r.ents
  le : r.ins.length ≤ r.ents.length
  outs : ly = outNames r.ents
theorem Named.skip {r : RdM} {lx ly : List (List UInt8)} (h : Named r lx ly) : Named r.skip lx ly := by
  unfold RdM.skip
  split
  · exact h
  · exact ⟨h.ins, h.le, h.outs⟩
theorem Named.pos {r : RdM} {lx ly : List (List UInt8)} (h : Named r lx ly) (p : Nat) : Named { r with pos := p } lx ly := ⟨h.ins, h.le, h.outs⟩
theorem Named.addNode {r : RdM} {lx ly : List (List UInt8)} (h : Named r lx ly) (n : NodeM) : Named (r.addNode n) lx ly := ⟨h.ins, h.le, h.outs⟩
theorem Named.addEnt {r : RdM} {lx ly : List (List UInt8)} (h : Named r lx ly) (t : List UInt8) (k n : Int) (hk : k ≠ 2) : Named (r.addEnt t k n) lx ly := by
  refine ⟨?_, ?_, ?_⟩
  · unfold RdM.addEnt; simp only; rw [inNames_snoc _ _ _ h.le]; exact h.ins
  · unfold RdM.addEnt; simp only [List.length_append]; have := h.le; omega
  · unfold RdM.addEnt; simp only; rw [outNames_snoc _ _ _ _ hk]; exact h.outs
theorem Named.addOut {r : RdM} {lx ly : List (List UInt8)} (h : Named r lx ly) (t : List UInt8) (n : Int) : Named ((r.addEnt t 2 n).addOut n) lx (ly ++ [t]) := by
  refine ⟨?_, ?_, ?_⟩
  · unfold RdM.addEnt RdM.addOut; simp only; rw [inNames_snoc _ _ _ h.le]; exact h.ins
  · unfold RdM.addEnt RdM.addOut; simp only [List.length_append]; have := h.le; omega
  · unfold RdM.addEnt RdM.addOut; simp only; rw [outNames_out, h.outs]
theorem Named.addIn {r : RdM} {lx ly : List (List UInt8)} (h : Named r lx ly) (he : r.ents.length = r.ins.length) (t : List UInt8) (p : Int × Int) (n : NodeM) (k : Int) : Named (((r.addIn p).addNode n).addEnt t 0 k) (lx ++ [t]) ly := by
  refine ⟨?_, ?_, ?_⟩
  · unfold RdM.addEnt RdM.addNode RdM.addIn; simp only [List.length_append, List.length_singleton]; rw [← he, inNames_in, he, h.ins]
  · unfold RdM.addEnt RdM.addNode RdM.addIn; simp only [List.length_append, List.length_singleton]; omega
  · unfold RdM.addEnt RdM.addNode RdM.addIn; simp only; rw [outNames_snoc _ _ _ _ (by decide)]; exact h.outs

/-- The node of a known name of one kind (0: a value, 1: a flag, 2: an out). -/
def RdM.known (k : Int) (r : RdM) : Option Int :=
  match r.ents[findEnt r.ents r.peek]? with
  | none => none
  | some e => if e.2.1 = k then some e.2.2 else none
def RdM.newName (r : RdM) : Option (List UInt8) :=
  if isName r.peek = true ∧ findEnt r.ents r.peek = r.ents.length then some r.peek else none
def RdM.num (r : RdM) (lo hi : Int) : Option Int :=
  if (number r.peek).2 = true ∧ lo ≤ (number r.peek).1 ∧ (number r.peek).1 ≤ hi then some (number r.peek).1 else none

end Go.Proofs.Ytfaljekgpnbmiaa.Pl
