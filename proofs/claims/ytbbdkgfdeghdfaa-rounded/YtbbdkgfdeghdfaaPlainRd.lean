/-
  The reader and the plan of the program, as plain data, and what each step of the reader does to them.
-/
import Derived.Test.YtbbdkgfdeghdfaaPlainName
import Derived.Test.YtbbdkgfdeghdfaaPlainScan
namespace Go.Proofs.Ytbbdkgfdeghdfaa.Pl

structure NodeM where
  op : Int
  a : Int
  b : Int
  c : Int
  k : Int
  bands : List (Int × Int)
structure RdM where
  ins : List (Int × Int)
  nodes : List NodeM
  outs : List Int
  toks : List (List UInt8)
  pos : Nat
  ents : List (List UInt8 × Int × Int)

def RdM.peek (r : RdM) : List UInt8 := if r.toks.length ≤ r.pos ∨ 600 ≤ r.pos then [] else r.toks.getD r.pos []
def RdM.skip (r : RdM) : RdM := if r.peek = [] then r else { r with pos := r.pos + 1 }
def RdM.addEnt (r : RdM) (t : List UInt8) (k n : Int) : RdM := { r with ents := r.ents ++ [(t, k, n)] }
def RdM.addNode (r : RdM) (n : NodeM) : RdM := { r with nodes := r.nodes ++ [n] }
def RdM.addIn (r : RdM) (p : Int × Int) : RdM := { r with ins := r.ins ++ [p] }
def RdM.addOut (r : RdM) (n : Int) : RdM := { r with outs := r.outs ++ [n] }
def findEnt : List (List UInt8 × Int × Int) → List UInt8 → Nat
  | [], _ => 0
  | e :: r, t => if e.1 = t then 0 else findEnt r t + 1

theorem findEnt_le (l : List (List UInt8 × Int × Int)) (t : List UInt8) : findEnt l t ≤ l.length := by
  induction l with
  | nil => simp [findEnt]
  | cons e l ih => rw [findEnt]; split <;> simp; omega
theorem findEnt_hit (l : List (List UInt8 × Int × Int)) (t : List UInt8) (k : Nat) (h : k < l.length) (he : l[k].1 = t) : findEnt (l.drop k) t = 0 := by
  rw [List.drop_eq_getElem_cons h, findEnt, if_pos he]
theorem findEnt_miss (l : List (List UInt8 × Int × Int)) (t : List UInt8) (k : Nat) (h : k < l.length) (he : l[k].1 ≠ t) : findEnt (l.drop k) t = findEnt (l.drop (k + 1)) t + 1 := by
  rw [List.drop_eq_getElem_cons h, findEnt, if_neg he]
theorem findEnt_end (l : List (List UInt8 × Int × Int)) (t : List UInt8) (k : Nat) (h : l.length ≤ k) : findEnt (l.drop k) t = 0 := by
  rw [List.drop_eq_nil_of_le h]; rfl

/-- The node of a known name of one kind (0: a value, 1: a flag, 2: an out). -/
def RdM.known (k : Int) (r : RdM) : Option Int :=
  match r.ents[findEnt r.ents r.peek]? with
  | none => none
  | some e => if e.2.1 = k then some e.2.2 else none
def RdM.newName (r : RdM) : Option (List UInt8) :=
  if isName r.peek = true ∧ findEnt r.ents r.peek = r.ents.length then some r.peek else none
def RdM.num (r : RdM) (lo hi : Int) : Option Int :=
  if (number r.peek).2 = true ∧ lo ≤ (number r.peek).1 ∧ (number r.peek).1 ≤ hi then some (number r.peek).1 else none

end Go.Proofs.Ytbbdkgfdeghdfaa.Pl
