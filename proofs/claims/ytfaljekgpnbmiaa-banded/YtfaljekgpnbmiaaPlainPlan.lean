/-
  The plan's walks as plain functions: as Go reckons them, in 64 bits.
-/
import Derived.Test.YtfaljekgpnbmiaaPlainRd
namespace Go.Proofs.Ytfaljekgpnbmiaa.Pl
open Go.RowKit

def absW (a : Int) : Int := if a < 0 then wrap64 (-a) else a
def floorW (a d : Int) : Int := if d < 1 then 0 else if a.tmod d < 0 then wrap64 (wrap64 (a.tdiv d) - 1) else wrap64 (a.tdiv d)
def quotW (op a d : Int) : Int :=
  if op = 9 then wrap64 (-floorW (wrap64 (-a)) d)
  else if op = 10 then (if 0 < a then floorW a d else wrap64 (-floorW (wrap64 (-a)) d))
  else if op = 11 then floorW (wrap64 (wrap64 (2 * a) + d)) (wrap64 (2 * d))
  else floorW a d
def pickL (l : List Int) (i : Int) : Int := if 0 ≤ i ∧ i < l.length then l.getD i.toNat 0 else 0
def holdsB (op a b : Int) : Bool :=
  if op = 13 then decide (a < b) else if op = 14 then decide (a ≤ b) else if op = 15 then decide (a = b)
  else if op = 16 then decide (a ≠ 0 ∧ b ≠ 0) else if op = 17 then decide (a ≠ 0 ∨ b ≠ 0) else if op = 18 then decide (a = 0) else false

/-- What lies of a in the bands from number i on. -/
def bandSumFrom (a : Int) : List (Int × Int) → Int → Int
  | [], acc => acc
  | [p], acc => if p.1 < a then wrap64 (acc + wrap64 (p.2 * wrap64 (a - p.1))) else acc
  | p :: q :: l, acc =>
    if p.1 < lesser a q.1 then bandSumFrom a (q :: l) (wrap64 (acc + wrap64 (p.2 * wrap64 (lesser a q.1 - p.1))))
    else bandSumFrom a (q :: l) acc
def bandSumW (a : Int) (l : List (Int × Int)) : Int := bandSumFrom a l 0
def bandBoundFrom (a : Int) : List (Int × Int) → Int → Int
  | [], acc => acc
  | p :: l, acc => bandBoundFrom a l (wrap64 (acc + wrap64 (absW p.2 * wrap64 (a + absW p.1))))
def bandBoundW (a : Int) (l : List (Int × Int)) : Int := bandBoundFrom a l 0
def inputBoundW (ins : List (Int × Int)) (i : Int) : Int :=
  if 0 ≤ i ∧ i < ins.length then greater (absW (ins.getD i.toNat (0, 0)).1) (absW (ins.getD i.toNat (0, 0)).2) else 0
def nodeBoundW (ins : List (Int × Int)) (n : NodeM) (bs : List Int) : Int :=
  if n.op = 0 then absW n.k
  else if n.op = 1 then inputBoundW ins n.k
  else if n.op = 2 ∨ n.op = 3 then wrap64 (pickL bs n.a + pickL bs n.b)
  else if n.op = 4 then wrap64 (absW n.k * pickL bs n.a)
  else if n.op = 5 ∨ n.op = 6 then greater (pickL bs n.a) (pickL bs n.b)
  else if n.op = 7 then greater (pickL bs n.b) (pickL bs n.c)
  else if n.op = 8 ∨ n.op = 9 ∨ n.op = 10 ∨ n.op = 11 then pickL bs n.a
  else if n.op = 12 then bandBoundW (pickL bs n.a) n.bands
  else 0
def nodeValueW (n : NodeM) (vs home : List Int) : Int :=
  if n.op = 0 then n.k
  else if n.op = 1 then pickL home n.k
  else if n.op = 2 then wrap64 (pickL vs n.a + pickL vs n.b)
  else if n.op = 3 then wrap64 (pickL vs n.a - pickL vs n.b)
  else if n.op = 4 then wrap64 (n.k * pickL vs n.a)
  else if n.op = 5 then lesser (pickL vs n.a) (pickL vs n.b)
  else if n.op = 6 then greater (pickL vs n.a) (pickL vs n.b)
  else if n.op = 7 then (if pickL vs n.a ≠ 0 then pickL vs n.b else pickL vs n.c)
  else if n.op = 8 ∨ n.op = 9 ∨ n.op = 10 ∨ n.op = 11 then quotW n.op (pickL vs n.a) n.k
  else if n.op = 12 then bandSumW (pickL vs n.a) n.bands
  else if holdsB n.op (pickL vs n.a) (pickL vs n.b) then 1 else 0
/-- Is a bound above the limit? The bounds so far: bs, of as many nodes as stand ahead. -/
def bigFrom (ins : List (Int × Int)) (len : Nat) : List NodeM → List Int → Bool
  | [], _ => false
  | n :: l, bs =>
    if 1000000000000000 < nodeBoundW ins n (bs ++ List.replicate (len - bs.length) 0) then true
    else bigFrom ins len l (bs ++ [nodeBoundW ins n (bs ++ List.replicate (len - bs.length) 0)])
def isBigW (ins : List (Int × Int)) (nodes : List NodeM) : Bool := bigFrom ins nodes.length nodes []
def valuesFrom (len : Nat) (home : List Int) : List NodeM → List Int → List Int
  | [], vs => vs
  | n :: l, vs => valuesFrom len home l (vs ++ [nodeValueW n (vs ++ List.replicate (len - vs.length) 0) home])
def runW (nodes : List NodeM) (outs home : List Int) : List Int := outs.map fun o => pickL (valuesFrom nodes.length home nodes []) o
def homeFrom : List (Int × Int) → List Int → Bool
  | p :: ps, x :: xs => decide (p.1 ≤ x ∧ x ≤ p.2) && homeFrom ps xs
  | _, _ => true
def isHomeB (ins : List (Int × Int)) (home : List Int) : Bool := decide (home.length = ins.length) && homeFrom ins home

end Go.Proofs.Ytfaljekgpnbmiaa.Pl
