/-
  No cell of these rows narrows 'for every input' (looked for: loops, veiled, ifaces, maps, wideKeys, modest, calm, conditions, laid).
  DERIVED. THE GIVEN ROWS OF THIS SEAT. 4 by the template 'for every input the law returns true; each argument reads behind the call as it read before'; 0 by the template 'total and deterministic' (their statements: YtfaljekgpnbmiaaTotals.lean).
  GIVEN WITH THE SEED: the statements are not yours to turn. If you find one false, say at which input.
  Laid BY PROGRAM, IN A SANDBOX (cutbox-rows.mjs): the forced cells as the released guide's own fill.sh prints them over the translation 95a46c1f0937f13f… (all of the seat's roots in one cut). By AI agents, Wed Nov 11 2026. No macro, syntax, notation, axiom, sorry.
-/
import Derived.Test.YtfaljekgpnbmiaaChecked
import GoSem.Claim
import GoSem.ClaimJoined
import GoSem.ClaimMapViews
import Derived.JoinedTies
import Derived.KernelRfl
namespace Go.Proofs.Ytfaljekgpnbmiaa
/- THE CELL 'sum', in the pinned program and in every row, IS THE sha256 OF THE DUMP (.gsa) THAT YtfaljekgpnbmiaaProg.lean LOADS. Nothing in Lean hashes anything: it is a label: what it is worth is what the hold of that sum in a sandbox is worth. -/
noncomputable def Try.pinned : Pinned := { name := "ytfaljekgpnbmiaa", sum := "95a46c1f0937f13f8ef06fefc2ea417790caff699dfc989638c9f11dc7b898fa", checked := Try.checked }
namespace Rows
def none {H : Type} : Left H := { results := [], args := [] }

/-- 'statutekeep.Rounded': WHATEVER THE INPUT: true; the input reads as it did. -/
def roundedSpec : ChangeSpec := { name := "rounded", fn := fun _ => fun
  | [d1, d2] => { results := [.lit (.bool true)], args := [d1, d2] }
  | _ => none }
def roundedRow : OpenClaim := { program := "ytfaljekgpnbmiaa", sum := "95a46c1f0937f13f8ef06fefc2ea417790caff699dfc989638c9f11dc7b898fa", func := "statute/statutekeep.Rounded", spec := "rounded", recurses := true, apart := false }
def RoundedSaid : Prop := roundedRow.holds Try.pinned (OpenSpec.ofChange roundedSpec)

/-- ITS FALSE NEIGHBOUR: 'it returns false'. Refute it at one input. -/
def roundedWrong : ChangeSpec := { name := "rounded", fn := fun _ => fun
  | [d1, d2] => { results := [.lit (.bool false)], args := [d1, d2] }
  | _ => none }
def RoundedWrongFalsely : Prop := roundedRow.holds Try.pinned (OpenSpec.ofChange roundedWrong)

/-- 'statutekeep.Banded': WHATEVER THE INPUT: true; the input reads as it did. -/
def bandedSpec : ChangeSpec := { name := "banded", fn := fun _ => fun
  | [d1, d2] => { results := [.lit (.bool true)], args := [d1, d2] }
  | _ => none }
def bandedRow : OpenClaim := { program := "ytfaljekgpnbmiaa", sum := "95a46c1f0937f13f8ef06fefc2ea417790caff699dfc989638c9f11dc7b898fa", func := "statute/statutekeep.Banded", spec := "banded", recurses := true, apart := false }
def BandedSaid : Prop := bandedRow.holds Try.pinned (OpenSpec.ofChange bandedSpec)

/-- ITS FALSE NEIGHBOUR: 'it returns false'. Refute it at one input. -/
def bandedWrong : ChangeSpec := { name := "banded", fn := fun _ => fun
  | [d1, d2] => { results := [.lit (.bool false)], args := [d1, d2] }
  | _ => none }
def BandedWrongFalsely : Prop := bandedRow.holds Try.pinned (OpenSpec.ofChange bandedWrong)

/-- 'statutekeep.Printed': WHATEVER THE INPUT: true; the input reads as it did. -/
def printedSpec : ChangeSpec := { name := "printed", fn := fun _ => fun
  | [d1, d2, d3] => { results := [.lit (.bool true)], args := [d1, d2, d3] }
  | _ => none }
def printedRow : OpenClaim := { program := "ytfaljekgpnbmiaa", sum := "95a46c1f0937f13f8ef06fefc2ea417790caff699dfc989638c9f11dc7b898fa", func := "statute/statutekeep.Printed", spec := "printed", recurses := true, apart := false }
def PrintedSaid : Prop := printedRow.holds Try.pinned (OpenSpec.ofChange printedSpec)

/-- ITS FALSE NEIGHBOUR: 'it returns false'. Refute it at one input. -/
def printedWrong : ChangeSpec := { name := "printed", fn := fun _ => fun
  | [d1, d2, d3] => { results := [.lit (.bool false)], args := [d1, d2, d3] }
  | _ => none }
def PrintedWrongFalsely : Prop := printedRow.holds Try.pinned (OpenSpec.ofChange printedWrong)

/-- 'statutekeep.Pointed': WHATEVER THE INPUT: true; the input reads as it did. -/
def pointedSpec : ChangeSpec := { name := "pointed", fn := fun _ => fun
  | [d1, d2, d3] => { results := [.lit (.bool true)], args := [d1, d2, d3] }
  | _ => none }
def pointedRow : OpenClaim := { program := "ytfaljekgpnbmiaa", sum := "95a46c1f0937f13f8ef06fefc2ea417790caff699dfc989638c9f11dc7b898fa", func := "statute/statutekeep.Pointed", spec := "pointed", recurses := true, apart := false }
def PointedSaid : Prop := pointedRow.holds Try.pinned (OpenSpec.ofChange pointedSpec)

/-- ITS FALSE NEIGHBOUR: 'it returns false'. Refute it at one input. -/
def pointedWrong : ChangeSpec := { name := "pointed", fn := fun _ => fun
  | [d1, d2, d3] => { results := [.lit (.bool false)], args := [d1, d2, d3] }
  | _ => none }
def PointedWrongFalsely : Prop := pointedRow.holds Try.pinned (OpenSpec.ofChange pointedWrong)

/- THE SECOND FORM. 'bulk': how many values and letters a reading holds, each counted each time it is reached (what is shared counts as often as it is met; a slice's spare places count too). A statement '..UptoSaid' is the law's where the arguments, and the package variables that the reading takes, are together of bulk at most 1048576: NARROWER than '..Said'. Prove '..Said' where nothing that the law and all that it calls make is longer than what came in: it says more and counts as full. Else prove '..UptoSaid'. A law counts once. -/
mutual
def uptoBulk {H : Type} : DataW H → Nat
  | .lit (.string bytes) => bytes.length + 1
  | .lit _ => 1
  | .nil => 1
  | .ptr d => uptoBulk d + 1
  | .slice elems spare => uptoBulkAll elems + uptoBulkAll spare + 1
  | .agg parts => uptoBulkAll parts + 1
  | .iface _ d => uptoBulk d + 1
  | .map entries => uptoBulkEntries entries + 1
  | .held _ => 1
def uptoBulkAll {H : Type} : List (DataW H) → Nat
  | [] => 0
  | d :: r => uptoBulk d + uptoBulkAll r
def uptoBulkEntries {H : Type} : List (Lit × DataW H) → Nat
  | [] => 0
  | x :: r => uptoBulkEntry x + uptoBulkEntries r
def uptoBulkEntry {H : Type} : Lit × DataW H → Nat
  | (.string bytes, d) => bytes.length + uptoBulk d + 1
  | (_, d) => uptoBulk d + 1
 end
def uptoSmall : (H : Type) → List (DataW H) → Bool := fun _ ds => decide (uptoBulkAll ds ≤ 1048576)
def OpenSpec.upto (s : _root_.Go.ChangeSpec) : _root_.Go.OpenSpec := { _root_.Go.OpenSpec.ofChange s with cond := some uptoSmall }

/-- 'statutekeep.Rounded', WHERE WHAT IT READS IS OF BULK AT MOST 1048576: true; the input reads as it did. -/
def roundedUptoRow : OpenClaim := { program := "ytfaljekgpnbmiaa", sum := "95a46c1f0937f13f8ef06fefc2ea417790caff699dfc989638c9f11dc7b898fa", func := "statute/statutekeep.Rounded", spec := "rounded", recurses := true, apart := false, narrowed := true }
def RoundedUptoSaid : Prop := roundedUptoRow.holds Try.pinned (OpenSpec.upto roundedSpec)

/-- 'statutekeep.Banded', WHERE WHAT IT READS IS OF BULK AT MOST 1048576: true; the input reads as it did. -/
def bandedUptoRow : OpenClaim := { program := "ytfaljekgpnbmiaa", sum := "95a46c1f0937f13f8ef06fefc2ea417790caff699dfc989638c9f11dc7b898fa", func := "statute/statutekeep.Banded", spec := "banded", recurses := true, apart := false, narrowed := true }
def BandedUptoSaid : Prop := bandedUptoRow.holds Try.pinned (OpenSpec.upto bandedSpec)

/-- 'statutekeep.Printed', WHERE WHAT IT READS IS OF BULK AT MOST 1048576: true; the input reads as it did. -/
def printedUptoRow : OpenClaim := { program := "ytfaljekgpnbmiaa", sum := "95a46c1f0937f13f8ef06fefc2ea417790caff699dfc989638c9f11dc7b898fa", func := "statute/statutekeep.Printed", spec := "printed", recurses := true, apart := false, narrowed := true }
def PrintedUptoSaid : Prop := printedUptoRow.holds Try.pinned (OpenSpec.upto printedSpec)

/-- 'statutekeep.Pointed', WHERE WHAT IT READS IS OF BULK AT MOST 1048576: true; the input reads as it did. -/
def pointedUptoRow : OpenClaim := { program := "ytfaljekgpnbmiaa", sum := "95a46c1f0937f13f8ef06fefc2ea417790caff699dfc989638c9f11dc7b898fa", func := "statute/statutekeep.Pointed", spec := "pointed", recurses := true, apart := false, narrowed := true }
def PointedUptoSaid : Prop := pointedUptoRow.holds Try.pinned (OpenSpec.upto pointedSpec)

end Rows
end Go.Proofs.Ytfaljekgpnbmiaa
