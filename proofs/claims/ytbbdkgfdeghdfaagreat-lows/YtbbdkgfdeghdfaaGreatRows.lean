/-
  No cell of these rows narrows 'for every input' (looked for: loops, veiled, ifaces, maps, wideKeys, modest, calm, conditions, laid).
  DERIVED. THE GIVEN ROWS OF THIS SEAT. 3 by the template 'for every input the law returns true; each argument reads behind the call as it read before'; 0 by the template 'total and deterministic' (their statements: YtbbdkgfdeghdfaaGreatTotals.lean).
  GIVEN WITH THE SEED: the statements are not yours to turn. If you find one false, say at which input.
  Laid BY PROGRAM, IN A SANDBOX (cutbox-rows.mjs): the forced cells as the released guide's own fill.sh prints them over the translation 51eb9e3d24b55ff4… (all of the seat's roots in one cut). By AI agents, Wed Nov 11 2026. No macro, syntax, notation, axiom, sorry.
-/
import Derived.Test.YtbbdkgfdeghdfaaGreatChecked
import GoSem.Claim
import GoSem.ClaimJoined
import GoSem.ClaimMapViews
import Derived.JoinedTies
import Derived.KernelRfl
namespace Go.Proofs.YtbbdkgfdeghdfaaGreat
/- THE CELL 'sum', in the pinned program and in every row, IS THE sha256 OF THE DUMP (.gsa) THAT YtbbdkgfdeghdfaaGreatProg.lean LOADS. Nothing in Lean hashes anything: it is a label: what it is worth is what the hold of that sum in a sandbox is worth. -/
noncomputable def Tryz.pinned : Pinned := { name := "ytbbdkgfdeghdfaagreat", sum := "51eb9e3d24b55ff47c75ab6cf678813d39933e4d8fa10c90115000c21802c225", checked := Tryz.checked }
namespace Rows
def none {H : Type} : Left H := { results := [], args := [] }

/-- 'statutelaw.Highs': WHATEVER THE INPUT: true; the input reads as it did. -/
def highsSpec : ChangeSpec := { name := "highs", fn := fun _ => fun
  | [d1, d2] => { results := [.lit (.bool true)], args := [d1, d2] }
  | _ => none }
def highsRow : OpenClaim := { program := "ytbbdkgfdeghdfaagreat", sum := "51eb9e3d24b55ff47c75ab6cf678813d39933e4d8fa10c90115000c21802c225", func := "statute/statutelaw.Highs", spec := "highs", recurses := true, apart := false }
def HighsSaid : Prop := highsRow.holds Tryz.pinned (OpenSpec.ofChange highsSpec)

/-- ITS FALSE NEIGHBOUR: 'it returns false'. Refute it at one input. -/
def highsWrong : ChangeSpec := { name := "highs", fn := fun _ => fun
  | [d1, d2] => { results := [.lit (.bool false)], args := [d1, d2] }
  | _ => none }
def HighsWrongFalsely : Prop := highsRow.holds Tryz.pinned (OpenSpec.ofChange highsWrong)

/-- 'statutelaw.Lows': WHATEVER THE INPUT: true; the input reads as it did. -/
def lowsSpec : ChangeSpec := { name := "lows", fn := fun _ => fun
  | [d1, d2] => { results := [.lit (.bool true)], args := [d1, d2] }
  | _ => none }
def lowsRow : OpenClaim := { program := "ytbbdkgfdeghdfaagreat", sum := "51eb9e3d24b55ff47c75ab6cf678813d39933e4d8fa10c90115000c21802c225", func := "statute/statutelaw.Lows", spec := "lows", apart := false }
def LowsSaid : Prop := lowsRow.holds Tryz.pinned (OpenSpec.ofChange lowsSpec)

/-- ITS FALSE NEIGHBOUR: 'it returns false'. Refute it at one input. -/
def lowsWrong : ChangeSpec := { name := "lows", fn := fun _ => fun
  | [d1, d2] => { results := [.lit (.bool false)], args := [d1, d2] }
  | _ => none }
def LowsWrongFalsely : Prop := lowsRow.holds Tryz.pinned (OpenSpec.ofChange lowsWrong)

/-- 'statutelaw.Solved': WHATEVER THE INPUT: true; the input reads as it did. -/
def solvedSpec : ChangeSpec := { name := "solved", fn := fun _ => fun
  | [d1, d2] => { results := [.lit (.bool true)], args := [d1, d2] }
  | _ => none }
def solvedRow : OpenClaim := { program := "ytbbdkgfdeghdfaagreat", sum := "51eb9e3d24b55ff47c75ab6cf678813d39933e4d8fa10c90115000c21802c225", func := "statute/statutelaw.Solved", spec := "solved", recurses := true, apart := false }
def SolvedSaid : Prop := solvedRow.holds Tryz.pinned (OpenSpec.ofChange solvedSpec)

/-- ITS FALSE NEIGHBOUR: 'it returns false'. Refute it at one input. -/
def solvedWrong : ChangeSpec := { name := "solved", fn := fun _ => fun
  | [d1, d2] => { results := [.lit (.bool false)], args := [d1, d2] }
  | _ => none }
def SolvedWrongFalsely : Prop := solvedRow.holds Tryz.pinned (OpenSpec.ofChange solvedWrong)

/- THE SECOND FORM. 'bulk': how many values and letters a reading holds, each counted each time it is reached (what is shared counts as often as it is met; a slice's spare places count too). A statement '..UptoSaid' is the law's where the arguments, and the package variables that the reading takes, are together of bulk at most 1048576: NARROWER than '..Said'. Prove '..Said' where nothing that the law and all that it calls make is longer than what came in: it says more and counts as full. Else prove '..UptoSaid'. A law counts once. -/
mutual
def uptoBulk {H : Type} : DataW H → Nat
  | .lit (.string bytes) => bytes.length + 1
  | .lit _ => 1
  | .nil => 1
  | .ptr d => uptoBulk d + 1
  | .slice elems spare => uptoBulkAll elems + uptoBulkAll spare + 1
  | .agg parts => uptoBulkAll parts + 1
  | .iface _ d => uptoBulk d + 1
  | .map entries => uptoBulkEntries entries + 1
  | .held _ => 1
def uptoBulkAll {H : Type} : List (DataW H) → Nat
  | [] => 0
  | d :: r => uptoBulk d + uptoBulkAll r
def uptoBulkEntries {H : Type} : List (Lit × DataW H) → Nat
  | [] => 0
  | x :: r => uptoBulkEntry x + uptoBulkEntries r
def uptoBulkEntry {H : Type} : Lit × DataW H → Nat
  | (.string bytes, d) => bytes.length + uptoBulk d + 1
  | (_, d) => uptoBulk d + 1
 end
def uptoSmall : (H : Type) → List (DataW H) → Bool := fun _ ds => decide (uptoBulkAll ds ≤ 1048576)
def OpenSpec.upto (s : _root_.Go.ChangeSpec) : _root_.Go.OpenSpec := { _root_.Go.OpenSpec.ofChange s with cond := some uptoSmall }

/-- 'statutelaw.Highs', WHERE WHAT IT READS IS OF BULK AT MOST 1048576: true; the input reads as it did. -/
def highsUptoRow : OpenClaim := { program := "ytbbdkgfdeghdfaagreat", sum := "51eb9e3d24b55ff47c75ab6cf678813d39933e4d8fa10c90115000c21802c225", func := "statute/statutelaw.Highs", spec := "highs", recurses := true, apart := false, narrowed := true }
def HighsUptoSaid : Prop := highsUptoRow.holds Tryz.pinned (OpenSpec.upto highsSpec)

/-- 'statutelaw.Lows', WHERE WHAT IT READS IS OF BULK AT MOST 1048576: true; the input reads as it did. -/
def lowsUptoRow : OpenClaim := { program := "ytbbdkgfdeghdfaagreat", sum := "51eb9e3d24b55ff47c75ab6cf678813d39933e4d8fa10c90115000c21802c225", func := "statute/statutelaw.Lows", spec := "lows", apart := false, narrowed := true }
def LowsUptoSaid : Prop := lowsUptoRow.holds Tryz.pinned (OpenSpec.upto lowsSpec)

/-- 'statutelaw.Solved', WHERE WHAT IT READS IS OF BULK AT MOST 1048576: true; the input reads as it did. -/
def solvedUptoRow : OpenClaim := { program := "ytbbdkgfdeghdfaagreat", sum := "51eb9e3d24b55ff47c75ab6cf678813d39933e4d8fa10c90115000c21802c225", func := "statute/statutelaw.Solved", spec := "solved", recurses := true, apart := false, narrowed := true }
def SolvedUptoSaid : Prop := solvedUptoRow.holds Tryz.pinned (OpenSpec.upto solvedSpec)

end Rows
end Go.Proofs.YtbbdkgfdeghdfaaGreat
