/-
  No cell of these rows narrows 'for every input' (looked for: loops, veiled, ifaces, maps, wideKeys, modest, calm, conditions, laid).
  DERIVED. THE GIVEN ROWS OF THIS SEAT. 8 by the template 'for every input the law returns true; each argument reads behind the call as it read before'; 0 by the template 'total and deterministic' (their statements: YtfaljekgpnbmiaaGreatTotals.lean).
  GIVEN WITH THE SEED: the statements are not yours to turn. If you find one false, say at which input.
  Laid BY PROGRAM, IN A SANDBOX (cutbox-rows.mjs): the forced cells as the released guide's own fill.sh prints them over the translation ac41139848a4b674… (all of the seat's roots in one cut). By AI agents, Wed Nov 11 2026. No macro, syntax, notation, axiom, sorry.
-/
import Derived.Test.YtfaljekgpnbmiaaGreatChecked
import GoSem.Claim
import GoSem.ClaimJoined
import GoSem.ClaimMapViews
import Derived.JoinedTies
import Derived.KernelRfl
namespace Go.Proofs.YtfaljekgpnbmiaaGreat
/- THE CELL 'sum', in the pinned program and in every row, IS THE sha256 OF THE DUMP (.gsa) THAT YtfaljekgpnbmiaaGreatProg.lean LOADS. Nothing in Lean hashes anything: it is a label: what it is worth is what the hold of that sum in a sandbox is worth. -/
noncomputable def Tryz.pinned : Pinned := { name := "ytfaljekgpnbmiaagreat", sum := "ac41139848a4b674755b50435574ca05d23dc841671bba14185b5ea90916790e", checked := Tryz.checked }
namespace Rows
def none {H : Type} : Left H := { results := [], args := [] }

/-- 'statutelaw.Highs': WHATEVER THE INPUT: true; the input reads as it did. -/
def highsSpec : ChangeSpec := { name := "highs", fn := fun _ => fun
  | [d1, d2] => { results := [.lit (.bool true)], args := [d1, d2] }
  | _ => none }
def highsRow : OpenClaim := { program := "ytfaljekgpnbmiaagreat", sum := "ac41139848a4b674755b50435574ca05d23dc841671bba14185b5ea90916790e", func := "statute/statutelaw.Highs", spec := "highs", recurses := true, apart := false }
def HighsSaid : Prop := highsRow.holds Tryz.pinned (OpenSpec.ofChange highsSpec)

/-- ITS FALSE NEIGHBOUR: 'it returns false'. Refute it at one input. -/
def highsWrong : ChangeSpec := { name := "highs", fn := fun _ => fun
  | [d1, d2] => { results := [.lit (.bool false)], args := [d1, d2] }
  | _ => none }
def HighsWrongFalsely : Prop := highsRow.holds Tryz.pinned (OpenSpec.ofChange highsWrong)

/-- 'statutelaw.Lows': WHATEVER THE INPUT: true; the input reads as it did. -/
def lowsSpec : ChangeSpec := { name := "lows", fn := fun _ => fun
  | [d1, d2] => { results := [.lit (.bool true)], args := [d1, d2] }
  | _ => none }
def lowsRow : OpenClaim := { program := "ytfaljekgpnbmiaagreat", sum := "ac41139848a4b674755b50435574ca05d23dc841671bba14185b5ea90916790e", func := "statute/statutelaw.Lows", spec := "lows", apart := false }
def LowsSaid : Prop := lowsRow.holds Tryz.pinned (OpenSpec.ofChange lowsSpec)

/-- ITS FALSE NEIGHBOUR: 'it returns false'. Refute it at one input. -/
def lowsWrong : ChangeSpec := { name := "lows", fn := fun _ => fun
  | [d1, d2] => { results := [.lit (.bool false)], args := [d1, d2] }
  | _ => none }
def LowsWrongFalsely : Prop := lowsRow.holds Tryz.pinned (OpenSpec.ofChange lowsWrong)

/-- 'statutelaw.Solved': WHATEVER THE INPUT: true; the input reads as it did. -/
def solvedSpec : ChangeSpec := { name := "solved", fn := fun _ => fun
  | [d1, d2] => { results := [.lit (.bool true)], args := [d1, d2] }
  | _ => none }
def solvedRow : OpenClaim := { program := "ytfaljekgpnbmiaagreat", sum := "ac41139848a4b674755b50435574ca05d23dc841671bba14185b5ea90916790e", func := "statute/statutelaw.Solved", spec := "solved", recurses := true, apart := false }
def SolvedSaid : Prop := solvedRow.holds Tryz.pinned (OpenSpec.ofChange solvedSpec)

/-- ITS FALSE NEIGHBOUR: 'it returns false'. Refute it at one input. -/
def solvedWrong : ChangeSpec := { name := "solved", fn := fun _ => fun
  | [d1, d2] => { results := [.lit (.bool false)], args := [d1, d2] }
  | _ => none }
def SolvedWrongFalsely : Prop := solvedRow.holds Tryz.pinned (OpenSpec.ofChange solvedWrong)

/-- 'statutelaw.Compared': WHATEVER THE INPUT: true; the input reads as it did. -/
def comparedSpec : ChangeSpec := { name := "compared", fn := fun _ => fun
  | [d1, d2] => { results := [.lit (.bool true)], args := [d1, d2] }
  | _ => none }
def comparedRow : OpenClaim := { program := "ytfaljekgpnbmiaagreat", sum := "ac41139848a4b674755b50435574ca05d23dc841671bba14185b5ea90916790e", func := "statute/statutelaw.Compared", spec := "compared", recurses := true, apart := false }
def ComparedSaid : Prop := comparedRow.holds Tryz.pinned (OpenSpec.ofChange comparedSpec)

/-- ITS FALSE NEIGHBOUR: 'it returns false'. Refute it at one input. -/
def comparedWrong : ChangeSpec := { name := "compared", fn := fun _ => fun
  | [d1, d2] => { results := [.lit (.bool false)], args := [d1, d2] }
  | _ => none }
def ComparedWrongFalsely : Prop := comparedRow.holds Tryz.pinned (OpenSpec.ofChange comparedWrong)

/-- 'statutekeep.Sound': WHATEVER THE INPUT: true; the input reads as it did. -/
def soundSpec : ChangeSpec := { name := "sound", fn := fun _ => fun
  | [d1, d2, d3] => { results := [.lit (.bool true)], args := [d1, d2, d3] }
  | _ => none }
def soundRow : OpenClaim := { program := "ytfaljekgpnbmiaagreat", sum := "ac41139848a4b674755b50435574ca05d23dc841671bba14185b5ea90916790e", func := "statute/statutekeep.Sound", spec := "sound", recurses := true, apart := false }
def SoundSaid : Prop := soundRow.holds Tryz.pinned (OpenSpec.ofChange soundSpec)

/-- ITS FALSE NEIGHBOUR: 'it returns false'. Refute it at one input. -/
def soundWrong : ChangeSpec := { name := "sound", fn := fun _ => fun
  | [d1, d2, d3] => { results := [.lit (.bool false)], args := [d1, d2, d3] }
  | _ => none }
def SoundWrongFalsely : Prop := soundRow.holds Tryz.pinned (OpenSpec.ofChange soundWrong)

/-- 'statutekeep.Built': WHATEVER THE INPUT: true; the input reads as it did. -/
def builtSpec : ChangeSpec := { name := "built", fn := fun _ => fun
  | [d1, d2, d3] => { results := [.lit (.bool true)], args := [d1, d2, d3] }
  | _ => none }
def builtRow : OpenClaim := { program := "ytfaljekgpnbmiaagreat", sum := "ac41139848a4b674755b50435574ca05d23dc841671bba14185b5ea90916790e", func := "statute/statutekeep.Built", spec := "built", recurses := true, apart := false }
def BuiltSaid : Prop := builtRow.holds Tryz.pinned (OpenSpec.ofChange builtSpec)

/-- ITS FALSE NEIGHBOUR: 'it returns false'. Refute it at one input. -/
def builtWrong : ChangeSpec := { name := "built", fn := fun _ => fun
  | [d1, d2, d3] => { results := [.lit (.bool false)], args := [d1, d2, d3] }
  | _ => none }
def BuiltWrongFalsely : Prop := builtRow.holds Tryz.pinned (OpenSpec.ofChange builtWrong)

/-- 'statutekeep.Spoilt': WHATEVER THE INPUT: true; the input reads as it did. -/
def spoiltSpec : ChangeSpec := { name := "spoilt", fn := fun _ => fun
  | [d1, d2, d3, d4] => { results := [.lit (.bool true)], args := [d1, d2, d3, d4] }
  | _ => none }
def spoiltRow : OpenClaim := { program := "ytfaljekgpnbmiaagreat", sum := "ac41139848a4b674755b50435574ca05d23dc841671bba14185b5ea90916790e", func := "statute/statutekeep.Spoilt", spec := "spoilt", recurses := true, apart := false }
def SpoiltSaid : Prop := spoiltRow.holds Tryz.pinned (OpenSpec.ofChange spoiltSpec)

/-- ITS FALSE NEIGHBOUR: 'it returns false'. Refute it at one input. -/
def spoiltWrong : ChangeSpec := { name := "spoilt", fn := fun _ => fun
  | [d1, d2, d3, d4] => { results := [.lit (.bool false)], args := [d1, d2, d3, d4] }
  | _ => none }
def SpoiltWrongFalsely : Prop := spoiltRow.holds Tryz.pinned (OpenSpec.ofChange spoiltWrong)

/-- 'statutelaw.All': WHATEVER THE INPUT: true; the input reads as it did. -/
def allSpec : ChangeSpec := { name := "all", fn := fun _ => fun
  | [d] => { results := [.lit (.bool true)], args := [d] }
  | _ => none }
def allRow : OpenClaim := { program := "ytfaljekgpnbmiaagreat", sum := "ac41139848a4b674755b50435574ca05d23dc841671bba14185b5ea90916790e", func := "statute/statutelaw.All", spec := "all", recurses := true, apart := false }
def AllSaid : Prop := allRow.holds Tryz.pinned (OpenSpec.ofChange allSpec)

/-- ITS FALSE NEIGHBOUR: 'it returns false'. Refute it at one input. -/
def allWrong : ChangeSpec := { name := "all", fn := fun _ => fun
  | [d] => { results := [.lit (.bool false)], args := [d] }
  | _ => none }
def AllWrongFalsely : Prop := allRow.holds Tryz.pinned (OpenSpec.ofChange allWrong)

/- THE SECOND FORM. 'bulk': how many values and letters a reading holds, each counted each time it is reached (what is shared counts as often as it is met; a slice's spare places count too). A statement '..UptoSaid' is the law's where the arguments, and the package variables that the reading takes, are together of bulk at most 1048576: NARROWER than '..Said'. Prove '..Said' where nothing that the law and all that it calls make is longer than what came in: it says more and counts as full. Else prove '..UptoSaid'. A law counts once. -/
mutual
def uptoBulk {H : Type} : DataW H → Nat
  | .lit (.string bytes) => bytes.length + 1
  | .lit _ => 1
  | .nil => 1
  | .ptr d => uptoBulk d + 1
  | .slice elems spare => uptoBulkAll elems + uptoBulkAll spare + 1
  | .agg parts => uptoBulkAll parts + 1
  | .iface _ d => uptoBulk d + 1
  | .map entries => uptoBulkEntries entries + 1
  | .held _ => 1
def uptoBulkAll {H : Type} : List (DataW H) → Nat
  | [] => 0
  | d :: r => uptoBulk d + uptoBulkAll r
def uptoBulkEntries {H : Type} : List (Lit × DataW H) → Nat
  | [] => 0
  | x :: r => uptoBulkEntry x + uptoBulkEntries r
def uptoBulkEntry {H : Type} : Lit × DataW H → Nat
  | (.string bytes, d) => bytes.length + uptoBulk d + 1
  | (_, d) => uptoBulk d + 1
 end
def uptoSmall : (H : Type) → List (DataW H) → Bool := fun _ ds => decide (uptoBulkAll ds ≤ 1048576)
def OpenSpec.upto (s : _root_.Go.ChangeSpec) : _root_.Go.OpenSpec := { _root_.Go.OpenSpec.ofChange s with cond := some uptoSmall }

/-- 'statutelaw.Highs', WHERE WHAT IT READS IS OF BULK AT MOST 1048576: true; the input reads as it did. -/
def highsUptoRow : OpenClaim := { program := "ytfaljekgpnbmiaagreat", sum := "ac41139848a4b674755b50435574ca05d23dc841671bba14185b5ea90916790e", func := "statute/statutelaw.Highs", spec := "highs", recurses := true, apart := false, narrowed := true }
def HighsUptoSaid : Prop := highsUptoRow.holds Tryz.pinned (OpenSpec.upto highsSpec)

/-- 'statutelaw.Lows', WHERE WHAT IT READS IS OF BULK AT MOST 1048576: true; the input reads as it did. -/
def lowsUptoRow : OpenClaim := { program := "ytfaljekgpnbmiaagreat", sum := "ac41139848a4b674755b50435574ca05d23dc841671bba14185b5ea90916790e", func := "statute/statutelaw.Lows", spec := "lows", apart := false, narrowed := true }
def LowsUptoSaid : Prop := lowsUptoRow.holds Tryz.pinned (OpenSpec.upto lowsSpec)

/-- 'statutelaw.Solved', WHERE WHAT IT READS IS OF BULK AT MOST 1048576: true; the input reads as it did. -/
def solvedUptoRow : OpenClaim := { program := "ytfaljekgpnbmiaagreat", sum := "ac41139848a4b674755b50435574ca05d23dc841671bba14185b5ea90916790e", func := "statute/statutelaw.Solved", spec := "solved", recurses := true, apart := false, narrowed := true }
def SolvedUptoSaid : Prop := solvedUptoRow.holds Tryz.pinned (OpenSpec.upto solvedSpec)

/-- 'statutelaw.Compared', WHERE WHAT IT READS IS OF BULK AT MOST 1048576: true; the input reads as it did. -/
def comparedUptoRow : OpenClaim := { program := "ytfaljekgpnbmiaagreat", sum := "ac41139848a4b674755b50435574ca05d23dc841671bba14185b5ea90916790e", func := "statute/statutelaw.Compared", spec := "compared", recurses := true, apart := false, narrowed := true }
def ComparedUptoSaid : Prop := comparedUptoRow.holds Tryz.pinned (OpenSpec.upto comparedSpec)

/-- 'statutekeep.Sound', WHERE WHAT IT READS IS OF BULK AT MOST 1048576: true; the input reads as it did. -/
def soundUptoRow : OpenClaim := { program := "ytfaljekgpnbmiaagreat", sum := "ac41139848a4b674755b50435574ca05d23dc841671bba14185b5ea90916790e", func := "statute/statutekeep.Sound", spec := "sound", recurses := true, apart := false, narrowed := true }
def SoundUptoSaid : Prop := soundUptoRow.holds Tryz.pinned (OpenSpec.upto soundSpec)

/-- 'statutekeep.Built', WHERE WHAT IT READS IS OF BULK AT MOST 1048576: true; the input reads as it did. -/
def builtUptoRow : OpenClaim := { program := "ytfaljekgpnbmiaagreat", sum := "ac41139848a4b674755b50435574ca05d23dc841671bba14185b5ea90916790e", func := "statute/statutekeep.Built", spec := "built", recurses := true, apart := false, narrowed := true }
def BuiltUptoSaid : Prop := builtUptoRow.holds Tryz.pinned (OpenSpec.upto builtSpec)

/-- 'statutekeep.Spoilt', WHERE WHAT IT READS IS OF BULK AT MOST 1048576: true; the input reads as it did. -/
def spoiltUptoRow : OpenClaim := { program := "ytfaljekgpnbmiaagreat", sum := "ac41139848a4b674755b50435574ca05d23dc841671bba14185b5ea90916790e", func := "statute/statutekeep.Spoilt", spec := "spoilt", recurses := true, apart := false, narrowed := true }
def SpoiltUptoSaid : Prop := spoiltUptoRow.holds Tryz.pinned (OpenSpec.upto spoiltSpec)

/-- 'statutelaw.All', WHERE WHAT IT READS IS OF BULK AT MOST 1048576: true; the input reads as it did. -/
def allUptoRow : OpenClaim := { program := "ytfaljekgpnbmiaagreat", sum := "ac41139848a4b674755b50435574ca05d23dc841671bba14185b5ea90916790e", func := "statute/statutelaw.All", spec := "all", recurses := true, apart := false, narrowed := true }
def AllUptoSaid : Prop := allUptoRow.holds Tryz.pinned (OpenSpec.upto allSpec)

end Rows
end Go.Proofs.YtfaljekgpnbmiaaGreat
