/-
  Proved: for every list of ranges and every list of rows that hold together at most 1048576 values (the second form) the statement Solved of the package statutelaw returns true, and both arguments read behind the call as they read before.
-/
import Derived.Test.YtgaafamcajcifaaGreatK44
import Derived.Test.YtgaafamcajcifaaGreatK50
set_option linter.unusedVariables false
set_option linter.unusedSimpArgs false
set_option maxRecDepth 100000
namespace Go.Proofs.YtgaafamcajcifaaGreat
theorem solved_holds:Rows.SolvedUptoSaid:=Gu λvs rs va vb w ha hb h1 h2=>Mj vs rs va vb w ha hb h1 h2
#print axioms solved_holds
end Go.Proofs.YtgaafamcajcifaaGreat
