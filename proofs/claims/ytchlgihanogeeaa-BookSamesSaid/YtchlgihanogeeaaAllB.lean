/-
  What the program's Right answers. Each statement bears its own conditions.
-/
import Derived.Test.YtchlgihanogeeaaName
namespace Go.Proofs.Ytchlgihanogeeaa
open Go.RowKit
set_option linter.unusedVariables false
set_option linter.unusedSimpArgs false
def allB {α : Type} (most : Int) (f : α → Bool) (xs : List α) : Bool := decide ((xs.length : Int) ≤ most) && xs.all f
end Go.Proofs.Ytchlgihanogeeaa
