/- Lists that are written: instances of the generic function. -/
import Derived.Test.YthakjhjfooeljaaJSWr
namespace Go.Proofs.Ythakjhjfooeljaa
open Go.RowKit

section
variable {C K Y X B : Nat} {w : World} {s : WS} {b o : Nat}
end
end Go.Proofs.Ythakjhjfooeljaa
