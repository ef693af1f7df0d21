/- Lists that are written: instances of the generic function. -/
import Derived.Test.YtkennilcojbbgaaJSWr
namespace Go.Proofs.Ytkennilcojbbgaa
open Go.RowKit

section
variable {C K Y X B : Nat} {w : World} {s : WS} {b o : Nat}
end
end Go.Proofs.Ytkennilcojbbgaa
