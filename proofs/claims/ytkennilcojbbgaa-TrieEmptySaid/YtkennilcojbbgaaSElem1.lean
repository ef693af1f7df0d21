/- Element functions of the codec that writes. -/
import Derived.Test.YtkennilcojbbgaaSPart
import Derived.Test.YtkennilcojbbgaaSList1
namespace Go.Proofs.Ytkennilcojbbgaa
open Go.RowKit

section
variable {C K Y X B : Nat} {w : World} {s : WS} {b o : Nat}
theorem adds_field : Adds (eField wayP) 29 := fun x s => by
  have a0 := adds_num 2 x.id (s)
  have a1 := adds_text 24 x.name (wNum 2 x.id (s))
  have a2 := adds_num 1 x.bits (pText 24 x.name (wNum 2 x.id (s)))
  show (wNum 1 x.bits (pText 24 x.name (wNum 2 x.id (s)))).l.length ≤ _
  omega
theorem adds_header : Adds (eHeader wayP) 94 := fun x s => by
  have a0 := adds_num 2 x.id (s)
  have a1 := adds_text 24 x.name (wNum 2 x.id (s))
  have a2 := adds_list (adds_num 2) 32 x.fields (pText 24 x.name (wNum 2 x.id (s)))
  show (pList 32 (wNum 2) x.fields (pText 24 x.name (wNum 2 x.id (s)))).l.length ≤ _
  omega
theorem adds_case : Adds eCase 36 := fun x s => by
  have a0 := adds_val x.val (s)
  have a1 := adds_val x.mask (wVal x.val (s))
  have a2 := adds_num 2 x.next (wVal x.mask (wVal x.val (s)))
  show (wNum 2 x.next (wVal x.mask (wVal x.val (s)))).l.length ≤ _
  omega
theorem adds_param : Adds (eParam wayP) 27 := fun x s => by
  have a0 := adds_text 24 x.name (s)
  have a1 := adds_num 1 x.bits (pText 24 x.name (s))
  show (wNum 1 x.bits (pText 24 x.name (s))).l.length ≤ _
  omega
theorem adds_prim : Adds ePrim 23 := fun x s => by
  have a0 := adds_num 1 x.op (s)
  have a1 := adds_num 2 x.dst (wNum 1 x.op (s))
  have a2 := adds_num 1 x.kind (wNum 2 x.dst (wNum 1 x.op (s)))
  have a3 := adds_num 2 x.n (wNum 1 x.kind (wNum 2 x.dst (wNum 1 x.op (s))))
  have a4 := adds_val x.val (wNum 2 x.n (wNum 1 x.kind (wNum 2 x.dst (wNum 1 x.op (s)))))
  show (wVal x.val (wNum 2 x.n (wNum 1 x.kind (wNum 2 x.dst (wNum 1 x.op (s)))))).l.length ≤ _
  omega
theorem adds_key : Adds (eKey wayP) 29 := fun x s => by
  have a0 := adds_text 24 x.name (s)
  have a1 := adds_num 2 x.field (pText 24 x.name (s))
  have a2 := adds_num 1 x.kind (wNum 2 x.field (pText 24 x.name (s)))
  show (wNum 1 x.kind (wNum 2 x.field (pText 24 x.name (s)))).l.length ≤ _
  omega
theorem adds_stage : Adds eStage 4 := fun x s => by
  have a0 := adds_num 2 x.table (s)
  have a1 := adds_num 2 x.header (wNum 2 x.table (s))
  show (wNum 2 x.header (wNum 2 x.table (s))).l.length ≤ _
  omega
end
end Go.Proofs.Ytkennilcojbbgaa
