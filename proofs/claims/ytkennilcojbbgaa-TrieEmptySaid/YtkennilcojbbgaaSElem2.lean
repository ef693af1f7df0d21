/- Element functions of the codec that writes. -/
import Derived.Test.YtkennilcojbbgaaSElem1
import Derived.Test.YtkennilcojbbgaaSList2
import Derived.Test.YtkennilcojbbgaaSList3
import Derived.Test.YtkennilcojbbgaaSList4
namespace Go.Proofs.Ytkennilcojbbgaa
open Go.RowKit

section
variable {C K Y X B : Nat} {w : World} {s : WS} {b o : Nat}
theorem adds_state : Adds (eState wayP) 226 := fun x s => by
  have a0 := adds_num 2 x.id (s)
  have a1 := adds_num 2 x.header (wNum 2 x.id (s))
  have a2 := adds_num 2 x.select (wNum 2 x.header (wNum 2 x.id (s)))
  have a3 := adds_list adds_case 6 x.cases (wNum 2 x.select (wNum 2 x.header (wNum 2 x.id (s))))
  have a4 := adds_num 2 x.dflt (pList 6 eCase x.cases (wNum 2 x.select (wNum 2 x.header (wNum 2 x.id (s)))))
  show (wNum 2 x.dflt (pList 6 eCase x.cases (wNum 2 x.select (wNum 2 x.header (wNum 2 x.id (s)))))).l.length ≤ _
  omega
theorem adds_action : Adds (eAction wayP) 818 := fun x s => by
  have a0 := adds_num 2 x.id (s)
  have a1 := adds_text 24 x.name (wNum 2 x.id (s))
  have a2 := adds_list adds_param 4 x.params (pText 24 x.name (wNum 2 x.id (s)))
  have a3 := adds_list adds_prim 12 x.body (pList 4 (eParam wayP) x.params (pText 24 x.name (wNum 2 x.id (s))))
  have a4 := adds_text 400 x.restr (pList 12 ePrim x.body (pList 4 (eParam wayP) x.params (pText 24 x.name (wNum 2 x.id (s)))))
  show (pText 400 x.restr (pList 12 ePrim x.body (pList 4 (eParam wayP) x.params (pText 24 x.name (wNum 2 x.id (s)))))).l.length ≤ _
  omega
theorem adds_grant : Adds (eGrant wayP) 10 := fun x s => by
  have a0 := adds_num 2 x.table (s)
  have a1 := adds_truth x.read (wNum 2 x.table (s))
  have a2 := adds_truth x.write (wTruth x.read (wNum 2 x.table (s)))
  have a3 := adds_list adds_truth 4 x.keys (wTruth x.write (wTruth x.read (wNum 2 x.table (s))))
  show (pList 4 wTruth x.keys (wTruth x.write (wTruth x.read (wNum 2 x.table (s))))).l.length ≤ _
  omega
theorem adds_ref : Adds eRef 9 := fun x s => by
  have a0 := adds_num 2 x.table (s)
  have a1 := adds_num 1 x.key (wNum 2 x.table (s))
  have a2 := adds_num 2 x.action (wNum 1 x.key (wNum 2 x.table (s)))
  have a3 := adds_num 1 x.param (wNum 2 x.action (wNum 1 x.key (wNum 2 x.table (s))))
  have a4 := adds_num 2 x.toTable (wNum 1 x.param (wNum 2 x.action (wNum 1 x.key (wNum 2 x.table (s)))))
  have a5 := adds_num 1 x.toKey (wNum 2 x.toTable (wNum 1 x.param (wNum 2 x.action (wNum 1 x.key (wNum 2 x.table (s))))))
  show (wNum 1 x.toKey (wNum 2 x.toTable (wNum 1 x.param (wNum 2 x.action (wNum 1 x.key (wNum 2 x.table (s))))))).l.length ≤ _
  omega
end
end Go.Proofs.Ytkennilcojbbgaa
