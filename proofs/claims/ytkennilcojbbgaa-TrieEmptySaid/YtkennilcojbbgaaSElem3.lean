/- Element functions of the codec that writes. -/
import Derived.Test.YtkennilcojbbgaaSElem2
namespace Go.Proofs.Ytkennilcojbbgaa
open Go.RowKit

section
variable {C K Y X B : Nat} {w : World} {s : WS} {b o : Nat}
theorem adds_table : Adds (eTable wayP) 648 := fun x s => by
  have a0 := adds_num 2 x.id (s)
  have a1 := adds_text 24 x.name (wNum 2 x.id (s))
  have a2 := adds_list adds_key 4 x.keys (pText 24 x.name (wNum 2 x.id (s)))
  have a3 := adds_list (adds_num 2) 12 x.actions (pList 4 (eKey wayP) x.keys (pText 24 x.name (wNum 2 x.id (s))))
  have a4 := adds_num 2 x.dflt (pList 12 (wNum 2) x.actions (pList 4 (eKey wayP) x.keys (pText 24 x.name (wNum 2 x.id (s)))))
  have a5 := adds_list adds_val 4 x.args (wNum 2 x.dflt (pList 12 (wNum 2) x.actions (pList 4 (eKey wayP) x.keys (pText 24 x.name (wNum 2 x.id (s))))))
  have a6 := adds_num 2 x.size (pList 4 wVal x.args (wNum 2 x.dflt (pList 12 (wNum 2) x.actions (pList 4 (eKey wayP) x.keys (pText 24 x.name (wNum 2 x.id (s)))))))
  have a7 := adds_text 400 x.restr (wNum 2 x.size (pList 4 wVal x.args (wNum 2 x.dflt (pList 12 (wNum 2) x.actions (pList 4 (eKey wayP) x.keys (pText 24 x.name (wNum 2 x.id (s))))))))
  show (pText 400 x.restr (wNum 2 x.size (pList 4 wVal x.args (wNum 2 x.dflt (pList 12 (wNum 2) x.actions (pList 4 (eKey wayP) x.keys (pText 24 x.name (wNum 2 x.id (s))))))))).l.length ≤ _
  omega
theorem adds_role : Adds (eRole wayP) 139 := fun x s => by
  have a0 := adds_num 2 x.id (s)
  have a1 := adds_text 24 x.name (wNum 2 x.id (s))
  have a2 := adds_list adds_grant 8 x.grants (pText 24 x.name (wNum 2 x.id (s)))
  have a3 := adds_list (adds_num 2) 12 x.actions (pList 8 (eGrant wayP) x.grants (pText 24 x.name (wNum 2 x.id (s))))
  have a4 := adds_num 2 x.quota (pList 12 (wNum 2) x.actions (pList 8 (eGrant wayP) x.grants (pText 24 x.name (wNum 2 x.id (s)))))
  have a5 := adds_truth x.audit (wNum 2 x.quota (pList 12 (wNum 2) x.actions (pList 8 (eGrant wayP) x.grants (pText 24 x.name (wNum 2 x.id (s))))))
  show (wTruth x.audit (wNum 2 x.quota (pList 12 (wNum 2) x.actions (pList 8 (eGrant wayP) x.grants (pText 24 x.name (wNum 2 x.id (s))))))).l.length ≤ _
  omega
end
end Go.Proofs.Ytkennilcojbbgaa
