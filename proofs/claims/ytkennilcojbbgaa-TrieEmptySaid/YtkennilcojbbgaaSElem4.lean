/- Element functions of the codec that writes. -/
import Derived.Test.YtkennilcojbbgaaSElem3
namespace Go.Proofs.Ytkennilcojbbgaa
open Go.RowKit

section
variable {C K Y X B : Nat} {w : World} {s : WS} {b o : Nat}
theorem adds_schema : Adds (eSchema wayP) 20366 := fun x s => by
  have a0 := adds_num 2 x.maxBatch (s)
  have a1 := adds_num 2 x.budget (wNum 2 x.maxBatch (s))
  have a2 := adds_list adds_field 32 x.fields (wNum 2 x.budget (wNum 2 x.maxBatch (s)))
  have a3 := adds_list adds_header 8 x.headers (pList 32 (eField wayP) x.fields (wNum 2 x.budget (wNum 2 x.maxBatch (s))))
  have a4 := adds_list adds_state 12 x.states (pList 8 (eHeader wayP) x.headers (pList 32 (eField wayP) x.fields (wNum 2 x.budget (wNum 2 x.maxBatch (s)))))
  have a5 := adds_list adds_action 12 x.actions (pList 12 (eState wayP) x.states (pList 8 (eHeader wayP) x.headers (pList 32 (eField wayP) x.fields (wNum 2 x.budget (wNum 2 x.maxBatch (s))))))
  have a6 := adds_list adds_table 8 x.tables (pList 12 (eAction wayP) x.actions (pList 12 (eState wayP) x.states (pList 8 (eHeader wayP) x.headers (pList 32 (eField wayP) x.fields (wNum 2 x.budget (wNum 2 x.maxBatch (s)))))))
  have a7 := adds_list adds_stage 12 x.stages (pList 8 (eTable wayP) x.tables (pList 12 (eAction wayP) x.actions (pList 12 (eState wayP) x.states (pList 8 (eHeader wayP) x.headers (pList 32 (eField wayP) x.fields (wNum 2 x.budget (wNum 2 x.maxBatch (s))))))))
  have a8 := adds_list adds_role 6 x.roles (pList 12 eStage x.stages (pList 8 (eTable wayP) x.tables (pList 12 (eAction wayP) x.actions (pList 12 (eState wayP) x.states (pList 8 (eHeader wayP) x.headers (pList 32 (eField wayP) x.fields (wNum 2 x.budget (wNum 2 x.maxBatch (s)))))))))
  have a9 := adds_list adds_ref 8 x.refs (pList 6 (eRole wayP) x.roles (pList 12 eStage x.stages (pList 8 (eTable wayP) x.tables (pList 12 (eAction wayP) x.actions (pList 12 (eState wayP) x.states (pList 8 (eHeader wayP) x.headers (pList 32 (eField wayP) x.fields (wNum 2 x.budget (wNum 2 x.maxBatch (s))))))))))
  show (pList 8 eRef x.refs (pList 6 (eRole wayP) x.roles (pList 12 eStage x.stages (pList 8 (eTable wayP) x.tables (pList 12 (eAction wayP) x.actions (pList 12 (eState wayP) x.states (pList 8 (eHeader wayP) x.headers (pList 32 (eField wayP) x.fields (wNum 2 x.budget (wNum 2 x.maxBatch (s))))))))))).l.length ≤ _
  omega
end
end Go.Proofs.Ytkennilcojbbgaa
