/- Element functions of the codec that writes. -/
import Derived.Test.YtljmiickhkkceaaSElem3
namespace Go.Proofs.Ytljmiickhkkceaa
open Go.RowKit

section
variable {C K Y X B : Nat} {w : World} {s : WS} {b o : Nat}
theorem adds_schema : Adds (eSchema wayP) 20366 := fun x s => by
  have a0 := adds_num 2 x.maxBatch (s)
  have a1 := adds_num 2 x.budget (wNum 2 x.maxBatch (s))
  have a2 := adds_list adds_field 32 x.fields (wNum 2 x.budget (wNum 2 x.maxBatch (s)))
  have a3 := adds_list adds_header 8 x.headers (pList 32 (eField wayP) x.fields (wNum 2 x.budget (wNum 2 x.maxBatch (s))))
  have a4 := adds_list adds_state 12 x.states (pList 8 (eHeader wayP) x.headers (pList 32 (eField wayP) x.fields (wNum 2 x.budget (wNum 2 x.maxBatch (s)))))
  have a5 := adds_list adds_action 12 x.actions (pList 12 (eState wayP) x.states (pList 8 (eHeader wayP) x.headers (pList 32 (eField wayP) x.fields (wNum 2 x.budget (wNum 2 x.maxBatch (s))))))
  have a6 := adds_list adds_table 8 x.tables (pList 12 (eAction wayP) x.actions (pList 12 (eState wayP) x.states (pList 8 (eHeader wayP) x.headers (pList 32 (eField wayP) x.fields (wNum 2 x.budget (wNum 2 x.maxBatch (s)))))))
  have a7 := adds_list adds_stage 12 x.stages (pList 8 (eTable wayP) x.tables (pList 12 (eAction wayP) x.actions (pList 12 (eState wayP) x.states (pList 8 (eHeader wayP) x.headers (pList 32 (eField wayP) x.fields (wNum 2 x.budget (wNum 2 x.maxBatch (s))))))))
  have a8 := adds_list adds_role 6 x.roles (pList 12 eStage x.stages (pList 8 (eTable wayP) x.tables (pList 12 (eAction wayP) x.actions (pList 12 (eState wayP) x.states (pList 8 (eHeader wayP) x.headers (pList 32 (eField wayP) x.fields (wNum 2 x.budget (wNum 2 x.maxBatch (s)))))))))
  have a9 := adds_list adds_ref 8 x.refs (pList 6 (eRole wayP) x.roles (pList 12 eStage x.stages (pList 8 (eTable wayP) x.tables (pList 12 (eAction wayP) x.actions (pList 12 (eState wayP) x.states (pList 8 (eHeader wayP) x.headers (pList 32 (eField wayP) x.fields (wNum 2 x.budget (wNum 2 x.maxBatch (s))))))))))
  show (pList 8 eRef x.refs (pList 6 (eRole wayP) x.roles (pList 12 eStage x.stages (pList 8 (eTable wayP) x.tables (pList 12 (eAction wayP) x.actions (pList 12 (eState wayP) x.states (pList 8 (eHeader wayP) x.headers (pList 32 (eField wayP) x.fields (wNum 2 x.budget (wNum 2 x.maxBatch (s))))))))))).l.length ≤ _
  omega
set_option maxRecDepth 100000 in
set_option maxHeartbeats 1000000 in
theorem eschema_any (x : SchemaD) (h : Set3 SchemaV C K Y X B w s b o x) (hl : s.l.length + 20366 ≤ 2000000) :
    Calls Try.prog 23 #[.pointer (some ⟨K, 0, none⟩), .pointer (some ⟨b, o, none⟩)] w (Wrote X B (eSchema wayP x s) w) := by
  have a0 := adds_num 2 x.maxBatch (s)
  have a1 := adds_num 2 x.budget (wNum 2 x.maxBatch (s))
  have a2 := adds_list adds_field 32 x.fields (wNum 2 x.budget (wNum 2 x.maxBatch (s)))
  have a3 := adds_list adds_header 8 x.headers (pList 32 (eField wayP) x.fields (wNum 2 x.budget (wNum 2 x.maxBatch (s))))
  have a4 := adds_list adds_state 12 x.states (pList 8 (eHeader wayP) x.headers (pList 32 (eField wayP) x.fields (wNum 2 x.budget (wNum 2 x.maxBatch (s)))))
  have a5 := adds_list adds_action 12 x.actions (pList 12 (eState wayP) x.states (pList 8 (eHeader wayP) x.headers (pList 32 (eField wayP) x.fields (wNum 2 x.budget (wNum 2 x.maxBatch (s))))))
  have a6 := adds_list adds_table 8 x.tables (pList 12 (eAction wayP) x.actions (pList 12 (eState wayP) x.states (pList 8 (eHeader wayP) x.headers (pList 32 (eField wayP) x.fields (wNum 2 x.budget (wNum 2 x.maxBatch (s)))))))
  have a7 := adds_list adds_stage 12 x.stages (pList 8 (eTable wayP) x.tables (pList 12 (eAction wayP) x.actions (pList 12 (eState wayP) x.states (pList 8 (eHeader wayP) x.headers (pList 32 (eField wayP) x.fields (wNum 2 x.budget (wNum 2 x.maxBatch (s))))))))
  have a8 := adds_list adds_role 6 x.roles (pList 12 eStage x.stages (pList 8 (eTable wayP) x.tables (pList 12 (eAction wayP) x.actions (pList 12 (eState wayP) x.states (pList 8 (eHeader wayP) x.headers (pList 32 (eField wayP) x.fields (wNum 2 x.budget (wNum 2 x.maxBatch (s)))))))))
  have a9 := adds_list adds_ref 8 x.refs (pList 6 (eRole wayP) x.roles (pList 12 eStage x.stages (pList 8 (eTable wayP) x.tables (pList 12 (eAction wayP) x.actions (pList 12 (eState wayP) x.states (pList 8 (eHeader wayP) x.headers (pList 32 (eField wayP) x.fields (wNum 2 x.budget (wNum 2 x.maxBatch (s))))))))))
  have L1 := Lib.hid (show (wNum 2 x.maxBatch (s)).l.length + 20364 ≤ 2000000 from by omega)
  have L2 := Lib.hid (show (wNum 2 x.budget (wNum 2 x.maxBatch (s))).l.length + 20362 ≤ 2000000 from by omega)
  have L3 := Lib.hid (show (pList 32 (eField wayP) x.fields (wNum 2 x.budget (wNum 2 x.maxBatch (s)))).l.length + 19432 ≤ 2000000 from by omega)
  have L4 := Lib.hid (show (pList 8 (eHeader wayP) x.headers (pList 32 (eField wayP) x.fields (wNum 2 x.budget (wNum 2 x.maxBatch (s))))).l.length + 18678 ≤ 2000000 from by omega)
  have L5 := Lib.hid (show (pList 12 (eState wayP) x.states (pList 8 (eHeader wayP) x.headers (pList 32 (eField wayP) x.fields (wNum 2 x.budget (wNum 2 x.maxBatch (s)))))).l.length + 15964 ≤ 2000000 from by omega)
  have L6 := Lib.hid (show (pList 12 (eAction wayP) x.actions (pList 12 (eState wayP) x.states (pList 8 (eHeader wayP) x.headers (pList 32 (eField wayP) x.fields (wNum 2 x.budget (wNum 2 x.maxBatch (s))))))).l.length + 6146 ≤ 2000000 from by omega)
  have L7 := Lib.hid (show (pList 8 (eTable wayP) x.tables (pList 12 (eAction wayP) x.actions (pList 12 (eState wayP) x.states (pList 8 (eHeader wayP) x.headers (pList 32 (eField wayP) x.fields (wNum 2 x.budget (wNum 2 x.maxBatch (s)))))))).l.length + 960 ≤ 2000000 from by omega)
  have L8 := Lib.hid (show (pList 12 eStage x.stages (pList 8 (eTable wayP) x.tables (pList 12 (eAction wayP) x.actions (pList 12 (eState wayP) x.states (pList 8 (eHeader wayP) x.headers (pList 32 (eField wayP) x.fields (wNum 2 x.budget (wNum 2 x.maxBatch (s))))))))).l.length + 910 ≤ 2000000 from by omega)
  have L9 := Lib.hid (show (pList 6 (eRole wayP) x.roles (pList 12 eStage x.stages (pList 8 (eTable wayP) x.tables (pList 12 (eAction wayP) x.actions (pList 12 (eState wayP) x.states (pList 8 (eHeader wayP) x.headers (pList 32 (eField wayP) x.fields (wNum 2 x.budget (wNum 2 x.maxBatch (s)))))))))).l.length + 74 ≤ 2000000 from by omega)
  have L10 := Lib.hid (show (pList 8 eRef x.refs (pList 6 (eRole wayP) x.roles (pList 12 eStage x.stages (pList 8 (eTable wayP) x.tables (pList 12 (eAction wayP) x.actions (pList 12 (eState wayP) x.states (pList 8 (eHeader wayP) x.headers (pList 32 (eField wayP) x.fields (wNum 2 x.budget (wNum 2 x.maxBatch (s))))))))))).l.length + 0 ≤ 2000000 from by omega)
  have L0 := Lib.hid hl
  have HS0 := Lib.hid h
  have HF0 := Lib.hid (Fr.refl X B w)
  clear h hl a0 a1 a2 a3 a4 a5 a6 a7 a8 a9
  go_enter Try.func23, Try.ntmps23
  go_wp2
  have kk := HS0.out.cod.k0
  go_still_tail 7, (by kernel_rfl)
  change wpList _ _ _ _ _ w.drew
  clear kk
  go_wp2_with (go_at_call 35; refine (cnum2_any x.maxBatch (part_schema_maxBatch (HS0.out.drew kept_schema))).mono ?_; rintro e w1 ⟨rfl, hv, hf⟩; have HS1 := Lib.hid ((HS0.out.drew kept_schema).next kept_schema hv hf (by have := L1.out; omega)); have HF1 := Lib.hid (HF0.out.drew.trans hf); clear hv hf)
  have kk := HS1.out.cod.k0
  go_still_tail 7, (by kernel_rfl)
  change wpList _ _ _ _ _ w1.drew
  clear kk
  go_wp2_with (first
    | (go_at_call 35; refine (cnum2_any x.budget (part_schema_budget (HS1.out.drew kept_schema))).mono ?_; rintro e w2 ⟨rfl, hv, hf⟩; have HS2 := Lib.hid ((HS1.out.drew kept_schema).next kept_schema hv hf (by have := L2.out; omega)); have HF2 := Lib.hid (HF1.out.drew.trans hf); clear hv hf)
    | (go_at_call 46; refine (lfield_any (eField wayP) 29 adds_field (fun _ _ _ _ x h hl => efield_any x h hl) x.fields 32 (by decide) (part_schema_fields HS2.out) (by have := L2.out; omega)).mono ?_; rintro e w3 ⟨rfl, hv, hf⟩; have HS3 := Lib.hid (HS2.out.next kept_schema hv hf (by have := L3.out; omega)); have HF3 := Lib.hid (HF2.out.trans hf); clear hv hf)
    | (go_at_call 48; refine (lheader_any (eHeader wayP) 94 adds_header (fun _ _ _ _ x h hl => eheader_any x h hl) x.headers 8 (by decide) (part_schema_headers HS3.out) (by have := L3.out; omega)).mono ?_; rintro e w4 ⟨rfl, hv, hf⟩; have HS4 := Lib.hid (HS3.out.next kept_schema hv hf (by have := L4.out; omega)); have HF4 := Lib.hid (HF3.out.trans hf); clear hv hf)
    | (go_at_call 50; refine (lstate_any (eState wayP) 226 adds_state (fun _ _ _ _ x h hl => estate_any x h hl) x.states 12 (by decide) (part_schema_states HS4.out) (by have := L4.out; omega)).mono ?_; rintro e w5 ⟨rfl, hv, hf⟩; have HS5 := Lib.hid (HS4.out.next kept_schema hv hf (by have := L5.out; omega)); have HF5 := Lib.hid (HF4.out.trans hf); clear hv hf)
    | (go_at_call 52; refine (laction_any (eAction wayP) 818 adds_action (fun _ _ _ _ x h hl => eaction_any x h hl) x.actions 12 (by decide) (part_schema_actions HS5.out) (by have := L5.out; omega)).mono ?_; rintro e w6 ⟨rfl, hv, hf⟩; have HS6 := Lib.hid (HS5.out.next kept_schema hv hf (by have := L6.out; omega)); have HF6 := Lib.hid (HF5.out.trans hf); clear hv hf)
    | (go_at_call 54; refine (ltable_any (eTable wayP) 648 adds_table (fun _ _ _ _ x h hl => etable_any x h hl) x.tables 8 (by decide) (part_schema_tables HS6.out) (by have := L6.out; omega)).mono ?_; rintro e w7 ⟨rfl, hv, hf⟩; have HS7 := Lib.hid (HS6.out.next kept_schema hv hf (by have := L7.out; omega)); have HF7 := Lib.hid (HF6.out.trans hf); clear hv hf)
    | (go_at_call 56; refine (lstage_any eStage 4 adds_stage (fun _ _ _ _ x h hl => estage_any x h hl) x.stages 12 (by decide) (part_schema_stages HS7.out) (by have := L7.out; omega)).mono ?_; rintro e w8 ⟨rfl, hv, hf⟩; have HS8 := Lib.hid (HS7.out.next kept_schema hv hf (by have := L8.out; omega)); have HF8 := Lib.hid (HF7.out.trans hf); clear hv hf)
    | (go_at_call 58; refine (lrole_any (eRole wayP) 139 adds_role (fun _ _ _ _ x h hl => erole_any x h hl) x.roles 6 (by decide) (part_schema_roles HS8.out) (by have := L8.out; omega)).mono ?_; rintro e w9 ⟨rfl, hv, hf⟩; have HS9 := Lib.hid (HS8.out.next kept_schema hv hf (by have := L9.out; omega)); have HF9 := Lib.hid (HF8.out.trans hf); clear hv hf)
    | (go_at_call 60; refine (lref_any eRef 9 adds_ref (fun _ _ _ _ x h hl => eref_any x h hl) x.refs 8 (by decide) (part_schema_refs HS9.out) (by have := L9.out; omega)).mono ?_; rintro e w10 ⟨rfl, hv, hf⟩; have HS10 := Lib.hid (HS9.out.next kept_schema hv hf (by have := L10.out; omega)); have HF10 := Lib.hid (HF9.out.trans hf); clear hv hf))
  go_end0
  exact ⟨rfl, HS10.out.wr, HF10.out⟩
end
end Go.Proofs.Ytljmiickhkkceaa
