/- The parts of structs. -/
import Derived.Test.YtljmiickhkkceaaJSWr
namespace Go.Proofs.Ytljmiickhkkceaa
open Go.RowKit

section
variable {C K Y X B : Nat} {w : World} {s : WS} {b o : Nat}
theorem Set3.part0 {α β : Type} {P : CellP α} {x : α} (h : Set3 P C K Y X B w s b o x) {Q : CellP β} {y : β} (hp : ∀ cs, P C w cs x → ∃ pre c post, cs = pre ++ c ++ post ∧ pre.length = 0 ∧ Q C w c y) : Set3 Q C K Y X B w s b o y :=
  h.part 0 hp
theorem part_field_id {x : FieldD} (h : Set3 FieldV C K Y X B w s b o x) : Set3 IntV C K Y X B w s b o x.id :=
  h.part0 fun cs hp => by
    refine ⟨List.take 0 cs, List.take 1 (List.drop 0 cs), List.drop 1 cs, ?_⟩
    obtain ⟨rfl, q_id, _, _⟩ := hp
    exact ⟨rfl, rfl, ⟨rfl, q_id⟩⟩
theorem part_field_name {x : FieldD} (h : Set3 FieldV C K Y X B w s b o x) : Set3 TxtV C K Y X B w s b (o + 1) x.name :=
  h.part 1 fun cs hp => by
    refine ⟨List.take 1 cs, List.take 1 (List.drop 1 cs), List.drop 2 cs, ?_⟩
    obtain ⟨rfl, _, q_name, _⟩ := hp
    exact ⟨rfl, rfl, ⟨rfl, q_name⟩⟩
theorem part_field_bits {x : FieldD} (h : Set3 FieldV C K Y X B w s b o x) : Set3 IntV C K Y X B w s b (o + 2) x.bits :=
  h.part 2 fun cs hp => by
    refine ⟨List.take 2 cs, List.take 1 (List.drop 2 cs), List.drop 3 cs, ?_⟩
    obtain ⟨rfl, _, _, q_bits⟩ := hp
    exact ⟨rfl, rfl, ⟨rfl, q_bits⟩⟩
theorem part_header_id {x : HeaderD} (h : Set3 HeaderV C K Y X B w s b o x) : Set3 IntV C K Y X B w s b o x.id :=
  h.part0 fun cs hp => by
    refine ⟨List.take 0 cs, List.take 1 (List.drop 0 cs), List.drop 1 cs, ?_⟩
    obtain ⟨v, rfl, q_id, _, _⟩ := hp
    exact ⟨rfl, rfl, ⟨rfl, q_id⟩⟩
theorem part_header_name {x : HeaderD} (h : Set3 HeaderV C K Y X B w s b o x) : Set3 TxtV C K Y X B w s b (o + 1) x.name :=
  h.part 1 fun cs hp => by
    refine ⟨List.take 1 cs, List.take 1 (List.drop 1 cs), List.drop 2 cs, ?_⟩
    obtain ⟨v, rfl, _, q_name, _⟩ := hp
    exact ⟨rfl, rfl, ⟨rfl, q_name⟩⟩
theorem part_header_fields {x : HeaderD} (h : Set3 HeaderV C K Y X B w s b o x) : Set3 (SlV 1 IntV) C K Y X B w s b (o + 2) x.fields :=
  h.part 2 fun cs hp => by
    refine ⟨List.take 2 cs, List.take 1 (List.drop 2 cs), List.drop 3 cs, ?_⟩
    obtain ⟨v, rfl, _, _, q_fields⟩ := hp
    exact ⟨rfl, rfl, ⟨v, rfl, q_fields⟩⟩
theorem part_case_val {x : CaseD} (h : Set3 CaseV C K Y X B w s b o x) : Set3 ValV C K Y X B w s b o x.val :=
  h.part0 fun cs hp => by
    refine ⟨List.take 0 cs, List.take 2 (List.drop 0 cs), List.drop 2 cs, ?_⟩
    obtain ⟨rfl, q_val, _, _⟩ := hp
    exact ⟨rfl, rfl, ⟨rfl, q_val⟩⟩
theorem part_case_mask {x : CaseD} (h : Set3 CaseV C K Y X B w s b o x) : Set3 ValV C K Y X B w s b (o + 2) x.mask :=
  h.part 2 fun cs hp => by
    refine ⟨List.take 2 cs, List.take 2 (List.drop 2 cs), List.drop 4 cs, ?_⟩
    obtain ⟨rfl, _, q_mask, _⟩ := hp
    exact ⟨rfl, rfl, ⟨rfl, q_mask⟩⟩
theorem part_case_next {x : CaseD} (h : Set3 CaseV C K Y X B w s b o x) : Set3 IntV C K Y X B w s b (o + 4) x.next :=
  h.part 4 fun cs hp => by
    refine ⟨List.take 4 cs, List.take 1 (List.drop 4 cs), List.drop 5 cs, ?_⟩
    obtain ⟨rfl, _, _, q_next⟩ := hp
    exact ⟨rfl, rfl, ⟨rfl, q_next⟩⟩
theorem part_state_id {x : StateD} (h : Set3 StateV C K Y X B w s b o x) : Set3 IntV C K Y X B w s b o x.id :=
  h.part0 fun cs hp => by
    refine ⟨List.take 0 cs, List.take 1 (List.drop 0 cs), List.drop 1 cs, ?_⟩
    obtain ⟨v, rfl, q_id, _, _, _, _⟩ := hp
    exact ⟨rfl, rfl, ⟨rfl, q_id⟩⟩
theorem part_state_header {x : StateD} (h : Set3 StateV C K Y X B w s b o x) : Set3 IntV C K Y X B w s b (o + 1) x.header :=
  h.part 1 fun cs hp => by
    refine ⟨List.take 1 cs, List.take 1 (List.drop 1 cs), List.drop 2 cs, ?_⟩
    obtain ⟨v, rfl, _, q_header, _, _, _⟩ := hp
    exact ⟨rfl, rfl, ⟨rfl, q_header⟩⟩
theorem part_state_select {x : StateD} (h : Set3 StateV C K Y X B w s b o x) : Set3 IntV C K Y X B w s b (o + 2) x.select :=
  h.part 2 fun cs hp => by
    refine ⟨List.take 2 cs, List.take 1 (List.drop 2 cs), List.drop 3 cs, ?_⟩
    obtain ⟨v, rfl, _, _, q_select, _, _⟩ := hp
    exact ⟨rfl, rfl, ⟨rfl, q_select⟩⟩
theorem part_state_cases {x : StateD} (h : Set3 StateV C K Y X B w s b o x) : Set3 (SlV 5 CaseV) C K Y X B w s b (o + 3) x.cases :=
  h.part 3 fun cs hp => by
    refine ⟨List.take 3 cs, List.take 1 (List.drop 3 cs), List.drop 4 cs, ?_⟩
    obtain ⟨v, rfl, _, _, _, q_cases, _⟩ := hp
    exact ⟨rfl, rfl, ⟨v, rfl, q_cases⟩⟩
theorem part_state_dflt {x : StateD} (h : Set3 StateV C K Y X B w s b o x) : Set3 IntV C K Y X B w s b (o + 4) x.dflt :=
  h.part 4 fun cs hp => by
    refine ⟨List.take 4 cs, List.take 1 (List.drop 4 cs), List.drop 5 cs, ?_⟩
    obtain ⟨v, rfl, _, _, _, _, q_dflt⟩ := hp
    exact ⟨rfl, rfl, ⟨rfl, q_dflt⟩⟩
theorem part_param_name {x : ParamD} (h : Set3 ParamV C K Y X B w s b o x) : Set3 TxtV C K Y X B w s b o x.name :=
  h.part0 fun cs hp => by
    refine ⟨List.take 0 cs, List.take 1 (List.drop 0 cs), List.drop 1 cs, ?_⟩
    obtain ⟨rfl, q_name, _⟩ := hp
    exact ⟨rfl, rfl, ⟨rfl, q_name⟩⟩
theorem part_param_bits {x : ParamD} (h : Set3 ParamV C K Y X B w s b o x) : Set3 IntV C K Y X B w s b (o + 1) x.bits :=
  h.part 1 fun cs hp => by
    refine ⟨List.take 1 cs, List.take 1 (List.drop 1 cs), List.drop 2 cs, ?_⟩
    obtain ⟨rfl, _, q_bits⟩ := hp
    exact ⟨rfl, rfl, ⟨rfl, q_bits⟩⟩
theorem part_prim_op {x : PrimD} (h : Set3 PrimV C K Y X B w s b o x) : Set3 IntV C K Y X B w s b o x.op :=
  h.part0 fun cs hp => by
    refine ⟨List.take 0 cs, List.take 1 (List.drop 0 cs), List.drop 1 cs, ?_⟩
    obtain ⟨rfl, q_op, _, _, _, _⟩ := hp
    exact ⟨rfl, rfl, ⟨rfl, q_op⟩⟩
theorem part_prim_dst {x : PrimD} (h : Set3 PrimV C K Y X B w s b o x) : Set3 IntV C K Y X B w s b (o + 1) x.dst :=
  h.part 1 fun cs hp => by
    refine ⟨List.take 1 cs, List.take 1 (List.drop 1 cs), List.drop 2 cs, ?_⟩
    obtain ⟨rfl, _, q_dst, _, _, _⟩ := hp
    exact ⟨rfl, rfl, ⟨rfl, q_dst⟩⟩
theorem part_prim_kind {x : PrimD} (h : Set3 PrimV C K Y X B w s b o x) : Set3 IntV C K Y X B w s b (o + 2) x.kind :=
  h.part 2 fun cs hp => by
    refine ⟨List.take 2 cs, List.take 1 (List.drop 2 cs), List.drop 3 cs, ?_⟩
    obtain ⟨rfl, _, _, q_kind, _, _⟩ := hp
    exact ⟨rfl, rfl, ⟨rfl, q_kind⟩⟩
theorem part_prim_n {x : PrimD} (h : Set3 PrimV C K Y X B w s b o x) : Set3 IntV C K Y X B w s b (o + 3) x.n :=
  h.part 3 fun cs hp => by
    refine ⟨List.take 3 cs, List.take 1 (List.drop 3 cs), List.drop 4 cs, ?_⟩
    obtain ⟨rfl, _, _, _, q_n, _⟩ := hp
    exact ⟨rfl, rfl, ⟨rfl, q_n⟩⟩
theorem part_prim_val {x : PrimD} (h : Set3 PrimV C K Y X B w s b o x) : Set3 ValV C K Y X B w s b (o + 4) x.val :=
  h.part 4 fun cs hp => by
    refine ⟨List.take 4 cs, List.take 2 (List.drop 4 cs), List.drop 6 cs, ?_⟩
    obtain ⟨rfl, _, _, _, _, q_val⟩ := hp
    exact ⟨rfl, rfl, ⟨rfl, q_val⟩⟩
theorem part_action_id {x : ActionD} (h : Set3 ActionV C K Y X B w s b o x) : Set3 IntV C K Y X B w s b o x.id :=
  h.part0 fun cs hp => by
    refine ⟨List.take 0 cs, List.take 1 (List.drop 0 cs), List.drop 1 cs, ?_⟩
    obtain ⟨v, u, rfl, q_id, _, _, _, _⟩ := hp
    exact ⟨rfl, rfl, ⟨rfl, q_id⟩⟩
theorem part_action_name {x : ActionD} (h : Set3 ActionV C K Y X B w s b o x) : Set3 TxtV C K Y X B w s b (o + 1) x.name :=
  h.part 1 fun cs hp => by
    refine ⟨List.take 1 cs, List.take 1 (List.drop 1 cs), List.drop 2 cs, ?_⟩
    obtain ⟨v, u, rfl, _, q_name, _, _, _⟩ := hp
    exact ⟨rfl, rfl, ⟨rfl, q_name⟩⟩
theorem part_action_params {x : ActionD} (h : Set3 ActionV C K Y X B w s b o x) : Set3 (SlV 2 ParamV) C K Y X B w s b (o + 2) x.params :=
  h.part 2 fun cs hp => by
    refine ⟨List.take 2 cs, List.take 1 (List.drop 2 cs), List.drop 3 cs, ?_⟩
    obtain ⟨v, u, rfl, _, _, q_params, _, _⟩ := hp
    exact ⟨rfl, rfl, ⟨v, rfl, q_params⟩⟩
theorem part_action_body {x : ActionD} (h : Set3 ActionV C K Y X B w s b o x) : Set3 (SlV 6 PrimV) C K Y X B w s b (o + 3) x.body :=
  h.part 3 fun cs hp => by
    refine ⟨List.take 3 cs, List.take 1 (List.drop 3 cs), List.drop 4 cs, ?_⟩
    obtain ⟨v, u, rfl, _, _, _, q_body, _⟩ := hp
    exact ⟨rfl, rfl, ⟨u, rfl, q_body⟩⟩
theorem part_action_restr {x : ActionD} (h : Set3 ActionV C K Y X B w s b o x) : Set3 TxtV C K Y X B w s b (o + 4) x.restr :=
  h.part 4 fun cs hp => by
    refine ⟨List.take 4 cs, List.take 1 (List.drop 4 cs), List.drop 5 cs, ?_⟩
    obtain ⟨v, u, rfl, _, _, _, _, q_restr⟩ := hp
    exact ⟨rfl, rfl, ⟨rfl, q_restr⟩⟩
theorem part_key_name {x : KeyD} (h : Set3 KeyV C K Y X B w s b o x) : Set3 TxtV C K Y X B w s b o x.name :=
  h.part0 fun cs hp => by
    refine ⟨List.take 0 cs, List.take 1 (List.drop 0 cs), List.drop 1 cs, ?_⟩
    obtain ⟨rfl, q_name, _, _⟩ := hp
    exact ⟨rfl, rfl, ⟨rfl, q_name⟩⟩
theorem part_key_field {x : KeyD} (h : Set3 KeyV C K Y X B w s b o x) : Set3 IntV C K Y X B w s b (o + 1) x.field :=
  h.part 1 fun cs hp => by
    refine ⟨List.take 1 cs, List.take 1 (List.drop 1 cs), List.drop 2 cs, ?_⟩
    obtain ⟨rfl, _, q_field, _⟩ := hp
    exact ⟨rfl, rfl, ⟨rfl, q_field⟩⟩
theorem part_key_kind {x : KeyD} (h : Set3 KeyV C K Y X B w s b o x) : Set3 IntV C K Y X B w s b (o + 2) x.kind :=
  h.part 2 fun cs hp => by
    refine ⟨List.take 2 cs, List.take 1 (List.drop 2 cs), List.drop 3 cs, ?_⟩
    obtain ⟨rfl, _, _, q_kind⟩ := hp
    exact ⟨rfl, rfl, ⟨rfl, q_kind⟩⟩
theorem part_table_id {x : TableD} (h : Set3 TableV C K Y X B w s b o x) : Set3 IntV C K Y X B w s b o x.id :=
  h.part0 fun cs hp => by
    refine ⟨List.take 0 cs, List.take 1 (List.drop 0 cs), List.drop 1 cs, ?_⟩
    obtain ⟨v, u, t, rfl, q_id, _, _, _, _, _, _, _⟩ := hp
    exact ⟨rfl, rfl, ⟨rfl, q_id⟩⟩
theorem part_table_name {x : TableD} (h : Set3 TableV C K Y X B w s b o x) : Set3 TxtV C K Y X B w s b (o + 1) x.name :=
  h.part 1 fun cs hp => by
    refine ⟨List.take 1 cs, List.take 1 (List.drop 1 cs), List.drop 2 cs, ?_⟩
    obtain ⟨v, u, t, rfl, _, q_name, _, _, _, _, _, _⟩ := hp
    exact ⟨rfl, rfl, ⟨rfl, q_name⟩⟩
theorem part_table_keys {x : TableD} (h : Set3 TableV C K Y X B w s b o x) : Set3 (SlV 3 KeyV) C K Y X B w s b (o + 2) x.keys :=
  h.part 2 fun cs hp => by
    refine ⟨List.take 2 cs, List.take 1 (List.drop 2 cs), List.drop 3 cs, ?_⟩
    obtain ⟨v, u, t, rfl, _, _, q_keys, _, _, _, _, _⟩ := hp
    exact ⟨rfl, rfl, ⟨v, rfl, q_keys⟩⟩
theorem part_table_actions {x : TableD} (h : Set3 TableV C K Y X B w s b o x) : Set3 (SlV 1 IntV) C K Y X B w s b (o + 3) x.actions :=
  h.part 3 fun cs hp => by
    refine ⟨List.take 3 cs, List.take 1 (List.drop 3 cs), List.drop 4 cs, ?_⟩
    obtain ⟨v, u, t, rfl, _, _, _, q_actions, _, _, _, _⟩ := hp
    exact ⟨rfl, rfl, ⟨u, rfl, q_actions⟩⟩
theorem part_table_dflt {x : TableD} (h : Set3 TableV C K Y X B w s b o x) : Set3 IntV C K Y X B w s b (o + 4) x.dflt :=
  h.part 4 fun cs hp => by
    refine ⟨List.take 4 cs, List.take 1 (List.drop 4 cs), List.drop 5 cs, ?_⟩
    obtain ⟨v, u, t, rfl, _, _, _, _, q_dflt, _, _, _⟩ := hp
    exact ⟨rfl, rfl, ⟨rfl, q_dflt⟩⟩
theorem part_table_args {x : TableD} (h : Set3 TableV C K Y X B w s b o x) : Set3 (SlV 2 ValV) C K Y X B w s b (o + 5) x.args :=
  h.part 5 fun cs hp => by
    refine ⟨List.take 5 cs, List.take 1 (List.drop 5 cs), List.drop 6 cs, ?_⟩
    obtain ⟨v, u, t, rfl, _, _, _, _, _, q_args, _, _⟩ := hp
    exact ⟨rfl, rfl, ⟨t, rfl, q_args⟩⟩
theorem part_table_size {x : TableD} (h : Set3 TableV C K Y X B w s b o x) : Set3 IntV C K Y X B w s b (o + 6) x.size :=
  h.part 6 fun cs hp => by
    refine ⟨List.take 6 cs, List.take 1 (List.drop 6 cs), List.drop 7 cs, ?_⟩
    obtain ⟨v, u, t, rfl, _, _, _, _, _, _, q_size, _⟩ := hp
    exact ⟨rfl, rfl, ⟨rfl, q_size⟩⟩
theorem part_table_restr {x : TableD} (h : Set3 TableV C K Y X B w s b o x) : Set3 TxtV C K Y X B w s b (o + 7) x.restr :=
  h.part 7 fun cs hp => by
    refine ⟨List.take 7 cs, List.take 1 (List.drop 7 cs), List.drop 8 cs, ?_⟩
    obtain ⟨v, u, t, rfl, _, _, _, _, _, _, _, q_restr⟩ := hp
    exact ⟨rfl, rfl, ⟨rfl, q_restr⟩⟩
theorem part_stage_table {x : StageD} (h : Set3 StageV C K Y X B w s b o x) : Set3 IntV C K Y X B w s b o x.table :=
  h.part0 fun cs hp => by
    refine ⟨List.take 0 cs, List.take 1 (List.drop 0 cs), List.drop 1 cs, ?_⟩
    obtain ⟨rfl, q_table, _⟩ := hp
    exact ⟨rfl, rfl, ⟨rfl, q_table⟩⟩
theorem part_stage_header {x : StageD} (h : Set3 StageV C K Y X B w s b o x) : Set3 IntV C K Y X B w s b (o + 1) x.header :=
  h.part 1 fun cs hp => by
    refine ⟨List.take 1 cs, List.take 1 (List.drop 1 cs), List.drop 2 cs, ?_⟩
    obtain ⟨rfl, _, q_header⟩ := hp
    exact ⟨rfl, rfl, ⟨rfl, q_header⟩⟩
theorem part_grant_table {x : GrantD} (h : Set3 GrantV C K Y X B w s b o x) : Set3 IntV C K Y X B w s b o x.table :=
  h.part0 fun cs hp => by
    refine ⟨List.take 0 cs, List.take 1 (List.drop 0 cs), List.drop 1 cs, ?_⟩
    obtain ⟨v, rfl, q_table, _⟩ := hp
    exact ⟨rfl, rfl, ⟨rfl, q_table⟩⟩
theorem part_grant_read {x : GrantD} (h : Set3 GrantV C K Y X B w s b o x) : Set3 BoolV C K Y X B w s b (o + 1) x.read :=
  h.part 1 fun cs hp => by
    refine ⟨List.take 1 cs, List.take 1 (List.drop 1 cs), List.drop 2 cs, ?_⟩
    obtain ⟨v, rfl, _, _⟩ := hp
    exact ⟨rfl, rfl, rfl⟩
theorem part_grant_write {x : GrantD} (h : Set3 GrantV C K Y X B w s b o x) : Set3 BoolV C K Y X B w s b (o + 2) x.write :=
  h.part 2 fun cs hp => by
    refine ⟨List.take 2 cs, List.take 1 (List.drop 2 cs), List.drop 3 cs, ?_⟩
    obtain ⟨v, rfl, _, _⟩ := hp
    exact ⟨rfl, rfl, rfl⟩
theorem part_grant_keys {x : GrantD} (h : Set3 GrantV C K Y X B w s b o x) : Set3 (SlV 1 BoolV) C K Y X B w s b (o + 3) x.keys :=
  h.part 3 fun cs hp => by
    refine ⟨List.take 3 cs, List.take 1 (List.drop 3 cs), List.drop 4 cs, ?_⟩
    obtain ⟨v, rfl, _, q_keys⟩ := hp
    exact ⟨rfl, rfl, ⟨v, rfl, q_keys⟩⟩
theorem part_role_id {x : RoleD} (h : Set3 RoleV C K Y X B w s b o x) : Set3 IntV C K Y X B w s b o x.id :=
  h.part0 fun cs hp => by
    refine ⟨List.take 0 cs, List.take 1 (List.drop 0 cs), List.drop 1 cs, ?_⟩
    obtain ⟨v, u, rfl, q_id, _, _, _, _⟩ := hp
    exact ⟨rfl, rfl, ⟨rfl, q_id⟩⟩
theorem part_role_name {x : RoleD} (h : Set3 RoleV C K Y X B w s b o x) : Set3 TxtV C K Y X B w s b (o + 1) x.name :=
  h.part 1 fun cs hp => by
    refine ⟨List.take 1 cs, List.take 1 (List.drop 1 cs), List.drop 2 cs, ?_⟩
    obtain ⟨v, u, rfl, _, q_name, _, _, _⟩ := hp
    exact ⟨rfl, rfl, ⟨rfl, q_name⟩⟩
theorem part_role_grants {x : RoleD} (h : Set3 RoleV C K Y X B w s b o x) : Set3 (SlV 4 GrantV) C K Y X B w s b (o + 2) x.grants :=
  h.part 2 fun cs hp => by
    refine ⟨List.take 2 cs, List.take 1 (List.drop 2 cs), List.drop 3 cs, ?_⟩
    obtain ⟨v, u, rfl, _, _, q_grants, _, _⟩ := hp
    exact ⟨rfl, rfl, ⟨v, rfl, q_grants⟩⟩
theorem part_role_actions {x : RoleD} (h : Set3 RoleV C K Y X B w s b o x) : Set3 (SlV 1 IntV) C K Y X B w s b (o + 3) x.actions :=
  h.part 3 fun cs hp => by
    refine ⟨List.take 3 cs, List.take 1 (List.drop 3 cs), List.drop 4 cs, ?_⟩
    obtain ⟨v, u, rfl, _, _, _, q_actions, _⟩ := hp
    exact ⟨rfl, rfl, ⟨u, rfl, q_actions⟩⟩
theorem part_role_quota {x : RoleD} (h : Set3 RoleV C K Y X B w s b o x) : Set3 IntV C K Y X B w s b (o + 4) x.quota :=
  h.part 4 fun cs hp => by
    refine ⟨List.take 4 cs, List.take 1 (List.drop 4 cs), List.drop 5 cs, ?_⟩
    obtain ⟨v, u, rfl, _, _, _, _, q_quota⟩ := hp
    exact ⟨rfl, rfl, ⟨rfl, q_quota⟩⟩
theorem part_role_audit {x : RoleD} (h : Set3 RoleV C K Y X B w s b o x) : Set3 BoolV C K Y X B w s b (o + 5) x.audit :=
  h.part 5 fun cs hp => by
    refine ⟨List.take 5 cs, List.take 1 (List.drop 5 cs), List.drop 6 cs, ?_⟩
    obtain ⟨v, u, rfl, _, _, _, _, _⟩ := hp
    exact ⟨rfl, rfl, rfl⟩
theorem part_ref_table {x : RefD} (h : Set3 RefV C K Y X B w s b o x) : Set3 IntV C K Y X B w s b o x.table :=
  h.part0 fun cs hp => by
    refine ⟨List.take 0 cs, List.take 1 (List.drop 0 cs), List.drop 1 cs, ?_⟩
    obtain ⟨rfl, q_table, _, _, _, _, _⟩ := hp
    exact ⟨rfl, rfl, ⟨rfl, q_table⟩⟩
theorem part_ref_key {x : RefD} (h : Set3 RefV C K Y X B w s b o x) : Set3 IntV C K Y X B w s b (o + 1) x.key :=
  h.part 1 fun cs hp => by
    refine ⟨List.take 1 cs, List.take 1 (List.drop 1 cs), List.drop 2 cs, ?_⟩
    obtain ⟨rfl, _, q_key, _, _, _, _⟩ := hp
    exact ⟨rfl, rfl, ⟨rfl, q_key⟩⟩
theorem part_ref_action {x : RefD} (h : Set3 RefV C K Y X B w s b o x) : Set3 IntV C K Y X B w s b (o + 2) x.action :=
  h.part 2 fun cs hp => by
    refine ⟨List.take 2 cs, List.take 1 (List.drop 2 cs), List.drop 3 cs, ?_⟩
    obtain ⟨rfl, _, _, q_action, _, _, _⟩ := hp
    exact ⟨rfl, rfl, ⟨rfl, q_action⟩⟩
theorem part_ref_param {x : RefD} (h : Set3 RefV C K Y X B w s b o x) : Set3 IntV C K Y X B w s b (o + 3) x.param :=
  h.part 3 fun cs hp => by
    refine ⟨List.take 3 cs, List.take 1 (List.drop 3 cs), List.drop 4 cs, ?_⟩
    obtain ⟨rfl, _, _, _, q_param, _, _⟩ := hp
    exact ⟨rfl, rfl, ⟨rfl, q_param⟩⟩
theorem part_ref_toTable {x : RefD} (h : Set3 RefV C K Y X B w s b o x) : Set3 IntV C K Y X B w s b (o + 4) x.toTable :=
  h.part 4 fun cs hp => by
    refine ⟨List.take 4 cs, List.take 1 (List.drop 4 cs), List.drop 5 cs, ?_⟩
    obtain ⟨rfl, _, _, _, _, q_toTable, _⟩ := hp
    exact ⟨rfl, rfl, ⟨rfl, q_toTable⟩⟩
theorem part_ref_toKey {x : RefD} (h : Set3 RefV C K Y X B w s b o x) : Set3 IntV C K Y X B w s b (o + 5) x.toKey :=
  h.part 5 fun cs hp => by
    refine ⟨List.take 5 cs, List.take 1 (List.drop 5 cs), List.drop 6 cs, ?_⟩
    obtain ⟨rfl, _, _, _, _, _, q_toKey⟩ := hp
    exact ⟨rfl, rfl, ⟨rfl, q_toKey⟩⟩
theorem part_schema_maxBatch {x : SchemaD} (h : Set3 SchemaV C K Y X B w s b o x) : Set3 IntV C K Y X B w s b (o + 8) x.maxBatch :=
  h.part 8 fun cs hp => by
    refine ⟨List.take 8 cs, List.take 1 (List.drop 8 cs), List.drop 9 cs, ?_⟩
    obtain ⟨v0, v1, v2, v3, v4, v5, v6, v7, rfl, _, _, _, _, _, _, _, _, q_maxBatch, _⟩ := hp
    exact ⟨rfl, rfl, ⟨rfl, q_maxBatch⟩⟩
theorem part_schema_budget {x : SchemaD} (h : Set3 SchemaV C K Y X B w s b o x) : Set3 IntV C K Y X B w s b (o + 9) x.budget :=
  h.part 9 fun cs hp => by
    refine ⟨List.take 9 cs, List.take 1 (List.drop 9 cs), List.drop 10 cs, ?_⟩
    obtain ⟨v0, v1, v2, v3, v4, v5, v6, v7, rfl, _, _, _, _, _, _, _, _, _, q_budget⟩ := hp
    exact ⟨rfl, rfl, ⟨rfl, q_budget⟩⟩
theorem part_schema_fields {x : SchemaD} (h : Set3 SchemaV C K Y X B w s b o x) : Set3 (SlV 3 FieldV) C K Y X B w s b o x.fields :=
  h.part0 fun cs hp => by
    refine ⟨List.take 0 cs, List.take 1 (List.drop 0 cs), List.drop 1 cs, ?_⟩
    obtain ⟨v0, v1, v2, v3, v4, v5, v6, v7, rfl, q_fields, _, _, _, _, _, _, _, _, _⟩ := hp
    exact ⟨rfl, rfl, ⟨v0, rfl, q_fields⟩⟩
theorem part_schema_headers {x : SchemaD} (h : Set3 SchemaV C K Y X B w s b o x) : Set3 (SlV 3 HeaderV) C K Y X B w s b (o + 1) x.headers :=
  h.part 1 fun cs hp => by
    refine ⟨List.take 1 cs, List.take 1 (List.drop 1 cs), List.drop 2 cs, ?_⟩
    obtain ⟨v0, v1, v2, v3, v4, v5, v6, v7, rfl, _, q_headers, _, _, _, _, _, _, _, _⟩ := hp
    exact ⟨rfl, rfl, ⟨v1, rfl, q_headers⟩⟩
theorem part_schema_states {x : SchemaD} (h : Set3 SchemaV C K Y X B w s b o x) : Set3 (SlV 5 StateV) C K Y X B w s b (o + 2) x.states :=
  h.part 2 fun cs hp => by
    refine ⟨List.take 2 cs, List.take 1 (List.drop 2 cs), List.drop 3 cs, ?_⟩
    obtain ⟨v0, v1, v2, v3, v4, v5, v6, v7, rfl, _, _, q_states, _, _, _, _, _, _, _⟩ := hp
    exact ⟨rfl, rfl, ⟨v2, rfl, q_states⟩⟩
theorem part_schema_actions {x : SchemaD} (h : Set3 SchemaV C K Y X B w s b o x) : Set3 (SlV 5 ActionV) C K Y X B w s b (o + 3) x.actions :=
  h.part 3 fun cs hp => by
    refine ⟨List.take 3 cs, List.take 1 (List.drop 3 cs), List.drop 4 cs, ?_⟩
    obtain ⟨v0, v1, v2, v3, v4, v5, v6, v7, rfl, _, _, _, q_actions, _, _, _, _, _, _⟩ := hp
    exact ⟨rfl, rfl, ⟨v3, rfl, q_actions⟩⟩
theorem part_schema_tables {x : SchemaD} (h : Set3 SchemaV C K Y X B w s b o x) : Set3 (SlV 8 TableV) C K Y X B w s b (o + 4) x.tables :=
  h.part 4 fun cs hp => by
    refine ⟨List.take 4 cs, List.take 1 (List.drop 4 cs), List.drop 5 cs, ?_⟩
    obtain ⟨v0, v1, v2, v3, v4, v5, v6, v7, rfl, _, _, _, _, q_tables, _, _, _, _, _⟩ := hp
    exact ⟨rfl, rfl, ⟨v4, rfl, q_tables⟩⟩
theorem part_schema_stages {x : SchemaD} (h : Set3 SchemaV C K Y X B w s b o x) : Set3 (SlV 2 StageV) C K Y X B w s b (o + 5) x.stages :=
  h.part 5 fun cs hp => by
    refine ⟨List.take 5 cs, List.take 1 (List.drop 5 cs), List.drop 6 cs, ?_⟩
    obtain ⟨v0, v1, v2, v3, v4, v5, v6, v7, rfl, _, _, _, _, _, q_stages, _, _, _, _⟩ := hp
    exact ⟨rfl, rfl, ⟨v5, rfl, q_stages⟩⟩
theorem part_schema_roles {x : SchemaD} (h : Set3 SchemaV C K Y X B w s b o x) : Set3 (SlV 6 RoleV) C K Y X B w s b (o + 6) x.roles :=
  h.part 6 fun cs hp => by
    refine ⟨List.take 6 cs, List.take 1 (List.drop 6 cs), List.drop 7 cs, ?_⟩
    obtain ⟨v0, v1, v2, v3, v4, v5, v6, v7, rfl, _, _, _, _, _, _, q_roles, _, _, _⟩ := hp
    exact ⟨rfl, rfl, ⟨v6, rfl, q_roles⟩⟩
theorem part_schema_refs {x : SchemaD} (h : Set3 SchemaV C K Y X B w s b o x) : Set3 (SlV 6 RefV) C K Y X B w s b (o + 7) x.refs :=
  h.part 7 fun cs hp => by
    refine ⟨List.take 7 cs, List.take 1 (List.drop 7 cs), List.drop 8 cs, ?_⟩
    obtain ⟨v0, v1, v2, v3, v4, v5, v6, v7, rfl, _, _, _, _, _, _, _, q_refs, _, _⟩ := hp
    exact ⟨rfl, rfl, ⟨v7, rfl, q_refs⟩⟩
end
end Go.Proofs.Ytljmiickhkkceaa
