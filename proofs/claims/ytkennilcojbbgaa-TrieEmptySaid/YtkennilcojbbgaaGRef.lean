/- The reference's indexes, prefixes and winners. -/
import Derived.Test.YtkennilcojbbgaaGIds
import Derived.Test.YtkennilcojbbgaaGWin
namespace Go.Proofs.Ytkennilcojbbgaa
open Go.RowKit

/-- A schema in memory: its slices. -/
structure SchM (w : World) (B : Nat) (s0 s1 s2 s3 s4 s5 s6 s7 : Value) (x : SchemaD) : Prop where
  f : RowV 3 FieldV B w s0 x.fields
  h : RowV 3 HeaderV B w s1 x.headers
  st : RowV 5 StateV B w s2 x.states
  a : RowV 5 ActionV B w s3 x.actions
  t : RowV 8 TableV B w s4 x.tables
  sg : RowV 2 StageV B w s5 x.stages
  r : RowV 6 RoleV B w s6 x.roles
  rf : RowV 6 RefV B w s7 x.refs
  len : x.fields.length ≤ 1000000 ∧ x.headers.length ≤ 1000000 ∧ x.states.length ≤ 1000000 ∧ x.actions.length ≤ 1000000 ∧ x.tables.length ≤ 1000000 ∧ x.roles.length ≤ 1000000
theorem SchM.below {w w' : World} {B : Nat} {s0 s1 s2 s3 s4 s5 s6 s7 : Value} {x : SchemaD} (h : SchM w B s0 s1 s2 s3 s4 s5 s6 s7 x) (hb : Below B w w') : SchM w' B s0 s1 s2 s3 s4 s5 s6 s7 x := ⟨h.f.below kept_field hb, h.h.below kept_header hb, h.st.below kept_state hb, h.a.below kept_action hb, h.t.below kept_table hb, h.sg.below kept_stage hb, h.r.below kept_role hb, h.rf.below kept_ref hb, h.len⟩
end Go.Proofs.Ytkennilcojbbgaa
